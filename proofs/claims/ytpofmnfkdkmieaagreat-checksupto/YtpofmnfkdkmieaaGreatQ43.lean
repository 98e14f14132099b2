/- What is proved here: a list of one's own of what is taken for -/
import Derived.Test.YtpofmnfkdkmieaaGreatQ42
import Derived.Shelf.SlSortCmp.NoneTotal
import Derived.Maps.RangeRun
import Derived.Test.YtpofmnfkdkmieaaGreatQ14
import Derived.Test.YtpofmnfkdkmieaaGreatQ12
set_option linter.unusedVariables false
set_option linter.unusedSimpArgs false
namespace Go.Proofs.YtpofmnfkdkmieaaGreat
section
open Go Go.RowKit At E Go.Sort
theorem fn266:IsFn Tryz.prog 266:=⟨_,Tryz.func266,by kernel_rfl,by kernel_rfl⟩
theorem flatB:∀ (l:List Bl) (j k:Nat) (t:Bl) (u:Value),l[j]?=some t→(blV t)[k]?=some u→(l.flatMap blV)[j*2+k]?=some u
 | [],_,_,_,_,h,_=>by simp at h
 | t'::l,0,k,t,u,h,hk=>by
  cases h;show (blV t'++l.flatMap blV)[0*2+k]?=some u;rw [Nat.zero_mul,Nat.zero_add,List.getElem?_append_left (Wa hk)];exact hk
 | t'::l,j+1,k,t,u,h,hk=>by
  show (blV t'++l.flatMap blV)[(j+1)*2+k]?=some u;have hl:(blV t').length=2:=rfl;rw [List.getElem?_append_right (by omega),hl,show (j+1)*2+k - 2=j*2+k by omega];exact flatB l j k t u h hk
theorem flatK_at [Inhabited Bl] (d:Array Bl) (j:Nat) (h:j<d.size*2):(d.toList.flatMap blV)[j]?=some ((flatK blV 2 d)[j]!):=by
 rw [get_flatK blV 2 d j h];have hq:j/2<d.size:=by omega
 have e1:d.toList[j/2]?=some d[j/2]!:=by
  rw [Array.getElem?_toList,Array.getElem?_eq_getElem hq,getElem!_pos d (j/2) hq]
 have hr:j % 2<(blV d[j/2]!).length:=by show j % 2<2;omega
 have e2:(blV d[j/2]!)[j % 2]?=some (blV d[j/2]!)[j % 2]!:=by
  rw [List.getElem?_eq_getElem hr,getElem!_pos (blV d[j/2]!) (j % 2) hr]
 have:=flatB d.toList (j/2) (j % 2) _ _ e1 e2
 rwa [show j/2*2+j % 2=j by omega] at this
theorem Sat.turnB {w0 w w':World} {F:List Nat} {H:Hp} {R0:Asr} {v:Value} {l l':List Bl} {g:Nat} (hs:Sat w0 F H ((U2 v l).and R0) w) (hv:v.ownBlock=some g) (ho:w'.os=w.os∧w'.tape=w.tape∧w'.output=w.output) (hsz:w.heap.size≤w'.heap.size)
  (hne:∀ k,k<w.heap.size→k≠g→w'.heap[k]?=w.heap[k]?) (hA:(U2 v l').A w'):Sat w0 F H ((U2 v l').and R0) w':=by
 have hS:(U2 v l).S=[g]:=by show v.ownBlock.toList=[g];rw [hv];rfl
 have hS':(U2 v l').S=[g]:=by show v.ownBlock.toList=[g];rw [hv];rfl
 have hgS:g ∈ ((U2 v l).and R0).S:=List.mem_append_left _ (by rw [hS];exact List.mem_cons_self);refine ⟨⟨ho.1.trans hs.low.os,ho.2.1.trans hs.low.tape,ho.2.2.trans hs.low.output,Nat.le_trans hs.low.size hsz,fun k hk hF=>?_⟩,fun p hp=>?_,hs.hi,hs.apart,⟨hA,R0.st w w' hs.res.2.1 fun k hk=>?_,fun k hk hk2=>?_⟩,fun k hk=>?_,fun p hp hk=>?_⟩
 ·have hkg:k≠g:=fun e=>by
   subst e;rcases (hs.rhi k hgS).1 with h | h
   ·exact hF h
   ·omega
  rw [hne k (Nat.lt_of_lt_of_le hk hs.low.size) hkg];exact hs.low.block k hk hF
 ·rw [hne p.1 (hs.lt hp) (fun e=>hs.rapart p hp (e ▸ hgS))];exact hs.own p hp
 ·exact hne k (hs.rhi k (List.mem_append_right _ hk)).2 (fun e=>hs.res.2.2 g (by rw [hS];exact List.mem_cons_self) (e ▸ hk))
 ·rw [hS'] at hk;rw [List.mem_singleton.1 hk] at hk2;exact hs.res.2.2 g (by rw [hS];exact List.mem_cons_self) hk2
 ·rcases List.mem_append.1 hk with h | h
  ·rw [hS'] at h;rw [List.mem_singleton.1 h];exact ⟨(hs.rhi g hgS).1,Nat.lt_of_lt_of_le (hs.rhi g hgS).2 hsz⟩
  ·exact ⟨(hs.rhi k (List.mem_append_right _ h)).1,Nat.lt_of_lt_of_le (hs.rhi k (List.mem_append_right _ h)).2 hsz⟩
 ·rcases List.mem_append.1 hk with h | h
  ·rw [hS'] at h;exact hs.rapart p hp (by rw [List.mem_singleton.1 h];exact hgS)
  ·exact hs.rapart p hp (List.mem_append_right _ h)
theorem sorted_srt [Inhabited Bl] {d d':Array Bl} (hn:d.toList.Nodup) (hp:PermIn 0 d.size d d') (hs:SortedIn (ltOf cmpB) 0 d.size d'):d'.size=d.size∧d'.toList.Perm d.toList∧Srt d'.toList:=by
 obtain ⟨h1, -,h3⟩:=hp;have e1:(d'.extract 0 d.size).toList=d'.toList:=by rw [← h1];simp
 have e2:(d.extract 0 d.size).toList=d.toList:=by simp
 rw [e1,e2] at h3;refine ⟨h1,h3,?_⟩;have hn':d'.toList.Nodup:=h3.nodup_iff.2 hn;refine List.pairwise_iff_getElem.2 fun i j hi hj hij=>?_;have hi':i<d'.size:=by simpa using hi
 have hj':j<d'.size:=by simpa using hj
 have h4:=hs i j (Nat.zero_le _) hij (by omega);rw [cmpB_lt,getElem!_pos d' j hj',getElem!_pos d' i hi'] at h4;have h5:d'.toList[i]≠d'.toList[j]:=(List.pairwise_iff_getElem.1 hn') i j hi hj hij;simp only [Array.getElem_toList] at h5 ⊢;rcases ltB_tri d'[i] d'[j] with k | k | k
 ·exact k
 ·exact absurd k h5
 ·rw [h4] at k;cases k
theorem WL_sort {n:Nat} {E:Env} {w0:World} {F:List Nat} {H:Hp} {R:Asr} {fn:Func} {Z:Ending→World→Prop} {κ:List Kf} {all:Array Oper} {ops:List Oper} {d:Nat} {xs:List Operand} {ts:Array TypeId} {t:TypeId} {p:String} {e:Array Edge} {v:Value} {l:List Bl} (hd:Nat.blt d n=true) (hx:args E xs=some [v,.func (.func 166) #[] #[]]) (hl:l.length≤100000000000) (hn:l.Nodup)
  (h:∀ l',Srt l'→l'.Perm l→WL Tryz.prog n all ops ((d,.tuple #[])::E) w0 F H ((U2 v l').and R) fn Z κ) :
  WL Tryz.prog n all (⟨some d,.call ⟨.value (.func 266),xs.toArray,ts⟩,t,p,e,none⟩::ops) E w0 F H ((U2 v l).and R) fn Z κ :=
 ⟨fun w hs a ha=>wpList_plain rfl fun K hK=>by
  letI hI:Inhabited Bl:=⟨⟨At.mt,At.mt⟩⟩;unfold Oper.wp;rw [V8 rfl fn266,Ve ha xs _ hx];have hown:w.ownsRow 0 136 2 v l.length (l.flatMap blV):=hs.res.1;rcases hown.2 with ⟨hv,h0⟩ | ⟨g,cap,cur,hv, -,hg,hnc,hm,hcs,htk⟩
  ·subst hv;have hl0:l=[]:=List.eq_nil_of_length_eq_zero h0;subst hl0;refine Calls.mono (AnyF.slices_SortFunc_none sortBl none 0 _ w) ?_;rintro e w' ⟨rfl,rfl⟩;exact hK _ _ ((h [] List.Pairwise.nil (List.Perm.refl _)).go w' hs _ (ha.put hd _))
  ·subst hv
   have hgl:g<w.heap.size:=by
    rcases Nat.lt_or_ge g w.heap.size with h' | h'
    ·exact h'
    ·rw [Array.getElem?_eq_none h'] at hg;cases hg
   have hH:HoldsK blV 2 w g 0 l.toArray:=by
    intro j hj;rw [size_flatK] at hj;have hj':j<l.length*2:=by simpa using hj
    refine ⟨?_,?_⟩
    ·have h1:=flatK_at l.toArray j (by simpa using hj');rw [show l.toArray.toList=l from rfl,← htk,List.getElem?_take,if_pos hj'] at h1;show w.cell? ⟨g,0+j,none⟩=some _;rw [Nat.zero_add];simp only [World.cell?,hg]
     simpa using h1
    ·simp only [World.frozen?,hg];simp
   have eg:∀ args w,(callFunc 166 args).run Tryz.prog w=.ok (.enter 166 args) w:=enters_of Tryz.func166 (by kernel_rfl) rfl;have hcon:=AnyQ.slices_SortFunc sortBl 2 (fun w=>(tn (t:=136) rfl w).1) (fun w=>(tn (t:=136) rfl w).2) blV (fun _=>rfl) (fun x u hu=>by simp [blV] at hu;rcases hu with rfl | rfl<;>rfl) cmpB swoB 166 #[] g 0 cap l.toArray w eg (cmpLaysB g 0 l.toArray.size w hI) hH hgl (by simp;omega);refine Calls.mono hcon ?_;rintro e w' ⟨rfl,d',m,os,hp,hso,rfl⟩;obtain ⟨hz1,hz2,hz3⟩:=sorted_srt (d:=l.toArray) (by simpa using hn) hp hso;have hz0:d'.size=l.length:=by simpa using hz1
   have hz9:d'.toList.length=l.length:=(Array.length_toList (xs:=d')).trans hz0;refine hK _ _ ((h d'.toList hz3 (by simpa using hz2)).go (sortWorldK blV 2 w g 0 m d' os) (Sat.turnB (g:=g) (w':=sortWorldK blV 2 w g 0 m d' os) hs J ⟨J,J,J⟩ ?_ ?_ ?_) _ (ha.put hd _))
   ·show w.heap.size≤((Sort.putRow id (Sort.ahead w m) g 0 (flatK blV 2 d')).heap++os).size;rw [Array.size_append,size_putRow];exact Nat.le_add_right _ _
   ·intro k hk hkg;show ((Sort.putRow id (Sort.ahead w m) g 0 (flatK blV 2 d')).heap++os)[k]?=_;rw [Array.getElem?_append_left (by rw [size_putRow];exact hk)];show ((Sort.ahead w m).heap.modify g _)[k]?=_;rw [Array.getElem?_modify,if_neg (fun e=>hkg e.symm)];rfl
   ·refine ⟨by rw [blV_len],.inr ⟨g,cap,putCells id 0 (flatK blV 2 d') cur,by rw [hz9],Nat.zero_le _,?_,by rw [hz9];exact hnc,hm,by simp [putCells,hcs],?_⟩⟩
    ·show ((Sort.putRow id (Sort.ahead w m) g 0 (flatK blV 2 d')).heap++os)[g]?=_;rw [Array.getElem?_append_left (by rw [size_putRow];exact hgl)];show ((Sort.ahead w m).heap.modify g _)[g]?=_;rw [Array.getElem?_modify,if_pos rfl,show (Sort.ahead w m).heap=w.heap from rfl,hg];rfl
    ·apply List.ext_getElem?;intro j;rw [List.getElem?_take];by_cases hj:j<d'.size*2
     ·rw [if_pos (by simpa using hj),flatK_at d' j hj,Array.getElem?_toList];have hjc:j<cur.size:=by rw [hcs];omega
      simp [putCells,hjc,hj]
     ·rw [if_neg (by simpa using hj),List.getElem?_eq_none (by rw [blV_len,Array.length_toList];omega)]⟩
end
section
open Go Go.RowKit At E
structure MapF (arr:Array MapEntry) (clock:Nat) (es:List Bl):Prop where
 k:arr.toList.map (·.key)=es.map fun e=>Value.agg (blV e).toArray
 v:∀ x ∈ arr.toList,x.val=.agg #[]∧x.born<clock
 b:(arr.toList.map (·.born)).Nodup
 n:es.Nodup
def rngA (gb r:Nat) (arr:Array MapEntry) (clock:Nat) (seen:Array Nat):Asr:=⟨[gb,r],fun w=>w.heap[gb]?=some (.map arr clock)∧w.heap[r]?=some (.mapIter (some gb) clock seen clock),
 fun w w' h hk=>by rw [hk gb List.mem_cons_self,hk r (List.mem_cons_of_mem _ List.mem_cons_self)];exact h⟩
def mapX (gb:Nat) (arr:Array MapEntry) (clock:Nat):Asr:=⟨[gb],fun w=>w.heap[gb]?=some (.map arr clock),fun w w' h hk=>by rw [hk gb List.mem_cons_self];exact h⟩
theorem rng_x {gb r:Nat} {arr:Array MapEntry} {clock:Nat} {seen:Array Nat}:(rngA gb r arr clock seen).Imp (mapX gb arr clock) :=
 ⟨fun x hx=>by rw [List.mem_singleton.1 hx];exact List.mem_cons_self,fun w hw=>hw.1⟩
section
variable {n:Nat} {E:Env} {w0:World} {F:List Nat} {H:Hp} {R:Asr} {fn:Func} {Z:Ending→World→Prop} {κ:List Kf} {all:Array Oper} {l:List Oper} {d:Nat} {ty:TypeId} {p:String} {g:Array Edge}
set_option maxRecDepth 8000 in
theorem WL_range {x:Operand} {gb:Nat} {arr:Array MapEntry} {clock:Nat} (hd:Nat.blt d n=true) (hx:ev E x=some (.map (some gb)))
  (h:∀ r,WL Tryz.prog n all l ((d,pt r)::E) w0 F H ((rngA gb r arr clock #[]).and R) fn Z κ):WL Tryz.prog n all (⟨some d,.range 197 x,ty,p,g,none⟩::l) E w0 F H ((mapX gb arr clock).and R) fn Z κ :=
 ⟨fun w hs a ha=>wpList_plain rfl fun K hK=>by
  have hb:w.heap[gb]?=some (.map arr clock):=hs.res.1
  have hr:(execOp a.eval ⟨some d,.range 197 x,ty,p,g,none⟩).run Tryz.prog w=.ok (.value (.pointer (some ⟨w.heap.size,0,none⟩))) (w.alloc (.mapIter (some gb) clock #[] clock)):=by
   simp only [execOp];rw [ha.eval hx];simp [Instr.range,run_underlying umB,MapKept.run_getObj_map hb]
  unfold Oper.wp;rw [hr];refine hK _ _ ((h w.heap.size).go (w.alloc _) ?_ _ (ha.put hd _));have hbl:Below w.heap.size w (w.alloc (.mapIter (some gb) clock #[] clock)):=(Below.refl _ w).alloc (Nat.le_refl _) _;have hk2:=hs.keep hbl;have hgS:gb ∈ ((mapX gb arr clock).and R).S:=List.mem_append_left _ List.mem_cons_self;have hgl:=(hs.rhi gb hgS).2;refine ⟨hk2.low,hk2.own,hk2.hi,hk2.apart,⟨⟨by rw [hbl.block gb hgl];exact hb,heap_alloc_new w _⟩,hk2.res.2.1,fun k h1 h2=>?_⟩,fun k h1=>?_,fun q hq h1=>?_⟩
  ·rcases List.mem_cons.1 h1 with rfl | h1
   ·exact hs.res.2.2 k List.mem_cons_self h2
   ·have:=(hs.rhi k (List.mem_append_right _ h2)).2;rw [List.mem_singleton.1 h1] at this;omega
  ·rcases List.mem_append.1 h1 with h1 | h1
   ·rcases List.mem_cons.1 h1 with rfl | h1
    ·exact hk2.rhi k hgS
    ·rw [List.mem_singleton.1 h1];exact ⟨.inr hs.low.size,by rw [World.size_alloc];omega⟩
   ·exact hk2.rhi k (List.mem_append_right _ h1)
  ·rcases List.mem_append.1 h1 with h1 | h1
   ·rcases List.mem_cons.1 h1 with h1 | h1
    ·exact hs.rapart q hq (h1 ▸ hgS)
    ·have:=hs.lt hq;rw [List.mem_singleton.1 h1] at this;omega
   ·exact hs.rapart q hq (List.mem_append_right _ h1)⟩
theorem rng_step {w w1:World} {gb r:Nat} {arr:Array MapEntry} {clock:Nat} {seen seen':Array Nat} (hs:Sat w0 F H ((rngA gb r arr clock seen).and R) w) (hw:w1=w∨w1=w.drew):Sat w0 F H ((rngA gb r arr clock seen').and R) (ChangeMaps.setBlock w1 r (.mapIter (some gb) clock seen' clock)):=by
 have hrS:r ∈ ((rngA gb r arr clock seen).and R).S:=List.mem_append_left _ (List.mem_cons_of_mem _ List.mem_cons_self);have hrl:=(hs.rhi r hrS).2;have hh:w1.heap=w.heap∧w1.os=w.os∧w1.tape=w.tape∧w1.output=w.output:=by rcases hw with rfl | rfl<;>exact ⟨rfl,rfl,rfl,rfl⟩
 have hne:∀ k,k≠r→(ChangeMaps.setBlock w1 r (.mapIter (some gb) clock seen' clock)).heap[k]?=w.heap[k]?:=fun k hk=>by
  show (w1.heap.setIfInBounds r _)[k]?=_;rw [Array.getElem?_setIfInBounds_ne (fun e=>hk e.symm),hh.1]
 have hsz:(ChangeMaps.setBlock w1 r (.mapIter (some gb) clock seen' clock)).heap.size=w.heap.size:=by
  show (w1.heap.setIfInBounds r _).size=_;rw [Array.size_setIfInBounds,hh.1]
 have hgr:gb≠r:=fun e=>by
  have h1:=hs.res.1.1;have h2:=hs.res.1.2;rw [e] at h1;rw [h1] at h2;cases h2
 refine ⟨⟨hh.2.1.trans hs.low.os,hh.2.2.1.trans hs.low.tape,hh.2.2.2.trans hs.low.output,by rw [hsz];exact hs.low.size,fun k hk hF=>?_⟩,fun q hq=>?_,hs.hi,hs.apart,⟨⟨by rw [hne gb hgr];exact hs.res.1.1,?_⟩,R.st w _ hs.res.2.1 fun k hk=>hne k fun e=>hs.res.2.2 r (List.mem_cons_of_mem _ List.mem_cons_self) (e ▸ hk),hs.res.2.2⟩,fun k hk=>⟨(hs.rhi k hk).1,by rw [hsz];exact (hs.rhi k hk).2⟩,hs.rapart⟩
 ·have hkr:k≠r:=fun e=>by
   subst e;rcases (hs.rhi k hrS).1 with h | h
   ·exact hF h
   ·omega
  rw [hne k hkr];exact hs.low.block k hk hF
 ·rw [hne q.1 (fun e=>hs.rapart q hq (e ▸ hrS))];exact hs.own q hq
 ·show (w1.heap.setIfInBounds r _)[r]?=_;rw [Array.getElem?_setIfInBounds_self_of_lt (by rw [hh.1];exact hrl)]
theorem WL_nextM {x:Operand} {gb r clock:Nat} {arr:Array MapEntry} {seen:Array Nat} {es:List Bl} (hM:MapF arr clock es) (hd:Nat.blt d n=true) (hx:ev E x=some (pt r))
  (h0:(∀ e ∈ arr.toList,seen.contains e.born=true)→WL Tryz.prog n all l ((d,.tuple #[.bool false])::E) w0 F H ((rngA gb r arr clock seen).and R) fn Z κ)
  (h1:∀ e ∈ arr.toList,seen.contains e.born=false→WL Tryz.prog n all l ((d,.tuple #[.bool true,e.key,e.val])::E) w0 F H ((rngA gb r arr clock (seen.push e.born)).and R) fn Z κ) :
  WL Tryz.prog n all (⟨some d,.next x false,ty,p,g,none⟩::l) E w0 F H ((rngA gb r arr clock seen).and R) fn Z κ :=
 ⟨fun w hs a ha=>wpList_plain rfl fun K hK=>by
  unfold Oper.wp;simp only [execOp];rw [ha.eval hx];rcases run_next_at (P:=Tryz.prog) w ty r gb clock clock seen arr clock hs.res.1.2 hs.res.1.1 (fun e he=>(hM.v e he).2) (Nat.le_refl _) with ⟨hz,hr⟩ | ⟨e,he,w1,hw,hr⟩
  ·simp only [Sem.run_bind,hr,Result.andThen_ok];refine hK _ _ ((h0 fun e he=>?_).go w hs _ (ha.put hd _));have h9:leftOf arr seen=#[]:=Array.eq_empty_of_size_eq_zero hz;unfold leftOf at h9;rw [Array.filter_eq_empty_iff] at h9;have:=h9 e (by simpa using he)
   simpa using this
  ·simp only [Sem.run_bind,hr,Result.andThen_ok];unfold leftOf at he;simp only [Array.toList_filter,List.mem_filter] at he;exact hK _ _ ((h1 e he.1 (by simpa using he.2)).go _ (rng_step hs hw) _ (ha.put hd _))⟩
theorem Ex_entryM {x:Operand} {gb r clock:Nat} {arr:Array MapEntry} {seen:Array Nat} {es:List Bl} {e:MapEntry} (hM:MapF arr clock es) (he:e ∈ arr.toList) (hx:ev E x=some (pt r)):Ex Tryz.prog n E w0 F H ((rngA gb r arr clock (seen.push e.born)).and R) (.entry x) (.tuple #[e.key,e.val]):=⟨fun w hs a ha _ _ _ _ _=>by
 simp only [execOp];rw [ha.eval hx];simp [run_entry_at (P:=Tryz.prog) w r gb clock seen arr clock e hs.res.1.2 hs.res.1.1 he hM.b]⟩
end
theorem keys_any (v:Value) (hv:v.cells=#[v]) (w:World):FnP Tryz.prog 165 #[v] w (fun v' R'=>∃ bx,v'=.func (.func 267) #[] #[pt bx]∧R'.Imp (Pi bx [v])) False:=by
 refine Xf (args:=[v]) Tryz.func165 J Tryz.ntmps165 ?_;refine Zg (Zb (WL_boxV J J hv ?_));intro b1 hb1;refine Za J (Zf J) (Ze (Zc (Zg (Zb (Za J (Ex_cap J) (Za J (Zf J) (Lh (Ze (Zc (Zr (T0 (We J (X9 J)) ?_)))))))))));exact ⟨b1,J,Asr.snd _ _⟩
end
section
open Go Go.RowKit At E
structure KI (arr:Array MapEntry) (es:List Bl) (ps:List (Bl × MapEntry)):Prop where
 z:∀ p ∈ ps,p ∈ es.zip arr.toList
 n:(ps.map (·.1)).Nodup
def seenA (ps:List (Bl × MapEntry)):Array Nat:=(ps.map (·.2.born)).toArray
theorem seen_push (ps:List (Bl × MapEntry)) (p:Bl × MapEntry):(seenA ps).push p.2.born=seenA (ps++[p]):=by simp [seenA]
theorem seen_no {ps:List (Bl × MapEntry)} {n:Nat}:(seenA ps).contains n=false↔∀ q ∈ ps,q.2.born≠n:=by
 rw [Bool.eq_false_iff,ne_eq,Array.contains_iff_mem];simp only [seenA,List.mem_toArray,List.mem_map,not_exists,not_and]
section
variable {arr:Array MapEntry} {clock:Nat} {es:List Bl} {ps:List (Bl × MapEntry)} {p q:Bl × MapEntry}
theorem zip_at (h:p ∈ es.zip arr.toList):∃ i:Nat,es[i]?=some p.1∧arr.toList[i]?=some p.2:=by
 obtain ⟨i,hi⟩:=List.mem_iff_getElem?.1 h;rw [List.getElem?_zip_eq_some] at hi;exact ⟨i,hi⟩
theorem zip_mk {i:Nat} {b:Bl} {e:MapEntry} (h1:es[i]?=some b) (h2:arr.toList[i]?=some e):(b,e) ∈ es.zip arr.toList :=
 List.mem_iff_getElem?.2 ⟨i,List.getElem?_zip_eq_some.2 ⟨h1,h2⟩⟩
theorem zip_key (hM:MapF arr clock es) (h:p ∈ es.zip arr.toList):p.2.key=.agg (blV p.1).toArray:=by
 obtain ⟨i,h1,h2⟩:=zip_at h;have h3:(arr.toList.map (·.key))[i]?=some p.2.key:=by rw [List.getElem?_map,h2];rfl
 rw [hM.k,List.getElem?_map,h1] at h3;exact (Option.some.inj h3).symm
theorem zip_len (hM:MapF arr clock es):arr.toList.length=es.length:=by
 have:=congrArg List.length hM.k
 simpa using this
theorem zip_e (hM:MapF arr clock es) {e:MapEntry} (h:e ∈ arr.toList):∃ b,(b,e) ∈ es.zip arr.toList:=by
 obtain ⟨i,hi⟩:=List.mem_iff_getElem?.1 h;have hl:=Wa hi;rw [zip_len hM] at hl;exact ⟨es[i],zip_mk (List.getElem?_eq_getElem hl) hi⟩
theorem zip_b (hM:MapF arr clock es) {b:Bl} (h:b ∈ es):∃ e,(b,e) ∈ es.zip arr.toList:=by
 obtain ⟨i,hi⟩:=List.mem_iff_getElem?.1 h;have hl:=Wa hi;rw [← zip_len hM] at hl;exact ⟨arr.toList[i],zip_mk hi (List.getElem?_eq_getElem hl)⟩
theorem nodup_at {α:Type} {l:List α} (hn:l.Nodup) {i j:Nat} {x:α} (h1:l[i]?=some x) (h2:l[j]?=some x):i=j :=
 (List.getElem?_inj (Wa h1) hn).1 (h1.trans h2.symm)
theorem zip_one {i j:Nat} (hi:es[i]?=some p.1∧arr.toList[i]?=some p.2) (hj:es[j]?=some q.1∧arr.toList[j]?=some q.2) (e:i=j):p=q:=by
 subst e;obtain ⟨p1,p2⟩:=p;obtain ⟨q1,q2⟩:=q;have e1:=Option.some.inj (hi.1.symm.trans hj.1);have e2:=Option.some.inj (hi.2.symm.trans hj.2);dsimp only at e1 e2;subst e1;subst e2;rfl
theorem zip_born (hM:MapF arr clock es) (hp:p ∈ es.zip arr.toList) (hq:q ∈ es.zip arr.toList) (h:p.2.born=q.2.born):p=q:=by
 obtain ⟨i,hi⟩:=zip_at hp;obtain ⟨j,hj⟩:=zip_at hq;refine zip_one hi hj (nodup_at hM.b (x:=p.2.born) ?_ ?_)
 ·rw [List.getElem?_map,hi.2];rfl
 ·rw [List.getElem?_map,hj.2,h];rfl
theorem zip_bl (hM:MapF arr clock es) (hp:p ∈ es.zip arr.toList) (hq:q ∈ es.zip arr.toList) (h:p.1=q.1):p=q:=by
 obtain ⟨i,hi⟩:=zip_at hp;obtain ⟨j,hj⟩:=zip_at hq;exact zip_one hi hj (nodup_at hM.n (x:=p.1) hi.1 (by rw [hj.1,h]))
theorem KI.add (hM:MapF arr clock es) (h:KI arr es ps) (hp:p ∈ es.zip arr.toList) (hb:(seenA ps).contains p.2.born=false):KI arr es (ps++[p]):=by
 refine ⟨fun x hx=>?_,?_⟩
 ·rcases List.mem_append.1 hx with hx | hx
  ·exact h.z x hx
  ·rw [List.mem_singleton.1 hx];exact hp
 ·rw [List.map_append,List.nodup_append];refine ⟨h.n,by simp,fun x hx y hy=>?_⟩;obtain ⟨q,hq,rfl⟩:=List.mem_map.1 hx;have hy':y=p.1:=by simpa using hy
  subst hy';intro e;exact seen_no.1 hb q hq (by rw [zip_bl hM (h.z q hq) hp e])
theorem KI.len (hM:MapF arr clock es) (h:KI arr es ps):ps.length≤es.length:=by
 have:=@nodup_le Bl (fun _ _=>Classical.propDecidable _) (ps.map (·.1)) es h.n fun x hx=>by
  obtain ⟨q,hq,rfl⟩:=List.mem_map.1 hx;obtain ⟨i,hi, -⟩:=zip_at (h.z q hq);exact List.mem_of_getElem? hi
 simpa using this
theorem KI.all (hM:MapF arr clock es) (h:KI arr es ps) (hall:∀ e ∈ arr.toList,(seenA ps).contains e.born=true):∀ x,x ∈ ps.map (·.1)↔x ∈ es:=by
 intro x;constructor
 ·intro hx;obtain ⟨q,hq,rfl⟩:=List.mem_map.1 hx;obtain ⟨i,hi, -⟩:=zip_at (h.z q hq);exact List.mem_of_getElem? hi
 ·intro hx;obtain ⟨e,he⟩:=zip_b hM hx;obtain ⟨i, -,hi⟩:=zip_at he;have h1:=hall e (List.mem_of_getElem? hi)
  have h2:∃ q ∈ ps,q.2.born=e.born:=by
   rw [Array.contains_iff_mem] at h1
   simpa [seenA] using h1
  obtain ⟨q,hq,hqe⟩:=h2;exact List.mem_map.2 ⟨q,hq,by rw [zip_born hM (h.z q hq) he hqe]⟩
end
def RoundK (w1:World) (F:List Nat) (b2 L:Nat) (rc:Loop) (Rx:Asr) (l:List Bl) (b:Bl):Ending→World→Prop:=fun e w' =>
 ∃ v',e=.returned (.bool true)∧Sat w1 F [(b2,[v'])] (Rx.and ((Na L rc).and (U2 v' (l++[b])))) w'
def RoundsK (w1:World) (F:List Nat) (b2 L gb:Nat) (arr:Array MapEntry) (clock:Nat) (rc:Loop) (es:List Bl):Ending→World→Prop:=fun e w' =>
 ∃ val v l,e=.returned val∧Sat w1 F [(b2,[v])] ((mapX gb arr clock).and ((Na L rc).and (U2 v l))) w'∧l.Nodup∧∀ x,x ∈ l↔x ∈ es
structure KsV where
 v:Value
 ps:List (Bl × MapEntry)
theorem keysc_any {m:Nat} (w1:World) (L bx b2 gb:Nat) (arr:Array MapEntry) (clock:Nat) (rc:Loop) (es:List Bl) (hM:MapF arr clock es) (v0:Value) (F:List Nat) (hs0:Sat w1 F [(b2,[v0])] ((mapX gb arr clock).and ((Na L rc).and (U2 v0 []))) w1) (hbx:w1.cell? ⟨bx,0,none⟩=some (.map (some gb))) (hbF:bx ∉ F)
  (hY:∀ (Rx:Asr) (v:Value) (l:List Bl) (b:Bl),l.length<es.length→∀ w,Sat w1 F [(b2,[v])] (Rx.and ((Na L rc).and (U2 v l))) w→YieldAt (Wd none) (m - 1) Tryz.prog L #[.agg (blV b).toArray] w (RoundK w1 F b2 L rc Rx l b)) :
  CallsIn (Wd none) m Tryz.prog 267 [.func (.yield L) #[] #[],pt bx].toArray w1 (RoundsK w1 F b2 L gb arr clock rc es):=by
 refine opensR hs0 Tryz.func267 J Tryz.ntmps267 ?_;refine Oq (Uc Tryz.f267 (fun _ _=>False) J (fun _ h=>h) (fun _ _ _ _ h=>h.elim) ?_);refine Za J (Zj (t1 J) J (Vi hbx hbF)) (WL_range J J ?_);intro r;refine Ze (Om (RQ_rc ?_));refine Mm ?_;refine ⟨fun w hs a ha=>?_⟩;refine (RC_loop (X:=KsV) (fun _=>[(0,.func (.yield L) #[] #[]),(5,pt r)]) w1 F (fun y=>[(b2,[y.v])]) (fun y=>(rngA gb r arr clock (seenA y.ps)).and ((Na L rc).and (U2 y.v (y.ps.map (·.1))))) (fun y=>KI arr es y.ps) (fun y=>es.length - y.ps.length) ⟨v0,[]⟩ ⟨fun _ h=>(List.not_mem_nil h).elim,List.nodup_nil⟩ ?_).go w hs a (ha.sub ⟨J,J,trivial⟩);rintro ⟨v,ps⟩ hI;dsimp only at hI ⊢;refine Oq (Uc Tryz.f267 (fun _ _=>False) J (fun _ h=>h) (fun _ _ _ _ h=>h.elim) ?_);refine WL_nextM hM J J (fun hall=>?_) (fun e he hno=>?_)
 ·refine Za J (X3 J J) (Ze (Om (RQ_rc ?_)));refine Oq (RC_if J (fun hc=>by cases hc) (fun _=>?_));refine RC_exit ⟨fun w hs a ha=>?_⟩;have hfin:bodyPost Tryz.prog Tryz.f267 (RoundsK w1 F b2 L gb arr clock rc es) .normal a w:=⟨ha.no,.tuple #[],results_none rfl _ _ _,_,v,ps.map (·.1),rfl,hs.leads (Asr.Imp.left rng_x),hI.n,hI.all hM hall⟩;exact hfin
 ·obtain ⟨b,hz⟩:=zip_e hM he;have hk:e.key=.agg (blV b).toArray:=zip_key hM hz;have hI2:=hI.add hM hz hno;have hlen:=hI2.len hM;rw [List.length_append] at hlen;have hlen':ps.length+1≤es.length:=hlen;refine Za J (X3 J J) (Ze (Om (RQ_rc ?_)));refine Oq ?_;refine RC_if J (fun _=>?_) (fun hc=>by cases hc);refine RC_skip (RQ_rc (Mm (Oq (Uc Tryz.f267 (fun _ _=>False) J (fun _ h=>h) (fun _ _ _ _ h=>h.elim) ?_))));refine Za J (Ex_entryM hM he J) (Za (v:=.agg (blV b).toArray) J (X3 J (congrArg some hk)) (Yk J (tz J) ?_));intro b3 hb3;refine Z2 (tn J) J J 0 J J J J (Ze (Om (RQ_rc ?_)));refine Oq (RC_regionY (RL_op J J (Zd J) (RL_op (v:=.agg (blV b).toArray) J J (Yj (tn J) J (Yl 0 J) J) ?_)));refine RL_yield (vs:=[.agg (blV b).toArray]) J J J (RoundK w1 F b2 L rc (rngA gb r arr clock (seenA (ps++[(b,e)]))) (ps.map (·.1)) b) (fun w hs=>hY _ v _ b (by rw [List.length_map];exact hlen') w (by have:=hs.drop 1;rw [seen_push ps (b,e)] at this;exact this)) ?_ ?_ ?_
  ·rintro val w ⟨v',he',hs2⟩;cases he';refine ⟨_,_,hs2,?_⟩;refine RL_op J J (Xv J) (RL_nil (RQ_rc (RC_if J (fun hc=>by cases hc) (fun _=>?_))));refine RC_skip ?_;exact ⟨fun w hs a ha=>⟨⟨v',ps++[(b,e)]⟩,by show es.length - (ps++[(b,e)]).length<es.length - ps.length;rw [List.length_append];show es.length - (ps.length+1)<_;omega,hI2,by rw [List.map_append];exact hs,ha.sub ⟨J,J,trivial⟩⟩⟩
  ·rintro c a w hno2 ⟨_,he',_⟩;cases he'
  ·rintro w ⟨_,he',_⟩;cases he'
end
section
open Go Go.RowKit At E
theorem rx_own (A B C:Asr):(A.and (B.and C)).Imp (C.and (A.and B)):=(Asr.Imp.right (Asr.comm B C)).trans (Asr.swap A C B)
theorem own_rx (A B C:Asr):(C.and (A.and B)).Imp (A.and (B.and C)):=(Asr.swap C A B).trans (Asr.Imp.right (Asr.comm C B))
theorem appSeq_round {m:Nat} {w1:World} {b2:Nat} {v:Value} {l:List Bl} {b:Bl} {F:List Nat} {tmps:Array Value} {r:Loop} {L:Nat} {Rx:Asr} (hl:l.length≤100000000000)
  (ha:Ag 13 { tmps:=tmps,defers:=[] } [(2,pt b2)])
  (hr1:r.state=.ready) (hr2:r.pending=none) (hr3:r.fn=333) (hr4:r.tmps=tmps) (hr5:r.params=#[7])
  (hr:∃ c0 c1 c2,Tryz.f333.body=some (.seq c0 (.seq (.seq c1 (.block 0 (.rangeFunc (.tmp 6) #[7] r.assign r.body))) c2)))
  {w:World} (hs:Sat w1 F [(b2,[v])] (Rx.and ((Na L r).and (U2 v l))) w):YieldAt (Wd none) m Tryz.prog L #[.agg (blV b).toArray] w (RoundK w1 F b2 L r Rx l b):=by
 obtain ⟨st,pe,rf,rt,rp,ras,rbo,rde⟩:=r;dsimp only at hr1 hr2 hr3 hr4 hr5 hr;subst hr1;subst hr2;subst hr3;subst hr4;subst hr5;obtain ⟨c0,c1,c2,hr⟩:=hr;have hr':=Option.some.inj hr;injection hr' with _ hr'
 injection hr' with hr' _
 injection hr' with _ hr'
 injection hr' with _ hr'
 injection hr' with _ _ hA hB
 subst hA;subst hB;refine yield_at (hs.res.2.1.1) J (round_in Tryz.func333 ?_)
 have hag:Ag 13 { tmps:=(#[7].zip #[Value.agg (blV b).toArray]).foldl (fun tmps (t,a)=>tmps.setIfInBounds t a) rt,defers:=[] } [(7,.agg (blV b).toArray),(2,pt b2)]:=by
  have h9:=ha.put (d:=7) rfl (.agg (blV b).toArray)
  simpa [Act.put] using h9
 refine (Uc Tryz.f333 (fun _ _=>False) J (fun _ h=>h) (fun _ _ _ _ h=>h.elim) ?_).go w hs _ hag;refine Yk J (tz J) ?_;intro b5 hb5;refine Z2 (tn J) J J 0 J J J J (Zz (Asr.swap _ _ _) (Ze (Om (RQ_begin J ?_))));refine Mm (Uc Tryz.f333 (fun _ _=>False) J (fun _ h=>h) (fun _ _ _ _ h=>h.elim) ?_);refine Za J (Zj (t1 J) J (Zi 1 J J)) (Za (v:=.agg (blV b).toArray) J (Yj (tn J) J (Yl 0 J) J) (Wk (cs:=blV b) J (ts J) (tz J) J J J J (by kernel_rfl) ?_));intro b6 hb6;refine Zz (rx_own _ _ _) ?_;refine Ww J (ta J) J J (Yl 0 J) J J (by unfold maxLen;omega) (by omega) ?_;intro v';refine Xc (p:=∃ p n c,v'=.slice p n c) (fun w hs=>Xb hs.res.1) ?_;rintro ⟨p',n',c',rfl⟩;refine Zz (Asr.Imp.left (show (Y0 136 2 (.slice p' n' c') (l.length+1) (l.flatMap blV++blV b)).Imp (U2 (.slice p' n' c') (l++[b])) from by unfold U2;rw [List.length_append,List.flatMap_append];simp only [List.flatMap_cons,List.flatMap_nil,List.append_nil];exact .refl _)) ?_;refine Zz (own_rx _ _ _) (Yy (t1 J) J J 2 J J J J (Ze (Om ?_)));exact RQ_endR fun w hs=>⟨_,J,(hs.drop 2).leads (Asr.swap _ _ _)⟩
theorem fn267:IsFn Tryz.prog 267:=⟨_,Tryz.func267,by kernel_rfl,by kernel_rfl⟩
def okColl (es:List Bl) (v:Value) (R':Asr):Prop:=∃ l,R'.Imp (U2 v l)∧l.Nodup∧∀ x,x ∈ l↔x ∈ es
theorem sat_unf {w w':World} {H:Hp} {R:Asr} {gb:Nat} {arr:Array MapEntry} {clock:Nat} (hs:Sat w [gb] H ((mapX gb arr clock).and R) w') (hm:w.heap[gb]?=some (.map arr clock)):Sat w [] H R w':=by
 refine ⟨⟨hs.low.os,hs.low.tape,hs.low.output,hs.low.size,fun k hk _=>?_⟩,hs.own,fun p hp=>?_,hs.apart,hs.res.2.1,fun k hk=>⟨?_,(hs.rhi k (List.mem_append_right _ hk)).2⟩,fun p hp hk=>hs.rapart p hp (List.mem_append_right _ hk)⟩
 ·by_cases e:k=gb
  ·subst e;rw [hm];exact hs.res.1
  ·exact hs.low.block k hk (by simpa using e)
 ·rcases hs.hi p hp with h | h
  ·exact absurd (List.mem_append_left _ (by rw [List.mem_singleton.1 h];exact List.mem_cons_self)) (hs.rapart p hp)
  ·exact .inr h
 ·rcases (hs.rhi k (List.mem_append_right _ hk)).1 with h | h
  ·exact absurd hk (hs.res.2.2 k (by rw [List.mem_singleton.1 h];exact List.mem_cons_self))
  ·exact .inr h
theorem appSeq_rest {w w':World} {b2 D:Nat} {v:Value} {a3:Act} {Y:Ending→World→Prop} {c2:Code} (hr:∃ c0 c1,Tryz.f333.body=some (.seq c0 (.seq c1 c2))) (ha:Ag 13 { tmps:=a3.tmps,defers:=[] } [(2,pt b2)]) (hno:a3.defers=[])
  (hc:w'.cell? ⟨b2,0,none⟩=some v) (hD:w'.heap[D]?=some (.deferred (some []))) (hY:Y (.returned v) (w'.putObj D (.deferred none))) :
  onFn 333 Tryz.prog c2 (bodyPostM (Wd none) 0 Tryz.prog Tryz.f333 Y) { a3 with defers:={ target:=.collected D,args:=#[] }::a3.defers } w':=by
 obtain ⟨c0,c1,hr⟩:=hr;have hr':=Option.some.inj hr;injection hr' with _ hr'
 injection hr' with _ hr'
 subst hr';have h1:=(Zj (P:=Tryz.prog) (n:=13) (E:=[(2,pt b2)]) (w0:=w') (F:=[]) (H:=[]) (R:=Asr.none) (t:=47) (x:=.tmp 2) (t1 rfl) rfl (Z6 hc (World.block_lt_of_cell? w' _ hc))).go w' (Sat.first w' []) _ ha;have ha2:=ha.put (d:=12) rfl v;have h2:=(Zf (P:=Tryz.prog) (n:=13) (E:=[(12,v),(2,pt b2)]) (w0:=w') (F:=[]) (H:=[]) (R:=Asr.none) (x:=.tmp 12) rfl).go w' (Sat.first w' []) _ ha2;have ha3:=ha2.put (d:=4) rfl v;refine onFn_of (m:=0) (wpIn_seq (wpIn_region_lit ?_));refine wpListIn_plain J fun K hK=>?_;refine ⟨fun _ _=>trivial,?_⟩;rw [Oper.semAt_eq _ _ _ (noDef_ne rfl)];rw [show (execOp (Act.eval { a3 with defers:={ target:=.collected D,args:=#[] }::a3.defers }) _).run Tryz.prog w'=_ from h1 _ _ _ _ _];refine hK _ _ ?_;refine wpListIn_plain J fun K hK=>?_;refine ⟨fun _ _=>trivial,?_⟩;rw [Oper.semAt_eq _ _ _ (noDef_ne rfl)];rw [show (execOp (Act.eval (Act.put { a3 with defers:={ target:=.collected D,args:=#[] }::a3.defers } (some 12) v)) _).run Tryz.prog w'=_ from h2 _ _ _ _ _];refine hK _ _ ?_;refine wpIn_ret ?_
 have hleave:LeavesInM (Wd none) 0 Tryz.prog Tryz.f333 ((a3.tmps.setIfInBounds 12 v).setIfInBounds 4 v) Y ({ target:=.collected D,args:=#[] }::a3.defers) .returning w':=by
  rw [hno];refine ⟨by simp,.inl ⟨D,_,J,run_takeDeferred hD,?_⟩⟩;refine ⟨v,?_,hY⟩;rw [results_tmp rfl];exact congrArg (fun u=>Result.ok u _) (ha3.eval (x:=.tmp 4) J)
 exact hleave
theorem appSeq_call {w w3:World} {b2 bx gb:Nat} {arr:Array MapEntry} {clock:Nat} {es:List Bl} {a3:Act} {A B c2:Code} (hM:MapF arr clock es) (hlen:es.length≤100000000000) (hmap:w.heap[gb]?=some (.map arr clock)) (hbx0:w.cell? ⟨bx,0,none⟩=some (.map (some gb)))
  (hs3:Sat w [gb] [(b2,[Value.slice none 0 0])] (mapX gb arr clock) w3) (ha3:Ag 13 a3 [(2,pt b2)])
  (hr:∃ c0 c1,Tryz.f333.body=some (.seq c0 (.seq (.seq c1 (.block 0 (.rangeFunc (.tmp 6) #[7] A B))) c2))) :
  CallsIn (Wd none) 1 Tryz.prog 267 (#[.func (.yield (w3.heap.size+1)) #[] #[]]++#[pt bx]) (Sq w3 333 a3.tmps #[7] A B)
   (rangeQ Tryz.prog (w3.heap.size+1) (Exit.inBlock 0 (Exit.then (onFn 333 Tryz.prog c2 (bodyPostM (Wd none) 0 Tryz.prog Tryz.f333 (FnZ w (okColl es) False))) (bodyPostM (Wd none) 0 Tryz.prog Tryz.f333 (FnZ w (okColl es) False)))) { a3 with defers:={ target:=.collected w3.heap.size,args:=#[] }::a3.defers }):=by
 have hb2m:(b2,[Value.slice none 0 0]) ∈ [(b2,[Value.slice none 0 0])]:=List.mem_cons_self;have hb2lt:b2<w3.heap.size:=hs3.lt hb2m
 have hb2w:w.heap.size≤b2:=by
  rcases hs3.hi _ hb2m with h | h
  ·exact absurd (by rw [List.mem_singleton.1 h];exact List.mem_cons_self) (hs3.rapart _ hb2m)
  ·exact h
 have hww:w.heap.size≤w3.heap.size:=hs3.low.size;have hglt:gb<w3.heap.size:=(hs3.rhi gb List.mem_cons_self).2;have hbxlt:bx<w.heap.size:=World.block_lt_of_cell? w _ hbx0
 have hbxg:bx≠gb:=fun e=>by
  rw [e] at hbx0;simp [World.cell?,hmap] at hbx0
 have hnil:(mapX gb arr clock).Imp ((mapX gb arr clock).and (U2 (.slice none 0 0) [])):=⟨fun x hx=>by simpa [Asr.and,U2,Y0,Value.ownBlock] using hx,fun w hw=>⟨hw,World.ownsRow_nil w 0 136 2,fun k _ hk=>by simp [U2,Y0,Value.ownBlock] at hk⟩⟩;have hbase:=(loop_base (fn:=333) (tmps:=a3.tmps) (ps:=#[7]) (assign:=A) (body:=B) hs3 (i:=0) rfl hnil).leads (Asr.swap _ _ _);have hSeq:((mapX gb arr clock).and (U2 (.slice none 0 0) [])).S=[gb]:=rfl;rw [hSeq] at hbase
 have hD:w3.heap.size ∉ [w3.heap.size+1,b2,gb]:=by
  intro hy;simp only [List.mem_cons,List.not_mem_nil,or_false] at hy;omega
 have hbxF:bx ∉ [w3.heap.size+1,b2,gb]:=by
  intro hy;simp only [List.mem_cons,List.not_mem_nil,or_false] at hy;rcases hy with h | h | h
  ·omega
  ·omega
  ·exact hbxg h
 have hbx:(Sq w3 333 a3.tmps #[7] A B).cell? ⟨bx,0,none⟩=some (.map (some gb)):=by
  rw [World.cell?_of_block (loopW_old (show bx<w3.heap.size by omega))];exact hs3.old hbx0 (by simpa using hbxg)
 have hag:Ag 13 { tmps:=a3.tmps,defers:=[] } [(2,pt b2)]:=⟨ha3.room,rfl,ha3.has⟩;have hno:a3.defers=[]:=ha3.no;obtain ⟨c0,c1,hr⟩:=hr;refine CallsIn.mono (keysc_any (m:=1) _ (w3.heap.size+1) bx b2 gb arr clock _ es hM _ _ hbase hbx hbxF (fun Rx v l b hl w' hs'=>appSeq_round (by omega) hag J J J J J ⟨c0,c1,c2,hr⟩ hs')) ?_;rintro e w' ⟨val,v,l,rfl,hs',hnd,hmem⟩
 have hLF:∀ y ∈ [w3.heap.size+1,b2,gb],y ∈ [gb]∨w.heap.size≤y:=fun y hy=>by
  simp only [List.mem_cons,List.not_mem_nil,or_false] at hy ⊢;omega
 have hfr:E.Fr [gb] w w':=(hs3.low.trans (Fr.of_below loopW_below []) (fun y hy=>by cases hy)).trans hs'.low hLF
 have hDat:w'.heap[w3.heap.size]?=some (.deferred (some [])):=by
  rw [hs'.low.block w3.heap.size (by rw [Rn];omega) hD];exact loopW_def
 have s1:Sat w [gb] [(b2,[v])] ((mapX gb arr clock).and (U2 v l)) w':=Sat.rebase (hs'.leads (Asr.Imp.right (Asr.snd _ _))) hfr (by rw [Rn];omega) hLF
 have hLn:w3.heap.size+1 ∉ ((mapX gb arr clock).and (U2 v l)).S:=fun h=>by
  rcases List.mem_append.1 h with h | h
  ·have:w3.heap.size+1=gb:=by simpa [mapX] using h
   omega
  ·exact hs'.res.2.1.2.2 _ List.mem_cons_self h
 have hDn:w3.heap.size ∉ ((mapX gb arr clock).and (U2 v l)).S:=fun h=>by
  have h':w3.heap.size ∈ ((mapX gb arr clock).and ((Na (w3.heap.size+1) (loopR w3 333 a3.tmps #[7] A B)).and (U2 v l))).S:=by
   rcases List.mem_append.1 h with h | h
   ·exact List.mem_append_left _ h
   ·exact List.mem_append_right _ (List.mem_append_right _ h)
  rcases (hs'.rhi _ h').1 with h | h
  ·exact hD h
  ·rw [Rn] at h;omega
 have hH:∀ q ∈ [(b2,[v])],∀ y,w3.heap.size≤y→q.1≠y:=fun q hq y hy e=>by
  simp only [List.mem_singleton] at hq;subst hq;have:b2=y:=e;omega
 refine ⟨_,run_endLoop (hs'.res.2.1.1) (by simp [loopR]),?_⟩;have s2:=s1.putOther (.loop { loopR w3 333 a3.tmps #[7] A B with state:=.exhausted }) (fun q hq=>hH q hq _ (by omega)) hLn (.inr (by omega))
 have hd2:(w'.putObj (w3.heap.size+1) (.loop { loopR w3 333 a3.tmps #[7] A B with state:=.exhausted })).heap[w3.heap.size]?=some (.deferred (some [])):=by
  rw [World.putObj_heap_other (by omega)];exact hDat
 have s3:=s2.putOther (.deferred none) (b:=w3.heap.size) (fun q hq=>hH q hq _ (Nat.le_refl _)) hDn (.inr (by omega));exact appSeq_rest (w:=w) ⟨c0,_,hr⟩ hag hno (by rw [s2.mine List.mem_cons_self];rfl) hd2 (.inl ⟨v,U2 v l,rfl,⟨l,.refl _,hnd,hmem⟩,(sat_unf s3 hmap).drop 1⟩)
theorem appendSeq_any (gb bx:Nat) (arr:Array MapEntry) (clock:Nat) (es:List Bl) (w:World) (hM:MapF arr clock es) (hlen:es.length≤100000000000) (hmap:w.heap[gb]?=some (.map arr clock)) (hbx:w.cell? ⟨bx,0,none⟩=some (.map (some gb))) :
  FnP Tryz.prog 333 #[.slice none 0 0,.func (.func 267) #[] #[pt bx]] w (okColl es) False:=by
 have hs0:Sat w [gb] [] (mapX gb arr clock) w:=⟨Fr.refl _ _,by simp,by simp,by simp,hmap,fun k hk=>⟨.inl hk,by rw [List.mem_singleton.1 hk];exact Nz hmap⟩,by simp⟩;refine opensM (args:=[.slice none 0 0,.func (.func 267) #[] #[pt bx]]) hs0 Tryz.func333 J Tryz.ntmps333 fun a ha=>?_;refine onFn_seq (onFn_of (m:=0) ((Uc Tryz.f333 (fun _ _=>False) J (fun _ h=>h) (fun _ _ _ _ h=>h.elim) ?_).go w hs0 a ha));refine WL_boxV J J J ?_;intro b2 hb2;refine Za J (Zf J) (Ze ?_);refine Om ⟨fun w2 hs2 a2 ha2=>?_⟩;refine onFn_seq (onFn_seq (onFn_of (m:=0) ((Uc Tryz.f333 (fun _ _=>False) J (fun _ h=>h) (fun _ _ _ _ h=>h.elim) ?_).go w2 hs2 a2 ha2)));refine Za J (Zd J) (Ze ?_);refine Om ⟨fun w3 hs3 a3 ha3=>?_⟩;refine onFn_block (onFn_range (m:=1) fn267 (ha3.eval J) ?_);exact appSeq_call hM hlen hmap hbx hs3 (ha3.sub ⟨J,trivial⟩) ⟨_,_,J⟩
end
section
open Go Go.RowKit At E
theorem collect_any (gb bx:Nat) (arr:Array MapEntry) (clock:Nat) (es:List Bl) (w:World) (hM:MapF arr clock es) (hlen:es.length≤100000000000) (hmap:w.heap[gb]?=some (.map arr clock)) (hbx:w.cell? ⟨bx,0,none⟩=some (.map (some gb))) :
  FnP Tryz.prog 265 #[.func (.func 267) #[] #[pt bx]] w (okColl es) False:=by
 refine Xf (args:=[.func (.func 267) #[] #[pt bx]]) Tryz.func265 J Tryz.ntmps265 ?_;refine Zg (Zb (Za J (Zf J) (Ze (Zc (Zg (Zb (Za J (Zd J) ?_)))))));refine X8 fn333 J J (fun w' hs=>appendSeq_any gb bx arr clock es w' hM hlen (by rw [hs.low.below.block gb (Nz hmap)];exact hmap) (V4 hs.low.below hbx)) False.elim ?_;rintro v R1 ⟨l,hR,hnd,hmem⟩;refine Zz hR.left (Za J (Zf J) (Ze (Zc (Zr (T0 (We J (X9 J)) ?_)))));exact ⟨l,Asr.fst _ _,hnd,hmem⟩
theorem sorted_any (gb bx:Nat) (arr:Array MapEntry) (clock:Nat) (es:List Bl) (w:World) (hM:MapF arr clock es) (hlen:es.length≤100000000000) (hmap:w.heap[gb]?=some (.map arr clock)) (hbx:w.cell? ⟨bx,0,none⟩=some (.map (some gb))) :
  FnP Tryz.prog 164 #[.func (.func 267) #[] #[pt bx],.func (.func 166) #[] #[]] w (okOrd es) False:=by
 refine Xf (args:=[.func (.func 267) #[] #[pt bx],.func (.func 166) #[] #[]]) Tryz.func164 J Tryz.ntmps164 ?_;refine Zg (Zb (Za J (Zf J) (Ze (Zc (Zg (Zb (Za J (Zd J) ?_)))))));refine X8 fn265 J J (fun w' hs=>collect_any gb bx arr clock es w' hM hlen (by rw [hs.low.below.block gb (Nz hmap)];exact hmap) (V4 hs.low.below hbx)) False.elim ?_;rintro v R1 ⟨l,hR,hnd,hmem⟩;refine Zz hR.left (Za J (Zf J) (Ze (Zc (Zg (Zb (Za J (Zd J) (Za J (Zd J) ?_)))))));refine WL_sort J J (Nat.le_trans (@nodup_le Bl (fun _ _=>Classical.propDecidable _) l es hnd (fun x hx=>(hmem x).1 hx)) hlen) hnd ?_;intro l' hsr hpm;refine Ze (Zc (Zg (Zb (Za J (Zd J) (Za J (Zf J) (Ze (Zc (Zr (T0 (We J (X9 J)) ?_)))))))));exact ⟨l',Asr.fst _ _,hsr,fun x=>(hpm.mem_iff).trans (hmem x)⟩
theorem put_same:∀ (l:List Bl) (i:Nat) (b:Bl),l[i]?=some b→put (l.flatMap blV) (0+i*2) (blV b)=l.flatMap blV
 | [],_,_,h=>by simp at h
 | t::l,0,b,h=>by
  cases h;show put (blV t++l.flatMap blV) 0 (blV t)=_;simp [put,blV]
 | t::l,i+1,b,h=>by
  have ih:=put_same l i b h;unfold put at ih ⊢;have hl:(blV t).length=2:=rfl;have hb:(blV b).length=2:=rfl;show ((blV t++l.flatMap blV).take (0+(i+1)*2)++blV b++(blV t++l.flatMap blV).drop (0+(i+1)*2+(blV b).length))=blV t++l.flatMap blV;rw [hb] at ih ⊢;rw [show 0+(i+1)*2=(blV t).length+(0+i*2) by rw [hl];omega,List.take_length_add_append,show (blV t).length+(0+i*2)+2=(blV t).length+(0+i*2+2) by omega,List.drop_length_add_append,List.append_assoc,List.append_assoc,← List.append_assoc ((l.flatMap blV).take _),ih]
theorem bls_form {w:World} {v:Value} {l:List Bl} (h:(U2 v l).A w):∃ p c,v=.slice p l.length c∧(0<l.length→∃ g,p=some ⟨g,0,none⟩):=by
 rcases h.2 with ⟨hv,hn⟩ | ⟨g,cap,cur,hv,_⟩
 ·exact ⟨none,0,by rw [hv,hn],fun h=>by omega⟩
 ·exact ⟨_,cap,hv,fun _=>⟨g,J⟩⟩
theorem srt_nodup {l:List Bl} (h:Srt l):l.Nodup:=h.imp fun {a b} hab e=>by
 subst e;rw [Qs] at hab;cases hab
theorem ord_len {l gr:List Bl} (hg:gr.length≤100000000000) (hs:Srt l) (hm:∀ x,x ∈ l↔x ∈ gr):l.length≤100000000000 :=
 Nat.le_trans (@nodup_le Bl (fun _ _=>Classical.propDecidable _) l gr (srt_nodup hs) (fun x hx=>(hm x).1 hx)) hg
set_option maxRecDepth 4000 in
theorem inOrder_any (gb:Nat) (gr:List Bl) (w:World) (hm:(Q4 gb gr).A w) (hG:GrSmall gr):FnP Tryz.prog 106 #[.map (some gb)] w (okOrd gr) False:=by
 obtain ⟨arr,clock,hmap,hk,hv,hbn,hn⟩:=hm;have hM:MapF arr clock gr:=⟨hk,hv,hbn,hn⟩;replace hM:Hid _:=hM;clear hk hv hbn;obtain ⟨hlen,hsz⟩:=hG;replace hsz:Hid _:=hsz;refine Xf (args:=[.map (some gb)]) Tryz.func106 J Tryz.ntmps106 ?_;refine Zg (Zb (Za J (Zf J) (Ze (Zc (Zg (Zb (Za J (Zd J) (X8 fn165 J J (fun w' hs=>keys_any (.map (some gb)) J w') False.elim ?_))))))));rintro v R1 ⟨bx,rfl,hR1⟩;refine Zz hR1.left ?_;refine X8 fn164 J J (fun w' hs=>sorted_any gb bx arr clock gr w' hM.out hlen (by rw [hs.low.below.block gb (Nz hmap)];exact hmap) (Pu (j:=0) hs.res.1 J)) False.elim ?_;rintro v R2 ⟨l,hR2,hsr,hmem⟩;refine Zz hR2.left (Xc (p:=∃ p c,v=.slice p l.length c∧(0<l.length→∃ g,p=some ⟨g,0,none⟩)) (fun w hs=>bls_form hs.res.1) ?_);rintro ⟨p,c,rfl,hp⟩;replace hp:Hid _:=hp;have hll:=ord_len hlen hsr hmem;refine Za J (Zf J) (Ze (Zc (Zg (Zg (Zb (Za J (Zd J) (Za J (Zx (ts J) J) (Za J (Zd J) (Ze (Zc (Zn ?_)))))))))));refine Yf (Yg (X:=Nat) (fun i=>[(3,.slice p l.length c),(9,.slice p l.length c),(10,iN l.length),(11,iN i)]) _ _ (fun i=>[]) (fun i=>(U2 (.slice p l.length c) l).and ((Pi bx [.map (some gb)]).and Asr.none)) (fun i=>i≤l.length) (fun i=>l.length - i) (0) (Nat.zero_le _) ?_) ⟨J,J,J,J,trivial⟩;intro i hI;refine Zg (Zb (Za J (Yi J J) (Ze (Zc (Zg (Zu J ?_ ?_))))))
 ·intro c1;obtain ⟨g,hgo⟩:=hp.out (by omega);subst hgo;obtain ⟨b,hb⟩:∃ b,l[i]?=some b:=⟨_,List.getElem?_eq_getElem (by omega)⟩;have hbs:=hsz.out b ((hmem b).1 (List.mem_of_getElem? hb));refine Zo (Zc (Zg (Zn (Zg (Zb (Za J (Zd J) (Za J (Yo (ts J) J J ?_) ?_)))))))
  ·omega
  refine Za J (Yj (tn J) J (Mw (cell:=blV) (fun w hs=>hs.res.1) (fun _ _=>J) hb) J) ?_;refine Yk J (tz J) ?_;intro b0 hb0;refine Za J (Zf J) (Z2 (tn J) J J 0 J J J J (Ze (Zc (Qd X2 (Z4 0 J (by kernel_rfl) J lN (Zd J) ?_)))));refine Z4 1 J (by kernel_rfl) J lN (Zd J) ?_;refine Z4 2 J (by kernel_rfl) J lN (Zh (ff J) J) ?_;refine Z4 3 J (by kernel_rfl) J lN (Zj (t1 J) J (Zi 0 J J)) ?_;refine Z4 5 J (by kernel_rfl) J lN (Zh (ff J) J) ?_;refine Z4 6 J (by kernel_rfl) J lN (Zj (t1 J) J (Zi 0 J J)) ?_;refine Xh 4 (by kernel_rfl) J ?_;refine Yq fn131 J J (fun w _=>clone_any b.cls w hbs.1) ?_;refine Ze (Y1 lN (Xh 7 (by kernel_rfl) J ?_));refine Yq fn131 J J (fun w _=>clone_any b.above w hbs.2) ?_;refine Ze (Y1 lN (Z4 8 J (by kernel_rfl) J lN (Z8 (tb J) J J) ?_));refine Z4 9 J (by kernel_rfl) J lN (Yo (ts J) J J ?_) ?_
  ·omega
  refine Xh 10 (by kernel_rfl) J ?_;refine Un (tn J) J J J J (by show 0+i*2+2≤l.length*2;omega) ?_;refine Ze (Y1 lN (W8 (by kernel_rfl) ?_));refine Zt (Zc (Zb ?_));refine Za J (Yn J J ?_) ?_;omega;refine Za J (Zd J) (Ze ?_);refine Z1 (i+1) ?_ (by omega) 1 J (by show _=((Y0 136 2 _ l.length (put (l.flatMap blV) (0+i*2) (blV b))).and _);rw [put_same l i b hb];rfl) ⟨rfl,rfl,rfl,rfl,trivial⟩;omega
 ·intro c1;refine Yd (Yc (Z5 (Yb (Zc (Zg (Zb (Za J (Zd J) (Za J (Zf J) (Ze (Zc (Zr (T0 (We J (X9 J)) ?_))))))))))));exact ⟨l,Asr.fst _ _,hsr,hmem⟩
end
end Go.Proofs.YtpofmnfkdkmieaaGreat
