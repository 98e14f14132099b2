/- What is proved here: rules for calls of the program's writer: -/
import Derived.Test.YtpofmnfkdkmieaaGreatQ03
import Derived.Test.YtpofmnfkdkmieaaGreatQ05
set_option linter.unusedVariables false
set_option linter.unusedSimpArgs false
namespace Go.Proofs.YtpofmnfkdkmieaaGreat
section
open Go Go.RowKit E
structure WrAt (u w:World) (b:Nat) (v:Value) (bs:List UInt8):Prop where
 base:Below u.heap.size u w
 hb:u.heap.size≤b
 cell:∃ t,w.heap[b]?=some (.cells #[v] t (0,0))
 own:w.ownsRow 0 5 1 v bs.length (bs.map O5)
 apart:∀ g,v.ownBlock=some g→g≠b∧u.heap.size≤g
def wrA (v:Value) (bs:List UInt8):Asr:=Asr.and (Y0 5 1 v bs.length (bs.map O5)) Asr.none
def WrZ (u:World) (b:Nat) (w:World) (v:Value) (bs add:List UInt8):Ending→World→Prop:=fun e w' =>
 e=.returned (.tuple #[])∧∃ v',WrAt u w' b v' (bs++add)∧Fr (b::v.ownBlock.toList) w w'∧∀ g,v'.ownBlock=some g→v.ownBlock=some g∨w.heap.size≤g
def WrP (P:Program) (f:FuncId) (args:Array Value) (u:World) (b:Nat) (add:List UInt8):Prop :=
 ∀ w v bs,WrAt u w b v bs→bs.length+add.length≤4000000→Calls P f args w (WrZ u b w v bs add)
theorem Tw {v:Value} {k:Nat}:k ∈ v.ownBlock.toList↔v.ownBlock=some k:=by
 cases v.ownBlock<;>simp [eq_comm]
theorem wrA_S (v:Value) (bs:List UInt8):(wrA v bs).S=v.ownBlock.toList:=by simp [wrA,Asr.and,Y0,Asr.none]
theorem WrAt.sat {u w:World} {b:Nat} {v:Value} {bs:List UInt8} (h:WrAt u w b v bs):Sat w (b::v.ownBlock.toList) [(b,[v])] (wrA v bs) w:=by
 refine ⟨Fr.refl _ _,?_,?_,by simp,⟨h.own,trivial,by simp [Asr.none]⟩,?_,?_⟩
 ·intro p hp;simp only [List.mem_singleton] at hp;subst hp;obtain ⟨t,ht⟩:=h.cell;exact ⟨t,ht⟩
 ·intro p hp;simp only [List.mem_singleton] at hp;subst hp;exact .inl List.mem_cons_self
 ·intro k hk;rw [wrA_S] at hk;exact ⟨.inl (List.mem_cons_of_mem _ hk),(h.own.lt k (Tw.1 hk)).2⟩
 ·intro p hp hk;simp only [List.mem_singleton] at hp;subst hp;rw [wrA_S] at hk;exact (h.apart _ (Tw.1 hk)).1 J
theorem WrAt.F {u w:World} {b:Nat} {v:Value} {bs:List UInt8} (h0:WrAt u w b v bs):∀ x ∈ (b::v.ownBlock.toList),u.heap.size≤x:=by
 intro x hx;rcases List.mem_cons.1 hx with rfl | hx
 ·exact h0.hb
 ·exact (h0.apart x (Tw.1 hx)).2
theorem WrAt.out {u w:World} {b k:Nat} {v:Value} {bs:List UInt8} (h0:WrAt u w b v bs) (hk:k<u.heap.size):k ∉ (b::v.ownBlock.toList):=fun hx=>by have:=h0.F k hx;omega
section
variable {P:Program} {n:Nat} {E:Env} {w0:World} {F:List Nat} {H:Hp} {fn:Func} {κ:List Kf}
theorem below_of {u w0 w:World} {F:List Nat} {H:Hp} {R:Asr} (hu:Below u.heap.size u w0) (hF:∀ x ∈ F,u.heap.size≤x) (hs:Sat w0 F H R w):Below u.heap.size u w :=
 ⟨hs.low.os.trans hu.os,hs.low.tape.trans hu.tape,hs.low.output.trans hu.output,Nat.le_trans hu.size hs.low.size,fun k hk=>by
  rw [hs.low.block k (Nat.lt_of_lt_of_le hk hu.size) (fun hm=>by have:=hF k hm;omega)];exact hu.block k hk⟩
theorem wr_now {u w0 w:World} {F:List Nat} {H:Hp} {b i:Nat} {v:Value} {bs:List UInt8} (hu:Below u.heap.size u w0) (hF:∀ x ∈ F,u.heap.size≤x) (hs:Sat w0 F H (wrA v bs) w) (hp:H[i]?=some (b,[v])):WrAt u w b v bs:=by
 have hm:=List.mem_of_getElem? hp;have hge:∀ k,(k ∈ F∨w0.heap.size≤k)→u.heap.size≤k:=fun k hk=>hk.elim (hF k) (fun h=>Nat.le_trans hu.size h);refine ⟨below_of hu hF hs,hge b (hs.hi _ hm),?_,hs.res.1,fun g hg=>?_⟩
 ·obtain ⟨t,ht⟩:=hs.own _ hm;exact ⟨t,ht⟩
 ·have hS:g ∈ (wrA v bs).S:=by rw [wrA_S];exact Tw.2 hg
  refine ⟨fun e=>hs.rapart _ hm (by rw [e] at hS;exact hS),hge g (hs.rhi g hS).1⟩
theorem U8 {u w:World} {b i:Nat} {v v':Value} {bs bs' add:List UInt8} (h0:WrAt u w b v bs) (hr:fn.results=#[]) (hp:H[i]?=some (b,[v'])) (hbs:bs'=bs++add) :
  WQ P n .normal E w (b::v.ownBlock.toList) H (wrA v' bs') fn (WrZ u b w v bs add) [] :=
 WQ_end0 hr fun w' hs=>by
  have hF:∀ x ∈ (b::v.ownBlock.toList),u.heap.size≤x:=by
   intro x hx;rcases List.mem_cons.1 hx with rfl | hx
   ·exact h0.hb
   ·exact (h0.apart x (Tw.1 hx)).2
  refine ⟨J,v',hbs ▸ wr_now h0.base hF hs hp,hs.low,fun g hg=>?_⟩;have hS:g ∈ (wrA v' bs').S:=by rw [wrA_S];exact Tw.2 hg
  rcases (hs.rhi g hS).1 with h1 | h1
  ·rcases List.mem_cons.1 h1 with rfl | h1
   ·exact absurd hS (hs.rapart _ (List.mem_of_getElem? hp))
   ·exact .inl (Tw.1 h1)
  ·exact .inr h1
theorem wr_endr {u w:World} {b i:Nat} {v v':Value} {bs bs' add:List UInt8} (h0:WrAt u w b v bs) (hr:fn.results=#[]) (hp:H[i]?=some (b,[v'])) (hbs:bs'=bs++add) :
  WQ P n .ret E w (b::v.ownBlock.toList) H (wrA v' bs') fn (WrZ u b w v bs add) [] :=
 WQ_end0r hr fun w' hs=>by
  have h1:WQ P n .normal E w (b::v.ownBlock.toList) H (wrA v' bs') fn (WrZ u b w v bs add) []:=U8 h0 hr hp hbs
  have hF:∀ x ∈ (b::v.ownBlock.toList),u.heap.size≤x:=by
   intro x hx;rcases List.mem_cons.1 hx with rfl | hx
   ·exact h0.hb
   ·exact (h0.apart x (Tw.1 hx)).2
  refine ⟨J,v',hbs ▸ wr_now h0.base hF hs hp,hs.low,fun g hg=>?_⟩;have hS:g ∈ (wrA v' bs').S:=by rw [wrA_S];exact Tw.2 hg
  rcases (hs.rhi g hS).1 with h1 | h1
  ·rcases List.mem_cons.1 h1 with rfl | h1
   ·exact absurd hS (hs.rapart _ (List.mem_of_getElem? hp))
   ·exact .inl (Tw.1 h1)
  ·exact .inr h1
theorem wr_then {u w0 w w':World} {F:List Nat} {H:Hp} {b i:Nat} {v v':Value} {bs bs':List UInt8} (hs:Sat w0 F H (wrA v bs) w) (hp:H[i]?=some (b,[v])) (hw:WrAt u w' b v' bs') (hfr:Fr (b::v.ownBlock.toList) w w')
  (hpos:∀ g,v'.ownBlock=some g→v.ownBlock=some g∨w.heap.size≤g):Sat w0 F (H.set i (b,[v'])) (wrA v' bs') w':=by
 have hm:=List.mem_of_getElem? hp
 have hil:i<H.length:=by
  rcases Nat.lt_or_ge i H.length with h' | h'
  ·exact h'
  ·rw [List.getElem?_eq_none h'] at hp;cases hp
 have hS:∀ g,v.ownBlock=some g→g ∈ (wrA v bs).S:=fun g hg=>by rw [wrA_S];exact Tw.2 hg
 have hmap:(H.set i (b,[v'])).map (·.1)=H.map (·.1):=by
  rw [List.map_set];exact set_same (by rw [List.getElem?_map,hp];rfl)
 have hkeep:∀ p ∈ H.set i (b,[v']),p=(b,[v'])∨(p ∈ H∧p.1≠b):=by
  intro p hpm;obtain ⟨j,hj⟩:=List.mem_iff_getElem?.1 hpm;rw [List.getElem?_set] at hj;split at hj
  ·cases hj;exact .inl J
  ·rename_i hij
   refine .inr ⟨List.mem_of_getElem? hj,fun e=>?_⟩;have h1:(H.map (·.1))[i]?=some b:=by rw [List.getElem?_map,hp];rfl
   have h2:(H.map (·.1))[j]?=some b:=by rw [List.getElem?_map,hj,← e];rfl
   exact hij (Pv hs.apart h1 h2)
 refine ⟨hs.low.trans hfr ?_,?_,?_,by rw [hmap];exact hs.apart,⟨hw.own,trivial,by simp [Asr.none]⟩,?_,?_⟩
 ·intro x hx;rcases List.mem_cons.1 hx with rfl | hx
  ·exact hs.hi _ hm
  ·exact (hs.rhi x (hS x (Tw.1 hx))).1
 ·intro p hpm;rcases hkeep p hpm with rfl | ⟨hq,hne⟩
  ·obtain ⟨t,ht⟩:=hw.cell;exact ⟨t,ht⟩
  ·rw [hfr.block p.1 (hs.lt hq) (fun hx=>by
    rcases List.mem_cons.1 hx with e | hx
    ·exact hne e
    ·exact hs.rapart p hq (hS _ (Tw.1 hx)))]
   exact hs.own p hq
 ·intro p hpm;rcases hkeep p hpm with rfl | ⟨hq,_⟩
  ·exact hs.hi (b,[v]) hm
  ·exact hs.hi p hq
 ·intro k hk;rw [wrA_S] at hk;have hk':=Tw.1 hk;refine ⟨?_,(hw.own.lt k hk').2⟩;rcases hpos k hk' with h1 | h1
  ·exact (hs.rhi k (hS k h1)).1
  ·exact .inr (Nat.le_trans hs.low.size h1)
 ·intro p hpm hk;rw [wrA_S] at hk;have hk':=Tw.1 hk;rcases hkeep p hpm with rfl | ⟨hq,_⟩
  ·exact (hw.apart _ hk').1 J
  ·rcases hpos _ hk' with h1 | h1
   ·exact hs.rapart p hq (hS _ h1)
   ·have:=hs.lt hq;omega
theorem Y6 {Z:Ending→World→Prop} {all:Array Oper} {l:List Oper} {d f b:Nat} {xs:List Operand} {vs:List Value} {ts:Array TypeId} {t:TypeId} {p:String} {e:Array Edge} {v:Value} {bs add:List UInt8} {u:World} (hf:IsFn P f)
  (hd:Nat.blt d n=true) (hx:args E xs=some vs) (i:Nat) (hp:H[i]?=some (b,[v])) (hu:Below u.heap.size u w0) (hF:∀ x ∈ F,u.heap.size≤x) (hc:WrP P f vs.toArray u b add) (hl:bs.length+add.length≤4000000)
  (h:∀ v',WL P n all l ((d,.tuple #[])::E) w0 F (H.set i (b,[v'])) (wrA v' (bs++add)) fn Z κ) :
  WL P n all (⟨some d,.call ⟨.value (.func f),xs.toArray,ts⟩,t,p,e,none⟩::l) E w0 F H (wrA v bs) fn Z κ :=
 ⟨fun w hs a ha=>wpList_plain rfl fun K hK=>by
  unfold Oper.wp;rw [V8 rfl hf,Ve ha xs vs hx];refine (hc w v bs (wr_now hu hF hs hp) hl).mono ?_;rintro e w' ⟨rfl,v',h1,h2,h3⟩;exact hK _ _ ((h v').go w' (wr_then hs hp h1 h2 h3) _ (ha.put hd _))⟩
end
end
section
open Go Go.RowKit E
section
variable {P:Program} {n:Nat} {E:Env} {w0:World} {F:List Nat} {H:Hp} {R:Asr} {fn:Func} {Z:Ending→World→Prop} {κ:List Kf}
theorem appendS_where {w w':World} {t u ty e:Nat} {v v':Value} {k:Nat} {xs:List Value} {s:ByteArray} (ht:TA P t e 1 1 (.int .u8 0)) (hu:TStr P u) (hown:w.ownsRow 0 e 1 v k xs)
  (h63:k+s.size≤maxLen) (hbytes:k+s.size≤140737488355328) (hr:(Builtin.append_ #[t,u] ty #[v,.string s]).run P w=.ok v' w') :
  ∀ g,v'.ownBlock=some g→v.ownBlock=some g∨w.heap.size≤g:=by
 intro g hg;obtain ⟨i,hi,hz,hs,hb⟩:=info_parts ht.inf;have hsmall:k+s.size≤9223372036854775807:=by simp only [maxLen] at h63;omega
 have hxl:xs.length=k:=by simpa using hown.1
 rcases hown.2 with ⟨rfl,rfl⟩ | ⟨g0,cap,cur,rfl,_,hg0,hnc,hcm,hcs,htake⟩
 ·by_cases hm:s.size=0
  ·have hf:=Go.Lib.run_firstCells_string (P:=P) w 1 s;rw [hm] at hf
   have hr':(Builtin.append_ #[t,u] ty #[.slice none 0 0,.string s]).run P w=.ok (.slice none 0 0) w:=by
    simp [Builtin.append_,run_underlying ht.sl,run_underlying hu,sizeOf,typeInfo,hi,hs,Builtin.lenOf,hm,hf]
   rw [hr'] at hr;cases hr;simp [Value.ownBlock] at hg
  ·have hr':=run_append_nil_string (P:=P) w t u ty e i (.int .u8 0) ht.sl hu hi hz s (by omega) (by omega) (by rw [hb];omega);rw [hr] at hr';cases hr';simp only [Value.ownBlock,Option.some.injEq] at hg;exact .inr (by omega)
 ·by_cases hroom:k+s.size≤cap
  ·have hcs':cur.size=cap:=by simpa using hcs
   have hr':=Go.Lib.run_append_room_string (P:=P) w t u ty e i ht.sl hu hi hs g0 k cap cur hg0 s hroom (by omega);rw [hr] at hr';cases hr';exact .inl hg
  ·have holds:∀ j u,xs[j]?=some u→w.cell? ((⟨g0,0,none⟩:Addr).add j)=some u:=hown.cells (g:=g0) rfl;have hr':=Go.Lib.run_append_grow_string (P:=P) w t u ty e i (.int .u8 0) ht.sl hu hi hz ⟨g0,0,none⟩ k cap xs (by rw [hs];simpa using hxl) holds s (by omega) (by omega) (by rw [hb];exact growslice_fits (by omega) (by omega));rw [hr] at hr';cases hr';simp only [Value.ownBlock,Option.some.injEq] at hg;exact .inr (by omega)
theorem WL_appS {all:Array Oper} {l:List Oper} {d:Nat} {t u ty:Nat} {v:Value} {x y:Operand} {p:String} {g:Array Edge} {bs:List UInt8} {s:ByteArray} (hd:Nat.blt d n=true) (ht:TA P t 5 1 1 (.int .u8 0)) (hu:TStr P u) (hx:ev E x=some v)
  (hy:ev E y=some (.string s)) (h63:bs.length+s.size≤4611686018427387904) (hbytes:bs.length+s.size≤140737488355328)
  (h:∀ v',WL P n all l ((d,v')::E) w0 F H (wrA v' (bs++s.data.toList)) fn Z κ) :
  WL P n all (⟨some d,.call ⟨.builtin .append,#[x,y],#[t,u]⟩,ty,p,g,none⟩::l) E w0 F H (wrA v bs) fn Z κ :=
 ⟨fun w hs a ha=>wpList_plain rfl fun K hK=>by
  have h63':bs.length+s.size≤maxLen:=by unfold maxLen;omega
  obtain ⟨i,hi,hz,hsz,hb⟩:=info_parts ht.inf;have hown:w.ownsRow 0 5 1 v bs.length (bs.map O5):=hs.res.1;obtain ⟨v',w',hr,ho,hg,_⟩:=Go.Lib.run_append_own_string w 0 t u ty 5 i ht.sl hu hi hz hsz hb v bs.length (bs.map O5) hown s h63' hbytes (Nat.zero_le _);have hw:=appendS_where ht hu hown h63' hbytes hr
  have he:(execOp a.eval ⟨some d,.call ⟨.builtin .append,#[x,y],#[t,u]⟩,ty,p,g,none⟩).run P w=.ok (.value v') w':=by
   simp only [execOp,resolve,invoke,builtin];simp [ha.eval hx,ha.eval hy,hr]
  have e1:bs.length+s.size=(bs++s.data.toList).length:=by rw [List.length_append,Array.length_toList];rfl
  have e2:bs.map O5++Go.Lib.strCells s=(bs++s.data.toList).map O5:=by rw [List.map_append];rfl
  rw [e1,e2] at ho;unfold Oper.wp;rw [he];exact hK _ _ ((h v').go w' (hs.grown ho hg hw (owns_lt ho)) _ (ha.put hd v'))⟩
theorem WL_appB {all:Array Oper} {l:List Oper} {d:Nat} {t ty:Nat} {v:Value} {x y:Operand} {p:String} {g:Array Edge} {bs:List UInt8} {c:UInt8} {b m:Nat} (hd:Nat.blt d n=true) (ht:TA P t 5 1 1 (.int .u8 0)) (hx:ev E x=some v)
  (hy:ev E y=some (.slice (some ⟨b,0,none⟩) 1 m)) (i:Nat) (hp:H[i]?=some (b,[O5 c])) (h63:bs.length+1≤4611686018427387904) (hbytes:bs.length+1≤140737488355328)
  (h:∀ v',WL P n all l ((d,v')::E) w0 F H (wrA v' (bs++[c])) fn Z κ) :
  WL P n all (⟨some d,.call ⟨.builtin .append,#[x,y],#[t,t]⟩,ty,p,g,none⟩::l) E w0 F H (wrA v bs) fn Z κ:=by
 have h':∀ v',WL P n all l ((d,v')::E) w0 F H (Asr.and (Y0 5 1 v' (bs.length+1) (bs.map O5++[O5 c])) Asr.none) fn Z κ:=fun v'=>by
  have:=h v';unfold wrA at this;rw [List.length_append,List.map_append] at this;exact this
 exact Ww hd ht hx hy (Yl i hp) J J (by unfold maxLen;omega) (by omega) h'
theorem Ex_shr {t t':TypeId} {x y:Operand} {k:IntKind} {i j:Int} (hx:ev E x=some (.int k i)) (hy:ev E y=some (.int k j)) (hj:decide (j<0)=false):Ex P n E w0 F H R (.binOp .shr t x y t') (.int k (i.fdiv (2 ^ min j.toNat k.bits))) :=
 Qx hx hy fun w=>by simp [binOp,Op.shift,of_decide_eq_false hj]
end
end
namespace E
open Go.RowKit
theorem teTy (d:Nat) (a b:Int) (s t:ByteArray) (w:World):(Op.equalIn (d+2) 71 (.agg #[.int .i64 a,.string s]) (.agg #[.int .i64 b,.string t])).run Tryz.prog w=.ok (decide (a=b)&&eqS s t) w:=by
 have hs:Tryz.prog.stoodInHeld 71=false:=by kernel_rfl
 have h3:∀ w:World,(Op.equalIn (d+1) 3 (.int .i64 a) (.int .i64 b)).run Tryz.prog w=.ok (a==b) w:=fun w=>run_equalIn_int w d 3 .i64 .i64 a b (Sj rfl);have h9:∀ w:World,(Op.equalIn (d+1) 9 (.string s) (.string t)).run Tryz.prog w=.ok (s.toList==t.toList) w:=fun w=>run_equalIn_string w d 9 s t (Sk rfl);have e:(a==b)=decide (a=b):=by by_cases h:a=b<;>simp [h]
 have hu:=Tryz.underlying71;rw [show d+2=(d+1)+1 from rfl,Op.equalIn];simp only [Sem.run_bind,run_underlying hu,Result.andThen_ok,run_program,hs,Bool.false_eq_true,if_false];simp [part,isAgg,run_underlying (Sj (t:=3) rfl),run_underlying (Sk (t:=9) rfl),h3,h9,eqS_beq,e];by_cases h:a=b<;>cases h2:eqS s t<;>simp [h]
theorem Or {n:Nat} {E:Env} {w0:World} {F:List Nat} {H:Hp} {R:Asr} {t':TypeId} {x y:Operand} {a b:Int} {s t:ByteArray} (hx:ev E x=some (.agg #[.int .i64 a,.string s])) (hy:ev E y=some (.agg #[.int .i64 b,.string t])) :
  Ex Tryz.prog n E w0 F H R (.binOp .eql 71 x y t') (.bool (decide (a=b)&&eqS s t)):=Ex_eqlN (by kernel_rfl) hx hy (fun w=>teTy 9998 a b s t w)
theorem Ex_neqTy {n:Nat} {E:Env} {w0:World} {F:List Nat} {H:Hp} {R:Asr} {t':TypeId} {x y:Operand} {a b:Int} {s t:ByteArray} (hx:ev E x=some (.agg #[.int .i64 a,.string s])) (hy:ev E y=some (.agg #[.int .i64 b,.string t])) :
  Ex Tryz.prog n E w0 F H R (.binOp .neq 71 x y t') (.bool (!(decide (a=b)&&eqS s t))):=Ex_neqN (by kernel_rfl) hx hy (fun w=>teTy 9998 a b s t w)
end E
namespace At
structure Ty where
 kind:Int
 cls:ByteArray
structure Rf where
 cls:ByteArray
 name:ByteArray
 params:List Ty
 ty:Ty
structure Ins where
 op:Int
 n:Int
 ref:Rf
structure Fr where
 pos:Int
 locals:List Ty
 stack:List Ty
structure Hd where
 lo:Int
 hi:Int
 pos:Int
 cls:ByteArray
structure Fld where
 name:ByteArray
 stat:Bool
 ty:Ty
structure Me where
 name:ByteArray
 stat:Bool
 params:List Ty
 result:Ty
 locals:Int
 stack:Int
 code:List Ins
 handlers:List Hd
 frames:List Fr
structure Cl where
 name:ByteArray
 super:ByteArray
 fields:List Fld
 methods:List Me
def byteAt (s:ByteArray) (j:Nat):Int:=((s.data.toList[j]?.getD 0).toNat:Int)
def letB (c:Int):Bool:=decide (97≤c∧c≤122) || decide (65≤c∧c≤90)
def digB (c:Int):Bool:=decide (48≤c∧c≤57)
def okAt (s:ByteArray) (j:Nat):Bool:=letB (byteAt s j) || (!(j==0)&&digB (byteAt s j))
def X4 (s:ByteArray):Bool:=decide (1≤s.size)&&decide (s.size≤12)&&(List.range s.size).all (okAt s)
theorem isNameB_true {s:ByteArray} (h1:1≤s.size) (h2:s.size≤12) (h:∀ j,j<s.size→okAt s j=true):X4 s=true:=by
 simp [X4,h1,h2];exact h
theorem V6 {s:ByteArray} {j:Nat} (hj:j<s.size) (h:okAt s j=false):X4 s=false:=by
 unfold X4;rw [Bool.and_eq_false_iff];exact .inr (by rw [List.all_eq_false];exact ⟨j,List.mem_range.2 hj,by simp [h]⟩)
theorem Nc {s:ByteArray} (h:s.size<1∨12<s.size):X4 s=false:=by
 unfold X4;rcases h with h | h
 ·have:decide (1≤s.size)=false:=decide_eq_false (by omega);simp [this]
 ·have:decide (s.size≤12)=false:=decide_eq_false (by omega);simp [this]
theorem Qv {s:ByteArray} {k:Nat} (h:k<s.size):byteAt s k=(s[k].toNat:Int):=by
 unfold byteAt
 have:s.data.toList[k]?=some s[k]:=by
  rw [Array.getElem?_toList];exact Array.getElem?_eq_getElem h
 rw [this];rfl
theorem Nv {s:ByteArray} {k:Nat} (h:k<s.size) (hc:(97≤(s[k].toNat:Int)∧(s[k].toNat:Int)≤122)∨(65≤(s[k].toNat:Int)∧(s[k].toNat:Int)≤90)):okAt s k=true:=by
 unfold okAt letB;rw [Qv h];rcases hc with hc | hc
 ·rw [decide_eq_true hc];rfl
 ·rw [decide_eq_true (p:=65≤_∧_) hc];simp
theorem okAt_dig {s:ByteArray} {k:Nat} (h:k<s.size) (h0:¬ k=0) (hc:48≤(s[k].toNat:Int)∧(s[k].toNat:Int)≤57):okAt s k=true:=by
 unfold okAt digB;rw [Qv h,decide_eq_true hc];have:(k==0)=false:=beq_eq_false_iff_ne.2 h0;rw [this];simp
theorem M1 {s:ByteArray} {k:Nat} (h:k<s.size) (hl:¬ (97≤(s[k].toNat:Int)∧(s[k].toNat:Int)≤122)) (hu:¬ (65≤(s[k].toNat:Int)∧(s[k].toNat:Int)≤90))
  (hd:k=0∨¬ (48≤(s[k].toNat:Int)∧(s[k].toNat:Int)≤57)):okAt s k=false:=by
 unfold okAt letB digB;rw [Qv h,decide_eq_false hl,decide_eq_false hu];rcases hd with hd | hd
 ·subst hd;rfl
 ·rw [decide_eq_false hd];simp
theorem S1 {s:ByteArray} {k:Nat} (h:∀ j,j<k→okAt s j=true) (hk:okAt s k=true):∀ j,j<k+1→okAt s j=true:=by
 intro j hj;rcases Nat.lt_or_ge j k with h' | h'
 ·exact h j h'
 ·have:j=k:=by omega
  subst this;exact hk
theorem Sa {α:Type} {l:List α} {f:α→Bool} {k:Nat} (hk:k<l.length) (h:f l[k]=false):l.all f=false:=by
 rw [List.all_eq_false];exact ⟨l[k],List.getElem_mem hk,by simp [h]⟩
def X7 (t:Ty) (void odd:Bool):Bool :=
 if t.kind=0 then void&&decide (t.cls=⟨#[]⟩)
 else if t.kind=1∨t.kind=2 then decide (t.cls=⟨#[]⟩)
 else if t.kind=3 then X4 t.cls
 else if t.kind=4∨t.kind=5 then odd&&decide (t.cls=⟨#[]⟩)
 else false
def mt:ByteArray:=⟨#[]⟩
def Xk (op:Int):Int :=
 if op=1 then 1 else if op=2∨op=3 then 2 else if op=10∨op=11∨op=12∨op=13 then 3 else if op=15∨op=25∨op=26 then 4
 else if op=16∨op=17∨op=18∨op=19 then 5 else if op=20∨op=21 then 6 else if op<0∨32<op then -1 else 0
def Wo (l:List Ty) (odd:Bool):Bool:=l.all fun t=>X7 t false odd
def Y5 (i:Ins) (locals:Int) (len:Nat):Bool :=
 if Xk i.op<0 then false
 else if Xk i.op<4 then
  if ¬ i.ref.cls=⟨#[]⟩∨¬ i.ref.name=⟨#[]⟩∨0<(i.ref.params.length:Int)∨¬ i.ref.ty.kind=0∨¬ i.ref.ty.cls=⟨#[]⟩ then false
  else if Xk i.op=0 then decide (i.n=0)
  else if Xk i.op=2 then decide (0≤i.n)&&decide (i.n<locals)
  else if Xk i.op=3 then decide (0≤i.n)&&decide (i.n<(len:Int))
  else true
 else if ¬ i.n=0∨X4 i.ref.cls=false then false
 else if Xk i.op=4 then decide (i.ref.name=⟨#[]⟩)&&decide ((i.ref.params.length:Int)=0)&&decide (i.ref.ty.kind=0)&&decide (i.ref.ty.cls=⟨#[]⟩)
 else if Xk i.op=5 then X4 i.ref.name&&decide ((i.ref.params.length:Int)=0)&&X7 i.ref.ty false false
 else X4 i.ref.name&&decide ((i.ref.params.length:Int)≤6)&&Wo i.ref.params false&&X7 i.ref.ty (decide (Xk i.op=6)) false
def Tb (h:Hd) (len:Nat):Bool :=
 decide (0≤h.lo)&&decide (h.lo<h.hi)&&decide (h.hi≤(len:Int))&&decide (0≤h.pos)&&decide (h.pos<(len:Int))&&(X4 h.cls || decide (h.cls=⟨#[]⟩))
def posAt (l:List Fr) (i:Nat):Int:=((l[i]?).map (·.pos)).getD (-1)
def S3 (l:List Fr) (i:Nat):Int:=if i=0 then -1 else posAt l (i - 1)
def Td (prev:Int) (f:Fr) (locals stack:Int) (len:Nat):Bool :=
 decide (0≤f.pos)&&decide (f.pos<(len:Int))&&decide (prev<f.pos)&&decide ((f.locals.length:Int)=locals)&&decide ((f.stack.length:Int)≤stack)&&Wo f.locals true&&Wo f.stack true
def M5 (l:List Fr) (locals stack:Int) (len:Nat) (i:Nat):Bool:=match l[i]? with | some f=>Td (S3 l i) f locals stack len | none=>true
def Qt (m:Me):Int:=if m.stat then (m.params.length:Int) else (m.params.length:Int)+1
def V7 (m:Me):Bool :=
 X4 m.name&&Wo m.params false&&X7 m.result true false&&decide ((m.params.length:Int)≤6)&&decide (Qt m≤m.locals)&&decide (m.locals≤20)&&decide (0≤m.stack)&&decide (m.stack≤20)
def Yt (m:Me):Bool :=
 V7 m&&decide (1≤(m.code.length:Int))&&decide ((m.code.length:Int)≤200)&&decide ((m.handlers.length:Int)≤10)&&decide ((m.frames.length:Int)≤60) &&
 m.code.all (fun i=>Y5 i m.locals m.code.length)&&m.handlers.all (fun h=>Tb h m.code.length)&&(List.range m.frames.length).all (M5 m.frames m.locals m.stack m.code.length)
def fdNe (l:List Fld) (i k:Nat):Bool:=match l[i]? with | some f=>(match l[k]? with | some g=>decide (¬ g.name=f.name) | none=>true) | none=>true
def fdNew (l:List Fld) (i:Nat):Bool:=(List.range i).all (fdNe l i)
def fdAt (l:List Fld) (i:Nat):Bool:=match l[i]? with | some f=>X4 f.name&&X7 f.ty false false&&fdNew l i | none=>true
def Ph (a b:Me):Bool:=decide (a.name=b.name)&&decide (a.params.map (fun t=>(t.kind,t.cls))=b.params.map (fun t=>(t.kind,t.cls)))&&decide (a.result.kind=b.result.kind)&&decide (a.result.cls=b.result.cls)
def meNe (l:List Me) (i k:Nat):Bool:=match l[i]? with | some m=>(match l[k]? with | some g => !Ph g m | none=>true) | none=>true
def meNew (l:List Me) (i:Nat):Bool:=(List.range i).all (meNe l i)
def meAt (l:List Me) (i:Nat):Bool:=match l[i]? with | some m=>Yt m&&meNew l i | none=>true
def Xm (c:Cl):Bool :=
 X4 c.name&&X4 c.super&&decide ((c.fields.length:Int)≤20)&&decide ((c.methods.length:Int)≤20)&&(List.range c.fields.length).all (fdAt c.fields)&&(List.range c.methods.length).all (meAt c.methods)
theorem fdNe_some {l:List Fld} {i k:Nat} (hi:i<l.length) (hk:k<l.length):fdNe l i k=decide (¬ l[k].name=l[i].name):=by
 simp [fdNe,List.getElem?_eq_getElem hi,List.getElem?_eq_getElem hk]
theorem meNe_some {l:List Me} {i k:Nat} (hi:i<l.length) (hk:k<l.length):meNe l i k = !Ph l[k] l[i]:=by
 simp [meNe,List.getElem?_eq_getElem hi,List.getElem?_eq_getElem hk]
theorem Rv {l:List Fld} {i:Nat} (hi:i<l.length):fdAt l i=(X4 l[i].name&&X7 l[i].ty false false&&fdNew l i):=by
 simp [fdAt,List.getElem?_eq_getElem hi]
theorem Qr {l:List Me} {i:Nat} (hi:i<l.length):meAt l i=(Yt l[i]&&meNew l i):=by
 simp [meAt,List.getElem?_eq_getElem hi]
theorem Ol {α:Type} {l:List α} {f:α→Bool} {k:Nat} (hk:k<l.length) (h:(l.take k).all f=true) (hf:f l[k]=true):(l.take (k+1)).all f=true:=by
 rw [List.take_succ_eq_append_getElem hk,List.all_append,h];simp [hf]
theorem all_end {α:Type} {l:List α} {f:α→Bool} {k:Nat} (hk:¬ k<l.length) (h:(l.take k).all f=true):l.all f=true:=by
 rw [List.take_of_length_le (by omega)] at h;exact h
theorem Ud {f:Nat→Bool} {k:Nat} (h:(List.range k).all f=true) (hf:f k=true):(List.range (k+1)).all f=true:=by
 rw [List.range_succ,List.all_append,h];simp [hf]
theorem Wb {f:Nat→Bool} {n k:Nat} (hk:k<n) (h:f k=false):(List.range n).all f=false:=by
 rw [List.all_eq_false];exact ⟨k,List.mem_range.2 hk,by simp [h]⟩
theorem Tl {f:Nat→Bool} {n k:Nat} (hk:k≤n) (hn:¬ k<n) (h:(List.range k).all f=true):(List.range n).all f=true:=by
 have:k=n:=by omega
 rw [← this];exact h
end At
section
open Go.RowKit At E
def Wc (n:Int):Prop := -9223372036854775808≤n∧n≤9223372036854775807
def X5 (s:ByteArray):Prop:=s.size≤1048576
structure ListAt {α:Type} (k:Nat) (El:World→List Value→α→Prop) (w:World) (v:Value) (l:List α):Prop where
 is:∃ p c,v=.slice p l.length c∧(l.length≤1048576∧l.length≤c) ∧
  ∀ i x,l[i]?=some x→∃ b o r,p=some ⟨b,o,none⟩∧b<w.heap.size∧El w r x∧∀ j u,r[j]?=some u→w.cell? ⟨b,o+i*k+j,none⟩=some u
theorem ListAt.mono {α:Type} {k:Nat} {El:World→List Value→α→Prop} {w w':World} {v:Value} {l:List α} (hEl:∀ r x,El w r x→El w' r x) (h:ListAt k El w v l) (hb:Below w.heap.size w w'):ListAt k El w' v l:=by
 obtain ⟨p,c,hv,hl,hr⟩:=h.is;refine ⟨p,c,hv,hl,fun i x hi=>?_⟩;obtain ⟨b,o,r,hp,hlt,he,hc⟩:=hr i x hi;exact ⟨b,o,r,hp,Nat.lt_of_lt_of_le hlt hb.size,hEl r x he,fun j u hj=>by rw [hb.cell (p:=⟨b,o+i*k+j,none⟩) hlt];exact hc j u hj⟩
def Rz (t:Ty):Prop:=Wc t.kind∧X5 t.cls
def tyV (t:Ty):List Value:=[.int .i64 t.kind,.string t.cls]
def TyEl (_:World) (r:List Value) (t:Ty):Prop:=r=tyV t∧Rz t
abbrev Yu:=ListAt 2 TyEl
theorem Yu.mono {w w':World} {v:Value} {l:List Ty} (h:Yu w v l) (hb:Below w.heap.size w w'):Yu w' v l:=ListAt.mono (w:=w) (fun _ _ h=>h) h hb
theorem Yu.ok {w:World} {v:Value} {l:List Ty} (h:Yu w v l):∀ t ∈ l,Rz t:=by
 intro t ht;obtain ⟨p,c,_,_,hr⟩:=h.is;obtain ⟨i,hi⟩:=List.mem_iff_getElem?.1 ht;obtain ⟨_,_,_,_,_,he,_⟩:=hr i t hi;exact he.2
theorem Yu.parts {w:World} {v:Value} {l:List Ty} (h:Yu w v l):∃ p c,v=.slice p l.length c∧(l.length≤1048576∧l.length≤c) ∧
  ∀ i t,l[i]?=some t→∃ b o,p=some ⟨b,o,none⟩∧b<w.heap.size∧∀ j u,(tyV t)[j]?=some u→w.cell? ⟨b,o+i*2+j,none⟩=some u:=by
 obtain ⟨p,c,hv,hl,hr⟩:=h.is;refine ⟨p,c,hv,hl,fun i t hi=>?_⟩;obtain ⟨b,o,r,hp,hlt,he,hc⟩:=hr i t hi;obtain ⟨rfl,_⟩:=he;exact ⟨b,o,hp,hlt,hc⟩
def rfOk (r:Rf):Prop:=X5 r.cls∧X5 r.name∧Rz r.ty
def N3 (i:Ins):Prop:=Wc i.op∧Wc i.n∧rfOk i.ref
def Wx (i:Ins) (pv:Value):List Value:=[.int .i64 i.op,.int .i64 i.n,.string i.ref.cls,.string i.ref.name,pv,.int .i64 i.ref.ty.kind,.string i.ref.ty.cls]
def InsEl (w:World) (r:List Value) (i:Ins):Prop:=∃ pv,r=Wx i pv∧Yu w pv i.ref.params∧N3 i
theorem InsEl.mono {w w':World} {r:List Value} {i:Ins} (h:InsEl w r i) (hb:Below w.heap.size w w'):InsEl w' r i:=by
 obtain ⟨pv,h1,h2,h3⟩:=h;exact ⟨pv,h1,h2.mono hb,h3⟩
abbrev Su:=ListAt 7 InsEl
theorem Su.mono {w w':World} {v:Value} {l:List Ins} (h:Su w v l) (hb:Below w.heap.size w w'):Su w' v l:=ListAt.mono (w:=w) (fun _ _ h=>h.mono hb) h hb
def hdOk (h:Hd):Prop:=Wc h.lo∧Wc h.hi∧Wc h.pos∧X5 h.cls
def hdV (h:Hd):List Value:=[.int .i64 h.lo,.int .i64 h.hi,.int .i64 h.pos,.string h.cls]
def HdEl (_:World) (r:List Value) (h:Hd):Prop:=r=hdV h∧hdOk h
abbrev HdsAt:=ListAt 4 HdEl
theorem HdsAt.mono {w w':World} {v:Value} {l:List Hd} (h:HdsAt w v l) (hb:Below w.heap.size w w'):HdsAt w' v l:=ListAt.mono (w:=w) (fun _ _ h=>h) h hb
def frV (f:Fr) (lv sv:Value):List Value:=[.int .i64 f.pos,lv,sv]
def FrEl (w:World) (r:List Value) (f:Fr):Prop:=∃ lv sv,r=frV f lv sv∧Yu w lv f.locals∧Yu w sv f.stack∧Wc f.pos
theorem FrEl.mono {w w':World} {r:List Value} {i:Fr} (h:FrEl w r i) (hb:Below w.heap.size w w'):FrEl w' r i:=by
 obtain ⟨lv,sv,h1,h2,h3,h4⟩:=h;exact ⟨lv,sv,h1,h2.mono hb,h3.mono hb,h4⟩
abbrev Pg:=ListAt 3 FrEl
theorem Pg.mono {w w':World} {v:Value} {l:List Fr} (h:Pg w v l) (hb:Below w.heap.size w w'):Pg w' v l:=ListAt.mono (w:=w) (fun _ _ h=>h.mono hb) h hb
def fdOk (f:Fld):Prop:=X5 f.name∧Rz f.ty
def fdV (f:Fld):List Value:=[.string f.name,.bool f.stat,.int .i64 f.ty.kind,.string f.ty.cls]
def FdEl (_:World) (r:List Value) (f:Fld):Prop:=r=fdV f∧fdOk f
abbrev FdsAt:=ListAt 4 FdEl
theorem FdsAt.mono {w w':World} {v:Value} {l:List Fld} (h:FdsAt w v l) (hb:Below w.heap.size w w'):FdsAt w' v l:=ListAt.mono (w:=w) (fun _ _ h=>h) h hb
def meOk (m:Me):Prop:=X5 m.name∧Rz m.result∧Wc m.locals∧Wc m.stack
def meV (m:Me) (pv cv hv fv:Value):List Value:=[.string m.name,.bool m.stat,pv,.int .i64 m.result.kind,.string m.result.cls,.int .i64 m.locals,.int .i64 m.stack,cv,hv,fv]
structure MeParts (w:World) (m:Me) (pv cv hv fv:Value):Prop where
 ps:Yu w pv m.params
 cs:Su w cv m.code
 hs:HdsAt w hv m.handlers
 fs:Pg w fv m.frames
 ok:meOk m
theorem MeParts.mono {w w':World} {m:Me} {pv cv hv fv:Value} (h:MeParts w m pv cv hv fv) (hb:Below w.heap.size w w'):MeParts w' m pv cv hv fv:=⟨h.ps.mono hb,h.cs.mono hb,h.hs.mono hb,h.fs.mono hb,h.ok⟩
def MeEl (w:World) (r:List Value) (m:Me):Prop:=∃ pv cv hv fv,r=meV m pv cv hv fv∧MeParts w m pv cv hv fv
theorem MeEl.mono {w w':World} {r:List Value} {m:Me} (h:MeEl w r m) (hb:Below w.heap.size w w'):MeEl w' r m:=by
 obtain ⟨pv,cv,hv,fv,h1,h2⟩:=h;exact ⟨pv,cv,hv,fv,h1,h2.mono hb⟩
abbrev Mn:=ListAt 10 MeEl
theorem Mn.mono {w w':World} {v:Value} {l:List Me} (h:Mn w v l) (hb:Below w.heap.size w w'):Mn w' v l:=ListAt.mono (w:=w) (fun _ _ h=>h.mono hb) h hb
def clV (c:Cl) (fv mv:Value):List Value:=[.string c.name,.string c.super,fv,mv]
structure ClAt (w:World) (c:Cl) (fv mv:Value):Prop where
 fs:FdsAt w fv c.fields
 ms:Mn w mv c.methods
 ok:X5 c.name∧X5 c.super
theorem ClAt.mono {w w':World} {c:Cl} {fv mv:Value} (h:ClAt w c fv mv) (hb:Below w.heap.size w w'):ClAt w' c fv mv:=⟨h.fs.mono hb,h.ms.mono hb,h.ok⟩
theorem Xx {w0 w:World} {H:Hp} {R:Asr} (hs:Sat w0 [] H R w):Below w0.heap.size w0 w:=hs.low.below
theorem Sr (s:ByteArray) (w:World) (hs:X5 s):Vc Tryz.prog 93 #[.string s] w (.bool (X4 s)):=by
 unfold X5 at hs;by_cases hlen:1≤s.size∧s.size≤12
 ·skip
  refine Xf (args:=[.string s]) Tryz.func93 J Tryz.ntmps93 ?_;refine Zg (Zb (Za J (Zf J) (Ze (Zc (Zg (Zg (Zb (Za J (Zd J) (Za J (S6 (Sk J) J) (Za J (Yi J J) (Za J (Zd J) (Z9 J J J ?_ ?_))))))))))))
  ·intro h1;refine Zm J J J (Zm J J J (Zm J J J (Za J (Zp J J) (Ze (Zc (Yh J (Zg (Zb (Za J (Zf J) (Ze (Zc (Zr (Zl (Z3 J J ?_))))))))))))));exfalso;omega
  ·intro h1;refine Zk J J J (Zd J) (Zk J J J (S6 (Sk J) J) (Zk J J J (Ug J J) (Za J (Zs J J) (Ze (Zc (Zu J ?_ ?_))))))
   ·intro c1;refine Zg (Zb (Za J (Zf J) (Ze (Zc (Zr (Zl (Z3 J J ?_)))))));exfalso;omega
   ·intro c1;refine Zo (Zc (Zg (Zg (Zb (Za J (Zf J) (Ze (Zc (Zn ?_))))))));refine Yf (Yg (X:=Nat) (fun k=>[(0,.string s),(3,iN k)]) _ _ (fun k=>[]) (fun k=>Asr.none) (fun k=>k≤s.size∧∀ j,j<k→okAt s j=true) (fun k=>s.size - k) (0) (⟨Nat.zero_le _,fun j hj=>absurd hj (Nat.not_lt_zero j)⟩) ?_) ⟨J,J,trivial⟩;intro k hI;refine Zg (Zg (Zb (Za J (Zd J) (Za J (Zd J) (Za J (S6 (Sk J) J) (Za J (Yi J J) (Ze (Zc (Zu J ?_ ?_)))))))))
    ·intro c2;have hk:k<s.size:=by omega
     refine Zo (Zc (Zg (Zn (Zg (Zb (Za J (Zd J) (Za J (Zd J) (Za J (P2 (Sk J) J J ?_) ?_))))))))
     ·omega
     refine Za J (Zf J) (Ze (Zc (Zg (Zb (Za J (Zd J) (Za J (Rq J J) (Za J (Zd J) (Z9 J J J ?_ ?_))))))))
     ·intro h2;refine Zk J J J (Zd J) (Zk J J J (Xj J J) (Za J (Zp J J) (Za J (Zd J) (Z9 J J J ?_ ?_))))
      ·intro h3;refine Zm J J J (Zm J J J (Zm J J J (W7 J J J (W7 J J J (Zm J J J (Za J (Zp J J) (Za J (Zf J) (Ze (Zc (Zg (Zb (Za J (Zd J) (Za J (Xv J) (Za J (Zd J) (Zm J J J (Zm J J J (Zm J J J (W7 J J J (W7 J J J (Zm J J J (Zm J J J (W7 J J J (W7 J J J (Zm J J J (Za J (Zs J J) (Ze (Zc (Xn J (Zo ?_)))))))))))))))))))))))))))));refine Zt (Zc (Zb (Za J (Zd J) ?_)));refine Za J (Yn J J ?_) ?_;omega;refine Za J (Zf J) (Ze ?_);refine Z1 (k+1) ?_ (⟨hk,S1 hI.2 (by exact Nv hk (.inl (by omega)))⟩) 0 J (J) ⟨J,J,trivial⟩;omega
      ·intro h3;refine Zk J J J (Zd J) (Zk J J J (Rq J J) (Zk J J J (Zd J) (Z9 J J J ?_ ?_)))
       ·intro h4;refine Zk J J J (Zd J) (Zk J J J (Xj J J) (Zk J J J (Zp J J) (Za J (Zs J J) (Za J (Zf J) (Ze (Zc (Zg (Zb (Za J (Zd J) (Za J (Xv J) (Za J (Zd J) (On J J J ?_ ?_))))))))))))
        ·intro h5;refine Zk J J J (Zd J) (Zk J J J (Ya J J) (Zk J J J (Zd J) (Z9 J J J ?_ ?_)))
         ·intro h6;refine Zm J J J (Zm J J J (Zk J J J (Zp J J) (Zk J J J (Zd J) (Zm J J J (Zm J J J (Zk J J J (Zp J J) (Za J (Zp J J) (Ze (Zc (Yh J (Zg (Zb (Za J (Zf J) (Ze (Zc (Zr (Zl (Zl (Zl (Zl (Zl (Z3 J J ?_))))))))))))))))))))));rw [V6 hk (M1 hk (by omega) (by omega) (by omega))]
         ·intro h6;refine Zk J J J (Zd J) (Zk J J J (Yi J J) (Zk J J J (Zs J J) (Zk J J J (Zd J) (Z9 J J J ?_ ?_))))
          ·intro h7;refine Zm J J J (Zm J J J (Zk J J J (Zp J J) (Za J (Zp J J) (Ze (Zc (Yh J (Zg (Zb (Za J (Zf J) (Ze (Zc (Zr (Zl (Zl (Zl (Zl (Zl (Z3 J J ?_))))))))))))))))));exfalso;omega
          ·intro h7;refine Zk J J J (Zd J) (Zk J J J (Ug J J) (Zk J J J (Zs J J) (Za J (Zp J J) (Ze (Zc (Zu J ?_ ?_))))))
           ·intro c3;refine Zg (Zb (Za J (Zf J) (Ze (Zc (Zr (Zl (Zl (Zl (Zl (Zl (Z3 J J ?_)))))))))));rw [V6 hk (M1 hk (by omega) (by omega) (by omega))]
           ·intro c3;refine Zo (Zt (Zc (Zb (Za J (Zd J) ?_))));refine Za J (Yn J J ?_) ?_;omega;refine Za J (Zf J) (Ze ?_);refine Z1 (k+1) ?_ (⟨hk,S1 hI.2 (by exact Nv hk (.inl (by omega)))⟩) 0 J (J) ⟨J,J,trivial⟩;omega
        ·intro h5;refine Zm J J J (Zm J J J (Zm J J J (W7 J J J (W7 J J J (Zm J J J (Zm J J J (W7 J J J (W7 J J J (Zm J J J (Za J (Zs J J) (Ze (Zc (Xn J (Zo (Zt (Zc (Zb (Za J (Zd J) ?_))))))))))))))))));refine Za J (Yn J J ?_) ?_;omega;refine Za J (Zf J) (Ze ?_);refine Z1 (k+1) ?_ (⟨hk,S1 hI.2 (by exact Nv hk (.inl (by omega)))⟩) 0 J (J) ⟨J,J,trivial⟩;omega
       ·intro h4;refine Zm J J J (Zm J J J (Zk J J J (Zs J J) (Za J (Zs J J) (Za J (Zf J) (Ze (Zc (Zg (Zb (Za J (Zd J) (Za J (Xv J) (Za J (Zd J) (Zk J J J (Zd J) (Zk J J J (Ya J J) (Zk J J J (Zd J) (Z9 J J J ?_ ?_)))))))))))))))
        ·intro h8;refine Zm J J J (Zm J J J (Zk J J J (Zp J J) (Zk J J J (Zd J) (Zm J J J (Zm J J J (Zk J J J (Zp J J) (Za J (Zp J J) (Ze (Zc (Yh J (Zg (Zb (Za J (Zf J) (Ze (Zc (Zr (Zl (Zl (Zl (Zl (Zl (Z3 J J ?_))))))))))))))))))))));exfalso;omega
        ·intro h8;refine Zk J J J (Zd J) (Zk J J J (Yi J J) (Zk J J J (Zs J J) (Zk J J J (Zd J) (Z9 J J J ?_ ?_))))
         ·intro h9;refine Zm J J J (Zm J J J (Zk J J J (Zp J J) (Za J (Zp J J) (Ze (Zc (Yh J (Zg (Zb (Za J (Zf J) (Ze (Zc (Zr (Zl (Zl (Zl (Zl (Zl (Z3 J J ?_))))))))))))))))));exfalso;omega
         ·intro h9;refine Zk J J J (Zd J) (Zk J J J (Ug J J) (Zk J J J (Zs J J) (Za J (Zp J J) (Ze (Zc (Zu J ?_ ?_))))))
          ·intro c3;refine Zg (Zb (Za J (Zf J) (Ze (Zc (Zr (Zl (Zl (Zl (Zl (Zl (Z3 J J ?_)))))))))));exfalso;omega
          ·intro c3;refine Zo (Zt (Zc (Zb (Za J (Zd J) ?_))));refine Za J (Yn J J ?_) ?_;omega;refine Za J (Zf J) (Ze ?_);refine Z1 (k+1) ?_ (⟨hk,S1 hI.2 (by exact Nv hk (.inl (by omega)))⟩) 0 J (J) ⟨J,J,trivial⟩;omega
     ·intro h2;refine Zm J J J (Zm J J J (Za J (Zs J J) (Za J (Zd J) (Zk J J J (Zd J) (Zk J J J (Rq J J) (Zk J J J (Zd J) (Z9 J J J ?_ ?_)))))))
      ·intro h10;refine Zk J J J (Zd J) (Zk J J J (Xj J J) (Zk J J J (Zp J J) (Za J (Zs J J) (Za J (Zf J) (Ze (Zc (Zg (Zb (Za J (Zd J) (Za J (Xv J) (Za J (Zd J) (On J J J ?_ ?_))))))))))))
       ·intro h11;refine Zk J J J (Zd J) (Zk J J J (Ya J J) (Zk J J J (Zd J) (Z9 J J J ?_ ?_)))
        ·intro h12;refine Zm J J J (Zm J J J (Zk J J J (Zp J J) (Zk J J J (Zd J) (Zm J J J (Zm J J J (Zk J J J (Zp J J) (Za J (Zp J J) (Ze (Zc (Yh J (Zg (Zb (Za J (Zf J) (Ze (Zc (Zr (Zl (Zl (Zl (Zl (Zl (Z3 J J ?_))))))))))))))))))))));rw [V6 hk (M1 hk (by omega) (by omega) (by omega))]
        ·intro h12;refine Zk J J J (Zd J) (Zk J J J (Yi J J) (Zk J J J (Zs J J) (Zk J J J (Zd J) (Z9 J J J ?_ ?_))))
         ·intro h13;refine Zm J J J (Zm J J J (Zk J J J (Zp J J) (Za J (Zp J J) (Ze (Zc (Yh J (Zg (Zb (Za J (Zf J) (Ze (Zc (Zr (Zl (Zl (Zl (Zl (Zl (Z3 J J ?_))))))))))))))))));exfalso;omega
         ·intro h13;refine Zk J J J (Zd J) (Zk J J J (Ug J J) (Zk J J J (Zs J J) (Za J (Zp J J) (Ze (Zc (Zu J ?_ ?_))))))
          ·intro c3;refine Zg (Zb (Za J (Zf J) (Ze (Zc (Zr (Zl (Zl (Zl (Zl (Zl (Z3 J J ?_)))))))))));rw [V6 hk (M1 hk (by omega) (by omega) (by omega))]
          ·intro c3;refine Zo (Zt (Zc (Zb (Za J (Zd J) ?_))));refine Za J (Yn J J ?_) ?_;omega;refine Za J (Zf J) (Ze ?_);refine Z1 (k+1) ?_ (⟨hk,S1 hI.2 (by exact Nv hk (.inl (by omega)))⟩) 0 J (J) ⟨J,J,trivial⟩;omega
       ·intro h11;refine Zm J J J (Zm J J J (Zm J J J (W7 J J J (W7 J J J (Zm J J J (Zm J J J (W7 J J J (W7 J J J (Zm J J J (Za J (Zs J J) (Ze (Zc (Xn J (Zo (Zt (Zc (Zb (Za J (Zd J) ?_))))))))))))))))));refine Za J (Yn J J ?_) ?_;omega;refine Za J (Zf J) (Ze ?_);refine Z1 (k+1) ?_ (⟨hk,S1 hI.2 (by exact Nv hk (.inr (by omega)))⟩) 0 J (J) ⟨J,J,trivial⟩;omega
      ·intro h10;refine Zm J J J (Zm J J J (Zk J J J (Zs J J) (Za J (Zs J J) (Za J (Zf J) (Ze (Zc (Zg (Zb (Za J (Zd J) (Za J (Xv J) (Za J (Zd J) (Zk J J J (Zd J) (Zk J J J (Ya J J) (Zk J J J (Zd J) (Z9 J J J ?_ ?_)))))))))))))))
       ·intro h14;refine Zm J J J (Zm J J J (Zk J J J (Zp J J) (Zk J J J (Zd J) (Zm J J J (Zm J J J (Zk J J J (Zp J J) (Za J (Zp J J) (Ze (Zc (Yh J (Zg (Zb (Za J (Zf J) (Ze (Zc (Zr (Zl (Zl (Zl (Zl (Zl (Z3 J J ?_))))))))))))))))))))));rw [V6 hk (M1 hk (by omega) (by omega) (by omega))]
       ·intro h14;refine Zk J J J (Zd J) (Zk J J J (Yi J J) (Zk J J J (Zs J J) (Zk J J J (Zd J) (Z9 J J J ?_ ?_))))
        ·intro h15;refine Zm J J J (Zm J J J (Zk J J J (Zp J J) (Za J (Zp J J) (Ze (Zc (Yh J (Zg (Zb (Za J (Zf J) (Ze (Zc (Zr (Zl (Zl (Zl (Zl (Zl (Z3 J J ?_))))))))))))))))));rw [V6 hk (M1 hk (by omega) (by omega) (by omega))]
        ·intro h15;refine Zk J J J (Zd J) (Zk J J J (Ug J J) (Zk J J J (Zs J J) (Za J (Zp J J) (Ze (Zc (Zu J ?_ ?_))))))
         ·intro c3;refine Zg (Zb (Za J (Zf J) (Ze (Zc (Zr (Zl (Zl (Zl (Zl (Zl (Z3 J J ?_)))))))))));rw [V6 hk (M1 hk (by omega) (by omega) (by omega))]
         ·intro c3;refine Zo (Zt (Zc (Zb (Za J (Zd J) ?_))));refine Za J (Yn J J ?_) ?_;omega;refine Za J (Zf J) (Ze ?_);refine Z1 (k+1) ?_ (⟨hk,S1 hI.2 (by exact okAt_dig hk (by omega) (by omega))⟩) 0 J (J) ⟨J,J,trivial⟩;omega
    ·intro c2;refine Yd (Yc (Z5 (Yb (Zc (Zg (Zb (Za J (Zf J) (Ze (Zc (Zr (Z3 J J ?_)))))))))));rw [isNameB_true hlen.1 hlen.2 (fun j hj=>hI.2 j (by omega))]
 ·rw [Nc (by omega)];refine Xf (args:=[.string s]) Tryz.func93 J Tryz.ntmps93 ?_;refine Zg (Zb (Za J (Zf J) (Ze (Zc (Zg (Zg (Zb (Za J (Zd J) (Za J (S6 (Sk J) J) (Za J (Yi J J) (Za J (Zd J) (Z9 J J J ?_ ?_))))))))))))
  ·intro h1;refine Zm J J J (Zm J J J (Zm J J J (Za J (Zp J J) (Ze (Zc (Yh J (Zg (Zb (Za J (Zf J) (Ze (Zc (Zr (Zl (Z3 J J ?_))))))))))))));rfl
  ·intro h1;refine Zk J J J (Zd J) (Zk J J J (S6 (Sk J) J) (Zk J J J (Ug J J) (Za J (Zs J J) (Ze (Zc (Zu J ?_ ?_))))))
   ·intro c1;refine Zg (Zb (Za J (Zf J) (Ze (Zc (Zr (Zl (Z3 J J ?_)))))));rfl
   ·intro c1;refine Zo (Zc (Zg (Zg (Zb (Za J (Zf J) (Ze (Zc (Zn ?_))))))));exfalso;omega
theorem M3 (t:Ty) (void odd:Bool) (w:World) (ht:Rz t) :
  Vc Tryz.prog 94 #[.agg #[.int .i64 t.kind,.string t.cls],.bool void,.bool odd] w (.bool (X7 t void odd)):=by
 refine Xf (args:=[.agg #[.int .i64 t.kind,.string t.cls],.bool void,.bool odd]) Tryz.func94 J Tryz.ntmps94 ?_;refine Zg (Zb (Y2 J J ?_));intro b0 hb0;refine Za J (Zf J) (Ze (Zc (Zg (Zg (Zb (Za J (Zh (ff J) J) (Za J (Zj (t1 J) J (Zi 0 J J)) (Ze (Zc (Zn (Zg (Zb (Za J (Ya J J) (Za J (Zf J) (Ze (Zc (Zu J ?_ ?_)))))))))))))))))
 ·intro c1;refine Zg (Zb (Za J (Zd J) (Za J (Zd J) (Ub J J J ?_ ?_))))
  ·intro h1;refine Zk J J J (Zh (ff J) J) (Zk J J J (Zj (t1 J) J (Zi 0 J J)) (Zk J J J (Y7 J J) (Za J (Zp J J) (Za J (Zf J) (Ze (Zc (Zr (Zl (Zl (Z3 J J ?_))))))))));simp_all [X7,eqS]
  ·intro h1;refine Zm J J J (Zm J J J (Zm J J J (Za J (Zs J J) (Za J (Zf J) (Ze (Zc (Zr (Zl (Zl (Z3 J J ?_))))))))));simp_all [X7,eqS]
 ·intro c1;refine Zg (Zg (Zb (Za J (Ya J J) (Za J (Zf J) (Ze (Zc (Zu J ?_ ?_)))))))
  ·intro c2;refine Zo (Zc (Yh J (Zg (Zb (Za J (Zh (ff J) J) (Za J (Zj (t1 J) J (Zi 0 J J)) (Za J (Y7 J J) (Za J (Zf J) (Ze (Zc (Zr (Zl (Zl (Z3 J J ?_))))))))))))));simp_all [X7,eqS]
  ·intro c2;refine Zb (Za J (Ya J J) (Za J (Zf J) (Ze (Zc (Zu J ?_ ?_)))))
   ·intro c3;refine Zg (Zb (Za J (Zh (ff J) J) (Za J (Zj (t1 J) J (Zi 0 J J)) (Za J (Y7 J J) (Za J (Zf J) (Ze (Zc (Zr (Zl (Zl (Z3 J J ?_)))))))))));simp_all [X7,eqS]
   ·intro c3;refine Zg (Zb (Za J (Ya J J) (Za J (Zf J) (Ze (Zc (Zu J ?_ ?_))))))
    ·intro c4;refine Zg (Zb (Za J (Zh (ff J) J) (Za J (Zj (t1 J) J (Zi 0 J J)) (Yq fn93 J J (fun w _=>Sr _ w ht.2) ?_))));refine Za J (Zf J) (Ze (Zc (Zg (Zb (Za J (Zd J) (Za J (Zf J) (Ze (Zc (Zr (Zl (Zl (Z3 J J ?_))))))))))));simp_all [X7,eqS]
    ·intro c4;refine Zg (Zg (Zb (Za J (Ya J J) (Za J (Zf J) (Ze (Zc (Zu J ?_ ?_)))))))
     ·intro c5;refine Zo (Zc (Yh J (Zg (Zb (Za J (Zd J) (Za J (Zd J) (Ub J J J ?_ ?_)))))))
      ·intro h2;refine Zk J J J (Zh (ff J) J) (Zk J J J (Zj (t1 J) J (Zi 0 J J)) (Zk J J J (Y7 J J) (Za J (Zp J J) (Za J (Zf J) (Ze (Zc (Zr (Zl (Zl (Z3 J J ?_))))))))));simp_all [X7,eqS]
      ·intro h2;refine Zm J J J (Zm J J J (Zm J J J (Za J (Zs J J) (Za J (Zf J) (Ze (Zc (Zr (Zl (Zl (Z3 J J ?_))))))))));simp_all [X7,eqS]
     ·intro c5;refine Zb (Za J (Ya J J) (Za J (Zf J) (Ze (Zc (Zu J ?_ ?_)))))
      ·intro c6;refine Zg (Zb (Za J (Zd J) (Za J (Zd J) (Ub J J J ?_ ?_))))
       ·intro h3;refine Zk J J J (Zh (ff J) J) (Zk J J J (Zj (t1 J) J (Zi 0 J J)) (Zk J J J (Y7 J J) (Za J (Zp J J) (Za J (Zf J) (Ze (Zc (Zr (Zl (Zl (Z3 J J ?_))))))))));simp_all [X7,eqS]
       ·intro h3;refine Zm J J J (Zm J J J (Zm J J J (Za J (Zs J J) (Za J (Zf J) (Ze (Zc (Zr (Zl (Zl (Z3 J J ?_))))))))));simp_all [X7,eqS]
      ·intro c6;refine Zo (Zt (Zc (Zg (Zb (Za J (Zf J) (Ze (Zc (Zr (Z3 J J ?_)))))))));simp_all [X7,eqS]
theorem Pm (v:Value) (l:List Ty) (odd:Bool) (w:World) (hv:Yu w v l) :
  Vc Tryz.prog 134 #[v,.bool odd] w (.bool (Wo l odd)):=by
 unfold Wo;obtain ⟨p,c,rfl,hl,hr⟩:=hv.parts;refine Xf (args:=[.slice p l.length c,.bool odd]) Tryz.func134 J Tryz.ntmps134 ?_;refine Zg (Zb (Za J (Zf J) (Ze (Zc (Zg (Zg (Zb (Za J (Zf J) (Ze (Zc (Zn ?_)))))))))));refine Yf (Yg (X:=Nat) (fun k=>[(0,.slice p l.length c),(1,.bool odd),(5,iN k)]) _ _ (fun k=>[]) (fun k=>Asr.none) (fun k=>k≤l.length∧(l.take k).all (fun t=>X7 t false odd)=true) (fun k=>l.length - k) (0) (⟨Nat.zero_le _,J⟩) ?_) ⟨J,J,J,trivial⟩;intro k hI;refine Zg (Zg (Zb (Za J (Zd J) (Za J (Zd J) (Za J (Zx (ts J) J) (Za J (Yi J J) (Ze (Zc (Zu J ?_ ?_)))))))))
 ·intro c1;have hk:k<l.length:=by omega
  obtain ⟨b,o,hp,hb,hc⟩:=hr k l[k] (List.getElem?_eq_getElem hk);subst hp;refine Zo (Zc (Zg (Zn (Zg (Zb (Za J (Zd J) (Za J (Zd J) (Za J (Yo (ts J) J J ?_) ?_))))))))
  ·omega
  refine Za J (Yj (tn J) J (Xl hc hb) J) (Za J (Zd J) (Yq fn94 J J (fun w _=>M3 _ false odd w (hv.ok _ (List.getElem_mem hk))) ?_));refine Za J (Zf J) (Ze (Zc (Zg (Zb (Za J (Zd J) (Za J (Xv J) (Ze (Zc (W4 J ?_ ?_)))))))))
  ·intro c2;refine Zg (Zb (Za J (Zf J) (Ze (Zc (Zr (Zl (Zl (Zl (Zl (Zl (Z3 J J ?_)))))))))));rw [Sa hk (by simp_all)]
  ·intro c2;refine Zo (Zt (Zc (Zb (Za J (Zd J) ?_))));refine Za J (Yn J J ?_) ?_;omega;refine Za J (Zf J) (Ze ?_);refine Z1 (k+1) ?_ (⟨hk,by rw [List.take_succ_eq_append_getElem hk,List.all_append,hI.2];simp_all⟩) 0 rfl (rfl) ⟨rfl,rfl,rfl,trivial⟩;omega
 ·intro c1;refine Yd (Yc (Z5 (Yb (Zc (Zg (Zb (Za J (Zf J) (Ze (Zc (Zr (Z3 J J ?_)))))))))));rw [← List.take_of_length_le (l:=l) (i:=k) (by omega),hI.2]
end
section
open Go.RowKit At E
def lowL (u:Nat):Nat→List UInt8
 | 0=>[]
 | k+1=>UInt8.ofNat (u % 256)::lowL (u/256) k
def u64 (n:Int):Nat:=(IntKind.u64.wrap n).toNat
def W1 (n:Int) (k:Nat):ByteArray:=⟨(lowL (u64 n) k).toArray⟩
theorem lowL_succ:∀ (k u:Nat),lowL u (k+1)=lowL u k++[UInt8.ofNat (u/256 ^ k % 256)]
 | 0,u=>by simp [lowL]
 | k+1,u=>by
  rw [lowL,lowL_succ k (u/256),lowL,List.cons_append,Nat.div_div_eq_div_mul,Nat.pow_succ,Nat.mul_comm 256]
theorem Q5:∀ (k u:Nat),(lowL u k).length=k
 | 0,_=>rfl
 | k+1,u=>by rw [lowL,List.length_cons,Q5 k]
theorem u64_of (n:Int):IntKind.u64.wrap n=(u64 n:Int):=by
 unfold u64;have:0≤IntKind.u64.wrap n:=by rw [IntKind.wrap_u64];omega
 omega
end
end Go.Proofs.YtpofmnfkdkmieaaGreat
