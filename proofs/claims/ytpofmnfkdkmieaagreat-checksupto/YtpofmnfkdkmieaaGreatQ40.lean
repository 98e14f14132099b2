/- What is proved here: package check: each operation that makes -/
import Derived.Test.YtpofmnfkdkmieaaGreatQ39
set_option linter.unusedVariables false
set_option linter.unusedSimpArgs false
namespace Go.Proofs.YtpofmnfkdkmieaaGreat
section
open Go Go.RowKit At E
theorem Lc (v:Value) (hv:v.cells=#[v]) (w:World):FnP Tryz.prog 142 #[v] w (fun v' R'=>∃ bx,v'=Vj 249 bx∧R'.Imp (Pi bx [v])) False:=by
 refine Xf (args:=[v]) Tryz.func142 J Tryz.ntmps142 ?_;refine Zg (Zb (WL_boxV J J hv ?_));intro b1 hb1;refine Za J (Zf J) (Ze (Zc (Zg (Zb (Za J (Ex_cap J) (Za J (Zf J) (Lh (Ze (Zc (Zr (T0 (We J (X9 J)) ?_)))))))))));exact ⟨b1,J,Asr.snd _ _⟩
theorem ckKind_any (v:Value) (hv:v.cells=#[v]) (w:World):FnP Tryz.prog 148 #[v] w (fun v' R'=>∃ bx,v'=Vj 255 bx∧R'.Imp (Pi bx [v])) False:=by
 refine Xf (args:=[v]) Tryz.func148 J Tryz.ntmps148 ?_;refine Zg (Zb (WL_boxV J J hv ?_));intro b1 hb1;refine Za J (Zf J) (Ze (Zc (Zg (Zb (Za J (Ex_cap J) (Za J (Zf J) (Lh (Ze (Zc (Zr (T0 (We J (X9 J)) ?_)))))))))));exact ⟨b1,J,Asr.snd _ _⟩
theorem Mi (t:Ty) (w:World):FnP Tryz.prog 143 #[.agg (tyV t).toArray] w (fun v' R'=>∃ bx,v'=Vj 251 bx∧R'.Imp (Pi bx (tyV t))) False:=by
 refine Xf (args:=[.agg (tyV t).toArray]) Tryz.func143 J Tryz.ntmps143 ?_;refine Zg (Zb (Y2 J J ?_));intro b1 hb1;refine Za J (Zf J) (Ze (Zc (Zg (Zb (Za J (Ex_cap J) (Za J (Zf J) (Lh (Ze (Zc (Zr (T0 (We J (X9 J)) ?_)))))))))));exact ⟨b1,J,Asr.snd _ _⟩
def rkR:Rw:=⟨.take [Yx,Yx],.lay Yx,false,false⟩
def Ys:Option Code→Array Oper
 | some (.seq _ (.seq _ (.seq _ (.seq (.region _ ops _) _))))=>ops
 | _=>#[]
def specL:List Sp:=[
 .row ⟨.nil,.nil,false,false⟩,
 .ty Yx,
 .ac (.lay Yx),
 .row ⟨.nil,(.lay Yx),false,false⟩,
 .row ⟨.nil,.load,false,false⟩,
 .row ⟨.store,.nil,false,false⟩,
 .row ⟨.any,.nil,false,false⟩,
 .row ⟨.nil,.again,false,false⟩,
 .row rkR,
 .row rkR,
 .row rkR,
 .row rkR,
 .row ⟨.nil,.nil,true,true⟩,
 .ty Yx,
 .tys [Yx],
 .ac (.take [Yx]),
 .row ⟨(.take [Yx]),.nil,true,false⟩,
 .ty Yx,
 .ty Yx,
 .tys [Yx,Yx],
 .ac (.take [Yx,Yx]),
 .row ⟨(.take [Yx,Yx]),.nil,true,false⟩,
 .ints [3,2,5],
 .ac (.kind [3,2,5]),
 .row ⟨(.kind [3,2,5]),.nil,true,false⟩,
 .ty nullT,
 .ac (.lay nullT),
 .row ⟨.nil,(.lay nullT),false,false⟩,
 .row ⟨.nil,.layObj,false,false⟩,
 .row ⟨.obj,.layTyp,false,false⟩,
 .row ⟨.objTyp,.nil,false,false⟩,
 .row ⟨.nil,.layTyp,false,false⟩,
 .row ⟨.typ,.nil,false,false⟩,
 .row ⟨.objParams,.layTyp,false,false⟩,
 .row ⟨.params,.layTyp,false,false⟩,
 .row ⟨.void,.nil,false,true⟩,
 .row ⟨.give,.nil,false,true⟩,
 .ty (Xu thS),
 .tys [(Xu thS)],
 .ac (.take [(Xu thS)]),
 .row ⟨(.take [(Xu thS)]),.nil,false,true⟩,
 .ints [3,5],
 .ac (.kind [3,5]),
 .row ⟨(.kind [3,5]),.layObj,false,false⟩,
 .ints [3,5],
 .ac (.kind [3,5]),
 .ty Yx,
 .ac (.lay Yx),
 .row ⟨(.kind [3,5]),(.lay Yx),false,false⟩,
 .ty Yx,
 .tys [Yx],
 .ac (.take [Yx]),
 .row ⟨(.take [Yx]),.nil,false,false⟩,
 .ty Yx,
 .ac (.lay Yx),
 .row ⟨.nil,(.lay Yx),false,false⟩,
 .ty Yx,
 .tys [Yx],
 .ac (.take [Yx]),
 .ty Uh,
 .ac (.lay Uh),
 .row ⟨(.take [Yx]),(.lay Uh),false,false⟩,
 .ty Uh,
 .ty Yx,
 .tys [Uh,Yx],
 .ac (.take [Uh,Yx]),
 .ty Yx,
 .ac (.lay Yx),
 .row ⟨(.take [Uh,Yx]),(.lay Yx),false,false⟩,
 .ty Uh,
 .ty Yx,
 .ty Yx,
 .tys [Uh,Yx,Yx],
 .ac (.take [Uh,Yx,Yx]),
 .row ⟨(.take [Uh,Yx,Yx]),.nil,false,false⟩,
 .ty Uh,
 .tys [Uh],
 .ac (.take [Uh]),
 .ty Yx,
 .ac (.lay Yx),
 .row ⟨(.take [Uh]),(.lay Yx),false,false⟩,
 .tab,
 .tab]
def Tk (j:Nat):Sp:=specL.getD j .tab
def Te (j:Nat):Nat:=bif Nat.beq j 82 then 0 else j+13
theorem dst_ne {i j:Nat} (hi:i<83) (hj:j<83) (h:j≠i):Te j≠Te i:=by
 unfold Te;cases h1:Nat.beq j 82<;>cases h2:Nat.beq i 82<;>simp only [cond_true,cond_false]<;>simp only [Nat.beq_eq,Bool.eq_false_iff,ne_eq] at h1 h2<;>omega
theorem dst_no (i:Nat):Te i≠1∧Te i≠2∧Te i≠3:=by
 unfold Te;cases Nat.beq i 82<;>simp only [cond_true,cond_false]<;>omega
theorem R9 {i:Nat} (hi:i<83):Te i<95:=by
 unfold Te;cases h2:Nat.beq i 82<;>simp only [cond_true,cond_false]<;>simp only [Nat.beq_eq,Bool.eq_false_iff,ne_eq] at h2<;>omega
def ptrV (b:Nat):Value:=pt b
structure OI (w0:World) (b1 b2 b3:Nat) (q:RowV) (l:Array Bool) (a:Act) (w:World):Prop where
 sz:l.size=83
 ag:Ag 95 a [(1,ptrV b1),(2,ptrV b2),(3,ptrV b3)]
 low:Below w0.heap.size w0 w
 n1:∀ j z,(tyV Yx)[j]?=some z→w.cell? ⟨b1,0+j,none⟩=some z
 n2:∀ j z,(tyV Uh)[j]?=some z→w.cell? ⟨b2,0+j,none⟩=some z
 n3:∀ j z,(rwV rkR q)[j]?=some z→w.cell? ⟨b3,0+j,none⟩=some z
 rk:RowB w0.heap.size w q rkR
 sp:∀ j,j<83→l.getD j false=true→∃ v,a.tmps[Te j]?=some v∧SpAt w0.heap.size w v (Tk j)
theorem lt_cells {w:World} {b:Nat} {t:Ty} (h:∀ j z,(tyV t)[j]?=some z→w.cell? ⟨b,0+j,none⟩=some z):b<w.heap.size:=World.block_lt_of_cell? w _ (h 0 _ rfl)
section
variable {w0:World} {b1 b2 b3:Nat} {q:RowV} {l:Array Bool} {a:Act} {w:World} {i d:Nat} {deps:Env} {v:Value} {H:Hp} {R:Asr} {fn:Func} {Z:Ending→World→Prop} {κ:List Kf} {ty:TypeId} {ps:String} {x:Array Edge}
theorem set_true {j:Nat} (hl:(l.setIfInBounds i true).getD j false=true):j=i∨l.getD j false=true:=by
 by_cases h:j=i
 ·exact .inl h
 ·right;rw [Array.getD_eq_getD_getElem?,Array.getElem?_setIfInBounds_ne (fun e=>h e.symm)] at hl;rw [Array.getD_eq_getD_getElem?];exact hl
theorem OI.next (hI:OI w0 b1 b2 b3 q l a w) (hdeps:∀ j u,E.look deps j=some u→a.tmps[j]?=some u) (hi:i<83) (hd:Te i=d) (hsp:∀ w',Sat w [] H R w'→SpAt w0.heap.size w' v (Tk i)):WL Tryz.prog 95 (Ys Tryz.f104.body) [] ((d,v)::(deps++W2 a 95)) w [] H R fn Z (⟨2,0,.skip,OI w0 b1 b2 b3 q (l.setIfInBounds i true)⟩::κ):=by
 subst hd;refine Ze ⟨fun w' hs a' ha'=>?_⟩;show OI w0 b1 b2 b3 q (l.setIfInBounds i true) a' w';have hb:Below w.heap.size w w':=hs.low.below;have hn:=dst_no i;have hk:∀ {j:Nat},j<95→j≠Te i→a'.tmps[j]?=a.tmps[j]?:=fun {j} hj hne=>ag_keep hI.ag hdeps ha' hj hne;refine ⟨by rw [Array.size_setIfInBounds];exact hI.sz,⟨ha'.room,ha'.no,fun j u hu=>?_⟩,((Fr.of_below hI.low []).trans (Fr.of_below hb []) (by simp)).below,fun j z hz=>V4 hb (hI.n1 j z hz),fun j z hz=>V4 hb (hI.n2 j z hz),fun j z hz=>V4 hb (hI.n3 j z hz),hI.rk.mono hb,fun j hj hl=>?_⟩
 ·have h1:=hI.ag.has j u hu
  have h2:j=1∨j=2∨j=3:=by
   by_cases e1:j=1
   ·exact .inl e1
   ·by_cases e2:j=2
    ·exact .inr (.inl e2)
    ·by_cases e3:j=3
     ·exact .inr (.inr e3)
     ·exfalso;have f1:Nat.beq j 1=false:=Bool.eq_false_iff.2 fun h=>e1 (Nat.eq_of_beq_eq_true h);have f2:Nat.beq j 2=false:=Bool.eq_false_iff.2 fun h=>e2 (Nat.eq_of_beq_eq_true h);have f3:Nat.beq j 3=false:=Bool.eq_false_iff.2 fun h=>e3 (Nat.eq_of_beq_eq_true h);simp [E.look,f1,f2,f3] at hu
  rw [hk (by omega) (by rcases h2 with rfl | rfl | rfl;exact fun e=>hn.1 e.symm;exact fun e=>hn.2.1 e.symm;exact fun e=>hn.2.2 e.symm)];exact h1
 ·rcases set_true hl with rfl | hl
  ·refine ⟨v,ha'.has _ v ?_,hsp w' hs⟩;show (bif Nat.beq (Te j) (Te j) then some v else _)=some v;rw [Nat.beq_refl];rfl
  ·by_cases hji:j=i
   ·subst hji;refine ⟨v,ha'.has _ v ?_,hsp w' hs⟩;show (bif Nat.beq (Te j) (Te j) then some v else _)=some v;rw [Nat.beq_refl];rfl
   ·obtain ⟨u,hu,hs'⟩:=hI.sp j hj hl;have hlt:Te j<95:=R9 hj;exact ⟨u,by rw [hk hlt (dst_ne hi hj hji)];exact hu,hs'.mono hb⟩
end
def OpS (i:Nat):Prop:=∀ (w0:World) (b1 b2 b3:Nat) (q:RowV) (fn:Func) (Z:Ending→World→Prop) (κ:List Kf) (l:Array Bool) (a:Act) (w:World),OI w0 b1 b2 b3 q l a w→i ∈ Region.ready .any (Ys Tryz.f104.body) l →
 wpOp Tryz.prog (Ys Tryz.f104.body) (den Tryz.prog fn Z κ) i (fun a' w'=>OI w0 b1 b2 b3 q (l.setIfInBounds i true) a' w') a w
theorem Y3 {a:Act} {s:Nat} {v:Value} (hs:s<95) (hv:a.tmps[s]?=some v):E.look (W2 a 95) s=some v:=by
 rw [look_full a s 95 hs,Array.getD_eq_getD_getElem?,hv];rfl
theorem Wr (base:Nat):Hi base Vm:=fun p n c h=>by cases h
theorem Xo {w0:World} {b1 b2 b3:Nat} {q:RowV} {l:Array Bool} {a:Act} {w:World} {i j k:Nat} {o:Oper} (h0:(Ys Tryz.f104.body)[i]?=some o) (he:o.after[k]?=some ⟨j,.data⟩) (hr:i ∈ Region.ready .any (Ys Tryz.f104.body) l) (hI:OI w0 b1 b2 b3 q l a w) (hj:j<83):∃ v,a.tmps[Te j]?=some v∧SpAt w0.heap.size w v (Tk j):=by
 obtain ⟨o',ho',h⟩:=(mem_ready.1 hr).2;rw [h0] at ho';cases ho';exact hI.sp j hj (h ⟨j,.data⟩ (Array.mem_of_getElem? he) J)
section
variable {i d:Nat} {ty:TypeId} {ps:String} {x:Array Edge}
theorem Tm (h0:(Ys Tryz.f104.body)[i]?=some ⟨some d,.load 71 (.tmp 1),ty,ps,x,none⟩) (hd:Te i=d) (hi:i<83) (hb:Nat.blt d 95=true) (hs:Tk i=.ty Yx):OpS i:=by
 intro w0 b1 b2 b3 q fn Z κ l a w hI hr;have e1:ev ([]++W2 a 95) (.tmp 1)=some (ptrV b1):=Y3 (by decide) (hI.ag.has 1 _ rfl);exact Xw h0 (Xy (deps:=[]) hI.ag (fun _ _ h=>by cases h)) (Za hb (Yj (tn J) e1 (Xl hI.n1 (lt_cells hI.n1)) J) (hI.next (deps:=[]) (fun _ _ h=>by cases h) hi hd fun w' _=>by rw [hs];rfl))
theorem op_ldRow (h0:(Ys Tryz.f104.body)[i]?=some ⟨some d,.load 71 (.tmp 2),ty,ps,x,none⟩) (hd:Te i=d) (hi:i<83) (hb:Nat.blt d 95=true) (hs:Tk i=.ty Uh):OpS i:=by
 intro w0 b1 b2 b3 q fn Z κ l a w hI hr;have e1:ev ([]++W2 a 95) (.tmp 2)=some (ptrV b2):=Y3 (by decide) (hI.ag.has 2 _ rfl);exact Xw h0 (Xy (deps:=[]) hI.ag (fun _ _ h=>by cases h)) (Za hb (Yj (tn J) e1 (Xl hI.n2 (lt_cells hI.n2)) J) (hI.next (deps:=[]) (fun _ _ h=>by cases h) hi hd fun w' _=>by rw [hs];rfl))
theorem op_ldRk (h0:(Ys Tryz.f104.body)[i]?=some ⟨some d,.load 264 (.tmp 3),ty,ps,x,none⟩) (hd:Te i=d) (hi:i<83) (hb:Nat.blt d 95=true) (hs:Tk i=.row rkR):OpS i:=by
 intro w0 b1 b2 b3 q fn Z κ l a w hI hr;have e1:ev ([]++W2 a 95) (.tmp 3)=some (ptrV b3):=Y3 (by decide) (hI.ag.has 3 _ rfl);exact Xw h0 (Xy (deps:=[]) hI.ag (fun _ _ h=>by cases h)) (Za hb (Yj (tn J) e1 (Xl hI.n3 (World.block_lt_of_cell? w _ (hI.n3 0 _ J))) J) (hI.next (deps:=[]) (fun _ _ h=>by cases h) hi hd fun w' hs'=>by rw [hs];exact ⟨q,J,hI.rk.mono hs'.low.below⟩))
theorem op_null (h0:(Ys Tryz.f104.body)[i]?=some ⟨some d,.build 71 #[(0,.const (.int .i64 5))],ty,ps,x,none⟩) (hd:Te i=d) (hi:i<83) (hb:Nat.blt d 95=true) (hs:Tk i=.ty nullT):OpS i:=by
 intro w0 b1 b2 b3 q fn Z κ l a w hI hr;exact Xw h0 (Xy (deps:=[]) hI.ag (fun _ _ h=>by cases h)) (Za hb (Z8 (cs:=tyV nullT) (tb J) J (by kernel_rfl)) (hI.next (deps:=[]) (fun _ _ h=>by cases h) hi hd fun w' _=>by rw [hs];rfl))
theorem op_obj (h0:(Ys Tryz.f104.body)[i]?=some ⟨some d,.call ⟨.value (.func 158),#[.const (.string ⟨#[84,104,114,111,119,97,98,108,101]⟩)],#[9]⟩,ty,ps,x,none⟩) (hd:Te i=d) (hi:i<83) (hb:Nat.blt d 95=true) (hs:Tk i=.ty (Xu thS)):OpS i:=by
 intro w0 b1 b2 b3 q fn Z κ l a w hI hr;exact Xw h0 (Xy (deps:=[]) hI.ag (fun _ _ h=>by cases h)) (Yq fn158 hb J (fun w' _=>Oe thS w') (hI.next (deps:=[]) (fun _ _ h=>by cases h) hi hd fun w' _=>by rw [hs];rfl))
theorem Pu {w:World} {b:Nat} {v:Value} {cs:List Value} (h:(Pi b cs).A w) {j:Nat} (hv:cs[j]?=some v):w.cell? ⟨b,0+j,none⟩=some v:=by
 obtain ⟨e,he⟩:=h;simp only [World.cell?,he]
 simpa using hv
theorem base_le {w0 w w':World} {bc:Nat} {cs:List Value} {R' R:Asr} (hl:Below w0.heap.size w0 w) (hR:R'.Imp (Pi bc cs)) (hs:Sat w [] [] (R'.and R) w'):w0.heap.size≤bc:=by
 have h1:=(hs.rhi bc (List.mem_append_left _ (hR.s bc List.mem_cons_self))).1;rcases h1 with h1 | h1
 ·cases h1
 ·exact Nat.le_trans hl.size h1
theorem tys_cells {w:World} {v:Value} {l:List Ty} (h:Yu w v l):v.cells=#[v]:=by
 obtain ⟨p,c,rfl, -⟩:=h.is;rfl
theorem ints_cells {w:World} {v:Value} {l:List Int} (h:IntsAt w v l):v.cells=#[v]:=by
 obtain ⟨g,c,rfl, -⟩:=h.is;rfl
theorem args1 {En:Env} {s:Nat} {v:Value} (h:E.look En s=some v):args En [.tmp s]=some [v]:=by
 simp only [args,ev,h]
theorem O2 {j k s:Nat} {L:List Ty} (h0:(Ys Tryz.f104.body)[i]?=some ⟨some d,.call ⟨.value (.func 142),#[.tmp s],#[69]⟩,ty,ps,x,none⟩) (he:x[k]?=some ⟨j,.data⟩) (hjs:Te j=s) (hj:j<83) (hsj:Tk j=.tys L) (hd:Te i=d) (hb:Nat.blt d 95=true) (hi:i<83) (hs:Tk i=.ac (.take L)):OpS i:=by
 intro w0 b1 b2 b3 q fn Z κ l a w hI hr;obtain ⟨v,hv,hp⟩:=Xo h0 he hr hI hj;rw [hjs] at hv;rw [hsj] at hp;have hs95:s<95:=by rw [← hjs];exact R9 hj
 refine Xw h0 (Xy (deps:=[]) hI.ag (fun _ _ h=>by cases h)) (X8 fn142 hb (args1 (Y3 hs95 hv)) (fun w' _=>Lc v (tys_cells hp.1) w') (fun h=>h.elim) ?_);rintro v' R' ⟨bc,rfl,hR⟩;refine hI.next (deps:=[]) (fun _ _ h=>by cases h) hi hd fun w' hs'=>?_;rw [hs];exact ⟨bc,v,⟨J,Pu (j:=0) (hR.a w' hs'.res.1) J,hp.1.mono hs'.low.below⟩,base_le hI.low hR hs',hp.2⟩
theorem op_kind {j k s:Nat} {L:List Int} {ti:TypeId} (h0:(Ys Tryz.f104.body)[i]?=some ⟨some d,.call ⟨.value (.func 148),#[.tmp s],#[ti]⟩,ty,ps,x,none⟩) (he:x[k]?=some ⟨j,.data⟩) (hjs:Te j=s) (hj:j<83) (hsj:Tk j=.ints L) (hd:Te i=d) (hb:Nat.blt d 95=true) (hi:i<83) (hs:Tk i=.ac (.kind L)):OpS i:=by
 intro w0 b1 b2 b3 q fn Z κ l a w hI hr;obtain ⟨v,hv,hp⟩:=Xo h0 he hr hI hj;rw [hjs] at hv;rw [hsj] at hp;have hs95:s<95:=by rw [← hjs];exact R9 hj
 refine Xw h0 (Xy (deps:=[]) hI.ag (fun _ _ h=>by cases h)) (X8 fn148 hb (args1 (Y3 hs95 hv)) (fun w' _=>ckKind_any v (ints_cells hp.1) w') (fun h=>h.elim) ?_);rintro v' R' ⟨bc,rfl,hR⟩;refine hI.next (deps:=[]) (fun _ _ h=>by cases h) hi hd fun w' hs'=>?_;rw [hs];exact ⟨bc,v,⟨J,Pu (j:=0) (hR.a w' hs'.res.1) J,hp.1.mono hs'.low.below⟩,base_le hI.low hR hs',hp.2⟩
theorem op_lay {j k s:Nat} {t:Ty} (h0:(Ys Tryz.f104.body)[i]?=some ⟨some d,.call ⟨.value (.func 143),#[.tmp s],#[71]⟩,ty,ps,x,none⟩) (he:x[k]?=some ⟨j,.data⟩) (hjs:Te j=s) (hj:j<83) (hsj:Tk j=.ty t) (hd:Te i=d) (hb:Nat.blt d 95=true) (hi:i<83) (hs:Tk i=.ac (.lay t)):OpS i:=by
 intro w0 b1 b2 b3 q fn Z κ l a w hI hr;obtain ⟨v,hv,hp⟩:=Xo h0 he hr hI hj;rw [hjs] at hv;rw [hsj] at hp;have hs95:s<95:=by rw [← hjs];exact R9 hj
 cases (show v=.agg (tyV t).toArray from hp);refine Xw h0 (Xy (deps:=[]) hI.ag (fun _ _ h=>by cases h)) (X8 fn143 hb (args1 (Y3 hs95 hv)) (fun w' _=>Mi t w') (fun h=>h.elim) ?_);rintro v' R' ⟨bc,rfl,hR⟩;refine hI.next (deps:=[]) (fun _ _ h=>by cases h) hi hd fun w' hs'=>?_;rw [hs];exact ⟨bc,Vm,⟨J,fun j z hz=>Pu (hR.a w' hs'.res.1) hz⟩,base_le hI.low hR hs',Wr _⟩
theorem hi_new {w0 w:World} {b n c:Nat} (hl:Below w0.heap.size w0 w) (hb:w.heap.size≤b):Hi w0.heap.size (.slice (some ⟨b,0,none⟩) n c):=fun p n' c' h=>by
 injection h with h1
 injection h1 with h1
 subst h1;exact Nat.le_trans hl.size hb
def okT (t:Ty):Bool:=Int.natAbs t.kind≤10&&t.cls.size≤100
theorem okT_ty {t:Ty} (h:okT t=true):Rz t:=by
 unfold okT at h;simp only [Bool.and_eq_true,decide_eq_true_eq] at h;exact ⟨⟨by omega,by omega⟩,by show t.cls.size≤1048576;omega⟩
theorem flat2:∀ (L:List Ty) (j k:Nat) (t:Ty) (u:Value),L[j]?=some t→(tyV t)[k]?=some u→(L.flatMap tyV)[j*2+k]?=some u
 | [],_,_,_,_,h,_=>by simp at h
 | t'::L,0,k,t,u,h,hk=>by
  cases h;show (tyV t'++L.flatMap tyV)[0*2+k]?=some u;rw [Nat.zero_mul,Nat.zero_add,List.getElem?_append_left (Wa hk)];exact hk
 | t'::L,j+1,k,t,u,h,hk=>by
  show (tyV t'++L.flatMap tyV)[(j+1)*2+k]?=some u;have hl:(tyV t').length=2:=rfl;rw [List.getElem?_append_right (by omega),hl,show (j+1)*2+k - 2=j*2+k by omega];exact flat2 L j k t u h hk
theorem tys_new {w w':World} {b:Nat} {H:Hp} {R:Asr} {L:List Ty} (hs:Sat w [] ((b,L.flatMap tyV)::H) R w') (hL:L.length≤1048576) (ho:L.all okT=true):Yu w' (.slice (some ⟨b,0,none⟩) L.length L.length) L:=by
 refine ⟨some ⟨b,0,none⟩,L.length,J,⟨hL,Nat.le_refl _⟩,fun j t hj=>⟨b,0,tyV t,J,hs.lt List.mem_cons_self,⟨J,okT_ty (List.all_eq_true.1 ho t (List.mem_of_getElem? hj))⟩,fun k u hk=>?_⟩⟩;rw [hs.mine List.mem_cons_self];show (L.flatMap tyV)[0+j*2+k]?=some u;rw [Nat.zero_add];exact flat2 L j k t u hj hk
theorem ints_new {w w':World} {b:Nat} {H:Hp} {R:Asr} {L:List Int} (hs:Sat w [] ((b,L.map (Value.int .i64))::H) R w') (hL:L.length≤100):IntsAt w' (.slice (some ⟨b,0,none⟩) L.length L.length) L:=by
 refine ⟨b,L.length,J,hL,fun j n hj=>?_⟩;rw [hs.mine List.mem_cons_self];show (L.map (Value.int .i64))[0+j*1]?=_;rw [Nat.zero_add,Nat.mul_one,List.getElem?_map,hj];rfl
theorem op_tys1 {j0 k0 s0:Nat} {x0:Ty} (h0:(Ys Tryz.f104.body)[i]?=some ⟨some d,.buildSlice 69 1 #[(0,.tmp s0)],ty,ps,x,none⟩) (he0:x[k0]?=some ⟨j0,.data⟩) (hjs0:Te j0=s0) (hj0:j0<83) (hsj0:Tk j0=.ty x0) (hd:Te i=d) (hi:i<83) (hb:Nat.blt d 95=true) (hs:Tk i=.tys [x0]) (ho:[x0].all okT=true):OpS i:=by
 intro w0 b1 b2 b3 q fn Z κ l a w hI hr;obtain ⟨v0,hv0,hp0⟩:=Xo h0 he0 hr hI hj0;rw [hjs0] at hv0;rw [hsj0] at hp0;cases (show v0=.agg (tyV x0).toArray from hp0);have e0:E.look ([]++W2 a 95) s0=_:=Y3 (by rw [← hjs0];exact R9 hj0) hv0;refine Xw h0 (Xy (deps:=[]) hI.ag (fun _ _ h=>by cases h)) (Wk (ps:=[(0,.tmp s0)]) (vs:=[(0,.agg (tyV x0).toArray)]) (cs:=[x0].flatMap tyV) hb (ts J) (tz J) J J J (by simp only [parts,ev,e0]) (by kernel_rfl) fun b hbb=>hI.next (deps:=[]) (fun _ _ h=>by cases h) hi hd fun w' hs'=>?_);rw [hs];exact ⟨tys_new hs' (by simp) ho,hi_new hI.low hbb⟩
theorem op_tys2 {j0 k0 s0 j1 k1 s1:Nat} {x0 x1:Ty} (h0:(Ys Tryz.f104.body)[i]?=some ⟨some d,.buildSlice 69 2 #[(0,.tmp s0),(1,.tmp s1)],ty,ps,x,none⟩) (he0:x[k0]?=some ⟨j0,.data⟩) (hjs0:Te j0=s0) (hj0:j0<83) (hsj0:Tk j0=.ty x0) (he1:x[k1]?=some ⟨j1,.data⟩) (hjs1:Te j1=s1) (hj1:j1<83) (hsj1:Tk j1=.ty x1) (hd:Te i=d) (hi:i<83) (hb:Nat.blt d 95=true) (hs:Tk i=.tys [x0,x1]) (ho:[x0,x1].all okT=true):OpS i:=by
 intro w0 b1 b2 b3 q fn Z κ l a w hI hr;obtain ⟨v0,hv0,hp0⟩:=Xo h0 he0 hr hI hj0;obtain ⟨v1,hv1,hp1⟩:=Xo h0 he1 hr hI hj1;rw [hjs0] at hv0;rw [hsj0] at hp0;rw [hjs1] at hv1;rw [hsj1] at hp1;cases (show v0=.agg (tyV x0).toArray from hp0);cases (show v1=.agg (tyV x1).toArray from hp1);have e0:E.look ([]++W2 a 95) s0=_:=Y3 (by rw [← hjs0];exact R9 hj0) hv0;have e1:E.look ([]++W2 a 95) s1=_:=Y3 (by rw [← hjs1];exact R9 hj1) hv1;refine Xw h0 (Xy (deps:=[]) hI.ag (fun _ _ h=>by cases h)) (Wk (ps:=[(0,.tmp s0),(1,.tmp s1)]) (vs:=[(0,.agg (tyV x0).toArray),(1,.agg (tyV x1).toArray)]) (cs:=[x0,x1].flatMap tyV) hb (ts J) (tz J) J J J (by simp only [parts,ev,e0,e1]) (by kernel_rfl) fun b hbb=>hI.next (deps:=[]) (fun _ _ h=>by cases h) hi hd fun w' hs'=>?_);rw [hs];exact ⟨tys_new hs' (by simp) ho,hi_new hI.low hbb⟩
theorem op_tys3 {j0 k0 s0 j1 k1 s1 j2 k2 s2:Nat} {x0 x1 x2:Ty} (h0:(Ys Tryz.f104.body)[i]?=some ⟨some d,.buildSlice 69 3 #[(0,.tmp s0),(1,.tmp s1),(2,.tmp s2)],ty,ps,x,none⟩) (he0:x[k0]?=some ⟨j0,.data⟩) (hjs0:Te j0=s0) (hj0:j0<83) (hsj0:Tk j0=.ty x0) (he1:x[k1]?=some ⟨j1,.data⟩) (hjs1:Te j1=s1) (hj1:j1<83) (hsj1:Tk j1=.ty x1) (he2:x[k2]?=some ⟨j2,.data⟩) (hjs2:Te j2=s2) (hj2:j2<83) (hsj2:Tk j2=.ty x2) (hd:Te i=d) (hi:i<83) (hb:Nat.blt d 95=true) (hs:Tk i=.tys [x0,x1,x2]) (ho:[x0,x1,x2].all okT=true):OpS i:=by
 intro w0 b1 b2 b3 q fn Z κ l a w hI hr;obtain ⟨v0,hv0,hp0⟩:=Xo h0 he0 hr hI hj0;obtain ⟨v1,hv1,hp1⟩:=Xo h0 he1 hr hI hj1;obtain ⟨v2,hv2,hp2⟩:=Xo h0 he2 hr hI hj2;rw [hjs0] at hv0;rw [hsj0] at hp0;rw [hjs1] at hv1;rw [hsj1] at hp1;rw [hjs2] at hv2;rw [hsj2] at hp2;cases (show v0=.agg (tyV x0).toArray from hp0);cases (show v1=.agg (tyV x1).toArray from hp1);cases (show v2=.agg (tyV x2).toArray from hp2);have e0:E.look ([]++W2 a 95) s0=_:=Y3 (by rw [← hjs0];exact R9 hj0) hv0;have e1:E.look ([]++W2 a 95) s1=_:=Y3 (by rw [← hjs1];exact R9 hj1) hv1;have e2:E.look ([]++W2 a 95) s2=_:=Y3 (by rw [← hjs2];exact R9 hj2) hv2;refine Xw h0 (Xy (deps:=[]) hI.ag (fun _ _ h=>by cases h)) (Wk (ps:=[(0,.tmp s0),(1,.tmp s1),(2,.tmp s2)]) (vs:=[(0,.agg (tyV x0).toArray),(1,.agg (tyV x1).toArray),(2,.agg (tyV x2).toArray)]) (cs:=[x0,x1,x2].flatMap tyV) hb (ts J) (tz J) J J J (by simp only [parts,ev,e0,e1,e2]) (by kernel_rfl) fun b hbb=>hI.next (deps:=[]) (fun _ _ h=>by cases h) hi hd fun w' hs'=>?_);rw [hs];exact ⟨tys_new hs' (by simp) ho,hi_new hI.low hbb⟩
theorem op_ints2 {n0 n1:Int} (h0:(Ys Tryz.f104.body)[i]?=some ⟨some d,.buildSlice 54 2 #[(0,.const (.int .i64 n0)),(1,.const (.int .i64 n1))],ty,ps,x,none⟩) (hd:Te i=d) (hi:i<83) (hb:Nat.blt d 95=true) (hs:Tk i=.ints [n0,n1]):OpS i:=by
 intro w0 b1 b2 b3 q fn Z κ l a w hI hr;refine Xw h0 (Xy (deps:=[]) hI.ag (fun _ _ h=>by cases h)) (Wk (ps:=[(0,.const (.int .i64 n0)),(1,.const (.int .i64 n1))]) (vs:=[(0,.int .i64 n0),(1,.int .i64 n1)]) (cs:=[n0,n1].map (Value.int .i64)) hb (ts J) (tz J) J J J J (by kernel_rfl) fun b hbb=>hI.next (deps:=[]) (fun _ _ h=>by cases h) hi hd fun w' hs'=>?_);rw [hs];exact ⟨ints_new hs' (by simp),hi_new hI.low hbb⟩
theorem op_ints3 {n0 n1 n2:Int} (h0:(Ys Tryz.f104.body)[i]?=some ⟨some d,.buildSlice 54 3 #[(0,.const (.int .i64 n0)),(1,.const (.int .i64 n1)),(2,.const (.int .i64 n2))],ty,ps,x,none⟩) (hd:Te i=d) (hi:i<83) (hb:Nat.blt d 95=true) (hs:Tk i=.ints [n0,n1,n2]):OpS i:=by
 intro w0 b1 b2 b3 q fn Z κ l a w hI hr;refine Xw h0 (Xy (deps:=[]) hI.ag (fun _ _ h=>by cases h)) (Wk (ps:=[(0,.const (.int .i64 n0)),(1,.const (.int .i64 n1)),(2,.const (.int .i64 n2))]) (vs:=[(0,.int .i64 n0),(1,.int .i64 n1),(2,.int .i64 n2)]) (cs:=[n0,n1,n2].map (Value.int .i64)) hb (ts J) (tz J) J J J J (by kernel_rfl) fun b hbb=>hI.next (deps:=[]) (fun _ _ h=>by cases h) hi hd fun w' hs'=>?_);rw [hs];exact ⟨ints_new hs' (by simp),hi_new hI.low hbb⟩
theorem op_asg {j k s:Nat} (h0:(Ys Tryz.f104.body)[i]?=some ⟨some d,.assign (.tmp s),ty,ps,x,none⟩) (he:x[k]?=some ⟨j,.data⟩) (hjs:Te j=s) (hj:j<83) (hsj:Tk j=.tab) (hd:Te i=d) (hi:i<83) (hb:Nat.blt d 95=true) (hs:Tk i=.tab):OpS i:=by
 intro w0 b1 b2 b3 q fn Z κ l a w hI hr;obtain ⟨v,hv,hp⟩:=Xo h0 he hr hI hj;rw [hjs] at hv;rw [hsj] at hp;have e0:ev ([]++W2 a 95) (.tmp s)=some v:=Y3 (by rw [← hjs];exact R9 hj) hv;refine Xw h0 (Xy (deps:=[]) hI.ag (fun _ _ h=>by cases h)) (Za hb (Zf e0) (hI.next (deps:=[]) (fun _ _ h=>by cases h) hi hd fun w' hs'=>?_));rw [hs];exact SpAt.mono (s:=.tab) hp hs'.low.below
end
def rowsC:List Rw→(Nat→RowV)→Nat→List Value
 | [],_,_=>[]
 | r::l,rv,n=>rwV r (rv n)++rowsC l rv (n+1)
theorem rows_at (rv:Nat→RowV):∀ (l:List Rw) (k n:Nat) (r:Rw),l[n]?=some r→∀ (j:Nat) (z:Value),(rwV r (rv (k+n)))[j]?=some z→(rowsC l rv k)[n*4+j]?=some z
 | [],_,_,_,h=>by simp at h
 | r'::l,k,0,r,h=>by
  intro j z hz;cases h;rw [Nat.add_zero] at hz;show (rwV r' (rv k)++rowsC l rv (k+1))[0*4+j]?=some z;rw [Nat.zero_mul,Nat.zero_add,List.getElem?_append_left (Wa hz)];exact hz
 | r'::l,k,n+1,r,h=>by
  intro j z hz;show (rwV r' (rv k)++rowsC l rv (k+1))[(n+1)*4+j]?=some z;have hl:(rwV r' (rv k)).length=4:=rfl;rw [List.getElem?_append_right (by omega),hl,show (n+1)*4+j - 4=n*4+j by omega];exact rows_at rv l (k+1) n r h j z (by rw [show k+1+n=k+(n+1) by omega];exact hz)
theorem tab_cells {base b:Nat} {w w':World} {H:Hp} {R:Asr} {rv:Nat→RowV} (hs:Sat w [] ((b,rowsC Qh rv 0)::H) R w') (h:∀ n r,Qh[n]?=some r→RowB base w' (rv n) r) :
  ∀ n r,Qh[n]?=some r→(∀ j z,(rwV r (rv n))[j]?=some z→w'.cell? ⟨b,0+n*4+j,none⟩=some z)∧RowB base w' (rv n) r:=fun n r hr =>
 ⟨fun j z hz=>by
  rw [hs.mine List.mem_cons_self];show (rowsC Qh rv 0)[0+n*4+j]?=some z;rw [Nat.zero_add];exact rows_at rv Qh 0 n r hr j z (by rw [Nat.zero_add];exact hz),h n r hr⟩
theorem op0:OpS 0:=by
 intro w0 b1 b2 b3 q fn Z κ l a w hI hr;have h0:=(by kernel_rfl:(Ys Tryz.f104.body)[0]?=some ⟨some 13,.build 264 #[],264,"operations.go:23",#[],none⟩)
 refine Xw h0 (Xy (deps:=[]) hI.ag (fun _ _ h=>by cases h)) (Za J (Z8 (vs:=[]) (cs:=[.nilFunc,.nilFunc,.bool false,.bool false]) (tb J) (by rfl) (by kernel_rfl)) (hI.next (deps:=[]) (fun _ _ h=>by cases h) (by decide) J fun w' hs=>?_));exact ⟨⟨.nilFunc,.nilFunc,w0.heap.size,w0.heap.size,Vm,Vm⟩,J,⟨⟨J,Nat.le_refl _,Wr _⟩,⟨J,Nat.le_refl _,Wr _⟩⟩⟩
theorem op1:OpS 1:=Tm (by kernel_rfl:(Ys Tryz.f104.body)[1]?=some ⟨some 14,.load 71 (.tmp 1),71,"operations.go:23",#[],none⟩) rfl (by decide) rfl rfl
theorem op2:OpS 2:=op_lay (k:=0) (j:=1) (by kernel_rfl:(Ys Tryz.f104.body)[2]?=some ⟨some 15,.call ⟨.value (.func 143),#[.tmp 14],#[71]⟩,260,"operations.go:25",#[⟨1,.data⟩],none⟩) rfl rfl (by decide) rfl rfl rfl (by decide) rfl
theorem op3:OpS 3:=by
 intro w0 b1 b2 b3 q fn Z κ l a w hI hr;have h0:=(by kernel_rfl:(Ys Tryz.f104.body)[3]?=some ⟨some 16,.build 264 #[(1,.tmp 15)],264,"operations.go:23",#[⟨2,.data⟩],none⟩)
 obtain ⟨v0,hv0,bc0,sv0,hp0⟩:=Xo (k:=0) (j:=2) h0 rfl hr hI (by decide);obtain rfl:v0=_:=hp0.1.1;have e0:E.look (W2 a 95) 15=_:=Y3 (by decide) hv0;refine Xw h0 (Xy (deps:=[]) hI.ag (fun _ _ h=>by cases h)) (Za J (Z8 (vs:=[(1,Vj 251 bc0)]) (cs:=[.nilFunc,Vj 251 bc0,.bool false,.bool false]) (tb J) (by simp only [parts,ev,e0,List.nil_append,fnV]) (by kernel_rfl)) (hI.next (deps:=[]) (fun _ _ h=>by cases h) (by decide) J fun w' hs=>?_));exact ⟨⟨.nilFunc,Vj 251 bc0,w0.heap.size,bc0,Vm,sv0⟩,J,⟨⟨J,Nat.le_refl _,Wr _⟩,⟨hp0.1.mono hs.low.below,hp0.2⟩⟩⟩
theorem op4:OpS 4:=by
 intro w0 b1 b2 b3 q fn Z κ l a w hI hr;have h0:=(by kernel_rfl:(Ys Tryz.f104.body)[4]?=some ⟨some 17,.build 264 #[(1,.func 144)],264,"operations.go:23",#[],none⟩)
 refine Xw h0 (Xy (deps:=[]) hI.ag (fun _ _ h=>by cases h)) (Za J (Z8 (vs:=[(1,fnV 144)]) (cs:=[.nilFunc,fnV 144,.bool false,.bool false]) (tb J) (by rfl) (by kernel_rfl)) (hI.next (deps:=[]) (fun _ _ h=>by cases h) (by decide) J fun w' hs=>?_));exact ⟨⟨.nilFunc,fnV 144,w0.heap.size,w0.heap.size,Vm,Vm⟩,J,⟨⟨J,Nat.le_refl _,Wr _⟩,⟨J,Nat.le_refl _,Wr _⟩⟩⟩
theorem op5:OpS 5:=by
 intro w0 b1 b2 b3 q fn Z κ l a w hI hr;have h0:=(by kernel_rfl:(Ys Tryz.f104.body)[5]?=some ⟨some 18,.build 264 #[(0,.func 145)],264,"operations.go:23",#[],none⟩)
 refine Xw h0 (Xy (deps:=[]) hI.ag (fun _ _ h=>by cases h)) (Za J (Z8 (vs:=[(0,fnV 145)]) (cs:=[fnV 145,.nilFunc,.bool false,.bool false]) (tb J) (by rfl) (by kernel_rfl)) (hI.next (deps:=[]) (fun _ _ h=>by cases h) (by decide) J fun w' hs=>?_));exact ⟨⟨fnV 145,.nilFunc,w0.heap.size,w0.heap.size,Vm,Vm⟩,J,⟨⟨J,Nat.le_refl _,Wr _⟩,⟨J,Nat.le_refl _,Wr _⟩⟩⟩
theorem op6:OpS 6:=by
 intro w0 b1 b2 b3 q fn Z κ l a w hI hr;have h0:=(by kernel_rfl:(Ys Tryz.f104.body)[6]?=some ⟨some 19,.build 264 #[(0,.func 146)],264,"operations.go:23",#[],none⟩)
 refine Xw h0 (Xy (deps:=[]) hI.ag (fun _ _ h=>by cases h)) (Za J (Z8 (vs:=[(0,fnV 146)]) (cs:=[fnV 146,.nilFunc,.bool false,.bool false]) (tb J) (by rfl) (by kernel_rfl)) (hI.next (deps:=[]) (fun _ _ h=>by cases h) (by decide) J fun w' hs=>?_));exact ⟨⟨fnV 146,.nilFunc,w0.heap.size,w0.heap.size,Vm,Vm⟩,J,⟨⟨J,Nat.le_refl _,Wr _⟩,⟨J,Nat.le_refl _,Wr _⟩⟩⟩
theorem op7:OpS 7:=by
 intro w0 b1 b2 b3 q fn Z κ l a w hI hr;have h0:=(by kernel_rfl:(Ys Tryz.f104.body)[7]?=some ⟨some 20,.build 264 #[(1,.func 147)],264,"operations.go:23",#[],none⟩)
 refine Xw h0 (Xy (deps:=[]) hI.ag (fun _ _ h=>by cases h)) (Za J (Z8 (vs:=[(1,fnV 147)]) (cs:=[.nilFunc,fnV 147,.bool false,.bool false]) (tb J) (by rfl) (by kernel_rfl)) (hI.next (deps:=[]) (fun _ _ h=>by cases h) (by decide) J fun w' hs=>?_));exact ⟨⟨.nilFunc,fnV 147,w0.heap.size,w0.heap.size,Vm,Vm⟩,J,⟨⟨J,Nat.le_refl _,Wr _⟩,⟨J,Nat.le_refl _,Wr _⟩⟩⟩
theorem op8:OpS 8:=op_ldRk (by kernel_rfl:(Ys Tryz.f104.body)[8]?=some ⟨some 21,.load 264 (.tmp 3),264,"operations.go:23",#[],none⟩) rfl (by decide) rfl rfl
theorem op9:OpS 9:=op_ldRk (by kernel_rfl:(Ys Tryz.f104.body)[9]?=some ⟨some 22,.load 264 (.tmp 3),264,"operations.go:23",#[],none⟩) rfl (by decide) rfl rfl
theorem op10:OpS 10:=op_ldRk (by kernel_rfl:(Ys Tryz.f104.body)[10]?=some ⟨some 23,.load 264 (.tmp 3),264,"operations.go:23",#[],none⟩) rfl (by decide) rfl rfl
theorem op11:OpS 11:=op_ldRk (by kernel_rfl:(Ys Tryz.f104.body)[11]?=some ⟨some 24,.load 264 (.tmp 3),264,"operations.go:23",#[],none⟩) rfl (by decide) rfl rfl
theorem op12:OpS 12:=by
 intro w0 b1 b2 b3 q fn Z κ l a w hI hr;have h0:=(by kernel_rfl:(Ys Tryz.f104.body)[12]?=some ⟨some 25,.build 264 #[(2,.const (.bool true)),(3,.const (.bool true))],264,"operations.go:23",#[],none⟩)
 refine Xw h0 (Xy (deps:=[]) hI.ag (fun _ _ h=>by cases h)) (Za J (Z8 (vs:=[(2,.bool true),(3,.bool true)]) (cs:=[.nilFunc,.nilFunc,.bool true,.bool true]) (tb J) (by rfl) (by kernel_rfl)) (hI.next (deps:=[]) (fun _ _ h=>by cases h) (by decide) J fun w' hs=>?_));exact ⟨⟨.nilFunc,.nilFunc,w0.heap.size,w0.heap.size,Vm,Vm⟩,J,⟨⟨J,Nat.le_refl _,Wr _⟩,⟨J,Nat.le_refl _,Wr _⟩⟩⟩
theorem op13:OpS 13:=Tm (by kernel_rfl:(Ys Tryz.f104.body)[13]?=some ⟨some 26,.load 71 (.tmp 1),71,"operations.go:23",#[],none⟩) rfl (by decide) rfl rfl
theorem op14:OpS 14:=op_tys1 (k0:=0) (j0:=13) (by kernel_rfl:(Ys Tryz.f104.body)[14]?=some ⟨some 27,.buildSlice 69 1 #[(0,.tmp 26)],69,"operations.go:23",#[⟨13,.data⟩],none⟩) rfl rfl (by decide) rfl rfl (by decide) rfl rfl rfl
theorem op15:OpS 15:=O2 (k:=0) (j:=14) (by kernel_rfl:(Ys Tryz.f104.body)[15]?=some ⟨some 28,.call ⟨.value (.func 142),#[.tmp 27],#[69]⟩,260,"operations.go:35",#[⟨14,.data⟩,⟨2,.chain⟩],none⟩) rfl rfl (by decide) rfl rfl rfl (by decide) rfl
theorem op16:OpS 16:=by
 intro w0 b1 b2 b3 q fn Z κ l a w hI hr;have h0:=(by kernel_rfl:(Ys Tryz.f104.body)[16]?=some ⟨some 29,.build 264 #[(0,.tmp 28),(2,.const (.bool true))],264,"operations.go:23",#[⟨15,.data⟩],none⟩)
 obtain ⟨v0,hv0,bc0,sv0,hp0⟩:=Xo (k:=0) (j:=15) h0 rfl hr hI (by decide);obtain rfl:v0=_:=hp0.1.1;have e0:E.look (W2 a 95) 28=_:=Y3 (by decide) hv0;refine Xw h0 (Xy (deps:=[]) hI.ag (fun _ _ h=>by cases h)) (Za J (Z8 (vs:=[(0,Vj 249 bc0),(2,.bool true)]) (cs:=[Vj 249 bc0,.nilFunc,.bool true,.bool false]) (tb J) (by simp only [parts,ev,e0,List.nil_append,fnV]) (by kernel_rfl)) (hI.next (deps:=[]) (fun _ _ h=>by cases h) (by decide) J fun w' hs=>?_));exact ⟨⟨Vj 249 bc0,.nilFunc,bc0,w0.heap.size,sv0,Vm⟩,J,⟨⟨hp0.1.mono hs.low.below,hp0.2⟩,⟨J,Nat.le_refl _,Wr _⟩⟩⟩
theorem op17:OpS 17:=Tm (by kernel_rfl:(Ys Tryz.f104.body)[17]?=some ⟨some 30,.load 71 (.tmp 1),71,"operations.go:23",#[],none⟩) rfl (by decide) rfl rfl
theorem op18:OpS 18:=Tm (by kernel_rfl:(Ys Tryz.f104.body)[18]?=some ⟨some 31,.load 71 (.tmp 1),71,"operations.go:23",#[],none⟩) rfl (by decide) rfl rfl
theorem op19:OpS 19:=op_tys2 (k0:=0) (j0:=17) (k1:=1) (j1:=18) (by kernel_rfl:(Ys Tryz.f104.body)[19]?=some ⟨some 32,.buildSlice 69 2 #[(0,.tmp 30),(1,.tmp 31)],69,"operations.go:23",#[⟨17,.data⟩,⟨18,.data⟩],none⟩) rfl rfl (by decide) rfl rfl rfl (by decide) rfl rfl (by decide) rfl rfl rfl
theorem op20:OpS 20:=O2 (k:=0) (j:=19) (by kernel_rfl:(Ys Tryz.f104.body)[20]?=some ⟨some 33,.call ⟨.value (.func 142),#[.tmp 32],#[69]⟩,260,"operations.go:36",#[⟨19,.data⟩,⟨15,.chain⟩],none⟩) rfl rfl (by decide) rfl rfl rfl (by decide) rfl
theorem op21:OpS 21:=by
 intro w0 b1 b2 b3 q fn Z κ l a w hI hr;have h0:=(by kernel_rfl:(Ys Tryz.f104.body)[21]?=some ⟨some 34,.build 264 #[(0,.tmp 33),(2,.const (.bool true))],264,"operations.go:23",#[⟨20,.data⟩],none⟩)
 obtain ⟨v0,hv0,bc0,sv0,hp0⟩:=Xo (k:=0) (j:=20) h0 rfl hr hI (by decide);obtain rfl:v0=_:=hp0.1.1;have e0:E.look (W2 a 95) 33=_:=Y3 (by decide) hv0;refine Xw h0 (Xy (deps:=[]) hI.ag (fun _ _ h=>by cases h)) (Za J (Z8 (vs:=[(0,Vj 249 bc0),(2,.bool true)]) (cs:=[Vj 249 bc0,.nilFunc,.bool true,.bool false]) (tb J) (by simp only [parts,ev,e0,List.nil_append,fnV]) (by kernel_rfl)) (hI.next (deps:=[]) (fun _ _ h=>by cases h) (by decide) J fun w' hs=>?_));exact ⟨⟨Vj 249 bc0,.nilFunc,bc0,w0.heap.size,sv0,Vm⟩,J,⟨⟨hp0.1.mono hs.low.below,hp0.2⟩,⟨J,Nat.le_refl _,Wr _⟩⟩⟩
theorem op22:OpS 22:=op_ints3 (by kernel_rfl:(Ys Tryz.f104.body)[22]?=some ⟨some 35,.buildSlice 54 3 #[(0,.const (.int .i64 3)),(1,.const (.int .i64 2)),(2,.const (.int .i64 5))],54,"operations.go:23",#[],none⟩) rfl (by decide) rfl rfl
theorem op23:OpS 23:=op_kind (k:=0) (j:=22) (by kernel_rfl:(Ys Tryz.f104.body)[23]?=some ⟨some 36,.call ⟨.value (.func 148),#[.tmp 35],#[54]⟩,260,"operations.go:37",#[⟨22,.data⟩,⟨20,.chain⟩],none⟩) rfl rfl (by decide) rfl rfl rfl (by decide) rfl
theorem op24:OpS 24:=by
 intro w0 b1 b2 b3 q fn Z κ l a w hI hr;have h0:=(by kernel_rfl:(Ys Tryz.f104.body)[24]?=some ⟨some 37,.build 264 #[(0,.tmp 36),(2,.const (.bool true))],264,"operations.go:23",#[⟨23,.data⟩],none⟩)
 obtain ⟨v0,hv0,bc0,sv0,hp0⟩:=Xo (k:=0) (j:=23) h0 rfl hr hI (by decide);obtain rfl:v0=_:=hp0.1.1;have e0:E.look (W2 a 95) 36=_:=Y3 (by decide) hv0;refine Xw h0 (Xy (deps:=[]) hI.ag (fun _ _ h=>by cases h)) (Za J (Z8 (vs:=[(0,Vj 255 bc0),(2,.bool true)]) (cs:=[Vj 255 bc0,.nilFunc,.bool true,.bool false]) (tb J) (by simp only [parts,ev,e0,List.nil_append,fnV]) (by kernel_rfl)) (hI.next (deps:=[]) (fun _ _ h=>by cases h) (by decide) J fun w' hs=>?_));exact ⟨⟨Vj 255 bc0,.nilFunc,bc0,w0.heap.size,sv0,Vm⟩,J,⟨⟨hp0.1.mono hs.low.below,hp0.2⟩,⟨J,Nat.le_refl _,Wr _⟩⟩⟩
theorem op25:OpS 25:=op_null (by kernel_rfl:(Ys Tryz.f104.body)[25]?=some ⟨some 38,.build 71 #[(0,.const (.int .i64 5))],71,"operations.go:23",#[],none⟩) rfl (by decide) rfl rfl
theorem op26:OpS 26:=op_lay (k:=0) (j:=25) (by kernel_rfl:(Ys Tryz.f104.body)[26]?=some ⟨some 39,.call ⟨.value (.func 143),#[.tmp 38],#[71]⟩,260,"operations.go:38",#[⟨25,.data⟩,⟨23,.chain⟩],none⟩) rfl rfl (by decide) rfl rfl rfl (by decide) rfl
theorem op27:OpS 27:=by
 intro w0 b1 b2 b3 q fn Z κ l a w hI hr;have h0:=(by kernel_rfl:(Ys Tryz.f104.body)[27]?=some ⟨some 40,.build 264 #[(1,.tmp 39)],264,"operations.go:23",#[⟨26,.data⟩],none⟩)
 obtain ⟨v0,hv0,bc0,sv0,hp0⟩:=Xo (k:=0) (j:=26) h0 rfl hr hI (by decide);obtain rfl:v0=_:=hp0.1.1;have e0:E.look (W2 a 95) 39=_:=Y3 (by decide) hv0;refine Xw h0 (Xy (deps:=[]) hI.ag (fun _ _ h=>by cases h)) (Za J (Z8 (vs:=[(1,Vj 251 bc0)]) (cs:=[.nilFunc,Vj 251 bc0,.bool false,.bool false]) (tb J) (by simp only [parts,ev,e0,List.nil_append,fnV]) (by kernel_rfl)) (hI.next (deps:=[]) (fun _ _ h=>by cases h) (by decide) J fun w' hs=>?_));exact ⟨⟨.nilFunc,Vj 251 bc0,w0.heap.size,bc0,Vm,sv0⟩,J,⟨⟨J,Nat.le_refl _,Wr _⟩,⟨hp0.1.mono hs.low.below,hp0.2⟩⟩⟩
theorem op28:OpS 28:=by
 intro w0 b1 b2 b3 q fn Z κ l a w hI hr;have h0:=(by kernel_rfl:(Ys Tryz.f104.body)[28]?=some ⟨some 41,.build 264 #[(1,.func 149)],264,"operations.go:23",#[],none⟩)
 refine Xw h0 (Xy (deps:=[]) hI.ag (fun _ _ h=>by cases h)) (Za J (Z8 (vs:=[(1,fnV 149)]) (cs:=[.nilFunc,fnV 149,.bool false,.bool false]) (tb J) (by rfl) (by kernel_rfl)) (hI.next (deps:=[]) (fun _ _ h=>by cases h) (by decide) J fun w' hs=>?_));exact ⟨⟨.nilFunc,fnV 149,w0.heap.size,w0.heap.size,Vm,Vm⟩,J,⟨⟨J,Nat.le_refl _,Wr _⟩,⟨J,Nat.le_refl _,Wr _⟩⟩⟩
theorem op29:OpS 29:=by
 intro w0 b1 b2 b3 q fn Z κ l a w hI hr;have h0:=(by kernel_rfl:(Ys Tryz.f104.body)[29]?=some ⟨some 42,.build 264 #[(0,.func 150),(1,.func 151)],264,"operations.go:23",#[],none⟩)
 refine Xw h0 (Xy (deps:=[]) hI.ag (fun _ _ h=>by cases h)) (Za J (Z8 (vs:=[(0,fnV 150),(1,fnV 151)]) (cs:=[fnV 150,fnV 151,.bool false,.bool false]) (tb J) (by rfl) (by kernel_rfl)) (hI.next (deps:=[]) (fun _ _ h=>by cases h) (by decide) J fun w' hs=>?_));exact ⟨⟨fnV 150,fnV 151,w0.heap.size,w0.heap.size,Vm,Vm⟩,J,⟨⟨J,Nat.le_refl _,Wr _⟩,⟨J,Nat.le_refl _,Wr _⟩⟩⟩
theorem op30:OpS 30:=by
 intro w0 b1 b2 b3 q fn Z κ l a w hI hr;have h0:=(by kernel_rfl:(Ys Tryz.f104.body)[30]?=some ⟨some 43,.build 264 #[(0,.func 152)],264,"operations.go:23",#[],none⟩)
 refine Xw h0 (Xy (deps:=[]) hI.ag (fun _ _ h=>by cases h)) (Za J (Z8 (vs:=[(0,fnV 152)]) (cs:=[fnV 152,.nilFunc,.bool false,.bool false]) (tb J) (by rfl) (by kernel_rfl)) (hI.next (deps:=[]) (fun _ _ h=>by cases h) (by decide) J fun w' hs=>?_));exact ⟨⟨fnV 152,.nilFunc,w0.heap.size,w0.heap.size,Vm,Vm⟩,J,⟨⟨J,Nat.le_refl _,Wr _⟩,⟨J,Nat.le_refl _,Wr _⟩⟩⟩
theorem op31:OpS 31:=by
 intro w0 b1 b2 b3 q fn Z κ l a w hI hr;have h0:=(by kernel_rfl:(Ys Tryz.f104.body)[31]?=some ⟨some 44,.build 264 #[(1,.func 151)],264,"operations.go:23",#[],none⟩)
 refine Xw h0 (Xy (deps:=[]) hI.ag (fun _ _ h=>by cases h)) (Za J (Z8 (vs:=[(1,fnV 151)]) (cs:=[.nilFunc,fnV 151,.bool false,.bool false]) (tb J) (by rfl) (by kernel_rfl)) (hI.next (deps:=[]) (fun _ _ h=>by cases h) (by decide) J fun w' hs=>?_));exact ⟨⟨.nilFunc,fnV 151,w0.heap.size,w0.heap.size,Vm,Vm⟩,J,⟨⟨J,Nat.le_refl _,Wr _⟩,⟨J,Nat.le_refl _,Wr _⟩⟩⟩
theorem op32:OpS 32:=by
 intro w0 b1 b2 b3 q fn Z κ l a w hI hr;have h0:=(by kernel_rfl:(Ys Tryz.f104.body)[32]?=some ⟨some 45,.build 264 #[(0,.func 153)],264,"operations.go:23",#[],none⟩)
 refine Xw h0 (Xy (deps:=[]) hI.ag (fun _ _ h=>by cases h)) (Za J (Z8 (vs:=[(0,fnV 153)]) (cs:=[fnV 153,.nilFunc,.bool false,.bool false]) (tb J) (by rfl) (by kernel_rfl)) (hI.next (deps:=[]) (fun _ _ h=>by cases h) (by decide) J fun w' hs=>?_));exact ⟨⟨fnV 153,.nilFunc,w0.heap.size,w0.heap.size,Vm,Vm⟩,J,⟨⟨J,Nat.le_refl _,Wr _⟩,⟨J,Nat.le_refl _,Wr _⟩⟩⟩
theorem op33:OpS 33:=by
 intro w0 b1 b2 b3 q fn Z κ l a w hI hr;have h0:=(by kernel_rfl:(Ys Tryz.f104.body)[33]?=some ⟨some 46,.build 264 #[(0,.func 154),(1,.func 151)],264,"operations.go:23",#[],none⟩)
 refine Xw h0 (Xy (deps:=[]) hI.ag (fun _ _ h=>by cases h)) (Za J (Z8 (vs:=[(0,fnV 154),(1,fnV 151)]) (cs:=[fnV 154,fnV 151,.bool false,.bool false]) (tb J) (by rfl) (by kernel_rfl)) (hI.next (deps:=[]) (fun _ _ h=>by cases h) (by decide) J fun w' hs=>?_));exact ⟨⟨fnV 154,fnV 151,w0.heap.size,w0.heap.size,Vm,Vm⟩,J,⟨⟨J,Nat.le_refl _,Wr _⟩,⟨J,Nat.le_refl _,Wr _⟩⟩⟩
theorem op34:OpS 34:=by
 intro w0 b1 b2 b3 q fn Z κ l a w hI hr;have h0:=(by kernel_rfl:(Ys Tryz.f104.body)[34]?=some ⟨some 47,.build 264 #[(0,.func 155),(1,.func 151)],264,"operations.go:23",#[],none⟩)
 refine Xw h0 (Xy (deps:=[]) hI.ag (fun _ _ h=>by cases h)) (Za J (Z8 (vs:=[(0,fnV 155),(1,fnV 151)]) (cs:=[fnV 155,fnV 151,.bool false,.bool false]) (tb J) (by rfl) (by kernel_rfl)) (hI.next (deps:=[]) (fun _ _ h=>by cases h) (by decide) J fun w' hs=>?_));exact ⟨⟨fnV 155,fnV 151,w0.heap.size,w0.heap.size,Vm,Vm⟩,J,⟨⟨J,Nat.le_refl _,Wr _⟩,⟨J,Nat.le_refl _,Wr _⟩⟩⟩
theorem op35:OpS 35:=by
 intro w0 b1 b2 b3 q fn Z κ l a w hI hr;have h0:=(by kernel_rfl:(Ys Tryz.f104.body)[35]?=some ⟨some 48,.build 264 #[(0,.func 156),(3,.const (.bool true))],264,"operations.go:23",#[],none⟩)
 refine Xw h0 (Xy (deps:=[]) hI.ag (fun _ _ h=>by cases h)) (Za J (Z8 (vs:=[(0,fnV 156),(3,.bool true)]) (cs:=[fnV 156,.nilFunc,.bool false,.bool true]) (tb J) (by rfl) (by kernel_rfl)) (hI.next (deps:=[]) (fun _ _ h=>by cases h) (by decide) J fun w' hs=>?_));exact ⟨⟨fnV 156,.nilFunc,w0.heap.size,w0.heap.size,Vm,Vm⟩,J,⟨⟨J,Nat.le_refl _,Wr _⟩,⟨J,Nat.le_refl _,Wr _⟩⟩⟩
theorem op36:OpS 36:=by
 intro w0 b1 b2 b3 q fn Z κ l a w hI hr;have h0:=(by kernel_rfl:(Ys Tryz.f104.body)[36]?=some ⟨some 49,.build 264 #[(0,.func 157),(3,.const (.bool true))],264,"operations.go:23",#[],none⟩)
 refine Xw h0 (Xy (deps:=[]) hI.ag (fun _ _ h=>by cases h)) (Za J (Z8 (vs:=[(0,fnV 157),(3,.bool true)]) (cs:=[fnV 157,.nilFunc,.bool false,.bool true]) (tb J) (by rfl) (by kernel_rfl)) (hI.next (deps:=[]) (fun _ _ h=>by cases h) (by decide) J fun w' hs=>?_));exact ⟨⟨fnV 157,.nilFunc,w0.heap.size,w0.heap.size,Vm,Vm⟩,J,⟨⟨J,Nat.le_refl _,Wr _⟩,⟨J,Nat.le_refl _,Wr _⟩⟩⟩
theorem op37:OpS 37:=op_obj (by kernel_rfl:(Ys Tryz.f104.body)[37]?=some ⟨some 50,.call ⟨.value (.func 158),#[.const (.string ⟨#[84,104,114,111,119,97,98,108,101]⟩)],#[9]⟩,71,"operations.go:48",#[⟨26,.chain⟩],none⟩) rfl (by decide) rfl rfl
theorem op38:OpS 38:=op_tys1 (k0:=0) (j0:=37) (by kernel_rfl:(Ys Tryz.f104.body)[38]?=some ⟨some 51,.buildSlice 69 1 #[(0,.tmp 50)],69,"operations.go:23",#[⟨37,.data⟩],none⟩) rfl rfl (by decide) rfl rfl (by decide) rfl rfl rfl
theorem op39:OpS 39:=O2 (k:=0) (j:=38) (by kernel_rfl:(Ys Tryz.f104.body)[39]?=some ⟨some 52,.call ⟨.value (.func 142),#[.tmp 51],#[69]⟩,260,"operations.go:48",#[⟨38,.data⟩,⟨37,.chain⟩],none⟩) rfl rfl (by decide) rfl rfl rfl (by decide) rfl
theorem op40:OpS 40:=by
 intro w0 b1 b2 b3 q fn Z κ l a w hI hr;have h0:=(by kernel_rfl:(Ys Tryz.f104.body)[40]?=some ⟨some 53,.build 264 #[(0,.tmp 52),(3,.const (.bool true))],264,"operations.go:23",#[⟨39,.data⟩],none⟩)
 obtain ⟨v0,hv0,bc0,sv0,hp0⟩:=Xo (k:=0) (j:=39) h0 rfl hr hI (by decide);obtain rfl:v0=_:=hp0.1.1;have e0:E.look (W2 a 95) 52=_:=Y3 (by decide) hv0;refine Xw h0 (Xy (deps:=[]) hI.ag (fun _ _ h=>by cases h)) (Za J (Z8 (vs:=[(0,Vj 249 bc0),(3,.bool true)]) (cs:=[Vj 249 bc0,.nilFunc,.bool false,.bool true]) (tb J) (by simp only [parts,ev,e0,List.nil_append,fnV]) (by kernel_rfl)) (hI.next (deps:=[]) (fun _ _ h=>by cases h) (by decide) J fun w' hs=>?_));exact ⟨⟨Vj 249 bc0,.nilFunc,bc0,w0.heap.size,sv0,Vm⟩,J,⟨⟨hp0.1.mono hs.low.below,hp0.2⟩,⟨J,Nat.le_refl _,Wr _⟩⟩⟩
theorem op41:OpS 41:=op_ints2 (by kernel_rfl:(Ys Tryz.f104.body)[41]?=some ⟨some 54,.buildSlice 54 2 #[(0,.const (.int .i64 3)),(1,.const (.int .i64 5))],54,"operations.go:23",#[],none⟩) rfl (by decide) rfl rfl
theorem op42:OpS 42:=op_kind (k:=0) (j:=41) (by kernel_rfl:(Ys Tryz.f104.body)[42]?=some ⟨some 55,.call ⟨.value (.func 148),#[.tmp 54],#[54]⟩,260,"operations.go:49",#[⟨41,.data⟩,⟨39,.chain⟩],none⟩) rfl rfl (by decide) rfl rfl rfl (by decide) rfl
theorem op43:OpS 43:=by
 intro w0 b1 b2 b3 q fn Z κ l a w hI hr;have h0:=(by kernel_rfl:(Ys Tryz.f104.body)[43]?=some ⟨some 56,.build 264 #[(0,.tmp 55),(1,.func 149)],264,"operations.go:23",#[⟨42,.data⟩],none⟩)
 obtain ⟨v0,hv0,bc0,sv0,hp0⟩:=Xo (k:=0) (j:=42) h0 rfl hr hI (by decide);obtain rfl:v0=_:=hp0.1.1;have e0:E.look (W2 a 95) 55=_:=Y3 (by decide) hv0;refine Xw h0 (Xy (deps:=[]) hI.ag (fun _ _ h=>by cases h)) (Za J (Z8 (vs:=[(0,Vj 255 bc0),(1,fnV 149)]) (cs:=[Vj 255 bc0,fnV 149,.bool false,.bool false]) (tb J) (by simp only [parts,ev,e0,List.nil_append,fnV]) (by kernel_rfl)) (hI.next (deps:=[]) (fun _ _ h=>by cases h) (by decide) J fun w' hs=>?_));exact ⟨⟨Vj 255 bc0,fnV 149,bc0,w0.heap.size,sv0,Vm⟩,J,⟨⟨hp0.1.mono hs.low.below,hp0.2⟩,⟨J,Nat.le_refl _,Wr _⟩⟩⟩
theorem op44:OpS 44:=op_ints2 (by kernel_rfl:(Ys Tryz.f104.body)[44]?=some ⟨some 57,.buildSlice 54 2 #[(0,.const (.int .i64 3)),(1,.const (.int .i64 5))],54,"operations.go:23",#[],none⟩) rfl (by decide) rfl rfl
theorem op45:OpS 45:=op_kind (k:=0) (j:=44) (by kernel_rfl:(Ys Tryz.f104.body)[45]?=some ⟨some 58,.call ⟨.value (.func 148),#[.tmp 57],#[54]⟩,260,"operations.go:50",#[⟨44,.data⟩,⟨42,.chain⟩],none⟩) rfl rfl (by decide) rfl rfl rfl (by decide) rfl
theorem op46:OpS 46:=Tm (by kernel_rfl:(Ys Tryz.f104.body)[46]?=some ⟨some 59,.load 71 (.tmp 1),71,"operations.go:23",#[],none⟩) rfl (by decide) rfl rfl
theorem op47:OpS 47:=op_lay (k:=0) (j:=46) (by kernel_rfl:(Ys Tryz.f104.body)[47]?=some ⟨some 60,.call ⟨.value (.func 143),#[.tmp 59],#[71]⟩,260,"operations.go:50",#[⟨46,.data⟩,⟨45,.chain⟩],none⟩) rfl rfl (by decide) rfl rfl rfl (by decide) rfl
theorem op48:OpS 48:=by
 intro w0 b1 b2 b3 q fn Z κ l a w hI hr;have h0:=(by kernel_rfl:(Ys Tryz.f104.body)[48]?=some ⟨some 61,.build 264 #[(0,.tmp 58),(1,.tmp 60)],264,"operations.go:23",#[⟨45,.data⟩,⟨47,.data⟩],none⟩)
 obtain ⟨v0,hv0,bc0,sv0,hp0⟩:=Xo (k:=0) (j:=45) h0 rfl hr hI (by decide);obtain rfl:v0=_:=hp0.1.1;have e0:E.look (W2 a 95) 58=_:=Y3 (by decide) hv0;obtain ⟨v1,hv1,bc1,sv1,hp1⟩:=Xo (k:=1) (j:=47) h0 rfl hr hI (by decide);obtain rfl:v1=_:=hp1.1.1;have e1:E.look (W2 a 95) 60=_:=Y3 (by decide) hv1;refine Xw h0 (Xy (deps:=[]) hI.ag (fun _ _ h=>by cases h)) (Za J (Z8 (vs:=[(0,Vj 255 bc0),(1,Vj 251 bc1)]) (cs:=[Vj 255 bc0,Vj 251 bc1,.bool false,.bool false]) (tb J) (by simp only [parts,ev,e0,e1,List.nil_append,fnV]) (by kernel_rfl)) (hI.next (deps:=[]) (fun _ _ h=>by cases h) (by decide) J fun w' hs=>?_));exact ⟨⟨Vj 255 bc0,Vj 251 bc1,bc0,bc1,sv0,sv1⟩,J,⟨⟨hp0.1.mono hs.low.below,hp0.2⟩,⟨hp1.1.mono hs.low.below,hp1.2⟩⟩⟩
theorem op49:OpS 49:=Tm (by kernel_rfl:(Ys Tryz.f104.body)[49]?=some ⟨some 62,.load 71 (.tmp 1),71,"operations.go:23",#[],none⟩) rfl (by decide) rfl rfl
theorem op50:OpS 50:=op_tys1 (k0:=0) (j0:=49) (by kernel_rfl:(Ys Tryz.f104.body)[50]?=some ⟨some 63,.buildSlice 69 1 #[(0,.tmp 62)],69,"operations.go:23",#[⟨49,.data⟩],none⟩) rfl rfl (by decide) rfl rfl (by decide) rfl rfl rfl
theorem op51:OpS 51:=O2 (k:=0) (j:=50) (by kernel_rfl:(Ys Tryz.f104.body)[51]?=some ⟨some 64,.call ⟨.value (.func 142),#[.tmp 63],#[69]⟩,260,"operations.go:51",#[⟨50,.data⟩,⟨47,.chain⟩],none⟩) rfl rfl (by decide) rfl rfl rfl (by decide) rfl
theorem op52:OpS 52:=by
 intro w0 b1 b2 b3 q fn Z κ l a w hI hr;have h0:=(by kernel_rfl:(Ys Tryz.f104.body)[52]?=some ⟨some 65,.build 264 #[(0,.tmp 64)],264,"operations.go:23",#[⟨51,.data⟩],none⟩)
 obtain ⟨v0,hv0,bc0,sv0,hp0⟩:=Xo (k:=0) (j:=51) h0 rfl hr hI (by decide);obtain rfl:v0=_:=hp0.1.1;have e0:E.look (W2 a 95) 64=_:=Y3 (by decide) hv0;refine Xw h0 (Xy (deps:=[]) hI.ag (fun _ _ h=>by cases h)) (Za J (Z8 (vs:=[(0,Vj 249 bc0)]) (cs:=[Vj 249 bc0,.nilFunc,.bool false,.bool false]) (tb J) (by simp only [parts,ev,e0,List.nil_append,fnV]) (by kernel_rfl)) (hI.next (deps:=[]) (fun _ _ h=>by cases h) (by decide) J fun w' hs=>?_));exact ⟨⟨Vj 249 bc0,.nilFunc,bc0,w0.heap.size,sv0,Vm⟩,J,⟨⟨hp0.1.mono hs.low.below,hp0.2⟩,⟨J,Nat.le_refl _,Wr _⟩⟩⟩
theorem op53:OpS 53:=Tm (by kernel_rfl:(Ys Tryz.f104.body)[53]?=some ⟨some 66,.load 71 (.tmp 1),71,"operations.go:23",#[],none⟩) rfl (by decide) rfl rfl
theorem op54:OpS 54:=op_lay (k:=0) (j:=53) (by kernel_rfl:(Ys Tryz.f104.body)[54]?=some ⟨some 67,.call ⟨.value (.func 143),#[.tmp 66],#[71]⟩,260,"operations.go:52",#[⟨53,.data⟩,⟨51,.chain⟩],none⟩) rfl rfl (by decide) rfl rfl rfl (by decide) rfl
theorem op55:OpS 55:=by
 intro w0 b1 b2 b3 q fn Z κ l a w hI hr;have h0:=(by kernel_rfl:(Ys Tryz.f104.body)[55]?=some ⟨some 68,.build 264 #[(1,.tmp 67)],264,"operations.go:23",#[⟨54,.data⟩],none⟩)
 obtain ⟨v0,hv0,bc0,sv0,hp0⟩:=Xo (k:=0) (j:=54) h0 rfl hr hI (by decide);obtain rfl:v0=_:=hp0.1.1;have e0:E.look (W2 a 95) 67=_:=Y3 (by decide) hv0;refine Xw h0 (Xy (deps:=[]) hI.ag (fun _ _ h=>by cases h)) (Za J (Z8 (vs:=[(1,Vj 251 bc0)]) (cs:=[.nilFunc,Vj 251 bc0,.bool false,.bool false]) (tb J) (by simp only [parts,ev,e0,List.nil_append,fnV]) (by kernel_rfl)) (hI.next (deps:=[]) (fun _ _ h=>by cases h) (by decide) J fun w' hs=>?_));exact ⟨⟨.nilFunc,Vj 251 bc0,w0.heap.size,bc0,Vm,sv0⟩,J,⟨⟨J,Nat.le_refl _,Wr _⟩,⟨hp0.1.mono hs.low.below,hp0.2⟩⟩⟩
theorem op56:OpS 56:=Tm (by kernel_rfl:(Ys Tryz.f104.body)[56]?=some ⟨some 69,.load 71 (.tmp 1),71,"operations.go:23",#[],none⟩) rfl (by decide) rfl rfl
theorem op57:OpS 57:=op_tys1 (k0:=0) (j0:=56) (by kernel_rfl:(Ys Tryz.f104.body)[57]?=some ⟨some 70,.buildSlice 69 1 #[(0,.tmp 69)],69,"operations.go:23",#[⟨56,.data⟩],none⟩) rfl rfl (by decide) rfl rfl (by decide) rfl rfl rfl
theorem op58:OpS 58:=O2 (k:=0) (j:=57) (by kernel_rfl:(Ys Tryz.f104.body)[58]?=some ⟨some 71,.call ⟨.value (.func 142),#[.tmp 70],#[69]⟩,260,"operations.go:53",#[⟨57,.data⟩,⟨54,.chain⟩],none⟩) rfl rfl (by decide) rfl rfl rfl (by decide) rfl
theorem op59:OpS 59:=op_ldRow (by kernel_rfl:(Ys Tryz.f104.body)[59]?=some ⟨some 72,.load 71 (.tmp 2),71,"operations.go:23",#[],none⟩) rfl (by decide) rfl rfl
theorem op60:OpS 60:=op_lay (k:=0) (j:=59) (by kernel_rfl:(Ys Tryz.f104.body)[60]?=some ⟨some 73,.call ⟨.value (.func 143),#[.tmp 72],#[71]⟩,260,"operations.go:53",#[⟨59,.data⟩,⟨58,.chain⟩],none⟩) rfl rfl (by decide) rfl rfl rfl (by decide) rfl
theorem op61:OpS 61:=by
 intro w0 b1 b2 b3 q fn Z κ l a w hI hr;have h0:=(by kernel_rfl:(Ys Tryz.f104.body)[61]?=some ⟨some 74,.build 264 #[(0,.tmp 71),(1,.tmp 73)],264,"operations.go:23",#[⟨58,.data⟩,⟨60,.data⟩],none⟩)
 obtain ⟨v0,hv0,bc0,sv0,hp0⟩:=Xo (k:=0) (j:=58) h0 rfl hr hI (by decide);obtain rfl:v0=_:=hp0.1.1;have e0:E.look (W2 a 95) 71=_:=Y3 (by decide) hv0;obtain ⟨v1,hv1,bc1,sv1,hp1⟩:=Xo (k:=1) (j:=60) h0 rfl hr hI (by decide);obtain rfl:v1=_:=hp1.1.1;have e1:E.look (W2 a 95) 73=_:=Y3 (by decide) hv1;refine Xw h0 (Xy (deps:=[]) hI.ag (fun _ _ h=>by cases h)) (Za J (Z8 (vs:=[(0,Vj 249 bc0),(1,Vj 251 bc1)]) (cs:=[Vj 249 bc0,Vj 251 bc1,.bool false,.bool false]) (tb J) (by simp only [parts,ev,e0,e1,List.nil_append,fnV]) (by kernel_rfl)) (hI.next (deps:=[]) (fun _ _ h=>by cases h) (by decide) J fun w' hs=>?_));exact ⟨⟨Vj 249 bc0,Vj 251 bc1,bc0,bc1,sv0,sv1⟩,J,⟨⟨hp0.1.mono hs.low.below,hp0.2⟩,⟨hp1.1.mono hs.low.below,hp1.2⟩⟩⟩
theorem op62:OpS 62:=op_ldRow (by kernel_rfl:(Ys Tryz.f104.body)[62]?=some ⟨some 75,.load 71 (.tmp 2),71,"operations.go:23",#[],none⟩) rfl (by decide) rfl rfl
theorem op63:OpS 63:=Tm (by kernel_rfl:(Ys Tryz.f104.body)[63]?=some ⟨some 76,.load 71 (.tmp 1),71,"operations.go:23",#[],none⟩) rfl (by decide) rfl rfl
theorem op64:OpS 64:=op_tys2 (k0:=0) (j0:=62) (k1:=1) (j1:=63) (by kernel_rfl:(Ys Tryz.f104.body)[64]?=some ⟨some 77,.buildSlice 69 2 #[(0,.tmp 75),(1,.tmp 76)],69,"operations.go:23",#[⟨62,.data⟩,⟨63,.data⟩],none⟩) rfl rfl (by decide) rfl rfl rfl (by decide) rfl rfl (by decide) rfl rfl rfl
theorem op65:OpS 65:=O2 (k:=0) (j:=64) (by kernel_rfl:(Ys Tryz.f104.body)[65]?=some ⟨some 78,.call ⟨.value (.func 142),#[.tmp 77],#[69]⟩,260,"operations.go:54",#[⟨64,.data⟩,⟨60,.chain⟩],none⟩) rfl rfl (by decide) rfl rfl rfl (by decide) rfl
theorem op66:OpS 66:=Tm (by kernel_rfl:(Ys Tryz.f104.body)[66]?=some ⟨some 79,.load 71 (.tmp 1),71,"operations.go:23",#[],none⟩) rfl (by decide) rfl rfl
theorem op67:OpS 67:=op_lay (k:=0) (j:=66) (by kernel_rfl:(Ys Tryz.f104.body)[67]?=some ⟨some 80,.call ⟨.value (.func 143),#[.tmp 79],#[71]⟩,260,"operations.go:54",#[⟨66,.data⟩,⟨65,.chain⟩],none⟩) rfl rfl (by decide) rfl rfl rfl (by decide) rfl
theorem op68:OpS 68:=by
 intro w0 b1 b2 b3 q fn Z κ l a w hI hr;have h0:=(by kernel_rfl:(Ys Tryz.f104.body)[68]?=some ⟨some 81,.build 264 #[(0,.tmp 78),(1,.tmp 80)],264,"operations.go:23",#[⟨65,.data⟩,⟨67,.data⟩],none⟩)
 obtain ⟨v0,hv0,bc0,sv0,hp0⟩:=Xo (k:=0) (j:=65) h0 rfl hr hI (by decide);obtain rfl:v0=_:=hp0.1.1;have e0:E.look (W2 a 95) 78=_:=Y3 (by decide) hv0;obtain ⟨v1,hv1,bc1,sv1,hp1⟩:=Xo (k:=1) (j:=67) h0 rfl hr hI (by decide);obtain rfl:v1=_:=hp1.1.1;have e1:E.look (W2 a 95) 80=_:=Y3 (by decide) hv1;refine Xw h0 (Xy (deps:=[]) hI.ag (fun _ _ h=>by cases h)) (Za J (Z8 (vs:=[(0,Vj 249 bc0),(1,Vj 251 bc1)]) (cs:=[Vj 249 bc0,Vj 251 bc1,.bool false,.bool false]) (tb J) (by simp only [parts,ev,e0,e1,List.nil_append,fnV]) (by kernel_rfl)) (hI.next (deps:=[]) (fun _ _ h=>by cases h) (by decide) J fun w' hs=>?_));exact ⟨⟨Vj 249 bc0,Vj 251 bc1,bc0,bc1,sv0,sv1⟩,J,⟨⟨hp0.1.mono hs.low.below,hp0.2⟩,⟨hp1.1.mono hs.low.below,hp1.2⟩⟩⟩
theorem op69:OpS 69:=op_ldRow (by kernel_rfl:(Ys Tryz.f104.body)[69]?=some ⟨some 82,.load 71 (.tmp 2),71,"operations.go:23",#[],none⟩) rfl (by decide) rfl rfl
theorem op70:OpS 70:=Tm (by kernel_rfl:(Ys Tryz.f104.body)[70]?=some ⟨some 83,.load 71 (.tmp 1),71,"operations.go:23",#[],none⟩) rfl (by decide) rfl rfl
theorem op71:OpS 71:=Tm (by kernel_rfl:(Ys Tryz.f104.body)[71]?=some ⟨some 84,.load 71 (.tmp 1),71,"operations.go:23",#[],none⟩) rfl (by decide) rfl rfl
theorem op72:OpS 72:=op_tys3 (k0:=0) (j0:=69) (k1:=1) (j1:=70) (k2:=2) (j2:=71) (by kernel_rfl:(Ys Tryz.f104.body)[72]?=some ⟨some 85,.buildSlice 69 3 #[(0,.tmp 82),(1,.tmp 83),(2,.tmp 84)],69,"operations.go:23",#[⟨69,.data⟩,⟨70,.data⟩,⟨71,.data⟩],none⟩) rfl rfl (by decide) rfl rfl rfl (by decide) rfl rfl rfl (by decide) rfl rfl (by decide) rfl rfl rfl
theorem op73:OpS 73:=O2 (k:=0) (j:=72) (by kernel_rfl:(Ys Tryz.f104.body)[73]?=some ⟨some 86,.call ⟨.value (.func 142),#[.tmp 85],#[69]⟩,260,"operations.go:55",#[⟨72,.data⟩,⟨67,.chain⟩],none⟩) rfl rfl (by decide) rfl rfl rfl (by decide) rfl
theorem op74:OpS 74:=by
 intro w0 b1 b2 b3 q fn Z κ l a w hI hr;have h0:=(by kernel_rfl:(Ys Tryz.f104.body)[74]?=some ⟨some 87,.build 264 #[(0,.tmp 86)],264,"operations.go:23",#[⟨73,.data⟩],none⟩)
 obtain ⟨v0,hv0,bc0,sv0,hp0⟩:=Xo (k:=0) (j:=73) h0 rfl hr hI (by decide);obtain rfl:v0=_:=hp0.1.1;have e0:E.look (W2 a 95) 86=_:=Y3 (by decide) hv0;refine Xw h0 (Xy (deps:=[]) hI.ag (fun _ _ h=>by cases h)) (Za J (Z8 (vs:=[(0,Vj 249 bc0)]) (cs:=[Vj 249 bc0,.nilFunc,.bool false,.bool false]) (tb J) (by simp only [parts,ev,e0,List.nil_append,fnV]) (by kernel_rfl)) (hI.next (deps:=[]) (fun _ _ h=>by cases h) (by decide) J fun w' hs=>?_));exact ⟨⟨Vj 249 bc0,.nilFunc,bc0,w0.heap.size,sv0,Vm⟩,J,⟨⟨hp0.1.mono hs.low.below,hp0.2⟩,⟨J,Nat.le_refl _,Wr _⟩⟩⟩
theorem op75:OpS 75:=op_ldRow (by kernel_rfl:(Ys Tryz.f104.body)[75]?=some ⟨some 88,.load 71 (.tmp 2),71,"operations.go:23",#[],none⟩) rfl (by decide) rfl rfl
theorem op76:OpS 76:=op_tys1 (k0:=0) (j0:=75) (by kernel_rfl:(Ys Tryz.f104.body)[76]?=some ⟨some 89,.buildSlice 69 1 #[(0,.tmp 88)],69,"operations.go:23",#[⟨75,.data⟩],none⟩) rfl rfl (by decide) rfl rfl (by decide) rfl rfl rfl
theorem op77:OpS 77:=O2 (k:=0) (j:=76) (by kernel_rfl:(Ys Tryz.f104.body)[77]?=some ⟨some 90,.call ⟨.value (.func 142),#[.tmp 89],#[69]⟩,260,"operations.go:56",#[⟨76,.data⟩,⟨73,.chain⟩],none⟩) rfl rfl (by decide) rfl rfl rfl (by decide) rfl
theorem op78:OpS 78:=Tm (by kernel_rfl:(Ys Tryz.f104.body)[78]?=some ⟨some 91,.load 71 (.tmp 1),71,"operations.go:23",#[],none⟩) rfl (by decide) rfl rfl
theorem op79:OpS 79:=op_lay (k:=0) (j:=78) (by kernel_rfl:(Ys Tryz.f104.body)[79]?=some ⟨some 92,.call ⟨.value (.func 143),#[.tmp 91],#[71]⟩,260,"operations.go:56",#[⟨78,.data⟩,⟨77,.chain⟩],none⟩) rfl rfl (by decide) rfl rfl rfl (by decide) rfl
theorem op80:OpS 80:=by
 intro w0 b1 b2 b3 q fn Z κ l a w hI hr;have h0:=(by kernel_rfl:(Ys Tryz.f104.body)[80]?=some ⟨some 93,.build 264 #[(0,.tmp 90),(1,.tmp 92)],264,"operations.go:23",#[⟨77,.data⟩,⟨79,.data⟩],none⟩)
 obtain ⟨v0,hv0,bc0,sv0,hp0⟩:=Xo (k:=0) (j:=77) h0 rfl hr hI (by decide);obtain rfl:v0=_:=hp0.1.1;have e0:E.look (W2 a 95) 90=_:=Y3 (by decide) hv0;obtain ⟨v1,hv1,bc1,sv1,hp1⟩:=Xo (k:=1) (j:=79) h0 rfl hr hI (by decide);obtain rfl:v1=_:=hp1.1.1;have e1:E.look (W2 a 95) 92=_:=Y3 (by decide) hv1;refine Xw h0 (Xy (deps:=[]) hI.ag (fun _ _ h=>by cases h)) (Za J (Z8 (vs:=[(0,Vj 249 bc0),(1,Vj 251 bc1)]) (cs:=[Vj 249 bc0,Vj 251 bc1,.bool false,.bool false]) (tb J) (by simp only [parts,ev,e0,e1,List.nil_append,fnV]) (by kernel_rfl)) (hI.next (deps:=[]) (fun _ _ h=>by cases h) (by decide) J fun w' hs=>?_));exact ⟨⟨Vj 249 bc0,Vj 251 bc1,bc0,bc1,sv0,sv1⟩,J,⟨⟨hp0.1.mono hs.low.below,hp0.2⟩,⟨hp1.1.mono hs.low.below,hp1.2⟩⟩⟩
set_option maxRecDepth 8000 in
theorem op81:OpS 81:=by
 intro w0 b1 b2 b3 q fn Z κ l a w hI hr;have h0:=(by kernel_rfl:(Ys Tryz.f104.body)[81]?=some ⟨some 94,.buildSlice 198 33 #[(0,.tmp 13),(1,.tmp 16),(2,.tmp 17),(3,.tmp 18),(4,.tmp 19),(5,.tmp 20),(6,.tmp 21),(7,.tmp 22),(8,.tmp 23),(9,.tmp 24),(10,.tmp 25),(11,.tmp 29),(12,.tmp 34),(13,.tmp 37),(14,.tmp 40),(15,.tmp 41),(16,.tmp 42),(17,.tmp 43),(18,.tmp 44),(19,.tmp 45),(20,.tmp 46),(21,.tmp 47),(22,.tmp 48),(23,.tmp 49),(24,.tmp 53),(25,.tmp 56),(26,.tmp 61),(27,.tmp 65),(28,.tmp 68),(29,.tmp 74),(30,.tmp 81),(31,.tmp 87),(32,.tmp 93)],198,"operations.go:23",#[⟨0,.data⟩,⟨3,.data⟩,⟨4,.data⟩,⟨5,.data⟩,⟨6,.data⟩,⟨7,.data⟩,⟨8,.data⟩,⟨9,.data⟩,⟨10,.data⟩,⟨11,.data⟩,⟨12,.data⟩,⟨16,.data⟩,⟨21,.data⟩,⟨24,.data⟩,⟨27,.data⟩,⟨28,.data⟩,⟨29,.data⟩,⟨30,.data⟩,⟨31,.data⟩,⟨32,.data⟩,⟨33,.data⟩,⟨34,.data⟩,⟨35,.data⟩,⟨36,.data⟩,⟨40,.data⟩,⟨43,.data⟩,⟨48,.data⟩,⟨52,.data⟩,⟨55,.data⟩,⟨61,.data⟩,⟨68,.data⟩,⟨74,.data⟩,⟨80,.data⟩],none⟩)
 obtain ⟨v0,hv0,q0,rfl,hp0⟩:=Xo (k:=0) (j:=0) h0 rfl hr hI (by decide);have e0:E.look (W2 a 95) 13=_:=Y3 (by decide) hv0;obtain ⟨v1,hv1,q1,rfl,hp1⟩:=Xo (k:=1) (j:=3) h0 rfl hr hI (by decide);have e1:E.look (W2 a 95) 16=_:=Y3 (by decide) hv1;obtain ⟨v2,hv2,q2,rfl,hp2⟩:=Xo (k:=2) (j:=4) h0 rfl hr hI (by decide);have e2:E.look (W2 a 95) 17=_:=Y3 (by decide) hv2;obtain ⟨v3,hv3,q3,rfl,hp3⟩:=Xo (k:=3) (j:=5) h0 rfl hr hI (by decide);have e3:E.look (W2 a 95) 18=_:=Y3 (by decide) hv3;obtain ⟨v4,hv4,q4,rfl,hp4⟩:=Xo (k:=4) (j:=6) h0 rfl hr hI (by decide);have e4:E.look (W2 a 95) 19=_:=Y3 (by decide) hv4;obtain ⟨v5,hv5,q5,rfl,hp5⟩:=Xo (k:=5) (j:=7) h0 rfl hr hI (by decide);have e5:E.look (W2 a 95) 20=_:=Y3 (by decide) hv5;obtain ⟨v6,hv6,q6,rfl,hp6⟩:=Xo (k:=6) (j:=8) h0 rfl hr hI (by decide);have e6:E.look (W2 a 95) 21=_:=Y3 (by decide) hv6;obtain ⟨v7,hv7,q7,rfl,hp7⟩:=Xo (k:=7) (j:=9) h0 rfl hr hI (by decide);have e7:E.look (W2 a 95) 22=_:=Y3 (by decide) hv7;obtain ⟨v8,hv8,q8,rfl,hp8⟩:=Xo (k:=8) (j:=10) h0 rfl hr hI (by decide);have e8:E.look (W2 a 95) 23=_:=Y3 (by decide) hv8;obtain ⟨v9,hv9,q9,rfl,hp9⟩:=Xo (k:=9) (j:=11) h0 rfl hr hI (by decide);have e9:E.look (W2 a 95) 24=_:=Y3 (by decide) hv9;obtain ⟨v10,hv10,q10,rfl,hp10⟩:=Xo (k:=10) (j:=12) h0 rfl hr hI (by decide);have e10:E.look (W2 a 95) 25=_:=Y3 (by decide) hv10;obtain ⟨v11,hv11,q11,rfl,hp11⟩:=Xo (k:=11) (j:=16) h0 rfl hr hI (by decide);have e11:E.look (W2 a 95) 29=_:=Y3 (by decide) hv11;obtain ⟨v12,hv12,q12,rfl,hp12⟩:=Xo (k:=12) (j:=21) h0 rfl hr hI (by decide);have e12:E.look (W2 a 95) 34=_:=Y3 (by decide) hv12;obtain ⟨v13,hv13,q13,rfl,hp13⟩:=Xo (k:=13) (j:=24) h0 rfl hr hI (by decide);have e13:E.look (W2 a 95) 37=_:=Y3 (by decide) hv13;obtain ⟨v14,hv14,q14,rfl,hp14⟩:=Xo (k:=14) (j:=27) h0 rfl hr hI (by decide);have e14:E.look (W2 a 95) 40=_:=Y3 (by decide) hv14;obtain ⟨v15,hv15,q15,rfl,hp15⟩:=Xo (k:=15) (j:=28) h0 rfl hr hI (by decide);have e15:E.look (W2 a 95) 41=_:=Y3 (by decide) hv15;obtain ⟨v16,hv16,q16,rfl,hp16⟩:=Xo (k:=16) (j:=29) h0 rfl hr hI (by decide);have e16:E.look (W2 a 95) 42=_:=Y3 (by decide) hv16;obtain ⟨v17,hv17,q17,rfl,hp17⟩:=Xo (k:=17) (j:=30) h0 rfl hr hI (by decide);have e17:E.look (W2 a 95) 43=_:=Y3 (by decide) hv17;obtain ⟨v18,hv18,q18,rfl,hp18⟩:=Xo (k:=18) (j:=31) h0 rfl hr hI (by decide);have e18:E.look (W2 a 95) 44=_:=Y3 (by decide) hv18;obtain ⟨v19,hv19,q19,rfl,hp19⟩:=Xo (k:=19) (j:=32) h0 rfl hr hI (by decide);have e19:E.look (W2 a 95) 45=_:=Y3 (by decide) hv19;obtain ⟨v20,hv20,q20,rfl,hp20⟩:=Xo (k:=20) (j:=33) h0 rfl hr hI (by decide);have e20:E.look (W2 a 95) 46=_:=Y3 (by decide) hv20;obtain ⟨v21,hv21,q21,rfl,hp21⟩:=Xo (k:=21) (j:=34) h0 rfl hr hI (by decide);have e21:E.look (W2 a 95) 47=_:=Y3 (by decide) hv21;obtain ⟨v22,hv22,q22,rfl,hp22⟩:=Xo (k:=22) (j:=35) h0 rfl hr hI (by decide);have e22:E.look (W2 a 95) 48=_:=Y3 (by decide) hv22;obtain ⟨v23,hv23,q23,rfl,hp23⟩:=Xo (k:=23) (j:=36) h0 rfl hr hI (by decide);have e23:E.look (W2 a 95) 49=_:=Y3 (by decide) hv23;obtain ⟨v24,hv24,q24,rfl,hp24⟩:=Xo (k:=24) (j:=40) h0 rfl hr hI (by decide);have e24:E.look (W2 a 95) 53=_:=Y3 (by decide) hv24;obtain ⟨v25,hv25,q25,rfl,hp25⟩:=Xo (k:=25) (j:=43) h0 rfl hr hI (by decide);have e25:E.look (W2 a 95) 56=_:=Y3 (by decide) hv25;obtain ⟨v26,hv26,q26,rfl,hp26⟩:=Xo (k:=26) (j:=48) h0 rfl hr hI (by decide);have e26:E.look (W2 a 95) 61=_:=Y3 (by decide) hv26;obtain ⟨v27,hv27,q27,rfl,hp27⟩:=Xo (k:=27) (j:=52) h0 rfl hr hI (by decide);have e27:E.look (W2 a 95) 65=_:=Y3 (by decide) hv27;obtain ⟨v28,hv28,q28,rfl,hp28⟩:=Xo (k:=28) (j:=55) h0 rfl hr hI (by decide);have e28:E.look (W2 a 95) 68=_:=Y3 (by decide) hv28;obtain ⟨v29,hv29,q29,rfl,hp29⟩:=Xo (k:=29) (j:=61) h0 rfl hr hI (by decide);have e29:E.look (W2 a 95) 74=_:=Y3 (by decide) hv29;obtain ⟨v30,hv30,q30,rfl,hp30⟩:=Xo (k:=30) (j:=68) h0 rfl hr hI (by decide);have e30:E.look (W2 a 95) 81=_:=Y3 (by decide) hv30;obtain ⟨v31,hv31,q31,rfl,hp31⟩:=Xo (k:=31) (j:=74) h0 rfl hr hI (by decide);have e31:E.look (W2 a 95) 87=_:=Y3 (by decide) hv31;obtain ⟨v32,hv32,q32,rfl,hp32⟩:=Xo (k:=32) (j:=80) h0 rfl hr hI (by decide);have e32:E.look (W2 a 95) 93=_:=Y3 (by decide) hv32;refine Xw h0 (Xy (deps:=[]) hI.ag (fun _ _ h=>by cases h)) (Wk (vs:=[(0,.agg (rwV (⟨.nil,.nil,false,false⟩:Rw) q0).toArray),(1,.agg (rwV (⟨.nil,(.lay Yx),false,false⟩:Rw) q1).toArray),(2,.agg (rwV (⟨.nil,.load,false,false⟩:Rw) q2).toArray),(3,.agg (rwV (⟨.store,.nil,false,false⟩:Rw) q3).toArray),(4,.agg (rwV (⟨.any,.nil,false,false⟩:Rw) q4).toArray),(5,.agg (rwV (⟨.nil,.again,false,false⟩:Rw) q5).toArray),(6,.agg (rwV (rkR:Rw) q6).toArray),(7,.agg (rwV (rkR:Rw) q7).toArray),(8,.agg (rwV (rkR:Rw) q8).toArray),(9,.agg (rwV (rkR:Rw) q9).toArray),(10,.agg (rwV (⟨.nil,.nil,true,true⟩:Rw) q10).toArray),(11,.agg (rwV (⟨(.take [Yx]),.nil,true,false⟩:Rw) q11).toArray),(12,.agg (rwV (⟨(.take [Yx,Yx]),.nil,true,false⟩:Rw) q12).toArray),(13,.agg (rwV (⟨(.kind [3,2,5]),.nil,true,false⟩:Rw) q13).toArray),(14,.agg (rwV (⟨.nil,(.lay nullT),false,false⟩:Rw) q14).toArray),(15,.agg (rwV (⟨.nil,.layObj,false,false⟩:Rw) q15).toArray),(16,.agg (rwV (⟨.obj,.layTyp,false,false⟩:Rw) q16).toArray),(17,.agg (rwV (⟨.objTyp,.nil,false,false⟩:Rw) q17).toArray),(18,.agg (rwV (⟨.nil,.layTyp,false,false⟩:Rw) q18).toArray),(19,.agg (rwV (⟨.typ,.nil,false,false⟩:Rw) q19).toArray),(20,.agg (rwV (⟨.objParams,.layTyp,false,false⟩:Rw) q20).toArray),(21,.agg (rwV (⟨.params,.layTyp,false,false⟩:Rw) q21).toArray),(22,.agg (rwV (⟨.void,.nil,false,true⟩:Rw) q22).toArray),(23,.agg (rwV (⟨.give,.nil,false,true⟩:Rw) q23).toArray),(24,.agg (rwV (⟨(.take [(Xu thS)]),.nil,false,true⟩:Rw) q24).toArray),(25,.agg (rwV (⟨(.kind [3,5]),.layObj,false,false⟩:Rw) q25).toArray),(26,.agg (rwV (⟨(.kind [3,5]),(.lay Yx),false,false⟩:Rw) q26).toArray),(27,.agg (rwV (⟨(.take [Yx]),.nil,false,false⟩:Rw) q27).toArray),(28,.agg (rwV (⟨.nil,(.lay Yx),false,false⟩:Rw) q28).toArray),(29,.agg (rwV (⟨(.take [Yx]),(.lay Uh),false,false⟩:Rw) q29).toArray),(30,.agg (rwV (⟨(.take [Uh,Yx]),(.lay Yx),false,false⟩:Rw) q30).toArray),(31,.agg (rwV (⟨(.take [Uh,Yx,Yx]),.nil,false,false⟩:Rw) q31).toArray),(32,.agg (rwV (⟨(.take [Uh]),(.lay Yx),false,false⟩:Rw) q32).toArray)]) (cs:=rowsC Qh (fun n=>[q0,q1,q2,q3,q4,q5,q6,q7,q8,q9,q10,q11,q12,q13,q14,q15,q16,q17,q18,q19,q20,q21,q22,q23,q24,q25,q26,q27,q28,q29,q30,q31,q32].getD n q0) 0) J (ts J) (tz J) J J J (by simp only [parts,ev,List.nil_append,e0,e1,e2,e3,e4,e5,e6,e7,e8,e9,e10,e11,e12,e13,e14,e15,e16,e17,e18,e19,e20,e21,e22,e23,e24,e25,e26,e27,e28,e29,e30,e31,e32]) (by kernel_rfl) fun b hb=>hI.next (deps:=[]) (fun _ _ h=>by cases h) (by decide) J fun w' hs=>?_);refine ⟨b,(fun n=>[q0,q1,q2,q3,q4,q5,q6,q7,q8,q9,q10,q11,q12,q13,q14,q15,q16,q17,q18,q19,q20,q21,q22,q23,q24,q25,q26,q27,q28,q29,q30,q31,q32].getD n q0),J,Nat.le_trans hI.low.size hb,tab_cells hs ?_⟩;intro n r hr
 match n,hr with
 | 0,hr=>cases hr;exact hp0.mono hs.low.below
 | 1,hr=>cases hr;exact hp1.mono hs.low.below
 | 2,hr=>cases hr;exact hp2.mono hs.low.below
 | 3,hr=>cases hr;exact hp3.mono hs.low.below
 | 4,hr=>cases hr;exact hp4.mono hs.low.below
 | 5,hr=>cases hr;exact hp5.mono hs.low.below
 | 6,hr=>cases hr;exact hp6.mono hs.low.below
 | 7,hr=>cases hr;exact hp7.mono hs.low.below
 | 8,hr=>cases hr;exact hp8.mono hs.low.below
 | 9,hr=>cases hr;exact hp9.mono hs.low.below
 | 10,hr=>cases hr;exact hp10.mono hs.low.below
 | 11,hr=>cases hr;exact hp11.mono hs.low.below
 | 12,hr=>cases hr;exact hp12.mono hs.low.below
 | 13,hr=>cases hr;exact hp13.mono hs.low.below
 | 14,hr=>cases hr;exact hp14.mono hs.low.below
 | 15,hr=>cases hr;exact hp15.mono hs.low.below
 | 16,hr=>cases hr;exact hp16.mono hs.low.below
 | 17,hr=>cases hr;exact hp17.mono hs.low.below
 | 18,hr=>cases hr;exact hp18.mono hs.low.below
 | 19,hr=>cases hr;exact hp19.mono hs.low.below
 | 20,hr=>cases hr;exact hp20.mono hs.low.below
 | 21,hr=>cases hr;exact hp21.mono hs.low.below
 | 22,hr=>cases hr;exact hp22.mono hs.low.below
 | 23,hr=>cases hr;exact hp23.mono hs.low.below
 | 24,hr=>cases hr;exact hp24.mono hs.low.below
 | 25,hr=>cases hr;exact hp25.mono hs.low.below
 | 26,hr=>cases hr;exact hp26.mono hs.low.below
 | 27,hr=>cases hr;exact hp27.mono hs.low.below
 | 28,hr=>cases hr;exact hp28.mono hs.low.below
 | 29,hr=>cases hr;exact hp29.mono hs.low.below
 | 30,hr=>cases hr;exact hp30.mono hs.low.below
 | 31,hr=>cases hr;exact hp31.mono hs.low.below
 | 32,hr=>cases hr;exact hp32.mono hs.low.below
 | n+33,hr=>exact absurd (Wa hr) (by simp [Qh])
theorem op82:OpS 82:=op_asg (k:=0) (j:=81) (by kernel_rfl:(Ys Tryz.f104.body)[82]?=some ⟨some 0,.assign (.tmp 94),198,"operations.go:23",#[⟨81,.data⟩,⟨79,.chain⟩,⟨0,.phase⟩,⟨1,.phase⟩,⟨2,.phase⟩,⟨3,.phase⟩,⟨4,.phase⟩,⟨5,.phase⟩,⟨6,.phase⟩,⟨7,.phase⟩,⟨8,.phase⟩,⟨9,.phase⟩,⟨10,.phase⟩,⟨11,.phase⟩,⟨12,.phase⟩,⟨13,.phase⟩,⟨14,.phase⟩,⟨15,.phase⟩,⟨16,.phase⟩,⟨17,.phase⟩,⟨18,.phase⟩,⟨19,.phase⟩,⟨20,.phase⟩,⟨21,.phase⟩,⟨22,.phase⟩,⟨23,.phase⟩,⟨24,.phase⟩,⟨25,.phase⟩,⟨26,.phase⟩,⟨27,.phase⟩,⟨28,.phase⟩,⟨29,.phase⟩,⟨30,.phase⟩,⟨31,.phase⟩,⟨32,.phase⟩,⟨33,.phase⟩,⟨34,.phase⟩,⟨35,.phase⟩,⟨36,.phase⟩,⟨37,.phase⟩,⟨38,.phase⟩,⟨39,.phase⟩,⟨40,.phase⟩,⟨41,.phase⟩,⟨42,.phase⟩,⟨43,.phase⟩,⟨44,.phase⟩,⟨45,.phase⟩,⟨46,.phase⟩,⟨47,.phase⟩,⟨48,.phase⟩,⟨49,.phase⟩,⟨50,.phase⟩,⟨51,.phase⟩,⟨52,.phase⟩,⟨53,.phase⟩,⟨54,.phase⟩,⟨55,.phase⟩,⟨56,.phase⟩,⟨57,.phase⟩,⟨58,.phase⟩,⟨59,.phase⟩,⟨60,.phase⟩,⟨61,.phase⟩,⟨62,.phase⟩,⟨63,.phase⟩,⟨64,.phase⟩,⟨65,.phase⟩,⟨66,.phase⟩,⟨67,.phase⟩,⟨68,.phase⟩,⟨69,.phase⟩,⟨70,.phase⟩,⟨71,.phase⟩,⟨72,.phase⟩,⟨73,.phase⟩,⟨74,.phase⟩,⟨75,.phase⟩,⟨76,.phase⟩,⟨77,.phase⟩,⟨78,.phase⟩,⟨79,.phase⟩,⟨80,.phase⟩,⟨81,.phase⟩],none⟩) rfl rfl (by decide) rfl rfl (by decide) rfl rfl
theorem ops_all:∀ i,i<83→OpS i
 | 0,_=>op0
 | 1,_=>op1
 | 2,_=>op2
 | 3,_=>op3
 | 4,_=>op4
 | 5,_=>op5
 | 6,_=>op6
 | 7,_=>op7
 | 8,_=>op8
 | 9,_=>op9
 | 10,_=>op10
 | 11,_=>op11
 | 12,_=>op12
 | 13,_=>op13
 | 14,_=>op14
 | 15,_=>op15
 | 16,_=>op16
 | 17,_=>op17
 | 18,_=>op18
 | 19,_=>op19
 | 20,_=>op20
 | 21,_=>op21
 | 22,_=>op22
 | 23,_=>op23
 | 24,_=>op24
 | 25,_=>op25
 | 26,_=>op26
 | 27,_=>op27
 | 28,_=>op28
 | 29,_=>op29
 | 30,_=>op30
 | 31,_=>op31
 | 32,_=>op32
 | 33,_=>op33
 | 34,_=>op34
 | 35,_=>op35
 | 36,_=>op36
 | 37,_=>op37
 | 38,_=>op38
 | 39,_=>op39
 | 40,_=>op40
 | 41,_=>op41
 | 42,_=>op42
 | 43,_=>op43
 | 44,_=>op44
 | 45,_=>op45
 | 46,_=>op46
 | 47,_=>op47
 | 48,_=>op48
 | 49,_=>op49
 | 50,_=>op50
 | 51,_=>op51
 | 52,_=>op52
 | 53,_=>op53
 | 54,_=>op54
 | 55,_=>op55
 | 56,_=>op56
 | 57,_=>op57
 | 58,_=>op58
 | 59,_=>op59
 | 60,_=>op60
 | 61,_=>op61
 | 62,_=>op62
 | 63,_=>op63
 | 64,_=>op64
 | 65,_=>op65
 | 66,_=>op66
 | 67,_=>op67
 | 68,_=>op68
 | 69,_=>op69
 | 70,_=>op70
 | 71,_=>op71
 | 72,_=>op72
 | 73,_=>op73
 | 74,_=>op74
 | 75,_=>op75
 | 76,_=>op76
 | 77,_=>op77
 | 78,_=>op78
 | 79,_=>op79
 | 80,_=>op80
 | 81,_=>op81
 | 82,_=>op82
 | n+83,h=>by omega
theorem ops_size:(Ys Tryz.f104.body).size=83:=by kernel_rfl
theorem ops_ordB:(List.range 83).all (fun i=>match (Ys Tryz.f104.body)[i]? with | some o=>o.after.toList.all (fun e => !Region.binds .any e || Nat.blt e.on i) | none=>true)=true:=by kernel_rfl
theorem ops_ord (i:Nat) (o:Oper) (e:Edge) (h:(Ys Tryz.f104.body)[i]?=some o) (he:e ∈ o.after) (hb:Region.binds .any e=true):e.on<i:=by
 have hi:i<83:=by rw [← ops_size];exact (Array.getElem?_eq_some_iff.1 h).1
 have h1:=List.all_eq_true.1 ops_ordB i (List.mem_range.2 hi);rw [h] at h1;have h2:=List.all_eq_true.1 h1 e (by simpa using he);rw [hb] at h2
 simpa using h2
theorem ops_region {En:Env} {w0:World} {H:Hp} {R:Asr} {fn:Func} {Z:Ending→World→Prop} {κ:List Kf} {b1 b2 b3:Nat} {q:RowV} (hE:Sub [(1,ptrV b1),(2,ptrV b2),(3,ptrV b3)] En)
  (hM:∀ w,Sat w0 [] H R w→(∀ j z,(tyV Yx)[j]?=some z→w.cell? ⟨b1,0+j,none⟩=some z)∧(∀ j z,(tyV Uh)[j]?=some z→w.cell? ⟨b2,0+j,none⟩=some z)∧(∀ j z,(rwV rkR q)[j]?=some z→w.cell? ⟨b3,0+j,none⟩=some z)∧RowB w0.heap.size w q rkR)
  (h:∀ a w g rv,Below w0.heap.size w0 w→TabB w0.heap.size w g rv→Ag 95 a [(0,.slice (some ⟨g,0,none⟩) 33 33)]→den Tryz.prog fn Z κ .normal a w) :
  WC Tryz.prog 95 (.region 3 (Ys Tryz.f104.body) true) En w0 [] H R fn Z κ :=
 ⟨fun w hs a ha=>wp_region_any X2 (by
  have hs':=hs.drawn (w.drawn+1);obtain ⟨m1,m2,m3,m4⟩:=hM _ hs';refine any_inv (I:=OI w0 b1 b2 b3 q) (fun l a w hI=>by rw [hI.sz,ops_size]) ops_ord (fun l a w i hI hi=>?_) (fun l a w hI hall=>?_) _ _ a _ ⟨by rw [Array.size_replicate,ops_size],ha.sub hE,hs'.low.below,m1,m2,m3,m4,fun j hj hl=>?_⟩ ?_
  ·refine ops_all i ?_ w0 b1 b2 b3 q fn Z κ l a w hI hi;obtain ⟨o,ho,_⟩:=(mem_ready.1 hi).2;rw [← ops_size];exact (Array.getElem?_eq_some_iff.1 ho).1
  ·obtain ⟨v,hv,g,rv,rfl,hp⟩:=hI.sp 82 (by decide) (hall 82 (by rw [ops_size];decide));refine h a w g rv hI.low hp ⟨hI.ag.room,hI.ag.no,fun j u hu=>?_⟩
   have hj:j=0:=by
    cases hb:Nat.beq j 0 with
    | true=>exact Nat.eq_of_beq_eq_true hb
    | false =>
     replace hu:(bif Nat.beq j 0 then some (Value.slice (some ⟨g,0,none⟩) 33 33) else none)=some u:=hu;rw [hb] at hu;cases hu
   subst hj;cases hu;exact hv
  ·rw [Array.getD_eq_getD_getElem?] at hl;rw [Array.getElem?_replicate] at hl;split at hl<;>cases hl
  ·rw [Array.toList_replicate,List.count_replicate];simp)⟩
end
end Go.Proofs.YtpofmnfkdkmieaaGreat
