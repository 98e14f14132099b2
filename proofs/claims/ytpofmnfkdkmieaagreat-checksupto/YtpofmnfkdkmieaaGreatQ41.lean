/- What is proved here: package check: the table of operations. -/
import Derived.Test.YtpofmnfkdkmieaaGreatQ40
import Derived.Test.YtpofmnfkdkmieaaGreatQ19
set_option linter.unusedVariables false
set_option linter.unusedSimpArgs false
namespace Go.Proofs.YtpofmnfkdkmieaaGreat
section
open Go Go.RowKit At E
def rkQ (bT bL bS:Nat):RowV:=⟨Vj 249 bT,Vj 251 bL,bT,bL,.slice (some ⟨bS,0,none⟩) 2 2,Vm⟩
theorem ops_mem {w0 w:World} {H:Hp} {R:Asr} {b1 b2 bR bS bT bL:Nat} (hs:Sat w0 [] H R w) (i0 i1 iR iS:Nat) (h0:H[i0]?=some (b1,tyV Yx)) (h1:H[i1]?=some (b2,tyV Uh)) (hR:H[iR]?=some (bR,rwV rkR (rkQ bT bL bS))) (hS:H[iS]?=some (bS,[Yx,Yx].flatMap tyV)) (hA:(Pi bT [.slice (some ⟨bS,0,none⟩) 2 2]).A w) (hB:(Pi bL (tyV Yx)).A w) (hT:bT ∈ R.S) (hL:bL ∈ R.S) :
  (∀ j z,(tyV Yx)[j]?=some z→w.cell? ⟨b1,0+j,none⟩=some z)∧(∀ j z,(tyV Uh)[j]?=some z→w.cell? ⟨b2,0+j,none⟩=some z)∧(∀ j z,(rwV rkR (rkQ bT bL bS))[j]?=some z→w.cell? ⟨bR,0+j,none⟩=some z)∧RowB w0.heap.size w (rkQ bT bL bS) rkR:=by
 have hge:∀ k ∈ R.S,w0.heap.size≤k:=fun k hk=>(hs.rhi k hk).1.elim (fun h=>by cases h) id
 have hm:∀ {b:Nat} {cs:List Value} {i:Nat},H[i]?=some (b,cs)→∀ j z,cs[j]?=some z→w.cell? ⟨b,0+j,none⟩=some z:=fun h j z hz=>by
  rw [hs.mine (List.mem_of_getElem? h),Nat.zero_add];exact hz
 have hSb:w0.heap.size≤bS:=(hs.hi _ (List.mem_of_getElem? hS)).elim (fun h=>by cases h) id;refine ⟨hm h0,hm h1,hm hR,⟨⟨J,Pu (j:=0) hA J,?_⟩,hge bT hT,?_⟩,⟨⟨J,fun j z hz=>Pu hB hz⟩,hge bL hL,Wr _⟩⟩
 ·refine ⟨some ⟨bS,0,none⟩,2,J,⟨by decide,by decide⟩,fun j t hj=>⟨bS,0,tyV t,J,hs.lt (List.mem_of_getElem? hS),⟨J,okT_ty (List.all_eq_true.1 (show [Yx,Yx].all okT=true from J) t (List.mem_of_getElem? hj))⟩,fun k u hk=>?_⟩⟩;have:=hm hS (j*2+k) u (flat2 _ j k t u hj hk);rw [show 0+j*2+k=0+(j*2+k) by omega];exact this
 ·intro p n c h;injection h with h1
  injection h1 with h1
  subst h1;exact hSb
def okTab (v:Value) (R':Asr):Prop:=∃ g rv,v=.slice (some ⟨g,0,none⟩) 33 33∧∀ w',R'.A w'→TabAt w' g rv
theorem ops_fin {En:Env} {w:World} {H:Hp} (b1 b2 bR bS bT bL i0 i1 iR iS:Nat) (hE:Sub [(1,ptrV b1),(2,ptrV b2),(3,ptrV bR)] En) (h0:H[i0]?=some (b1,tyV Yx)) (h1:H[i1]?=some (b2,tyV Uh)) (hR:H[iR]?=some (bR,rwV rkR (rkQ bT bL bS))) (hS:H[iS]?=some (bS,[Yx,Yx].flatMap tyV)) :
  WC Tryz.prog 95 (.region 3 (Ys Tryz.f104.body) true) En w [] H ((Pi bL (tyV Yx)).and ((Pi bT [.slice (some ⟨bS,0,none⟩) 2 2]).and Asr.none)) Tryz.f104 (FnZ w okTab False) [⟨0,0,.ret,fun _ _=>True⟩] :=
 ops_region hE (fun w' hs=>ops_mem hs i0 i1 iR iS h0 h1 hR hS hs.res.2.1.1 hs.res.1 (by simp [Asr.and,Pi]) (by simp [Asr.and,Pi])) fun a w' g rv hb ht ha =>
  (Zc (Zr (T0 (We rfl (X9 rfl)) ⟨g,rv,rfl,fun w2 hw2=>tab_same hw2 ht⟩)):WQ Tryz.prog 95 .normal [(0,.slice (some ⟨g,0,none⟩) 33 33)] w [] [] (newA w.heap.size w') Tryz.f104 (FnZ w okTab False) [⟨0,0,.ret,fun _ _=>True⟩]).go w' (new_sat hb) a ha
theorem operations_any (w:World):FnP Tryz.prog 104 #[] w okTab False:=by
 refine Xf (args:=[]) Tryz.func104 J Tryz.ntmps104 ?_;refine Zg (Zb (Za J (Zf J) (Ze (Zc (Zg (Zb (Za J (Z8 (tb J) J J) (Za J (Z8 (tb J) J J) (Yk J (tz J) ?_)))))))));intro b0 hb0;refine Yk J (tz J) ?_;intro b1 hb1;refine Z2 (tn J) J J 1 J J J J (Z2 (tn J) J J 0 J J J J (Ze (Zc (Zg (Qd X2 (Z4 0 J (by kernel_rfl) J (by exact fun _ hs=>hs.leads (Asr.toNone _)) (Zv (tn J) J 1 J J) ?_))))));refine Z4 1 J (by kernel_rfl) J (by exact fun _ hs=>hs.leads (Asr.toNone _)) (Zv (tn J) J 1 J J) ?_;refine Z4 4 J (by kernel_rfl) J (by exact fun _ hs=>hs.leads (Asr.toNone _)) (Zv (tn J) J 1 J J) ?_;refine WH_step (rs:=[2,7]) (by kernel_rfl) (by simp) ?_;simp only [List.forall_mem_cons,List.not_mem_nil,false_imp_iff,implies_true,and_true];refine ⟨?_,?_⟩
 ·refine ⟨_,J,?_⟩;refine Wk J (ts J) (tz J) J J J J J ?_;intro b2 hb2;refine Ze (Y1 (by exact fun _ hs=>lN _ (hs.drop 1)) ?_);refine WH_step (rs:=[3,7]) (by kernel_rfl) (by simp) ?_;simp only [List.forall_mem_cons,List.not_mem_nil,false_imp_iff,implies_true,and_true];refine ⟨?_,?_⟩
  ·refine ⟨_,J,?_⟩;refine X8 fn142 J J (fun w' hs=>Lc _ J w') False.elim ?_;rintro v R1 ⟨bT,rfl,hR1⟩;refine Zz hR1.left (Ze (Y1 (by exact fun _ hs=>lN _ (hs.drop 1)) ?_));refine WH_step (rs:=[5,7]) (by kernel_rfl) (by simp) ?_;simp only [List.forall_mem_cons,List.not_mem_nil,false_imp_iff,implies_true,and_true];refine ⟨?_,?_⟩
   ·refine ⟨_,J,?_⟩;refine X8 fn143 J J (fun w' hs=>Mi Yx w') False.elim ?_;rintro v R2 ⟨bL,rfl,hR2⟩;refine Zz hR2.left (Ze (Y1 (by exact fun _ hs=>lN _ (hs.drop 1)) ?_));refine Z4 6 J (by kernel_rfl) J (by exact fun _ hs=>lN _ (hs.drop 1)) (Z8 (tb J) J J) ?_;refine Xh 7 (by kernel_rfl) J ?_;refine Yk J (tz J) ?_;intro b3 hb3;refine Ze (Y1 (by exact fun _ hs=>lN _ (hs.drop 2)) ?_);refine Xh 8 (by kernel_rfl) J ?_;refine Z2 (tn J) J J 0 J J J J (Ze (Y1 (by exact fun _ hs=>lN _ (hs.drop 2)) ?_));refine W8 (by kernel_rfl) ?_;refine Zc (Zg ?_);exact ops_fin b0 b1 b3 b2 bT bL 3 2 0 1 ⟨J,J,J,trivial⟩ J J J J
   ·refine ⟨_,J,?_⟩;refine Yk J (tz J) ?_;intro b3 hb3;refine Ze (Y1 (by exact fun _ hs=>lN _ (hs.drop 2)) ?_);refine Xh 5 (by kernel_rfl) J ?_;refine X8 fn143 J J (fun w' hs=>Mi Yx w') False.elim ?_;rintro v R2 ⟨bL,rfl,hR2⟩;refine Zz hR2.left (Ze (Y1 (by exact fun _ hs=>lN _ (hs.drop 2)) ?_));refine Z4 6 J (by kernel_rfl) J (by exact fun _ hs=>lN _ (hs.drop 2)) (Z8 (tb J) J J) ?_;refine Xh 8 (by kernel_rfl) J ?_;refine Z2 (tn J) J J 0 J J J J (Ze (Y1 (by exact fun _ hs=>lN _ (hs.drop 2)) ?_));refine W8 (by kernel_rfl) ?_;refine Zc (Zg ?_);exact ops_fin b0 b1 b3 b2 bT bL 3 2 0 1 ⟨J,J,J,trivial⟩ J J J J
  ·refine ⟨_,J,?_⟩;refine Yk J (tz J) ?_;intro b3 hb3;refine Ze (Y1 (by exact fun _ hs=>lN _ (hs.drop 2)) ?_);refine Xh 3 (by kernel_rfl) J ?_;refine X8 fn142 J J (fun w' hs=>Lc _ J w') False.elim ?_;rintro v R1 ⟨bT,rfl,hR1⟩;refine Zz hR1.left (Ze (Y1 (by exact fun _ hs=>lN _ (hs.drop 2)) ?_));refine Xh 5 (by kernel_rfl) J ?_;refine X8 fn143 J J (fun w' hs=>Mi Yx w') False.elim ?_;rintro v R2 ⟨bL,rfl,hR2⟩;refine Zz hR2.left (Ze (Y1 (by exact fun _ hs=>lN _ (hs.drop 2)) ?_));refine Z4 6 J (by kernel_rfl) J (by exact fun _ hs=>lN _ (hs.drop 2)) (Z8 (tb J) J J) ?_;refine Xh 8 (by kernel_rfl) J ?_;refine Z2 (tn J) J J 0 J J J J (Ze (Y1 (by exact fun _ hs=>lN _ (hs.drop 2)) ?_));refine W8 (by kernel_rfl) ?_;refine Zc (Zg ?_);exact ops_fin b0 b1 b3 b2 bT bL 3 2 0 1 ⟨J,J,J,trivial⟩ J J J J
 ·refine ⟨_,J,?_⟩;refine Yk J (tz J) ?_;intro b2 hb2;refine Ze (Y1 (by exact fun _ hs=>lN _ (hs.drop 1)) ?_);refine Xh 2 (by kernel_rfl) J ?_;refine Wk J (ts J) (tz J) J J J J J ?_;intro b3 hb3;refine Ze (Y1 (by exact fun _ hs=>lN _ (hs.drop 2)) ?_);refine Xh 3 (by kernel_rfl) J ?_;refine X8 fn142 J J (fun w' hs=>Lc _ J w') False.elim ?_;rintro v R1 ⟨bT,rfl,hR1⟩;refine Zz hR1.left (Ze (Y1 (by exact fun _ hs=>lN _ (hs.drop 2)) ?_));refine Xh 5 (by kernel_rfl) J ?_;refine X8 fn143 J J (fun w' hs=>Mi Yx w') False.elim ?_;rintro v R2 ⟨bL,rfl,hR2⟩;refine Zz hR2.left (Ze (Y1 (by exact fun _ hs=>lN _ (hs.drop 2)) ?_));refine Z4 6 J (by kernel_rfl) J (by exact fun _ hs=>lN _ (hs.drop 2)) (Z8 (tb J) J J) ?_;refine Xh 8 (by kernel_rfl) J ?_;refine Z2 (tn J) J J 1 J J J J (Ze (Y1 (by exact fun _ hs=>lN _ (hs.drop 2)) ?_));refine W8 (by kernel_rfl) ?_;refine Zc (Zg ?_);exact ops_fin b0 b1 b2 b3 bT bL 3 2 1 0 ⟨J,J,J,trivial⟩ J J J J
end
namespace E
open Go Go.RowKit
section
variable {P:Program} {n:Nat} {E:Env} {w0:World} {F:List Nat} {H:Hp} {R R0 Rin:Asr} {fn:Func} {Z:Ending→World→Prop} {κ:List Kf} {pan:List PanicEntry→Prop}
theorem WL_callY {all:Array Oper} {l:List Oper} {d f b:Nat} {xs:List Operand} {vs:List Value} {ts:Array TypeId} {t:TypeId} {p:String} {e:Array Edge} {cs:List Value} {u:World} {ok:Value→List Value→Asr→Prop} {T:World→Prop} (hf:IsFn P f)
  (hd:Nat.blt d n=true) (hx:args E xs=some vs) (i:Nat) (hp:H[i]?=some (b,cs)) (hu:Below u.heap.size u w0) (hF:∀ x ∈ F,u.heap.size≤x)
  (hc:∀ w,Below u.heap.size u w→(∀ x ∈ b::Rin.S,u.heap.size≤x)→Sat w (b::Rin.S) [(b,cs)] Rin w→T w→Calls P f vs.toArray w (RyZ b w Rin ok pan)) (hT:∀ w,Sat w0 F H (Rin.and R0) w→T w)
  (hn:∀ pc,pan pc→WX P n E w0 F pc fn Z κ)
  (h:∀ v cs' R',ok v cs' R'→WL P n all l ((d,v)::E) w0 F (H.set i (b,cs')) (R'.and R0) fn Z κ) :
  WL P n all (⟨some d,.call ⟨.value (.func f),xs.toArray,ts⟩,t,p,e,none⟩::l) E w0 F H (Rin.and R0) fn Z κ :=
 ⟨fun w hs a ha=>wpList_plain rfl fun K hK=>by
  unfold Oper.wp;rw [V8 rfl hf,Ve ha xs vs hx];refine Calls.mono (hc w (Xp hu hF hs) (ru_F hu hF hs hp) (rk_now hs hp) (hT w hs)) ?_;rintro e w' (⟨v,cs',R',rfl,hok,hw⟩ | ⟨pc,hm,rfl,hb⟩)
  ·exact hK _ _ ((h v cs' R' hok).go w' (Oz hs hp hw) _ (ha.put hd _))
  ·refine (hn pc hm).go w' (hs.low.trans hb fun x hx=>?_) _ ha;rcases List.mem_cons.1 hx with rfl | hx
   ·exact hs.hi _ (List.mem_of_getElem? hp)
   ·exact (hs.rhi x (List.mem_append_left _ hx)).1⟩
def FyZ (w:World) (ok:Value→Asr→Prop) (pan:List PanicEntry→Prop):Ending→World→Prop:=fun e w' =>
 (∃ v R',e=.returned v∧ok v R'∧Sat w [] [] R' w')∨(∃ pc,pan pc∧e=.panicked pc∧Below w.heap.size w w')
theorem Fy_end {w:World} {ok:Value→Asr→Prop} {v:Value} (hr:Res P n E w [] H R fn v) (h:ok v R):WQ P n .ret E w [] H R fn (FyZ w ok pan) [] :=
 WQ_res' hr fun _ hs=>.inl ⟨v,R,rfl,h,hs.bare⟩
theorem Fy_dies {w:World} {ok:Value→Asr→Prop} {pc:List PanicEntry} (h:pan pc):WQ P n (.panic pc) E w [] H R fn (FyZ w ok pan) [] :=
 WQ_dies fun _ hs=>.inr ⟨pc,h,rfl,hs.low.below⟩
theorem WFend {w:World} {ok:Value→Asr→Prop} {pc:List PanicEntry} (h:pan pc):WX P n E w [] pc fn (FyZ w ok pan) [] :=
 ⟨fun _ hb _ ha=>⟨ha.no,.inr ⟨pc,h,rfl,hb.below⟩⟩⟩
end
end E
section
open Go Go.RowKit At E
theorem map_new {w0 w:World} {F:List Nat} {H:Hp} {R:Asr} (hs:Sat w0 F H R w):Sat w0 F H ((Q4 w.heap.size []).and R) (w.alloc (.map #[] 0)):=by
 have hb:Below w.heap.size w (w.alloc (.map #[] 0)):=(Below.refl _ w).alloc (Nat.le_refl _) _;have hk:=hs.keep hb;have hn:(w.alloc (.map #[] 0)).heap[w.heap.size]?=some (.map #[] 0):=heap_alloc_new w _;refine ⟨hk.low,hk.own,hk.hi,hk.apart,⟨⟨#[],0,hn,J,(fun x hx=>by cases hx),List.nodup_nil,List.nodup_nil⟩,hk.res,?_⟩,?_,?_⟩
 ·intro k h1 h2;have h1':k=w.heap.size:=by simpa [Q4] using h1
  have:=(hs.rhi k h2).2;omega
 ·intro k hk';rcases List.mem_append.1 hk' with h | h
  ·have h1':k=w.heap.size:=by simpa [Q4] using h
   subst h1';exact ⟨.inr hs.low.size,by rw [World.size_alloc];omega⟩
  ·exact hk.rhi k h
 ·intro p hp h;rcases List.mem_append.1 h with h | h
  ·have h1':p.1=w.heap.size:=by simpa [Q4] using h
   have:=hs.lt hp;omega
  ·exact hk.rapart p hp h
theorem WL_mkMap {n:Nat} {E:Env} {w0:World} {F:List Nat} {H:Hp} {R:Asr} {fn:Func} {Z:Ending→World→Prop} {κ:List Kf} {all:Array Oper} {l:List Oper} {d t ty:Nat} {p:String} {g:Array Edge} (hd:Nat.blt d n=true)
  (h:∀ b,WL Tryz.prog n all l ((d,.map (some b))::E) w0 F H ((Q4 b []).and R) fn Z κ):WL Tryz.prog n all (⟨some d,.makeMap t none,ty,p,g,none⟩::l) E w0 F H R fn Z κ :=
 ⟨fun w hs a ha=>wpList_plain rfl fun K hK=>by
  have hr:(execOp a.eval ⟨some d,.makeMap t none,ty,p,g,none⟩).run Tryz.prog w=.ok (.value (.map (some w.heap.size))) (w.alloc (.map #[] 0)):=by
   simp [execOp,Instr.makeMap]
  unfold Oper.wp;rw [hr];exact hK _ _ ((h w.heap.size).go (w.alloc _) (map_new hs) _ (ha.put hd _))⟩
theorem meOfW (u:World) {q:Option Addr} {n c:Nat} {l:List Me} (h:Mn u (.slice q n c) l) {j:Nat} {m:Me} (hi:l[j]?=some m):∃ b o pv cv hv rv,q=some ⟨b,o,none⟩∧b<u.heap.size∧MeParts u m pv cv hv rv∧(meV m pv cv hv rv).all (·.oneCell')=true∧∀ t v,(meV m pv cv hv rv)[t]?=some v→u.cell? ⟨b,o+j*10+t,none⟩=some v:=by
 obtain ⟨p,c',hv, -,hr⟩:=h.is;cases hv;obtain ⟨b,o,r,hp,hb,⟨pv,cv,hv,rv,rfl,h1⟩,hc⟩:=hr j m hi;refine ⟨b,o,pv,cv,hv,rv,hp,hb,h1,?_,hc⟩;obtain ⟨_,_,rfl, -⟩:=h1.ps.is;obtain ⟨_,_,rfl, -⟩:=h1.cs.is;obtain ⟨_,_,rfl, -⟩:=h1.hs.is;obtain ⟨_,_,rfl, -⟩:=h1.fs.is;rfl
structure CkV where
 n:Nat
 gr:List Bl
theorem grant_nextW {c:Cl} {n:Nat} {m:Me} {gr:List Bl} {k':WkM} (hm:c.methods[n]?=some m) (hg:V3 c n=some fun y=>y ∈ gr) (hs:stF c m (fun y=>y ∈ gr) m.code.length=some (Vl k')):V3 c (n+1)=some fun y=>y ∈ k'.gr:=by
 show (match c.methods[n]? with | none=>none | some m=>(V3 c n).bind fun G=>(stF c m G m.code.length).map (fun s:St=>s.gr))=_;rw [hm,hg];show (stF c m (fun y=>y ∈ gr) m.code.length).map (fun s:St=>s.gr)=_;rw [hs];rfl
def GrSmall (gr:List Bl):Prop:=gr.length≤100000000000∧∀ b ∈ gr,b.cls.size≤4000000∧b.above.size≤4000000
def okOrd (gr:List Bl) (v:Value) (R':Asr):Prop:=∃ l,R'.Imp (U2 v l)∧Srt l∧∀ x,x ∈ l↔x ∈ gr
def okClass (c:Cl) (v:Value) (R':Asr):Prop:=∃ l,R'.Imp (U2 v l)∧CheckO c l 0 0 0
def Nt (c:Cl) (pc:List PanicEntry):Prop:=(Xm c=false∧pc=Ou)∨(Xm c=true∧∃ a b:Nat,Fails c a b∧pc=Vp a b)
theorem tab_stays {w w':World} {b g:Nat} {rv:Nat→RowV} {Rin Rt:Asr} {w0:World} {F:List Nat} {H:Hp} {cs:List Value} (ht:∀ w',Rt.A w'→TabAt w' g rv) (hs:Sat w0 F H (Rin.and Rt) w) {i:Nat} (hp:H[i]?=some (b,cs)) (hf:E.Fr (b::Rin.S) w w'):TabAt w' g rv:=by
 refine ht w' (Rt.st w w' hs.res.2.1 fun k hk=>hf.block k (hs.rhi k (List.mem_append_right _ hk)).2 fun hm=>?_);rcases List.mem_cons.1 hm with rfl | hm
 ·exact hs.rapart _ (List.mem_of_getElem? hp) (List.mem_append_right _ hk)
 ·exact hs.res.2.2 k hm hk
theorem walk0 {x:WkX} {gr:List Bl} (Rt:Asr):((Q4 x.gb gr).and Rt).Imp ((wkA x (k0W gr)).and Rt):=by
 refine Asr.Imp.left ?_;have h1:(lsA Vm ([]:List Ty))=⟨[],fun _=>([]:List Ty)=[],fun _ _ h _=>h⟩:=lsA_z rfl;refine ⟨fun y hy=>?_,fun w h=>?_⟩
 ·simpa [wkA,Asr.and,k0W,h1] using hy
 ·refine ⟨h,⟨?_,?_,?_⟩,?_⟩
  ·show (lsA Vm ([]:List Ty)).A w;rw [h1]
  ·show (lsA Vm ([]:List Ty)).A w;rw [h1]
  ·intro y hy;rw [show (lsA (k0W gr).lv (k0W gr).lo).S=[] from by show (lsA Vm ([]:List Ty)).S=[];rw [h1]] at hy;cases hy
  ·intro y _ hy;have:y ∈ ((lsA Vm ([]:List Ty)).and (lsA Vm ([]:List Ty))).S:=hy;rw [h1] at this;simp [Asr.and] at this
set_option maxRecDepth 4000 in
theorem class_any (c:Cl) (fv mv:Value) (w:World) (hc:ClAt w c fv mv) (hG:∀ gr:List Bl,Xm c=true→V3 c c.methods.length=some (fun y=>y ∈ gr)→gr.Nodup→GrSmall gr) (hO:∀ gb gr w,(Q4 gb gr).A w→GrSmall gr→FnP Tryz.prog 106 #[.map (some gb)] w (okOrd gr) False) :
  Calls Tryz.prog 58 #[.agg (clV c fv mv).toArray] w (FyZ w (okClass c) (Nt c)):=by
 have hu:Below w.heap.size w w:=Below.refl _ w;have hF:∀ x ∈ ([]:List Nat),w.heap.size≤x:=fun _ h=>by cases h
 obtain ⟨qm,em,hmv,⟨hl1,hl2⟩, -⟩:=id hc.ms.is;obtain ⟨qf,ef,hfv, -⟩:=id hc.fs.is;subst hmv;subst hfv;replace hc:Hid _:=hc;replace hG:Hid _:=hG;replace hO:Hid _:=hO;refine Xf (args:=[.agg (clV c (.slice qf c.fields.length ef) (.slice qm c.methods.length em)).toArray]) Tryz.func58 J Tryz.ntmps58 ?_;refine Zg (Zb (Y2 J J ?_));intro b0 hb0;refine Za J (Zf J) (Ze (Zc (Zg (Zb (Za J (Zv (tn J) J 0 J J) (Z7 fn103 J J (fun w' hs=>Pc c _ _ w' (hc.out.mono hs.low.below)) ?_ ?_))))))
 rotate_left
 ·intro o1;refine Zy ?_;exact Fy_dies (.inl ⟨by assumption,J⟩)
 intro o1;have hcB:Xm c=true:=by assumption
 refine Ze (Zc (Zg (Zb (WL_mkMap J (fun gb=>?_)))));refine Za J (Zf J) (Ze (Zc (Zg (Zb (X8 fn104 J J (fun w' hs=>operations_any w') False.elim ?_)))));rintro v Rt ⟨g,rv,rfl,hTab⟩;refine Zz (Asr.comm _ _) (Zz (Asr.assoc _ _ _) (Zz (Asr.Imp.right (Asr.snd _ _)) (Za J (Zf J) (Ze (Zc (Zg (Zg (Zb (Za J (Zh (ff J) J) (Za J (Zj (t1 J) J (Zi 0 J J)) (Za J (Zx (ts J) J) (Za J (Zd J) (Ze (Zc (Zn ?_)))))))))))))));refine Yf (Yg (X:=CkV) (fun y=>[(1,pt b0),(3,.map (some gb)),(4,.slice (some ⟨g,0,none⟩) 33 33),(13,.slice qm c.methods.length em),(14,iN c.methods.length),(15,iN y.n)]) _ _ (fun y=>[(b0,clV c (.slice qf c.fields.length ef) (.slice qm c.methods.length em))]) (fun y=>(Q4 gb y.gr).and Rt) (fun y=>y.n≤c.methods.length∧Hid (V3 c y.n=some fun z=>z ∈ y.gr)) (fun y=>c.methods.length - y.n) (⟨0,[]⟩) (⟨Nat.zero_le _,by show Hid (some (fun _=>False)=some fun z=>z ∈ []);exact congrArg some (by funext z;simp)⟩) ?_) ⟨rfl,rfl,rfl,rfl,rfl,rfl,trivial⟩;intro y hI;obtain ⟨n,gr⟩:=y;obtain ⟨hj1,hj2⟩:=hI;dsimp only at hj1;have hnn:(CkV.mk n gr).n=n:=rfl;refine Zg (Zb (Za J (Yi J J) (Ze (Zc (Zg (Zu J ?_ ?_))))))
 ·intro c1;replace c1:(n:Int)<(c.methods.length:Int):=c1;obtain ⟨m,hm⟩:∃ d,c.methods[n]?=some d:=⟨_,List.getElem?_eq_getElem (by omega)⟩;obtain ⟨mb,mo,pv,cv,hv,rvv,hq,hgb,hparts,hone,hmc⟩:=meOfW w hc.out.ms hm;subst hq;obtain ⟨p1,k1,e1, -⟩:=id hparts.ps.is;obtain ⟨p2,k2,e2, -⟩:=id hparts.cs.is;obtain ⟨p3,k3,e3, -⟩:=id hparts.hs.is;obtain ⟨p4,k4,e4, -⟩:=id hparts.fs.is;subst e1;subst e2;subst e3;subst e4;have hmB:=cl_method hcB hm;refine Zo (Zc (Zg (Zn (Zg (Zb (Za J (Zd J) (Za J (Yo (ts J) J J ?_) ?_)))))))
  ·omega
  refine Za J (Yj (tn J) J (Xl hmc hgb) J) (Yk J (tz J) ?_);intro b1 hb1;refine Za J (Zf J) (Z2 (tn J) J J 0 J J J J (Ze (Zc (Zg (Zb (Za J (Zv (tn J) J 1 J J) (Za J (Zd J) (Za J (Zd J) (Za J (Zv (tn J) J 0 J J) (Za J (Z8 (cs:=wkC ⟨c,.slice qf c.fields.length ef,.slice (some ⟨mb,mo,none⟩) c.methods.length em,gb,n,m,.slice p1 m.params.length k1,.slice p2 m.code.length k2,.slice p3 m.handlers.length k3,.slice p4 m.frames.length k4⟩ (k0W gr)) (tb J) J (by kernel_rfl)) ?_))))))))));refine Yk J (tz J) ?_;intro b2 hb2;refine Z2 (tn J) J J 0 J J J J (Ze (Zc (Zb (Za J (Zd J) ?_))));refine Zz (walk0 (x:=⟨c,.slice qf c.fields.length ef,.slice (some ⟨mb,mo,none⟩) c.methods.length em,gb,n,m,.slice p1 m.params.length k1,.slice p2 m.code.length k2,.slice p3 m.handlers.length k3,.slice p4 m.frames.length k4⟩) Rt) ?_;refine WL_callY fn105 J J 0 J hu hF (fun w2 hu2 hF2 hs2 hT2=>goThrough_any w b2 ⟨c,.slice qf c.fields.length ef,.slice (some ⟨mb,mo,none⟩) c.methods.length em,gb,n,m,.slice p1 m.params.length k1,.slice p2 m.code.length k2,.slice p3 m.handlers.length k3,.slice p4 m.frames.length k4⟩ gr ⟨hparts,hmB⟩ g rv w2 hu2 hF2 hs2 hT2) (fun w2 hs2 w3 hf=>tab_stays (i:=0) hTab hs2 J hf) (fun pc hpan=>by (repeat refine Wh ?_);obtain ⟨pos,rfl,i,s,hi,hst,hno⟩:=hpan;exact WFend (.inr ⟨hcB,n,pos,⟨m,i,_,s,hm,hi,hj2.out,hst,hno⟩,J⟩)) ?_;rintro v cs' R' ⟨rfl,kN,rfl,hRN,hsN⟩;refine Zz ((hRN.left).trans (Asr.Imp.left (Asr.fst _ _))) ?_;refine Ze (Zt (Zc (Zb ?_)));refine Za J (Yn J J ?_) ?_;omega;refine Za J (Zd J) (Ze ?_);refine Z1 ((⟨n+1,kN.gr⟩:CkV)) ?_ (⟨by show n+1≤_;omega,grant_nextW hm hj2.out hsN⟩) 2 rfl (rfl) ⟨rfl,rfl,rfl,rfl,rfl,rfl,trivial⟩;show c.methods.length - (n+1)<c.methods.length - n;omega
 ·intro c1;replace c1:¬ (n:Int)<(c.methods.length:Int):=c1;refine Yd (Yc (Z5 (Yb (Zc (Zg ?_)))));have hnl:n=c.methods.length:=by omega
  subst hnl;refine Th (p:=gr.Nodup) (fun w2 hs2=>by obtain ⟨_,_,_,_,_,_,h⟩:=hs2.res.1;exact h) ?_;intro hnd;refine Zb (Za J (Zd J) (X8 fn106 J J (fun w2 hs2=>hO.out gb gr w2 hs2.res.1 (hG.out gr hcB hj2.out hnd)) False.elim ?_));rintro v R2 ⟨l,hRl,hsrt,hmem⟩;refine Zz (hRl.left) (Za J (Zf J) (Ze (Zc (Zr (Fy_end (We J (X9 J)) ?_)))));exact ⟨l,Asr.fst _ _,.inr (.inr ⟨hcB,J,J,J,hsrt,_,hj2.out,hmem⟩)⟩
def nmT (l:List Ty):List ByteArray:=l.map (·.cls)
def nmI (i:Ins):List ByteArray:=i.ref.cls::i.ref.ty.cls::nmT i.ref.params
def nmF (f:At.Fr):List ByteArray:=nmT f.locals++nmT f.stack
def nmM (m:Me):List ByteArray:=m.result.cls::(nmT m.params++(m.code.flatMap nmI++(m.handlers.map (·.cls)++m.frames.flatMap nmF)))
def nmC (c:Cl):List ByteArray:=thS::At.mt::c.name::c.methods.flatMap nmM
def InG (S:List ByteArray) (G:Set Bl):Prop:=∀ b,G b→b.cls ∈ S∧b.above ∈ S
def InT (S:List ByteArray) (l:List Ty):Prop:=∀ t ∈ l,t.cls ∈ S
structure InSt (S:List ByteArray) (s:St):Prop where
 g:InG S s.gr
 l:InT S s.lo
 t:InT S s.st
section
variable {c:Cl} {S:List ByteArray} {G G':Set Bl} {s s':St} {m:Me}
theorem fits_in {a b:Ty} {g:Bl} (h:Wq c a b=some (some g)):g.cls=a.cls∧g.above=b.cls:=by
 unfold Wq at h;repeat' split at h
 all_goals first | (cases h;done) | (cases h;exact ⟨J,J⟩)
theorem addf_in {p:Ty × Ty} (hG:InG S G) (h1:p.1.cls ∈ S) (h2:p.2.cls ∈ S) (h:Sb c p G=some G'):InG S G':=by
 unfold Sb at h;cases e:Wq c p.1 p.2 with
 | none=>rw [e] at h;cases h
 | some o =>
  rw [e] at h;cases h;intro b hb;rcases hb with hb | hb
  ·exact hG b hb
  ·subst hb;obtain ⟨e1,e2⟩:=fits_in e;rw [e1,e2];exact ⟨h1,h2⟩
theorem addAll_in:∀ (l:List (Ty × Ty)) {G G':Set Bl},InG S G→(∀ p ∈ l,p.1.cls ∈ S∧p.2.cls ∈ S)→Wg c l G=some G'→InG S G'
 | [],G,G',hG,_,h=>by cases h;exact hG
 | p::l,G,G',hG,hl,h=>by
  unfold Wg at h;cases e:Sb c p G with
  | none=>rw [e] at h;cases h
  | some G1 =>
   rw [e] at h;exact addAll_in l (addf_in hG (hl p List.mem_cons_self).1 (hl p List.mem_cons_self).2 e) (fun q hq=>hl q (List.mem_cons_of_mem _ hq)) h
theorem pop_in {r:Ty × St} (h:InSt S s) (hp:V9 s=some r):r.1.cls ∈ S∧InSt S r.2:=by
 unfold V9 at hp;cases e:s.st.getLast? with
 | none=>rw [e] at hp;cases hp
 | some t =>
  rw [e] at hp;cases hp;exact ⟨h.t t (List.mem_of_getLast? e),h.g,h.l,fun x hx=>h.t x (List.dropLast_subset _ hx)⟩
theorem gr_in {o:Option (Set Bl)} (h:InSt S s) (ho:∀ G',o=some G'→InG S G') (hg:grF s o=some s'):InSt S s':=by
 unfold grF at hg;cases e:o with
 | none=>rw [e] at hg;cases hg
 | some G1=>rw [e] at hg;cases hg;exact ⟨ho G1 e,h.l,h.t⟩
theorem bind_in {f g:St→Option St} (h:(f s).bind g=some s'):∃ q,f s=some q∧g q=some s':=by
 cases e:f s with
 | none=>rw [e] at h;cases h
 | some q=>rw [e] at h;exact ⟨q,J,h⟩
theorem Ms {t:Ty} (h:InSt S s) (ht:t.cls ∈ S) (hs:Va c t s=some s'):InSt S s':=by
 unfold Va at hs;cases e:V9 s with
 | none=>rw [e] at hs;cases hs
 | some r =>
  rw [e] at hs;obtain ⟨h1,h2⟩:=pop_in h e;exact gr_in h2 (fun G' hG'=>addf_in h2.g h1 ht hG') hs
theorem takes_in:∀ (l:List Ty) {s s':St},InSt S s→InT S l→Xe c l s=some s'→InSt S s'
 | [],s,s',h,_,hs=>by cases hs;exact h
 | t::l,s,s',h,ht,hs=>by
  obtain ⟨q,h1,h2⟩:=bind_in hs;exact Ms (takes_in l h (fun x hx=>ht x (List.mem_cons_of_mem _ hx)) h1) (ht t List.mem_cons_self) h2
theorem kind_in {ks:List Int} (h:InSt S s) (hs:Qi ks s=some s'):InSt S s':=by
 unfold Qi at hs;cases e:V9 s with
 | none=>rw [e] at hs;cases hs
 | some r =>
  rw [e] at hs;replace hs:(if r.1.kind ∈ ks then some r.2 else none)=some s':=hs;split at hs
  ·cases hs;exact (pop_in h e).2
  ·cases hs
theorem lay_in {t:Ty} (h:InSt S s) (ht:t.cls ∈ S) (hs:U1 m t s=some s'):InSt S s':=by
 unfold U1 at hs;split at hs
 ·cases hs;refine ⟨h.g,h.l,fun x hx=>?_⟩;rcases List.mem_append.1 hx with hx | hx
  ·exact h.t x hx
  ·rw [List.mem_singleton.1 hx];exact ht
 ·cases hs
theorem layV_in {t:Ty} (h:InSt S s) (ht:t.cls ∈ S) (hs:Vw m t s=some s'):InSt S s':=by
 unfold Vw at hs;split at hs
 ·cases hs;exact h
 ·exact lay_in h ht hs
theorem load_in {n:Int} (h:InSt S s) (hs:loadF m n s=some s'):InSt S s':=by
 unfold loadF at hs;cases e:s.lo[n.toNat]? with
 | none=>rw [e] at hs;cases hs
 | some t =>
  rw [e] at hs;replace hs:(if t.kind=4 then none else U1 m t s)=some s':=hs;split at hs
  ·cases hs
  ·exact lay_in h (h.l t (List.mem_of_getElem? e)) hs
theorem store_in {n:Int} (h:InSt S s) (hs:P8 n s=some s'):InSt S s':=by
 unfold P8 at hs;cases e:V9 s with
 | none=>rw [e] at hs;cases hs
 | some r =>
  rw [e] at hs;cases hs;obtain ⟨h1,h2⟩:=pop_in h e;refine ⟨h2.g,fun x hx=>?_,h2.t⟩;rcases List.mem_or_eq_of_mem_set hx with hx | hx
  ·exact h2.l x hx
  ·rw [hx];exact h1
theorem any_in (h:InSt S s) (hs:anyF s=some s'):InSt S s':=by
 unfold anyF at hs;cases e:V9 s with
 | none=>rw [e] at hs;cases hs
 | some r=>rw [e] at hs;cases hs;exact (pop_in h e).2
theorem again_in (h:InSt S s) (hs:againF m s=some s'):InSt S s':=by
 unfold againF at hs;cases e:V9 s with
 | none=>rw [e] at hs;cases hs
 | some r=>rw [e] at hs;exact lay_in h (pop_in h e).1 hs
structure InI (S:List ByteArray) (i:Ins):Prop where
 c:i.ref.cls ∈ S
 t:i.ref.ty.cls ∈ S
 p:InT S i.ref.params
def InA (S:List ByteArray):Ac→Prop
 | .take l=>InT S l
 | .lay t=>t.cls ∈ S
 | _=>True
theorem act_in {i:Ins} {a:Ac} (ha:InA S a) (hi:InI S i) (hm:m.result.cls ∈ S) (h:InSt S s) (hs:acF c m i a s=some s'):InSt S s':=by
 cases a with
 | nil=>cases hs;exact h
 | take l=>exact takes_in l h ha hs
 | lay t=>exact lay_in h ha hs
 | kind ks=>exact kind_in h hs
 | any=>exact any_in h hs
 | again=>exact again_in h hs
 | load=>exact load_in h hs
 | store=>exact store_in h hs
 | obj=>exact Ms h hi.c hs
 | typ=>exact Ms h hi.t hs
 | params=>exact takes_in _ h hi.p hs
 | objTyp=>obtain ⟨q,h1,h2⟩:=bind_in hs;exact Ms (Ms h hi.t h1) hi.c h2
 | objParams=>obtain ⟨q,h1,h2⟩:=bind_in hs;exact Ms (takes_in _ h hi.p h1) hi.c h2
 | void =>
  replace hs:(if m.result.kind=0 then some s else none)=some s':=hs;split at hs
  ·cases hs;exact h
  ·cases hs
 | give =>
  replace hs:(if m.result.kind=0 then none else Va c m.result s)=some s':=hs;split at hs
  ·cases hs
  ·exact Ms h hm hs
 | layObj=>exact lay_in h hi.c hs
 | layTyp=>exact layV_in h hi.t hs
theorem tab_in (hS:thS ∈ S) (hmt:At.mt ∈ S):∀ r ∈ Qh,InA S r.a1∧InA S r.a2:=by
 intro r hr;have h1:InT S [Yx]:=fun t ht=>by rw [List.mem_singleton.1 ht];exact hmt
 have h2:InT S [Yx,Yx]:=fun t ht=>by simp at ht;rw [ht];exact hmt
 have h3:InT S [Uh]:=fun t ht=>by rw [List.mem_singleton.1 ht];exact hmt
 have h4:InT S [Uh,Yx]:=fun t ht=>by simp at ht;rcases ht with rfl | rfl<;>exact hmt
 have h5:InT S [Uh,Yx,Yx]:=fun t ht=>by simp at ht;rcases ht with rfl | rfl<;>exact hmt
 have h6:InT S [Xu thS]:=fun t ht=>by rw [List.mem_singleton.1 ht];exact hS
 simp only [Qh,List.mem_cons,List.not_mem_nil,or_false] at hr;rcases hr with rfl | rfl | rfl | rfl | rfl | rfl | rfl | rfl | rfl | rfl | rfl | rfl | rfl | rfl | rfl | rfl | rfl | rfl | rfl | rfl | rfl | rfl | rfl | rfl | rfl | rfl | rfl | rfl | rfl | rfl | rfl | rfl | rfl<;>exact ⟨by first | trivial | exact h1 | exact h2 | exact h3 | exact h4 | exact h5 | exact h6 | exact hmt,by first | trivial | exact hmt⟩
structure InM (S:List ByteArray) (c:Cl) (m:Me):Prop where
 th:thS ∈ S
 mt:At.mt ∈ S
 nm:c.name ∈ S
 r:m.result.cls ∈ S
 p:InT S m.params
 i:∀ i ∈ m.code,InI S i
 h:∀ h ∈ m.handlers,h.cls ∈ S
 f:∀ f ∈ m.frames,InT S f.locals∧InT S f.stack
theorem zip_in {l l':List Ty} (h:InT S l) (h':InT S l'):∀ p ∈ l.zip l',p.1.cls ∈ S∧p.2.cls ∈ S:=fun p hp=>⟨h p.1 (List.of_mem_zip hp).1,h' p.2 (List.of_mem_zip hp).2⟩
theorem meets_in {tl:List Ty} {a:Int} (hM:InM S c m) (h:InSt S s) (ht:InT S tl) (hs:Vf c m tl a s=some s'):InSt S s':=by
 unfold Vf at hs;cases e:U0 m a with
 | none=>rw [e] at hs;cases hs
 | some f =>
  rw [e] at hs;obtain ⟨f1,f2⟩:=hM.f f (List.mem_of_find?_eq_some e);replace hs:(if tl.length=f.stack.length then _ else _)=some s':=hs;split at hs
  ·refine gr_in h (fun G' hG'=>addAll_in _ h.g (fun p hp=>?_) hG') hs;rcases List.mem_append.1 hp with hp | hp
   ·exact zip_in h.l f1 p (List.mem_filter.1 hp).1
   ·exact zip_in ht f2 p hp
  ·cases hs
theorem framed_in {a:Int} (hM:InM S c m) (h:InSt S s) (hs:Wv c m a s=some s'):InSt S s':=by
 unfold Wv at hs;cases e:U0 m a with
 | none =>
  rw [e] at hs;replace hs:(if s.alive=true then some s else none)=some s':=hs;split at hs
  ·cases hs;exact h
  ·cases hs
 | some f =>
  rw [e] at hs;obtain ⟨f1,f2⟩:=hM.f f (List.mem_of_find?_eq_some e);replace hs:(if _ then _ else _)=some s':=hs;split at hs
  ·cases hs
  ·split at hs
   ·cases e2:Vf c m s.st a s with
    | none=>rw [e2] at hs;cases hs
    | some q=>rw [e2] at hs;cases hs;exact ⟨(meets_in hM h h.t e2).g,f1,f2⟩
   ·cases hs;exact ⟨h.g,f1,f2⟩
theorem hand_in {a:Int}:∀ (l:List Hd) {s s':St},InM S c m→(∀ h ∈ l,h.cls ∈ S)→InSt S s→Vn c m a l s=some s'→InSt S s'
 | [],s,s',_,_,h,hs=>by cases hs;exact h
 | d::l,s,s',hM,hl,h,hs=>by
  obtain ⟨q,h1,h2⟩:=bind_in (f:=Uu c m a d) hs;refine hand_in l hM (fun x hx=>hl x (List.mem_cons_of_mem _ hx)) ?_ h2;unfold Uu at h1;split at h1
  ·have hd:N7 d ∈ S:=by unfold N7;split;exact hM.th;exact hl d List.mem_cons_self
   cases e:grF s (Sb c (Xu (N7 d),Xu thS) s.gr) with
   | none=>rw [e] at h1;cases h1
   | some q1 =>
    rw [e] at h1;exact meets_in hM (gr_in h (fun G' hG'=>addf_in h.g hd hM.th hG') e) (fun t ht=>by rw [List.mem_singleton.1 ht];exact hd) h1
  ·cases h1;exact h
theorem do_in {i:Ins} (hM:InM S c m) (hi:InI S i) (ho:0≤i.op∧i.op≤32) (h:InSt S s) (hs:doF c m i s=some s'):InSt S s':=by
 obtain ⟨no,hno⟩:∃ k:Nat,i.op=k:=⟨i.op.toNat,by omega⟩;obtain ⟨r,hr⟩:∃ r,Qh[no]?=some r:=⟨_,List.getElem?_eq_getElem (show no<33 by omega)⟩;rw [← do_row hr hno] at hs;obtain ⟨ha1,ha2⟩:=tab_in hM.th hM.mt r (List.mem_of_getElem? hr);unfold doG at hs;cases e1:acF c m i r.a1 s with
 | none=>rw [e1] at hs;cases hs
 | some q1 =>
  rw [e1] at hs;have h1:=act_in ha1 hi hM.r h e1;replace hs:(((acF c m i r.a2 q1).bind (goF c m i r.goes)).map _)=some s':=hs;cases e2:acF c m i r.a2 q1 with
  | none=>rw [e2] at hs;cases hs
  | some q2 =>
   rw [e2] at hs;have h2:=act_in ha2 hi hM.r h1 e2;replace hs:((goF c m i r.goes q2).map fun s=>{ s with alive := !r.ends })=some s':=hs;cases e3:goF c m i r.goes q2 with
   | none=>rw [e3] at hs;cases hs
   | some q3 =>
    rw [e3] at hs;cases hs
    have h3:InSt S q3:=by
     unfold goF at e3;split at e3
     ·exact meets_in hM h2 h2.t e3
     ·cases e3;exact h2
    exact ⟨h3.g,h3.l,h3.t⟩
theorem first_in (hM:InM S c m) (hG:InG S G):InSt S (Ng c m G):=by
 refine ⟨hG,fun t ht=>?_,fun t ht=>by cases ht⟩;rcases List.mem_append.1 ht with ht | ht
 ·unfold Uk at ht;rcases List.mem_append.1 ht with ht | ht
  ·split at ht
   ·cases ht
   ·rw [List.mem_singleton.1 ht];exact hM.nm
  ·exact hM.p t ht
 ·rw [(List.mem_replicate.1 ht).2];exact hM.mt
theorem st_in (hM:InM S c m) (hB:Yt m=true) (hG:InG S G):∀ (n:Nat) (s:St),stF c m G n=some s→InSt S s
 | 0,s,h=>by cases h;exact first_in hM hG
 | n+1,s,h=>by
  rcases Nat.lt_or_ge n m.code.length with hn | hn
  ·obtain ⟨i,hi⟩:∃ i,m.code[n]?=some i:=⟨_,List.getElem?_eq_getElem hn⟩;rw [stf_s hi] at h;cases e:stF c m G n with
   | none=>rw [e] at h;cases h
   | some q =>
    rw [e] at h;have hq:=st_in hM hB hG n q e;replace h:R5 c m n i q=some s:=h;unfold R5 at h;cases e1:Wv c m n q with
    | none=>rw [e1] at h;cases h
    | some q1 =>
     rw [e1] at h;replace h:((Vn c m n m.handlers q1).bind (doF c m i)).bind (N2 m n)=some s:=h;cases e2:Vn c m n m.handlers q1 with
     | none=>rw [e2] at h;cases h
     | some q2 =>
      rw [e2] at h;replace h:(doF c m i q2).bind (N2 m n)=some s:=h;cases e3:doF c m i q2 with
      | none=>rw [e3] at h;cases h
      | some q3 =>
       rw [e3] at h;have h3:=do_in hM (hM.i i (List.mem_of_getElem? hi)) (ins_op (me_insW hB hi)) (hand_in _ hM hM.h (framed_in hM hq e1) e2) e3;replace h:N2 m n q3=some s:=h;unfold N2 at h;split at h
       ·cases h;exact h3
       ·cases h
  ·have h0:m.code[n]?=none:=List.getElem?_eq_none hn;replace h:(match m.code[n]? with | none=>none | some i=>(stF c m G n).bind (R5 c m n i))=some s:=h;rw [h0] at h;cases h
end
theorem grant_in {c:Cl} {S:List ByteArray} (hM:∀ m ∈ c.methods,InM S c m) (hc:Xm c=true):∀ (n:Nat) (G:Set Bl),V3 c n=some G→InG S G
 | 0,G,h=>by cases h;exact fun b hb=>hb.elim
 | n+1,G,h=>by
  replace h:(match c.methods[n]? with | none=>none | some m=>(V3 c n).bind fun G=>(stF c m G m.code.length).map (fun s:St=>s.gr))=some G:=h;cases e:c.methods[n]? with
  | none=>rw [e] at h;cases h
  | some m =>
   rw [e] at h;replace h:((V3 c n).bind fun G=>(stF c m G m.code.length).map (fun s:St=>s.gr))=some G:=h;cases e1:V3 c n with
   | none=>rw [e1] at h;cases h
   | some G0 =>
    rw [e1] at h;replace h:((stF c m G0 m.code.length).map (fun s:St=>s.gr))=some G:=h;cases e2:stF c m G0 m.code.length with
    | none=>rw [e2] at h;cases h
    | some s =>
     rw [e2] at h;cases h;exact (st_in (hM m (List.mem_of_getElem? e)) (cl_method hc e) (grant_in hM hc n G0 e1) _ s e2).g
theorem flat_le {α β:Type} {f:α→List β} {k:Nat}:∀ {l:List α},(∀ x ∈ l,(f x).length≤k)→(l.flatMap f).length≤l.length*k
 | [],_=>by simp
 | x::l,h=>by
  show (f x++l.flatMap f).length≤(l.length+1)*k;rw [List.length_append,Nat.add_mul];have:=h x List.mem_cons_self;have:=flat_le (l:=l) (fun y hy=>h y (List.mem_cons_of_mem _ hy));omega
theorem nodup_le {α:Type} [DecidableEq α]:∀ (l L:List α),l.Nodup→(∀ x ∈ l,x ∈ L)→l.length≤L.length
 | [],L,_,_=>Nat.zero_le _
 | a::l,L,hn,h=>by
  have hn':=List.nodup_cons.1 hn;have ha:=h a List.mem_cons_self;have h1:=nodup_le l (L.erase a) hn'.2 fun x hx=>(List.mem_erase_of_ne (fun e:x=a=>hn'.1 (e ▸ hx))).2 (h x (List.mem_cons_of_mem _ hx));rw [List.length_erase_of_mem ha] at h1;have:0<L.length:=List.length_pos_of_mem ha;show l.length+1≤L.length;omega
theorem me_names {m:Me} (h:Yt m=true):(nmM m).length≤4100:=by
 have hm:=Ri h
 have h1:(m.code.flatMap nmI).length≤m.code.length*8:=flat_le fun i hi=>by
  have:=(hm.ci i hi).1;simp only [nmI,nmT,List.length_cons,List.length_map];omega
 have h2:(m.frames.flatMap nmF).length≤m.frames.length*40:=flat_le fun f hf=>by
  have:=hm.fi f hf;simp only [nmF,nmT,List.length_append,List.length_map];omega
 have:=hm.ps;have:=hm.cl;have:=hm.hl;have:=hm.fl;simp only [nmM,nmT,List.length_cons,List.length_append,List.length_map];omega
theorem cl_names {c:Cl} (h:Xm c=true):(nmC c).length≤90000:=by
 have h1:(c.methods.flatMap nmM).length≤c.methods.length*4100:=flat_le fun m hm=>by
  obtain ⟨j,hj⟩:=List.mem_iff_getElem?.1 hm;exact me_names (cl_method h hj)
 have h2:=(cl_bounds h).1;simp only [nmC,List.length_cons];have:c.methods.length*4100≤20*4100:=Nat.mul_le_mul_right _ h2;omega
theorem in_me {c:Cl} {m:Me} (hm:m ∈ c.methods):InM (nmC c) c m:=by
 have hs:∀ x ∈ nmM m,x ∈ nmC c:=fun x hx=>List.mem_cons_of_mem _ (List.mem_cons_of_mem _ (List.mem_cons_of_mem _ (List.mem_flatMap.2 ⟨m,hm,hx⟩)));refine ⟨List.mem_cons_self,List.mem_cons_of_mem _ List.mem_cons_self,List.mem_cons_of_mem _ (List.mem_cons_of_mem _ List.mem_cons_self),hs _ List.mem_cons_self,fun t ht=>hs _ ?_,fun i hi=>⟨hs _ ?_,hs _ ?_,fun t ht=>hs _ ?_⟩,fun h hh=>hs _ ?_,fun f hf=>⟨fun t ht=>hs _ ?_,fun t ht=>hs _ ?_⟩⟩
 ·exact List.mem_cons_of_mem _ (List.mem_append_left _ (List.mem_map_of_mem ht))
 ·exact List.mem_cons_of_mem _ (List.mem_append_right _ (List.mem_append_left _ (List.mem_flatMap.2 ⟨i,hi,List.mem_cons_self⟩)))
 ·exact List.mem_cons_of_mem _ (List.mem_append_right _ (List.mem_append_left _ (List.mem_flatMap.2 ⟨i,hi,List.mem_cons_of_mem _ List.mem_cons_self⟩)))
 ·exact List.mem_cons_of_mem _ (List.mem_append_right _ (List.mem_append_left _ (List.mem_flatMap.2 ⟨i,hi,List.mem_cons_of_mem _ (List.mem_cons_of_mem _ (List.mem_map_of_mem ht))⟩)))
 ·exact List.mem_cons_of_mem _ (List.mem_append_right _ (List.mem_append_right _ (List.mem_append_left _ (List.mem_map_of_mem hh))))
 ·exact List.mem_cons_of_mem _ (List.mem_append_right _ (List.mem_append_right _ (List.mem_append_right _ (List.mem_flatMap.2 ⟨f,hf,List.mem_append_left _ (List.mem_map_of_mem ht)⟩))))
 ·exact List.mem_cons_of_mem _ (List.mem_append_right _ (List.mem_append_right _ (List.mem_append_right _ (List.mem_flatMap.2 ⟨f,hf,List.mem_append_right _ (List.mem_map_of_mem ht)⟩))))
theorem tys_small {w:World} {v:Value} {l:List Ty} (h:Yu w v l):∀ s ∈ nmT l,s.size≤4000000:=fun s hs=>by
 obtain ⟨t,ht,rfl⟩:=List.mem_map.1 hs;have:=(h.ok t ht).2;unfold X5 at this;omega
theorem cl_small {w:World} {c:Cl} {fv mv:Value} (h:ClAt w c fv mv):∀ s ∈ nmC c,s.size≤4000000:=by
 have hst:∀ {s:ByteArray},X5 s→s.size≤4000000:=fun h=>by unfold X5 at h;omega
 intro s hs;rcases List.mem_cons.1 hs with rfl | hs
 ·decide
 rcases List.mem_cons.1 hs with rfl | hs
 ·decide
 rcases List.mem_cons.1 hs with rfl | hs
 ·exact hst h.ok.1
 obtain ⟨m,hm,hs⟩:=List.mem_flatMap.1 hs;obtain ⟨j,hj⟩:=List.mem_iff_getElem?.1 hm;obtain ⟨_,_,_,_,hr⟩:=h.ms.is;obtain ⟨_,_,_,_,_,⟨pv,cv,hv,rv,_,hp⟩,_⟩:=hr j m hj;rcases List.mem_cons.1 hs with rfl | hs
 ·exact hst hp.ok.2.1.2
 rcases List.mem_append.1 hs with hs | hs
 ·exact tys_small hp.ps s hs
 rcases List.mem_append.1 hs with hs | hs
 ·obtain ⟨i,hi,hs⟩:=List.mem_flatMap.1 hs;obtain ⟨k,hk⟩:=List.mem_iff_getElem?.1 hi;obtain ⟨_,_,_,_,hr2⟩:=hp.cs.is;obtain ⟨_,_,_,_,_,⟨pv2,_,h1,h2⟩,_⟩:=hr2 k i hk;rcases List.mem_cons.1 hs with rfl | hs
  ·exact hst h2.2.2.1
  rcases List.mem_cons.1 hs with rfl | hs
  ·exact hst h2.2.2.2.2.2
  ·exact tys_small h1 s hs
 rcases List.mem_append.1 hs with hs | hs
 ·obtain ⟨d,hd,rfl⟩:=List.mem_map.1 hs;obtain ⟨k,hk⟩:=List.mem_iff_getElem?.1 hd;obtain ⟨_,_,_,_,hr2⟩:=hp.hs.is;obtain ⟨_,_,_,_,_,⟨_,h1⟩,_⟩:=hr2 k d hk;exact hst h1.2.2.2
 ·obtain ⟨f,hf,hs⟩:=List.mem_flatMap.1 hs;obtain ⟨k,hk⟩:=List.mem_iff_getElem?.1 hf;obtain ⟨_,_,_,_,hr2⟩:=hp.fs.is;obtain ⟨_,_,_,_,_,⟨lv,sv,_,h1,h2,_⟩,_⟩:=hr2 k f hk;rcases List.mem_append.1 hs with hs | hs
  ·exact tys_small h1 s hs
  ·exact tys_small h2 s hs
theorem gr_small {w:World} {c:Cl} {fv mv:Value} (h:ClAt w c fv mv) (gr:List Bl) (hc:Xm c=true) (hg:V3 c c.methods.length=some fun y=>y ∈ gr) (hn:gr.Nodup):GrSmall gr:=by
 have hin:InG (nmC c) fun y=>y ∈ gr:=grant_in (fun m hm=>in_me hm) hc _ _ hg;refine ⟨?_,fun b hb=>⟨cl_small h _ (hin b hb).1,cl_small h _ (hin b hb).2⟩⟩;have h1:=@nodup_le Bl (fun _ _=>Classical.propDecidable _) gr ((nmC c).flatMap fun a=>(nmC c).map fun b=>(⟨a,b⟩:Bl)) hn fun b hb=>List.mem_flatMap.2 ⟨b.cls,(hin b hb).1,List.mem_map.2 ⟨b.above,(hin b hb).2,rfl⟩⟩;have h2:((nmC c).flatMap fun a=>(nmC c).map fun b=>(⟨a,b⟩:Bl)).length≤(nmC c).length*(nmC c).length:=flat_le fun a _=>by simp
 have h3:=cl_names hc;have h4:(nmC c).length*(nmC c).length≤90000*90000:=Nat.mul_le_mul h3 h3;omega
end
end Go.Proofs.YtpofmnfkdkmieaaGreat
