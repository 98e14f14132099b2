/- What is proved here: a copy of a class, with all its lists, l -/
import Derived.Test.YtpofmnfkdkmieaaGreatQ21
set_option linter.unusedVariables false
set_option linter.unusedSimpArgs false
namespace Go.Proofs.YtpofmnfkdkmieaaGreat
section
open Go Go.RowKit At E
def Rl (l:List Ty):Prop:=l.length≤1000000∧∀ t ∈ l,Rz t
structure MeGood (m:Me):Prop where
 ok:meOk m
 ps:Rl m.params
 cs:m.code.length≤1000000∧∀ i ∈ m.code,N3 i∧Rl i.ref.params
 hs:m.handlers.length≤1000000∧∀ h ∈ m.handlers,hdOk h
 fs:m.frames.length≤1000000∧∀ f ∈ m.frames,Wc f.pos∧Rl f.locals∧Rl f.stack
structure ClGood (c:Cl):Prop where
 ok:X5 c.name∧X5 c.super
 fs:c.fields.length≤1000000∧∀ f ∈ c.fields,fdOk f
 ms:c.methods.length≤1000000∧∀ m ∈ c.methods,MeGood m
 n:(c.methods.flatMap mT).length≤1048576
theorem intOk_77:Wc 77:=by unfold Wc;omega
theorem strOk_behind:X5 behind:=by unfold X5 behind;decide
theorem tyOk_77:Rz ⟨77,mt⟩:=⟨intOk_77,R4⟩
theorem insOk_77:N3 ins77:=⟨intOk_77,S2,R4,R4,tyOk_0⟩
theorem hdOk_77:hdOk hd77:=⟨S2,S2,intOk_77,R4⟩
theorem fdOk_77:fdOk fd77:=⟨strOk_behind,tyOk_0⟩
theorem meOk_77:meOk me77:=⟨strOk_behind,tyOk_0,S2,S2⟩
theorem two_all {β:Type} {p:β→Prop} {a b:β} (ha:p a) (hb:p b):∀ x ∈ [a,b],p x:=by
 intro x hx;simp only [List.mem_cons,List.not_mem_nil,or_false] at hx;rcases hx with rfl | rfl
 ·exact ha
 ·exact hb
theorem tyRow_ok {l:List Ty} (h:Rl l):Q1 (tyRow l) :=
 ⟨by have:=h.1;simp only [tyRow,tyX,List.length_append,List.length_cons,List.length_nil];omega,Rj h.2 (two_all tyOk_77 tyOk_77)⟩
theorem mT_ok {m:Me} (h:MeGood m):∀ l ∈ mT m,Q1 l:=by
 intro l hl;simp only [mT,List.mem_cons,List.mem_append,List.mem_map,List.mem_flatMap] at hl;rcases hl with rfl | ⟨i,hi,rfl⟩ | ⟨f,hf,hl⟩
 ·exact tyRow_ok h.ps
 ·exact tyRow_ok (h.cs.2 i hi).2
 ·simp only [frRows,List.mem_cons,List.not_mem_nil,or_false] at hl;rcases hl with rfl | rfl
  ·exact tyRow_ok (h.fs.2 f hf).2.1
  ·exact tyRow_ok (h.fs.2 f hf).2.2
theorem ListAt.pre {α:Type} {k:Nat} {El:World→List Value→α→Prop} {w:World} {p:Option Addr} {n m c:Nat} {l x:List α} (h:ListAt k El w (.slice p m c) (l++x)) (hn:n=l.length):ListAt k El w (.slice p n c) l:=by
 obtain ⟨p',c',hv,hl,hr⟩:=h.is;cases hv;subst hn;rw [List.length_append] at hl;refine ⟨p,c,J,⟨by omega,by omega⟩,fun i y hi=>hr i y ?_⟩;rw [List.getElem?_append_left]
 ·exact hi
 ·rcases Nat.lt_or_ge i l.length with h' | h'
  ·exact h'
  ·rw [List.getElem?_eq_none h'] at hi;cases hi
theorem Pre.at {α β:Type} {k:Nat} {El:World→List Value→α→Prop} {w:World} (f:β→α) {X ps:List β} {T:List (List β × Value)} {qv:Value} (h:Pre X T ps qv) (hT:∀ r ∈ T,ListAt k El w r.2 (r.1.map f)):ListAt k El w qv (ps.map f):=by
 rcases h with ⟨rfl,rfl⟩ | ⟨p,c,rfl,hm⟩
 ·exact ⟨none,0,J,⟨by simp,by simp⟩,fun i x hi=>by simp at hi⟩
 ·have:=hT _ hm;rw [List.map_append] at this;exact ListAt.pre this (by rw [List.length_map])
structure RowsIn (w:World) (k:Lx):Prop where
 t:∀ r ∈ k.sT,Yu w r.2 r.1
 i:∀ r ∈ k.sI,Su w r.2 (r.1.map (·.1))
 f:∀ r ∈ k.sF,FdsAt w r.2 r.1
 m:∀ r ∈ k.sM,Mn w r.2 (r.1.map (·.1))
 h:∀ r ∈ k.sH,HdsAt w r.2 r.1
 r:∀ r ∈ k.sR,Pg w r.2 (r.1.map (·.1))
theorem Nq {β:Type} {w:World} {e' e sz:Nat} {cell:β→List Value} {v:Value} {rows:List (List β × Value)} (h:(U5 e' e sz cell v rows).A w):∀ r ∈ rows,w.ownsRow 0 e sz r.2 r.1.length (r.1.flatMap cell):=fun r hr=>bigA_mem h.2.1 r hr
theorem Ue {β γ:Type} {g:β→γ} {l:List β} {l':List γ} (h:l.map g=l') {x:β} (hx:x ∈ l):g x ∈ l':=h ▸ List.mem_map_of_mem hx
theorem Yu.pre {w:World} {T:List (List Ty × Value)} {ps:List Ty} {qv:Value} (hT:∀ r ∈ T,Yu w r.2 r.1) (h:Pre tyX T ps qv):Yu w qv ps:=by
 have:=h.at (El:=TyEl) (k:=2) (w:=w) id (fun r hr=>by rw [List.map_id];exact hT r hr);rw [List.map_id] at this;exact this
theorem rowsIn_of {w:World} {c:Cl} {k:Lx} (h:(lxA k).A w) (ho:LxOf c k) (hg:ClGood c):RowsIn w k:=by
 have oT:=Nq h.1;have oI:=Nq h.2.1.1;have oF:=Nq h.2.1.2.1.1;have oM:=Nq h.2.1.2.1.2.1.1;have oH:=Nq h.2.1.2.1.2.1.2.1.1;have oR:=Nq h.2.1.2.1.2.1.2.1.2.1
 have aT:∀ r ∈ k.sT,Yu w r.2 r.1:=fun r hr=>by
  obtain ⟨m,hm,hl⟩:=List.mem_flatMap.1 (Ue ho.T hr);exact tysA_at (oT r hr) (mT_ok (hg.ms.2 m hm) _ hl)
 have aI:∀ r ∈ k.sI,Su w r.2 (r.1.map (·.1)):=fun r hr=>by
  obtain ⟨m,hm,hl⟩:=List.mem_map.1 (Ue ho.I hr);have hgm:=hg.ms.2 m hm;have hln:r.1.length=m.code.length+2:=by have:=congrArg List.length hl;simp only [List.length_map,List.length_append,List.length_cons,List.length_nil] at this;omega
  refine ListAt.of_own (El:=InsEl) (·.1) insC r.1 (oI r hr) (fun _ _=>J) (by have:=hgm.cs.1;omega) (fun x hx=>⟨x.2,rfl,Yu.pre aT (ho.li r hr x hx),?_⟩);have hx':x.1 ∈ m.code++[ins77,ins77]:=by rw [hl];exact List.mem_map_of_mem hx
  exact Rj (p:=N3) (fun i hi=>(hgm.cs.2 i hi).1) (two_all insOk_77 insOk_77) _ hx'
 have aR:∀ r ∈ k.sR,Pg w r.2 (r.1.map (·.1)):=fun r hr=>by
  obtain ⟨m,hm,hl⟩:=List.mem_map.1 (Ue ho.R hr);have hgm:=hg.ms.2 m hm;have hln:r.1.length=m.frames.length+2:=by have:=congrArg List.length hl;simp only [List.length_map,List.length_append,List.length_cons,List.length_nil] at this;omega
  refine ListAt.of_own (El:=FrEl) (·.1) frC r.1 (oR r hr) (fun _ _=>J) (by have:=hgm.fs.1;omega) (fun x hx=>⟨x.2.1,x.2.2,rfl,Yu.pre aT (ho.lr r hr x hx).1,Yu.pre aT (ho.lr r hr x hx).2,?_⟩);have hx':x.1 ∈ m.frames++[fr77,fr77]:=by rw [hl];exact List.mem_map_of_mem hx
  exact Rj (p:=fun f:Fr=>Wc f.pos) (fun i hi=>(hgm.fs.2 i hi).1) (two_all intOk_77 intOk_77) _ hx'
 have aH:∀ r ∈ k.sH,HdsAt w r.2 r.1:=fun r hr=>by
  obtain ⟨m,hm,hl⟩:=List.mem_map.1 (Ue ho.H hr);have hgm:=hg.ms.2 m hm;refine hdsA_at (oH r hr) ⟨?_,?_⟩
  ·rw [← hl,List.length_append];have:=hgm.hs.1;simp only [hdX,List.length_cons,List.length_nil];omega
  ·rw [← hl];exact Rj hgm.hs.2 (two_all hdOk_77 hdOk_77)
 have aF:∀ r ∈ k.sF,FdsAt w r.2 r.1:=fun r hr=>by
  have hl:=List.mem_singleton.1 (Ue ho.F hr);refine fdsA_at (oF r hr) ⟨?_,?_⟩
  ·rw [hl,List.length_append];have:=hg.fs.1;simp only [fdX,List.length_cons,List.length_nil];omega
  ·rw [hl];exact Rj hg.fs.2 (two_all fdOk_77 fdOk_77)
 have aM:∀ r ∈ k.sM,Mn w r.2 (r.1.map (·.1)):=fun r hr=>by
  have hl:=List.mem_singleton.1 (Ue ho.M hr);have hln:r.1.length=c.methods.length+2:=by have:=congrArg List.length hl;simp only [List.length_map,List.length_append,List.length_cons,List.length_nil] at this;omega
  refine ListAt.of_own (El:=MeEl) (·.1) meC r.1 (oM r hr) (fun _ _=>J) (by have:=hg.ms.1;omega) (fun x hx=>⟨_,_,_,_,rfl,?_⟩);have hx':x.1 ∈ c.methods++[me77,me77]:=by rw [← hl];exact List.mem_map_of_mem hx
  have hok:meOk x.1:=Rj (p:=meOk) (fun i hi=>(hg.ms.2 i hi).ok) (two_all meOk_77 meOk_77) _ hx';have lk:=ho.lm r hr x hx;refine ⟨Yu.pre aT lk.p,?_,?_,?_,hok⟩
  ·rw [← lk.cm];exact lk.c.at (El:=InsEl) (·.1) aI
  ·have:=lk.h.at (El:=HdEl) (k:=4) (w:=w) id (fun r hr=>by rw [List.map_id];exact aH r hr);rw [List.map_id] at this;exact this
  ·rw [← lk.fm];exact lk.f.at (El:=FrEl) (·.1) aR
 exact ⟨aT,aI,aF,aM,aH,aR⟩
theorem clAt_of {w:World} {c:Cl} {k:Lx} {fv mv:Value} {ms:List (Me × MeM)} (h:RowsIn w k) (hg:ClGood c) (hf:Pre fdX k.sF c.fields fv) (hms:ms.map (·.1)=c.methods) (hm:Pre meX k.sM ms mv):ClAt w c fv mv:=by
 refine ⟨?_,?_,hg.ok⟩
 ·have:=hf.at (El:=FdEl) (k:=4) (w:=w) id (fun r hr=>by rw [List.map_id];exact h.f r hr);rw [List.map_id] at this;exact this
 ·rw [← hms];exact hm.at (El:=MeEl) (·.1) h.m
theorem lsAt_of {w0 w:World} {F:List Nat} {H:Hp} {R:Asr} {b i:Nat} {k:Lx} {c:Cl} (hs:Sat w0 F H R w) (hp:H[i]?=some (b,k.C)) (h:(lxA k).A w) (ho:LxOf c k) (hg:ClGood c) :
  LsAt w b k (c.methods.flatMap mT) (c.methods.map fun m=>m.code++[ins77,ins77]) [c.fields++fdX] [c.methods++[me77,me77]] (c.methods.map fun m=>m.handlers++hdX) (c.methods.map fun m=>m.frames++[fr77,fr77]):=by
 have hc:=S0 hs hp;have hr:=rowsIn_of h ho hg;have n1:=congrArg List.length ho.T;have n2:=congrArg List.length ho.I;have n3:=congrArg List.length ho.F;have n4:=congrArg List.length ho.M;have n5:=congrArg List.length ho.H;have n6:=congrArg List.length ho.R;simp only [List.length_map,List.length_cons,List.length_nil] at n1 n2 n3 n4 n5 n6;have hn:=hg.n;have hm:=hg.ms.1;refine ⟨hc.1,hc.2,?_,?_,?_,?_,?_,?_⟩
 ·rw [← ho.T];exact Pt (fun l=>l) h.1 (by omega) (fun r hr' _=>hr.t r hr')
 ·rw [← ho.I];exact Pt (fun l=>l.map (·.1)) h.2.1.1 (by omega) (fun r hr' _=>hr.i r hr')
 ·rw [← ho.F];exact Pt (fun l=>l) h.2.1.2.1.1 (by omega) (fun r hr' _=>hr.f r hr')
 ·rw [← ho.M];exact Pt (fun l=>l.map (·.1)) h.2.1.2.1.2.1.1 (by omega) (fun r hr' _=>hr.m r hr')
 ·rw [← ho.H];exact Pt (fun l=>l) h.2.1.2.1.2.1.2.1.1 (by omega) (fun r hr' _=>hr.h r hr')
 ·rw [← ho.R];exact Pt (fun l=>l.map (·.1)) h.2.1.2.1.2.1.2.1.2.1 (by omega) (fun r hr' _=>hr.r r hr')
end
namespace E
open Go Go.RowKit
section
variable {P:Program} {n:Nat} {E:Env} {w0:World} {F:List Nat} {H:Hp} {R:Asr} {fn:Func} {Z:Ending→World→Prop} {κ:List Kf}
def RcC (P:Program) (f:FuncId) (args:Array Value) (b:Nat) (cs:List Value) (Rin:Asr) (C:World→Prop) (ok:Value→List Value→Asr→Prop):Prop:=∀ w,Sat w (b::Rin.S) [(b,cs)] Rin w→C w→Calls P f args w (RkZ b w Rin ok)
theorem WL_callKC {all:Array Oper} {l:List Oper} {d f b:Nat} {xs:List Operand} {vs:List Value} {ts:Array TypeId} {t:TypeId} {p:String} {e:Array Edge} {cs:List Value} {Rin:Asr} {C:World→Prop} {ok:Value→List Value→Asr→Prop} (hf:IsFn P f)
  (hd:Nat.blt d n=true) (hx:args E xs=some vs) (i:Nat) (hp:H[i]?=some (b,cs)) (hc:RcC P f vs.toArray b cs Rin C ok) (hC:∀ w,Sat w0 F H (Rin.and R) w→C w)
  (h:∀ v cs' R',ok v cs' R'→WL P n all l ((d,v)::E) w0 F (H.set i (b,cs')) (R'.and R) fn Z κ) :
  WL P n all (⟨some d,.call ⟨.value (.func f),xs.toArray,ts⟩,t,p,e,none⟩::l) E w0 F H (Rin.and R) fn Z κ :=
 ⟨fun w hs a ha=>wpList_plain rfl fun K hK=>by
  unfold Oper.wp;rw [V8 rfl hf,Ve ha xs vs hx];refine Calls.mono (hc w (rk_now hs hp) (hC w hs)) ?_;rintro e w' ⟨v,cs',R',rfl,hok,hw⟩;exact hK _ _ ((h v cs' R' hok).go w' (Oz hs hp hw) _ (ha.put hd _))⟩
theorem Mj {e m cap g i:Nat} {xs:List Value} {v:Value} (h:∀ w,Sat w0 F H R w→w.ownsRow 0 e 1 (.slice (some ⟨g,0,none⟩) m cap) m xs) (hi:xs[i]?=some v):Cell w0 F H R ⟨g,0+i*1,none⟩ v :=
 ⟨fun w hs=>by
  have h1:=(h w hs).cells (g:=g) rfl i v hi;rw [Addr.add_lit] at h1;rw [Nat.mul_one];exact h1⟩
end
end E
section
open Go Go.RowKit At E
structure LxLen (k:Lx):Prop where
 t:∀ r ∈ k.sT,r.1.length≤2000000
 i:∀ r ∈ k.sI,r.1.length≤2000000
 f:∀ r ∈ k.sF,r.1.length≤2000000
 m:∀ r ∈ k.sM,r.1.length≤2000000
 h:∀ r ∈ k.sH,r.1.length≤2000000
 r:∀ r ∈ k.sR,r.1.length≤2000000
theorem Qn {β:Type} (e' e sz:Nat) (cell:β→List Value) (v:Value) (rows:List (List β × Value)) (D:Asr):((U5 e' e sz cell v rows).and D).Imp ((Y0 e' 1 v rows.length (rows.map (·.2))).and ((Qa ((rows.drop 0).map fun p=>Y0 e sz p.2 p.1.length (p.1.flatMap cell))).and D)):=Asr.assoc _ _ _
def lxN (k:Lx):Nat:=k.sT.length+k.sI.length+k.sF.length+k.sM.length+k.sH.length+k.sR.length
theorem kl1 (B O X Y D:Asr):(B.and (O.and ((X.and Y).and D))).Imp ((X.and B).and (O.and (Y.and D))) :=
 (Asr.Imp.right ((Asr.Imp.right (Asr.assoc _ _ _)).trans (Asr.swap _ _ _))).trans ((Asr.swap _ _ _).trans (Asr.cossa _ _ _))
theorem kl2 (B O Y D:Asr):(B.and (O.and (Y.and D))).Imp (B.and D):=Asr.Imp.right ((Asr.snd _ _).trans (Asr.snd _ _))
theorem map_at {β:Type} {rows:List (List β × Value)} {i:Nat} {l:List β} {v:Value} (h:rows[i]?=some (l,v)):(rows.map (·.2))[i]?=some v:=by rw [List.getElem?_map,h];rfl
set_option maxHeartbeats 8000000 in
theorem keepLists_any (b a:Nat) (bk:Bk) (k:Lx) (N M:Nat) (hbk:BkOk bk N) (hM:N+4*lxN k≤M) (hMM:M≤1099511627776) (hk:LxLen k) :
  RcC Tryz.prog 47 #[pt b,pt a] b bk.C ((S8 bk).and (lxA k)) (fun w=>(∀ j x,k.C[j]?=some x→w.cell? ⟨a,j,none⟩=some x)∧a ∉ b::((S8 bk).and (lxA k)).S) (bkOk M):=by
 intro w hs0 hC
 have forms:(∃ p c,k.vT=.slice p k.sT.length c∧(0<k.sT.length→∃ g,p=some ⟨g,0,none⟩))∧(∃ p c,k.vI=.slice p k.sI.length c∧(0<k.sI.length→∃ g,p=some ⟨g,0,none⟩))∧(∃ p c,k.vF=.slice p k.sF.length c∧(0<k.sF.length→∃ g,p=some ⟨g,0,none⟩))∧(∃ p c,k.vM=.slice p k.sM.length c∧(0<k.sM.length→∃ g,p=some ⟨g,0,none⟩))∧(∃ p c,k.vH=.slice p k.sH.length c∧(0<k.sH.length→∃ g,p=some ⟨g,0,none⟩))∧(∃ p c,k.vR=.slice p k.sR.length c∧(0<k.sR.length→∃ g,p=some ⟨g,0,none⟩)) :=
  have h:=hs0.res.2.1
  ⟨Xr h.1.1,Xr h.2.1.1.1,Xr h.2.1.2.1.1.1,Xr h.2.1.2.1.2.1.1.1,Xr h.2.1.2.1.2.1.2.1.1.1,Xr h.2.1.2.1.2.1.2.1.2.1.1⟩
 obtain ⟨hC1,hC2⟩:=hC;obtain ⟨hkT,hkI,hkF,hkM,hkH,hkR⟩:=hk;unfold lxN at hM;obtain ⟨vT,vI,vF,vM,vH,vR,sT,sI,sF,sM,sH,sR⟩:=k;obtain ⟨⟨pT,cT,heT,hpT⟩,⟨pI,cI,heI,hpI⟩,⟨pF,cF,heF,hpF⟩,⟨pM,cM,heM,hpM⟩,⟨pH,cH,heH,hpH⟩,⟨pR,cR,heR,hpR⟩⟩:=forms;dsimp only at heT heI heF heM heH heR hpT hpI hpF hpM hpH hpR hkT hkI hkF hkM hkH hkR hM;subst heT;subst heI;subst heF;subst heM;subst heH;subst heR;replace hpT:Hid _:=hpT;replace hkT:Hid _:=hkT;replace hpI:Hid _:=hpI;replace hkI:Hid _:=hkI;replace hpF:Hid _:=hpF;replace hkF:Hid _:=hkF;replace hpM:Hid _:=hpM;replace hkM:Hid _:=hkM;replace hpH:Hid _:=hpH;replace hkH:Hid _:=hkH;replace hpR:Hid _:=hpR;replace hkR:Hid _:=hkR;replace hC1:∀ j x,(bkC (.slice pT sT.length cT) (.slice pI sI.length cI) (.slice pF sF.length cF) (.slice pM sM.length cM) (.slice pH sH.length cH) (.slice pR sR.length cR) W0)[j]?=some x→w.cell? ⟨a,j,none⟩=some x:=hC1;refine Yz (hs0) (args:=[pt b,pt a]) Tryz.func47 J Tryz.ntmps47 ?_;refine Zg (Zg (Zb (Za J (Zf J) (Ze (Zc (Zn (Xt ((Asr.Imp.right (out1 _ _ _ _ _ _)).trans (Asr.Imp.right (Qn _ _ _ _ _ _ _))) ?_)))))));refine Yf (Yg (X:=KcL) (fun xT=>[(0,pt b),(1,pt a),(4,iN xT.i)]) _ _ (fun xT=>[(b,xT.bk.C)]) (fun xT=>(S8 xT.bk).and ((Y0 69 1 (.slice pT sT.length cT) sT.length (sT.map (·.2))).and ((Qa ((sT.drop xT.i).map fun p=>Y0 71 2 p.2 p.1.length (p.1.flatMap tyV))).and ((U5 76 75 7 insC (.slice pI sI.length cI) sI).and ((U5 22 128 4 fdV (.slice pF sF.length cF) sF).and ((U5 23 134 10 meC (.slice pM sM.length cM) sM).and ((U5 131 169 4 hdV (.slice pH sH.length cH) sH).and (U5 132 176 3 frC (.slice pR sR.length cR) sR)))))))) (fun xT=>xT.i≤sT.length∧BkOk xT.bk xT.N∧xT.N+4*(sT.length - xT.i+(sI.length+sF.length+sH.length+sR.length+sM.length))≤M) (fun xT=>sT.length - xT.i) (⟨0,bk,N⟩) (⟨Nat.zero_le _,hbk,by show N+_≤M;omega⟩) ?_) ⟨rfl,rfl,rfl,trivial⟩;intro xT hI;refine Zg (Zg (Zb (Za J (Zd J) (Za J (Zd J) (Za J (Zw J) (Za J (Zh (ff J) J) (Za J (Zj (t1 J) J (Vi (hC1 0 _ J) hC2)) (Za J (Zx (ts J) J) (Za J (Yi J J) (Ze (Zc (Zu J ?_ ?_))))))))))))
 ·intro c1;have hxT:xT.i<sT.length:=by omega
  obtain ⟨⟨lT,vT⟩,hlT⟩:∃ p,sT[xT.i]?=some p:=⟨_,List.getElem?_eq_getElem hxT⟩;obtain ⟨gT,hgT⟩:=hpT.out (by omega);subst hgT;refine Zo (Zc (Zg (Zn (Zb (Za J (Zd J) (Za J (Zd J) (Za J (Zw J) (Za J (Zh (ff J) J) (Za J (Zj (t1 J) J (Vi (hC1 0 _ J) hC2)) (Za J (Zd J) (Za J (Yo (ts J) J J ?_) ?_)))))))))))
  ·omega
  refine Za J (Zj (t1 J) J (Mj (fun w hs=>hs.res.2.1.1) (map_at hlT))) ?_;rw [Q9 hlT];refine Zz (kl1 _ _ _ _ _) ?_;refine Pa fn81 J J 0 J (kpTypes b _ xT.N (by have h9:=hI.2.2;omega) hI.2.1 _ _ _ (hkT.out _ (List.mem_of_getElem? hlT))) ?_;rintro v cs' R' ⟨bk1,rfl,hR1,hbk1⟩;refine Zz hR1.left ?_;refine Ze (Zt (Zc (Zb (Za J (Zd J) ?_))));refine Za J (Yn J J ?_) ?_;omega;refine Za J (Zf J) (Ze ?_);refine Z1 (⟨xT.i+1,bk1,xT.N+4⟩) ?_ (⟨by show xT.i+1≤sT.length;omega,hbk1,by show xT.N+4+4*(sT.length - (xT.i+1)+(sI.length+sF.length+sH.length+sR.length+sM.length))≤M;have h9:=hI.2.2;omega⟩) 0 rfl (rfl) ⟨rfl,rfl,rfl,trivial⟩;show sT.length - (xT.i+1)<sT.length - xT.i;omega
 ·intro c1;refine Yd (Yc (Z5 (Yb (Zc (Zg (Zg (Zb (Za J (Zf J) (Ze (Zc (Zn ?_)))))))))));have hT9:=hI;have hT8:xT.i=sT.length:=by omega
  refine Xt (kl2 _ _ _ _) (Xt ((Asr.Imp.refl _).trans (Asr.Imp.right (Qn _ _ _ _ _ _ _))) ?_);refine Yf (Yg (X:=KcL) (fun xI=>[(0,pt b),(1,pt a),(5,iN xI.i)]) _ _ (fun xI=>[(b,xI.bk.C)]) (fun xI=>(S8 xI.bk).and ((Y0 76 1 (.slice pI sI.length cI) sI.length (sI.map (·.2))).and ((Qa ((sI.drop xI.i).map fun p=>Y0 75 7 p.2 p.1.length (p.1.flatMap insC))).and ((U5 22 128 4 fdV (.slice pF sF.length cF) sF).and ((U5 23 134 10 meC (.slice pM sM.length cM) sM).and ((U5 131 169 4 hdV (.slice pH sH.length cH) sH).and (U5 132 176 3 frC (.slice pR sR.length cR) sR))))))) (fun xI=>xI.i≤sI.length∧BkOk xI.bk xI.N∧xI.N+4*(sI.length - xI.i+(sF.length+sH.length+sR.length+sM.length))≤M) (fun xI=>sI.length - xI.i) (⟨0,xT.bk,xT.N⟩) (⟨Nat.zero_le _,hT9.2.1,by have h9:=hT9.2.2;show xT.N+4*(sI.length - 0+(sF.length+sH.length+sR.length+sM.length))≤M;omega⟩) ?_) ⟨rfl,rfl,rfl,trivial⟩;intro xI hI;refine Zg (Zg (Zb (Za J (Zd J) (Za J (Zd J) (Za J (Zw J) (Za J (Zh (ff J) J) (Za J (Zj (t1 J) J (Vi (hC1 1 _ J) hC2)) (Za J (Zx (ts J) J) (Za J (Yi J J) (Ze (Zc (Zu J ?_ ?_))))))))))))
  ·intro c2;have hxI:xI.i<sI.length:=by omega
   obtain ⟨⟨lI,vI⟩,hlI⟩:∃ p,sI[xI.i]?=some p:=⟨_,List.getElem?_eq_getElem hxI⟩;obtain ⟨gI,hgI⟩:=hpI.out (by omega);subst hgI;refine Zo (Zc (Zg (Zn (Zb (Za J (Zd J) (Za J (Zd J) (Za J (Zw J) (Za J (Zh (ff J) J) (Za J (Zj (t1 J) J (Vi (hC1 1 _ J) hC2)) (Za J (Zd J) (Za J (Yo (ts J) J J ?_) ?_)))))))))))
   ·omega
   refine Za J (Zj (t1 J) J (Mj (fun w hs=>hs.res.2.1.1) (map_at hlI))) ?_;rw [Q9 hlI];refine Zz (kl1 _ _ _ _ _) ?_;refine Pa fn82 J J 0 J (kpInstrs b _ xI.N (by have h9:=hI.2.2;omega) hI.2.1 _ _ _ (hkI.out _ (List.mem_of_getElem? hlI))) ?_;rintro v cs' R' ⟨bk1,rfl,hR1,hbk1⟩;refine Zz hR1.left ?_;refine Ze (Zt (Zc (Zb (Za J (Zd J) ?_))));refine Za J (Yn J J ?_) ?_;omega;refine Za J (Zf J) (Ze ?_);refine Z1 (⟨xI.i+1,bk1,xI.N+4⟩) ?_ (⟨by show xI.i+1≤sI.length;omega,hbk1,by show xI.N+4+4*(sI.length - (xI.i+1)+(sF.length+sH.length+sR.length+sM.length))≤M;have h9:=hI.2.2;omega⟩) 0 rfl (rfl) ⟨rfl,rfl,rfl,trivial⟩;show sI.length - (xI.i+1)<sI.length - xI.i;omega
  ·intro c2;refine Yd (Yc (Z5 (Yb (Zc (Zg (Zg (Zb (Za J (Zf J) (Ze (Zc (Zn ?_)))))))))));have hI9:=hI;have hI8:xI.i=sI.length:=by omega
   refine Xt (kl2 _ _ _ _) (Xt ((Asr.Imp.refl _).trans (Asr.Imp.right (Qn _ _ _ _ _ _ _))) ?_);refine Yf (Yg (X:=KcL) (fun xF=>[(0,pt b),(1,pt a),(6,iN xF.i)]) _ _ (fun xF=>[(b,xF.bk.C)]) (fun xF=>(S8 xF.bk).and ((Y0 22 1 (.slice pF sF.length cF) sF.length (sF.map (·.2))).and ((Qa ((sF.drop xF.i).map fun p=>Y0 128 4 p.2 p.1.length (p.1.flatMap fdV))).and ((U5 23 134 10 meC (.slice pM sM.length cM) sM).and ((U5 131 169 4 hdV (.slice pH sH.length cH) sH).and (U5 132 176 3 frC (.slice pR sR.length cR) sR)))))) (fun xF=>xF.i≤sF.length∧BkOk xF.bk xF.N∧xF.N+4*(sF.length - xF.i+(sH.length+sR.length+sM.length))≤M) (fun xF=>sF.length - xF.i) (⟨0,xI.bk,xI.N⟩) (⟨Nat.zero_le _,hI9.2.1,by have h9:=hI9.2.2;show xI.N+4*(sF.length - 0+(sH.length+sR.length+sM.length))≤M;omega⟩) ?_) ⟨rfl,rfl,rfl,trivial⟩;intro xF hI;refine Zg (Zg (Zb (Za J (Zd J) (Za J (Zd J) (Za J (Zw J) (Za J (Zh (ff J) J) (Za J (Zj (t1 J) J (Vi (hC1 2 _ J) hC2)) (Za J (Zx (ts J) J) (Za J (Yi J J) (Ze (Zc (Zu J ?_ ?_))))))))))))
   ·intro c3;have hxF:xF.i<sF.length:=by omega
    obtain ⟨⟨lF,vF⟩,hlF⟩:∃ p,sF[xF.i]?=some p:=⟨_,List.getElem?_eq_getElem hxF⟩;obtain ⟨gF,hgF⟩:=hpF.out (by omega);subst hgF;refine Zo (Zc (Zg (Zn (Zb (Za J (Zd J) (Za J (Zd J) (Za J (Zw J) (Za J (Zh (ff J) J) (Za J (Zj (t1 J) J (Vi (hC1 2 _ J) hC2)) (Za J (Zd J) (Za J (Yo (ts J) J J ?_) ?_)))))))))))
    ·omega
    refine Za J (Zj (t1 J) J (Mj (fun w hs=>hs.res.2.1.1) (map_at hlF))) ?_;rw [Q9 hlF];refine Zz (kl1 _ _ _ _ _) ?_;refine Pa fn83 J J 0 J (kpFields b _ xF.N (by have h9:=hI.2.2;omega) hI.2.1 _ _ _ (hkF.out _ (List.mem_of_getElem? hlF))) ?_;rintro v cs' R' ⟨bk1,rfl,hR1,hbk1⟩;refine Zz hR1.left ?_;refine Ze (Zt (Zc (Zb (Za J (Zd J) ?_))));refine Za J (Yn J J ?_) ?_;omega;refine Za J (Zf J) (Ze ?_);refine Z1 (⟨xF.i+1,bk1,xF.N+4⟩) ?_ (⟨by show xF.i+1≤sF.length;omega,hbk1,by show xF.N+4+4*(sF.length - (xF.i+1)+(sH.length+sR.length+sM.length))≤M;have h9:=hI.2.2;omega⟩) 0 rfl (rfl) ⟨rfl,rfl,rfl,trivial⟩;show sF.length - (xF.i+1)<sF.length - xF.i;omega
   ·intro c3;refine Yd (Yc (Z5 (Yb (Zc (Zg (Zg (Zb (Za J (Zf J) (Ze (Zc (Zn ?_)))))))))));have hF9:=hI;have hF8:xF.i=sF.length:=by omega
    refine Xt (kl2 _ _ _ _) (Xt ((Asr.Imp.right (Asr.swap _ _ _)).trans (Asr.Imp.right (Qn _ _ _ _ _ _ _))) ?_);refine Yf (Yg (X:=KcL) (fun xH=>[(0,pt b),(1,pt a),(7,iN xH.i)]) _ _ (fun xH=>[(b,xH.bk.C)]) (fun xH=>(S8 xH.bk).and ((Y0 131 1 (.slice pH sH.length cH) sH.length (sH.map (·.2))).and ((Qa ((sH.drop xH.i).map fun p=>Y0 169 4 p.2 p.1.length (p.1.flatMap hdV))).and ((U5 23 134 10 meC (.slice pM sM.length cM) sM).and (U5 132 176 3 frC (.slice pR sR.length cR) sR))))) (fun xH=>xH.i≤sH.length∧BkOk xH.bk xH.N∧xH.N+4*(sH.length - xH.i+(sR.length+sM.length))≤M) (fun xH=>sH.length - xH.i) (⟨0,xF.bk,xF.N⟩) (⟨Nat.zero_le _,hF9.2.1,by have h9:=hF9.2.2;show xF.N+4*(sH.length - 0+(sR.length+sM.length))≤M;omega⟩) ?_) ⟨rfl,rfl,rfl,trivial⟩;intro xH hI;refine Zg (Zg (Zb (Za J (Zd J) (Za J (Zd J) (Za J (Zw J) (Za J (Zh (ff J) J) (Za J (Zj (t1 J) J (Vi (hC1 4 _ J) hC2)) (Za J (Zx (ts J) J) (Za J (Yi J J) (Ze (Zc (Zu J ?_ ?_))))))))))))
    ·intro c4;have hxH:xH.i<sH.length:=by omega
     obtain ⟨⟨lH,vH⟩,hlH⟩:∃ p,sH[xH.i]?=some p:=⟨_,List.getElem?_eq_getElem hxH⟩;obtain ⟨gH,hgH⟩:=hpH.out (by omega);subst hgH;refine Zo (Zc (Zg (Zn (Zb (Za J (Zd J) (Za J (Zd J) (Za J (Zw J) (Za J (Zh (ff J) J) (Za J (Zj (t1 J) J (Vi (hC1 4 _ J) hC2)) (Za J (Zd J) (Za J (Yo (ts J) J J ?_) ?_)))))))))))
     ·omega
     refine Za J (Zj (t1 J) J (Mj (fun w hs=>hs.res.2.1.1) (map_at hlH))) ?_;rw [Q9 hlH];refine Zz (kl1 _ _ _ _ _) ?_;refine Pa fn84 J J 0 J (kpHandlers b _ xH.N (by have h9:=hI.2.2;omega) hI.2.1 _ _ _ (hkH.out _ (List.mem_of_getElem? hlH))) ?_;rintro v cs' R' ⟨bk1,rfl,hR1,hbk1⟩;refine Zz hR1.left ?_;refine Ze (Zt (Zc (Zb (Za J (Zd J) ?_))));refine Za J (Yn J J ?_) ?_;omega;refine Za J (Zf J) (Ze ?_);refine Z1 (⟨xH.i+1,bk1,xH.N+4⟩) ?_ (⟨by show xH.i+1≤sH.length;omega,hbk1,by show xH.N+4+4*(sH.length - (xH.i+1)+(sR.length+sM.length))≤M;have h9:=hI.2.2;omega⟩) 0 rfl (rfl) ⟨rfl,rfl,rfl,trivial⟩;show sH.length - (xH.i+1)<sH.length - xH.i;omega
    ·intro c4;refine Yd (Yc (Z5 (Yb (Zc (Zg (Zg (Zb (Za J (Zf J) (Ze (Zc (Zn ?_)))))))))));have hH9:=hI;have hH8:xH.i=sH.length:=by omega
     refine Xt (kl2 _ _ _ _) (Xt ((Asr.Imp.right (Asr.comm _ _)).trans (Asr.Imp.right (Qn _ _ _ _ _ _ _))) ?_);refine Yf (Yg (X:=KcL) (fun xR=>[(0,pt b),(1,pt a),(8,iN xR.i)]) _ _ (fun xR=>[(b,xR.bk.C)]) (fun xR=>(S8 xR.bk).and ((Y0 132 1 (.slice pR sR.length cR) sR.length (sR.map (·.2))).and ((Qa ((sR.drop xR.i).map fun p=>Y0 176 3 p.2 p.1.length (p.1.flatMap frC))).and (U5 23 134 10 meC (.slice pM sM.length cM) sM)))) (fun xR=>xR.i≤sR.length∧BkOk xR.bk xR.N∧xR.N+4*(sR.length - xR.i+(sM.length))≤M) (fun xR=>sR.length - xR.i) (⟨0,xH.bk,xH.N⟩) (⟨Nat.zero_le _,hH9.2.1,by have h9:=hH9.2.2;show xH.N+4*(sR.length - 0+(sM.length))≤M;omega⟩) ?_) ⟨rfl,rfl,rfl,trivial⟩;intro xR hI;refine Zg (Zg (Zb (Za J (Zd J) (Za J (Zd J) (Za J (Zw J) (Za J (Zh (ff J) J) (Za J (Zj (t1 J) J (Vi (hC1 5 _ J) hC2)) (Za J (Zx (ts J) J) (Za J (Yi J J) (Ze (Zc (Zu J ?_ ?_))))))))))))
     ·intro c5;have hxR:xR.i<sR.length:=by omega
      obtain ⟨⟨lR,vR⟩,hlR⟩:∃ p,sR[xR.i]?=some p:=⟨_,List.getElem?_eq_getElem hxR⟩;obtain ⟨gR,hgR⟩:=hpR.out (by omega);subst hgR;refine Zo (Zc (Zg (Zn (Zb (Za J (Zd J) (Za J (Zd J) (Za J (Zw J) (Za J (Zh (ff J) J) (Za J (Zj (t1 J) J (Vi (hC1 5 _ J) hC2)) (Za J (Zd J) (Za J (Yo (ts J) J J ?_) ?_)))))))))))
      ·omega
      refine Za J (Zj (t1 J) J (Mj (fun w hs=>hs.res.2.1.1) (map_at hlR))) ?_;rw [Q9 hlR];refine Zz (kl1 _ _ _ _ _) ?_;refine Pa fn85 J J 0 J (kpFrames b _ xR.N (by have h9:=hI.2.2;omega) hI.2.1 _ _ _ (hkR.out _ (List.mem_of_getElem? hlR))) ?_;rintro v cs' R' ⟨bk1,rfl,hR1,hbk1⟩;refine Zz hR1.left ?_;refine Ze (Zt (Zc (Zb (Za J (Zd J) ?_))));refine Za J (Yn J J ?_) ?_;omega;refine Za J (Zf J) (Ze ?_);refine Z1 (⟨xR.i+1,bk1,xR.N+4⟩) ?_ (⟨by show xR.i+1≤sR.length;omega,hbk1,by show xR.N+4+4*(sR.length - (xR.i+1)+(sM.length))≤M;have h9:=hI.2.2;omega⟩) 0 rfl (rfl) ⟨rfl,rfl,rfl,trivial⟩;show sR.length - (xR.i+1)<sR.length - xR.i;omega
     ·intro c5;refine Yd (Yc (Z5 (Yb (Zc (Zg (Zb (Za J (Zf J) (Ze (Zc (Zn ?_))))))))));have hR9:=hI;have hR8:xR.i=sR.length:=by omega
      refine Xt (kl2 _ _ _ _) (Xt ((Asr.Imp.right (Asr.addNone _)).trans (Asr.Imp.right (Qn _ _ _ _ _ _ _))) ?_);refine Yf (Yg (X:=KcL) (fun xM=>[(0,pt b),(1,pt a),(9,iN xM.i)]) _ _ (fun xM=>[(b,xM.bk.C)]) (fun xM=>(S8 xM.bk).and ((Y0 23 1 (.slice pM sM.length cM) sM.length (sM.map (·.2))).and ((Qa ((sM.drop xM.i).map fun p=>Y0 134 10 p.2 p.1.length (p.1.flatMap meC))).and Asr.none))) (fun xM=>xM.i≤sM.length∧BkOk xM.bk xM.N∧xM.N+4*(sM.length - xM.i+(0))≤M) (fun xM=>sM.length - xM.i) (⟨0,xR.bk,xR.N⟩) (⟨Nat.zero_le _,hR9.2.1,by have h9:=hR9.2.2;show xR.N+4*(sM.length - 0+(0))≤M;omega⟩) ?_) ⟨rfl,rfl,rfl,trivial⟩;intro xM hI;refine Zg (Zg (Zb (Za J (Zd J) (Za J (Zd J) (Za J (Zw J) (Za J (Zh (ff J) J) (Za J (Zj (t1 J) J (Vi (hC1 3 _ J) hC2)) (Za J (Zx (ts J) J) (Za J (Yi J J) (Ze (Zc (Zu J ?_ ?_))))))))))))
      ·intro c6;have hxM:xM.i<sM.length:=by omega
       obtain ⟨⟨lM,vM⟩,hlM⟩:∃ p,sM[xM.i]?=some p:=⟨_,List.getElem?_eq_getElem hxM⟩;obtain ⟨gM,hgM⟩:=hpM.out (by omega);subst hgM;refine Zo (Zc (Zg (Zn (Zb (Za J (Zd J) (Za J (Zd J) (Za J (Zw J) (Za J (Zh (ff J) J) (Za J (Zj (t1 J) J (Vi (hC1 3 _ J) hC2)) (Za J (Zd J) (Za J (Yo (ts J) J J ?_) ?_)))))))))))
       ·omega
       refine Za J (Zj (t1 J) J (Mj (fun w hs=>hs.res.2.1.1) (map_at hlM))) ?_;rw [Q9 hlM];refine Zz (kl1 _ _ _ _ _) ?_;refine Pa fn86 J J 0 J (kpMethods b _ xM.N (by have h9:=hI.2.2;omega) hI.2.1 _ _ _ (hkM.out _ (List.mem_of_getElem? hlM))) ?_;rintro v cs' R' ⟨bk1,rfl,hR1,hbk1⟩;refine Zz hR1.left ?_;refine Ze (Zt (Zc (Zb (Za J (Zd J) ?_))));refine Za J (Yn J J ?_) ?_;omega;refine Za J (Zf J) (Ze ?_);refine Z1 (⟨xM.i+1,bk1,xM.N+4⟩) ?_ (⟨by show xM.i+1≤sM.length;omega,hbk1,by show xM.N+4+4*(sM.length - (xM.i+1)+(0))≤M;have h9:=hI.2.2;omega⟩) 0 rfl (rfl) ⟨rfl,rfl,rfl,trivial⟩;show sM.length - (xM.i+1)<sM.length - xM.i;omega
      ·intro c6;refine Yd (Yc (Z5 (Yb (Lg (Asr.fst _ _) (Xa J 0 J ?_)))));exact ⟨xM.bk,J,.refl _,hI.2.1.mono (by have h9:=hI.2.2;omega)⟩
theorem rows0_A {β:Type} (e' e sz:Nat) (cell:β→List Value) (w:World):(U5 e' e sz cell (.slice none 0 0) []).A w:=⟨World.ownsRow_nil w 0 e' 1,trivial,fun x hx=>by simp [Y0,Value.ownBlock] at hx⟩
theorem and0 {A B:Asr} {w:World} (ha:A.A w) (hb:B.A w) (hS:A.S=[]):(A.and B).A w:=⟨ha,hb,fun x hx=>by rw [hS] at hx;cases hx⟩
theorem lx0_S:(lxA lx0).S=[]:=rfl
theorem lx0_A (w:World):(lxA lx0).A w :=
 and0 (rows0_A _ _ _ _ w) (and0 (rows0_A _ _ _ _ w) (and0 (rows0_A _ _ _ _ w) (and0 (rows0_A _ _ _ _ w) (and0 (rows0_A _ _ _ _ w) (rows0_A _ _ _ _ w) rfl) rfl) rfl) rfl) rfl
theorem lx0_in (R:Asr):R.Imp ((lxA lx0).and R):=⟨fun x hx=>by simpa [Asr.and,lx0_S] using hx,fun w hw=>and0 (lx0_A w) hw lx0_S⟩
theorem apart_of {w0 w:World} {F:List Nat} {H:Hp} {R Rin:Asr} (hs:Sat w0 F H (Rin.and R) w) {i j a b:Nat} {ca cb:List Value} (hi:H[i]?=some (b,cb)) (hj:H[j]?=some (a,ca)) (hne:i≠j):a ∉ b::Rin.S:=by
 intro h;rcases List.mem_cons.1 h with h | h
 ·subst h;have h1:(H.map (·.1))[i]?=some a:=by rw [List.getElem?_map,hi];rfl
  have h2:(H.map (·.1))[j]?=some a:=by rw [List.getElem?_map,hj];rfl
  have hlt:i<(H.map (·.1)).length:=by
   rcases Nat.lt_or_ge i (H.map (·.1)).length with h' | h'
   ·exact h'
   ·rw [List.getElem?_eq_none h'] at h1;cases h1
  exact hne ((List.getElem?_inj hlt hs.apart).1 (h1.trans h2.symm))
 ·exact hs.rapart _ (List.mem_of_getElem? hj) (List.mem_append_left _ h)
theorem lxLen_of {c:Cl} {k:Lx} (ho:LxOf c k) (hg:ClGood c):LxLen k∧lxN k≤5000000:=by
 have n1:=congrArg List.length ho.T;have n2:=congrArg List.length ho.I;have n3:=congrArg List.length ho.F;have n4:=congrArg List.length ho.M;have n5:=congrArg List.length ho.H;have n6:=congrArg List.length ho.R;simp only [List.length_map,List.length_cons,List.length_nil] at n1 n2 n3 n4 n5 n6;have hn:=hg.n;have hm:=hg.ms.1;refine ⟨⟨fun r hr=>?_,fun r hr=>?_,fun r hr=>?_,fun r hr=>?_,fun r hr=>?_,fun r hr=>?_⟩,by unfold lxN;omega⟩
 ·obtain ⟨m,hm,hl⟩:=List.mem_flatMap.1 (Ue ho.T hr);have:=(mT_ok (hg.ms.2 m hm) _ hl).1;omega
 ·obtain ⟨m,hm,hl⟩:=List.mem_map.1 (Ue ho.I hr);have:=congrArg List.length hl;simp only [List.length_map,List.length_append,List.length_cons,List.length_nil] at this;have:=(hg.ms.2 m hm).cs.1;omega
 ·have hl:=List.mem_singleton.1 (Ue ho.F hr);have:=congrArg List.length hl;simp only [fdX,List.length_append,List.length_cons,List.length_nil] at this;have:=hg.fs.1;omega
 ·have hl:=List.mem_singleton.1 (Ue ho.M hr);have:=congrArg List.length hl;simp only [List.length_map,List.length_append,List.length_cons,List.length_nil] at this;omega
 ·obtain ⟨m,hm,hl⟩:=List.mem_map.1 (Ue ho.H hr);have:=congrArg List.length hl;simp only [hdX,List.length_append,List.length_cons,List.length_nil] at this;have:=(hg.ms.2 m hm).hs.1;omega
 ·obtain ⟨m,hm,hl⟩:=List.mem_map.1 (Ue ho.R hr);have:=congrArg List.length hl;simp only [List.length_map,List.length_append,List.length_cons,List.length_nil] at this;have:=(hg.ms.2 m hm).fs.1;omega
end
namespace E
open Go Go.RowKit
def blockA (b:Nat) (cs:List Value):Asr:=⟨[b],fun w=>∃ t,w.heap[b]?=some (.cells cs.toArray t (0,0)),fun w w' h hs=>by obtain ⟨t,ht⟩:=h;exact ⟨t,by rw [hs b (List.mem_singleton.2 J)];exact ht⟩⟩
theorem Sat.give {w0 w:World} {F:List Nat} {H:Hp} {R:Asr} {b:Nat} {cs:List Value} (h:Sat w0 F ((b,cs)::H) R w):Sat w0 F H ((blockA b cs).and R) w:=by
 have hm:(b,cs) ∈ (b,cs)::H:=List.mem_cons_self;have hap:=h.apart;simp only [List.map_cons,List.nodup_cons] at hap;refine ⟨h.low,fun p hp=>h.own p (List.mem_cons_of_mem _ hp),fun p hp=>h.hi p (List.mem_cons_of_mem _ hp),hap.2,⟨h.own _ hm,h.res,fun x hx=>by rw [List.mem_singleton.1 hx];exact h.rapart _ hm⟩,?_,?_⟩
 ·intro k hk;rcases List.mem_append.1 hk with hk | hk
  ·rw [List.mem_singleton.1 hk];exact ⟨h.hi _ hm,h.lt hm⟩
  ·exact h.rhi k hk
 ·intro p hp hk;rcases List.mem_append.1 hk with hk | hk
  ·exact hap.1 (by rw [← List.mem_singleton.1 hk];exact List.mem_map_of_mem hp)
  ·exact h.rapart p (List.mem_cons_of_mem _ hp) hk
theorem WQ_give {P:Program} {n:Nat} {E:Env} {w0:World} {F:List Nat} {H:Hp} {R:Asr} {fn:Func} {Z:Ending→World→Prop} {κ:List Kf} {x:Exit} {b:Nat} {cs:List Value} (h:WQ P n x E w0 F H ((blockA b cs).and R) fn Z κ):WQ P n x E w0 F ((b,cs)::H) R fn Z κ:=⟨fun w hs a ha=>h.go w hs.give a ha⟩
end E
section
open Go Go.RowKit At E
def smI1:Ins:=⟨1,7,rf0⟩
def smI2:Ins:=⟨27,0,rf0⟩
def smI3:Ins:=⟨22,0,rf0⟩
def smM:Me:=⟨⟨#[109,97,105,110]⟩,true,[],⟨0,mt⟩,0,1,[smI1,smI2,smI3],[],[]⟩
def smC:Cl:=⟨⟨#[65]⟩,⟨#[79,98,106,101,99,116]⟩,[],[smM]⟩
def smB:ByteArray:=⟨#[67,76,65,83,1,65,6,79,98,106,101,99,116,0,1,4,109,97,105,110,1,0,0,0,1,3,0,1,7,0,0,0,0,0,0,0,27,22,0,0]⟩
theorem sm_class:Xm smC=true:=by kernel_rfl
theorem sm_bytes:Oj smC=smB:=by kernel_rfl
theorem sm_dec:Rc (M8 false true (dl smB))=some smC:=by kernel_rfl
def smIs:List Value:=Wx smI1 W0++Wx smI2 W0++Wx smI3 W0
def smMs (b:Nat):List Value:=meV smM W0 (.slice (some ⟨b,0,none⟩) 3 3) W0 W0
def smA (b1 b2:Nat):Asr:=(blockA b1 smIs).and ((blockA b2 (smMs b1)).and Asr.none)
def smV (b2:Nat):Value:=.agg (clV smC W0 (.slice (some ⟨b2,0,none⟩) 1 1)).toArray
theorem blk_cell {w:World} {b:Nat} {cs:List Value} (h:(blockA b cs).A w):b<w.heap.size∧∀ j v,cs[j]?=some v→w.cell? ⟨b,0+j,none⟩=some v:=by
 obtain ⟨t,ht⟩:=h;refine ⟨?_,fun j v hj=>?_⟩
 ·rcases Nat.lt_or_ge b w.heap.size with h' | h'
  ·exact h'
  ·rw [Array.getElem?_eq_none h'] at ht;cases ht
 ·rw [Nat.zero_add];simp [World.cell?,ht,hj]
theorem strOk_le {s:ByteArray} (n:Nat) (h:s.size=n) (hn:n≤1048576):X5 s:=by unfold X5;omega
theorem intOk_of {n:Int} (h:0≤n) (h':n≤1000):Wc n:=by unfold Wc;omega
theorem smI_ok (op n:Int) (h:0≤op) (h':op≤1000) (h1:0≤n) (h1':n≤1000):N3 ⟨op,n,rf0⟩:=⟨intOk_of h h',intOk_of h1 h1',rfOk_0⟩
theorem one_at {α:Type} {x y:α} {i:Nat} (h:[x][i]?=some y):i=0∧y=x:=by
 match i,h with
 | 0,h=>exact ⟨rfl,(Option.some.inj h).symm⟩
theorem three_at {α:Type} {x y z t:α} {i:Nat} (h:[x,y,z][i]?=some t):(i=0∧t=x)∨(i=1∧t=y)∨(i=2∧t=z):=by
 match i,h with
 | 0,h=>exact .inl ⟨rfl,(Option.some.inj h).symm⟩
 | 1,h=>exact .inr (.inl ⟨rfl,(Option.some.inj h).symm⟩)
 | 2,h=>exact .inr (.inr ⟨rfl,(Option.some.inj h).symm⟩)
theorem app_at {a b c:List Value} {n j:Nat} {u:Value} (ha:a.length=n) (h:b[j]?=some u):(a++b++c)[n+j]?=some u:=by
 have hj:j<b.length:=by
  rcases Nat.lt_or_ge j b.length with h' | h'
  ·exact h'
  ·rw [List.getElem?_eq_none h'] at h;cases h
 rw [List.append_assoc,List.getElem?_append_right (by omega),ha,Nat.add_sub_cancel_left,List.getElem?_append_left hj];exact h
theorem sm_at {w:World} {b1 b2:Nat} (h:(smA b1 b2).A w):ClAt w smC W0 (.slice (some ⟨b2,0,none⟩) 1 1):=by
 obtain ⟨l1,c1⟩:=blk_cell h.1;obtain ⟨l2,c2⟩:=blk_cell h.2.1.1
 have hI:Su w (.slice (some ⟨b1,0,none⟩) 3 3) [smI1,smI2,smI3]:=by
  refine ⟨some ⟨b1,0,none⟩,3,J,⟨by simp,by simp⟩,fun i x hi=>?_⟩;rcases three_at hi with ⟨rfl,rfl⟩ | ⟨rfl,rfl⟩ | ⟨rfl,rfl⟩
  ·exact ⟨b1,0,Wx smI1 W0,J,l1,⟨W0,J,Ql w,smI_ok 1 7 (by omega) (by omega) (by omega) (by omega)⟩,fun j u hj=>by
    have:=c1 (0+j) u (app_at (a:=[]) (c:=Wx smI2 W0++Wx smI3 W0) rfl hj);rw [← Nat.add_assoc] at this;exact this⟩
  ·exact ⟨b1,0,Wx smI2 W0,J,l1,⟨W0,J,Ql w,smI_ok 27 0 (by omega) (by omega) (by omega) (by omega)⟩,fun j u hj=>by
    have:=c1 (7+j) u (app_at (a:=Wx smI1 W0) rfl hj);rw [← Nat.add_assoc] at this;exact this⟩
  ·exact ⟨b1,0,Wx smI3 W0,J,l1,⟨W0,J,Ql w,smI_ok 22 0 (by omega) (by omega) (by omega) (by omega)⟩,fun j u hj=>by
    have h9:=app_at (a:=Wx smI1 W0++Wx smI2 W0) (c:=[]) (n:=14) rfl hj;rw [List.append_nil] at h9;have:=c1 (14+j) u h9;rw [← Nat.add_assoc] at this;exact this⟩
 refine ⟨⟨none,0,J,⟨by simp [smC],by simp [smC]⟩,fun i x hi=>by simp [smC] at hi⟩,?_,strOk_le 1 J (by omega),strOk_le 6 J (by omega)⟩;refine ⟨some ⟨b2,0,none⟩,1,J,⟨by simp [smC],by simp [smC]⟩,fun i x hi=>?_⟩;obtain ⟨rfl,rfl⟩:=one_at hi;refine ⟨b2,0,smMs b1,J,l2,⟨_,_,_,_,J,Ql w,hI,hdsAt_nil w,frsAt_nil w,strOk_le 4 J (by omega),tyOk_0,S2,intOk_of (by decide) (by decide)⟩,fun j u hj=>c2 j u hj⟩
theorem small_any (w:World):FnP Tryz.prog 19 #[] w (fun v R'=>∃ b1 b2,v=smV b2∧R'=smA b1 b2) False:=by
 refine Xf (args:=[]) Tryz.func19 J Tryz.ntmps19 ?_;refine Zg (Zb (Yk J (tz J) ?_));intro b0 hb0;refine Ze (Zc (Zg (Zb (Za J (Z8 (tb J) J J) (Za J (Z8 (tb J) J J) (Za J (Z8 (tb J) J J) (Wk J (ts J) (tz J) J J J J J ?_)))))));intro b1 hb1;refine Za J (Z8 (tb J) J J) (Wk J (ts J) (tz J) J J J J J ?_);intro b2 hb2;refine Za J (Z8 (tb J) J J) (Z2 (tn J) J J 2 J J J J (Ze (Zc (Zr (WQ_give (WQ_give (T0 (We J (Wf (tn J) J (Yl 0 J) J)) ?_)))))));exact ⟨b1,b2,J,J⟩
theorem smEnc (b1 b2:Nat) (w:World) (h:(smA b1 b2).A w):Vc Tryz.prog 26 #[smV b2] w (.tuple #[.string smB,.int .i64 0]):=by
 have:=encode_any smC _ _ w (sm_at h);rw [sm_class,if_pos rfl,if_pos rfl,sm_bytes] at this;exact this
theorem smDec (w:World):FnP Tryz.prog 25 #[.string smB] w (fun v R'=>∃ k:ClM,v=.tuple #[.agg (clV smC k.fv k.mv).toArray,.int .i64 0]∧R'.Imp (clA smC k)∧ClFit smC k) False:=by
 have:=decode_any smB w (by decide);rw [sm_dec] at this;refine Calls.mono this ?_;rintro e w' (⟨v,R',rfl,hok,hw⟩ | ⟨hm, -, -⟩)
 ·refine .inl ⟨v,R',J,?_,hw⟩;rcases hok with ⟨c,k,ho,rfl,hR,hfit⟩ | ⟨ho, -⟩
  ·cases ho;exact ⟨k,J,hR,hfit⟩
  ·cases ho
 ·exact hm.elim
theorem begun_any (w:World):Vc Tryz.prog 13 #[] w (.bool true):=by
 refine Xf (args:=[]) Tryz.func13 J Tryz.ntmps13 ?_;refine Zg (Zb (Za J (Zf J) (Ze (Zc (Zg (Zb (X8 fn19 J J (fun w' _=>small_any w') (fun h=>h.elim) ?_)))))));rintro v R1 ⟨x1,x2,rfl,rfl⟩;refine Yq fn26 J J (fun w' hs=>smEnc x1 x2 w' hs.res.1) ?_;refine Za J (Zd J) (Za J (X3 J J) (Za J (X3 J J) (Za J (Zf J) (Za J (Zf J) (Ze (Zc (Zg (Zb (X8 fn25 J J (fun w' _=>smDec w') (fun h=>h.elim) ?_)))))))));rintro v R2 ⟨⟨fv,mv,ms⟩,rfl,hR2,hfit⟩;refine Zz hR2.left ?_;refine Xc (p:=(clV smC fv mv).all (·.oneCell')=true) (fun w hs=>clA_one hs.res.1) ?_;intro h11;refine Za J (Zd J) (Za J (X3 J J) (Za J (X3 J J) (Yk J (tz J) ?_)));intro b0 hb0;refine Z2 (tn J) J J 0 J J h11 J (Za J (Zf J) (Ze (Zc (Zg (WC_any X2 (Ll (rs:=[0,1]) (by kernel_rfl) (by simp) ?_))))));simp only [List.forall_mem_cons,List.not_mem_nil,false_imp_iff,implies_true,and_true];refine ⟨?_,?_⟩
 ·refine ⟨_,J,?_⟩;refine Za J (Zv (tn J) J 0 J J) (Ze (Yw (Y4 1 (by kernel_rfl) J ?_)));refine X8 fn19 J J (fun w' _=>small_any w') (fun h=>h.elim) ?_;rintro v R3 ⟨x3,x4,rfl,rfl⟩;refine Ze (Yw (Y4 2 (by kernel_rfl) J ?_));refine Yq fn44 J J (fun w' hs=>sameClass_any smC _ _ _ _ w' (clA_at (k:=⟨fv,mv,ms⟩) hs.res.2.1.1 hfit) (sm_at hs.res.1)) ?_;refine Ze (Yw (Y4 3 (by kernel_rfl) J ?_));refine Za J (Zf J) (Ze (Yw (O8 (by kernel_rfl) ?_)));refine Zc (Zg (Zb (Za J (Zd J) (Za J (Ex_eqlS1 J J) (Za J (Zd J) (Zk J J J (Zd J) (Zk J J J (T8 J J) (Za J (Zp J J) (Za J (Zd J) (Zk J J J (Zd J) (Zk J J J (T8 J J) (Za J (Zp J J) (Za J (Zd J) (Zk J J J (Zd J) (Za J (Zp J J) (Za J (Zf J) (Ze (Zc (Zr (Z3 J J ?_))))))))))))))))))));rfl
 ·refine ⟨_,J,?_⟩;refine X8 fn19 J J (fun w' _=>small_any w') (fun h=>h.elim) ?_;rintro v R3 ⟨x3,x4,rfl,rfl⟩;refine Ze (Yw (Y4 0 (by kernel_rfl) J ?_));refine Za J (Zv (tn J) J 0 J J) (Ze (Yw (Y4 2 (by kernel_rfl) J ?_)));refine Yq fn44 J J (fun w' hs=>sameClass_any smC _ _ _ _ w' (clA_at (k:=⟨fv,mv,ms⟩) hs.res.2.1.1 hfit) (sm_at hs.res.1)) ?_;refine Ze (Yw (Y4 3 (by kernel_rfl) J ?_));refine Za J (Zf J) (Ze (Yw (O8 (by kernel_rfl) ?_)));refine Zc (Zg (Zb (Za J (Zd J) (Za J (Ex_eqlS1 J J) (Za J (Zd J) (Zk J J J (Zd J) (Zk J J J (T8 J J) (Za J (Zp J J) (Za J (Zd J) (Zk J J J (Zd J) (Zk J J J (T8 J J) (Za J (Zp J J) (Za J (Zd J) (Zk J J J (Zd J) (Za J (Zp J J) (Za J (Zf J) (Ze (Zc (Zr (Z3 J J ?_))))))))))))))))))));rfl
end
end Go.Proofs.YtpofmnfkdkmieaaGreat
