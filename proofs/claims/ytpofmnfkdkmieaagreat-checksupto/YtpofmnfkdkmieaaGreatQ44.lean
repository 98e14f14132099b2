/- What is proved here: the program's Check answers what was tak -/
import Derived.Test.YtpofmnfkdkmieaaGreatQ43
import Derived.Test.YtpofmnfkdkmieaaGreatQ19
import Derived.Test.YtpofmnfkdkmieaaGreatQ23
set_option linter.unusedVariables false
set_option linter.unusedSimpArgs false
namespace Go.Proofs.YtpofmnfkdkmieaaGreat
namespace E
open Go Go.RowKit
section
variable {P:Program} {n:Nat} {E:Env} {w0:World} {F:List Nat} {H:Hp} {R:Asr} {D:List Deferred} {Q:Exit→Act→World→Prop} {pan:List PanicEntry→Prop}
theorem WLD_callY {all:Array Oper} {l:List Oper} {d t g:Nat} {ts:Array TypeId} {ty:TypeId} {p:String} {e:Array Edge} {cap:Value} {ok:Value→Asr→Prop} (hf:IsFn P g)
  (hd:Nat.blt d n=true) (hx:look E t=some (.func (.func g) #[] #[cap])) (hc:∀ w,Sat w0 F H R w→Calls P g #[cap] w (FyZ w ok pan)) (hn:∀ pc,pan pc→∀ w,Sat w0 F H R w→∀ a,AgD D n a E→Q (.panic pc) a w)
  (h:∀ v R',ok v R'→WLD P n all l ((d,v)::E) w0 F H (R'.and R) D Q) :
  WLD P n all (⟨some d,.call ⟨.value (.tmp t),#[],ts⟩,ty,p,e,none⟩::l) E w0 F H R D Q :=
 ⟨fun w hs a ha=>wpList_plain rfl fun K hK=>by
  unfold Oper.wp;rw [Np rfl (show a.eval (.tmp t)=_ from ha.ag.eval (x:=.tmp t) hx) hf];refine Calls.mono (P:=P) (f:=g) (by have:=hc w hs;simpa using this) ?_;rintro e w' (⟨v,R',rfl,hok,hw⟩ | ⟨pc,hm,rfl,hb⟩)
  ·exact hK _ _ ((h v R' hok).go w' (fn_then hs hw) _ (ha.put hd _))
  ·exact hn pc hm w' (hs.keep hb) _ ha⟩
end
end E
section
open Go Go.RowKit At E
theorem fn57:IsFn Tryz.prog 57:=⟨_,Tryz.func57,by kernel_rfl,by kernel_rfl⟩
def oneC (u:TypeId) (pv:Value):List PanicEntry:=[{ v:=.iface u pv,recovered:=false }]
def caughtY (zero:Value) (ok:Value→Asr→Prop) (pan:List PanicEntry→Prop):Value→Asr→Prop:=fun v R'=>(∃ x,ok x R'∧v=.tuple #[x,.nilIface])∨(∃ u pv,pan (oneC u pv)∧R'=Asr.none∧v=.tuple #[zero,.iface u pv])
section
set_option maxRecDepth 4000
theorem catchB_panicking (p:Addr) (x:Value) (u:TypeId) (pv:Value) (w:World) (hc:w.cell? p=some x) (hz:w.frozen? p=false) :
  CallsD Tryz.prog 102 #[.pointer (some p)] (.panicking ({ v:=.iface u pv,recovered:=false }::[])) w fun e u' w' =>
   e=.returned (.tuple #[])∧u'=.panicking ({ v:=.iface u pv,recovered:=true }::[])∧w'=w.setCell p (.iface u pv):=by
 refine callsD_of_wpS Tryz.func102 J fun c₀ cs hu=>?_;apply wpS_region;simp [wpOpsS,go_sem,recoverD,hu,Tryz.ntmps102,hc,hz,bodyPostS,results,Tryz.results102]
theorem catchB_idle (p:Addr) (x:Value) (w:World) (hc:w.cell? p=some x) (hz:w.frozen? p=false) :
  CallsD Tryz.prog 102 #[.pointer (some p)] .returning w fun e u' w'=>e=.returned (.tuple #[])∧u'=.returning∧w'=w.setCell p .nilIface:=by
 refine callsD_of_wpS Tryz.func102 J fun c₀ cs hu=>?_;apply wpS_region;simp [wpOpsS,go_sem,recoverD,hu,Tryz.ntmps102,hc,hz,bodyPostS,results,Tryz.results102];cases c₀;simp_all
theorem caughtB_any (g:Nat) (cap:Value) (w:World) (ok:Value→Asr→Prop) (pan:List PanicEntry→Prop) (hgf:IsFn Tryz.prog g) (hsh:∀ pc,pan pc→∃ u pv,pc=oneC u pv) (hg:∀ w',Below w.heap.size w w'→Calls Tryz.prog g #[cap] w' (FyZ w' ok pan)) :
  FnP Tryz.prog 56 #[.func (.func g) #[] #[cap]] w (caughtY (.slice none 0 0) ok pan) False:=by
 refine calls_of_wp_defers Tryz.func56 J ?_;rw [Tryz.ntmps56]
 have ha0:AgD [] 7 { tmps:=#[.func (.func g) #[] #[cap]]++Array.replicate (7 - 1) undef,defers:=[] } [(0,.func (.func g) #[] #[cap])]:=by
  refine ⟨⟨by simp,J,fun i v hv=>?_⟩,J⟩;have h1:=look_mem hv;simp only [List.mem_singleton,Prod.mk.injEq] at h1;obtain ⟨rfl,rfl⟩:=h1;simp
 refine wp_seq (wp_region_lit ?_);refine WLD.go (F:=[]) (H:=[]) (R:=Asr.none) ?_ w (Sat.first w []) _ ha0;refine Nh J (Zf J) (WLD_alloc J tzany fun b hb=>?_);refine Po fun w1 hs1 a1 ha1=>?_;refine wp_seq (wp_region_lit ?_);refine WLD.go ?_ w1 hs1 _ ha1;refine Nh (v:=.func (.func 102) #[] #[pt b]) J ?_ ?_
 ·exact ⟨fun w _ a ha _ _ _ _ _=>by simp only [execOp];simp [ha.eval (x:=.tmp 3) rfl,Instr.makeFunc]⟩
 refine WLD_defer J (Po fun w2 hs2 a2 ha2=>?_);refine wp_seq (wp_region_lit ?_);refine WLD.go ?_ w2 hs2 _ ha2;refine Nh J (Zd J) (WLD_callY hgf J J (fun w' hs=>hg w' (Xx hs)) ?_ ?_)
 ·intro pc hm w3 hs3 a3 ha3;obtain ⟨u,pv,rfl⟩:=hsh pc hm;show Leaves _ _ a3.tmps _ a3.defers (.panicking (oneC u pv)) w3;rw [ha3.no];have hc:=hs3.cell1 (i:=0) rfl;refine leaves_cons (f:=102) (args:=#[pt b]) (by simp) (by simp [invoke,callFunc,Tryz.func102];rfl) ?_;refine (catchB_panicking ⟨b,0,none⟩ _ _ _ w3 hc.1 hc.2).mono ?_;rintro e u' w4 ⟨rfl,rfl,rfl⟩;have hs4:=hs3.set1 (i:=0) (v:=.iface u pv) rfl;refine ⟨.tuple #[.slice none 0 0,.iface u pv],Qo J (ha3.ag.eval (x:=.tmp 2) J) ⟨⟨b,0,none⟩,ha3.ag.eval (x:=.tmp 3) J,?_⟩,.inl ⟨_,Asr.none,J,.inr ⟨u,pv,hm,J,J⟩,hs4.bare⟩⟩;have h1:=(t1any (w3.setCell ⟨b,0,none⟩ (.iface u pv))).1;have h2:=(hs4.cell1 (i:=0) rfl).1;simp [loadVar,h1,h2]
 ·intro v R' hok;refine Nh J (Zf J) (WLD_store (vs:=[.nilIface]) (fun w=>(t1any w).2) J J J J J 0 J J ?_);refine Po fun w3 hs3 a3 ha3=>?_;refine wp_ret ?_;show Leaves _ _ a3.tmps _ a3.defers .returning w3;rw [ha3.no];have hc:=hs3.cell1 (i:=0) (old:=.nilIface) rfl;refine leaves_cons (f:=102) (args:=#[pt b]) (by simp) (by simp [invoke,callFunc,Tryz.func102];rfl) ?_;refine (catchB_idle ⟨b,0,none⟩ _ w3 hc.1 hc.2).mono ?_;rintro e u' w4 ⟨rfl,rfl,rfl⟩;have hs4:=hs3.set1 (i:=0) (old:=.nilIface) (v:=.nilIface) rfl;refine ⟨.tuple #[v,.nilIface],Qo J (ha3.ag.eval (x:=.tmp 2) J) ⟨⟨b,0,none⟩,ha3.ag.eval (x:=.tmp 3) J,?_⟩,.inl ⟨_,R',J,.inl ⟨v,hok,J⟩,(hs4.leads (Asr.fst R' Asr.none)).bare⟩⟩;have h1:=(t1any (w3.setCell ⟨b,0,none⟩ .nilIface)).1;have h2:=(hs4.cell1 (i:=0) (old:=.nilIface) rfl).1;simp [loadVar,h1,h2]
end
section
variable {n:Nat} {E:Env} {w0:World} {F:List Nat} {H:Hp} {R:Asr} {a b:Int}
def wrI (a b:Int):Value:=.iface 143 (.agg #[.int .i64 a,.int .i64 b])
theorem Ex_isWr {x:Operand} (hx:ev E x=some (wrI a b)):Ex Tryz.prog n E w0 F H R (.binOp .eql 20 x (.const .nilIface) 20) (.bool false):=⟨fun w _ a ha _ _ _ _ _=>by
 simp only [execOp];rw [ha.eval hx,show a.eval (.const Value.nilIface)=.nilIface from rfl];kernel_rfl⟩
theorem Ex_yesWrong {x:Operand} (hx:ev E x=some (wrI a b)):Ex Tryz.prog n E w0 F H R (.typeAssert x 20 143 true) (.tuple #[.agg #[.int .i64 a,.int .i64 b],.bool true]):=⟨fun w _ a ha _ _ _ _ _=>by
 simp only [execOp];rw [ha.eval hx];kernel_rfl⟩
end
theorem toldWr_any (a b:Int) (w:World):Vc Tryz.prog 59 #[wrI a b] w (.tuple #[.agg #[.int .i64 a,.int .i64 b],.int .i64 2]):=by
 refine Xf (args:=[wrI a b]) Tryz.func59 J Tryz.ntmps59 ?_;refine Zg (Zb (Yk J (tz J) ?_));intro b0 hb0;refine Za J (Zf J) (Ze (Zc (Zg (Zg (Zb (Za J (Zd J) (Ze (Zc (Zn (Zg (Zb (Za J (Ex_isWr J) (Ze (Zc (W4 J ?_ ?_)))))))))))))))
 ·intro c1;cases c1
 ·intro c1;refine Zg (Zb (Za J (Ex_yesWrong J) (Za J (X3 J J) (Za J (X3 J J) (Ze (Zc (W4 J ?_ ?_)))))))
  ·intro c2;refine Zg (Zb (Yk J (tz J) ?_));intro b1 hb1;refine Z2 (tn J) J J 0 J J J J (Ze (Zc (Zg (Zb (Za J (Zv (tn J) J 0 J J) (Z2 (tn J) J J 1 J J J J (Za J (Zf J) (Ze (Zc (Zr (Zl (Zl (P_endR (Res_2 J (Wf (tn J) J (Yl 1 J) J) (X9 J)) ?_)))))))))))));rfl
  ·intro c2;cases c2
theorem class_all (c:Cl) (fv mv:Value) (w:World) (hc:ClAt w c fv mv):Calls Tryz.prog 58 #[.agg (clV c fv mv).toArray] w (FyZ w (okClass c) (Nt c)) :=
 class_any c fv mv w hc (fun gr h1 h2 h3=>gr_small hc gr h1 h2 h3) (fun gb gr w' h1 h2=>inOrder_any gb gr w' h1 h2)
theorem pan_one {c:Cl} {pc:List PanicEntry} (h:Nt c pc):∃ u pv,pc=oneC u pv:=by
 rcases h with ⟨-,rfl⟩ | ⟨-,a,b, -,rfl⟩
 ·exact ⟨_,_,J⟩
 ·exact ⟨_,_,J⟩
theorem WL_callFy {P:Program} {n:Nat} {E:Env} {w0:World} {H:Hp} {R:Asr} {fn:Func} {Z:Ending→World→Prop} {κ:List Kf} {all:Array Oper} {l:List Oper} {d f:Nat} {xs:List Operand} {vs:List Value} {ts:Array TypeId} {t:TypeId} {p:String} {e:Array Edge} {ok:Value→Asr→Prop} {pan:List PanicEntry→Prop} (hf:IsFn P f)
  (hd:Nat.blt d n=true) (hx:args E xs=some vs) (hc:∀ w,Sat w0 [] H R w→Calls P f vs.toArray w (FyZ w ok pan)) (hn:∀ pc,pan pc→WX P n E w0 [] pc fn Z κ)
  (h:∀ v R',ok v R'→WL P n all l ((d,v)::E) w0 [] H (R'.and R) fn Z κ) :
  WL P n all (⟨some d,.call ⟨.value (.func f),xs.toArray,ts⟩,t,p,e,none⟩::l) E w0 [] H R fn Z κ :=
 ⟨fun w hs a ha=>wpList_plain rfl fun K hK=>by
  unfold Oper.wp;rw [V8 rfl hf,Ve ha xs vs hx];refine Calls.mono (hc w hs) ?_;rintro e w' (⟨v,R',rfl,hok,hw⟩ | ⟨pc,hm,rfl,hb⟩)
  ·exact hK _ _ ((h v R' hok).go w' (fn_then hs hw) _ (ha.put hd _))
  ·exact (hn pc hm).go w' (hs.keep hb).low _ ha⟩
theorem check1_any (c:Cl) (fv mv:Value) (b:Nat) (w:World) (hc:ClAt w c fv mv) (hb:∀ j v,(clV c fv mv)[j]?=some v→w.cell? ⟨b,j,none⟩=some v) (hlt:b<w.heap.size) :
  Calls Tryz.prog 57 #[pt b] w (FyZ w (okClass c) (Nt c)):=by
 refine Xf (args:=[pt b]) Tryz.func57 J Tryz.ntmps57 ?_;refine Zg (Zb (Za J (Zf J) (Ze (Zc (Zg (Zb ?_))))));refine Za J (Yj (tn J) J (Xl (o:=0) (vs:=clV c fv mv) (fun j v hj=>by rw [Nat.zero_add];exact hb j v hj) hlt) J) ?_;refine WL_callFy fn58 J J (fun w' hs=>class_all c fv mv w' (hc.mono (Xx hs))) (fun pc hpan=>by (repeat refine Wh ?_);exact WFend hpan) ?_;rintro v R' ⟨l,hR,hO⟩;refine Zz hR.left ?_;refine Za J (Zf J) (Ze (Zc (Zr (Fy_end (We J (X9 J)) ?_))));exact ⟨l,Asr.fst _ _,hO⟩
def okCheck (c:Cl) (v:Value) (R':Asr):Prop:=∃ l gv n pos e,v=.tuple #[gv,.int .i64 n,.int .i64 pos,.int .i64 e]∧CheckO c l n pos e∧R'.Imp (U2 gv l)
theorem nil_bls:Asr.none.Imp (U2 (.slice none 0 0) []):=⟨fun _ hk=>(by simp [U2,Y0,Value.ownBlock] at hk),fun w _=>World.ownsRow_nil w 0 136 2⟩
theorem caught_shape {c:Cl} {v:Value} {R':Asr} (h:caughtY (.slice none 0 0) (okClass c) (Nt c) v R') :
  ∃ (gv y:Value) (n pos e:Int) (l:List Bl),v=.tuple #[gv,y]∧((y=.nilIface∧n=0∧pos=0∧e=0)∨(y=Ot∧n=0∧pos=0∧e=1)∨(y=wrI n pos∧e=2))∧CheckO c l n pos e∧R'.Imp (U2 gv l):=by
 rcases h with ⟨x,⟨l,hR,hO⟩,rfl⟩ | ⟨u,pv,hp,rfl,rfl⟩
 ·exact ⟨x,.nilIface,0,0,0,l,J,.inl ⟨J,J,J,J⟩,hO,hR⟩
 ·rcases hp with ⟨hc,he⟩ | ⟨hc,a,b,hf,he⟩
  ·have h1:(Value.iface u pv)=Ot:=by
    unfold oneC Ou at he;injection he with he
    injection he with he
   exact ⟨_,_,0,0,1,[],J,.inr (.inl ⟨h1,J,J,J⟩),.inl ⟨hc,J,J,J,J⟩,nil_bls⟩
  ·have h1:(Value.iface u pv)=wrI a b:=by
    unfold oneC Vp at he;injection he with he
    injection he with he
   exact ⟨_,_,a,b,2,[],J,.inr (.inr ⟨h1,J⟩),.inr (.inl ⟨hc,a,b,hf,J,J,J,J⟩),nil_bls⟩
theorem toldY_any {y:Value} {n pos e:Int} (h:(y=.nilIface∧n=0∧pos=0∧e=0)∨(y=Ot∧n=0∧pos=0∧e=1)∨(y=wrI n pos∧e=2)) (w:World):Vc Tryz.prog 59 #[y] w (.tuple #[.agg #[.int .i64 n,.int .i64 pos],.int .i64 e]):=by
 rcases h with ⟨rfl,rfl,rfl,rfl⟩ | ⟨rfl,rfl,rfl,rfl⟩ | ⟨rfl,rfl⟩
 ·exact toldNil_any w
 ·exact toldErr_any w
 ·exact toldWr_any n pos w
theorem check_any (c:Cl) (fv mv:Value) (w:World) (hc0:ClAt w c fv mv):FnP Tryz.prog 18 #[.agg (clV c fv mv).toArray] w (okCheck c) False:=by
 obtain ⟨qm,em,hmv, -⟩:=id hc0.ms.is;obtain ⟨qf,ef,hfv, -⟩:=id hc0.fs.is;subst hmv;subst hfv;replace hc0:Hid _:=hc0;refine Xf (args:=[.agg (clV c (.slice qf c.fields.length ef) (.slice qm c.methods.length em)).toArray]) Tryz.func18 J Tryz.ntmps18 ?_;refine Zg (Zb (Y2 J J ?_));intro b0 hb0;refine Za J (Zf J) (Za J (Zf J) (Za J (Zf J) (Za J (Zf J) (Ze (Zc (Zg (Zb (Za J (Ex_cap J) ?_))))))));refine X8 fn56 J J (fun w' hs'=>caughtB_any 57 _ w' (okClass c) (Nt c) fn57 (fun pc h=>pan_one h) (fun w2 hb2=>check1_any c _ _ b0 w2 (hc0.out.mono (below_then (Xx hs') hb2)) (fun j v hj=>by rw [hb2.cell (p:=⟨b0,j,none⟩) (S0 hs' (i:=0) J).2];exact (S0 hs' (i:=0) J).1 j v hj) (Nat.lt_of_lt_of_le (S0 hs' (i:=0) J).2 hb2.size))) False.elim ?_;intro v R' hv;obtain ⟨gv,y,n,pos,e,l,rfl,hy,hO,hR⟩:=caught_shape hv;refine Zz hR.left (Za J (Zd J) (Za J (X3 J J) (Za J (X3 J J) (Za J (Zf J) (Za J (Zf J) (Ze (Zc (Zg (Zb (Za J (Zd J) (Yq fn59 J J (fun w' _=>toldY_any hy w') ?_)))))))))));refine Za J (Zd J) (Za J (X3 J J) (Za J (X3 J J) (Yk J (tz J) ?_)));intro b1 hb1;refine Z2 (tn J) J J 0 J J J J (Za J (Zf J) (Ze (Zc (Zg (Qd X2 (Z4 0 J (by kernel_rfl) J lN (Zd J) ?_))))));refine Z4 1 J (by kernel_rfl) J lN (Zh (ff J) J) ?_;refine Z4 2 J (by kernel_rfl) J lN (Zj (t1 J) J (Zi 0 J J)) ?_;refine Z4 3 J (by kernel_rfl) J lN (Zh (ff J) J) ?_;refine Z4 4 J (by kernel_rfl) J lN (Zj (t1 J) J (Zi 0 J J)) ?_;refine Z4 5 J (by kernel_rfl) J lN (Zd J) ?_;refine Xh 6 (by kernel_rfl) J ?_;refine Za J (Zf J) (Ze (Y1 lN (Xh 7 (by kernel_rfl) J ?_)));refine Za J (Zf J) (Ze (Y1 lN (Xh 8 (by kernel_rfl) J ?_)));refine Za J (Zf J) (Ze (Y1 lN (Xh 9 (by kernel_rfl) J ?_)));refine Za J (Zf J) (Ze (Y1 lN (W8 (by kernel_rfl) ?_)));refine Zc (Zr (T0 (Res_4 J J J J J) ?_));exact ⟨l,gv,n,pos,e,J,hO,Asr.fst _ _⟩
end
section
open Go Go.RowKit At E
theorem pc1 (B3 B2 B1 L2 L1 K:Asr):(B3.and (B2.and (B1.and (L2.and (L1.and K))))).Imp ((B1.and K).and (B2.and L1)) :=
 (Asr.snd _ _).trans ((Asr.Imp.right (Asr.Imp.right (Asr.snd _ _))).trans ((Asr.swap _ _ _).trans ((Asr.Imp.right ((Asr.cossa _ _ _).trans (Asr.comm _ _))).trans (Asr.cossa _ _ _))))
theorem pc2 (K B2 L1:Asr):(K.and (B2.and L1)).Imp ((B2.and K).and L1):=(Asr.swap _ _ _).trans (Asr.cossa _ _ _)
theorem bl_two (l:List Bl):∀ x ∈ l,(blV x).length=2:=fun _ _=>rfl
set_option maxHeartbeats 8000000 in
theorem checks_any (u:World) (b:Nat) (bk:Bk) (N:Nat) (c:Cl) (fv mv:Value) (hcl:ClAt u c fv mv) (hg:ClGood c) (hN:N≤1000000000) (hbk:BkOk bk N) :
  RuP Tryz.prog 20 #[pt b,.agg (clV c fv mv).toArray] u b bk.C (S8 bk) (fun v cs' R'=>v=.bool true∧bkOk (N+30000000) v cs' R'):=by
 intro w hu hF hs0;have hn9:(c.methods.flatMap mT).length≤1000000000:=Nat.le_trans hg.n (by omega);obtain ⟨qf,ef,hfv, -, -⟩:=hcl.fs.is;obtain ⟨qm,em,hmv, -, -⟩:=hcl.ms.is;subst hfv;subst hmv;replace hcl:Hid _:=hcl;replace hg:Hid _:=hg;refine Yz (hs0) (args:=[pt b,.agg (clV c (.slice qf c.fields.length ef) (.slice qm c.methods.length em)).toArray]) Tryz.func20 J Tryz.ntmps20 ?_;refine Zg (Zb (Y2 J J ?_));intro b1 hb1;refine Za J (Zf J) (Ze (Zc (Zg (Zb (Za J (Z8 (tb J) J J) (Y2 J J ?_))))));intro b2 hb2;refine Za J (Zf J) (Ze (Zc (Zg (Zb (Za J (Z8 (tb J) J J) (Y2 J J ?_))))));intro b3 hb3;refine Za J (Zf J) (Ze (Zc (Zg (Zb (Za J (Zd J) (Za J (Zv (tn J) J 2 J J) ?_))))));refine Zz (lx0_in _) ?_;refine Vx fn45 J J 1 J hu hF (lxClassed u b2 _ _ c hcl.out hn9) ?_;rintro v cs' R' ⟨k1,fv1,mv1,ms1,rfl,rfl,hR1,ho1,hpf1,hms1,hpm1⟩;obtain ⟨a1,a2,a3,ha⟩:=hpf1.slice;subst ha;obtain ⟨d1,d2,d3,hd⟩:=hpm1.slice;subst hd;refine Zz hR1.left ?_;refine Yk J (tz J) ?_;intro b4 hb4;refine Z2 (tn J) J J 0 J J J J (Ze (Zc (Zg (Zb (Za J (Zd J) (Za J (Zv (tn J) J 3 J J) ?_))))));refine Zz (lx0_in _) ?_;refine Vx fn45 J J 1 J hu hF (lxClassed u b3 _ _ c hcl.out hn9) ?_;rintro v cs' R' ⟨k2,fv2,mv2,ms2,rfl,rfl,hR2,ho2,hpf2,hms2,hpm2⟩;refine Zz hR2.left ?_;refine Ze (Zc (Zg (Zb (Za J (Zv (tn J) J 0 J J) (X8 fn18 J J (fun w' hs=>check_any c _ _ w' (clAt_of (rowsIn_of hs.res.2.1.1 ho1 hg.out) hg.out hpf1 hms1 hpm1)) (fun h=>h.elim) ?_)))));rintro v R1 ⟨l1,g1,n1,p1,e1,rfl,hO1,hB1⟩;refine Zz hB1.left (Xc (p:=∃ p c,g1=.slice p l1.length c∧(0<l1.length→∃ g,p=some ⟨g,0,none⟩)) (fun w hs=>Xr hs.res.1) ?_);rintro ⟨q1,z1,rfl,hq1⟩;replace hq1:Hid _:=hq1;refine Za J (Zd J) (Za J (X3 J J) (Za J (X3 J J) (Za J (X3 J J) (Za J (X3 J J) (Za J (Zf J) (Za J (Zf J) (Za J (Zf J) (Za J (Zf J) (Ze (Zc (Zg (Zb (Za J (Zv (tn J) J 0 J J) (X8 fn18 J J (fun w' hs=>check_any c _ _ w' (clAt_of (rowsIn_of hs.res.2.1.2.1.1 ho1 hg.out) hg.out hpf1 hms1 hpm1)) (fun h=>h.elim) ?_))))))))))))));rintro v R2 ⟨l2,g2,n2,p2,e2,rfl,hO2,hB2⟩;obtain ⟨rfl,rfl,rfl,rfl⟩:=hO1.one hO2;refine Zz hB2.left (Xc (p:=∃ p c,g2=.slice p l1.length c∧(0<l1.length→∃ g,p=some ⟨g,0,none⟩)) (fun w hs=>Xr hs.res.1) ?_);rintro ⟨q2,z2,rfl,hq2⟩;replace hq2:Hid _:=hq2;refine Za J (Zd J) (Za J (X3 J J) (Za J (X3 J J) (Za J (X3 J J) (Za J (X3 J J) (Za J (Zf J) (Za J (Zf J) (Za J (Zf J) (Za J (Zf J) (Ze (Zc (Zg (Zb (Za J (Zv (tn J) J 3 J J) (X8 fn60 J J (fun w' hs=>refCheck_any c _ _ w' (hcl.out.mono (Xp hu hF hs))) (fun h=>h.elim) ?_))))))))))))));rintro v R3 ⟨l3,g3,n3,p3,e3,rfl,hO3,hB3,hl3⟩;obtain ⟨rfl,rfl,rfl,rfl⟩:=hO1.one hO3;refine Zz hB3.left (Xc (p:=∃ p c,g3=.slice p l1.length c∧(0<l1.length→∃ g,p=some ⟨g,0,none⟩)) (fun w hs=>Xr hs.res.1) ?_);rintro ⟨q3,z3,rfl,hq3⟩;replace hq3:Hid _:=hq3;refine Za J (Zd J) (Za J (X3 J J) (Za J (X3 J J) (Za J (X3 J J) (Za J (X3 J J) (Za J (Zf J) (Za J (Zf J) (Za J (Zf J) (Za J (Zf J) (Ze (Zc (Zg (Zb (Za J (Zd J) (Za J (Zd J) (Yq fn46 J J (fun w' hs=>sameLists_any b2 b3 k1 k2 _ _ _ _ _ _ w' (lsAt_of (i:=2) hs J hs.res.2.1.2.1.2.1.2.1.1 ho1 hg.out) (lsAt_of (i:=1) hs J hs.res.2.1.2.1.2.1.1 ho2 hg.out)) ?_)))))))))))))));refine Za J (Zf J) (Ze (Zc (Zg (Zb (Za J (Zd J) (Za J (Zx (ts J) J) (Za J (Zd J) (Za J (Zx (ts J) J) (Za J (T8 J J) (Za J (Zd J) (Zk J J J (Zd J) (Zk J J J (Zx (ts J) J) (Zk J J J (Zd J) (Zk J J J (Zx (ts J) J) (Zk J J J (T8 J J) (Za J (Zp J J) (Za J (Zf J) (Ze (Zc (Zg (Zg (Zb (Za J (Zf J) (Ze (Zc (Zn ?_))))))))))))))))))))))))));refine Yf (Yg (X:=Nat) (fun i=>[(0,pt b),(5,pt b2),(8,.slice q1 l1.length z1),(9,.int .i64 n1),(10,.int .i64 p1),(11,.int .i64 e1),(12,.slice q2 l1.length z2),(13,.int .i64 n1),(14,.int .i64 p1),(15,.int .i64 e1),(16,.slice q3 l1.length z3),(17,.int .i64 n1),(18,.int .i64 p1),(19,.int .i64 e1),(20,.bool true),(21,.bool true),(22,iN i)]) _ _ (fun i=>[(b4,clV c (.slice a1 a2 a3) (.slice d1 d2 d3)),(b3,k2.C),(b2,k1.C),(b1,clV c (.slice qf c.fields.length ef) (.slice qm c.methods.length em)),(b,bk.C)]) (fun i=>(U2 (.slice q3 l1.length z3) l1).and ((U2 (.slice q2 l1.length z2) l1).and ((U2 (.slice q1 l1.length z1) l1).and ((lxA k2).and ((lxA k1).and (S8 bk)))))) (fun i=>i≤l1.length) (fun i=>l1.length - i) (0) (Nat.zero_le _) ?_) ⟨J,J,J,J,J,J,J,J,J,J,J,J,J,J,J,J,J,trivial⟩;intro i hI;refine Zg (Zg (Zb (Za J (Zd J) (Za J (Zd J) (Za J (Zx (ts J) J) (Za J (Yi J J) (Za J (Zd J) (Z9 J J J ?_ ?_))))))))
 ·intro h1;have hi1:i<l1.length:=by omega
  obtain ⟨y,hy⟩:∃ y,l1[i]?=some y:=⟨_,List.getElem?_eq_getElem hi1⟩;obtain ⟨j1,hj1⟩:=hq1.out (by omega);obtain ⟨j2,hj2⟩:=hq2.out (by omega);obtain ⟨j3,hj3⟩:=hq3.out (by omega);subst hj1;subst hj2;subst hj3;refine Zk J J J (Zd J) (Za J (Zp J J) (Ze (Zc (Yh J (Zo (Zc (Zg (Zn (Ws X2 (by kernel_rfl) ?_)))))))));refine Zq J (Zd J) (Zq J (Zd J) (Zq J (Yo (ts J) J J ?_) ?_))
  ·omega
  refine Zq J (Yj (tn J) J (Mw (cell:=blV) (fun w hs=>hs.res.2.1.2.1.1) (bl_two _) hy) J) ?_;refine Zq J (Zd J) (Zq J (Zd J) (Zq J (Yo (ts J) J J ?_) ?_))
  ·omega
  refine Zq J (Yj (tn J) J (Mw (cell:=blV) (fun w hs=>hs.res.1) (bl_two _) hy) J) ?_;refine Zq J (Ex_eqlBl1 J J) (Zq J (Zd J) (Z0 J J J (Zd J) (Z0 J J J (Zd J) (Z0 J J J (Yo (ts J) J J ?_) ?_))))
  ·omega
  refine Z0 J J J (Yj (tn J) J (Mw (cell:=blV) (fun w hs=>hs.res.2.1.1) (bl_two _) hy) J) ?_;refine Z0 J J J (Zd J) (Z0 J J J (Zd J) (Z0 J J J (Yo (ts J) J J ?_) ?_))
  ·omega
  refine Z0 J J J (Yj (tn J) J (Mw (cell:=blV) (fun w hs=>hs.res.1) (bl_two _) hy) J) ?_;refine Z0 J J J (Ex_eqlBl1 J J) (Zq J (Zp J J) (Zq J (Zf J) (Wi (Zt (Zc (Zb (Za J (Zd J) ?_)))))));refine Za J (Yn J J ?_) ?_;omega;refine Za J (Zf J) (Ze ?_);refine Z1 (i+1) ?_ (by omega) 0 J (J) ⟨J,J,J,J,J,J,J,J,J,J,J,J,J,J,J,J,J,trivial⟩;omega
 ·intro h1;refine Zm J J J (Za J (Zs J J) (Ze (Zc (Xn J (Yd (Yc (Z5 (Yb (Zc (Zg (Zb (Za J (Zd J) (Za J (Zd J) ?_)))))))))))));refine Zz (pc1 _ _ _ _ _ _) ?_;refine Pa fn61 J J 4 J (kpBelows b bk N (by omega) hbk _ _ _ (by omega)) ?_;rintro v cs' R' ⟨bk1,rfl,hRb1,hbk1⟩;refine Zz hRb1.left ?_;refine Ze (Zc (Zg (Zb (Za J (Zd J) (Za J (Zd J) ?_)))));refine Zz (pc2 _ _ _) ?_;refine Pa fn61 J J 4 J (kpBelows b bk1 (N+4) (by omega) hbk1 _ _ _ (by omega)) ?_;rintro v cs' R' ⟨bk2,rfl,hRb2,hbk2⟩;refine Zz hRb2.left ?_;refine Ze (Zc (Zg (Zb (Za J (Zd J) (Za J (Zd J) ?_)))));refine Zz (Asr.addNone _) ?_;refine WL_callKC fn47 J J 4 J (keepLists_any b b2 bk2 k1 (N+4+4) (N+30000000) hbk2 (by have h9:=(lxLen_of ho1 hg.out).2;omega) (by omega) (lxLen_of ho1 hg.out).1) (fun w hs=>⟨(S0 (i:=2) hs rfl).1,apart_of (i:=4) (j:=2) hs rfl rfl (by omega)⟩) ?_;rintro v cs' R' ⟨bk3,rfl,hRb3,hbk3⟩;refine Zz (hRb3.left.trans (Asr.fst _ _)) ?_;refine Ze (Zc (Zg (Zb (Za J (Zd J) (Za J (Zd J) (Zk J J J (Zd J) (Za J (Zp J J) (Za J (Zd J) (Zk J J J (Zd J) (Zk J J J (Zd J) (Zk J J J (T8 J J) (Za J (Zp J J) (Za J (Zd J) (Zk J J J (Zd J) (Zk J J J (Zd J) (Zk J J J (T8 J J) (Za J (Zp J J) (Za J (Zd J) (Zk J J J (Zd J) (Oo fn48 J J J J (fun w _=>num_any _ w) ?_))))))))))))))))))));refine Zk J J J (Zd J) (Zk J J J (T8 J J) (Za J (Zp J J) (Za J (Zd J) (Zk J J J (Zd J) (Zk J J J (Zd J) (Zk J J J (T8 J J) (Za J (Zp J J) (Za J (Zd J) (Zk J J J (Zd J) (Zk J J J (Zd J) (Zk J J J (T8 J J) (Za J (Zp J J) (Za J (Zd J) (Zk J J J (Zd J) (Oo fn48 J J J J (fun w _=>num_any _ w) ?_)))))))))))))));refine Zk J J J (Zd J) (Zk J J J (T8 J J) (Za J (Zp J J) (Za J (Zf J) (Ze (Zc (Zr (Wp (We J (X9 J)) 4 J ?_)))))));exact ⟨J,bk3,J,.refl _,hbk3⟩
theorem sm_grant:V3 smC 1=some (addO none fun _=>False):=by kernel_rfl
theorem sm_check:CheckO smC [] 0 0 0:=.inr (.inr ⟨sm_class,rfl,rfl,rfl,List.Pairwise.nil,_,sm_grant,fun x=>⟨fun h=>(by cases h),fun h=>h.elim False.elim (fun h=>by cases h)⟩⟩)
theorem checksAll_any (c:Cl) (fv mv:Value) (w:World) (hcl:ClAt w c fv mv) (hg:ClGood c) :
  Vc Tryz.prog 4 #[.agg (clV c fv mv).toArray] w (.bool true):=by
 obtain ⟨qf,ef,hfv, -, -⟩:=hcl.fs.is;obtain ⟨qm,em,hmv, -, -⟩:=hcl.ms.is;subst hfv;subst hmv;replace hcl:Hid _:=hcl;replace hg:Hid _:=hg;refine Xf (args:=[.agg (clV c (.slice qf c.fields.length ef) (.slice qm c.methods.length em)).toArray]) Tryz.func4 J Tryz.ntmps4 ?_;refine Zg (Zb (Y2 J J ?_));intro b0 hb0;refine Za J (Zf J) (Ze (Zc (Zg (Zb (Za J (Z8 (tb J) J J) (Y2 J J ?_))))));intro b1 hb1;refine Za J (Zf J) (Ze (Zc (Zg (Zb (Yq fn13 J J (fun w' _=>begun_any w') ?_)))));refine Za J (Zf J) (Ze (Zc (Zg (Zb (X8 fn19 J J (fun w' _=>small_any w') (fun h=>h.elim) ?_)))));rintro v R1 ⟨x1,x2,rfl,rfl⟩;refine X8 fn18 J J (fun w' hs=>check_any smC _ _ w' (sm_at hs.res.1)) (fun h=>h.elim) ?_;rintro v R2 ⟨l0,g0,n0,p0,e0,rfl,hO,hB⟩;obtain ⟨rfl,rfl,rfl,rfl⟩:=sm_check.one hO;refine Zz hB.left (Xc (p:=∃ p c,g0=.slice p 0 c∧(0<0→∃ g,p=some ⟨g,0,none⟩)) (fun w hs=>Xr hs.res.1) ?_);rintro ⟨q0,z0,rfl, -⟩;refine Za J (Zd J) (Za J (X3 J J) (Za J (X3 J J) (Za J (X3 J J) (Za J (X3 J J) (Za J (Zf J) (Za J (Zf J) (Za J (Zf J) (Za J (Zf J) (Ze (Zc (Zg (Zb (Za J (Zd J) (Za J (Zv (tn J) J 1 J J) ?_))))))))))))));refine Zz (bk0_in _) ?_;refine Vx fn20 J J 0 J (Below.refl _ w) (by simp) (checks_any w b1 bk0 0 c _ _ hcl.out hg.out (by omega) bk0_ok) ?_;rintro v cs' R' ⟨rfl,bk1,rfl,hR1,hbk1⟩;refine Zz hR1.left ?_;refine Za J (Zf J) (Ze (Zc (Zg (Zb (Za J (Zd J) (Za J (Zv (tn J) J 1 J J) ?_))))));refine Vx fn20 J J 0 J (Below.refl _ w) (by simp) (checks_any w b1 bk1 _ c _ _ hcl.out hg.out (by omega) hbk1) ?_;rintro v cs' R' ⟨rfl,bk2,rfl,hR2,hbk2⟩;refine Zz hR2.left ?_;refine Za J (Zf J) (Ze (Zc (Zg (Zb (Za J (Zd J) (Yq fn16 J J (fun w' hs=>looks_any b1 bk2 w' (bookAt_of (i:=0) hs J hs.res.1 hbk2 (by omega))) ?_))))));refine Za J (Zf J) (Ze (Zc (Zg (Zb (Za J (Zd J) (Za J (Zd J) (Zk J J J (Zd J) (Zk J J J (Zx (ts J) J) (Zk J J J (Ya J J) (Za J (Zp J J) (Za J (Zd J) (Z9 J J J ?_ ?_))))))))))))
 ·intro h1;refine Zk J J J (Zd J) (Zk J J J (Ya J J) (Za J (Zp J J) (Za J (Zd J) (Z9 J J J ?_ ?_))))
  ·intro h2;refine Zk J J J (Zd J) (Zk J J J (Ya J J) (Za J (Zp J J) (Za J (Zd J) (Z9 J J J ?_ ?_))))
   ·intro h3;refine Zk J J J (Zd J) (Zk J J J (Ya J J) (Za J (Zp J J) (Za J (Zd J) (Z9 J J J ?_ ?_))))
    ·intro h4;refine Zk J J J (Zd J) (Za J (Zp J J) (Za J (Zd J) (Zk J J J (Zd J) (Za J (Zp J J) (Za J (Zd J) (Zk J J J (Zd J) (Za J (Zp J J) (Za J (Zf J) (Ze (Zc (Zr (Z3 J J ?_))))))))))));rfl
    ·intro h4;refine Zm J J J (Za J (Zs J J) (Za J (Zd J) (Zm J J J (Za J (Zs J J) (Za J (Zd J) (Zm J J J (Za J (Zs J J) (Za J (Zf J) (Ze (Zc (Zr (Z3 J J ?_))))))))))));exfalso;omega
   ·intro h3;refine Zm J J J (Zm J J J (Za J (Zs J J) (Za J (Zd J) (Zm J J J (Za J (Zs J J) (Za J (Zd J) (Zm J J J (Za J (Zs J J) (Za J (Zd J) (Zm J J J (Za J (Zs J J) (Za J (Zf J) (Ze (Zc (Zr (Z3 J J ?_))))))))))))))));exfalso;omega
  ·intro h2;refine Zm J J J (Zm J J J (Za J (Zs J J) (Za J (Zd J) (Zm J J J (Zm J J J (Za J (Zs J J) (Za J (Zd J) (Zm J J J (Za J (Zs J J) (Za J (Zd J) (Zm J J J (Za J (Zs J J) (Za J (Zd J) (Zm J J J (Za J (Zs J J) (Za J (Zf J) (Ze (Zc (Zr (Z3 J J ?_))))))))))))))))))));exfalso;omega
 ·intro h1;refine Zm J J J (Zm J J J (Za J (Zs J J) (Za J (Zd J) (Zm J J J (Zm J J J (Za J (Zs J J) (Za J (Zd J) (Zm J J J (Zm J J J (Za J (Zs J J) (Za J (Zd J) (Zm J J J (Za J (Zs J J) (Za J (Zd J) (Zm J J J (Za J (Zs J J) (Za J (Zd J) (Zm J J J (Za J (Zs J J) (Za J (Zf J) (Ze (Zc (Zr (Z3 J J ?_))))))))))))))))))))))));exfalso;omega
end
end Go.Proofs.YtpofmnfkdkmieaaGreat
