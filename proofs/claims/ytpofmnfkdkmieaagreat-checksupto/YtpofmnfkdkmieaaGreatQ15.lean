/- What is proved here: rules for a region that draws its order, -/
import Derived.Test.YtpofmnfkdkmieaaGreatQ14
import Derived.Test.YtpofmnfkdkmieaaGreatQ03
import Derived.OrdersHeld
set_option linter.unusedVariables false
set_option linter.unusedSimpArgs false
namespace Go.Proofs.YtpofmnfkdkmieaaGreat
namespace E
open Go Go.RowKit
abbrev Old (u:World):World→Prop:=fun w=>Sat u [] [] Asr.none w
theorem Vk {u w0 w:World} {F:List Nat} {H:Hp} {R:Asr} (hu:Below u.heap.size u w0) (hF:∀ x ∈ F,u.heap.size≤x) (hs:Sat w0 F H R w):Old u w :=
 ⟨Fr.of_below (Xp hu hF hs) [],by simp,by simp,by simp,trivial,by simp [Asr.none],by simp⟩
theorem M7 {P:Program} {fn:Func} {Z:Ending→World→Prop} {c:List PanicEntry} {a:Act} {d:Option Tmp} {v:Value} {w:World}:∀ κ:List Kf,den P fn Z κ (.panic c) (a.put d v) w→den P fn Z κ (.panic c) a w
 | [],h=>by
  cases d with
  | none=>exact h
  | some d=>exact h
 | ⟨0,_,_,_⟩::κ,h=>M7 κ h
 | ⟨1,_,_,_⟩::κ,h=>M7 κ h
 | ⟨_+2,_,_,_⟩::κ,h=>M7 κ h
structure WH (w1:World) (F1:List Nat) (H1:Hp) (R1:Asr) (P:Program) (n:Nat) (all:Array Oper) (fuel:Nat) (listed:Array Bool) (E:Env) (w0:World) (F:List Nat) (H:Hp) (R:Asr) (fn:Func) (Z:Ending→World→Prop) (κ:List Kf):Prop where
 go:∀ w,Sat w0 F H R w→∀ a,Ag n a E→wpAnyH P .any all (den P fn Z κ) (fun w=>Sat w1 F1 H1 R1 w) fuel listed a w
section
variable {w1:World} {F1:List Nat} {H1:Hp} {R1:Asr} {P:Program} {n:Nat} {E:Env} {w0:World} {F:List Nat} {H:Hp} {R:Asr} {fn:Func} {Z:Ending→World→Prop} {κ:List Kf}
theorem WC_drop {c:Code} (j:Nat) (h:WC P n c E w0 F (H.drop j) R fn Z κ):WC P n c E w0 F H R fn Z κ:=⟨fun w hs a ha=>h.go w (hs.drop j) a ha⟩
theorem O7 (w1:World) (F1:List Nat) (H1:Hp) (R1:Asr) {id:Nat} {l:List Oper} (hm:P.follows .mixedOrders=true) (h:WH w1 F1 H1 R1 P n l.toArray l.length (Array.replicate l.length false) E w0 F H R fn Z κ):WC P n (.region id l.toArray true) E w0 F H R fn Z κ :=
 ⟨fun w hs a ha=>wp_region_held (S:=fun w=>Sat w1 F1 H1 R1 w) hm (by rw [List.size_toArray];exact h.go _ (hs.drawn _) a ha)⟩
theorem WC_heldM (j:Nat) {id:Nat} {l:List Oper} (hm:P.follows .mixedOrders=true) (h:WH w0 F (H.drop j) R P n l.toArray l.length (Array.replicate l.length false) E w0 F H R fn Z κ):WC P n (.region id l.toArray true) E w0 F H R fn Z κ:=O7 w0 F (H.drop j) R hm h
theorem W8 {all:Array Oper} {fuel:Nat} {listed:Array Bool} (hr:Region.ready .any all listed=[]) (h:WQ P n .normal E w0 F H R fn Z κ):WH w1 F1 H1 R1 P n all fuel listed E w0 F H R fn Z κ :=
 ⟨fun w hs a ha=>wpAnyH_done hr (h.go w hs a ha) fuel⟩
theorem WH_op {all:Array Oper} {fuel:Nat} {listed:Array Bool} (i:Nat) {d:Nat} {o:Op} {t:TypeId} {p:String} {x:Array Edge} {v:Value} (hi:all[i]?=some ⟨some d,o,t,p,x,none⟩) (hs:Region.noSelect all=true) (hf:Region.free .any all listed i=true)
  (hr:(Region.ready .any all listed).contains i=true) (hd:Nat.blt d n=true) (hk:∀ w,Sat w0 F H R w→Sat w1 F1 H1 R1 w) (he:Ex P n E w1 F1 H1 R1 o v)
  (h:WH w1 F1 H1 R1 P n all fuel (listed.setIfInBounds i true) ((d,v)::E) w0 F H R fn Z κ):WH w1 F1 H1 R1 P n all (fuel+1) listed E w0 F H R fn Z κ :=
 ⟨fun w hw a ha=>wpAnyH_take (v:=v) hi hs hf hr (fun _ _ _=>M7 κ) (.inl ⟨rfl,fun w' hw'=>he.go w' hw' a ha _ _ _ _ _⟩) (hk w hw) (h.go w hw _ (ha.put hd v))⟩
theorem Z4 {all:Array Oper} {fuel:Nat} {listed:Array Bool} (i:Nat) {d:Nat} {o:Op} {t:TypeId} {p:String} {x:Array Edge} {v:Value} (hi:all[i]?=some ⟨some d,o,t,p,x,none⟩) (hb:(Region.noSelect all&&Region.free .any all listed i&&(Region.ready .any all listed).contains i)=true)
  (hd:Nat.blt d n=true) (hk:∀ w,Sat w0 F H R w→Sat w1 F1 H1 R1 w) (he:Ex P n E w1 F1 H1 R1 o v)
  (h:WH w1 F1 H1 R1 P n all fuel (listed.setIfInBounds i true) ((d,v)::E) w0 F H R fn Z κ):WH w1 F1 H1 R1 P n all (fuel+1) listed E w0 F H R fn Z κ:=by
 simp only [Bool.and_eq_true] at hb;exact WH_op i hi hb.1.1 hb.1.2 hb.2 hd hk he h
theorem WH_step {all:Array Oper} {fuel:Nat} {listed:Array Bool} {rs:List Nat} (hr:Region.ready .any all listed=rs) (hne:rs≠[])
  (h:∀ i ∈ rs,∃ o,all[i]?=some o∧WL P n all [o] E w0 F H R fn Z (⟨2,0,.skip,fun a w=>Sat w1 F1 H1 R1 w∧wpAnyH P .any all (den P fn Z κ) (fun w=>Sat w1 F1 H1 R1 w) fuel (listed.setIfInBounds i true) a w⟩::κ)):WH w1 F1 H1 R1 P n all (fuel+1) listed E w0 F H R fn Z κ :=
 ⟨fun w hs a ha=>wpAnyH_all hr hne fun i hi=>by
  obtain ⟨o,ho,hw⟩:=h i hi;have h1:=hw.go w hs a ha;unfold wpOp;rw [ho];simp only [wpList] at h1;simp only;split
  ·rename_i hwant
   rw [if_pos hwant] at h1;rcases h1 with h1 | ⟨h1,a0,w1,h2⟩
   ·left;unfold Oper.wp at h1 ⊢;generalize (execOp a.eval o).run P w=r at *;cases r with
    | ok nx w' =>
     cases nx<;>simp only [Oper.upon] at h1 ⊢ <;>
      first
       | exact h1
       | exact Calls.mono h1 (fun e w'' he=>by cases e<;>exact he)
       | exact Rows.mono h1 (fun _ _ he=>he)
    | halt x w'=>cases x<;>simp only [Oper.upon] at h1 ⊢<;>exact h1
   ·exact .inr ⟨h1,a0,w1,h2⟩
  ·rename_i hwant
   rw [if_neg hwant] at h1;exact h1⟩
theorem Xh {all:Array Oper} {fuel:Nat} {listed:Array Bool} (i:Nat) {o:Oper} (hr:Region.ready .any all listed=[i]) (ho:all[i]?=some o)
  (h:WL P n all [o] E w0 F H R fn Z (⟨2,0,.skip,fun a w=>Sat w1 F1 H1 R1 w∧wpAnyH P .any all (den P fn Z κ) (fun w=>Sat w1 F1 H1 R1 w) fuel (listed.setIfInBounds i true) a w⟩::κ)):WH w1 F1 H1 R1 P n all (fuel+1) listed E w0 F H R fn Z κ:=WH_step hr (by simp) (fun j hj=>by rw [List.mem_singleton.1 hj];exact ⟨o,ho,h⟩)
theorem Y1 {all:Array Oper} {fuel:Nat} {listed:Array Bool} (hk:∀ w,Sat w0 F H R w→Sat w1 F1 H1 R1 w) (h:WH w1 F1 H1 R1 P n all fuel listed E w0 F H R fn Z κ):WQ P n .normal E w0 F H R fn Z (⟨2,0,.skip,fun a w=>Sat w1 F1 H1 R1 w∧wpAnyH P .any all (den P fn Z κ) (fun w=>Sat w1 F1 H1 R1 w) fuel listed a w⟩::κ):=⟨fun w hs a ha=>⟨hk w hs,h.go w hs a ha⟩⟩
end
end E
section
open Go Go.RowKit At E
def fr77:Fr:=⟨77,[],[]⟩
def frX:List (Fr × Value × Value):=[(fr77,.slice none 0 0,.slice none 0 0),(fr77,.slice none 0 0,.slice none 0 0)]
def frRows (f:Fr):List (List Ty):=[tyRow f.locals,tyRow f.stack]
structure FdL where
 i:Nat
 k:Lx
 its:List (Fr × Value × Value)
 v:Value
 T2:List (List Ty × Value)
structure FdOk (k0:Lx) (l:List Fr) (x:FdL):Prop where
 i:x.i=x.its.length
 le:x.its.length≤l.length
 its:x.its.map (·.1)=l.take x.its.length
 pre:∀ q ∈ x.its,Pre tyX x.k.sT q.1.locals q.2.1∧Pre tyX x.k.sT q.1.stack q.2.2
 T:x.k.sT=k0.sT++x.T2
 T2:x.T2.map (·.1)=(l.take x.its.length).flatMap frRows
 tl:x.T2.length=2*x.i
 k:∃ vT,x.k={ k0 with vT:=vT,sT:=x.k.sT }
theorem FdOk.next {k0:Lx} {l:List Fr} {x:FdL} {f:Fr} {k1 k2:Lx} {vT1 vT2 u1 u2 lv sv v2:Value} (h:FdOk k0 l x) (hi:l[x.its.length]?=some f) (hp:Pre tyX k1.sT f.locals lv) (hk:k1={ x.k with vT:=vT1,sT:=x.k.sT++[(f.locals++tyX,u1)] }) (hp2:Pre tyX k2.sT f.stack sv) (hk2:k2={ k1 with vT:=vT2,sT:=k1.sT++[(f.stack++tyX,u2)] }) :
  FdOk k0 l ⟨x.i+1,k2,x.its++[(f,lv,sv)],v2,x.T2++[(f.locals++tyX,u1),(f.stack++tyX,u2)]⟩:=by
 have hlt:x.its.length<l.length:=by
  rcases Nat.lt_or_ge x.its.length l.length with h | h
  ·exact h
  ·rw [List.getElem?_eq_none h] at hi;cases hi
 have ht:l.take (x.its.length+1)=l.take x.its.length++[f]:=by rw [List.take_add_one,hi];rfl
 have hkT:k1.sT=x.k.sT++[(f.locals++tyX,u1)]:=by rw [hk]
 have hkT2:k2.sT=k1.sT++[(f.stack++tyX,u2)]:=by rw [hk2]
 refine ⟨by simp only [List.length_append,List.length_singleton,h.i],by simp only [List.length_append,List.length_singleton];omega,?_,?_,?_,?_,?_,?_⟩
 ·simp only [List.length_append,List.length_singleton,List.map_append,List.map_cons,List.map_nil];rw [ht,h.its]
 ·intro q hq;rcases List.mem_append.1 hq with hq | hq
  ·rw [hkT2,hkT];exact ⟨((h.pre q hq).1.app _).app _,((h.pre q hq).2.app _).app _⟩
  ·rw [List.mem_singleton.1 hq];exact ⟨by rw [hkT2];exact hp.app _,hp2⟩
 ·show k2.sT=_;rw [hkT2,hkT,h.T,List.append_assoc,List.append_assoc];rfl
 ·simp only [List.length_append,List.length_singleton,List.map_append,List.map_cons,List.map_nil];rw [ht,h.T2,List.flatMap_append];rfl
 ·simp only [List.length_append,h.tl,List.length_cons,List.length_nil];omega
 ·obtain ⟨vT,hx⟩:=h.k;refine ⟨vT2,?_⟩;show k2={ k0 with vT:=vT2,sT:=k2.sT };rw [hkT2,hk2,hkT,hk,hx]
theorem FdOk.fin {k0:Lx} {l:List Fr} {x:FdL} (h:FdOk k0 l x) (vR:Value) (r:List (List (Fr × Value × Value) × Value)):∃ vT vR',({ x.k with vR:=vR,sR:=x.k.sR++r }:Lx)={ k0 with vT:=vT,vR:=vR',sT:=k0.sT++x.T2,sR:=k0.sR++r }:=by
 obtain ⟨i,k,its,v,T2⟩:=x;obtain ⟨vT,hk⟩:=h.k;have hT:=h.T;dsimp only at hk hT ⊢;rw [hT] at hk;subst hk;exact ⟨vT,vR,J⟩
theorem frOf (u:World) {q:Option Addr} {n c:Nat} {l:List Fr} (h:Pg u (.slice q n c) l) {i:Nat} {f:Fr} (hi:l[i]?=some f):∃ b o lv sv,q=some ⟨b,o,none⟩∧b<u.heap.size∧Yu u lv f.locals∧Yu u sv f.stack∧∀ j v,(frV f lv sv)[j]?=some v→u.cell? ⟨b,o+i*3+j,none⟩=some v:=by
 obtain ⟨p,c',hv, -,hr⟩:=h.is;cases hv;obtain ⟨b,o,r,hp,hb,⟨lv,sv,rfl,h1,h2, -⟩,hc⟩:=hr i f hi;exact ⟨b,o,lv,sv,hp,hb,h1,h2,hc⟩
theorem lxFramed (u:World) (b:Nat) (k:Lx) (N:Nat) (tv:Value) (l:List Fr) (hv:Pg u tv l) (hk:LxOk k N) (hN:N+2*l.length+1≤1099511627776) :
  RuP Tryz.prog 78 #[pt b,tv] u b k.C (lxA k)
   (fun v cs' R'=>∃ (k':Lx) (its:List (Fr × Value × Value)) (T2:List (List Ty × Value)) (v2:Value),cs'=k'.C∧R'.Imp (lxA k')∧its.map (·.1)=l∧Pre frX k'.sR its v∧(∀ q ∈ its,Pre tyX k'.sT q.1.locals q.2.1∧Pre tyX k'.sT q.1.stack q.2.2)∧T2.map (·.1)=l.flatMap frRows∧∃ vT vR,k'={ k with vT:=vT,vR:=vR,sT:=k.sT++T2,sR:=k.sR++[(its++frX,v2)] }):=by
 intro w hu hF hs0;obtain ⟨q,e,rfl,hl, -⟩:=hv.is;replace hv:Hid _:=hv;have hkt:=hk.t;have hki:=hk.r;refine Yz (hs0) (args:=[pt b,.slice q l.length e]) Tryz.func78 J Tryz.ntmps78 ?_;refine Zg (Zb (Za J (Zf J) (Ze (Zc (Zg (Zb (Za J (Zf J) (Ze (Zc (Zg (Zg (Zb (Za J (Zf J) (Ze (Zc (Zn (Ni 176 3 ?_)))))))))))))))));refine Yf (Yg (X:=FdL) (fun x=>[(0,pt b),(1,.slice q l.length e),(5,x.v),(6,iN x.i)]) _ _ (fun x=>[(b,x.k.C)]) (fun x=>(Y0 176 3 x.v x.i (x.its.flatMap frC)).and (lxA x.k)) (fun x=>FdOk k l x) (fun x=>l.length - x.i) (⟨0,k,[],.slice none 0 0,[]⟩) (⟨J,Nat.zero_le _,J,by simp,by simp,J,J,⟨k.vT,J⟩⟩) ?_) ⟨J,J,J,J,trivial⟩;intro x hI;refine Zg (Zg (Zb (Za J (Zd J) (Za J (Zd J) (Za J (Zx (ts J) J) (Za J (Yi J J) (Ze (Zc (Zu J ?_ ?_)))))))))
 ·intro c1;have hxi:x.i<l.length:=by omega
  have hii:=hI.i;obtain ⟨f,hi⟩:∃ p,l[x.i]?=some p:=⟨_,List.getElem?_eq_getElem hxi⟩;obtain ⟨g,o,lv,sv,hq,hgb,hlv,hsv,hc⟩:=frOf u hv.out hi;subst hq;have hsT:x.k.sT.length=k.sT.length+2*x.i:=by rw [hI.T,List.length_append,hI.tl]
  refine Zo (Zc (Zg (Zn (O7 u [] [] Asr.none X2 (Z4 0 J (by kernel_rfl) J (fun _ hs=>Vk hu hF hs) (Zd J) ?_)))));refine Z4 1 J (by kernel_rfl) J (fun _ hs=>Vk hu hF hs) (Zd J) ?_;refine Z4 2 J (by kernel_rfl) J (fun _ hs=>Vk hu hF hs) (Zd J) ?_;refine Z4 3 J (by kernel_rfl) J (fun _ hs=>Vk hu hF hs) (Yo (ts J) J J ?_) ?_
  ·omega
  refine Z4 4 J (by kernel_rfl) J (fun _ hs=>Vk hu hF hs) (Zh (ff J) J) ?_;refine Z4 5 J (by kernel_rfl) J (fun _ hs=>Vk hu hF hs) (Zj (t1 J) J (Z6 (hc 0 _ J) hgb)) ?_;refine Z4 6 J (by kernel_rfl) J (fun _ hs=>Vk hu hF hs) (Zd J) ?_;refine Z4 7 J (by kernel_rfl) J (fun _ hs=>Vk hu hF hs) (Zd J) ?_;refine Z4 8 J (by kernel_rfl) J (fun _ hs=>Vk hu hF hs) (Zd J) ?_;refine Z4 9 J (by kernel_rfl) J (fun _ hs=>Vk hu hF hs) (Yo (ts J) J J ?_) ?_
  ·omega
  refine Z4 10 J (by kernel_rfl) J (fun _ hs=>Vk hu hF hs) (Zh (ff J) J) ?_;refine Z4 11 J (by kernel_rfl) J (fun _ hs=>Vk hu hF hs) (Zj (t1 J) J (Z6 (hc 1 _ J) hgb)) ?_;refine Z4 13 J (by kernel_rfl) J (fun _ hs=>Vk hu hF hs) (Zd J) ?_;refine Z4 14 J (by kernel_rfl) J (fun _ hs=>Vk hu hF hs) (Zd J) ?_;refine Z4 15 J (by kernel_rfl) J (fun _ hs=>Vk hu hF hs) (Zd J) ?_;refine Z4 16 J (by kernel_rfl) J (fun _ hs=>Vk hu hF hs) (Yo (ts J) J J ?_) ?_
  ·omega
  refine Z4 17 J (by kernel_rfl) J (fun _ hs=>Vk hu hF hs) (Zh (ff J) J) ?_;refine Z4 18 J (by kernel_rfl) J (fun _ hs=>Vk hu hF hs) (Zj (t1 J) J (Z6 (hc 2 _ J) hgb)) ?_;refine Xh 12 (by kernel_rfl) J ?_;refine Zz (Asr.comm _ _) ?_;refine Vx fn76 J J 0 J hu hF (lxTyped u b x.k lv f.locals hlv (by omega)) ?_;rintro v cs' R' ⟨k1,rfl,hR1,hpre,vT1,v',hk1⟩;obtain ⟨p1,n1,c1',hv1⟩:=hpre.slice;subst hv1;refine Zz hR1.left ?_;refine Ze (Y1 (fun _ hs=>Vk hu hF hs) ?_);refine Xh 19 (by kernel_rfl) J ?_;refine Vx fn76 J J 0 J hu hF (lxTyped u b k1 sv f.stack hsv (by rw [hk1];simp only [List.length_append,List.length_singleton];omega)) ?_;rintro v cs' R' ⟨k2,rfl,hR2,hpre2,vT2,v'',hk2⟩;obtain ⟨p2,n2,c2',hv2⟩:=hpre2.slice;subst hv2;refine Zz hR2.left ?_;refine Ze (Y1 (fun _ hs=>Vk hu hF hs) ?_);refine Z4 20 J (by kernel_rfl) J (fun _ hs=>Vk hu hF hs) (Z8 (tb J) J J) ?_;refine Xh 21 (by kernel_rfl) J ?_;refine Wk J (ts J) (tz J) J J J J J ?_;intro b1 hb1;refine Ze (Y1 (fun _ hs=>Vk hu hF hs) ?_);refine Xh 22 (by kernel_rfl) J ?_;refine Zz (Asr.comm _ _) ?_;refine Ww J (ta J) J J (Yl 0 J) J J (by unfold maxLen;omega) (by omega) ?_;intro v1;refine Ze (Y1 (fun _ hs=>Vk hu hF hs) ?_);refine Xh 23 (by kernel_rfl) J ?_;refine Za J (Zf J) (Ze (Y1 (fun _ hs=>Vk hu hF hs) ?_));refine W8 (by kernel_rfl) ?_;refine Zt (Zc (Zb (Za J (Zd J) ?_)));refine Za J (Yn J J ?_) ?_;omega;refine Za J (Zf J) (Ze ?_);refine Z1 (⟨x.i+1,k2,x.its++[(f,.slice p1 n1 c1',.slice p2 n2 c2')],v1,x.T2++[(f.locals++tyX,v'),(f.stack++tyX,v'')]⟩) ?_ (hI.next (hii ▸ hi) hpre hk1 hpre2 hk2) 1 J (by simp only [List.flatMap_append];rfl) ⟨rfl,rfl,rfl,rfl,trivial⟩;show l.length - (x.i+1)<l.length - x.i;omega
 ·intro c1;refine Yd (Yc (Z5 (Yb (Zc (Zg ?_)))));have hle:=hI.le;have hii:=hI.i;have hil:x.i=l.length:=by omega
  have hsI:x.k.sR=k.sR:=by obtain ⟨vT,h⟩:=hI.k;rw [h]
  have hsIl:x.k.sR.length=k.sR.length:=by rw [hsI]
  refine Zb (Za J (Zd J) (Za J (Z8 (tb J) J J) (Za J (Z8 (tb J) J J) (Wk J (ts J) (tz J) J J J J J ?_))));intro b1 hb1;refine Ww J (ta J) J J (Yl 0 J) J J (by unfold maxLen;omega) (by omega) ?_;intro v2;refine Za J (Zf J) (Ze (Zc (Zg (Th (p:=∃ p c,v2=.slice p (x.i+2) c∧x.i+2≤c) (fun w hs=>Od hs.res.1 (by omega)) ?_))));rintro ⟨p2,c2,hv2,hc2⟩;subst hv2;refine Xt ((Asr.Imp.right (out6 _ _ _ _ _ _)).trans (r2 _ _ _ _)) (Zb (Za J (Zd J) (Za J (Zd J) (Za J (Zw J) (Za J (Zh (ff J) J) (Za J (Zj (t1 J) J (Zi 1 J J)) (Za J (Zd J) (Wk J (ts J) (tz J) J J J J J ?_))))))));intro b2 hb2;refine Ww J (ta J) J J (Yl 0 J) J J (by unfold maxLen;omega) (by omega) ?_;intro v3;refine Za J (Zw J) (Za J (Zh (ff J) J) (Xc (p:=∃ p l c,v3=.slice p l c) (fun w hs=>Xb hs.res.1) ?_));rintro ⟨p3,l3,c3',hv3⟩;subst hv3;refine Yy (t1 J) J J 2 J J J J (Ze (Zc (Zg (Zb (Za J (Zd J) (Za J (Zd J) (Za J (Zx (ts J) J) (Za J (U4 (ts J) J J ?_) ?_))))))))
  ·omega
  refine Za J (Zf J) (Ze (Zc (Zr (Wp (We J (X9 J)) 2 J ?_))));exact ⟨{ x.k with vR:=.slice p3 l3 c3',sR:=x.k.sR++[(x.its++frX,.slice p2 (x.i+2) c2)] },x.its,x.T2,.slice p2 (x.i+2) c2,J,(Asr.cossa _ _ _).trans ((Asr.Imp.left (by have h9:=Pr (e':=132) (e:=176) (sz:=3) (cell:=frC) (v:=.slice p3 l3 c3') (rows:=x.k.sR) (l:=x.its++frX) (u:=.slice p2 (x.i+2) c2);rw [List.length_append,List.flatMap_append,← hii] at h9;exact h9)).trans (in6 _ _ _ _ _ _)),by have h9:=hI.its;rw [← hii,hil,List.take_length] at h9;exact h9,.inr ⟨p2,c2,by rw [← hii,hil],by show (_,Value.slice p2 (x.its.length+2) c2) ∈ _;rw [← hii];exact List.mem_append_right _ (List.mem_singleton.2 J)⟩,hI.pre,by have h9:=hI.T2;rw [← hii,hil,List.take_length] at h9;exact h9,hI.fin _ _⟩
def behind:ByteArray:=⟨#[98,101,104,105,110,100]⟩
def fd77:Fld:=⟨behind,false,⟨0,mt⟩⟩
def fdX:List Fld:=[fd77,fd77]
def hd77:Hd:=⟨0,0,77,mt⟩
def hdX:List Hd:=[hd77,hd77]
def me77:Me:=⟨behind,false,[],⟨0,mt⟩,0,0,[],[],[]⟩
def mm0:MeM:=⟨.slice none 0 0,.slice none 0 0,.slice none 0 0,.slice none 0 0,[],[]⟩
def meX:List (Me × MeM):=[(me77,mm0),(me77,mm0)]
def mT (m:Me):List (List Ty):=tyRow m.params::(m.code.map (fun i=>tyRow i.ref.params)++m.frames.flatMap frRows)
theorem mT_len (m:Me):(mT m).length=1+m.code.length+2*m.frames.length:=by
 have h:∀ l:List Fr,(l.flatMap frRows).length=2*l.length:=by
  intro l;induction l with
  | nil=>rfl
  | cons f l ih=>rw [List.flatMap_cons,List.length_append,ih,List.length_cons];simp only [frRows,List.length_cons,List.length_nil];omega
 simp only [mT,List.length_cons,List.length_append,List.length_map,h];omega
structure MeLink (k:Lx) (q:Me × MeM):Prop where
 p:Pre tyX k.sT q.1.params q.2.pv
 c:Pre insX k.sI q.2.cs q.2.cv
 cm:q.2.cs.map (·.1)=q.1.code
 h:Pre hdX k.sH q.1.handlers q.2.hv
 f:Pre frX k.sR q.2.fs q.2.fv
 fm:q.2.fs.map (·.1)=q.1.frames
theorem MeLink.grow {k k':Lx} {q:Me × MeM} (h:MeLink k q) {a:List (List Ty × Value)} {b:List (List (Ins × Value) × Value)} {c:List (List Hd × Value)} {d:List (List (Fr × Value × Value) × Value)} (hT:k'.sT=k.sT++a) (hI:k'.sI=k.sI++b) (hH:k'.sH=k.sH++c) (hR:k'.sR=k.sR++d):MeLink k' q :=
 ⟨by rw [hT];exact h.p.app _,by rw [hI];exact h.c.app _,h.cm,by rw [hH];exact h.h.app _,by rw [hR];exact h.f.app _,h.fm⟩
structure LxOf (c:Cl) (k:Lx):Prop where
 T:k.sT.map (·.1)=c.methods.flatMap mT
 I:k.sI.map (fun r=>r.1.map (·.1))=c.methods.map fun m=>m.code++[ins77,ins77]
 F:k.sF.map (·.1)=[c.fields++fdX]
 M:k.sM.map (fun r=>r.1.map (·.1))=[c.methods++[me77,me77]]
 H:k.sH.map (·.1)=c.methods.map fun m=>m.handlers++hdX
 R:k.sR.map (fun r=>r.1.map (·.1))=c.methods.map fun m=>m.frames++[fr77,fr77]
 li:∀ r ∈ k.sI,∀ q ∈ r.1,Pre tyX k.sT q.1.ref.params q.2
 lr:∀ r ∈ k.sR,∀ q ∈ r.1,Pre tyX k.sT q.1.locals q.2.1∧Pre tyX k.sT q.1.stack q.2.2
 lm:∀ r ∈ k.sM,∀ q ∈ r.1,MeLink k q
structure CcL where
 i:Nat
 k:Lx
 v:Value
 ms:List (Me × MeM)
structure CcOk (c:Cl) (fvv:Value) (x:CcL):Prop where
 i:x.i=x.ms.length
 le:x.ms.length≤c.methods.length
 ms:x.ms.map (·.1)=c.methods.take x.ms.length
 lm:∀ q ∈ x.ms,MeLink x.k q
 T:x.k.sT.map (·.1)=(c.methods.take x.ms.length).flatMap mT
 I:x.k.sI.map (fun r=>r.1.map (·.1))=(c.methods.take x.ms.length).map fun m=>m.code++[ins77,ins77]
 H:x.k.sH.map (·.1)=(c.methods.take x.ms.length).map fun m=>m.handlers++hdX
 R:x.k.sR.map (fun r=>r.1.map (·.1))=(c.methods.take x.ms.length).map fun m=>m.frames++[fr77,fr77]
 F:x.k.sF=[(c.fields++fdX,fvv)]
 M:x.k.sM=[]
 li:∀ r ∈ x.k.sI,∀ q ∈ r.1,Pre tyX x.k.sT q.1.ref.params q.2
 lr:∀ r ∈ x.k.sR,∀ q ∈ r.1,Pre tyX x.k.sT q.1.locals q.2.1∧Pre tyX x.k.sT q.1.stack q.2.2
theorem CcOk.room {c:Cl} {fvv:Value} {x:CcL} {m:Me} {N:Nat} (h:CcOk c fvv x) (hi:c.methods[x.ms.length]?=some m) (hN:(c.methods.flatMap mT).length≤N):x.k.sT.length+1+m.code.length+2*m.frames.length≤N∧x.k.sI.length=x.ms.length∧x.k.sH.length=x.ms.length∧x.k.sR.length=x.ms.length:=by
 have hlt:x.ms.length<c.methods.length:=by
  rcases Nat.lt_or_ge x.ms.length c.methods.length with h | h
  ·exact h
  ·rw [List.getElem?_eq_none h] at hi;cases hi
 have e:c.methods=c.methods.take x.ms.length++m::c.methods.drop (x.ms.length+1):=by
  rw [← Q9 hi,List.take_append_drop]
 have hT:=congrArg List.length h.T;have hI:=congrArg List.length h.I;have hH:=congrArg List.length h.H;have hR:=congrArg List.length h.R;simp only [List.length_map,List.length_take] at hT hI hH hR;rw [e,List.flatMap_append,List.length_append,List.flatMap_cons,List.length_append,mT_len] at hN;refine ⟨by omega,by omega,by omega,by omega⟩
theorem Rj {β:Type} {p:β→Prop} {a b:List β} (ha:∀ x ∈ a,p x) (hb:∀ x ∈ b,p x):∀ x ∈ a++b,p x:=fun x hx=>(List.mem_append.1 hx).elim (ha x) (hb x)
theorem CcOk.next {c:Cl} {fvv:Value} {x:CcL} {m:Me} {k1 k2 k3 k4:Lx} {vH vT vT' vI vT'' vR hv' tv' iv' rv' pv cv hv fv v:Value} {cs:List (Ins × Value)} {fs:List (Fr × Value × Value)} {Tc Tf:List (List Ty × Value)} (h:CcOk c fvv x) (hi:c.methods[x.ms.length]?=some m)
  (hk1:k1={ x.k with vH:=vH,sH:=x.k.sH++[(m.handlers++hdX,hv')] }) (hp1:Pre hdX k1.sH m.handlers hv)
  (hk2:k2={ k1 with vT:=vT,sT:=k1.sT++[(m.params++tyX,tv')] }) (hp2:Pre tyX k2.sT m.params pv)
  (hk3:k3={ k2 with vT:=vT',vI:=vI,sT:=k2.sT++Tc,sI:=k2.sI++[(cs++insX,iv')] }) (hcs:cs.map (·.1)=m.code) (hp3:Pre insX k3.sI cs cv) (hl3:∀ q ∈ cs,Pre tyX k3.sT q.1.ref.params q.2) (hTc:Tc.map (·.1)=m.code.map fun i=>tyRow i.ref.params)
  (hk4:k4={ k3 with vT:=vT'',vR:=vR,sT:=k3.sT++Tf,sR:=k3.sR++[(fs++frX,rv')] }) (hfs:fs.map (·.1)=m.frames) (hp4:Pre frX k4.sR fs fv) (hl4:∀ q ∈ fs,Pre tyX k4.sT q.1.locals q.2.1∧Pre tyX k4.sT q.1.stack q.2.2) (hTf:Tf.map (·.1)=m.frames.flatMap frRows) :
  CcOk c fvv ⟨x.i+1,k4,v,x.ms++[(m,⟨pv,cv,hv,fv,cs,fs⟩)]⟩:=by
 have hlt:x.ms.length<c.methods.length:=by
  rcases Nat.lt_or_ge x.ms.length c.methods.length with h | h
  ·exact h
  ·rw [List.getElem?_eq_none h] at hi;cases hi
 have ht:c.methods.take (x.ms.length+1)=c.methods.take x.ms.length++[m]:=by rw [List.take_add_one,hi];rfl
 have hl:(x.ms++[(m,(⟨pv,cv,hv,fv,cs,fs⟩:MeM))]).length=x.ms.length+1:=by simp
 have e4T:k4.sT=x.k.sT++([(m.params++tyX,tv')]++Tc++Tf):=by rw [hk4,hk3,hk2,hk1];simp
 have e4I:k4.sI=x.k.sI++[(cs++insX,iv')]:=by rw [hk4,hk3,hk2,hk1]
 have e4H:k4.sH=x.k.sH++[(m.handlers++hdX,hv')]:=by rw [hk4,hk3,hk2,hk1]
 have e4R:k4.sR=x.k.sR++[(fs++frX,rv')]:=by rw [hk4,hk3,hk2,hk1]
 have e4F:k4.sF=x.k.sF:=by rw [hk4,hk3,hk2,hk1]
 have e4M:k4.sM=x.k.sM:=by rw [hk4,hk3,hk2,hk1]
 have f3T:k4.sT=k3.sT++Tf:=by rw [hk4]
 have f2T:k4.sT=k2.sT++(Tc++Tf):=by rw [hk4,hk3];simp
 have f3I:k4.sI=k3.sI:=by rw [hk4]
 have f1H:k4.sH=k1.sH:=by rw [hk4,hk3,hk2]
 have l2:MeLink k4 (m,⟨pv,cv,hv,fv,cs,fs⟩):=⟨by rw [f2T];exact hp2.app _,by rw [f3I];exact hp3,hcs,by rw [f1H];exact hp1,hp4,hfs⟩
 have l3:∀ q ∈ cs++insX,Pre tyX k4.sT q.1.ref.params q.2:=Rj (fun q hq=>by rw [f3T];exact (hl3 q hq).app _) (by
  intro q hq;simp only [insX,List.mem_cons,List.not_mem_nil,or_false] at hq;rcases hq with rfl | rfl<;>exact .inl ⟨rfl,rfl⟩)
 have l4:∀ q ∈ fs++frX,Pre tyX k4.sT q.1.locals q.2.1∧Pre tyX k4.sT q.1.stack q.2.2:=Rj hl4 (by
  intro q hq;simp only [frX,List.mem_cons,List.not_mem_nil,or_false] at hq;rcases hq with rfl | rfl<;>exact ⟨.inl ⟨rfl,rfl⟩,.inl ⟨rfl,rfl⟩⟩)
 constructor<;>dsimp only<;>(try rw [hl])
 ·rw [h.i]
 ·omega
 ·rw [ht,List.map_append,h.ms];rfl
 ·exact Rj (fun q hq=>(h.lm q hq).grow e4T e4I e4H e4R) (fun q hq=>by rw [List.mem_singleton.1 hq];exact l2)
 ·rw [ht,e4T,List.map_append,h.T,List.flatMap_append,List.map_append,List.map_append,hTc,hTf];simp [mT,tyRow]
 ·rw [ht,e4I,List.map_append,h.I,List.map_append];simp [hcs,insX]
 ·rw [ht,e4H,List.map_append,h.H,List.map_append];rfl
 ·rw [ht,e4R,List.map_append,h.R,List.map_append];simp [hfs,frX]
 ·rw [e4F,h.F]
 ·rw [e4M,h.M]
 ·rw [e4I];exact Rj (fun r hr q hq=>by rw [e4T];exact (h.li r hr q hq).app _) (fun r hr=>by rw [List.mem_singleton.1 hr];exact l3)
 ·rw [e4R];exact Rj (fun r hr q hq=>by rw [e4T];exact ⟨(h.lr r hr q hq).1.app _,(h.lr r hr q hq).2.app _⟩) (fun r hr=>by rw [List.mem_singleton.1 hr];exact l4)
theorem CcOk.fin {c:Cl} {fvv:Value} {x:CcL} (h:CcOk c fvv x) (hl:x.ms.length=c.methods.length) (vM mv':Value):LxOf c { x.k with vM:=vM,sM:=x.k.sM++[(x.ms++meX,mv')] }:=by
 have ht:c.methods.take x.ms.length=c.methods:=by rw [hl,List.take_length]
 have hT:=h.T;have hI:=h.I;have hH:=h.H;have hR:=h.R;have hms:=h.ms;rw [ht] at hT hI hH hR hms;refine ⟨hT,hI,?_,?_,hH,hR,h.li,h.lr,?_⟩
 ·show x.k.sF.map _=_;rw [h.F];rfl
 ·show (x.k.sM++_).map _=_;rw [h.M];simp [hms,meX]
 ·show ∀ r ∈ x.k.sM++_,_;rw [h.M];intro r hr;rw [List.nil_append] at hr;rw [List.mem_singleton.1 hr];refine Rj (fun q hq=>?_) ?_
  ·have:=h.lm q hq;exact ⟨this.p,this.c,this.cm,this.h,this.f,this.fm⟩
  ·intro q hq;simp only [meX,List.mem_cons,List.not_mem_nil,or_false] at hq;rcases hq with rfl | rfl<;>exact ⟨.inl ⟨rfl,rfl⟩,.inl ⟨rfl,rfl⟩,rfl,.inl ⟨rfl,rfl⟩,.inl ⟨rfl,rfl⟩,rfl⟩
theorem meOf (u:World) {q:Option Addr} {n c:Nat} {l:List Me} (h:Mn u (.slice q n c) l) {i:Nat} {m:Me} (hi:l[i]?=some m):∃ b o pv cv hv fv,q=some ⟨b,o,none⟩∧b<u.heap.size∧MeParts u m pv cv hv fv∧∀ j v,(meV m pv cv hv fv)[j]?=some v→u.cell? ⟨b,o+i*10+j,none⟩=some v:=by
 obtain ⟨p,c',hv, -,hr⟩:=h.is;cases hv;obtain ⟨b,o,r,hp,hb,⟨pv,cv,hv,fv,rfl,h1⟩,hc⟩:=hr i m hi;exact ⟨b,o,pv,cv,hv,fv,hp,hb,h1,hc⟩
def lx0:Lx:=⟨.slice none 0 0,.slice none 0 0,.slice none 0 0,.slice none 0 0,.slice none 0 0,.slice none 0 0,[],[],[],[],[],[]⟩
theorem r5 (A B X Y D L:Asr) (h:L.Imp ((X.and Y).and D)):(A.and (B.and L)).Imp (X.and (((A.and Y).and D).and B)) :=
 (Asr.Imp.right (Asr.comm _ _)).trans ((Asr.cossa _ _ _).trans ((Asr.Imp.left ((Asr.Imp.right h).trans (r2 _ _ _ _))).trans (Asr.assoc _ _ _)))
theorem r6 (A B X Y D L:Asr) (h:((X.and (A.and Y)).and D).Imp L):(X.and (((A.and Y).and D).and B)).Imp (L.and B) :=
 (Asr.cossa _ _ _).trans (Asr.Imp.left ((Asr.cossa _ _ _).trans h))
set_option maxHeartbeats 4000000 in
theorem lxClassed (u:World) (b:Nat) (fv mv:Value) (c:Cl) (hcl:ClAt u c fv mv) (hN:(c.methods.flatMap mT).length≤1000000000) :
  RuP Tryz.prog 45 #[pt b,.agg (clV c fv mv).toArray] u b lx0.C (lxA lx0)
   (fun v cs' R'=>∃ (k':Lx) (fv' mv':Value) (ms:List (Me × MeM)),v=.agg (clV c fv' mv').toArray∧cs'=k'.C∧R'.Imp (lxA k')∧LxOf c k'∧Pre fdX k'.sF c.fields fv'∧ms.map (·.1)=c.methods∧Pre meX k'.sM ms mv'):=by
 intro w hu hF hs0;obtain ⟨hfs,hms, -⟩:=hcl;obtain ⟨qf,ef,rfl,hlf, -⟩:=hfs.is;obtain ⟨qm,em,rfl,hlm, -⟩:=hms.is;replace hfs:Hid _:=hfs;replace hms:Hid _:=hms;have hffl:=U7 fdV 4 c.fields (fun _ _=>rfl);have hfall:(c.fields.flatMap fdV).all (·.oneCell')=true:=by rw [List.all_eq_true];intro x hx;obtain ⟨t,_,ht⟩:=List.mem_flatMap.1 hx;simp only [fdV,List.mem_cons,List.not_mem_nil,or_false] at ht;rcases ht with rfl | rfl | rfl | rfl<;>rfl
 refine Yz (hs0) (args:=[pt b,.agg (clV c (.slice qf c.fields.length ef) (.slice qm c.methods.length em)).toArray]) Tryz.func45 J Tryz.ntmps45 ?_;refine Zg (Zb (Y2 J J ?_));intro b1 hb1;refine Yk J (tz J) ?_;intro b2 hb2;refine Ze (Zc (Zg (Zb (Za J (Zf J) (Ze (Zc (Zg (Zb (Za J (Zd J) (Za J (Zh (ff J) J) (Za J (Zj (t1 J) J (Zi 1 J J)) ?_)))))))))));refine Pn J (ta J) J J (old_rows fdV hu hF hfs.out (fun r x h=>h.1) (fun _ _=>J)) hffl hfall (by unfold maxLen;omega) (by omega) ?_;intro v1;refine Za J (Zf J) (Ze (Zc (Zg (Zb (Za J (Zd J) (Za J (Z8 (tb J) J J) (Za J (Z8 (tb J) J J) (Wk J (ts J) (tz J) J J J J J ?_))))))));intro b3 hb3;refine Ww J (ta J) J J (Yl 0 J) J J (by unfold maxLen;omega) (by omega) ?_;intro v2;refine Za J (Zf J) (Ze (Zc (Zg (Th (p:=∃ p c',v2=.slice p (c.fields.length+2) c'∧c.fields.length+2≤c') (fun w hs=>Od hs.res.1 (by omega)) ?_))));rintro ⟨p2,c2,hv2,hc2⟩;subst hv2;refine Xt ((Asr.Imp.right (out3 _ _ _ _ _ _)).trans (r2 _ _ _ _)) (Zb (Za J (Zd J) (Za J (Zd J) (Za J (Zw J) (Za J (Zh (ff J) J) (Za J (Zj (t1 J) J (Zi 3 J J)) (Za J (Zd J) (Wk J (ts J) (tz J) J J J J J ?_))))))));intro b4 hb4;refine Ww J (ta J) J J (Yl 0 J) J J (by unfold maxLen;show 0+1≤_;omega) (by show (0+1)*_≤_;omega) ?_;intro v3;refine Za J (Zw J) (Za J (Zh (ff J) J) (Xc (p:=∃ p l c,v3=.slice p l c) (fun w hs=>Xb hs.res.1) ?_));rintro ⟨p3,l3,c3',hv3⟩;subst hv3;refine Yy (t1 J) J J 4 J J J J (Ze (Zc (Zg (Zb (Za J (Zf J) (Ze (Zc (Zg (Zg (Zb (Za J (Zf J) (Ze (Zc (Zn (WC_drop 2 ?_)))))))))))))));refine Xt (R':=lxA { lx0 with vF:=.slice p3 l3 c3',sF:=[(c.fields++fdX,.slice p2 (c.fields.length+2) c2)] }) ((Asr.cossa _ _ _).trans ((Asr.Imp.left (by have h9:=Pr (e':=22) (e:=128) (sz:=4) (cell:=fdV) (v:=.slice p3 l3 c3') (rows:=[]) (l:=c.fields++fdX) (u:=.slice p2 (c.fields.length+2) c2);rw [List.length_append,List.flatMap_append] at h9;exact h9)).trans (in3 _ _ _ _ _ _))) ?_;refine Ni 134 10 ?_;refine Yf (Yg (X:=CcL) (fun x=>[(0,pt b),(3,pt b1),(4,pt b2),(5,.slice p2 (c.fields.length+2) c2),(6,x.v),(7,iN x.i)]) _ _ (fun x=>[(b2,clV ⟨mt,mt,[],[]⟩ (.slice none 0 0) (.slice none 0 0)),(b1,clV c (.slice qf c.fields.length ef) (.slice qm c.methods.length em)),(b,x.k.C)]) (fun x=>(Y0 134 10 x.v x.i (x.ms.flatMap meC)).and (lxA x.k)) (fun x=>CcOk c (.slice p2 (c.fields.length+2) c2) x) (fun x=>c.methods.length - x.i) (⟨0,{ lx0 with vF:=.slice p3 l3 c3',sF:=[(c.fields++fdX,.slice p2 (c.fields.length+2) c2)] },.slice none 0 0,[]⟩) (⟨J,Nat.zero_le _,J,by simp,J,J,J,J,J,J,by simp [lx0],by simp [lx0]⟩) ?_) ⟨J,J,J,J,J,J,trivial⟩;intro x hI;refine Zg (Zg (Zb (Za J (Zd J) (Za J (Zh (ff J) J) (Za J (Zj (t1 J) J (Zi 1 J J)) (Za J (Zx (ts J) J) (Za J (Yi J J) (Ze (Zc (Zu J ?_ ?_))))))))))
 ·intro c1;have hxi:x.i<c.methods.length:=by omega
  have hii:=hI.i;obtain ⟨m,hi⟩:∃ p,c.methods[x.i]?=some p:=⟨_,List.getElem?_eq_getElem hxi⟩;obtain ⟨g,o,pv,cv,hv,fv,hq,hgb,hparts,hc⟩:=meOf u hms.out hi;subst hq;obtain ⟨hps,hcs,hhs,hfrs, -⟩:=hparts;obtain ⟨qh,eh,hhv,hlh, -⟩:=hhs.is;obtain ⟨qp,ep,hpv,hlp, -⟩:=hps.is;obtain ⟨qc,ec,hcv,hlc, -⟩:=hcs.is;obtain ⟨qr,er,hfv,hlr, -⟩:=hfrs.is;subst hhv;subst hpv;subst hcv;subst hfv;replace hhs:Hid _:=hhs;replace hps:Hid _:=hps;replace hcs:Hid _:=hcs;replace hfrs:Hid _:=hfrs;obtain ⟨hrT,hrI,hrH,hrR⟩:=hI.room (hii ▸ hi) hN;have hhfl:=U7 hdV 4 m.handlers (fun _ _=>rfl);have hhall:(m.handlers.flatMap hdV).all (·.oneCell')=true:=by rw [List.all_eq_true];intro x hx;obtain ⟨t,_,ht⟩:=List.mem_flatMap.1 hx;simp only [hdV,List.mem_cons,List.not_mem_nil,or_false] at ht;rcases ht with rfl | rfl | rfl | rfl<;>rfl
  refine Zo (Zc (Zg (Zn (Zg (Zb (Za J (Zh (ff J) J) (Za J (Zj (t1 J) J (Zi 1 J J)) (Za J (Zd J) (Za J (Yo (ts J) J J ?_) ?_)))))))))
  ·omega
  refine Za J (Yj (tn J) J (U6 (vs:=meV m _ _ _ _) hu hF hgb hc) J) (Yk J (tz J) ?_);intro b3 hb3;refine Z2 (tn J) J J 0 J J J J (Ze (Zc (Zg (Zb (Za J (Zf J) (Ze (Zc (Zg (Zb (Za J (Zd J) (Za J (Zh (ff J) J) (Za J (Zj (t1 J) J (Zi 0 J J)) ?_))))))))))));refine Pn J (ta J) J J (old_rows hdV hu hF hhs.out (fun r x h=>h.1) (fun _ _=>J)) hhfl hhall (by unfold maxLen;omega) (by omega) ?_;intro v4;refine Za J (Zf J) (Ze (Zc (Zg (Zb (Za J (Zd J) (Za J (Z8 (tb J) J J) (Za J (Z8 (tb J) J J) (Wk J (ts J) (tz J) J J J J J ?_))))))));intro b4 hb4;refine Ww J (ta J) J J (Yl 0 J) J J (by unfold maxLen;omega) (by omega) ?_;intro v5;refine Za J (Zf J) (Ze (Zc (Zg (Th (p:=∃ p c',v5=.slice p (m.handlers.length+2) c'∧m.handlers.length+2≤c') (fun w hs=>Od hs.res.1 (by omega)) ?_))));rintro ⟨p5,c5,hv5,hc5⟩;subst hv5;refine Xt (r5 _ _ _ _ _ _ (out5 _ _ _ _ _ _)) (Zb (Za J (Zd J) (Za J (Zd J) (Za J (Zw J) (Za J (Zh (ff J) J) (Za J (Zj (t1 J) J (Zi 4 J J)) (Za J (Zd J) (Wk J (ts J) (tz J) J J J J J ?_))))))));intro b5 hb5;refine Ww J (ta J) J J (Yl 0 J) J J (by unfold maxLen;omega) (by omega) ?_;intro v6;refine Za J (Zw J) (Za J (Zh (ff J) J) (Xc (p:=∃ p l c,v6=.slice p l c) (fun w hs=>Xb hs.res.1) ?_));rintro ⟨p6,l6,c6,hv6⟩;subst hv6;refine Yy (t1 J) J J 5 J J J J (Ze (Zc (Zg ?_)));obtain ⟨k1,hk1⟩:∃ k1:Lx,k1={ x.k with vH:=.slice p6 l6 c6,sH:=x.k.sH++[(m.handlers++hdX,.slice p5 (m.handlers.length+2) c5)] }:=⟨_,rfl⟩;refine Xt (R':=(lxA k1).and (Y0 134 10 x.v x.i (x.ms.flatMap meC))) (r6 _ _ _ _ _ _ ((Asr.Imp.left (by have h9:=Pr (e':=131) (e:=169) (sz:=4) (cell:=hdV) (v:=.slice p6 l6 c6) (rows:=x.k.sH) (l:=m.handlers++hdX) (u:=.slice p5 (m.handlers.length+2) c5);rw [List.length_append,List.flatMap_append] at h9;exact h9)).trans (by rw [hk1];exact in5 _ _ _ _ _ _))) ?_;have hCC:put x.k.C (0+4) [.slice p6 l6 c6]=k1.C:=by rw [hk1];rfl
  refine Zb (Za J (Zd J) (Za J (Zh (ff J) J) (Za J (Zj (t1 J) J (Zi 2 J J)) (Za J (Zx (ts J) J) (Za J (U4 (ts J) J J ?_) ?_)))))
  ·omega
  refine Za J (Zh (ff J) J) (Yy (t1 J) J J 2 J J J J (Ze (Zc (Zg (Zb (Za J (Zd J) (Za J (Zh (ff J) J) (Za J (Zj (t1 J) J (Zi 2 J J)) ?_))))))));refine Vx fn76 J J 5 (congrArg (fun z=>some (b,z)) hCC) hu hF (lxTyped u b k1 _ m.params hps.out (by rw [hk1];show x.k.sT.length≤_;omega)) ?_;rintro v cs' R' ⟨k2,rfl,hR2,hpre2,vT2,w2,hk2⟩;obtain ⟨a1,a2,a3,ha⟩:=hpre2.slice;subst ha;refine Zz hR2.left ?_;refine Za J (Zh (ff J) J) (Yy (t1 J) J J 2 J J J J (Ze (Zc (Zg (Zb (Za J (Zd J) (Za J (Zh (ff J) J) (Za J (Zj (t1 J) J (Zi 2 J J)) ?_))))))));refine Vx fn77 J J 5 J hu hF (lxCoded u b k2 2000000000 _ m.code hcs.out (by rw [hk2,hk1];constructor<;>simp only [List.length_append,List.length_singleton,hI.F,hI.M,List.length_nil]<;>omega) (by omega)) ?_;rintro v cs' R' ⟨k3,its,Tc,w3,rfl,hR3,hits,hpre3,hl3,hTc,vT3,vI3,hk3⟩;obtain ⟨d1,d2,d3,hd⟩:=hpre3.slice;subst hd;refine Zz hR3.left ?_;refine Za J (Zh (ff J) J) (Yy (t1 J) J J 2 J J J J (Ze (Zc (Zg (Zb (Za J (Zd J) (Za J (Zh (ff J) J) (Za J (Zj (t1 J) J (Zi 2 J J)) ?_))))))));refine Vx fn78 J J 5 J hu hF (lxFramed u b k3 2000000000 _ m.frames hfrs.out (by have h9:=congrArg List.length hTc;simp only [List.length_map] at h9;rw [hk3,hk2,hk1];constructor<;>simp only [List.length_append,List.length_singleton,hI.F,hI.M,List.length_nil]<;>omega) (by omega)) ?_;rintro v cs' R' ⟨k4,fts,Tf,w4,rfl,hR4,hfts,hpre4,hl4,hTf,vT4,vR4,hk4⟩;obtain ⟨e1,e2,e3,he⟩:=hpre4.slice;subst he;refine Zz hR4.left ?_;refine Za J (Zh (ff J) J) (Yy (t1 J) J J 2 J J J J (Ze (Zc (Zb (Za J (Zd J) (Za J (Zv (tn J) J 2 J J) (Wk J (ts J) (tz J) J J J J J ?_)))))));intro b6 hb6;refine Zz (Asr.comm _ _) ?_;refine Ww J (ta J) J J (Yl 0 J) J J (by unfold maxLen;omega) (by omega) ?_;intro v7;refine Za J (Zf J) (Ze (Zt (Zc (Zb (Za J (Zd J) ?_)))));refine Za J (Yn J J ?_) ?_;omega;refine Za J (Zf J) (Ze ?_);refine Z1 (⟨x.i+1,k4,v7,x.ms++[(m,⟨.slice a1 a2 a3,.slice d1 d2 d3,.slice p5 m.handlers.length c5,.slice e1 e2 e3,its,fts⟩)]⟩) ?_ (hI.next (hii ▸ hi) hk1 (.inr ⟨p5,c5,J,by rw [hk1];exact List.mem_append_right _ (List.mem_singleton.2 J)⟩) hk2 hpre2 hk3 hits hpre3 hl3 hTc hk4 hfts hpre4 hl4 hTf) 4 J (by simp only [List.flatMap_append];rfl) ⟨rfl,rfl,rfl,rfl,rfl,rfl,trivial⟩;show c.methods.length - (x.i+1)<c.methods.length - x.i;omega
 ·intro c1;refine Yd (Yc (Z5 (Yb (Zc (Zg ?_)))));have hle:=hI.le;have hii:=hI.i;have hil:x.i=c.methods.length:=by omega
  refine Zb (Za J (Zd J) (Za J (Z8 (tb J) J J) (Za J (Z8 (tb J) J J) (Wk J (ts J) (tz J) J J J J J ?_))));intro b3 hb3;refine Ww J (ta J) J J (Yl 0 J) J J (by unfold maxLen;omega) (by omega) ?_;intro v8;refine Za J (Zf J) (Ze (Zc (Zg (Th (p:=∃ p c',v8=.slice p (x.i+2) c'∧x.i+2≤c') (fun w hs=>Od hs.res.1 (by omega)) ?_))));rintro ⟨p8,c8,hv8,hc8⟩;subst hv8;refine Xt ((Asr.Imp.right (out4 _ _ _ _ _ _)).trans (r2 _ _ _ _)) ?_;have hsM:x.k.sM.length=0:=by rw [hI.M];rfl
  refine Zb (Za J (Zd J) (Za J (Zd J) (Za J (Zw J) (Za J (Zh (ff J) J) (Za J (Zj (t1 J) J (Zi 3 J J)) (Za J (Zd J) (Wk J (ts J) (tz J) J J J J J ?_)))))));intro b4 hb4;refine Ww J (ta J) J J (Yl 0 J) J J (by unfold maxLen;omega) (by omega) ?_;intro v9;refine Za J (Zw J) (Za J (Zh (ff J) J) (Xc (p:=∃ p l c,v9=.slice p l c) (fun w hs=>Xb hs.res.1) ?_));rintro ⟨p9,l9,c9,hv9⟩;subst hv9;refine Yy (t1 J) J J 4 J J J J (Ze (Zc (Zg (WC_heldM 3 X2 (Z4 0 J (by kernel_rfl) J (fun _ hs=>hs.drop 3) (Zh (ff J) J) ?_)))));refine Z4 1 J (by kernel_rfl) J (fun _ hs=>hs.drop 3) (Zj (t1 J) J (Zi 0 J J)) ?_;refine Z4 2 J (by kernel_rfl) J (fun _ hs=>hs.drop 3) (Zh (ff J) J) ?_;refine Z4 3 J (by kernel_rfl) J (fun _ hs=>hs.drop 3) (Zj (t1 J) J (Zi 0 J J)) ?_;refine Z4 4 J (by kernel_rfl) J (fun _ hs=>hs.drop 3) (Zd J) ?_;refine Z4 5 J (by kernel_rfl) J (fun _ hs=>hs.drop 3) (Zh (ff J) J) ?_;refine Z4 6 J (by kernel_rfl) J (fun _ hs=>hs.drop 3) (Zj (t1 J) J (Zi 0 J J)) ?_;refine Z4 7 J (by kernel_rfl) J (fun _ hs=>hs.drop 3) (Zx (ts J) J) ?_;refine Z4 8 J (by kernel_rfl) J (fun _ hs=>hs.drop 3) (U4 (ts J) J J ?_) ?_
  ·omega
  refine Z4 9 J (by kernel_rfl) J (fun _ hs=>hs.drop 3) (Zd J) ?_;refine Z4 10 J (by kernel_rfl) J (fun _ hs=>hs.drop 3) (Zh (ff J) J) ?_;refine Z4 11 J (by kernel_rfl) J (fun _ hs=>hs.drop 3) (Zj (t1 J) J (Zi 0 J J)) ?_;refine Z4 12 J (by kernel_rfl) J (fun _ hs=>hs.drop 3) (Zx (ts J) J) ?_;refine Z4 13 J (by kernel_rfl) J (fun _ hs=>hs.drop 3) (U4 (ts J) J J ?_) ?_
  ·omega
  refine Z4 14 J (by kernel_rfl) J (fun _ hs=>hs.drop 3) (Z8 (tb J) J J) ?_;refine Xh 15 (by kernel_rfl) J ?_;refine Z2 (tn J) J J 2 J J J J (Ze (Y1 (fun _ hs=>hs.drop 3) ?_));refine W8 (by kernel_rfl) ?_;refine Zc (Zr (Wp (We J (Wf (tn J) J (Yl 2 J) J)) 4 J ?_));exact ⟨{ x.k with vM:=.slice p9 l9 c9,sM:=x.k.sM++[(x.ms++meX,.slice p8 (x.i+2) c8)] },_,_,x.ms,J,J,(Asr.cossa _ _ _).trans ((Asr.Imp.left (by have h9:=Pr (e':=23) (e:=134) (sz:=10) (cell:=meC) (v:=.slice p9 l9 c9) (rows:=x.k.sM) (l:=x.ms++meX) (u:=.slice p8 (x.i+2) c8);rw [List.length_append,List.flatMap_append,← hii] at h9;exact h9)).trans (in4 _ _ _ _ _ _)),hI.fin (by omega) _ _,.inr ⟨p2,c2,J,by show _ ∈ x.k.sF;rw [hI.F];exact List.mem_singleton.2 J⟩,by have h9:=hI.ms;rw [← hii,hil,List.take_length] at h9;exact h9,.inr ⟨p8,c8,by rw [← hii,hil],by show (_,Value.slice p8 (x.ms.length+2) c8) ∈ _;rw [← hii];exact List.mem_append_right _ (List.mem_singleton.2 J)⟩⟩
end
end Go.Proofs.YtpofmnfkdkmieaaGreat
