/- What is proved here: the document's own Checker: what stands  -/
import Derived.Test.YtpofmnfkdkmieaaGreatQ27
import Derived.Test.YtpofmnfkdkmieaaGreatQ14
set_option linter.unusedVariables false
set_option linter.unusedSimpArgs false
namespace Go.Proofs.YtpofmnfkdkmieaaGreat
section
open Go Go.RowKit At E
def Qk (s:ByteArray):ByteArray:=(Vg s).getD mt
def aboveV (s:ByteArray):Value:=.tuple #[.string (Qk s),.bool (Vg s).isSome]
theorem above_no {s:ByteArray} (h0:¬ s=obS) (h1:¬ s=thS) (h2:¬ s=erS) (h3:otherS.any (fun x=>decide (s=x))=false):aboveV s=.tuple #[.string mt,.bool false]:=by
 unfold aboveV Qk Vg;rw [if_neg h0,if_neg h1,if_neg h2,h3];rfl
set_option maxHeartbeats 2000000 in
theorem refAbove_any (s:ByteArray) (w:World):Vc Tryz.prog 269 #[.string s] w (aboveV s):=by
 refine Xf (args:=[.string s]) Tryz.func269 J Tryz.ntmps269 ?_;refine Zg (Zb (Za J (Zf J) (Za J (Zf J) (Ze (Zc (Zg (Zg (Zb (Za J (Zd J) (Ze (Zc (Zn (Zg (Zb (Za J (Y7 J J) (Za J (Zf J) (Ze (Zc (Zu J ?_ ?_)))))))))))))))))))
 ·intro c1;refine Zg (Zb (Za J (Zf J) (Za J (Zf J) (Ze (Zc (Zr (Zl (Zl (Wy J J J ?_)))))))))
  subst_vars;rfl
 ·intro c1;refine Zg (Zb (Za J (Y7 J J) (Za J (Zf J) (Ze (Zc (Zu J ?_ ?_))))))
  ·intro c2;refine Zg (Zb (Za J (Zf J) (Za J (Zf J) (Ze (Zc (Zr (Zl (Zl (Wy J J J ?_)))))))))
   subst_vars;rfl
  ·intro c2;refine Zg (Zb (Za J (Y7 J J) (Za J (Zf J) (Ze (Zc (Zu J ?_ ?_))))))
   ·intro c3;refine Zg (Zb (Za J (Zf J) (Za J (Zf J) (Ze (Zc (Zr (Zl (Zl (Wy J J J ?_)))))))))
    subst_vars;rfl
   ·intro c3;refine Zg (Zg (Zb (Za J (Y7 J J) (Za J (Zf J) (Ze (Zc (Zu J ?_ ?_)))))))
    ·intro c4;refine Zo (Zc (Yh J (Zg (Zb (Za J (Zf J) (Za J (Zf J) (Ze (Zc (Zr (Zl (Zl (Wy J J J ?_))))))))))))
     subst_vars;rfl
    ·intro c4;refine Zg (Zb (Za J (Y7 J J) (Za J (Zf J) (Ze (Zc (Zu J ?_ ?_))))))
     ·intro c5;refine Zo (Zc (Yh J (Zg (Zb (Za J (Zf J) (Za J (Zf J) (Ze (Zc (Zr (Zl (Zl (Wy J J J ?_))))))))))))
      subst_vars;rfl
     ·intro c5;refine Zg (Zb (Za J (Y7 J J) (Za J (Zf J) (Ze (Zc (Zu J ?_ ?_))))))
      ·intro c6;refine Zo (Zc (Yh J (Zg (Zb (Za J (Zf J) (Za J (Zf J) (Ze (Zc (Zr (Zl (Zl (Wy J J J ?_))))))))))))
       subst_vars;rfl
      ·intro c6;refine Zg (Zb (Za J (Y7 J J) (Za J (Zf J) (Ze (Zc (Zu J ?_ ?_))))))
       ·intro c7;refine Zo (Zc (Yh J (Zg (Zb (Za J (Zf J) (Za J (Zf J) (Ze (Zc (Zr (Zl (Zl (Wy J J J ?_))))))))))))
        subst_vars;rfl
       ·intro c7;refine Zg (Zb (Za J (Y7 J J) (Za J (Zf J) (Ze (Zc (Zu J ?_ ?_))))))
        ·intro c8;refine Zo (Zc (Yh J (Zg (Zb (Za J (Zf J) (Za J (Zf J) (Ze (Zc (Zr (Zl (Zl (Wy J J J ?_))))))))))))
         subst_vars;rfl
        ·intro c8;refine Zg (Zb (Za J (Y7 J J) (Za J (Zf J) (Ze (Zc (Zu J ?_ ?_))))))
         ·intro c9;refine Zo (Zc (Yh J (Zg (Zb (Za J (Zf J) (Za J (Zf J) (Ze (Zc (Zr (Zl (Zl (Wy J J J ?_))))))))))))
          subst_vars;rfl
         ·intro c9;refine Zg (Zb (Za J (Y7 J J) (Za J (Zf J) (Ze (Zc (Zu J ?_ ?_))))))
          ·intro c10;refine Zo (Zc (Yh J (Zg (Zb (Za J (Zf J) (Za J (Zf J) (Ze (Zc (Zr (Zl (Zl (Wy J J J ?_))))))))))))
           subst_vars;rfl
          ·intro c10;refine Zg (Zb (Za J (Y7 J J) (Za J (Zf J) (Ze (Zc (Zu J ?_ ?_))))))
           ·intro c11;refine Zo (Zc (Yh J (Zg (Zb (Za J (Zf J) (Za J (Zf J) (Ze (Zc (Zr (Zl (Zl (Wy J J J ?_))))))))))))
            subst_vars;rfl
           ·intro c11;refine Zg (Zb (Za J (Y7 J J) (Za J (Zf J) (Ze (Zc (Zu J ?_ ?_))))))
            ·intro c12;refine Zo (Zc (Yh J (Zg (Zb (Za J (Zf J) (Za J (Zf J) (Ze (Zc (Zr (Zl (Zl (Wy J J J ?_))))))))))))
             subst_vars;rfl
            ·intro c12;refine Zg (Zb (Za J (Y7 J J) (Za J (Zf J) (Ze (Zc (Zu J ?_ ?_))))))
             ·intro c13;refine Zo (Zc (Yh J (Zg (Zb (Za J (Zf J) (Za J (Zf J) (Ze (Zc (Zr (Zl (Zl (Wy J J J ?_))))))))))))
              subst_vars;rfl
             ·intro c13;refine Zg (Zb (Za J (Y7 J J) (Za J (Zf J) (Ze (Zc (Zu J ?_ ?_))))))
              ·intro c14;refine Zo (Zc (Yh J (Zg (Zb (Za J (Zf J) (Za J (Zf J) (Ze (Zc (Zr (Zl (Zl (Wy J J J ?_))))))))))))
               subst_vars;rfl
              ·intro c14;refine Zg (Zb (Za J (Y7 J J) (Za J (Zf J) (Ze (Zc (Zu J ?_ ?_))))))
               ·intro c15;refine Zo (Zc (Yh J (Zg (Zb (Za J (Zf J) (Za J (Zf J) (Ze (Zc (Zr (Zl (Zl (Wy J J J ?_))))))))))))
                subst_vars;rfl
               ·intro c15;refine Zg (Zb (Za J (Y7 J J) (Za J (Zf J) (Ze (Zc (Zu J ?_ ?_))))))
                ·intro c16;refine Zo (Zc (Yh J (Zg (Zb (Za J (Zf J) (Za J (Zf J) (Ze (Zc (Zr (Zl (Zl (Wy J J J ?_))))))))))))
                 subst_vars;rfl
                ·intro c16;refine Zb (Za J (Y7 J J) (Za J (Zf J) (Ze (Zc (Zu J ?_ ?_)))))
                 ·intro c17;refine Zg (Zb (Za J (Zf J) (Za J (Zf J) (Ze (Zc (Zr (Zl (Zl (Wy J J J ?_)))))))))
                  subst_vars;rfl
                 ·intro c17;refine Zo (Zt (Zc (Zg (Zb (Za J (Zf J) (Za J (Zf J) (Ze (Zc (Zr (Wy J J J ?_))))))))));exact (above_no (by assumption) (by assumption) (by assumption) (by simp only [otherS,List.any_cons,List.any_nil,Bool.or_false,Bool.or_eq_false_iff,decide_eq_false_iff_not];refine ⟨?_,?_,?_,?_,?_,?_,?_,?_,?_,?_,?_,?_,?_,?_⟩<;>assumption)).symm
theorem Vh (u:World) (b:Nat) (x:CkX) (k:CkM) (is:Bool) :
  RuP Tryz.prog 171 #[pt b,.bool is] u b (ckC x k) (ckA u k) (fun v cs' R'=>v=.tuple #[]∧cs'=ckC x { k with bad:=k.bad || !is }∧R'.Imp (ckA u k)):=by
 intro w hu hF hs0;refine Yz (hs0) (args:=[pt b,.bool is]) Tryz.func171 J Tryz.ntmps171 ?_;refine Zb (Za J (Zd J) (Za J (Zd J) (Za J (Zw J) (Za J (Zh (ff J) J) (Za J (Zj (t1 J) J (Zi 0 J J)) (Za J (Zd J) (Ub J J J ?_ ?_)))))))
 ·intro h1;refine Zm J J J (Zm J J J (Za J (Zp J J) (Za J (Zw J) (Za J (Zh (ff J) J) (Yy (t1 J) J J 0 J J J J (Ze (Xa J 0 J ?_)))))));exact ⟨J,by simp only [h1];rfl,.refl _⟩
 ·intro h1;refine Zk J J J (Zd J) (Zk J J J (Xv J) (Za J (Zs J J) (Za J (Zw J) (Za J (Zh (ff J) J) (Yy (t1 J) J J 0 J J J J (Ze (Xa J 0 J ?_)))))));exact ⟨J,by simp only [h1];rfl,.refl _⟩
def okPop (u:World) (x:CkX) (k:CkM):Value→List Value→Asr→Prop:=fun v cs' R' =>
 ∃ t k',v=.agg (tyV t).toArray∧cs'=ckC x k'∧R'.Imp (ckA u k')∧CkOk x k'∧k'.gr=k.gr∧k'.lo=k.lo∧k'.st.length≤k.st.length∧Rz t∧(sem k).bind V9=(sem k').map fun s=>(t,s)
theorem pop_none {s:St} (h:s.st=[]):V9 s=none:=by unfold V9;rw [h];rfl
theorem pop_some {s:St} {t:Ty} {n:Nat} (hn:s.st.length=n+1) (h:s.st[n]?=some t):V9 s=some (t,{ s with st:=s.st.take n }):=by
 unfold V9;rw [List.getLast?_eq_getElem?,hn,Nat.add_sub_cancel,h,List.dropLast_eq_take,hn,Nat.add_sub_cancel]
theorem ckpop_imp {u:World} {gr lo st gv lv lb p c sb al bd} (n:Nat) (hn:n≤st.length):(ckA u ⟨gr,gv,lo,lv,lb,st,.slice p st.length c,sb,al,bd⟩).Imp (ckA u ⟨gr,gv,lo,lv,lb,st.take n,.slice p n c,sb,al,bd⟩) :=
 Asr.Imp.right (Asr.Imp.right (roA_map fun _ h=>Yu.cut h n hn))
theorem pop1 {gr lo st gv lv lb sv sb al bd} (h:((st:List Ty).length:Int)=0):(sem ⟨gr,gv,lo,lv,lb,st,sv,sb,al,bd⟩).bind V9=none:=by
 have:st=[]:=List.eq_nil_of_length_eq_zero (by omega);cases bd
 ·exact pop_none this
 ·rfl
theorem pop2 {gr lo st gv lv lb sv sv' sb al bd} {t:Ty} (h0:¬ ((st:List Ty).length:Int)=0) (hi:st[st.length - 1]?=some t):(sem ⟨gr,gv,lo,lv,lb,st,sv,sb,al,bd⟩).bind V9=(sem ⟨gr,gv,lo,lv,lb,st.take (st.length - 1),sv',sb,al,bd⟩).map fun s=>(t,s):=by
 cases bd
 ·exact pop_some (n:=st.length - 1) (by show st.length=_;omega) hi
 ·rfl
theorem pop3 {x:CkX} {gr lo st gv lv lb sv sv' sb al bd} (hk:CkOk x ⟨gr,gv,lo,lv,lb,st,sv,sb,al,bd⟩) (n:Nat):CkOk x ⟨gr,gv,lo,lv,lb,st.take n,sv',sb,al,bd⟩:=by
 refine ⟨hk.lo,hk.srt,fun s hs=>?_⟩;cases bd
 ·have h1:=hk.ok _ rfl;cases hs;refine ⟨?_,fun t ht=>h1.st t (List.mem_of_mem_take ht),h1.lo⟩;have h2:=h1.len;dsimp only at h2 ⊢;rw [List.length_take];omega
 ·cases hs
theorem M0 (u:World) (b:Nat) (x:CkX) (k:CkM) (hk:CkOk x k) :
  RuP Tryz.prog 273 #[pt b] u b (ckC x k) (ckA u k) (okPop u x k):=by
 intro w hu hF hs0;obtain ⟨gr,gv,lo,lv,lb,st,sv,sb,al,bd⟩:=k;have hT:Yu w sv st:=Sy hs0.res.2.1.2.1 hu;obtain ⟨p,c,rfl,⟨hl1,hl2⟩,hps⟩:=hT.shape;have hok:=hT.ok;replace hps:Hid _:=hps;replace hok:Hid _:=hok;replace hk:Hid _:=hk;clear hT;refine Yz (hs0) (args:=[pt b]) Tryz.func273 J Tryz.ntmps273 ?_;refine Zg (Zb (Yk J (tz J) ?_));intro b1 hb1;refine Ze (Zc (Zg (Zb (Za J (Zd J) (Za J (Zw J) (Za J (Zh (ff J) J) (Za J (Zj (t1 J) J (Zi 1 J J)) (Za J (Zx (ts J) J) (Za J (Zf J) (Ze (Zc (Zg (Zg (Zb (Za J (Zd J) (Za J (Ya J J) (Ze (Zc (Zu J ?_ ?_)))))))))))))))))))
 ·intro c1;refine Zg (Zb (Za J (Zd J) (Za J (Zw J) (Za J (Zh (ff J) J) (Yy (t1 J) J J 1 J J J J (Ze (Zc (Zg (Zb (Za J (Z8 (tb J) J J) (Z2 (tn J) J J 0 J J J J (Ze (Zc (Zr (Zl (Wp (We J (Wf (tn J) J (Yl 0 J) J)) 1 J ?_))))))))))))))));exact ⟨⟨0,mt⟩,⟨gr,gv,lo,lv,lb,st,.slice p st.length c,sb,al,true⟩,J,J,.refl _,⟨hk.out.lo,hk.out.srt,fun s hs=>by cases hs⟩,J,J,Nat.le_refl _,⟨by unfold Wc;decide,by unfold X5 At.mt;decide⟩,pop1 c1⟩
 ·intro c1;obtain ⟨g,o,hgo⟩:=hps.out (by omega);subst hgo;obtain ⟨t,hi⟩:∃ t,st[st.length - 1]?=some t:=⟨_,List.getElem?_eq_getElem (by omega)⟩;refine Zo (Zc (Zg (Zb (Za J (Zd J) (Za J (Zw J) (Za J (Zh (ff J) J) (Za J (Zj (t1 J) J (Zi 1 J J)) (Za J (Zd J) ?_))))))));refine Za J (Q0 J J ?_) ?_;omega;refine Wt (s:=21) (v':=.int .i64 ((st.length - 1:Nat):Int)) J (congrArg (Value.int .i64) (by omega)) ?_;refine Za J (Yo (ts J) J J ?_) ?_
  ·omega
  refine Za J (Yj (tn J) J (R6 (u:=u) (fun w hs=>Sy hs.res.2.1.2.1 (Xp hu hF hs)) hi) J) ?_;refine Yk J (tz J) ?_;intro b2 hb2;refine Z2 (tn J) J J 0 J J J J (Ze (Zc (Zg (Zb (Za J (Zd J) (Za J (Zd J) (Za J (Zw J) (Za J (Zh (ff J) J) (Za J (Zj (t1 J) J (Zi 2 J J)) (Za J (Zd J) ?_))))))))));refine Za J (Q0 J J ?_) ?_;omega;refine Wt (s:=30) (v':=.int .i64 ((st.length - 1:Nat):Int)) J (congrArg (Value.int .i64) (by omega)) ?_;refine Za J (U4 (ts J) J J ?_) ?_
  ·omega
  refine Za J (Zw J) (Za J (Zh (ff J) J) (Yy (t1 J) J J 2 J J J J (Ze (Zc (Zg (Zb (Za J (Zv (tn J) J 0 J J) (Z2 (tn J) J J 1 J J J J (Ze (Zc (Zr (Wp (We J (Wf (tn J) J (Yl 1 J) J)) 2 J ?_))))))))))));exact ⟨t,⟨gr,gv,lo,lv,lb,st.take (st.length - 1),.slice (some ⟨g,o,none⟩) (st.length - 1) c,sb,al,bd⟩,J,J,ckpop_imp (st.length - 1) (by omega),pop3 hk.out _,J,J,by show (st.take (st.length - 1)).length≤st.length;rw [List.length_take];omega,hok.out t (List.mem_of_getElem? hi),pop2 c1 hi⟩
theorem ltB_1 {a b:Bl} (h:ltS a.cls b.cls=true):ltB a b=true:=by unfold ltB;rw [h];rfl
theorem ltB_2 {a b:Bl} (h:a.cls=b.cls) (k:ltS a.above b.above=true):ltB a b=true:=by unfold ltB;rw [k,decide_eq_true h];simp
theorem ltB_3 {a b:Bl} (h:ltS a.cls b.cls=false) (k:¬ a.cls=b.cls):ltB a b=false:=by unfold ltB;rw [h,decide_eq_false k];rfl
theorem ltB_4 {a b:Bl} (h:ltS a.cls b.cls=false) (k:ltS a.above b.above=false):ltB a b=false:=by unfold ltB;rw [h,k];simp
theorem eqBl {a b:Bl} (h:(eqS a.cls b.cls&&eqS a.above b.above)=true):a=b:=by
 rw [Bool.and_eq_true] at h;exact Bl.ext' (of_decide_eq_true h.1) (of_decide_eq_true h.2)
theorem eqBl_ne {a b:Bl} (h:(eqS a.cls b.cls&&eqS a.above b.above)=false):a≠b:=by
 intro e;subst e;simp [eqS] at h
def gAt (l:List Bl) (i:Nat):Bl:=(l[i]?).getD ⟨mt,mt⟩
theorem Q8 {l:List Bl} {i:Nat} (h:i<l.length):l[i]?=some (gAt l i):=by unfold gAt;rw [List.getElem?_eq_getElem h];rfl
theorem blV_all (l:List Bl):(l.flatMap blV).all (·.oneCell')=true:=by
 rw [List.all_eq_true];intro x hx;obtain ⟨t,_,ht⟩:=List.mem_flatMap.1 hx;simp only [blV,List.mem_cons,List.not_mem_nil,or_false] at ht;rcases ht with rfl | rfl<;>rfl
theorem blV_len (l:List Bl):(l.flatMap blV).length=l.length*2:=U7 blV 2 l (fun _ _=>rfl)
theorem row_part {β:Type} {cell:β→List Value} {w0:World} {F:List Nat} {H:Hp} {R:Asr} {e sz n cap g:Nat} {l:List β} (i m:Nat) (h:∀ w,Sat w0 F H R w→w.ownsRow 0 e sz (.slice (some ⟨g,0,none⟩) n cap) n (l.flatMap cell)) (hk:∀ x ∈ l,(cell x).length=sz):Row w0 F H R g (0+i*sz) (((l.drop i).take m).flatMap cell) :=
 ⟨fun w hs j v hj=>by
  have hlt:j<(((l.drop i).take m).flatMap cell).length:=by
   rcases Nat.lt_or_ge j (((l.drop i).take m).flatMap cell).length with h' | h'
   ·exact h'
   ·rw [List.getElem?_eq_none h'] at hj;cases hj
  have key:(l.flatMap cell)[i*sz+j]?=some v:=by
   have e1:l.flatMap cell=(l.take i).flatMap cell++(((l.drop i).take m).flatMap cell++((l.drop i).drop m).flatMap cell):=by
    rw [← List.flatMap_append,← List.flatMap_append,List.take_append_drop,List.take_append_drop]
   have hsub:∀ x ∈ l.take i,(cell x).length=sz:=fun x hx=>hk x (List.mem_of_mem_take hx);have e2:((l.take i).flatMap cell).length=(min i l.length)*sz:=by rw [U7 cell sz _ hsub,List.length_take]
   by_cases hil:i≤l.length
   ·rw [e1,List.getElem?_append_right (by rw [e2,Nat.min_eq_left hil];omega),e2,Nat.min_eq_left hil,Nat.add_sub_cancel_left,List.getElem?_append_left hlt];exact hj
   ·rw [List.drop_of_length_le (by omega)] at hlt;simp at hlt
  have h1:=(h w hs).cells (g:=g) rfl (i*sz+j) v key;rw [Addr.add_lit,Nat.zero_add] at h1;rw [Nat.zero_add];exact h1⟩
theorem row_front {w0:World} {F:List Nat} {H:Hp} {R:Asr} {n cap g:Nat} {l:List Bl} (m:Nat) (h:∀ w,Sat w0 F H R w→w.ownsRow 0 136 2 (.slice (some ⟨g,0,none⟩) n cap) n (l.flatMap blV)):Row w0 F H R g 0 ((l.take m).flatMap blV):=by
 have:=row_part (cell:=blV) 0 m h (fun _ _=>rfl)
 rwa [List.drop_zero] at this
theorem row_back {w0:World} {F:List Nat} {H:Hp} {R:Asr} {n cap g:Nat} {l:List Bl} (i:Nat) (h:∀ w,Sat w0 F H R w→w.ownsRow 0 136 2 (.slice (some ⟨g,0,none⟩) n cap) n (l.flatMap blV)):Row w0 F H R g (0+i*2) ((l.drop i).flatMap blV):=by
 have:=row_part (cell:=blV) i (l.length - i) h (fun _ _=>rfl)
 rwa [List.take_of_length_le (by rw [List.length_drop];omega)] at this
theorem ptr_back {c j:Nat} {g:Nat} (h:¬ c=j):(if c=j then (some (⟨g,0,none⟩:Addr)) else (some (⟨g,0,none⟩:Addr)).map (·.add (j*2)))=some ⟨g,0+j*2,none⟩:=by
 rw [if_neg h,Option.map_some,Addr.add_lit]
def okG (u:World) (x:CkX) (k:CkM) (bl:Bl):Value→List Value→Asr→Prop:=fun v cs' R' =>
 v=.tuple #[]∧∃ gr' gv',cs'=ckC x { k with gr:=gr',gv:=gv' }∧R'.Imp (ckA u { k with gr:=gr',gv:=gv' })∧Srt gr'∧gr'.length≤k.gr.length+1∧∀ y,y ∈ gr'↔y ∈ k.gr∨y=bl
theorem grants_end {u:World} {x:CkX} {gr:List Bl} {gv lo lv lb st sv sb al bd} {bl:Bl} {j:Nat} {v:Value} {R:Asr} (hj:j≤gr.length) (hs:Srt gr) (h1:∀ (i:Nat) y,i<j→gr[i]?=some y→ltB y bl=true) (h2:j<gr.length→ltB (gAt gr j) bl=false) (h3:j<gr.length→gAt gr j≠bl)
  (hR:R=(Y0 136 2 v (j+1+(gr.length - j)) ((gr.take j).flatMap blV++blV bl++(gr.drop j).flatMap blV)).and (ckA u ⟨gr,gv,lo,lv,lb,st,sv,sb,al,bd⟩)) :
  okG u x ⟨gr,gv,lo,lv,lb,st,sv,sb,al,bd⟩ bl (.tuple #[]) (ckC x ⟨gr,v,lo,lv,lb,st,sv,sb,al,bd⟩) R:=by
 subst hR;refine ⟨J,gr.take j++bl::gr.drop j,v,J,?_,srt_ins hs hj h1 (fun y hy=>?_),?_,fun y=>ins_mem j⟩
 ·have e1:(gr.take j++bl::gr.drop j).length=j+1+(gr.length - j):=by simp only [List.length_append,List.length_take,List.length_cons,List.length_drop];omega
  have e2:(gr.take j++bl::gr.drop j).flatMap blV=(gr.take j).flatMap blV++blV bl++(gr.drop j).flatMap blV:=by rw [List.flatMap_append,List.flatMap_cons,List.append_assoc]
  show Asr.Imp _ ((Y0 136 2 v (gr.take j++bl::gr.drop j).length _).and _);rw [e1,e2];exact Asr.Imp.right (Asr.snd _ _)
 ·have hlt:=Wa hy;rw [Q8 hlt] at hy;cases hy;exact ⟨h2 hlt,h3 hlt⟩
 ·show (gr.take j++bl::gr.drop j).length≤gr.length+1;simp only [List.length_append,List.length_take,List.length_cons,List.length_drop];omega
theorem grants_any (u:World) (b:Nat) (x:CkX) (k:CkM) (bl:Bl) (hsr:Srt k.gr) (hn:k.gr.length≤4000000) :
  RuP Tryz.prog 270 #[pt b,.agg (blV bl).toArray] u b (ckC x k) (ckA u k) (okG u x k bl):=by
 intro w hu hF hs0;obtain ⟨gr,gv,lo,lv,lb,st,sv,sb,al,bd⟩:=k;have hown:w.ownsRow 0 136 2 gv gr.length (gr.flatMap blV):=hs0.res.1;obtain ⟨p,c,rfl,hp⟩:=Xr hown
 have hcap:gr.length≤c:=by
  rcases Nat.eq_zero_or_pos gr.length with h | h
  ·omega
  ·obtain ⟨p',c',e,h'⟩:=Od hown h;cases e;exact h'
 clear hown;replace hn:gr.length≤4000000:=hn;replace hsr:Srt gr:=hsr;replace hp:Hid _:=hp;replace hsr:Hid _:=hsr;refine Yz (hs0) (args:=[pt b,.agg (blV bl).toArray]) Tryz.func270 J Tryz.ntmps270 ?_;refine Zg (Zb (Y2 J J ?_));intro b1 hb1;refine Ze (Zc (Zg (Zb (Za J (Zf J) (Ze (Zc (Sg (Y:=Nat) (fun j:Nat=>[(0,pt b),(3,pt b1),(4,iN j)]) (fun j:Nat=>[(b1,blV bl),(b,ckC x ⟨gr,.slice p gr.length c,lo,lv,lb,st,sv,sb,al,bd⟩)]) (fun j:Nat=>ckA u ⟨gr,.slice p gr.length c,lo,lv,lb,st,sv,sb,al,bd⟩) (fun j:Nat=>j≤gr.length∧Hid (∀ (i:Nat) y,i<j→gr[i]?=some y→ltB y bl=true)∧Hid (j<gr.length→ltB (gAt gr j) bl=false)) ?_ ?_)))))))
 ·skip
  refine Zn ?_;refine Yf (Yg (X:=Nat) (fun i=>[(0,pt b),(3,pt b1),(4,iN i)]) _ _ (fun i=>[(b1,blV bl),(b,ckC x ⟨gr,.slice p gr.length c,lo,lv,lb,st,sv,sb,al,bd⟩)]) (fun i=>ckA u ⟨gr,.slice p gr.length c,lo,lv,lb,st,sv,sb,al,bd⟩) (fun i=>i≤gr.length∧Hid (∀ (j:Nat) y,j<i→gr[j]?=some y→ltB y bl=true)) (fun i=>gr.length - i) (0) (⟨Nat.zero_le _,fun j y hj=>by omega⟩) ?_) ⟨J,J,J,trivial⟩;intro i hI;refine Zg (Zg (Ws X2 (by kernel_rfl) ?_));refine Zq J (Zd J) (Zq J (Zd J) (Zq J (Zw J) (Zq J (Zh (ff J) J) (Zq J (Zj (t1 J) J (Zi 1 J J)) (Zq J (Zx (ts J) J) (Zq J (Yi J J) (Zq J (Zd J) (Tz J J ?_ ?_))))))))
  ·intro h1;replace h1:=dTr h1;try (obtain ⟨g,hg⟩:=hp.out (by omega);subst hg)
   refine Z0 J J J (Zd J) (Z0 J J J (Zw J) (Z0 J J J (Zh (ff J) J) (Z0 J J J (Zj (t1 J) J (Zi 1 J J)) (Z0 J J J (Zd J) (Z0 J J J (Yo (ts J) J J ?_) ?_)))))
   ·omega
   refine Z0 J J J (Zh (ff J) J) (Z0 J J J (Zj (t1 J) J (cell_own (cell:=blV) (j:=0) (l:=gr) (i:=i) (fun w hs=>hs.res.1) (fun _ _=>J) (Q8 (by omega)) J J)) ?_);refine Z0 J J J (Zh (ff J) J) (Z0 J J J (Zj (t1 J) J (Zi 0 J J)) (Z0 J J J (Ex_lssS J J) (Z0 J J J (Zd J) (Tz J J ?_ ?_))))
   ·intro h2;try (obtain ⟨g,hg⟩:=hp.out (by omega);subst hg)
    refine Yp J J J (Yp J J J (Yp J J J (Yp J J J (Yp J J J (Yp J J J (Yp J J J (Yp J J J (Yp J J J (Yp J J J (Yp J J J (Yp J J J (Xz J J J (Xz J J J (Xz J J J (Xz J J J (Xz J J J (Xz J J J (Xz J J J (Xz J J J (Xz J J J (Xz J J J (Xz J J J (Yp J J J (Z0 J J J (Zp J J) (Zq J (Zp J J) (Wi (Zc (Yh J (Zo ?_)))))))))))))))))))))))))))));refine Zc (Zn (Zb (Za J (Zd J) ?_)));refine Za J (Yn J J ?_) ?_;omega;refine Za J (Zf J) (Ze (Zt ?_));refine Z1 (i+1) ?_ (⟨by omega,fun j y hj hy=>by rcases Nat.lt_or_ge j i with h | h;exact hI.2.out j y h hy;(have e:j=i:=by omega);subst e;rw [Q8 (l:=gr) (by omega)] at hy;cases hy;exact ltB_1 h2⟩) 0 J (J) ⟨J,J,J,trivial⟩;omega
   ·intro h2;refine Z0 J J J (Zd J) (Z0 J J J (Zw J) (Z0 J J J (Zh (ff J) J) (Z0 J J J (Zj (t1 J) J (Zi 1 J J)) (Z0 J J J (Zd J) (Z0 J J J (Yo (ts J) J J ?_) ?_)))))
    ·omega
    refine Z0 J J J (Zh (ff J) J) (Z0 J J J (Zj (t1 J) J (cell_own (cell:=blV) (j:=0) (l:=gr) (i:=i) (fun w hs=>hs.res.1) (fun _ _=>J) (Q8 (by omega)) J J)) ?_);refine Z0 J J J (Zh (ff J) J) (Z0 J J J (Zj (t1 J) J (Zi 0 J J)) (Z0 J J J (Y7 J J) (Z0 J J J (Zd J) (Tz J J ?_ ?_))))
    ·intro h3;replace h3:=dTr h3;try (obtain ⟨g,hg⟩:=hp.out (by omega);subst hg)
     refine Z0 J J J (Zd J) (Z0 J J J (Zw J) (Z0 J J J (Zh (ff J) J) (Z0 J J J (Zj (t1 J) J (Zi 1 J J)) (Z0 J J J (Zd J) (Z0 J J J (Yo (ts J) J J ?_) ?_)))))
     ·omega
     refine Z0 J J J (Zh (ff J) J) (Z0 J J J (Zj (t1 J) J (cell_own (cell:=blV) (j:=1) (l:=gr) (i:=i) (fun w hs=>hs.res.1) (fun _ _=>J) (Q8 (by omega)) J J)) ?_);refine Z0 J J J (Zh (ff J) J) (Z0 J J J (Zj (t1 J) J (Zi 0 J J)) (Z0 J J J (Ex_lssS J J) (Z0 J J J (Zp J J) (Z0 J J J (Zs J J) (Zq J (Zp J J) (Wi (Zc (W4 J ?_ ?_))))))))
     ·intro c1;refine Zo (Zc (Zn (Zb (Za J (Zd J) ?_))));refine Za J (Yn J J ?_) ?_;omega;refine Za J (Zf J) (Ze (Zt ?_));refine Z1 (i+1) ?_ (⟨by omega,fun j y hj hy=>by rcases Nat.lt_or_ge j i with h | h;exact hI.2.out j y h hy;(have e:j=i:=by omega);subst e;rw [Q8 (l:=gr) (by omega)] at hy;cases hy;exact ltB_2 h3 c1⟩) 0 J (J) ⟨J,J,J,trivial⟩;omega
     ·intro c1;refine Yd (Yc (Z5 (Yb (Wj i 0 J J ⟨J,J,J,trivial⟩ ?_))));exact ⟨hI.1,hI.2,fun hlt=>by exact ltB_4 h2 c1⟩
    ·intro h3;replace h3:=dFa h3;refine Yp J J J (Yp J J J (Yp J J J (Yp J J J (Yp J J J (Yp J J J (Yp J J J (Yp J J J (Yp J J J (Yp J J J (Yp J J J (Z0 J J J (Zs J J) (Z0 J J J (Zs J J) (Zq J (Zp J J) (Wi (Zc (Xn J (Yd (Yc (Z5 (Yb (Wj i 0 J J ⟨J,J,J,trivial⟩ ?_)))))))))))))))))))));exact ⟨hI.1,hI.2,fun hlt=>by exact ltB_3 h2 h3⟩
  ·intro h1;replace h1:=dFa h1;refine Yp J J J (Yp J J J (Yp J J J (Yp J J J (Yp J J J (Yp J J J (Yp J J J (Yp J J J (Yp J J J (Yp J J J (Yp J J J (Yp J J J (Xz J J J (Xz J J J (Xz J J J (Xz J J J (Xz J J J (Xz J J J (Xz J J J (Xz J J J (Xz J J J (Xz J J J (Xz J J J (Xz J J J (Xz J J J (Xz J J J (Xz J J J (Xz J J J (Xz J J J (Xz J J J ?_)))))))))))))))))))))))))))));refine Xz J J J (Xz J J J (Xz J J J (Xz J J J (Xz J J J (Xz J J J (Yp J J J (Zq J (Zs J J) (Wi (Zc (Xn J (Yd (Yc (Z5 (Yb (Wj i 0 J J ⟨J,J,J,trivial⟩ ?_)))))))))))))));exact ⟨hI.1,hI.2,fun hlt=>by (exfalso;omega)⟩
 intro j hJ;obtain ⟨hj1,hj2,hj3⟩:=hJ;refine Zg (Zg (Ws X2 (by kernel_rfl) ?_));refine Zq J (Zd J) (Zq J (Zd J) (Zq J (Zw J) (Zq J (Zh (ff J) J) (Zq J (Zj (t1 J) J (Zi 1 J J)) (Zq J (Zx (ts J) J) (Zq J (Yi J J) (Zq J (Zd J) (Tz J J ?_ ?_))))))))
 ·intro h4;replace h4:=dTr h4;try (obtain ⟨g,hg⟩:=hp.out (by omega);subst hg)
  refine Z0 J J J (Zd J) (Z0 J J J (Zw J) (Z0 J J J (Zh (ff J) J) (Z0 J J J (Zj (t1 J) J (Zi 1 J J)) (Z0 J J J (Zd J) (Z0 J J J (Yo (ts J) J J ?_) ?_)))))
  ·omega
  refine Z0 J J J (Yj (tn J) J (Mw (cell:=blV) (l:=gr) (i:=j) (fun w hs=>hs.res.1) (fun _ _=>J) (Q8 (by omega))) J) ?_;refine Z0 J J J (Zv (tn J) J 0 J J) (Z0 J J J (Ex_eqlBl J J) (Zq J (Zp J J) (Wi (Zc (W4 J ?_ ?_)))))
  ·intro c2;refine Zr (Zl (Rk_end0r J 1 J ?_));exact ⟨J,gr,_,J,.refl _,hsr.out,Nat.le_succ _,fun y=>⟨.inl,fun h=>h.elim id (fun e=>by rw [e,← eqBl c2];exact List.mem_of_getElem? (Q8 (by omega)))⟩⟩
  ·intro c2;have hne:j<gr.length→gAt gr j≠bl:=by exact fun _=>eqBl_ne c2
   refine Zo (Zc (Zg (Zb (Za J (Zf J) (Ze (Zc (Zg (Zb (Za J (Zd J) (Za J (Zd J) (Za J (Zw J) (Za J (Zh (ff J) J) (Za J (Zj (t1 J) J (Zi 1 J J)) (Za J (Zd J) (Za J (U4 (ts J) J J ?_) ?_)))))))))))))))
   ·omega
   refine Pn (news:=(gr.take j).flatMap blV) J (ta J) J J (fun h0=>by obtain ⟨g,hg⟩:=hp.out (by omega);cases hg;exact ⟨g,0,J,row_front j (fun w hs=>hs.res.2.1.1)⟩) (by rw [blV_len,List.length_take,Nat.min_eq_left hj1]) (blV_all _) (by unfold maxLen;omega) (by omega) ?_;intro v1;refine Za J (Zf J) (Ze (Zc (Zg (Zb (Za J (Zd J) (Za J (Zv (tn J) J 0 J J) (Wk J (ts J) (tz J) J J J J J ?_)))))));intro b2 hb2;refine Ww J (ta J) J J (Yl 0 J) J J (by unfold maxLen;omega) (by omega) ?_;intro v2;refine Za J (Zf J) (Ze (Zc (Zb (Za J (Zd J) (Za J (Zd J) (Za J (Zd J) (Za J (Zw J) (Za J (Zh (ff J) J) (Za J (Zj (t1 J) J (Zi 2 J J)) (Za J (Zd J) (Za J (Ex_sliceLo (ts J) J J hj1) ?_)))))))))));refine WL_appX (news:=(gr.drop j).flatMap blV) J (ta J) J J (fun h0=>by obtain ⟨g,hg⟩:=hp.out (by omega);cases hg;exact ⟨g,0+j*2,ptr_back (by omega),row_back j (fun w hs=>hs.res.2.1.1)⟩) (by rw [blV_len,List.length_drop]) (blV_all _) (by unfold maxLen;omega) (by omega) ?_;intro v3;refine Za J (Zw J) (Za J (Zh (ff J) J) (Xc (p:=∃ p l c,v3=.slice p l c) (fun w hs=>Xb hs.res.1) ?_));rintro ⟨p3,l3,c3,hv3⟩;subst hv3;refine Yy (t1 J) J J 2 J J J J (Ze (Xa J 2 J ?_));exact grants_end hj1 hsr.out hj2.out hj3.out hne J
 ·intro h4;replace h4:=dFa h4;refine Yp J J J (Yp J J J (Yp J J J (Yp J J J (Yp J J J (Yp J J J (Yp J J J (Yp J J J (Yp J J J (Zq J (Zs J J) (Wi (Zc (Xn J ?_))))))))))));have hne:j<gr.length→gAt gr j≠bl:=by (intro h;exfalso;omega)
  refine Zo (Zc (Zg (Zb (Za J (Zf J) (Ze (Zc (Zg (Zb (Za J (Zd J) (Za J (Zd J) (Za J (Zw J) (Za J (Zh (ff J) J) (Za J (Zj (t1 J) J (Zi 1 J J)) (Za J (Zd J) (Za J (U4 (ts J) J J ?_) ?_)))))))))))))))
  ·omega
  refine Pn (news:=(gr.take j).flatMap blV) J (ta J) J J (fun h0=>by obtain ⟨g,hg⟩:=hp.out (by omega);cases hg;exact ⟨g,0,J,row_front j (fun w hs=>hs.res.2.1.1)⟩) (by rw [blV_len,List.length_take,Nat.min_eq_left hj1]) (blV_all _) (by unfold maxLen;omega) (by omega) ?_;intro v4;refine Za J (Zf J) (Ze (Zc (Zg (Zb (Za J (Zd J) (Za J (Zv (tn J) J 0 J J) (Wk J (ts J) (tz J) J J J J J ?_)))))));intro b2 hb2;refine Ww J (ta J) J J (Yl 0 J) J J (by unfold maxLen;omega) (by omega) ?_;intro v5;refine Za J (Zf J) (Ze (Zc (Zb (Za J (Zd J) (Za J (Zd J) (Za J (Zd J) (Za J (Zw J) (Za J (Zh (ff J) J) (Za J (Zj (t1 J) J (Zi 2 J J)) (Za J (Zd J) (Za J (Ex_sliceLo (ts J) J J hj1) ?_)))))))))));refine WL_appX (news:=(gr.drop j).flatMap blV) J (ta J) J J (fun h0=>by obtain ⟨g,hg⟩:=hp.out (by omega);cases hg;exact ⟨g,0+j*2,ptr_back (by omega),row_back j (fun w hs=>hs.res.2.1.1)⟩) (by rw [blV_len,List.length_drop]) (blV_all _) (by unfold maxLen;omega) (by omega) ?_;intro v6;refine Za J (Zw J) (Za J (Zh (ff J) J) (Xc (p:=∃ p l c,v6=.slice p l c) (fun w hs=>Xb hs.res.1) ?_));rintro ⟨p3,l3,c3,hv3⟩;subst hv3;refine Yy (t1 J) J J 2 J J J J (Ze (Xa J 2 J ?_));exact grants_end hj1 hsr.out hj2.out hj3.out hne J
end
section
open Go Go.RowKit At E
def Ul (c:Cl) (loc:Bool) (a b:Ty):Option (Option Bl):=if b.kind=4 then (if loc then some none else none) else Wq c a b
section
variable {c:Cl} {loc:Bool} {a b:Ty}
theorem fq1 (h:b.kind=4):Ul c loc a b=if loc then some none else none:=by unfold Ul;rw [if_pos h]
theorem same_ty:((decide (a.kind=b.kind)&&eqS a.cls b.cls)=true)↔(a.kind=b.kind∧a.cls=b.cls):=by simp [eqS]
theorem Mv (h:(decide (a.kind=b.kind)&&eqS a.cls b.cls)=false):¬ (a.kind=b.kind∧a.cls=b.cls):=fun k=>by rw [same_ty.2 k] at h;cases h
theorem fq2 (h4:¬ b.kind=4) (h:(decide (a.kind=b.kind)&&eqS a.cls b.cls)=true):Ul c loc a b=some none:=by unfold Ul Wq;rw [if_neg h4,if_pos (same_ty.1 h)]
theorem fq3 (h4:¬ b.kind=4) (h:(decide (a.kind=b.kind)&&eqS a.cls b.cls)=false) (h5:a.kind=5):Ul c loc a b=if b.kind=2∨b.kind=3 then some none else none:=by unfold Ul Wq;rw [if_neg h4,if_neg (Mv h),if_pos h5]
theorem fq4 (h4:¬ b.kind=4) (h:(decide (a.kind=b.kind)&&eqS a.cls b.cls)=false) (h5:¬ a.kind=5) (hn:¬ a.kind=3∨¬ b.kind=3):Ul c loc a b=none:=by unfold Ul Wq;rw [if_neg h4,if_neg (Mv h),if_neg h5,if_pos hn]
theorem fq5 (h4:¬ b.kind=4) (h:(decide (a.kind=b.kind)&&eqS a.cls b.cls)=false) (h5:¬ a.kind=5) (hn:¬ (¬ a.kind=3∨¬ b.kind=3)) (ho:b.cls=obS):Ul c loc a b=some none:=by unfold Ul Wq;rw [if_neg h4,if_neg (Mv h),if_neg h5,if_neg hn,if_pos ho]
theorem fq6 (h4:¬ b.kind=4) (h:(decide (a.kind=b.kind)&&eqS a.cls b.cls)=false) (h5:¬ a.kind=5) (hn:¬ (¬ a.kind=3∨¬ b.kind=3)) (ho:¬ b.cls=obS) (hs:(Vg a.cls).isSome=true) :
  Ul c loc a b=if (upS a.cls).any (fun x=>decide (x=b.cls)) then some none else none:=by
 unfold Ul Wq;rw [if_neg h4,if_neg (Mv h),if_neg h5,if_neg hn,if_neg ho];cases e:Vg a.cls with
 | none=>rw [e] at hs;cases hs
 | some _=>rfl
theorem fq7 (h4:¬ b.kind=4) (h:(decide (a.kind=b.kind)&&eqS a.cls b.cls)=false) (h5:¬ a.kind=5) (hn:¬ (¬ a.kind=3∨¬ b.kind=3)) (ho:¬ b.cls=obS) (hs:(Vg a.cls).isSome=false) :
  Ul c loc a b=if a.cls=c.name∧b.cls=c.super then some none else some (some ⟨a.cls,b.cls⟩):=by
 unfold Ul Wq;rw [if_neg h4,if_neg (Mv h),if_neg h5,if_neg hn,if_neg ho];cases e:Vg a.cls with
 | none=>rfl
 | some _=>rw [e] at hs;cases hs
end
def Oh (up:ByteArray):List ByteArray:=if up=At.mt then [] else up::upS up
theorem up_chain (s:ByteArray):upS s=Oh (Qk s):=by
 by_cases h0:s=obS
 ·subst h0;rfl
 ·by_cases h1:s=thS
  ·subst h1;rfl
  ·by_cases h2:s=erS
   ·subst h2;rfl
   ·by_cases h3:otherS.any (fun x=>decide (s=x))=true
    ·have e:Vg s=some erS:=by unfold Vg;rw [if_neg h0,if_neg h1,if_neg h2,if_pos h3]
     have e':upS s=[erS,thS,obS]:=by unfold upS;rw [if_neg h0,if_neg h1,if_neg h2,if_pos h3]
     unfold Qk;rw [e,e'];rfl
    ·have e:Vg s=none:=by unfold Vg;rw [if_neg h0,if_neg h1,if_neg h2,if_neg h3]
     have e':upS s=[]:=by unfold upS;rw [if_neg h0,if_neg h1,if_neg h2,if_neg h3]
     unfold Qk;rw [e,e'];rfl
theorem Ro {up:ByteArray} (h:¬ up=At.mt):Oh up=up::Oh (Qk up):=by rw [← up_chain];unfold Oh;rw [if_neg h]
theorem chain_nil {up:ByteArray} (h:up=At.mt):Oh up=[]:=by unfold Oh;rw [if_pos h]
def okFit (u:World) (x:CkX) (k:CkM) (o:Option (Option Bl)):Value→List Value→Asr→Prop:=fun v cs' R' =>
 ∃ gr' gv',v=.bool o.isSome∧cs'=ckC x { k with gr:=gr',gv:=gv' }∧R'.Imp (ckA u { k with gr:=gr',gv:=gv' })∧Srt gr'∧gr'.length≤k.gr.length+1∧∀ y,y ∈ gr'↔y ∈ k.gr∨o=some (some y)
theorem Nf {u:World} {x:CkX} {k:CkM} {o o':Option (Option Bl)} {r:Bool} (e:o=o') (h:o'=some none∨o'=none) (hr:r=o'.isSome) (hs:Srt k.gr):okFit u x k o (.bool r) (ckC x k) (ckA u k):=by
 subst e;refine ⟨k.gr,k.gv,by rw [hr],J,.refl _,hs,Nat.le_succ _,fun y=>⟨.inl,fun h'=>h'.elim id fun e=>?_⟩⟩;rcases h with h | h<;>rw [h] at e<;>cases e
theorem fit_gr {u:World} {x:CkX} {k:CkM} {o:Option (Option Bl)} {bl:Bl} {gr':List Bl} {gv':Value} (e:o=some (some bl)) (hs:Srt gr') (hl:gr'.length≤k.gr.length+1) (hm:∀ y,y ∈ gr'↔y ∈ k.gr∨y=bl):okFit u x k o (.bool true) (ckC x { k with gr:=gr',gv:=gv' }) (ckA u { k with gr:=gr',gv:=gv' }):=by
 subst e;refine ⟨gr',gv',J,J,.refl _,hs,hl,fun y=>(hm y).trans ⟨fun h=>h.imp_right fun e=>by rw [e],fun h=>h.imp_right fun e=>by cases e;rfl⟩⟩
theorem fits_any (u:World) (b:Nat) (x:CkX) (k:CkM) (s t:Ty) (loc:Bool) (hsr:Srt k.gr) (hn:k.gr.length≤4000000) :
  RuP Tryz.prog 170 #[pt b,.agg (tyV s).toArray,.agg (tyV t).toArray,.bool loc] u b (ckC x k) (ckA u k) (okFit u x k (Ul x.c loc s t)):=by
 intro w hu hF hs0;replace hsr:Hid _:=hsr;refine Yz (hs0) (args:=[pt b,.agg (tyV s).toArray,.agg (tyV t).toArray,.bool loc]) Tryz.func170 J Tryz.ntmps170 ?_;refine Zg (Zb (Y2 J J ?_));intro b1 hb1;refine Y2 J J ?_;intro b2 hb2;refine Za J (Zf J) (Ze (Zc (Zg (Zg (Zb (Za J (Zh (ff J) J) (Za J (Zj (t1 J) J (Zi 0 J J)) (Za J (Ya J J) (Ze (Zc (Zu J ?_ ?_)))))))))))
 ·intro c1;refine Zg (Zb (Za J (Zd J) (Za J (Zf J) (Ze (Zc (Zr (Zl (Wp (We J (X9 J)) 2 J ?_))))))));exact Nf (fq1 c1) (by cases loc<;>simp) (by cases loc<;>rfl) hsr.out
 ·intro c1;refine Zo (Zc (Zg (Zg (Zb (Za J (Zv (tn J) J 1 J J) (Za J (Zv (tn J) J 0 J J) (Za J (Or J J) (Ze (Zc (W4 J ?_ ?_))))))))))
  ·intro c2;refine Zg (Zb (Za J (Zf J) (Ze (Zc (Zr (Zl (Wp (We J (X9 J)) 2 J ?_)))))));exact Nf (fq2 c1 c2) (.inl J) J hsr.out
  ·intro c2;refine Zo (Zc (Zg (Zg (Zb (Za J (Zh (ff J) J) (Za J (Zj (t1 J) J (Zi 1 J J)) (Za J (Ya J J) (Ze (Zc (Zu J ?_ ?_))))))))))
   ·intro c3;refine Zg (Zb (Za J (Zh (ff J) J) (Za J (Zj (t1 J) J (Zi 0 J J)) (Za J (Ya J J) (Za J (Zd J) (Z9 J J J ?_ ?_))))))
    ·intro h1;refine Zm J J J (Zm J J J (Zm J J J (Za J (Zp J J) (Za J (Zf J) (Ze (Zc (Zr (Zl (Wp (We J (X9 J)) 2 J ?_)))))))));exact Nf (fq3 c1 c2 c3) (by split<;>simp) (by rw [if_pos (.inl h1)];rfl) hsr.out
    ·intro h1;refine Zk J J J (Zh (ff J) J) (Zk J J J (Zj (t1 J) J (Zi 0 J J)) (Zk J J J (Ya J J) (Za J (Zs J J) (Za J (Zf J) (Ze (Zc (Zr (Zl (Wp (We J (X9 J)) 2 J ?_)))))))));exact Nf (fq3 c1 c2 c3) (by split<;>simp) (by by_cases h9:t.kind=3<;>simp [h9,h1]) hsr.out
   ·intro c3;refine Zo (Zc (Zg (Zg (Zb (Za J (Zh (ff J) J) (Za J (Zj (t1 J) J (Zi 1 J J)) (Za J (T3 J J) (Za J (Zd J) (On J J J ?_ ?_)))))))))
    ·intro h2;refine Zm J J J (Zm J J J (Zm J J J (Za J (Zp J J) (Ze (Zc (Yh J (Zg (Zb (Za J (Zf J) (Ze (Zc (Zr (Zl (Wp (We J (X9 J)) 2 J ?_))))))))))))));exact Nf (fq4 c1 c2 c3 (by omega)) (.inr J) J hsr.out
    ·intro h2;refine Zk J J J (Zh (ff J) J) (Zk J J J (Zj (t1 J) J (Zi 0 J J)) (Zk J J J (T3 J J) (Za J (Zs J J) (Ze (Zc (Qw J ?_ ?_))))))
     ·intro c4;refine Zg (Zb (Za J (Zf J) (Ze (Zc (Zr (Zl (Wp (We J (X9 J)) 2 J ?_)))))));exact Nf (fq4 c1 c2 c3 (by omega)) (.inr J) J hsr.out
     ·intro c4;refine Zo (Zc (Zg (Zg (Zb (Za J (Zh (ff J) J) (Za J (Zj (t1 J) J (Zi 0 J J)) (Za J (Y7 J J) (Ze (Zc (Zu J ?_ ?_))))))))))
      ·intro c5;refine Zg (Zb (Za J (Zf J) (Ze (Zc (Zr (Zl (Wp (We J (X9 J)) 2 J ?_)))))));exact Nf (fq5 c1 c2 c3 (by omega) c5) (.inl J) J hsr.out
      ·intro c5;refine Zo (Zc (Zg (Zb (Za J (Zh (ff J) J) (Za J (Zj (t1 J) J (Zi 1 J J)) (Yq fn269 J J (fun w' _=>refAbove_any _ w') ?_))))));refine Za J (Zd J) (Za J (X3 J J) (Za J (X3 J J) (Za J (Zf J) (Za J (Zf J) (Ze (Zc (Zg (Zg (Zb (Za J (Zd J) (Ze (Zc (W4 J ?_ ?_)))))))))))))
       ·intro c6;refine Zg (Zn ?_);refine Yf (Yg (X:=ByteArray) (fun up=>[(0,pt b),(5,pt b1),(6,pt b2),(9,.string up)]) _ _ (fun up=>[(b2,tyV t),(b1,tyV s),(b,ckC x k)]) (fun up=>ckA u k) (fun up=>(upS s.cls).any (fun z=>decide (z=t.cls))=(Oh up).any (fun z=>decide (z=t.cls))) (fun up=>(Oh up).length) (Qk s.cls) (by rw [up_chain]) ?_) ⟨J,J,J,J,trivial⟩;intro up hI;refine Zg (Zg (Zb (Za J (Zd J) (Za J (S5 J J) (Ze (Zc (Qw J ?_ ?_)))))))
        ·intro c7;refine Zo (Zc (Zn (Zg (Zg (Zb (Za J (Zd J) (Za J (Zh (ff J) J) (Za J (Zj (t1 J) J (Zi 0 J J)) (Za J (Y7 J J) (Ze (Zc (Zu J ?_ ?_))))))))))))
         ·intro c8;refine Zg (Zb (Za J (Zf J) (Ze (Zc (Zr (Zl (Zl (Zl (Zl (Zl (Zl (Wp (We J (X9 J)) 2 J ?_))))))))))));exact Nf ((fq6 c1 c2 c3 (by omega) c5 c6).trans (if_pos (by rw [hI,Ro c7,List.any_cons,decide_eq_true c8];rfl))) (.inl rfl) rfl hsr.out
         ·intro c8;refine Zo (Zc (Zb (Za J (Zd J) (Yq fn269 J J (fun w' _=>refAbove_any _ w') ?_))));refine Za J (Zd J) (Za J (X3 J J) (Za J (X3 J J) (Za J (Zf J) (Ze (Zt ?_)))));refine Z1 (Qk up) ?_ (by rw [hI,Ro c7,List.any_cons,decide_eq_false c8,Bool.false_or]) 0 J (J) ⟨J,J,J,J,trivial⟩;rw [Ro c7];exact Nat.lt_succ_self _
        ·intro c7;refine Yd (Yc (Z5 (Yb (Zc (Zg (Zb (Za J (Zf J) (Ze (Zc (Zr (Zl (Wp (We J (X9 J)) 2 J ?_))))))))))));exact Nf ((fq6 c1 c2 c3 (by omega) c5 c6).trans (if_neg (by rw [hI,chain_nil c7];simp))) (.inr rfl) rfl hsr.out
       ·intro c6;refine Zo (Zc (Zg (Zg (Ws X2 (by kernel_rfl) ?_))));refine Zq J (Zh (ff J) J) (Zq J (Zj (t1 J) J (Zi 1 J J)) (Zq J (Zd J) (Zq J (Zw J) (Zq J (Zh (ff J) J) (Zq J (Zh (ff J) J) (Zq J (Zj (t1 J) J (Zi 2 J J)) (Zq J (S5 J J) (Zq J (Zd J) (Tz J J ?_ ?_)))))))))
        ·intro h3;replace h3:=Rm h3;refine Yp J J J (Yp J J J (Yp J J J (Yp J J J (Yp J J J (Yp J J J (Yp J J J (Yp J J J (Zq J (Zp J J) (Wi (Zc (Yh J (Zb (Za J (Zd J) (Za J (Zh (ff J) J) (Za J (Zj (t1 J) J (Zi 1 J J)) (Za J (Zh (ff J) J) (Za J (Zj (t1 J) J (Zi 0 J J)) (Za J (Z8 (tb J) J J) ?_))))))))))))))))));refine Ye fn270 J J 2 J hu hF (grants_any u b x k ⟨s.cls,t.cls⟩ hsr.out hn) ?_;rintro v cs' R' ⟨rfl,gr',gv',rfl,hR,hs',hl',hm'⟩;refine Zz hR ?_;refine Ze (Zc (Zg (Zb (Za J (Zf J) (Ze (Zc (Zr (Wp (We J (X9 J)) 2 J ?_))))))));exact fit_gr ((fq7 c1 c2 c3 (by omega) c5 c6).trans (if_neg fun h=>h3 h.1)) hs' hl' hm'
        ·intro h3;replace h3:=Sn h3;refine Z0 J J J (Zh (ff J) J) (Z0 J J J (Zj (t1 J) J (Zi 0 J J)) (Z0 J J J (Zd J) (Z0 J J J (Zw J) (Z0 J J J (Zh (ff J) J) (Z0 J J J (Zh (ff J) J) (Z0 J J J (Zj (t1 J) J (Zi 2 J J)) (Z0 J J J (S5 J J) (Zq J (Zs J J) (Wi (Zc (Qw J ?_ ?_)))))))))))
         ·intro c9;refine Zb (Za J (Zd J) (Za J (Zh (ff J) J) (Za J (Zj (t1 J) J (Zi 1 J J)) (Za J (Zh (ff J) J) (Za J (Zj (t1 J) J (Zi 0 J J)) (Za J (Z8 (tb J) J J) ?_))))));refine Ye fn270 J J 2 J hu hF (grants_any u b x k ⟨s.cls,t.cls⟩ hsr.out hn) ?_;rintro v cs' R' ⟨rfl,gr',gv',rfl,hR,hs',hl',hm'⟩;refine Zz hR ?_;refine Ze (Zc (Zg (Zb (Za J (Zf J) (Ze (Zc (Zr (Wp (We J (X9 J)) 2 J ?_))))))));exact fit_gr ((fq7 c1 c2 c3 (by omega) c5 c6).trans (if_neg fun h=>c9 h.2)) hs' hl' hm'
         ·intro c9;refine Zo (Zc (Zg (Zb (Za J (Zf J) (Ze (Zc (Zr (Wp (We J (X9 J)) 2 J ?_))))))));exact Nf ((fq7 c1 c2 c3 (by omega) c5 c6).trans (if_pos ⟨h3,c9⟩)) (.inl J) J hsr.out
end
end Go.Proofs.YtpofmnfkdkmieaaGreat
