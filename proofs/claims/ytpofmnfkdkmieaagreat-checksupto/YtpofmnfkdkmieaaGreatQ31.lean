/- What is proved here: the document's own Checker: all other in -/
import Derived.Test.YtpofmnfkdkmieaaGreatQ30
set_option linter.unusedVariables false
set_option linter.unusedSimpArgs false
namespace Go.Proofs.YtpofmnfkdkmieaaGreat
section
open Go Go.RowKit At E
def wantF (is:Bool) (s:St):Option St:=if is then some s else none
theorem Mp {x:CkX} {k:CkM} (hk:CkOk x k) (is:Bool):Go1 x k { k with bad:=k.bad || !is } 0 0 (wantF is):=by
 refine ⟨⟨hk.lo,hk.srt,fun s h=>?_⟩,Nat.le_refl _,Nat.le_refl _,?_⟩
 ·cases hb:k.bad with
  | true=>rw [hb] at h;cases h
  | false =>
   have h1:=hk.ok _ (Xi hb);rw [hb] at h;cases is
   ·cases h
   ·cases h;exact ⟨h1.len,h1.st,h1.lo⟩
 ·cases hb:k.bad with
  | true=>rw [Vu hb];rfl
  | false =>
   rw [Xi hb];cases is
   ·rfl
   ·rw [Xi (by simp)];rfl
theorem pop_go {x:CkX} {k k1:CkM} {t:Ty} (hk1:CkOk x k1) (hg:k1.gr=k.gr) (hst:k1.st.length≤k.st.length) (hs:(sem k).bind V9=(sem k1).map fun s=>(t,s)):Go1 x k k1 0 0 (fun s=>(V9 s).map (·.2)) :=
 ⟨hk1,by rw [hg];exact Nat.le_refl _,hst,by
  have e:(sem k).bind (fun s=>(V9 s).map (·.2))=((sem k).bind V9).map (·.2):=by cases sem k<;>rfl
  rw [e,hs];cases sem k1<;>rfl⟩
theorem pop_of {s s':St} {t:Ty} (h:V9 s=some (t,s')):s'.gr=s.gr∧s'.lo=s.lo∧s'.alive=s.alive∧s.st=s'.st++[t]:=by
 unfold V9 at h;cases hl:s.st.getLast? with
 | none=>rw [hl] at h;cases h
 | some y =>
  rw [hl] at h;cases h;refine ⟨J,J,J,?_⟩;obtain ⟨l,hl'⟩:=List.getLast?_eq_some_iff.1 hl;rw [hl'];simp
section
variable {c:Cl} {m:Me} {op n:Int} {rf:Rf} {s:St}
theorem pl1 (h:op=1):Vw m Yx s=opF c m ⟨op,n,rf⟩ s:=by subst h;simp [opF,Pk]
theorem pl28 (h:op=28):Vw m Yx s=opF c m ⟨op,n,rf⟩ s:=by subst h;simp [opF,Pk]
theorem pl4 (h:op=4):(V9 s).map (·.2)=opF c m ⟨op,n,rf⟩ s:=by subst h;simp [opF]
theorem pl6 (h:op=6):(Xe c [Yx,Yx] s).bind (Vw m Yx)=opF c m ⟨op,n,rf⟩ s:=by subst h;simp [opF,Pk]
theorem pl7 (h:op=7):(Xe c [Yx,Yx] s).bind (Vw m Yx)=opF c m ⟨op,n,rf⟩ s:=by subst h;simp [opF,Pk]
theorem pl8 (h:op=8):(Xe c [Yx,Yx] s).bind (Vw m Yx)=opF c m ⟨op,n,rf⟩ s:=by subst h;simp [opF,Pk]
theorem pl9 (h:op=9):(Xe c [Yx,Yx] s).bind (Vw m Yx)=opF c m ⟨op,n,rf⟩ s:=by subst h;simp [opF,Pk]
theorem pl11 (h:op=11):Xe c [Yx] s=opF c m ⟨op,n,rf⟩ s:=by subst h;simp [opF]
theorem pl27 (h:op=27):Xe c [Yx] s=opF c m ⟨op,n,rf⟩ s:=by subst h;simp [opF]
theorem pl12 (h:op=12):Xe c [Yx,Yx] s=opF c m ⟨op,n,rf⟩ s:=by subst h;simp [opF]
theorem pl13 (h:op=13):Qi [3,2,5] s=opF c m ⟨op,n,rf⟩ s:=by subst h;simp [opF]
theorem pl14 (h:op=14):Vw m nullT s=opF c m ⟨op,n,rf⟩ s:=by subst h;simp [opF,layVnull]
theorem pl24 (h:op=24):Va c (Xu thS) s=opF c m ⟨op,n,rf⟩ s:=by subst h;simp [opF]
theorem pl29 (h:op=29):(Xe c [Yx] s).bind (Vw m Uh)=opF c m ⟨op,n,rf⟩ s:=by subst h;simp [opF,layVrow]
theorem pl30 (h:op=30):(Xe c [Uh,Yx] s).bind (Vw m Yx)=opF c m ⟨op,n,rf⟩ s:=by subst h;simp [opF,Pk]
theorem pl31 (h:op=31):Xe c [Uh,Yx,Yx] s=opF c m ⟨op,n,rf⟩ s:=by subst h;simp [opF]
theorem pl32 (h:op=32):(Xe c [Uh] s).bind (Vw m Yx)=opF c m ⟨op,n,rf⟩ s:=by subst h;simp [opF,Pk]
theorem pl0 (h:op=0):some s=opF c m ⟨op,n,rf⟩ s:=by subst h;simp [opF]
theorem pl10 (h:op=10):some s=opF c m ⟨op,n,rf⟩ s:=by subst h;simp [opF]
theorem pl22 (h:op=22):wantF (decide (m.result.kind=0)) s=opF c m ⟨op,n,rf⟩ s:=by subst h;simp [opF,wantF]
theorem pl23 (h:op=23):(wantF (!decide (m.result.kind=0)) s).bind (Va c m.result)=opF c m ⟨op,n,rf⟩ s:=by subst h;by_cases hr:m.result.kind=0<;>simp [opF,wantF,hr]
theorem pl2 {nn:Nat} {t:Ty} (h:op=2) (ht:s.lo[nn]?=some t) (h0:¬ t.kind=0):(wantF (!decide (t.kind=4)) s).bind (Vw m t)=opF c m ⟨op,(nn:Int),rf⟩ s:=by
 subst h;simp only [opF,loadF,Int.toNat_natCast];show _=match s.lo[nn]? with | none=>none | some t=>if t.kind=4 then none else U1 m t s
 rw [ht];by_cases h4:t.kind=4
 ·simp [wantF,h4]
 ·simp [wantF,h4,Vw,h0]
theorem pl5 {s':St} {t:Ty} (h:op=5) (hp:V9 s=some (t,s')) (hl:(s.st.length:Int)≤m.stack) (h0:¬ t.kind=0):(Vw m t s').bind (Vw m t)=opF c m ⟨op,n,rf⟩ s:=by
 subst h;obtain ⟨h1,h2,h3,h4⟩:=pop_of hp;simp only [opF];show _=(V9 s).bind fun r=>U1 m r.1 s;rw [hp];show _=U1 m t s;unfold Vw;rw [if_neg h0]
 have e:U1 m t s'=some s:=by
  unfold U1;rw [if_pos (by rw [h4,List.length_append] at hl;simp at hl;omega)];cases s;cases s';simp_all
 rw [e];show (if t.kind=0 then some s else U1 m t s)=_;rw [if_neg h0]
end
theorem store_go {x:CkX} {k k1:CkM} {t:Ty} {c:Cl} {m:Me} {op:Int} {rf:Rf} {nn:Nat} {lv:Value} {lb:List Nat} (hk1:CkOk x k1) (hg:k1.gr=k.gr) (hst:k1.st.length≤k.st.length) (hs:(sem k).bind V9=(sem k1).map fun s=>(t,s)) (hk:CkOk x k) (h:op=3) :
  Go1 x k { k1 with lo:=k1.lo.set nn t,lv:=lv,lb:=lb } 0 0 (opF c m ⟨op,(nn:Int),rf⟩):=by
 subst h;have e:opF c m ⟨3,(nn:Int),rf⟩=fun s=>(V9 s).map fun r=>{ r.2 with lo:=r.2.lo.set nn r.1 }:=by funext s;simp [opF,P8]
 have e2:(sem k).bind (opF c m ⟨3,(nn:Int),rf⟩)=((sem k).bind V9).map fun r=>{ r.2 with lo:=r.2.lo.set nn r.1 }:=by rw [e];cases sem k<;>rfl
 refine ⟨⟨by show ((k1.lo.set nn t).length:Int)=_;rw [List.length_set];exact hk1.lo,hk1.srt,fun s h=>?_⟩,by rw [← hg];exact Nat.le_refl _,hst,?_⟩
 ·cases hb:k1.bad with
  | true=>rw [hb] at h;cases h
  | false =>
   have h1:=hk1.ok _ (Xi hb);rw [hb] at h;cases h;refine ⟨h1.len,h1.st,fun y hy=>?_⟩;rcases List.mem_or_eq_of_mem_set hy with hy | rfl
   ·exact h1.lo y hy
   ·cases hbk:k.bad with
    | true=>rw [Vu hbk,Xi hb] at hs;cases hs
    | false =>
     have h2:=hk.ok _ (Xi hbk);rw [Xi hbk,Xi hb] at hs;have h3:=(pop_of hs).2.2.2;exact (h2.st y (by rw [h3];simp)).1
 ·rw [e2,hs];cases hb:k1.bad with
  | true=>rw [Vu hb];rfl
  | false=>rw [Xi hb];rfl
theorem ty105:tyOf ⟨#[105]⟩=[Yx]:=by rfl
theorem Nm:tyOf ⟨#[105,105]⟩=[Yx,Yx]:=by rfl
theorem ty114x105:tyOf ⟨#[114,105]⟩=[Uh,Yx]:=by rfl
theorem ty114x105x105:tyOf ⟨#[114,105,105]⟩=[Uh,Yx,Yx]:=by rfl
theorem ty114:tyOf ⟨#[114]⟩=[Uh]:=by rfl
theorem pop_kind {x:CkX} {k k1:CkM} {t:Ty} (hk:CkOk x k) (hs:(sem k).bind V9=(sem k1).map fun s=>(t,s)) (hb:k1.bad=false):¬ t.kind=0∧¬ t.kind=4:=by
 rw [Xi hb] at hs;cases hbk:k.bad with
 | true=>rw [Vu hbk] at hs;cases hs
 | false =>
  have h2:=hk.ok _ (Xi hbk);rw [Xi hbk] at hs;exact h2.st t (by rw [(pop_of hs).2.2.2];simp)
theorem sem_lo {k:CkM} {s:St} (h:sem k=some s):s.lo=k.lo:=by
 unfold sem at h;split at h
 ·cases h
 ·cases h;rfl
theorem Go1.dead {x:CkX} {k k':CkM} {d e:Nat} {f g:St→Option St} (h:Go1 x k k' d e f) (hb:k'.bad=true):Go1 x k k' d e (fun s=>(f s).bind g):=⟨h.ok,h.gr,h.st,by
 have h1:=h.sm;rw [Vu hb] at h1;have e2:(sem k).bind (fun s=>(f s).bind g)=((sem k).bind f).bind g:=by rw [Option.bind_assoc]
 rw [e2,← h1,Vu hb];rfl⟩
theorem dup_bad {x:CkX} {k k0:CkM} {t:Ty} {c:Cl} {m:Me} {op n:Int} {rf:Rf} (hk0:CkOk x k0) (hg:k0.gr=k.gr) (hst:k0.st.length≤k.st.length) (hs:(sem k).bind V9=(sem k0).map fun s=>(t,s)) (hb:k0.bad=true) (h:op=5):Go1 x k k0 0 0 (opF c m ⟨op,n,rf⟩):=by
 subst h;refine ⟨hk0,by rw [hg];exact Nat.le_refl _,hst,?_⟩;rw [Vu hb] at hs ⊢;cases hk:sem k with
 | none=>rfl
 | some s =>
  rw [hk] at hs;have hs':V9 s=none:=hs;show none=(V9 s).bind fun r=>U1 m r.1 s;rw [hs'];rfl
theorem dup_go {x:CkX} {k k0 k1 k2:CkM} {t:Ty} {c:Cl} {op n:Int} {rf:Rf} (hk:CkOk x k) (hg:k0.gr=k.gr) (hst:k0.st.length≤k.st.length) (hs:(sem k).bind V9=(sem k0).map fun s=>(t,s)) (hb:k0.bad=false) (g1:Go1 x k0 k1 0 1 (Vw x.m t)) (g2:Go1 x k1 k2 0 1 (Vw x.m t)) (h:op=5):Go1 x k k2 0 2 (opF c x.m ⟨op,n,rf⟩):=by
 have hp:=pop_kind hk hs hb;refine ⟨g2.ok,by have:=g1.gr;have:=g2.gr;rw [hg] at *;omega,by have:=g1.st;have:=g2.st;omega,?_⟩;rw [g2.sm,g1.sm];rw [Xi hb] at hs ⊢;cases hbk:k.bad with
 | true=>rw [Vu hbk] at hs;cases hs
 | false =>
  have h2:=hk.ok _ (Xi hbk);rw [Xi hbk] at hs ⊢;exact pl5 h hs h2.len hp.1
theorem not_false {b:Bool} (h:(!b)=false):b=true:=by cases b<;>simp_all
theorem k3251 {n:Int} (h:n=3):true=decide (n ∈ [3,2,5]):=by subst h;decide
theorem k3252 {n:Int} (h:n=2):true=decide (n ∈ [3,2,5]):=by subst h;decide
theorem k3255 {n:Int} (h:¬ n=3) (h':¬ n=2):decide (n=5)=decide (n ∈ [3,2,5]):=by simp [h,h']
theorem put_set {l:List Ty} {n:Nat} {t:Ty} (h:n<l.length):put (l.flatMap tyV) (n*2) (tyV t)=(l.set n t).flatMap tyV:=by
 induction l generalizing n with
 | nil=>simp at h
 | cons a l ih =>
  cases n with
  | zero=>simp [put,tyV]
  | succ n =>
   have:=ih (n:=n) (by simpa using h);rw [List.set_cons_succ,List.flatMap_cons,List.flatMap_cons,← this];unfold put;have e:(n+1)*2=n*2+1+1:=by omega
   rw [e];simp [tyV]
theorem set_imp {u:World} {gr gv lo lv lb st sv sb al bd} {v:Value} {lo':List Ty} (ho:Q1 lo') :
  ((Y0 71 2 v lo'.length (lo'.flatMap tyV)).and (ckA u ⟨gr,gv,lo,lv,lb,st,sv,sb,al,bd⟩)).Imp (ckA u ⟨gr,gv,lo',v,v.ownBlock.toList,st,sv,sb,al,bd⟩):=by
 refine (Asr.Imp.left (tysA_ro (u:=u) (v:=v) ho)).trans ?_;refine (Asr.Imp.right (Asr.Imp.right (Asr.snd _ _))).trans ?_;exact Asr.swap _ _ _
set_option maxHeartbeats 2000000 in
theorem plain_any (u:World) (b:Nat) (x:CkX) (k:CkM) (i:Ins) (pv:Value) (hk:CkOk x k) (hop:0≤i.op∧i.op≤14∨22≤i.op∧i.op≤24∨27≤i.op∧i.op≤32) (hst:k.st.length≤20) (hn:k.gr.length≤3990000) (hN:i.op=2∨i.op=3→∃ nn:Nat,i.n=nn∧nn<k.lo.length) (hr:¬ x.m.result.kind=4) :
  RuP Tryz.prog 175 #[pt b,.agg (Wx i pv).toArray] u b (ckC x k) (ckA u k) (okF u x k (opF x.c x.m i) 10 2):=by
 intro w hu hF hs0;obtain ⟨op,n,rf⟩:=i;dsimp only at hop hN;have hopp:(Ins.mk op n rf).op=op:=rfl;have hT:Yu w k.lv k.lo:=Sy hs0.res.2.1.1 hu;obtain ⟨pl,cl,hlv,⟨hl1,hl2⟩,hpl⟩:=hT.shape;have hlok:Hid (∀ t ∈ k.lo,Rz t):=hT.ok;replace hpl:Hid _:=hpl;replace hN:Hid _:=hN;clear hT;refine Yz (hs0) (args:=[pt b,.agg (Wx ⟨op,n,rf⟩ pv).toArray]) Tryz.func175 J Tryz.ntmps175 ?_;refine Zg (Zb (Y2 J J ?_));intro b1 hb1;refine Ze (Zc (Zg (Zb (Za J (Z8 (tb J) J J) (Yk J (tz J) ?_)))));intro b2 hb2;refine Z2 (tn J) J J 0 J J J J (Ze (Zc (Zg (Zb (Za J (Zh (ff J) J) (Za J (Zj (t1 J) J (Zi 1 J J)) (Ze (Zc (Zn (Zg (Zg (Zb (Za J (Ya J J) (Za J (Zf J) (Ze (Zc (Zu J ?_ ?_)))))))))))))))))
 ·intro c1;refine Zo (Zc (Yh J (Zb (Za J (Zd J) (Za J (Zv (tn J) J 0 J J) ?_)))));refine Ye S7 J J 2 J hu hF (Vt u b x k Yx hk ⟨by show Wc 1;unfold Wc;decide,by show X5 At.mt;unfold X5 At.mt;decide⟩ (fun _=>by show ¬ (1:Int)=4;decide) (by omega)) ?_;rintro v cs' R' ⟨rfl,k1,rfl,hR,hk1,hg1,hst1,hs1⟩;refine Zz hR ?_;refine Ze (Zt (Xa J 2 J ?_));exact (((Go1.mk hk1 hg1 hst1 hs1).as (fun s _=>pl1 (by omega))).mono (by omega) (by omega)).okF
 ·intro c1;refine Zb (Za J (Ya J J) (Za J (Zf J) (Ze (Zc (Zu J ?_ ?_)))))
  ·intro c2;refine Zb (Za J (Zd J) (Za J (Zv (tn J) J 0 J J) ?_));refine Ye S7 J J 2 J hu hF (Vt u b x k Yx hk ⟨by show Wc 1;unfold Wc;decide,by show X5 At.mt;unfold X5 At.mt;decide⟩ (fun _=>by show ¬ (1:Int)=4;decide) (by omega)) ?_;rintro v cs' R' ⟨rfl,k1,rfl,hR,hk1,hg1,hst1,hs1⟩;refine Zz hR ?_;refine Ze (Zt (Xa J 2 J ?_));exact (((Go1.mk hk1 hg1 hst1 hs1).as (fun s _=>pl28 (by omega))).mono (by omega) (by omega)).okF
  ·intro c2;refine Zg (Zb (Za J (Ya J J) (Za J (Zf J) (Ze (Zc (Zu J ?_ ?_))))))
   ·intro c3;obtain ⟨nn,rfl,hnl⟩:=hN.out (by omega);obtain ⟨gr,gv,lo,lv,lb,st,sv,sb,al,bd⟩:=k;dsimp only at hlv hl1 hl2 hpl hlok hnl hst hn;subst hlv;obtain ⟨gl,ol,hgl⟩:=hpl.out (by omega);subst hgl;obtain ⟨tA,htn⟩:∃ t,lo[nn]?=some t:=⟨_,List.getElem?_eq_getElem hnl⟩;refine Zg (Lk 11 X2 (by kernel_rfl) ?_);refine Xs J (Zd J) (Xs J (Zd J) (Xs J (Zw J) (Xs J (Zh (ff J) J) (Xs J (Zj (t1 J) J (Zi 2 J J)) (Xs J (Zh (ff J) J) (Xs J (Zj (t1 J) J (Zi 1 J J)) (Xs J (Yo (ts J) J J ?_) ?_)))))))
    ·omega
    refine Xs J (Zh (ff J) J) (Xs J (Zj (t1 J) J (cell_ro (u:=u) (fun w hs=>Sy hs.res.2.1.1 (Xp hu hF hs)) htn J)) ?_);refine Xs J (T3 J J) (WS_nil ?_);refine Ye Ru J J 2 J hu hF (Vh u b x _ _) ?_;rintro v cs' R' ⟨rfl,rfl,hR⟩;refine Zz hR ?_;refine Ze (Zc (Lk 9 X2 (by kernel_rfl) ?_));refine Xs J (Zd J) (Xs J (Zd J) (Xs J (Zw J) (Xs J (Zh (ff J) J) (Xs J (Zj (t1 J) J (Zi 2 J J)) (Xs J (Zh (ff J) J) (Xs J (Zj (t1 J) J (Zi 1 J J)) (Xs J (Yo (ts J) J J ?_) ?_)))))))
    ·omega
    refine Xs J (Yj (tn J) J (R6 (u:=u) (fun w hs=>Sy hs.res.2.1.1 (Xp hu hF hs)) htn) J) ?_;refine WS_nil ?_;refine Ye S7 J J 2 J hu hF (Vt u b x _ tA (Mp hk (!decide (tA.kind=4))).ok (hlok.out tA (List.mem_of_getElem? htn)) (fun h9=>by simp at h9;exact h9.2) (by show st.length<1048576;omega)) ?_;rintro v cs' R' ⟨rfl,k1,rfl,hR,hk1,hg1,hst1,hs1⟩;refine Zz hR ?_;refine Ze (Zt (Xa J 2 J ?_));exact ((((Mp hk (!decide (tA.kind=4))).then (Go1.mk hk1 hg1 hst1 hs1)).as (fun s hs=>pl2 (by omega) (by rw [sem_lo hs];exact htn) ((hk.ok s hs).lo tA (by rw [sem_lo hs];exact List.mem_of_getElem? htn)))).mono (by omega) (by omega)).okF
   ·intro c3;refine Zg (Zb (Za J (Ya J J) (Za J (Zf J) (Ze (Zc (Zu J ?_ ?_))))))
    ·intro c4;obtain ⟨nn,rfl,hnl⟩:=hN.out (by omega);refine Zg (Zb (Za J (Zd J) ?_));refine Ye fn273 J J 2 J hu hF (M0 u b x k hk) ?_;rintro v cs' R' ⟨tt,k0,rfl,rfl,hR,hk0,hg0,hl0,hst0,hto,hs0'⟩;refine Zz hR ?_;refine Yk J (tz J) ?_;intro b3 hb3;refine Z2 (tn J) J J 0 J J J J (Ze (Zc (Zg (Zb (Za J (Zf J) (Ze (Zc (Zg (Zb (Za J (Zd J) (Za J (Zd J) (Za J (Zw J) (Za J (Zh (ff J) J) (Za J (Zj (t1 J) J (Zi 3 J J)) ?_))))))))))))));refine Xc (p:=∃ p c,k0.lv=.slice p k0.lo.length c∧(0<k0.lo.length→∃ b o,p=some ⟨b,o,none⟩)∧Q1 k0.lo) (fun w hs=>by have h9:Yu w k0.lv k0.lo:=Sy hs.res.2.1.1 (Xp hu hF hs);obtain ⟨p,c,e1,e2,e3⟩:=h9.shape;exact ⟨p,c,e1,e3,e2.1,h9.ok⟩) ?_;rintro ⟨p0,c0,hlv0,hp0,hok0⟩;(obtain ⟨gr,gv,lo,lv,lb,st,sv,sb,al,bd⟩:=k0);dsimp only at hlv0 hp0 hok0 hl0 hg0 hst0;subst hlv0;subst hl0;refine Pn (news:=k.lo.flatMap tyV) J (ta J) J J (ro_rows hp0 (fun w hs=>Sy hs.res.2.1.2.1.1 (Xp hu hF hs))) (Ox _) (tyV_all _) (by unfold maxLen;omega) (by omega) ?_;intro v1;refine Za J (Zf J) (Ze (Zc (Zg (Zb (Za J (Zd J) (Za J (Zh (ff J) J) (Za J (Zj (t1 J) J (Zi 2 J J)) (Za J (Zv (tn J) J 0 J J) ?_))))))));refine Xc (p:=∃ g c,v1=.slice (some ⟨g,0,none⟩) k.lo.length c) (fun w hs=>by obtain ⟨p,c,e1,e2⟩:=Xr hs.res.1;obtain ⟨g,rfl⟩:=e2 (by omega);exact ⟨g,c,e1⟩) ?_;rintro ⟨g3,c3,hv3⟩;subst hv3;refine Za J (Yo (ts J) J J ?_) ?_
     ·omega
     refine Un (tn J) J J J J (by show 0+nn*2+2≤k.lo.length*2;omega) ?_;refine Ze (Zc ?_);refine W9 (R':=(Y0 71 2 (.slice (some ⟨g3,0,none⟩) k.lo.length c3) (k.lo.set nn tt).length ((k.lo.set nn tt).flatMap tyV)).and _) (by rw [List.length_set,← put_set (by omega),Nat.zero_add];rfl) ?_;refine Xt (set_imp (v:=.slice (some ⟨g3,0,none⟩) k.lo.length c3) ⟨by rw [List.length_set];exact hok0.1,fun y hy=>by rcases List.mem_or_eq_of_mem_set hy with h | rfl;exact hok0.2 y h;exact hto⟩) ?_;refine Zb (Za J (Zd J) (Za J (Zd J) (Za J (Zw J) (Za J (Zh (ff J) J) (Yy (t1 J) J J 3 J J J J (Ze (Zt (Xa J 3 J ?_))))))));exact ((store_go (k1:=⟨gr,gv,k.lo,.slice p0 k.lo.length c0,lb,st,sv,sb,al,bd⟩) (lv:=.slice (some ⟨g3,0,none⟩) k.lo.length c3) (lb:=(Value.slice (some ⟨g3,0,none⟩) k.lo.length c3).ownBlock.toList) hk0 hg0 hst0 hs0' hk (by omega)).mono (by omega) (by omega)).okF
    ·intro c4;refine Zg (Zb (Za J (Ya J J) (Za J (Zf J) (Ze (Zc (Zu J ?_ ?_))))))
     ·intro c5;refine Zb (Za J (Zd J) ?_);refine Ye fn273 J J 2 J hu hF (M0 u b x k hk) ?_;rintro v cs' R' ⟨tt,k0,rfl,rfl,hR,hk0,hg0,hl0,hst0,hto,hs0'⟩;refine Zz hR ?_;refine Ze (Zt (Xa J 2 J ?_));exact (((pop_go hk0 hg0 hst0 hs0').as (fun s _=>pl4 (by omega))).mono (by omega) (by omega)).okF
     ·intro c5;refine Zg (Zb (Za J (Ya J J) (Za J (Zf J) (Ze (Zc (Zu J ?_ ?_))))))
      ·intro c6;refine Zg (Zb (Za J (Zd J) ?_));refine Ye fn273 J J 2 J hu hF (M0 u b x k hk) ?_;rintro v cs' R' ⟨tt,k0,rfl,rfl,hR,hk0,hg0,hl0,hst0,hto,hs0'⟩;refine Zz hR ?_;refine Yk J (tz J) ?_;intro b3 hb3;refine Z2 (tn J) J J 0 J J J J (Ze (Zc (Zg (Zb (Za J (Zd J) (Za J (Zw J) (Za J (Zh (ff J) J) (Za J (Zj (t1 J) J (Zi 3 J J)) (Za J (Xv J) (Ze (Zc (W4 J ?_ ?_))))))))))))
       ·intro c7;refine Zg (Zb (Za J (Zd J) (Za J (Zv (tn J) J 0 J J) ?_)));refine Ye S7 J J 3 J hu hF (Vt u b x k0 tt hk0 hto (fun _=>(pop_kind hk hs0' (by simpa using c7)).2) (by omega)) ?_;rintro v cs' R' ⟨rfl,k1,rfl,hR,hk1,hg1,hst1,hs1⟩;refine Zz hR ?_;refine Ze (Zc (Zb (Za J (Zd J) (Za J (Zv (tn J) J 0 J J) ?_))));refine Ye S7 J J 3 J hu hF (Vt u b x k1 tt hk1 hto (fun _=>(pop_kind hk hs0' (by simpa using c7)).2) (by omega)) ?_;rintro v cs' R' ⟨rfl,k2,rfl,hR,hk2,hg2,hst2,hs2⟩;refine Zz hR ?_;refine Ze (Zt (Xa J 3 J ?_));exact ((dup_go hk hg0 hst0 hs0' (by simpa using c7) (Go1.mk hk1 hg1 hst1 hs1) (Go1.mk hk2 hg2 hst2 hs2) (by omega)).mono (by omega) (by omega)).okF
       ·intro c7;refine Zo (Zt (Xa J 3 J ?_));exact ((dup_bad hk0 hg0 hst0 hs0' (by simpa using c7) (by omega)).mono (by omega) (by omega)).okF
      ·intro c6;refine Zg (Zg (Zb (Za J (Ya J J) (Za J (Zf J) (Ze (Zc (Zu J ?_ ?_)))))))
       ·intro c8;refine Zo (Zc (Yh J (Zg (Zb (Za J (Zd J) ?_)))));refine Ye fn274 J J 2 J hu hF (Ti u b x k ⟨#[105,105]⟩ hk (by decide) (by show k.gr.length+2≤4000000;omega)) ?_;rintro v cs' R' ⟨rfl,k1,rfl,hR,hk1,hg1,hst1,hs1⟩;rw [Nm] at hs1;replace hg1:k1.gr.length≤k.gr.length+2:=hg1;refine Zz hR ?_;refine Ze (Zc (Zb (Za J (Zd J) (Za J (Zv (tn J) J 0 J J) ?_))));refine Ye S7 J J 2 J hu hF (Vt u b x k1 Yx hk1 ⟨by show Wc 1;unfold Wc;decide,by show X5 At.mt;unfold X5 At.mt;decide⟩ (fun _=>by show ¬ (1:Int)=4;decide) (by omega)) ?_;rintro v cs' R' ⟨rfl,k2,rfl,hR,hk2,hg2,hst2,hs2⟩;refine Zz hR ?_;refine Ze (Zt (Xa J 2 J ?_));exact ((((Go1.mk hk1 hg1 hst1 hs1).then (Go1.mk hk2 hg2 hst2 hs2)).as (fun s _=>pl6 (by omega))).mono (by omega) (by omega)).okF
       ·intro c8;refine Zg (Zb (Za J (Ya J J) (Za J (Zf J) (Ze (Zc (Zu J ?_ ?_))))))
        ·intro c9;refine Zo (Zc (Yh J (Zg (Zb (Za J (Zd J) ?_)))));refine Ye fn274 J J 2 J hu hF (Ti u b x k ⟨#[105,105]⟩ hk (by decide) (by show k.gr.length+2≤4000000;omega)) ?_;rintro v cs' R' ⟨rfl,k1,rfl,hR,hk1,hg1,hst1,hs1⟩;rw [Nm] at hs1;replace hg1:k1.gr.length≤k.gr.length+2:=hg1;refine Zz hR ?_;refine Ze (Zc (Zb (Za J (Zd J) (Za J (Zv (tn J) J 0 J J) ?_))));refine Ye S7 J J 2 J hu hF (Vt u b x k1 Yx hk1 ⟨by show Wc 1;unfold Wc;decide,by show X5 At.mt;unfold X5 At.mt;decide⟩ (fun _=>by show ¬ (1:Int)=4;decide) (by omega)) ?_;rintro v cs' R' ⟨rfl,k2,rfl,hR,hk2,hg2,hst2,hs2⟩;refine Zz hR ?_;refine Ze (Zt (Xa J 2 J ?_));exact ((((Go1.mk hk1 hg1 hst1 hs1).then (Go1.mk hk2 hg2 hst2 hs2)).as (fun s _=>pl7 (by omega))).mono (by omega) (by omega)).okF
        ·intro c9;refine Zg (Zb (Za J (Ya J J) (Za J (Zf J) (Ze (Zc (Zu J ?_ ?_))))))
         ·intro c10;refine Zo (Zc (Yh J (Zg (Zb (Za J (Zd J) ?_)))));refine Ye fn274 J J 2 J hu hF (Ti u b x k ⟨#[105,105]⟩ hk (by decide) (by show k.gr.length+2≤4000000;omega)) ?_;rintro v cs' R' ⟨rfl,k1,rfl,hR,hk1,hg1,hst1,hs1⟩;rw [Nm] at hs1;replace hg1:k1.gr.length≤k.gr.length+2:=hg1;refine Zz hR ?_;refine Ze (Zc (Zb (Za J (Zd J) (Za J (Zv (tn J) J 0 J J) ?_))));refine Ye S7 J J 2 J hu hF (Vt u b x k1 Yx hk1 ⟨by show Wc 1;unfold Wc;decide,by show X5 At.mt;unfold X5 At.mt;decide⟩ (fun _=>by show ¬ (1:Int)=4;decide) (by omega)) ?_;rintro v cs' R' ⟨rfl,k2,rfl,hR,hk2,hg2,hst2,hs2⟩;refine Zz hR ?_;refine Ze (Zt (Xa J 2 J ?_));exact ((((Go1.mk hk1 hg1 hst1 hs1).then (Go1.mk hk2 hg2 hst2 hs2)).as (fun s _=>pl8 (by omega))).mono (by omega) (by omega)).okF
         ·intro c10;refine Zb (Za J (Ya J J) (Za J (Zf J) (Ze (Zc (Zu J ?_ ?_)))))
          ·intro c11;refine Zg (Zb (Za J (Zd J) ?_));refine Ye fn274 J J 2 J hu hF (Ti u b x k ⟨#[105,105]⟩ hk (by decide) (by show k.gr.length+2≤4000000;omega)) ?_;rintro v cs' R' ⟨rfl,k1,rfl,hR,hk1,hg1,hst1,hs1⟩;rw [Nm] at hs1;replace hg1:k1.gr.length≤k.gr.length+2:=hg1;refine Zz hR ?_;refine Ze (Zc (Zb (Za J (Zd J) (Za J (Zv (tn J) J 0 J J) ?_))));refine Ye S7 J J 2 J hu hF (Vt u b x k1 Yx hk1 ⟨by show Wc 1;unfold Wc;decide,by show X5 At.mt;unfold X5 At.mt;decide⟩ (fun _=>by show ¬ (1:Int)=4;decide) (by omega)) ?_;rintro v cs' R' ⟨rfl,k2,rfl,hR,hk2,hg2,hst2,hs2⟩;refine Zz hR ?_;refine Ze (Zt (Xa J 2 J ?_));exact ((((Go1.mk hk1 hg1 hst1 hs1).then (Go1.mk hk2 hg2 hst2 hs2)).as (fun s _=>pl9 (by omega))).mono (by omega) (by omega)).okF
          ·intro c11;refine Zg (Zg (Zb (Za J (Ya J J) (Za J (Zf J) (Ze (Zc (Zu J ?_ ?_)))))))
           ·intro c12;refine Zo (Zc (Yh J (Zb (Za J (Zd J) ?_))));refine Ye fn274 J J 2 J hu hF (Ti u b x k ⟨#[105]⟩ hk (by decide) (by show k.gr.length+1≤4000000;omega)) ?_;rintro v cs' R' ⟨rfl,k1,rfl,hR,hk1,hg1,hst1,hs1⟩;rw [ty105] at hs1;replace hg1:k1.gr.length≤k.gr.length+1:=hg1;refine Zz hR ?_;refine Ze (Zt (Xa J 2 J ?_));exact (((Go1.mk hk1 hg1 hst1 hs1).as (fun s _=>pl11 (by omega))).mono (by omega) (by omega)).okF
           ·intro c12;refine Zb (Za J (Ya J J) (Za J (Zf J) (Ze (Zc (Zu J ?_ ?_)))))
            ·intro c13;refine Zb (Za J (Zd J) ?_);refine Ye fn274 J J 2 J hu hF (Ti u b x k ⟨#[105]⟩ hk (by decide) (by show k.gr.length+1≤4000000;omega)) ?_;rintro v cs' R' ⟨rfl,k1,rfl,hR,hk1,hg1,hst1,hs1⟩;rw [ty105] at hs1;replace hg1:k1.gr.length≤k.gr.length+1:=hg1;refine Zz hR ?_;refine Ze (Zt (Xa J 2 J ?_));exact (((Go1.mk hk1 hg1 hst1 hs1).as (fun s _=>pl27 (by omega))).mono (by omega) (by omega)).okF
            ·intro c13;refine Zg (Zb (Za J (Ya J J) (Za J (Zf J) (Ze (Zc (Zu J ?_ ?_))))))
             ·intro c14;refine Zb (Za J (Zd J) ?_);refine Ye fn274 J J 2 J hu hF (Ti u b x k ⟨#[105,105]⟩ hk (by decide) (by show k.gr.length+2≤4000000;omega)) ?_;rintro v cs' R' ⟨rfl,k1,rfl,hR,hk1,hg1,hst1,hs1⟩;rw [Nm] at hs1;replace hg1:k1.gr.length≤k.gr.length+2:=hg1;refine Zz hR ?_;refine Ze (Zt (Xa J 2 J ?_));exact (((Go1.mk hk1 hg1 hst1 hs1).as (fun s _=>pl12 (by omega))).mono (by omega) (by omega)).okF
             ·intro c14;refine Zg (Zb (Za J (Ya J J) (Za J (Zf J) (Ze (Zc (Zu J ?_ ?_))))))
              ·intro c15;refine Zg (Zb (Za J (Zd J) ?_));refine Ye fn273 J J 2 J hu hF (M0 u b x k hk) ?_;rintro v cs' R' ⟨tt,k0,rfl,rfl,hR,hk0,hg0,hl0,hst0,hto,hs0'⟩;refine Zz hR ?_;refine Yk J (tz J) ?_;intro b3 hb3;refine Z2 (tn J) J J 0 J J J J (Ze (Zc (Zb (Za J (Zd J) (Za J (Zh (ff J) J) (Za J (Zj (t1 J) J (Zi 0 J J)) (Za J (Ya J J) (Za J (Zd J) (Z9 J J J ?_ ?_)))))))))
               ·intro h1;refine Zm J J J (Zm J J J (Zm J J J (Za J (Zp J J) (Za J (Zd J) (Zm J J J (Zm J J J (Zm J J J (Za J (Zp J J) ?_))))))));refine Ye Ru J J 3 J hu hF (Vh u b x k0 _) ?_;rintro v cs' R' ⟨rfl,rfl,hR⟩;refine Zz hR ?_;refine Ze (Zt (Xa J 3 J ?_));exact (((M2 hk0 hg0 hst0 hs0' (k3251 (by assumption))).as (fun s _=>pl13 (by omega))).mono (by omega) (by omega)).okF
               ·intro h1;refine Zk J J J (Zh (ff J) J) (Zk J J J (Zj (t1 J) J (Zi 0 J J)) (Zk J J J (Ya J J) (Za J (Zs J J) (Za J (Zd J) (Z9 J J J ?_ ?_)))))
                ·intro h2;refine Zm J J J (Zm J J J (Zm J J J (Za J (Zp J J) ?_)));refine Ye Ru J J 3 J hu hF (Vh u b x k0 _) ?_;rintro v cs' R' ⟨rfl,rfl,hR⟩;refine Zz hR ?_;refine Ze (Zt (Xa J 3 J ?_));exact (((M2 hk0 hg0 hst0 hs0' (k3252 (by assumption))).as (fun s _=>pl13 (by omega))).mono (by omega) (by omega)).okF
                ·intro h2;refine Zk J J J (Zh (ff J) J) (Zk J J J (Zj (t1 J) J (Zi 0 J J)) (Zk J J J (Ya J J) (Za J (Zs J J) ?_)));refine Ye Ru J J 3 J hu hF (Vh u b x k0 _) ?_;rintro v cs' R' ⟨rfl,rfl,hR⟩;refine Zz hR ?_;refine Ze (Zt (Xa J 3 J ?_));exact (((M2 hk0 hg0 hst0 hs0' (k3255 (by assumption) (by assumption))).as (fun s _=>pl13 (by omega))).mono (by omega) (by omega)).okF
              ·intro c15;refine Zg (Zb (Za J (Ya J J) (Za J (Zf J) (Ze (Zc (Zu J ?_ ?_))))))
               ·intro c16;refine Zb (Za J (Zd J) (Za J (Z8 (tb J) J J) ?_));refine Ye S7 J J 2 J hu hF (Vt u b x k nullT hk ⟨by show Wc 5;unfold Wc;decide,by show X5 At.mt;unfold X5 At.mt;decide⟩ (fun _=>by show ¬ (5:Int)=4;decide) (by omega)) ?_;rintro v cs' R' ⟨rfl,k1,rfl,hR,hk1,hg1,hst1,hs1⟩;refine Zz hR ?_;refine Ze (Zt (Xa J 2 J ?_));exact (((Go1.mk hk1 hg1 hst1 hs1).as (fun s _=>pl14 (by omega))).mono (by omega) (by omega)).okF
               ·intro c16;refine Zg (Zb (Za J (Ya J J) (Za J (Zf J) (Ze (Zc (Zu J ?_ ?_))))))
                ·intro c17;refine Zb (Za J (Zd J) (Za J (Zd J) (Za J (Zw J) (Za J (Zh (ff J) J) (Za J (Zh (ff J) J) (Za J (Zh (ff J) J) (Za J (Zj (t1 J) J (Zi 2 J J)) (Za J (Ya J J) ?_))))))));refine Ye Ru J J 2 J hu hF (Vh u b x k _) ?_;rintro v cs' R' ⟨rfl,rfl,hR⟩;refine Zz hR ?_;refine Ze (Zt (Xa J 2 J ?_));exact (((Mp hk _).as (fun s _=>pl22 (by omega))).mono (by omega) (by omega)).okF
                ·intro c17;refine Zg (Zb (Za J (Ya J J) (Za J (Zf J) (Ze (Zc (Zu J ?_ ?_))))))
                 ·intro c18;refine Zg (Zb (Za J (Zd J) (Za J (Zd J) (Za J (Zw J) (Za J (Zh (ff J) J) (Za J (Zh (ff J) J) (Za J (Zh (ff J) J) (Za J (Zj (t1 J) J (Zi 2 J J)) (Za J (T3 J J) ?_)))))))));refine Ye Ru J J 2 J hu hF (Vh u b x k _) ?_;rintro v cs' R' ⟨rfl,rfl,hR⟩;refine Zz hR ?_;refine Ze (Zc (Zg (Zb (Za J (Zd J) (Za J (Zw J) (Za J (Zh (ff J) J) (Za J (Zj (t1 J) J (Zi 2 J J)) (Za J (Xv J) (Ze (Zc (W4 J ?_ ?_)))))))))))
                  ·intro c19;refine Zb (Za J (Zd J) (Za J (Zd J) (Za J (Zw J) (Za J (Zh (ff J) J) (Za J (Zh (ff J) J) (Za J (Zv (tn J) J 2 J J) ?_))))));refine Ye fn271 J J 2 J hu hF (Sl u b x _ x.m.result (Mp hk (!decide (x.m.result.kind=0))).ok hr (by show k.gr.length≤4000000;omega)) ?_;rintro v cs' R' ⟨rfl,k1,rfl,hR,hk1,hg1,hst1,hs1⟩;refine Zz hR ?_;refine Ze (Zt (Xa J 2 J ?_));exact ((((Mp hk (!decide (x.m.result.kind=0))).then (Go1.mk hk1 hg1 hst1 hs1)).as (fun s _=>pl23 (by omega))).mono (by omega) (by omega)).okF
                  ·intro c19;refine Zo (Zt (Xa J 2 J ?_));exact ((((Mp hk (!decide (x.m.result.kind=0))).dead (g:=Va x.c x.m.result) (not_false c19)).as (fun s _=>pl23 (by omega))).mono (by omega) (by omega)).okF
                 ·intro c18;refine Zg (Zb (Za J (Ya J J) (Za J (Zf J) (Ze (Zc (Zu J ?_ ?_))))))
                  ·intro c20;refine Zb (Za J (Zd J) (Yq fn107 J J (fun w' _=>Vd _ w') ?_));refine Ye fn271 J J 2 J hu hF (Sl u b x k (Xu thS) hk (by show ¬ (3:Int)=4;decide) (by omega)) ?_;rintro v cs' R' ⟨rfl,k1,rfl,hR,hk1,hg1,hst1,hs1⟩;refine Zz hR ?_;refine Ze (Zt (Xa J 2 J ?_));exact (((Go1.mk hk1 hg1 hst1 hs1).as (fun s _=>pl24 (by omega))).mono (by omega) (by omega)).okF
                  ·intro c20;refine Zg (Zb (Za J (Ya J J) (Za J (Zf J) (Ze (Zc (Zu J ?_ ?_))))))
                   ·intro c21;refine Zg (Zb (Za J (Zd J) ?_));refine Ye fn274 J J 2 J hu hF (Ti u b x k ⟨#[105]⟩ hk (by decide) (by show k.gr.length+1≤4000000;omega)) ?_;rintro v cs' R' ⟨rfl,k1,rfl,hR,hk1,hg1,hst1,hs1⟩;rw [ty105] at hs1;replace hg1:k1.gr.length≤k.gr.length+1:=hg1;refine Zz hR ?_;refine Ze (Zc (Zb (Za J (Zd J) (Za J (Z8 (tb J) J J) ?_))));refine Ye S7 J J 2 J hu hF (Vt u b x k1 Uh hk1 ⟨by show Wc 2;unfold Wc;decide,by show X5 At.mt;unfold X5 At.mt;decide⟩ (fun _=>by show ¬ (2:Int)=4;decide) (by omega)) ?_;rintro v cs' R' ⟨rfl,k2,rfl,hR,hk2,hg2,hst2,hs2⟩;refine Zz hR ?_;refine Ze (Zt (Xa J 2 J ?_));exact ((((Go1.mk hk1 hg1 hst1 hs1).then (Go1.mk hk2 hg2 hst2 hs2)).as (fun s _=>pl29 (by omega))).mono (by omega) (by omega)).okF
                   ·intro c21;refine Zg (Zb (Za J (Ya J J) (Za J (Zf J) (Ze (Zc (Zu J ?_ ?_))))))
                    ·intro c22;refine Zg (Zb (Za J (Zd J) ?_));refine Ye fn274 J J 2 J hu hF (Ti u b x k ⟨#[114,105]⟩ hk (by decide) (by show k.gr.length+2≤4000000;omega)) ?_;rintro v cs' R' ⟨rfl,k1,rfl,hR,hk1,hg1,hst1,hs1⟩;rw [ty114x105] at hs1;replace hg1:k1.gr.length≤k.gr.length+2:=hg1;refine Zz hR ?_;refine Ze (Zc (Zb (Za J (Zd J) (Za J (Zv (tn J) J 0 J J) ?_))));refine Ye S7 J J 2 J hu hF (Vt u b x k1 Yx hk1 ⟨by show Wc 1;unfold Wc;decide,by show X5 At.mt;unfold X5 At.mt;decide⟩ (fun _=>by show ¬ (1:Int)=4;decide) (by omega)) ?_;rintro v cs' R' ⟨rfl,k2,rfl,hR,hk2,hg2,hst2,hs2⟩;refine Zz hR ?_;refine Ze (Zt (Xa J 2 J ?_));exact ((((Go1.mk hk1 hg1 hst1 hs1).then (Go1.mk hk2 hg2 hst2 hs2)).as (fun s _=>pl30 (by omega))).mono (by omega) (by omega)).okF
                    ·intro c22;refine Zg (Zb (Za J (Ya J J) (Za J (Zf J) (Ze (Zc (Zu J ?_ ?_))))))
                     ·intro c23;refine Zb (Za J (Zd J) ?_);refine Ye fn274 J J 2 J hu hF (Ti u b x k ⟨#[114,105,105]⟩ hk (by decide) (by show k.gr.length+3≤4000000;omega)) ?_;rintro v cs' R' ⟨rfl,k1,rfl,hR,hk1,hg1,hst1,hs1⟩;rw [ty114x105x105] at hs1;replace hg1:k1.gr.length≤k.gr.length+3:=hg1;refine Zz hR ?_;refine Ze (Zt (Xa J 2 J ?_));exact (((Go1.mk hk1 hg1 hst1 hs1).as (fun s _=>pl31 (by omega))).mono (by omega) (by omega)).okF
                     ·intro c23;refine Zg (Zb (Za J (Ya J J) (Za J (Zf J) (Ze (Zc (Zu J ?_ ?_))))))
                      ·intro c24;refine Zg (Zb (Za J (Zd J) ?_));refine Ye fn274 J J 2 J hu hF (Ti u b x k ⟨#[114]⟩ hk (by decide) (by show k.gr.length+1≤4000000;omega)) ?_;rintro v cs' R' ⟨rfl,k1,rfl,hR,hk1,hg1,hst1,hs1⟩;rw [ty114] at hs1;replace hg1:k1.gr.length≤k.gr.length+1:=hg1;refine Zz hR ?_;refine Ze (Zc (Zb (Za J (Zd J) (Za J (Zv (tn J) J 0 J J) ?_))));refine Ye S7 J J 2 J hu hF (Vt u b x k1 Yx hk1 ⟨by show Wc 1;unfold Wc;decide,by show X5 At.mt;unfold X5 At.mt;decide⟩ (fun _=>by show ¬ (1:Int)=4;decide) (by omega)) ?_;rintro v cs' R' ⟨rfl,k2,rfl,hR,hk2,hg2,hst2,hs2⟩;refine Zz hR ?_;refine Ze (Zt (Xa J 2 J ?_));exact ((((Go1.mk hk1 hg1 hst1 hs1).then (Go1.mk hk2 hg2 hst2 hs2)).as (fun s _=>pl32 (by omega))).mono (by omega) (by omega)).okF
                      ·intro c24;refine Zo (Zt (Xa J 2 J ?_));exact (((Go1.refl hk).as (fun s _=>by rcases (show op=0∨op=10 by omega) with h | h;exact pl0 h;exact pl10 h)).mono (by omega) (by omega)).okF
end
section
open Go Go.RowKit At E
theorem framed_alive {c:Cl} {m:Me} {pos:Int} {s s':St} (h:Wv c m pos s=some s'):s'.alive=true:=by
 unfold Wv at h;split at h
 ·split at h
  ·cases h;assumption
  ·cases h
 ·split at h
  ·cases h
  ·obtain ⟨_,_,rfl⟩:=Option.map_eq_some_iff.1 h;rfl
theorem gr_alive {s s':St} {o:Option (Set Bl)} (h:grF s o=some s'):s'.alive=s.alive:=by
 unfold grF at h;obtain ⟨_,_,rfl⟩:=Option.map_eq_some_iff.1 h;rfl
theorem meets_alive {c:Cl} {m:Me} {st:List Ty} {pos:Int} {s s':St} (h:Vf c m st pos s=some s'):s'.alive=s.alive:=by
 unfold Vf at h;split at h
 ·cases h
 ·split at h
  ·exact gr_alive h
  ·cases h
theorem hand_alive {c:Cl} {m:Me} {pos:Int}:∀ {l:List Hd} {s s':St},Vn c m pos l s=some s'→s'.alive=s.alive
 | [],s,s',h=>by cases h;rfl
 | hd::l,s,s',h=>by
  unfold Vn at h;obtain ⟨s1,h1,h2⟩:=Option.bind_eq_some_iff.1 h;rw [hand_alive h2];unfold Uu at h1;split at h1
  ·obtain ⟨s2,h3,h4⟩:=Option.bind_eq_some_iff.1 h1;rw [meets_alive h4,gr_alive h3]
  ·cases h1;rfl
theorem pop_alive {s s':St} {t:Ty} (h:V9 s=some (t,s')):s'.alive=s.alive:=(pop_of h).2.2.1
theorem take_alive {c:Cl} {t:Ty} {s s':St} (h:Va c t s=some s'):s'.alive=s.alive:=by
 unfold Va at h;obtain ⟨⟨t',s1⟩,h1,h2⟩:=Option.bind_eq_some_iff.1 h;rw [gr_alive h2];exact pop_alive h1
theorem takes_alive {c:Cl}:∀ {l:List Ty} {s s':St},Xe c l s=some s'→s'.alive=s.alive
 | [],s,s',h=>by cases h;rfl
 | t::l,s,s',h=>by
  unfold Xe at h;obtain ⟨s1,h1,h2⟩:=Option.bind_eq_some_iff.1 h;rw [take_alive h2,takes_alive h1]
theorem kind_alive {ks:List Int} {s s':St} (h:Qi ks s=some s'):s'.alive=s.alive:=by
 unfold Qi at h;obtain ⟨⟨t',s1⟩,h1,h2⟩:=Option.bind_eq_some_iff.1 h;split at h2
 ·cases h2;exact pop_alive h1
 ·cases h2
theorem lay_alive {m:Me} {t:Ty} {s s':St} (h:U1 m t s=some s'):s'.alive=s.alive:=by
 unfold U1 at h;split at h
 ·cases h;rfl
 ·cases h
theorem layV_alive {m:Me} {t:Ty} {s s':St} (h:Vw m t s=some s'):s'.alive=s.alive:=by
 unfold Vw at h;split at h
 ·cases h;rfl
 ·exact lay_alive h
theorem Uv {f g:St→Option St} (hf:∀ s s',f s=some s'→s'.alive=s.alive) (hg:∀ s s',g s=some s'→s'.alive=s.alive) {s s':St} (h:(f s).bind g=some s'):s'.alive=s.alive:=by
 obtain ⟨s1,h1,h2⟩:=Option.bind_eq_some_iff.1 h;rw [hg _ _ h2,hf _ _ h1]
theorem op_alive {c:Cl} {m:Me} {i:Ins} {s s':St} (h:opF c m i s=some s'):s'.alive=s.alive:=by
 have T:∀ t s s',Va c t s=some s'→s'.alive=s.alive:=fun _ _ _ h=>take_alive h;have Ts:∀ l s s',Xe c l s=some s'→s'.alive=s.alive:=fun _ _ _ h=>takes_alive h;have L:∀ t s s',U1 m t s=some s'→s'.alive=s.alive:=fun _ _ _ h=>lay_alive h;have V:∀ t s s',Vw m t s=some s'→s'.alive=s.alive:=fun _ _ _ h=>layV_alive h;have K:∀ ks s s',Qi ks s=some s'→s'.alive=s.alive:=fun _ _ _ h=>kind_alive h;unfold opF at h;split at h
 ·exact L _ _ _ h
 ·unfold loadF at h;split at h
  ·cases h
  ·split at h
   ·cases h
   ·exact L _ _ _ h
 ·unfold P8 at h;obtain ⟨⟨t,s1⟩,h1,rfl⟩:=Option.map_eq_some_iff.1 h;show s1.alive=s.alive;exact pop_alive h1
 ·obtain ⟨⟨t,s1⟩,h1,rfl⟩:=Option.map_eq_some_iff.1 h;exact pop_alive h1
 ·obtain ⟨⟨t,s1⟩,h1,h2⟩:=Option.bind_eq_some_iff.1 h;exact L _ _ _ h2
 iterate 4 (· exact Uv (Ts _) (L _) h)
 ·exact Ts _ _ _ h
 ·exact Ts _ _ _ h
 ·exact K _ _ _ h
 ·exact L _ _ _ h
 ·exact L _ _ _ h
 ·exact Uv (T _) (V _) h
 ·exact Uv (T _) (T _) h
 ·exact V _ _ _ h
 ·exact T _ _ _ h
 ·exact Uv (fun s s' h=>Uv (Ts _) (T _) h) (V _) h
 ·exact Uv (Ts _) (V _) h
 ·split at h
  ·cases h;rfl
  ·cases h
 ·split at h
  ·cases h
  ·exact T _ _ _ h
 ·exact T _ _ _ h
 ·exact Uv (K _) (L _) h
 ·exact Uv (K _) (L _) h
 ·exact Ts _ _ _ h
 ·exact L _ _ _ h
 ·exact Uv (Ts _) (L _) h
 ·exact Uv (Ts _) (L _) h
 ·exact Ts _ _ _ h
 ·exact Uv (Ts _) (L _) h
 ·cases h;rfl
theorem goes_alive {c:Cl} {m:Me} {i:Ins} {s s':St} (h:N8 c m i s=some s'):s'.alive=s.alive:=by
 unfold N8 at h;split at h
 ·exact meets_alive h
 ·cases h;rfl
def endF (i:Ins) (s:St):Option St:=some (if endsB i.op then { s with alive:=false } else s)
theorem Mt {c:Cl} {m:Me} {pos:Nat} {i:Ins} (s:St):(((((Wv c m pos s).bind (Vn c m pos m.handlers)).bind (opF c m i)).bind (N8 c m i)).bind (endF i)).bind (N2 m pos)=R5 c m pos i s:=by
 unfold R5 doF;cases h1:Wv c m pos s with
 | none=>rfl
 | some s1 =>
  show (((((Vn c m pos m.handlers s1)).bind (opF c m i)).bind (N8 c m i)).bind (endF i)).bind (N2 m pos)=_;cases h2:Vn c m pos m.handlers s1 with
  | none=>simp [h2]
  | some s2 =>
   simp only [Option.bind_some,h2];cases h3:opF c m i s2 with
   | none=>rfl
   | some s3 =>
    simp only [Option.bind_some];cases h4:N8 c m i s3 with
    | none=>rfl
    | some s4 =>
     simp only [Option.bind_some,Option.map_some,endF];have ha:s4.alive=true:=by rw [goes_alive h4,op_alive h3,hand_alive h2];exact framed_alive h1
     by_cases he:endsB i.op=true
     ·rw [if_pos he,he];rfl
     ·rw [if_neg he];have he':endsB i.op=false:=by simpa using he
      rw [he'];congr 1;cases s4;simp_all
theorem end_go {x:CkX} {k:CkM} {i:Ins} (hk:CkOk x k) (h:endsB i.op=true):Go1 x k { k with alive:=false } 0 0 (endF i):=by
 refine ⟨⟨hk.lo,hk.srt,fun s hs=>?_⟩,Nat.le_refl _,Nat.le_refl _,?_⟩
 ·cases hb:k.bad with
  | true=>rw [hb] at hs;cases hs
  | false=>have h1:=hk.ok _ (Xi hb);rw [hb] at hs;cases hs;exact ⟨h1.len,h1.st,h1.lo⟩
 ·cases hb:k.bad with
  | true=>rw [Vu hb];rfl
  | false=>rw [Xi hb];show _=endF i _;unfold endF;rw [if_pos h];rfl
theorem end_no {x:CkX} {k:CkM} {i:Ins} (hk:CkOk x k) (h:¬ endsB i.op=true):Go1 x k k 0 0 (endF i):=(Go1.refl hk).as fun s _=>by unfold endF;rw [if_neg h]
theorem last_go {x:CkX} {k:CkM} {pos:Nat} {is:Bool} (hk:CkOk x k) (h:is=(decide (pos+1<x.m.code.length) || !k.alive)):Go1 x k { k with bad:=k.bad || !is } 0 0 (N2 x.m pos):=(Mp hk is).as fun s hs=>by
 have ha:s.alive=k.alive:=by
  unfold sem at hs;split at hs
  ·cases hs
  ·cases hs;rfl
 subst h;unfold wantF N2;rw [ha];by_cases h1:pos+1<x.m.code.length<;>cases k.alive<;>simp [h1]
theorem me_ins {m:Me} {pos:Nat} {i:Ins} (h:Yt m=true) (hi:m.code[pos]?=some i):Y5 i m.locals m.code.length=true:=by
 unfold Yt at h;simp only [Bool.and_eq_true] at h;exact List.all_eq_true.1 h.1.1.2 i (List.mem_of_getElem? hi)
theorem Nx {m:Me} (h:Yt m=true):m.locals≤20∧m.stack≤20∧m.handlers.length≤10∧m.code.length≤200∧1≤m.code.length∧X7 m.result true false=true∧Wo m.params false=true∧Qt m≤m.locals:=by
 unfold Yt V7 at h;simp only [Bool.and_eq_true,decide_eq_true_eq] at h;obtain ⟨⟨⟨⟨⟨⟨⟨⟨⟨⟨⟨⟨⟨⟨h1,h2⟩,h3⟩,h4⟩,h5⟩,h6⟩,h7⟩,h8⟩,h9⟩,h10⟩,h11⟩,h12⟩,h13⟩,h14⟩,h15⟩:=h;exact ⟨h6,h8,by omega,by omega,by omega,h3,h2,h5⟩
theorem ty_not4 {t:Ty} {v:Bool} (h:X7 t v false=true):¬ t.kind=4:=by
 intro h4;unfold X7 at h;rw [if_neg (by omega),if_neg (by omega),if_neg (by omega),if_pos (by omega)] at h;simp at h
theorem tys_not4 {l:List Ty} (h:Wo l false=true):∀ t ∈ l,¬ t.kind=4:=fun t ht=>ty_not4 (List.all_eq_true.1 h t ht)
theorem sort_cases (op:Int):(Xk op=1∧op=1)∨(Xk op=2∧(op=2∨op=3))∨(Xk op=3∧(op=10∨op=11∨op=12∨op=13))∨(Xk op=4∧(op=15∨op=25∨op=26))∨(Xk op=5∧16≤op∧op≤19)∨(Xk op=6∧(op=20∨op=21))∨(Xk op = -1∧(op<0∨32<op))∨(Xk op=0∧0≤op∧op≤32∧¬ op=1∧¬ op=2∧¬ op=3∧¬ (10≤op∧op≤13)∧¬ (15≤op∧op≤21)∧¬ op=25∧¬ op=26):=by
 unfold Xk;by_cases h1:op=1
 ·rw [if_pos h1];exact .inl ⟨J,h1⟩
 rw [if_neg h1];by_cases h2:op=2∨op=3
 ·rw [if_pos h2];exact .inr (.inl ⟨J,h2⟩)
 rw [if_neg h2];by_cases h3:op=10∨op=11∨op=12∨op=13
 ·rw [if_pos h3];exact .inr (.inr (.inl ⟨J,h3⟩))
 rw [if_neg h3];by_cases h4:op=15∨op=25∨op=26
 ·rw [if_pos h4];exact .inr (.inr (.inr (.inl ⟨J,h4⟩)))
 rw [if_neg h4];by_cases h5:op=16∨op=17∨op=18∨op=19
 ·rw [if_pos h5];exact .inr (.inr (.inr (.inr (.inl ⟨J,by omega,by omega⟩))))
 rw [if_neg h5];by_cases h6:op=20∨op=21
 ·rw [if_pos h6];exact .inr (.inr (.inr (.inr (.inr (.inl ⟨J,h6⟩)))))
 rw [if_neg h6];by_cases h7:op<0∨32<op
 ·rw [if_pos h7];exact .inr (.inr (.inr (.inr (.inr (.inr (.inl ⟨J,h7⟩))))))
 rw [if_neg h7];exact .inr (.inr (.inr (.inr (.inr (.inr (.inr ⟨J,by omega,by omega,h1,by omega,by omega,by omega,by omega,by omega,by omega⟩))))))
theorem ins_named {i:Ins} {l:Int} {n:Nat} (h:Y5 i l n=true) (hs:3<Xk i.op):(15≤i.op∧i.op≤21∨i.op=25∨i.op=26)∧i.ref.params.length≤6∧(∀ t ∈ i.ref.params,¬ t.kind=4)∧¬ i.ref.ty.kind=4:=by
 have hc:=sort_cases i.op;refine ⟨by omega,?_⟩;unfold Y5 at h;rw [if_neg (by omega),if_neg (by omega)] at h;split at h
 ·cases h
 ·split at h
  ·simp only [Bool.and_eq_true,decide_eq_true_eq] at h;have h0:i.ref.params=[]:=List.eq_nil_of_length_eq_zero (by omega);rw [h0];exact ⟨by simp,by simp,by omega⟩
  ·split at h
   ·simp only [Bool.and_eq_true,decide_eq_true_eq] at h;have h0:i.ref.params=[]:=List.eq_nil_of_length_eq_zero (by omega);rw [h0];exact ⟨by simp,by simp,ty_not4 h.2⟩
   ·simp only [Bool.and_eq_true,decide_eq_true_eq] at h;exact ⟨by omega,tys_not4 h.1.2,ty_not4 h.2⟩
theorem ins_plain {i:Ins} {l:Int} {n:Nat} (h:Y5 i l n=true) (hs:¬ 3<Xk i.op):(0≤i.op∧i.op≤14∨22≤i.op∧i.op≤24∨27≤i.op∧i.op≤32)∧(i.op=2∨i.op=3→0≤i.n∧i.n<l):=by
 have hc:=sort_cases i.op;unfold Y5 at h;by_cases h0:Xk i.op<0
 ·rw [if_pos h0] at h;cases h
 ·rw [if_neg h0,if_pos (by omega)] at h;refine ⟨by omega,fun ho=>?_⟩;split at h
  ·cases h
  ·rw [if_neg (by omega),if_pos (by omega)] at h;simp only [Bool.and_eq_true,decide_eq_true_eq] at h;exact h
structure HdL where
 n:Nat
 k:CkM
theorem hand_snoc {c:Cl} {m:Me} {pos:Int} {l:List Hd} {n:Nat} {h:Hd} (hn:l[n]?=some h) (s:St):Vn c m pos (l.take (n+1)) s=(Vn c m pos (l.take n) s).bind (Uu c m pos h):=by
 rw [List.take_add_one,hn,handFapp];congr 1;funext s'
 show (Uu c m pos h s').bind some=_;cases Uu c m pos h s'<;>rfl
theorem hand_no {c:Cl} {m:Me} {pos:Int} {h:Hd} (hn:¬ (h.lo≤pos∧pos<h.hi)) (s:St):Uu c m pos h s=some s:=by unfold Uu;rw [if_neg hn]
theorem hand_fit {x:CkX} {k:CkM} {t:Ty} {gr':List Bl} {gv':Value} (hk:CkOk x k) (hb:k.bad=false) (ht:t.kind=3) (hs2:Srt gr') (hl:gr'.length≤k.gr.length+1) (hm:∀ y,y ∈ gr'↔y ∈ k.gr∨Ul x.c false t (Xu thS)=some (some y)) :
  Go1 x k { k with gr:=gr',gv:=gv',bad:=k.bad || !(Ul x.c false t (Xu thS)).isSome } 1 0 (fun s=>grF s (Sb x.c (t,Xu thS) s.gr)):=by
 have h4:¬ (Xu thS).kind=4:=by show ¬ (3:Int)=4;decide
 rw [fitsQ_no h4] at hm ⊢;refine ⟨ok_gr hk hb hs2,hl,Nat.le_add_right _ _,?_⟩;rw [Xi hb];exact fit_sem h4 hb hm
end
end Go.Proofs.YtpofmnfkdkmieaaGreat
