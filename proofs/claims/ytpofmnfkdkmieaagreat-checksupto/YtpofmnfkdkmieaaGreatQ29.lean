/- What is proved here: the document's own Checker: types are ta -/
import Derived.Test.YtpofmnfkdkmieaaGreatQ28
import Derived.Test.YtpofmnfkdkmieaaGreatQ15
set_option linter.unusedVariables false
set_option linter.unusedSimpArgs false
namespace Go.Proofs.YtpofmnfkdkmieaaGreat
section
open Go Go.RowKit At E
theorem all_nil {α:Type} {p:α→Prop}:∀ i ∈ ([]:List α),p i:=fun _ h=>by cases h
theorem all_cons {α:Type} {p:α→Prop} {a:α} {l:List α} (h:p a) (h':∀ i ∈ l,p i):∀ i ∈ a::l,p i:=fun i hi=>by
 rcases List.mem_cons.1 hi with rfl | hi
 ·exact h
 ·exact h' i hi
def holdA (b:Nat) (x:CkX) (k:CkM):Asr:=⟨[b],fun w=>∃ gv bd t,w.heap[b]?=some (.cells (ckC x { k with gv:=gv,bad:=bd }).toArray t (0,0)),fun w w' h hk=>by
 obtain ⟨gv,bd,t,h⟩:=h;exact ⟨gv,bd,t,by rw [hk b (by simp)];exact h⟩⟩
theorem Xd {w0 w:World} {F:List Nat} {H H1:Hp} {R Rk:Asr} {b:Nat} {x:CkX} {k:CkM} (hs:Sat w0 F H R w) (i:Nat) {gv:Value} {bd:Bool} (hp:H[i]?=some (b,ckC x { k with gv:=gv,bad:=bd })) (hR:R.Imp Rk) (hH:H1=H.take i):Sat w0 F H1 (Rk.and (holdA b x k)) w:=by
 subst hH;have hm:=List.mem_of_getElem? hp;have hsub:∀ p ∈ H.take i,p ∈ H:=fun p hp=>List.mem_of_mem_take hp;refine ⟨hs.low,fun p hp=>hs.own p (hsub p hp),fun p hp=>hs.hi p (hsub p hp),by rw [List.map_take];exact hs.apart.sublist (List.take_sublist _ _),⟨hR.a w hs.res,?_,?_⟩,?_,?_⟩
 ·obtain ⟨t,ht⟩:=hs.own _ hm;exact ⟨gv,bd,t,ht⟩
 ·intro j hj hb;simp only [holdA,List.mem_singleton] at hb;subst hb;exact hs.rapart _ hm (hR.s j hj)
 ·intro j hj;rcases List.mem_append.1 hj with hj | hj
  ·exact hs.rhi j (hR.s j hj)
  ·simp only [holdA,List.mem_singleton] at hj;subst hj;exact ⟨hs.hi _ hm,hs.lt hm⟩
 ·intro p hpm hj;rcases List.mem_append.1 hj with hj | hj
  ·exact hs.rapart p (hsub p hpm) (hR.s _ hj)
  ·simp only [holdA,List.mem_singleton] at hj;obtain ⟨q,hq⟩:=List.mem_iff_getElem?.1 hpm;have hqi:q<i:=by have:=Wa hq;rw [List.length_take] at this;omega
   rw [List.getElem?_take,if_pos hqi] at hq;have h1:(H.map (·.1))[i]?=some b:=by rw [List.getElem?_map,hp];rfl
   have h2:(H.map (·.1))[q]?=some b:=by rw [List.getElem?_map,hq,← hj];rfl
   have:=Pv hs.apart h1 h2;omega
theorem cell_hold {w0:World} {F:List Nat} {H:Hp} {Rk:Asr} {b j:Nat} {x:CkX} {k:CkM} {v:Value} (hv:∀ gv bd,(ckC x { k with gv:=gv,bad:=bd })[j]?=some v):Cell w0 F H (Rk.and (holdA b x k)) ⟨b,j,none⟩ v:=⟨fun w hs=>by
 obtain ⟨gv,bd,t,h⟩:=hs.res.2.1;have:=hv gv bd;simp only [World.cell?,h]
 simpa using this⟩
theorem WC_hold {P:Program} {n:Nat} {E:Env} {w0 u:World} {F:List Nat} {H:Hp} {fn:Func} {Z:Ending→World→Prop} {κ:List Kf} {b:Nat} {x:CkX} {k:CkM} (i:Nat) (_:H[i]?=some (b,ckC x k)) {id:Nat} {l:List Oper} (hm:P.follows .mixedOrders=true)
  (h:WH w0 F (H.take i) ((ckL u k).and (holdA b x k)) P n l.toArray l.length (Array.replicate l.length false) E w0 F H (ckA u k) fn Z κ):WC P n (.region id l.toArray true) E w0 F H (ckA u k) fn Z κ:=O7 w0 F (H.take i) ((ckL u k).and (holdA b x k)) hm h
theorem ro_rows {w0:World} {F:List Nat} {H:Hp} {R:Asr} {p:Option Addr} {n c:Nat} {l:List Ty} (hp:0<l.length→∃ b o,p=some ⟨b,o,none⟩) (h:∀ w,Sat w0 F H R w→Yu w (.slice p n c) l):0<l.length→∃ b o,p=some ⟨b,o,none⟩∧Row w0 F H R b o (l.flatMap tyV):=by
 intro h0;obtain ⟨b,o,rfl⟩:=hp h0;refine ⟨b,o,J,⟨fun w hs j v hj=>?_⟩⟩;have hlen:(l.flatMap tyV).length=l.length*2:=U7 tyV 2 l (fun _ _=>rfl);have hjl:j<l.length*2:=by rw [← hlen];exact Wa hj
 have hi:j/2<l.length:=by omega
 have hg:=Mc tyV 2 l (fun _ _=>rfl) (j/2) (j % 2) l[j/2] _ (List.getElem?_eq_getElem hi) (List.getElem?_eq_getElem (show j % 2<(tyV l[j/2]).length from Nat.mod_lt _ (by decide)));have he:j/2*2+j % 2=j:=by omega
 rw [he,hj] at hg;cases hg;have:=(R6 (u:=w) h (List.getElem?_eq_getElem hi)).go w hs (j % 2) _ (List.getElem?_eq_getElem (show j % 2<(tyV l[j/2]).length from Nat.mod_lt _ (by decide)));rw [show o+j/2*2+j % 2=o+j by omega] at this;exact this
theorem tyV_all (l:List Ty):(l.flatMap tyV).all (·.oneCell')=true:=by
 rw [List.all_eq_true];intro x hx;obtain ⟨t,_,ht⟩:=List.mem_flatMap.1 hx;simp only [tyV,List.mem_cons,List.not_mem_nil,or_false] at ht;rcases ht with rfl | rfl<;>rfl
theorem Ox (l:List Ty):(l.flatMap tyV).length=l.length*2:=U7 tyV 2 l (fun _ _=>rfl)
theorem fitsQ_no {c:Cl} {a b:Ty} (h:¬ b.kind=4) (loc:Bool):Ul c loc a b=Wq c a b:=by unfold Ul;rw [if_neg h]
theorem Xi {k:CkM} (h:k.bad=false):sem k=some ⟨fun x=>x ∈ k.gr,k.lo,k.st,k.alive⟩:=by unfold sem;rw [h];rfl
theorem Vu {k:CkM} (h:k.bad=true):sem k=none:=by unfold sem;rw [h];rfl
theorem take_bind {c:Cl} {t:Ty} {o:Option St}:o.bind (Va c t)=(o.bind V9).bind fun r=>grF r.2 (Sb c (r.1,t) r.2.gr):=by
 cases o<;>rfl
theorem gr_set {o:Option Bl} {gr gr':List Bl} (hm:∀ y,y ∈ gr'↔y ∈ gr∨(some o:Option (Option Bl))=some (some y)):(fun x=>x ∈ gr')=addO o (fun x=>x ∈ gr):=by
 funext y
 simp only [addO,eq_iff_iff];rw [hm y];simp
theorem fit_sem {x:CkX} {k:CkM} {s t:Ty} {gr':List Bl} {gv':Value} (ht:¬ t.kind=4) (hb:k.bad=false) (hm:∀ y,y ∈ gr'↔y ∈ k.gr∨Wq x.c s t=some (some y)) :
  sem { k with gr:=gr',gv:=gv',bad:=k.bad || !(Wq x.c s t).isSome }=grF ⟨fun x=>x ∈ k.gr,k.lo,k.st,k.alive⟩ (Sb x.c (s,t) fun x=>x ∈ k.gr):=by
 unfold grF Sb;cases e:Wq x.c s t with
 | none=>rw [Vu (by rw [hb];rfl)];rfl
 | some o =>
  rw [e] at hm;rw [Xi (by simp [hb])];simp only [Option.map_some,gr_set hm]
theorem ok_gr {x:CkX} {k:CkM} {gr':List Bl} {gv':Value} {bd:Bool} (hk:CkOk x k) (hb:k.bad=false) (hs:Srt gr'):CkOk x { k with gr:=gr',gv:=gv',bad:=bd }:=by
 refine ⟨hk.lo,hs,fun s h=>?_⟩;have h1:=hk.ok _ (Xi hb);cases bd
 ·cases h;exact ⟨h1.len,h1.st,h1.lo⟩
 ·cases h
theorem take_end {u:World} {x:CkX} {k k1:CkM} {tt t:Ty} {gr':List Bl} {gv':Value} (hb:k1.bad=false) (ht:¬ t.kind=4) (hk1:CkOk x k1) (hs2:Srt gr') (hm:∀ y,y ∈ gr'↔y ∈ k1.gr∨Wq x.c tt t=some (some y)) (hl:gr'.length≤k.gr.length+1) (hst:k1.st.length≤k.st.length) (hs1:(sem k).bind V9=(sem k1).map fun s=>(tt,s)) :
  okF u x k (Va x.c t) 1 0 (.tuple #[]) (ckC x { k1 with gr:=gr',gv:=gv',bad:=k1.bad || !(Wq x.c tt t).isSome }) (ckA u { k1 with gr:=gr',gv:=gv' }):=by
 refine ⟨J,_,J,.refl _,ok_gr hk1 hb hs2,hl,hst,?_⟩;rw [take_bind,hs1,Xi hb];exact fit_sem ht hb hm
theorem Sl (u:World) (b:Nat) (x:CkX) (k:CkM) (t:Ty) (hk:CkOk x k) (ht:¬ t.kind=4) (hn:k.gr.length≤4000000) :
  RuP Tryz.prog 271 #[pt b,.agg (tyV t).toArray] u b (ckC x k) (ckA u k) (okF u x k (Va x.c t) 1 0):=by
 intro w hu hF hs0;replace hk:Hid _:=hk;refine Yz (hs0) (args:=[pt b,.agg (tyV t).toArray]) Tryz.func271 J Tryz.ntmps271 ?_;refine Zg (Zb (Y2 J J ?_));intro b1 hb1;refine Ze (Zc (Zg (Zb (Za J (Zd J) ?_))));refine Ye fn273 J J 1 J hu hF (M0 u b x k hk.out) ?_;rintro v cs' R' ⟨tt,k1,rfl,rfl,hR,hk1,hg1,hl1,hst1,hto,hs1⟩;refine Zz hR ?_;refine Yk J (tz J) ?_;intro b2 hb2;refine Z2 (tn J) J J 0 J J J J (Ze (Zc (Zg (Zb (Za J (Zd J) (Za J (Zw J) (Za J (Zh (ff J) J) (Za J (Zj (t1 J) J (Zi 2 J J)) (Za J (Xv J) (Ze (Zc (W4 J ?_ ?_))))))))))))
 ·intro c1;refine Zg (Zb (Za J (Zd J) (Za J (Zv (tn J) J 0 J J) (Za J (Zv (tn J) J 1 J J) ?_))));refine Ye fn170 J J 2 J hu hF (fits_any u b x k1 tt t false hk1.srt (by rw [hg1];exact hn)) ?_;rintro v cs' R' ⟨gr',gv',rfl,rfl,hR2,hs2,hl2,hm2⟩;refine Zz hR2 ?_;refine Za J (Zf J) (Ze (Zc (Zb (Za J (Zd J) (Za J (Zd J) ?_)))));refine Ye Ru J J 2 J hu hF (Vh u b x { k1 with gr:=gr',gv:=gv' } _) ?_;rintro v cs' R' ⟨rfl,rfl,hR3⟩;refine Zz hR3 ?_;refine Ze (Xa J 2 J ?_);rw [fitsQ_no ht] at hm2 ⊢;exact take_end (k1:=k1) (by simpa using c1) ht hk1 hs2 hm2 (by rw [← hg1];exact hl2) hst1 hs1
 ·intro c1;refine Zo (Xa J 2 J ?_);exact ⟨J,k1,J,.refl _,hk1,by rw [hg1];omega,hst1,by rw [take_bind,hs1,Vu (k:=k1) (by simpa using c1)];rfl⟩
theorem lay_ok {x:CkX} {k:CkM} {t:Ty} {sv:Value} {sb:List Nat} (hk:CkOk x k) (h0:¬ t.kind=0) (h4:k.bad=false→¬ t.kind=4) (bd:Bool) (hb:bd=(k.bad || !decide (((k.st.length+1:Nat):Int)≤x.m.stack))) :
  CkOk x { k with st:=k.st++[t],sv:=sv,sb:=sb,bad:=bd }∧sem { k with st:=k.st++[t],sv:=sv,sb:=sb,bad:=bd }=(sem k).bind (Vw x.m t):=by
 subst hb;cases hb:k.bad with
 | true =>
  refine ⟨⟨hk.lo,hk.srt,fun s h=>by cases h⟩,?_⟩;rw [Vu hb];rfl
 | false =>
  have h1:=hk.ok _ (Xi hb);rw [Xi hb];by_cases hlt:((k.st.length+1:Nat):Int)≤x.m.stack
  ·rw [decide_eq_true hlt];refine ⟨⟨hk.lo,hk.srt,fun s h=>?_⟩,?_⟩
   ·cases h;refine ⟨by show ((k.st++[t]).length:Int)≤_;rw [List.length_append];exact hlt,fun y hy=>?_,h1.lo⟩;rcases List.mem_append.1 hy with hy | hy
    ·exact h1.st y hy
    ·simp only [List.mem_singleton] at hy;subst hy;exact ⟨h0,h4 hb⟩
   ·show some _=Vw x.m t _;unfold Vw U1;rw [if_neg h0,if_pos (by show (k.st.length:Int)<_;omega)]
  ·rw [decide_eq_false hlt];refine ⟨⟨hk.lo,hk.srt,fun s h=>by cases h⟩,?_⟩;show none=Vw x.m t _;unfold Vw U1;rw [if_neg h0,if_neg (by show ¬ (k.st.length:Int)<_;omega)]
theorem lay_void {m:Me} {t:Ty} (h:t.kind=0) (o:Option St):o.bind (Vw m t)=o:=by
 cases o with
 | none=>rfl
 | some s=>show Vw m t s=_;unfold Vw;rw [if_pos h]
theorem lay_imp {u:World} {gr gv lo lv lb st sv sb al bd} {t:Ty} {v:Value} (ho:Q1 (st++[t])) :
  ((Y0 71 2 v (st.length+1) (st.flatMap tyV++tyV t)).and (ckA u ⟨gr,gv,lo,lv,lb,st,sv,sb,al,bd⟩)).Imp (ckA u ⟨gr,gv,lo,lv,lb,st++[t],v,v.ownBlock.toList,al,bd⟩):=by
 have e:(Y0 71 2 v (st.length+1) (st.flatMap tyV++tyV t)).Imp (roA u v.ownBlock.toList (Yu · v (st++[t]))):=by
  have:=tysA_ro (u:=u) (v:=v) ho;unfold T4 at this
  rwa [List.length_append,List.flatMap_append,List.flatMap_cons,List.flatMap_nil,List.append_nil] at this
 refine (Asr.Imp.left e).trans ?_;refine (Asr.Imp.right (Asr.Imp.right (Asr.fst _ _))).trans ?_;exact (Asr.swap _ _ _).trans (Asr.Imp.right (Asr.comm _ _))
theorem Vt (u:World) (b:Nat) (x:CkX) (k:CkM) (t:Ty) (hk:CkOk x k) (ht:Rz t) (h4:k.bad=false→¬ t.kind=4) (hst:k.st.length<1048576) :
  RuP Tryz.prog 272 #[pt b,.agg (tyV t).toArray] u b (ckC x k) (ckA u k) (okF u x k (Vw x.m t) 0 1):=by
 intro w hu hF hs0;obtain ⟨gr,gv,lo,lv,lb,st,sv,sb,al,bd⟩:=k;have hT:Yu w sv st:=Sy hs0.res.2.1.2.1 hu;obtain ⟨p,c,rfl,⟨hl1,hl2⟩,hps⟩:=hT.shape;replace hst:st.length<1048576:=hst;have hok:Q1 (st++[t]):=⟨by rw [List.length_append];exact hst,fun y hy=>by rcases List.mem_append.1 hy with hy | hy;exact hT.ok y hy;simp only [List.mem_singleton] at hy;subst hy;exact ht⟩;replace hps:Hid _:=hps;replace hok:Hid _:=hok;replace hk:Hid _:=hk;clear hT;refine Yz (hs0) (args:=[pt b,.agg (tyV t).toArray]) Tryz.func272 J Tryz.ntmps272 ?_;refine Zg (Zb (Y2 J J ?_));intro b1 hb1;refine Ze (Zc (Zg (Zb (Za J (Zh (ff J) J) (Za J (Zj (t1 J) J (Zi 0 J J)) (Za J (T3 J J) (Ze (Zc (Qw J ?_ ?_)))))))))
 ·intro c1;refine Zg (Zb (Za J (Zf J) (Ze (Zc (Zg (Zb (Za J (Zd J) (Za J (Zd J) (Za J (Zw J) (Za J (Zh (ff J) J) (Za J (Zj (t1 J) J (Zi 1 J J)) ?_)))))))))));refine Pn (news:=st.flatMap tyV) J (ta J) J J (ro_rows hps.out (fun w hs=>Sy hs.res.2.1.2.1.2.1 (Xp hu hF hs))) (Ox _) (tyV_all _) (by unfold maxLen;omega) (by omega) ?_;intro v1;refine Za J (Zf J) (Ze (Zc (Zg (Zb (Za J (Zd J) (Za J (Zd J) (Za J (Zv (tn J) J 0 J J) (Wk J (ts J) (tz J) J J J J J ?_))))))));intro b2 hb2;refine Ww J (ta J) J J (Yl 0 J) J J (by unfold maxLen;omega) (by omega) ?_;intro v2;refine Za J (Zw J) (Za J (Zh (ff J) J) ?_);refine Xc (p:=∃ p c,v2=.slice p (st.length+1) c) (fun w hs=>by obtain ⟨p,c,h,_⟩:=Xr hs.res.1;exact ⟨p,c,h⟩) ?_;rintro ⟨p3,c3,hv3⟩;subst hv3;refine Yy (t1 J) J J 2 J J J J (Ze (Zc (Xt (lay_imp hok.out) (WC_hold 2 J X2 (Z4 0 J (by kernel_rfl) J (fun _ hs=>Xd hs 2 J (Asr.snd _ _) J) (Zd J) ?_)))));refine Z4 1 J (by kernel_rfl) J (fun _ hs=>Xd hs 2 J (Asr.snd _ _) J) (Zd J) ?_;refine Z4 2 J (by kernel_rfl) J (fun _ hs=>Xd hs 2 J (Asr.snd _ _) J) (Zw J) ?_;refine Z4 3 J (by kernel_rfl) J (fun _ hs=>Xd hs 2 J (Asr.snd _ _) J) (Zh (ff J) J) ?_;refine Z4 4 J (by kernel_rfl) J (fun _ hs=>Xd hs 2 J (Asr.snd _ _) J) (Zj (t1 J) J (cell_hold (fun _ _=>J))) ?_;refine Z4 5 J (by kernel_rfl) J (fun _ hs=>Xd hs 2 J (Asr.snd _ _) J) (Zx (ts J) J) ?_;refine Z4 6 J (by kernel_rfl) J (fun _ hs=>Xd hs 2 J (Asr.snd _ _) J) (Zd J) ?_;refine Z4 7 J (by kernel_rfl) J (fun _ hs=>Xd hs 2 J (Asr.snd _ _) J) (Zw J) ?_;refine Z4 8 J (by kernel_rfl) J (fun _ hs=>Xd hs 2 J (Asr.snd _ _) J) (Zh (ff J) J) ?_;refine Z4 9 J (by kernel_rfl) J (fun _ hs=>Xd hs 2 J (Asr.snd _ _) J) (Zh (ff J) J) ?_;refine Z4 10 J (by kernel_rfl) J (fun _ hs=>Xd hs 2 J (Asr.snd _ _) J) (Zj (t1 J) J (cell_hold (fun _ _=>J))) ?_;refine Z4 11 J (by kernel_rfl) J (fun _ hs=>Xd hs 2 J (Asr.snd _ _) J) (Xj J J) ?_;refine Xh 12 (by kernel_rfl) J ?_;refine Ye Ru J J 2 J hu hF (Vh u b x _ _) ?_;rintro v cs' R' ⟨rfl,rfl,hR3⟩;refine Zz hR3 ?_;refine Ze (Y1 (fun _ hs=>Xd hs 2 J (Asr.snd _ _) J) ?_);refine W8 (by kernel_rfl) ?_;refine Xa J 2 J ?_;exact (fun h=>⟨J,_,J,.refl _,h.1,Nat.le_refl _,by show (st++[t]).length≤_;rw [List.length_append];exact Nat.le_refl _,h.2⟩) (lay_ok (sv:=.slice p3 (st.length+1) c3) (sb:=(Value.slice p3 (st.length+1) c3).ownBlock.toList) hk.out c1 h4 _ J)
 ·intro c1;refine Zo (Xa J 1 J ?_);exact ⟨J,_,J,.refl _,hk.out,Nat.le_refl _,Nat.le_succ _,(lay_void c1 _).symm⟩
def chT (c:Int):Ty:=if c=105 then Yx else Uh
def tyOf (s:ByteArray):List Ty:=(List.range s.size).map fun j=>chT (byteAt s j)
theorem tyOf_len (s:ByteArray):(tyOf s).length=s.size:=by simp [tyOf]
theorem tyOf_drop (s:ByteArray) (j:Nat) (h:j<s.size):(tyOf s).drop j=chT (byteAt s j)::(tyOf s).drop (j+1):=by
 rw [List.drop_eq_getElem_cons (by rw [tyOf_len];exact h)];simp [tyOf]
structure TkL where
 j:Nat
 k:CkM
theorem Ti (u:World) (b:Nat) (x:CkX) (k:CkM) (s:ByteArray) (hk:CkOk x k) (hs:s.size≤1000) (hn:k.gr.length+s.size≤4000000) :
  RuP Tryz.prog 274 #[pt b,.string s] u b (ckC x k) (ckA u k) (okF u x k (Xe x.c (tyOf s)) s.size 0):=by
 intro w hu hF hs0;replace hk:Hid _:=hk;refine Yz (hs0) (args:=[pt b,.string s]) Tryz.func274 J Tryz.ntmps274 ?_;refine Zg (Zb (Za J (Zd J) (Za J (S6 (Sk J) J) ?_)));refine Za J (Q0 J J ?_) ?_;omega;refine Za J (Zf J) (Ze (Zc (Zn ?_)));refine Yf (Yg (X:=TkL) (fun y=>[(0,pt b),(1,.string s),(4,.int .i64 ((y.j:Int) - 1))]) _ _ (fun y=>[(b,ckC x y.k)]) (fun y=>ckA u y.k) (fun y=>y.j≤s.size∧y.k.gr.length+y.j≤k.gr.length+s.size∧y.k.st.length≤k.st.length∧Hid (CkOk x y.k)∧Hid (sem y.k=(sem k).bind (Xe x.c ((tyOf s).drop y.j)))) (fun y=>y.j) (⟨s.size,k⟩) (⟨Nat.le_refl _,Nat.le_refl _,Nat.le_refl _,hk,by show sem k=_;rw [List.drop_of_length_le (by rw [tyOf_len];exact Nat.le_refl _)];cases sem k<;>rfl⟩) ?_) ⟨rfl,rfl,rfl,trivial⟩;intro y hI;obtain ⟨j,kj⟩:=y;obtain ⟨hj1,hj2,hj5,hj3,hj4⟩:=hI;dsimp only at hj1 hj2 hj3 hj4 hj5;refine Zg (Zg (Zb (Za J (Zd J) (Za J (Rq J J) (Ze (Zc (Zu J ?_ ?_)))))))
 ·intro c1;replace c1:(0:Int)≤(j:Int) - 1:=c1;refine Zo (Zc (Zg (Zn (Zg (Zb (Za J (Zd J) (Za J (Zd J) ?_)))))));refine Wt (s:=13) (v':=.int .i64 ((j - 1:Nat):Int)) J (congrArg (Value.int .i64) (by show (j:Int) - 1=_;omega)) ?_;refine Za J (P2 (Sk J) J J ?_) ?_
  ·omega
  refine Za J (Ya J J) (Ze (Zc (Zu J ?_ ?_)))
  ·intro c2;have hch:chT (byteAt s (j - 1))=Yx:=by rw [Qv (by omega)];exact if_pos c2
   refine Zb (Za J (Zd J) (Za J (Z8 (tb J) J J) ?_));refine Ye fn271 J J 0 J hu hF (Sl u b x kj Yx hj3.out (by decide) (by omega)) ?_;rintro v cs' R' ⟨rfl,k1,rfl,hR,hk1,hg1,hst1,hs1⟩;refine Zz hR ?_;refine Ze (Zt (Zc (Zb (Za J (Zd J) (Za J (Ex_sub J J) (Za J (Zf J) (Ze ?_)))))));refine Se (s:=4) (v':=.int .i64 (((j - 1:Nat):Int) - 1)) J (congrArg (Value.int .i64) (by show IntKind.i64.wrap ((j:Int) - 1 - 1)=_;rw [Tu _ (by omega)];omega)) ?_;refine Z1 (⟨j - 1,k1⟩) ?_ (⟨by show j - 1≤s.size;omega,by show k1.gr.length+(j - 1)≤_;omega,by show k1.st.length≤_;omega,hk1,by show sem k1=_;rw [hs1,hj4.out,tyOf_drop s (j - 1) (by omega),show j - 1+1=j by omega,hch,Option.bind_assoc];rfl⟩) 0 rfl (rfl) ⟨rfl,rfl,rfl,trivial⟩;show j - 1<j;omega
  ·intro c2;have hch:chT (byteAt s (j - 1))=Uh:=by rw [Qv (by omega)];exact if_neg c2
   refine Zb (Za J (Zd J) (Za J (Z8 (tb J) J J) ?_));refine Ye fn271 J J 0 J hu hF (Sl u b x kj Uh hj3.out (by decide) (by omega)) ?_;rintro v cs' R' ⟨rfl,k1,rfl,hR,hk1,hg1,hst1,hs1⟩;refine Zz hR ?_;refine Ze (Zt (Zc (Zb (Za J (Zd J) (Za J (Ex_sub J J) (Za J (Zf J) (Ze ?_)))))));refine Se (s:=4) (v':=.int .i64 (((j - 1:Nat):Int) - 1)) J (congrArg (Value.int .i64) (by show IntKind.i64.wrap ((j:Int) - 1 - 1)=_;rw [Tu _ (by omega)];omega)) ?_;refine Z1 (⟨j - 1,k1⟩) ?_ (⟨by show j - 1≤s.size;omega,by show k1.gr.length+(j - 1)≤_;omega,by show k1.st.length≤_;omega,hk1,by show sem k1=_;rw [hs1,hj4.out,tyOf_drop s (j - 1) (by omega),show j - 1+1=j by omega,hch,Option.bind_assoc];rfl⟩) 0 rfl (rfl) ⟨rfl,rfl,rfl,trivial⟩;show j - 1<j;omega
 ·intro c1;replace c1:¬ (0:Int)≤(j:Int) - 1:=c1;refine Yd (Yc (Z5 (Yb (Xa J 0 J ?_))))
  (have h8:j=0:=by omega);subst h8;exact ⟨J,kj,J,.refl _,hj3.out,by omega,by omega,by rw [hj4.out,List.drop_zero]⟩
end
section
open Go Go.RowKit At E
theorem WC_holdK {P:Program} {n:Nat} {E:Env} {w0:World} {F:List Nat} {H:Hp} {R:Asr} {fn:Func} {Z:Ending→World→Prop} {κ:List Kf} {b:Nat} {x:CkX} {k:CkM} (u:World) (Ra:Asr) (i:Nat) (_:H[i]?=some (b,ckC x k)) {id:Nat} {l:List Oper} (hm:P.follows .mixedOrders=true)
  (h:WH w0 F (H.take i) (((ckL u k).and Ra).and (holdA b x k)) P n l.toArray l.length (Array.replicate l.length false) E w0 F H R fn Z κ):WC P n (.region id l.toArray true) E w0 F H R fn Z κ:=O7 w0 F (H.take i) (((ckL u k).and Ra).and (holdA b x k)) hm h
theorem me_frame {m:Me} {i:Nat} {f:Fr} (h:Yt m=true) (hf:m.frames[i]?=some f):(f.locals.length:Int)=m.locals∧m.locals≤20∧(f.stack.length:Int)≤m.stack∧m.stack≤20∧Wo f.locals true=true∧Wo f.stack true=true:=by
 unfold Yt V7 at h;simp only [Bool.and_eq_true,decide_eq_true_eq] at h;have hr:=List.all_eq_true.1 h.2 i (List.mem_range.2 (Wa hf));unfold M5 at hr;rw [hf] at hr;simp only [Td,Bool.and_eq_true,decide_eq_true_eq] at hr;exact ⟨hr.1.1.1.2,by omega,hr.1.1.2,by omega,hr.1.2,hr.2⟩
def optM (bd:Bool) (gr:List Bl):Option (Set Bl):=if bd then none else some fun x=>x ∈ gr
theorem opt_step {bd:Bool} {gr gr':List Bl} {o:Option (Option Bl)} (hm:∀ y,y ∈ gr'↔y ∈ gr∨o=some (some y)):optM (bd || !o.isSome) gr'=(optM bd gr).bind fun G=>o.map fun oo=>addO oo G:=by
 cases bd
 ·cases o with
  | none=>rfl
  | some oo=>show some _=some _;rw [gr_set hm]
 ·rfl
def Sm (lo fl:List Ty) (n:Nat):List (Ty × Ty):=((lo.zip fl).take n).filter fun p=>decide (¬ p.2.kind=4)
theorem pairsN_all {lo fl:List Ty} {n:Nat} (h:fl.length≤n):Sm lo fl n=S9 lo fl:=by
 unfold Sm S9;rw [List.take_of_length_le (by rw [List.length_zip];omega)]
theorem O1 {lo fl:List Ty} {n:Nat} {s t:Ty} (hs:lo[n]?=some s) (ht:fl[n]?=some t):Sm lo fl (n+1)=Sm lo fl n++if t.kind=4 then [] else [(s,t)]:=by
 unfold Sm;have hz:(lo.zip fl)[n]?=some (s,t):=by rw [List.getElem?_zip_eq_some];exact ⟨hs,ht⟩
 rw [List.take_add_one,hz,List.filter_append];congr 1;by_cases h:t.kind=4<;>simp [h]
theorem zip_snoc {a b:List Ty} {n:Nat} {s t:Ty} (hs:a[n]?=some s) (ht:b[n]?=some t):(a.zip b).take (n+1)=(a.zip b).take n++[(s,t)]:=by
 have hz:(a.zip b)[n]?=some (s,t):=by rw [List.getElem?_zip_eq_some];exact ⟨hs,ht⟩
 rw [List.take_add_one,hz];rfl
theorem addAll_snoc (c:Cl) (l:List (Ty × Ty)) (p:Ty × Ty) (G:Set Bl):Wg c (l++[p]) G=(Wg c l G).bind (Sb c p):=by
 rw [Um];congr 1;funext G'
 show (Sb c p G').bind some=_;cases Sb c p G'<;>rfl
theorem fitsQ_st {c:Cl} {a b:Ty} (h:¬ a.kind=4):Ul c false a b=Wq c a b:=by
 by_cases hb:b.kind=4
 ·rw [fq1 hb];show none=_;unfold Wq;rw [if_neg (fun h'=>h (h'.1.trans hb))];by_cases h5:a.kind=5
  ·rw [if_pos h5,if_neg (by omega)]
  ·rw [if_neg h5,if_pos (by omega)]
 ·exact fitsQ_no hb false
def Rs (c:Cl) (ok:Bool) (l:List (Ty × Ty)) (G:Set Bl):Option (Set Bl):=if ok then Wg c l G else none
theorem meet_step {c:Cl} {ok:Bool} {l:List (Ty × Ty)} {G:Set Bl} {p:Ty × Ty}:(Rs c ok l G).bind (fun G=>(Wq c p.1 p.2).map fun oo=>addO oo G)=Rs c ok (l++[p]) G:=by
 unfold Rs;split
 ·rw [addAll_snoc];rfl
 ·rfl
theorem meet_lo {c:Cl} {ok:Bool} {lo fl:List Ty} {G:Set Bl} {n:Nat} {s t:Ty} {bd:Bool} {gr gr':List Bl} (hs:lo[n]?=some s) (ht:fl[n]?=some t) (h:optM bd gr=Rs c ok (Sm lo fl n) G) (hm:∀ y,y ∈ gr'↔y ∈ gr∨Ul c true s t=some (some y)) :
  optM (bd || !(Ul c true s t).isSome) gr'=Rs c ok (Sm lo fl (n+1)) G:=by
 rw [opt_step hm,h,O1 hs ht];by_cases h4:t.kind=4
 ·rw [fq1 h4,if_pos h4,List.append_nil];show (Rs c ok _ G).bind (fun G=>some (addO none G))=_;have e:(fun G:Set Bl=>some (addO none G))=some:=by funext G;rw [addO_none]
  rw [e];cases Rs c ok (Sm lo fl n) G<;>rfl
 ·rw [fitsQ_no h4,if_neg h4];exact meet_step (p:=(s,t))
theorem meet_st {c:Cl} {ok:Bool} {l:List (Ty × Ty)} {a b:List Ty} {G:Set Bl} {n:Nat} {s t:Ty} {bd:Bool} {gr gr':List Bl} (hs:a[n]?=some s) (ht:b[n]?=some t) (h4:¬ s.kind=4) (h:optM bd gr=Rs c ok (l++(a.zip b).take n) G) (hm:∀ y,y ∈ gr'↔y ∈ gr∨Ul c false s t=some (some y)) :
  optM (bd || !(Ul c false s t).isSome) gr'=Rs c ok (l++(a.zip b).take (n+1)) G:=by
 rw [fitsQ_st h4] at hm ⊢;rw [opt_step hm,h,zip_snoc hs ht,← List.append_assoc];exact meet_step (p:=(s,t))
structure MtL where
 n:Nat
 gr:List Bl
 gv:Value
 bd:Bool
theorem meet_end {x:CkX} {k:CkM} {f:Fr} {tl:List Ty} {pos:Int} {n:Nat} {bd:Bool} {gr:List Bl} {gv:Value} (hf:U0 x.m pos=some f) (hb:k.bad=false) (hn:¬ n<f.stack.length∨bd=true)
  (h:optM bd gr=Rs x.c (decide (tl.length=f.stack.length)) (S9 k.lo f.locals++(tl.zip f.stack).take n) fun x=>x ∈ k.gr):sem { k with gr:=gr,gv:=gv,bad:=bd }=(sem k).bind (Vf x.c x.m tl pos):=by
 rw [Xi hb];show _=Vf x.c x.m tl pos _
 have hfull:optM bd gr=Rs x.c (decide (tl.length=f.stack.length)) (S9 k.lo f.locals++tl.zip f.stack) fun x=>x ∈ k.gr:=by
  rcases hn with hn | hn
  ·rw [h,List.take_of_length_le (by rw [List.length_zip];omega)]
  ·subst hn;have h':Rs x.c (decide (tl.length=f.stack.length)) (S9 k.lo f.locals++(tl.zip f.stack).take n) (fun x=>x ∈ k.gr)=none:=h.symm;show none=_;unfold Rs at h' ⊢;split
   ·rename_i hl
    rw [if_pos hl] at h';rw [← List.take_append_drop n (tl.zip f.stack),← List.append_assoc,Um,h'];rfl
   ·rfl
 unfold Vf;rw [hf];unfold Rs at hfull;show sem _=if tl.length=f.stack.length then grF _ (Wg _ _ _) else none;simp only [decide_eq_true_eq] at hfull;cases bd
 ·rw [Xi rfl];have hfull':some (fun x=>x ∈ gr)=_:=hfull;split
  ·rename_i hl
   rw [if_pos hl] at hfull';show _=grF _ (Wg x.c _ (fun x=>x ∈ k.gr));rw [← hfull'];rfl
  ·rename_i hl
   rw [if_neg hl] at hfull';cases hfull'
 ·have hfull':none=_:=hfull;rw [Vu rfl];split
  ·rename_i hl
   rw [if_pos hl] at hfull';show none=grF _ (Wg x.c _ (fun x=>x ∈ k.gr));rw [← hfull'];rfl
  ·rfl
theorem meet_init {c:Cl} {a b:Nat} {lo fl:List Ty} {gr:List Bl}:optM (false || !decide ((a:Int)=(b:Int))) gr=Rs c (decide (a=b)) (Sm lo fl 0) fun z=>z ∈ gr:=by
 by_cases h:a=b
 ·subst h;simp [optM,Rs,Sm,Wg]
 ·have h':¬ (a:Int)=(b:Int):=by omega
  simp [optM,Rs,h,h']
theorem meet_len {c:Cl} {ok:Bool} {l:List (Ty × Ty)} {G:Set Bl} {gr:List Bl} (h:optM false gr=Rs c ok l G):ok=true:=by
 cases ok
 ·cases h
 ·rfl
theorem find_at {l:List Fr} {pos:Int} {i:Nat} {f:Fr} (h:∀ (j:Nat) g,j<i→l[j]?=some g→¬ g.pos=pos) (hi:l[i]?=some f) (hp:f.pos=pos):l.find? (fun f=>decide (f.pos=pos))=some f:=by
 rw [List.find?_eq_some_iff_getElem];refine ⟨by simp [hp],i,Wa hi,by have:=List.getElem?_eq_getElem (Wa hi);rw [hi] at this;exact (Option.some.inj this).symm,fun j hj=>?_⟩;have:=h j _ hj (List.getElem?_eq_getElem (by have:=Wa hi;omega));simp [this]
theorem find_no {l:List Fr} {pos:Int} (h:∀ (j:Nat) g,j<l.length→l[j]?=some g→¬ g.pos=pos):l.find? (fun f=>decide (f.pos=pos))=none:=by
 rw [List.find?_eq_none];intro f hf;obtain ⟨j,hj⟩:=List.mem_iff_getElem?.1 hf;simp [h j f (Wa hj) hj]
theorem meets_any (u:World) (b:Nat) (x:CkX) (k:CkM) (Ra:Asr) (tv:Value) (tl:List Ty) (pos:Int) (hk:CkOk x k) (hb:k.bad=false) (hm:Yt x.m=true) (hp:MeParts u x.m x.pv x.cv x.hv x.rv) (htl:∀ t ∈ tl,¬ t.kind=4) (hn:k.gr.length≤3999000)
  (hRa:∀ w,Below u.heap.size u w→((ckL u k).and Ra).A w→Yu w tv tl) :
  RuP Tryz.prog 172 #[.pointer (some ⟨b,0,none⟩),.int .i64 pos,tv] u b (ckC x k) ((ckA u k).and Ra) (okF u x k (Vf x.c x.m tl pos) 40 0):=by
 intro w hu hF hs0;obtain ⟨gr0,gv0,lo,lv,lb,st,sv,sb,al,bd0⟩:=k;obtain ⟨c,fv,mv,m,pv,cv,hv,rv⟩:=x;have hT:Yu w lv lo:=Sy hs0.res.1.2.1.1 hu;obtain ⟨pl,cl,rfl,⟨hl1,hl2⟩,hpl⟩:=hT.shape;have hT2:Yu w tv tl:=hRa w hu ((Asr.Imp.left (Asr.snd _ _)).a w hs0.res);obtain ⟨pt,ct,rfl,⟨ht1,ht2⟩,hpt⟩:=hT2.shape;obtain ⟨pr,cr,hrv,hrl,hrr⟩:=hp.fs.is;dsimp only at hrv hrl hrr;subst hrv;clear hT hT2;have hlo:(lo.length:Int)=m.locals:=hk.lo;replace hn:gr0.length≤3999000:=hn;replace hb:bd0=false:=hb;subst hb;replace hpl:Hid _:=hpl;replace hpt:Hid _:=hpt;replace hrr:Hid _:=hrr;replace hk:Hid _:=hk;replace htl:Hid _:=htl;replace hRa:Hid _:=hRa;replace hp:Hid _:=hp;replace hm:Yt m=true:=hm;replace hm:Hid _:=hm;refine Yz (hs0) (args:=[.pointer (some ⟨b,0,none⟩),.int .i64 pos,.slice pt tl.length ct]) Tryz.func172 J Tryz.ntmps172 ?_;refine Zg (Zg (Zb (Za J (Zf J) (Ze (Zc (Zn ?_))))));refine Yf (Yg (X:=Nat) (fun i=>[(0,.pointer (some ⟨b,0,none⟩)),(1,.int .i64 pos),(2,.slice pt tl.length ct),(6,.int .i64 (i:Nat))]) _ _ (fun i=>[(b,ckC ⟨c,fv,mv,m,pv,cv,hv,.slice pr m.frames.length cr⟩ ⟨gr0,gv0,lo,.slice pl lo.length cl,lb,st,sv,sb,al,false⟩)]) (fun i=>(ckA u ⟨gr0,gv0,lo,.slice pl lo.length cl,lb,st,sv,sb,al,false⟩).and Ra) (fun i=>i≤m.frames.length∧Hid (∀ (j:Nat) g,j<i→m.frames[j]?=some g→¬ g.pos=pos)) (fun i=>m.frames.length - i) (0) (⟨Nat.zero_le _,fun j g hj=>by omega⟩) ?_) ⟨J,J,J,J,trivial⟩;intro i hI;have hI1:=hI;refine Zg (Zg (Zb (Za J (Zd J) (Za J (Zd J) (Za J (Zw J) (Za J (Zh (ff J) J) (Za J (Zh (ff J) J) (Za J (Zj (t1 J) J (Zi 0 J J)) (Za J (Zx (ts J) J) (Za J (Yi J J) (Ze (Zc (Zu J ?_ ?_)))))))))))))
 ·intro c1;obtain ⟨f,hf⟩:∃ f,m.frames[i]?=some f:=⟨_,List.getElem?_eq_getElem (by omega)⟩;obtain ⟨bb,oo,rr,hpr,hbb,⟨flv,fsv,hrw,hfl,hfs,hfp⟩,hcc⟩:=hrr.out i f hf;subst hpr;subst hrw;obtain ⟨pfl,cfl,rfl,⟨hfl1,hfl2⟩,hpfl⟩:=hfl.shape;obtain ⟨pfs,cfs,rfl,⟨hfsA,hfs2⟩,hpfs⟩:=hfs.shape;obtain ⟨hm1,hm2,hm3,hm4, -, -⟩:=me_frame hm.out hf;replace hpfl:Hid _:=hpfl;replace hpfs:Hid _:=hpfs;replace hfl:Hid _:=hfl;replace hfs:Hid _:=hfs;refine Zo (Zc (Zg (Zn (Zg (Zb (Za J (Zd J) (Za J (Zw J) (Za J (Zh (ff J) J) (Za J (Zh (ff J) J) (Za J (Zj (t1 J) J (Zi 0 J J)) (Za J (Zd J) (Za J (Yo (ts J) J J ?_) ?_))))))))))))
  ·omega
  refine Za J (Yj (tn J) J (U6 hu hF hbb hcc) J) (Yk J (tz J) ?_);intro b1 hb1;refine Z2 (tn J) J J 0 J J J J (Ze (Zc (Zg (Zg (Zb (Za J (Zh (ff J) J) (Za J (Zj (t1 J) J (Zi 0 J J)) (Za J (Zd J) (Za J (T3 J J) (Ze (Zc (Qw J ?_ ?_))))))))))))
  ·intro c2;refine Yd (Yc (Yb (Zc (Zb (Za J (Zd J) ?_)))));refine Za J (Yn J J ?_) ?_;omega;refine Za J (Zf J) (Ze ?_);refine Z1 (i+1) ?_ (⟨by omega,fun j g hj hg=>by rcases Nat.lt_or_ge j i with h | h;exact hI.2.out j g h hg;(have e:j=i:=by omega);subst e;rw [hf] at hg;cases hg;exact c2⟩) 1 J (J) ⟨J,J,J,J,trivial⟩;omega
  ·intro c2;refine Zo (Zc (Zg (Zb (Za J (Zd J) (Za J (Zd J) (Za J (Zx (ts J) J) (Za J (Zh (ff J) J) (Za J (Zj (t1 J) J (Zi 0 J J)) (Za J (Zx (ts J) J) (Za J (Ya J J) ?_))))))))));refine Vx Ru J J 1 J hu hF (Vh u b _ _ _) ?_;rintro v cs' R' ⟨rfl,rfl,hR⟩;refine Zz (Asr.Imp.left hR) ?_;refine Ze (Zc (Zg (Zg (Zb (Za J (Zf J) (Ze (Zc (Zn ?_))))))));refine Yf (Yg (X:=MtL) (fun y=>[(0,.pointer (some ⟨b,0,none⟩)),(2,.slice pt tl.length ct),(7,.pointer (some ⟨b1,0,none⟩)),(8,.int .i64 (y.n:Nat))]) _ _ (fun y=>[(b1,frV f (.slice pfl f.locals.length cfl) (.slice pfs f.stack.length cfs)),(b,ckC ⟨c,fv,mv,m,pv,cv,hv,.slice (some ⟨bb,oo,none⟩) m.frames.length cr⟩ ⟨y.gr,y.gv,lo,.slice pl lo.length cl,lb,st,sv,sb,al,y.bd⟩)]) (fun y=>(ckA u ⟨y.gr,y.gv,lo,.slice pl lo.length cl,lb,st,sv,sb,al,y.bd⟩).and Ra) (fun y=>y.n≤f.locals.length∧y.gr.length≤gr0.length+y.n∧Hid (Srt y.gr)∧Hid (optM y.bd y.gr=Rs c (decide (tl.length=f.stack.length)) (Sm lo f.locals y.n) fun z=>z ∈ gr0)) (fun y=>f.locals.length - y.n) (⟨0,gr0,gv0,false || !decide ((tl.length:Int)=(f.stack.length:Int))⟩) (⟨Nat.zero_le _,Nat.le_refl _,hk.out.srt,meet_init⟩) ?_) ⟨J,J,J,J,trivial⟩;intro y hI;obtain ⟨n,gr,gv,bd⟩:=y;obtain ⟨hj1,hj2,hj3,hj4⟩:=hI;dsimp only at hj1 hj2 hj3 hj4;have hnn:(MtL.mk n gr gv bd).n=n:=rfl;refine Zg (Zg (Zb (Za J (Zd J) (Za J (Zh (ff J) J) (Za J (Zj (t1 J) J (Zi 0 J J)) (Za J (Zx (ts J) J) (Za J (Yi J J) (Ze (Zc (Zu J ?_ ?_))))))))))
   ·intro c3;replace c3:(n:Int)<(f.locals.length:Int):=c3;obtain ⟨gl,ol,hgl⟩:=hpl.out (by omega);obtain ⟨gf,of,hgf⟩:=hpfl.out (by omega);subst hgl;subst hgf;obtain ⟨sA,hsn⟩:∃ t,lo[n]?=some t:=⟨_,List.getElem?_eq_getElem (by omega)⟩;obtain ⟨tA,htn⟩:∃ t,f.locals[n]?=some t:=⟨_,List.getElem?_eq_getElem (by omega)⟩;refine Zo (Zc (Zg (Zn (Zg (WC_holdK u Ra 1 J X2 (Z4 0 J (by kernel_rfl) J (fun _ hs=>Xd hs 1 J (Asr.Imp.left (Asr.snd _ _)) J) (Zd J) ?_))))));refine Z4 1 J (by kernel_rfl) J (fun _ hs=>Xd hs 1 J (Asr.Imp.left (Asr.snd _ _)) J) (Zd J) ?_;refine Z4 2 J (by kernel_rfl) J (fun _ hs=>Xd hs 1 J (Asr.Imp.left (Asr.snd _ _)) J) (Zw J) ?_;refine Z4 3 J (by kernel_rfl) J (fun _ hs=>Xd hs 1 J (Asr.Imp.left (Asr.snd _ _)) J) (Zh (ff J) J) ?_;refine Z4 4 J (by kernel_rfl) J (fun _ hs=>Xd hs 1 J (Asr.Imp.left (Asr.snd _ _)) J) (Zj (t1 J) J (cell_hold (fun _ _=>J))) ?_;refine Z4 5 J (by kernel_rfl) J (fun _ hs=>Xd hs 1 J (Asr.Imp.left (Asr.snd _ _)) J) (Zd J) ?_;refine Z4 6 J (by kernel_rfl) J (fun _ hs=>Xd hs 1 J (Asr.Imp.left (Asr.snd _ _)) J) (Yo (ts J) J J ?_) ?_
    ·omega
    refine Z4 7 J (by kernel_rfl) J (fun _ hs=>Xd hs 1 J (Asr.Imp.left (Asr.snd _ _)) J) (Yj (tn J) J (R6 (u:=u) (fun w hs=>Sy hs.res.1.1.1 (Xp hu hF hs)) hsn) J) ?_;refine Z4 8 J (by kernel_rfl) J (fun _ hs=>Xd hs 1 J (Asr.Imp.left (Asr.snd _ _)) J) (Zh (ff J) J) ?_;refine Z4 9 J (by kernel_rfl) J (fun _ hs=>Xd hs 1 J (Asr.Imp.left (Asr.snd _ _)) J) (Zj (t1 J) J (Zi 0 J J)) ?_;refine Z4 10 J (by kernel_rfl) J (fun _ hs=>Xd hs 1 J (Asr.Imp.left (Asr.snd _ _)) J) (Zd J) ?_;refine Z4 11 J (by kernel_rfl) J (fun _ hs=>Xd hs 1 J (Asr.Imp.left (Asr.snd _ _)) J) (Yo (ts J) J J ?_) ?_
    ·omega
    refine Z4 12 J (by kernel_rfl) J (fun _ hs=>Xd hs 1 J (Asr.Imp.left (Asr.snd _ _)) J) (Yj (tn J) J (R6 (u:=u) (fun w hs=>Yu.mono hfl.out (Xp hu hF hs)) htn) J) ?_;refine Xh 13 (by kernel_rfl) J ?_;refine Vx fn170 J J 1 J hu hF (fits_any u b _ _ sA tA true hj3.out (by show gr.length≤4000000;omega)) ?_;rintro v cs' R' ⟨gr',gv',rfl,rfl,hR,hs2,hl2,hm2⟩;refine Zz (Asr.Imp.left hR) ?_;refine Ze (Y1 (fun _ hs=>Xd hs 1 J (Asr.Imp.left (Asr.snd _ _)) J) ?_);refine Xh 14 (by kernel_rfl) J ?_;refine Za J (Zf J) (Ze (Y1 (fun _ hs=>Xd hs 1 J (Asr.Imp.left (Asr.snd _ _)) J) ?_));refine W8 (by kernel_rfl) ?_;refine Zc (Zb (Za J (Zd J) (Za J (Zd J) ?_)));refine Vx Ru J J 1 J hu hF (Vh u b _ _ _) ?_;rintro v cs' R' ⟨rfl,rfl,hR⟩;refine Zz (Asr.Imp.left hR) ?_;refine Ze (Zt (Zc (Zb (Za J (Zd J) ?_))));refine Za J (Yn J J ?_) ?_;omega;refine Za J (Zf J) (Ze ?_);refine Z1 (⟨n+1,gr',gv',bd || !(Ul c true sA tA).isSome⟩) ?_ (⟨by show n+1≤_;omega,by show gr'.length≤gr0.length+(n+1);(have h9:gr'.length≤gr.length+1:=hl2);omega,hs2,meet_lo hsn htn hj4.out hm2⟩) 0 rfl (rfl) ⟨rfl,rfl,rfl,rfl,trivial⟩;show f.locals.length - (n+1)<f.locals.length - n;omega
   ·intro c3;replace c3:¬ (n:Int)<(f.locals.length:Int):=c3;refine Yd (Yc (Z5 (Yb (Zc (Zg (Zg (Zb (Za J (Zf J) (Ze (Zc (Zn ?_)))))))))));refine Yf (Yg (X:=MtL) (fun z=>[(0,.pointer (some ⟨b,0,none⟩)),(2,.slice pt tl.length ct),(7,.pointer (some ⟨b1,0,none⟩)),(10,.int .i64 (z.n:Nat))]) _ _ (fun z=>[(b1,frV f (.slice pfl f.locals.length cfl) (.slice pfs f.stack.length cfs)),(b,ckC ⟨c,fv,mv,m,pv,cv,hv,.slice (some ⟨bb,oo,none⟩) m.frames.length cr⟩ ⟨z.gr,z.gv,lo,.slice pl lo.length cl,lb,st,sv,sb,al,z.bd⟩)]) (fun z=>(ckA u ⟨z.gr,z.gv,lo,.slice pl lo.length cl,lb,st,sv,sb,al,z.bd⟩).and Ra) (fun z=>z.n≤f.stack.length∧z.gr.length≤gr0.length+20+z.n∧Hid (Srt z.gr)∧Hid (optM z.bd z.gr=Rs c (decide (tl.length=f.stack.length)) (S9 lo f.locals++(tl.zip f.stack).take z.n) fun z=>z ∈ gr0)) (fun z=>f.stack.length - z.n) (⟨0,gr,gv,bd⟩) (⟨Nat.zero_le _,by show gr.length≤gr0.length+20+0;omega,hj3,by rw [← pairsN_all (n:=n) (by omega)];show optM bd gr=_;rw [List.take_zero,List.append_nil];exact hj4.out⟩) ?_) ⟨J,J,J,J,trivial⟩;intro z hI;clear hj1 hj2 hj3 hj4 c3 hnn;obtain ⟨n,gr,gv,bd⟩:=z;obtain ⟨hj1,hj2,hj3,hj4⟩:=hI;dsimp only at hj1 hj2 hj3 hj4;have hnn:(MtL.mk n gr gv bd).n=n:=rfl;refine Zg (Zg (Zb (Za J (Zd J) (Za J (Zh (ff J) J) (Za J (Zj (t1 J) J (Zi 0 J J)) (Za J (Zx (ts J) J) (Za J (Yi J J) (Za J (Zd J) (Z9 J J J ?_ ?_)))))))))
    ·intro h1;refine Zk J J J (Zd J) (Zk J J J (Zw J) (Zk J J J (Zh (ff J) J) (Zk J J J (Zj (t1 J) J (Zi 1 J J)) (Zk J J J (Xv J) (Za J (Zp J J) (Ze (Zc (W4 J ?_ ?_))))))))
     ·intro c4;replace c4:bd=false:=by simpa using c4
      subst c4;have hle:tl.length=f.stack.length:=of_decide_eq_true (meet_len hj4.out);obtain ⟨gt,ot,hgt⟩:=hpt.out (by omega);obtain ⟨gs,os,hgs⟩:=hpfs.out (by omega);subst hgt;subst hgs;obtain ⟨sA,hsn⟩:∃ t,tl[n]?=some t:=⟨_,List.getElem?_eq_getElem (by omega)⟩;obtain ⟨tA,htn⟩:∃ t,f.stack[n]?=some t:=⟨_,List.getElem?_eq_getElem (by omega)⟩;refine Zo (Zc (Zg (Zn (Zg (WC_holdK u Ra 1 J X2 (Z4 0 J (by kernel_rfl) J (fun _ hs=>Xd hs 1 J (Asr.Imp.left (Asr.snd _ _)) J) (Zd J) ?_))))));refine Z4 1 J (by kernel_rfl) J (fun _ hs=>Xd hs 1 J (Asr.Imp.left (Asr.snd _ _)) J) (Zd J) ?_;refine Z4 2 J (by kernel_rfl) J (fun _ hs=>Xd hs 1 J (Asr.Imp.left (Asr.snd _ _)) J) (Zd J) ?_;refine Z4 3 J (by kernel_rfl) J (fun _ hs=>Xd hs 1 J (Asr.Imp.left (Asr.snd _ _)) J) (Yo (ts J) J J ?_) ?_
      ·omega
      refine Z4 4 J (by kernel_rfl) J (fun _ hs=>Xd hs 1 J (Asr.Imp.left (Asr.snd _ _)) J) (Yj (tn J) J (R6 (u:=u) (fun w hs=>hRa.out w (Xp hu hF hs) hs.res.1) hsn) J) ?_;refine Z4 5 J (by kernel_rfl) J (fun _ hs=>Xd hs 1 J (Asr.Imp.left (Asr.snd _ _)) J) (Zh (ff J) J) ?_;refine Z4 6 J (by kernel_rfl) J (fun _ hs=>Xd hs 1 J (Asr.Imp.left (Asr.snd _ _)) J) (Zj (t1 J) J (Zi 0 J J)) ?_;refine Z4 7 J (by kernel_rfl) J (fun _ hs=>Xd hs 1 J (Asr.Imp.left (Asr.snd _ _)) J) (Zd J) ?_;refine Z4 8 J (by kernel_rfl) J (fun _ hs=>Xd hs 1 J (Asr.Imp.left (Asr.snd _ _)) J) (Yo (ts J) J J ?_) ?_
      ·omega
      refine Z4 9 J (by kernel_rfl) J (fun _ hs=>Xd hs 1 J (Asr.Imp.left (Asr.snd _ _)) J) (Yj (tn J) J (R6 (u:=u) (fun w hs=>Yu.mono hfs.out (Xp hu hF hs)) htn) J) ?_;refine Xh 10 (by kernel_rfl) J ?_;refine Vx fn170 J J 1 J hu hF (fits_any u b _ _ sA tA false hj3.out (by show gr.length≤4000000;omega)) ?_;rintro v cs' R' ⟨gr',gv',rfl,rfl,hR,hs2,hl2,hm2⟩;refine Zz (Asr.Imp.left hR) ?_;refine Ze (Y1 (fun _ hs=>Xd hs 1 J (Asr.Imp.left (Asr.snd _ _)) J) ?_);refine Xh 11 (by kernel_rfl) J ?_;refine Za J (Zf J) (Ze (Y1 (fun _ hs=>Xd hs 1 J (Asr.Imp.left (Asr.snd _ _)) J) ?_));refine W8 (by kernel_rfl) ?_;refine Zc (Zb (Za J (Zd J) (Za J (Zd J) ?_)));refine Vx Ru J J 1 J hu hF (Vh u b _ _ _) ?_;rintro v cs' R' ⟨rfl,rfl,hR⟩;refine Zz (Asr.Imp.left hR) ?_;refine Ze (Zt (Zc (Zb (Za J (Zd J) ?_))));refine Za J (Yn J J ?_) ?_;omega;refine Za J (Zf J) (Ze ?_);refine Z1 (⟨n+1,gr',gv',false || !(Ul c false sA tA).isSome⟩) ?_ (⟨by show n+1≤_;omega,by show gr'.length≤gr0.length+20+(n+1);(have h9:gr'.length≤gr.length+1:=hl2);omega,hs2,meet_st hsn htn (htl.out sA (List.mem_of_getElem? hsn)) hj4.out hm2⟩) 0 rfl (rfl) ⟨rfl,rfl,rfl,rfl,trivial⟩;show f.stack.length - (n+1)<f.stack.length - n;omega
     ·intro c4;refine Yd (Yc (Z5 (Yb (Zc (Zr (Zl (Zl (Zl (Zl (Zl (Rk_end0r J 1 J ?_)))))))))));exact ⟨J,_,J,Asr.fst _ _,ok_gr hk.out J hj3.out,by show gr.length≤gr0.length+40;omega,Nat.le_refl _,meet_end (k:=⟨gr0,gv0,lo,_,lb,st,sv,sb,al,false⟩) (find_at hI1.2.out hf c2) rfl (.inr (by simpa using c4)) hj4.out⟩
    ·intro h1;refine Zm J J J (Zm J J J (Zm J J J (Zm J J J (Zm J J J (Za J (Zs J J) (Ze (Zc (Xn J (Yd (Yc (Z5 (Yb (Zc (Zr (Zl (Zl (Zl (Zl (Zl (Rk_end0r J 1 J ?_))))))))))))))))))));exact ⟨J,_,J,Asr.fst _ _,ok_gr hk.out J hj3.out,by show gr.length≤gr0.length+40;omega,Nat.le_refl _,meet_end (k:=⟨gr0,gv0,lo,_,lb,st,sv,sb,al,false⟩) (find_at hI1.2.out hf c2) rfl (.inl (by omega)) hj4.out⟩
 ·intro c1;refine Yd (Yc (Z5 (Yb (Zc (Zb (Za J (Zd J) (Za J (Zw J) (Za J (Zh (ff J) J) (Yy (t1 J) J J 0 J J J J (Ze (Xa J 0 J ?_)))))))))));exact ⟨J,⟨gr0,gv0,lo,.slice pl lo.length cl,lb,st,sv,sb,al,true⟩,J,Asr.fst _ _,⟨hk.out.lo,hk.out.srt,fun s h=>by cases h⟩,by show gr0.length≤gr0.length+40;omega,Nat.le_refl _,by show none=Vf c m tl pos _;unfold Vf U0;rw [find_no (fun j g hj hg=>hI1.2.out j g (by omega) hg)]⟩
end
end Go.Proofs.YtpofmnfkdkmieaaGreat
