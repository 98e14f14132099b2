/- What is proved here: package check: a state must fit a frame. -/
import Derived.Test.YtpofmnfkdkmieaaGreatQ36
set_option linter.unusedVariables false
set_option linter.unusedSimpArgs false
namespace Go.Proofs.YtpofmnfkdkmieaaGreat
section
open Go Go.RowKit At E
def okMf (x:WkX) (k:WkM) (Ra:Asr) (tl:List Ty) (f:At.Fr):Value→List Value→Asr→Prop:=fun v cs' R' =>
 v=.tuple #[]∧∃ gr',cs'=wkC x { k with gr:=gr' }∧R'.Imp ((wkA x { k with gr:=gr' }).and Ra)∧mfF x.c tl f (Vl k)=some (Vl { k with gr:=gr' })
theorem mf_len {c:Cl} {tl:List Ty} {f:At.Fr} {s:St} (h:¬ (tl.length:Int)=(f.stack.length:Int)):mfF c tl f s=none:=by unfold mfF;rw [if_neg (fun e=>h (by rw [e]))]
theorem mf_no {c:Cl} {tl:List Ty} {f:At.Fr} {s:St} (h:Wg c (tl.zip f.stack++S9 s.lo f.locals) s.gr=none):mfF c tl f s=none:=by
 unfold mfF fitF;split
 ·rw [h];rfl
 ·rfl
theorem mf_yes {c:Cl} {tl:List Ty} {f:At.Fr} {k:WkM} {gr:List Bl} (hl:tl.length=f.stack.length) (h:Wg c (tl.zip f.stack++S9 k.lo f.locals) (fun y=>y ∈ k.gr)=some fun y=>y ∈ gr):mfF c tl f (Vl k)=some (Vl { k with gr:=gr }):=by
 unfold mfF fitF;rw [if_pos hl];show grF (Vl k) (Wg c (tl.zip f.stack++S9 k.lo f.locals) (fun y=>y ∈ k.gr))=_;rw [h];rfl
theorem mf_st {c:Cl} {tl:List Ty} {f:At.Fr} {k:WkM} {gr:List Bl} {n:Nat} {s t:Ty} (hs:tl[n]?=some s) (ht:f.stack[n]?=some t) (h:Wg c ((tl.zip f.stack).take n) (fun y=>y ∈ k.gr)=some fun y=>y ∈ gr) (hn:(Wq c s t).isSome=false):mfF c tl f (Vl k)=none:=by
 refine mf_no ?_;have:=addAll_fail (rest:=(tl.zip f.stack).drop (n+1)++S9 k.lo f.locals) h hn;rw [← zip_snoc hs ht,← List.append_assoc,List.take_append_drop] at this;exact this
theorem mf_lo {c:Cl} {tl:List Ty} {f:At.Fr} {k:WkM} {gr:List Bl} {n:Nat} {s t:Ty} (hs:k.lo[n]?=some s) (ht:f.locals[n]?=some t) (h4:¬ t.kind=4) (h:Wg c (tl.zip f.stack++Sm k.lo f.locals n) (fun y=>y ∈ k.gr)=some fun y=>y ∈ gr) (hn:(Wq c s t).isSome=false):mfF c tl f (Vl k)=none:=by
 refine mf_no ?_;have h1:=addAll_fail (rest:=((k.lo.zip f.locals).drop (n+1)).filter fun p=>decide (¬ p.2.kind=4)) h hn
 have h2:S9 k.lo f.locals=Sm k.lo f.locals n++[(s,t)]++((k.lo.zip f.locals).drop (n+1)).filter fun p=>decide (¬ p.2.kind=4):=by
  have h3:=O1 hs ht;rw [if_neg h4] at h3;rw [← h3];unfold S9 Sm;rw [← List.filter_append,List.take_append_drop]
 show Wg c (tl.zip f.stack++S9 k.lo f.locals) _=none;rw [h2,← List.append_assoc,← List.append_assoc];exact h1
set_option maxRecDepth 2000 in
set_option maxHeartbeats 800000 in
theorem mustFit_core (u:World) (b:Nat) (x:WkX) (gr0:List Bl) (pos:Nat) (lo:List Ty) (pl pt pfl pfs:Option Addr) (cl ct cfl cfs:Nat) (st:List Ty) (sv:Value) (al:Bool) (tl:List Ty) (f:At.Fr) (Ra:Asr) (hfl:∀ w',Below u.heap.size u w'→Yu w' (.slice pfl f.locals.length cfl) f.locals) (hfs:∀ w',Below u.heap.size u w'→Yu w' (.slice pfs f.stack.length cfs) f.stack) (hll:f.locals.length=lo.length) (htl:tl.length≤1048576)
  (hT:∀ gr' w',Below u.heap.size u w'→((wkA x ⟨gr',pos,lo,.slice pl lo.length cl,st,sv,al⟩).and Ra).A w'→TyL w' (.slice pt tl.length ct) tl)
  (hpfl:0<f.locals.length→∃ b o,pfl=some ⟨b,o,none⟩) (hfl1:f.locals.length≤1048576) (hpfs:0<f.stack.length→∃ b o,pfs=some ⟨b,o,none⟩) (hfsA:f.stack.length≤1048576) (hpl:0<lo.length→∃ g,pl=some ⟨g,0,none⟩) (hpt:0<tl.length→∃ g o,pt=some ⟨g,o,none⟩) :
  RxP Tryz.prog 260 ([.pointer (some ⟨b,0,none⟩),.agg [.slice pl lo.length cl,.slice pt tl.length ct].toArray,.agg (frV f (.slice pfl f.locals.length cfl) (.slice pfs f.stack.length cfs)).toArray]:List Value).toArray u b (wkC x ⟨gr0,pos,lo,.slice pl lo.length cl,st,sv,al⟩) ((wkA x ⟨gr0,pos,lo,.slice pl lo.length cl,st,sv,al⟩).and Ra) (okMf x ⟨gr0,pos,lo,.slice pl lo.length cl,st,sv,al⟩ Ra tl f) (Vp x.n pos) (mfF x.c tl f (Vl ⟨gr0,pos,lo,.slice pl lo.length cl,st,sv,al⟩)=none):=by
 intro w hu hF hs0;replace hpfl:Hid _:=hpfl;replace hpfs:Hid _:=hpfs;replace hpl:Hid _:=hpl;replace hpt:Hid _:=hpt;replace hfl:Hid _:=hfl;replace hfs:Hid _:=hfs;replace hT:Hid _:=hT;have hOpen:=Yz (Z:=RxZ b w ((wkA x ⟨gr0,pos,lo,.slice pl lo.length cl,st,sv,al⟩).and Ra) (okMf x ⟨gr0,pos,lo,.slice pl lo.length cl,st,sv,al⟩ Ra tl f) (Vp x.n pos) (mfF x.c tl f (Vl ⟨gr0,pos,lo,.slice pl lo.length cl,st,sv,al⟩)=none)) (hS:=hs0) (args:=[.pointer (some ⟨b,0,none⟩),.agg [.slice pl lo.length cl,.slice pt tl.length ct].toArray,.agg (frV f (.slice pfl f.locals.length cfl) (.slice pfs f.stack.length cfs)).toArray]) Tryz.func260 rfl Tryz.ntmps260;refine hOpen ?_;clear hOpen;refine Zg (Zb (Y2 J J ?_));intro b1 hb1;refine Y2 J J ?_;intro b2 hb2;refine Ze (Zc (Zg (Zb (Za J (Zd J) (Za J (Zh (ff J) J) (Za J (Zj (t1 J) J (Zi 1 J J)) (Za J (Zx (ts J) J) (Za J (Zh (ff J) J) (Za J (Zj (t1 J) J (Zi 0 J J)) (Za J (Zx (ts J) J) (Za J (Ya J J) ?_)))))))))));refine Y8 Pe J J 2 J hu hF (V0 u b x ⟨gr0,pos,lo,.slice pl lo.length cl,st,sv,al⟩ _ _) (fun hm=>by (repeat refine Wh ?_);exact Wm (mf_len (of_decide_eq_false hm))) ?_;rintro v cs' R' ⟨rfl,rfl,rfl,hyes⟩;replace hyes:=of_decide_eq_true hyes;refine Ze (Zc (Zg (Zg (Zb (Za J (Zh (ff J) J) (Za J (Zj (t1 J) J (Zi 1 J J)) (Za J (Zx (ts J) J) (Za J (Zd J) (Ze (Zc (Zn ?_)))))))))));refine Yf (Yg (X:=MtW) (fun y=>[(0,.pointer (some ⟨b,0,none⟩)),(4,.pointer (some ⟨b1,0,none⟩)),(5,.pointer (some ⟨b2,0,none⟩)),(20,.slice pt tl.length ct),(21,.int .i64 (tl.length:Nat)),(22,.int .i64 (y.n:Nat))]) _ _ (fun y=>[(b2,frV f (.slice pfl f.locals.length cfl) (.slice pfs f.stack.length cfs)),(b1,[.slice pl lo.length cl,.slice pt tl.length ct]),(b,wkC x ⟨y.gr,pos,lo,.slice pl lo.length cl,st,sv,al⟩)]) (fun y=>(wkA x ⟨y.gr,pos,lo,.slice pl lo.length cl,st,sv,al⟩).and Ra) (fun y=>y.n≤tl.length∧Hid (Wg x.c ((tl.zip f.stack).take y.n) (fun z=>z ∈ gr0)=some fun z=>z ∈ y.gr)) (fun y=>tl.length - y.n) (⟨0,gr0⟩) (⟨Nat.zero_le _,J⟩) ?_) ⟨J,J,J,J,J,J,trivial⟩;intro y hI;obtain ⟨n,gr⟩:=y;obtain ⟨hj1,hj2⟩:=hI;dsimp only at hj1 hj2;have hnn:(MtW.mk n gr).n=n:=rfl;refine Zg (Zb (Za J (Yi J J) (Ze (Zc (Zg (Zu J ?_ ?_))))))
 ·intro c1;replace c1:(n:Int)<(tl.length:Int):=c1;obtain ⟨gt,ot,hgt⟩:=hpt.out (by omega);obtain ⟨gs,os,hgs⟩:=hpfs.out (by omega);subst hgt;subst hgs;obtain ⟨sA,hsn⟩:∃ t,tl[n]?=some t:=⟨_,List.getElem?_eq_getElem (by omega)⟩;obtain ⟨tA,htn⟩:∃ t,f.stack[n]?=some t:=⟨_,List.getElem?_eq_getElem (by omega)⟩;refine Zo (Zc (Zg (Zn (Zg (Zb (Za J (Zd J) (Za J (Yo (ts J) J J ?_) ?_)))))))
  ·omega
  refine Za J (Yj (tn J) J (row_tl (fun w hs=>hT.out gr w (Xp hu hF hs) hs.res) hsn) J) ?_;refine Yk J (tz J) ?_;intro b3 hb3;refine Za J (Zf J) (Z2 (tn J) J J 0 J J J J (Ze (Zc (Qd X2 (Z4 0 J (by kernel_rfl) J lN (Zd J) ?_)))));refine Z4 1 J (by kernel_rfl) J lN (Zd J) ?_;refine Z4 2 J (by kernel_rfl) J lN (Zv (tn J) J 0 J J) ?_;refine Z4 3 J (by kernel_rfl) J lN (Zh (ff J) J) ?_;refine Z4 4 J (by kernel_rfl) J lN (Zj (t1 J) J (Zi 1 J J)) ?_;refine Z4 5 J (by kernel_rfl) J lN (Zd J) ?_;refine Z4 6 J (by kernel_rfl) J lN (Yo (ts J) J J ?_) ?_
  ·omega
  refine Z4 7 J (by kernel_rfl) J lN (Yj (tn J) J (R6 (u:=u) (fun w hs=>hfs.out w (Xp hu hF hs)) htn) J) ?_;refine Xh 8 (by kernel_rfl) J ?_;refine Vx fn327 J J 3 J hu hF (wfits_any u b x ⟨gr,pos,lo,.slice pl lo.length cl,st,sv,al⟩ sA tA) ?_;rintro v cs' R' ⟨gr',rfl,rfl,hR,hm2⟩;refine Zz (Asr.Imp.left hR) ?_;refine Ze (Y1 lN (Xh 9 (by kernel_rfl) J ?_));refine Y8 Pe J J 3 J hu hF (V0 u b x ⟨gr',pos,lo,.slice pl lo.length cl,st,sv,al⟩ _ _) (fun hm=>by (repeat refine Wh ?_);exact Wm (mf_st (k:=⟨gr0,pos,lo,_,st,sv,al⟩) hsn htn hj2.out hm)) ?_;rintro v cs' R' ⟨rfl,rfl,rfl,hyes2⟩;refine Ze (Y1 lN (W8 (by kernel_rfl) ?_));refine Zt (Zc (Zb ?_));refine Za J (Yn J J ?_) ?_;omega;refine Za J (Zd J) (Ze ?_);refine Z1 ((⟨n+1,gr'⟩:MtW)) ?_ (⟨by show n+1≤_;omega,by show Hid (Wg x.c ((tl.zip f.stack).take (n+1)) _=_);rw [zip_snoc hsn htn];exact addAll_more hj2.out hyes2 hm2⟩) 1 J (J) ⟨J,J,J,J,J,J,trivial⟩;show tl.length - (n+1)<tl.length - n;omega
 ·intro c1;replace c1:¬ (n:Int)<(tl.length:Int):=c1;refine Yd (Yc (Z5 (Yb (Zc (Zg (Zb (Za J (Zh (ff J) J) (Za J (Zj (t1 J) J (Zi 1 J J)) (Za J (Zx (ts J) J) (Za J (Zd J) (Ze (Zc (Zn ?_)))))))))))));refine Yf (Yg (X:=MtW) (fun z=>[(0,.pointer (some ⟨b,0,none⟩)),(5,.pointer (some ⟨b2,0,none⟩)),(39,.slice pl lo.length cl),(40,.int .i64 (lo.length:Nat)),(41,.int .i64 (z.n:Nat))]) _ _ (fun z=>[(b2,frV f (.slice pfl f.locals.length cfl) (.slice pfs f.stack.length cfs)),(b1,[.slice pl lo.length cl,.slice pt tl.length ct]),(b,wkC x ⟨z.gr,pos,lo,.slice pl lo.length cl,st,sv,al⟩)]) (fun z=>(wkA x ⟨z.gr,pos,lo,.slice pl lo.length cl,st,sv,al⟩).and Ra) (fun z=>z.n≤lo.length∧Hid (Wg x.c (tl.zip f.stack++Sm lo f.locals z.n) (fun y=>y ∈ gr0)=some fun y=>y ∈ z.gr)) (fun z=>lo.length - z.n) (⟨0,gr⟩) (⟨Nat.zero_le _,by show Hid (Wg x.c (tl.zip f.stack++[]) _=_);rw [List.append_nil];rw [List.take_of_length_le (by rw [List.length_zip];omega)] at hj2;exact hj2⟩) ?_) ⟨J,J,J,J,J,trivial⟩;intro z hI;clear hj1 hj2 c1 hnn;obtain ⟨n,gr⟩:=z;obtain ⟨hj1,hj2⟩:=hI;dsimp only at hj1 hj2;have hnn:(MtW.mk n gr).n=n:=rfl;refine Zg (Zb (Za J (Yi J J) (Ze (Zc (Zg (Zu J ?_ ?_))))))
  ·intro c2;replace c2:(n:Int)<(lo.length:Int):=c2;obtain ⟨gl,hgl⟩:=hpl.out (by omega);obtain ⟨gf,of,hgf⟩:=hpfl.out (by omega);subst hgl;subst hgf;obtain ⟨sA,hsn⟩:∃ t,lo[n]?=some t:=⟨_,List.getElem?_eq_getElem (by omega)⟩;obtain ⟨tA,htn⟩:∃ t,f.locals[n]?=some t:=⟨_,List.getElem?_eq_getElem (by omega)⟩;refine Zo (Zc (Zg (Zn (Zg (Zb (Za J (Zd J) (Za J (Yo (ts J) J J ?_) ?_)))))))
   ·omega
   refine Za J (Yj (tn J) J (row_ls (fun w hs=>hs.res.1.2.1.1) hsn) J) ?_;refine Yk J (tz J) ?_;intro b3 hb3;refine Za J (Zf J) (Z2 (tn J) J J 0 J J J J (Ze (Zc (Qd X2 (Z4 0 J (by kernel_rfl) J lN (Zd J) ?_)))));refine Z4 1 J (by kernel_rfl) J lN (Zh (ff J) J) ?_;refine Z4 2 J (by kernel_rfl) J lN (Zj (t1 J) J (Zi 1 J J)) ?_;refine Z4 3 J (by kernel_rfl) J lN (Zd J) ?_;refine Z4 4 J (by kernel_rfl) J lN (Yo (ts J) J J ?_) ?_
   ·omega
   refine Z4 5 J (by kernel_rfl) J lN (Zh (ff J) J) ?_;refine Z4 6 J (by kernel_rfl) J lN (Zj (t1 J) J (cell_ro (u:=u) (fun w hs=>hfl.out w (Xp hu hF hs)) htn J)) ?_;refine Z4 7 J (by kernel_rfl) J lN (Ya J J) ?_;refine Z4 8 J (by kernel_rfl) J lN (Zd J) ?_;refine WH_split (s:=54) J ?_ ?_
   ·intro h1;replace h1:=dTr h1;refine O6 9 J J J (by kernel_rfl) (by kernel_rfl) (by kernel_rfl) J lN ?_;refine O6 10 J J J (by kernel_rfl) (by kernel_rfl) (by kernel_rfl) J lN ?_;refine O6 11 J J J (by kernel_rfl) (by kernel_rfl) (by kernel_rfl) J lN ?_;refine O6 12 J J J (by kernel_rfl) (by kernel_rfl) (by kernel_rfl) J lN ?_;refine O6 13 J J J (by kernel_rfl) (by kernel_rfl) (by kernel_rfl) J lN ?_;refine O6 14 J J J (by kernel_rfl) (by kernel_rfl) (by kernel_rfl) J lN ?_;refine O6 15 J J J (by kernel_rfl) (by kernel_rfl) (by kernel_rfl) J lN ?_;refine Xh 16 (by kernel_rfl) J ?_;refine Zm J J J (Ze (Y1 lN (Z4 17 J (by kernel_rfl) J lN (Zp J J) ?_)));refine Xh 18 (by kernel_rfl) J ?_;refine Y8 Pe J J 3 J hu hF ((by exact V0 u b x ⟨gr,pos,lo,.slice (some ⟨gl,0,none⟩) lo.length cl,st,sv,al⟩ _ _)) (fun hm=>by (repeat refine Wh ?_);exact Wm ((by cases hm))) ?_;rintro v cs' R' ⟨rfl,rfl,rfl,hyes2⟩;refine Ze (Y1 lN (W8 (by kernel_rfl) ?_));refine Zt (Zc (Zb ?_));refine Za J (Yn J J ?_) ?_;omega;refine Za J (Zd J) (Ze ?_);refine Z1 ((⟨n+1,gr⟩:MtW)) ?_ (⟨by show n+1≤_;omega,by show Hid (Wg x.c (tl.zip f.stack++Sm lo f.locals (n+1)) _=_);rw [O1 hsn htn,if_pos h1,List.append_nil];exact hj2⟩) 1 J (J) ⟨J,J,J,J,J,trivial⟩;show lo.length - (n+1)<lo.length - n;omega
   ·intro h1;replace h1:=dFa h1;refine Qc 9 J J J (by kernel_rfl) (by kernel_rfl) (by kernel_rfl) J lN (Zd J) ?_;refine Qc 10 J J J (by kernel_rfl) (by kernel_rfl) (by kernel_rfl) J lN (Zv (tn J) J 0 J J) ?_;refine Qc 11 J J J (by kernel_rfl) (by kernel_rfl) (by kernel_rfl) J lN (Zh (ff J) J) ?_;refine Qc 12 J J J (by kernel_rfl) (by kernel_rfl) (by kernel_rfl) J lN (Zj (t1 J) J (Zi 1 J J)) ?_;refine Qc 13 J J J (by kernel_rfl) (by kernel_rfl) (by kernel_rfl) J lN (Zd J) ?_;refine Qc 14 J J J (by kernel_rfl) (by kernel_rfl) (by kernel_rfl) J lN (Yo (ts J) J J ?_) ?_
    ·omega
    refine Qc 15 J J J (by kernel_rfl) (by kernel_rfl) (by kernel_rfl) J lN (Yj (tn J) J (R6 (u:=u) (fun w hs=>hfl.out w (Xp hu hF hs)) htn) J) ?_;refine Xh 16 (by kernel_rfl) J ?_;refine WL_guard J J ?_;refine Vx fn327 J J 3 J hu hF (wfits_any u b x ⟨gr,pos,lo,.slice (some ⟨gl,0,none⟩) lo.length cl,st,sv,al⟩ sA tA) ?_;rintro v cs' R' ⟨gr',rfl,rfl,hR,hm2⟩;refine Zz (Asr.Imp.left hR) ?_;refine Ze (Y1 lN (Z4 17 J (by kernel_rfl) J lN (Zs J J) ?_));refine Xh 18 (by kernel_rfl) J ?_;refine Y8 Pe J J 3 J hu hF ((by exact V0 u b x ⟨gr',pos,lo,.slice (some ⟨gl,0,none⟩) lo.length cl,st,sv,al⟩ _ _)) (fun hm=>by (repeat refine Wh ?_);exact Wm ((by exact mf_lo (k:=⟨gr0,pos,lo,_,st,sv,al⟩) hsn htn h1 hj2.out hm))) ?_;rintro v cs' R' ⟨rfl,rfl,rfl,hyes2⟩;refine Ze (Y1 lN (W8 (by kernel_rfl) ?_));refine Zt (Zc (Zb ?_));refine Za J (Yn J J ?_) ?_;omega;refine Za J (Zd J) (Ze ?_);refine Z1 ((⟨n+1,gr'⟩:MtW)) ?_ (⟨by show n+1≤_;omega,by show Hid (Wg x.c (tl.zip f.stack++Sm lo f.locals (n+1)) _=_);rw [O1 hsn htn,if_neg h1,← List.append_assoc];exact addAll_more hj2.out hyes2 hm2⟩) 1 J (J) ⟨J,J,J,J,J,trivial⟩;show lo.length - (n+1)<lo.length - n;omega
  ·intro c2;replace c2:¬ (n:Int)<(lo.length:Int):=c2;refine Yd (Yc (Z5 (Yb (W5 J 2 J ?_))));exact ⟨J,gr,J,.refl _,mf_yes (k:=⟨gr0,pos,lo,_,st,sv,al⟩) (by omega) (by show Wg x.c (tl.zip f.stack++S9 lo f.locals) _=_;rw [← pairsN_all (n:=n) (by omega)];exact hj2.out)⟩
theorem mustFit_any (u:World) (b:Nat) (x:WkX) (k:WkM) (tl:List Ty) (tv:Value) (f:At.Fr) (flv fsv:Value) (Ra:Asr) (hfl:∀ w',Below u.heap.size u w'→Yu w' flv f.locals) (hfs:∀ w',Below u.heap.size u w'→Yu w' fsv f.stack) (hll:f.locals.length=k.lo.length) (htl:tl.length≤1048576)
  (hT:∀ gr' w',Below u.heap.size u w'→((wkA x { k with gr:=gr' }).and Ra).A w'→TyL w' tv tl) :
  RxP Tryz.prog 260 ([.pointer (some ⟨b,0,none⟩),.agg [k.lv,tv].toArray,.agg (frV f flv fsv).toArray]:List Value).toArray u b (wkC x k) ((wkA x k).and Ra) (okMf x k Ra tl f) (Vp x.n k.pos) (mfF x.c tl f (Vl k)=none):=by
 intro w hu hF hs0;obtain ⟨gr0,pos,lo,lv,st,sv,al⟩:=k;obtain ⟨pfl,cfl,rfl,⟨hfl1,hfl2⟩,hpfl⟩:=(hfl w hu).shape;obtain ⟨pfs,cfs,rfl,⟨hfsA,hfs2⟩,hpfs⟩:=(hfs w hu).shape;have hLS:(lsA lv lo).A w:=hs0.res.1.2.1.1;dsimp only at hll hT;obtain ⟨pl,cl,rfl,⟨hlc,hcm⟩,hpl⟩:=T6 hLS;obtain ⟨pt,ct,rfl,hpt, -⟩:=(hT gr0 w hu hs0.res).is;exact mustFit_core u b x gr0 pos lo pl pt pfl pfs cl ct cfl cfs st sv al tl f Ra hfl hfs hll htl hT hpfl hfl1 hpfs hfsA hpl hpt w hu hF hs0
end
namespace E
open Go Go.RowKit
theorem Ex_nilT {n:Nat} {E:Env} {w0:World} {F:List Nat} {H:Hp} {R:Asr} {t':TypeId} {x y:Operand} {p:Option Addr} {l c:Nat} (hx:ev E x=some (.slice p l c)) (hy:ev E y=some (.slice none 0 0)):Ex Tryz.prog n E w0 F H R (.binOp .eql 69 x y t') (.bool p.isNone):=⟨fun w _ a ha _ _ _ _ _=>by
 have h1:(Op.equal 69 (.slice p l c) (.slice none 0 0)).run Tryz.prog w=.ok p.isNone w:=run_equal_slice_nil w 69 71 p l c (by kernel_rfl);simp only [execOp];rw [ha.eval hx,ha.eval hy];simp [eqGuard,binOp,h1]⟩
end E
section
open Go Go.RowKit At E
theorem ls_nil (p:Option Addr) (R:Asr):R.Imp ((lsA (.slice p 0 0) []).and R):=by
 rw [lsA_z (v:=.slice p 0 0) rfl];exact ⟨fun x hx=>by simpa [Asr.and] using hx,fun _ ha=>⟨J,ha,fun _ hk=>(List.not_mem_nil hk).elim⟩⟩
theorem WL_appC {n:Nat} {E:Env} {w0:World} {F:List Nat} {H:Hp} {R:Asr} {fn:Func} {Z:Ending→World→Prop} {κ:List Kf} {all:Array Oper} {l:List Oper} {d:Nat} {ty:TypeId} {p q:Option Addr} {x y:Operand} {ps:String} {g:Array Edge} {c:Nat} {tl:List Ty} {bytes:Nat} {z:Value} (hd:Nat.blt d n=true) (ht:TA Tryz.prog 69 71 2 bytes z) (hby:bytes≤100) (hx:ev E x=some (.slice p 0 0))
  (hy:ev E y=some (.slice q tl.length c)) (hc:0<tl.length→∃ b o,q=some ⟨b,o,none⟩∧Row w0 F H R b o (tl.flatMap tyV)) (hl:tl.length≤2000000)
  (h:∀ v',WL Tryz.prog n all l ((d,v')::E) w0 F H ((lsA v' tl).and R) fn Z κ) :
  WL Tryz.prog n all (⟨some d,.call ⟨.builtin .append,#[x,y],#[69,69]⟩,ty,ps,g,none⟩::l) E w0 F H R fn Z κ:=by
 by_cases hm:0<tl.length
 ·obtain ⟨b,o,rfl,hrow⟩:=hc hm;refine WL_app0 hd ht hx hy hrow (Ox tl) (tyV_all tl) hm (by simp [maxLen];omega) (Nat.le_trans (Nat.mul_le_mul hl hby) (by decide)) fun v'=>?_;exact Zz (Asr.Imp.left (Mr v' tl)) (h v')
 ·have h0:tl=[]:=List.eq_nil_of_length_eq_zero (by omega);subst h0;refine ⟨fun w hs a ha=>wpList_plain J fun K hK=>?_⟩;obtain ⟨i,hi,hz,hsz,hb⟩:=info_parts ht.inf
  have he:(execOp a.eval ⟨some d,.call ⟨.builtin .append,#[x,y],#[69,69]⟩,ty,ps,g,none⟩).run Tryz.prog w=.ok (.value (.slice p 0 0)) w:=by
   simp only [execOp,resolve,invoke,builtin];cases p<;>cases q<;>simp [ha.eval hx,ha.eval hy,Builtin.append_,run_underlying ht.sl,sizeOf,typeInfo,hi,Builtin.lenOf,Builtin.firstCells,loadCells,loadCellsFrom,storeCells]
  unfold Oper.wp;rw [he];exact hK _ _ ((h (.slice p 0 0)).go w (hs.leads (ls_nil p R)) _ (ha.put hd _))
end
namespace E
open Go Go.RowKit
theorem WL_bs0 {P:Program} {n:Nat} {E:Env} {w0:World} {F:List Nat} {H:Hp} {R:Asr} {fn:Func} {Z:Ending→World→Prop} {κ:List Kf} {all:Array Oper} {l:List Oper} {d:Nat} {t e k ty:Nat} {p:String} {g:Array Edge} (hd:Nat.blt d n=true) (ht:TS P t e k)
  (h:∀ b,w0.heap.size≤b→WL P n all l ((d,.slice (some ⟨b,0,none⟩) 0 0)::E) w0 F ((b,[])::H) R fn Z κ):WL P n all (⟨some d,.buildSlice t 0 #[],ty,p,g,none⟩::l) E w0 F H R fn Z κ :=
 ⟨fun w hs a ha=>wpList_plain rfl fun K hK=>by
  have hsz:=ht.2 w
  have hr:(execOp a.eval ⟨some d,.buildSlice t 0 #[],ty,p,g,none⟩).run P w=.ok (.value (.slice (some ⟨w.heap.size,0,none⟩) 0 0)) (w.alloc (.cells [].toArray e)):=by
   have hf:Instr.fill (fun i=>some (i*k,k)) (Array.map (fun _=>(default:Value)) (Array.range 0)) []=some #[]:=by simp [Instr.fill]
   simp [execOp,Instr.buildSlice,run_underlying ht.1,hsz,newRow];rw [hf];simp
  unfold Oper.wp;rw [hr];exact hK _ _ ((h w.heap.size hs.low.size).go (w.alloc _) (hs.alloc [] e) _ (ha.put hd _))⟩
end E
section
open Go Go.RowKit At E
theorem clone_nil {p:Option Addr} {l:List Ty} (h:0<l.length→∃ b o,p=some ⟨b,o,none⟩) (hp:p=none):Asr.none.Imp (lsA (.slice none 0 0) l):=by
 have h0:l=[]:=by
  cases l with
  | nil=>rfl
  | cons t l=>obtain ⟨b,o,e⟩:=h (by simp);rw [hp] at e;cases e
 subst h0;rw [lsA_z (v:=.slice none 0 0) rfl];exact ⟨fun _ hk=>(List.not_mem_nil hk).elim,fun _ _=>J⟩
theorem Qz (v:Value) (l:List Ty) (w:World) (h:Yu w v l):FnP Tryz.prog 261 #[v] w (fun v' R'=>R'.Imp (lsA v' l)) False:=by
 obtain ⟨p,c,rfl,⟨hl1,hl2⟩,hps⟩:=h.shape;replace hps:Hid _:=hps;replace h:Hid _:=h;refine Xf (args:=[.slice p l.length c]) Tryz.func261 J Tryz.ntmps261 ?_;refine Zg (Zb (Za J (Zf J) (Ze (Zc (Zg (Zg (Zb (Za J (Zd J) (Za J (Ex_nilT J J) (Ze (Zc (W4 J ?_ ?_))))))))))))
 ·intro c1;refine Zg (Zb (Za J (Zf J) (Ze (Zc (Zr (Zl (T0 (We J (X9 J)) ?_)))))));exact (clone_nil hps.out (by simpa using c1))
 ·intro c1;refine Zo (Zc (Zg (Zb ?_)));refine WL_bs0 J (ts J) ?_;intro b0 hb0;refine Za J (Zd J) (WL_appC J (ta J) (by decide) J J (ro_rows hps.out (fun w' hs=>Yu.mono h.out hs.low.below)) (by omega) ?_);intro v1;refine Za J (Zf J) (Ze (Zc (Zr (T0 (We J (X9 J)) ?_))));exact Asr.fst _ _
theorem fn329:IsFn Tryz.prog 329:=⟨_,Tryz.func329,by kernel_rfl,by kernel_rfl⟩
def cmpI (a b:Int):Int:=if a<b then -1 else if b<a then 1 else 0
theorem nanInt_any (n:Int) (w:World):Vc Tryz.prog 360 #[.int .i64 n] w (.bool false):=by
 refine Xf (args:=[.int .i64 n]) Tryz.func360 J Tryz.ntmps360 ?_;refine Zg (Zb (Za J (Zf J) (Ze (Zc (Zg (Zb (Za J (Zd J) (Za J (Zd J) (Za J (T3 J J) (Za J (Zf J) (Ze (Zc (Zr (Z3 J J ?_))))))))))))));simp
theorem cmpInt_any (a b:Int) (w:World):Vc Tryz.prog 330 #[.int .i64 a,.int .i64 b] w (.int .i64 (cmpI a b)):=by
 refine Xf (args:=[.int .i64 a,.int .i64 b]) Tryz.func330 J Tryz.ntmps330 ?_;refine Zg (Zb (Za J (Zf J) (Ze (Zc (Zg (Zb (Za J (Zd J) (Yq fn360 J J (fun w _=>nanInt_any _ w) ?_))))))));refine Za J (Zf J) (Ze (Zc (Zg (Zb (Za J (Zd J) (Yq fn360 J J (fun w _=>nanInt_any _ w) ?_))))));refine Za J (Zf J) (Ze (Zc (Zg (Zg (Zb (Za J (Zd J) (Ze (Zc (W4 J ?_ ?_)))))))))
 ·intro c1;cases c1
 ·intro c1;refine Zo (Zc (Zg (Zg (Zb (Za J (Zd J) (Ze (Zc (W4 J ?_ ?_))))))))
  ·intro c3;cases c3
  ·intro c3;refine Zo (Zc (Zg (Zg (Zb (Za J (Zd J) (Za J (Zd J) (Za J (Yi J J) (Ze (Zc (Zu J ?_ ?_))))))))))
   ·intro c4;refine Zg (Zb (Za J (Zf J) (Ze (Zc (Zr (Zl (Z3 J J ?_)))))))
    (unfold cmpI;simp_all<;>omega)
   ·intro c4;refine Zo (Zc (Zg (Zg (Zb (Za J (Zd J) (Za J (Zd J) (Za J (Ug J J) (Ze (Zc (Zu J ?_ ?_))))))))))
    ·intro c5;refine Zg (Zb (Za J (Zf J) (Ze (Zc (Zr (Zl (Z3 J J ?_)))))))
     (unfold cmpI;simp_all<;>omega)
    ·intro c5;refine Zo (Zc (Zg (Zb (Za J (Zf J) (Ze (Zc (Zr (Z3 J J ?_))))))))
     (unfold cmpI;simp_all<;>omega)
theorem frameC1_any (f:At.Fr) (lv sv:Value) (n:Int) (w:World):Vc Tryz.prog 329 #[.agg (frV f lv sv).toArray,.int .i64 n] w (.int .i64 (cmpI f.pos n)):=by
 refine Xf (args:=[.agg (frV f lv sv).toArray,.int .i64 n]) Tryz.func329 J Tryz.ntmps329 ?_;refine Zg (Zb (Y2 J J ?_));intro b0 hb0;refine Za J (Zf J) (Ze (Zc (Zg (Zb (Za J (Zh (ff J) J) (Za J (Zj (t1 J) J (Zi 0 J J)) (Za J (Zd J) (Yq fn330 J J (fun w _=>cmpInt_any _ _ w) ?_))))))));refine Za J (Zf J) (Ze (Zc (Zr (Z3 J J ?_))));rfl
def bsI (l:List At.Fr) (a:Int):Nat:=l.findIdx fun f=>decide (¬ f.pos<a)
def bsB (l:List At.Fr) (a:Int):Bool:=match l[bsI l a]? with
 | some f=>decide (f.pos=a)
 | none=>false
def FrUp (l:List At.Fr):Prop:=∀ (i j:Nat) (f g:At.Fr),i<j→l[i]?=some f→l[j]?=some g→f.pos<g.pos
theorem bs_len (l:List At.Fr) (a:Int):bsI l a≤l.length:=List.findIdx_le_length
theorem bs_at {l:List At.Fr} {a:Int} {g:At.Fr} (h:l[bsI l a]?=some g):¬ g.pos<a:=by
 have h1:bsI l a<l.length:=Wa h;have h2:=List.findIdx_getElem (p:=fun f:At.Fr=>decide (¬ f.pos<a)) (w:=h1);rw [List.getElem?_eq_getElem h1] at h;have h3:l[bsI l a]=g:=Option.some.inj h;have h4:decide (¬ (l[bsI l a]).pos<a)=true:=h2;rw [h3] at h4;exact dTr h4
theorem bs_below {l:List At.Fr} {a:Int} {j:Nat} {g:At.Fr} (hj:l[j]?=some g) (h:j<bsI l a):g.pos<a:=by
 have h1:=List.not_of_lt_findIdx (p:=fun f:At.Fr=>decide (¬ f.pos<a)) h;have h2:l[j]'(Wa hj)=g:=by rw [List.getElem?_eq_getElem (Wa hj)] at hj;exact Option.some.inj hj
 rw [h2] at h1
 simpa using h1
theorem bs_lo {l:List At.Fr} (hs:FrUp l) {a:Int} {j:Nat} {g:At.Fr} (hj:l[j]?=some g) (h:g.pos<a):j+1≤bsI l a:=by
 rcases Nat.lt_or_ge j (bsI l a) with h1 | h1
 ·exact h1
 ·have h2:bsI l a<l.length:=Nat.lt_of_le_of_lt h1 (Wa hj);have h3:=bs_at (List.getElem?_eq_getElem h2);rcases Nat.lt_or_ge (bsI l a) j with h4 | h4
  ·have:=hs _ _ _ _ h4 (List.getElem?_eq_getElem h2) hj;omega
  ·have h5:bsI l a=j:=by omega
   have h6:l[bsI l a]?=some g:=by rw [h5];exact hj
   exact absurd h (bs_at h6)
theorem bs_hi {l:List At.Fr} {a:Int} {j:Nat} {g:At.Fr} (hj:l[j]?=some g) (h:¬ g.pos<a):bsI l a≤j:=by
 rcases Nat.lt_or_ge j (bsI l a) with h1 | h1
 ·exact absurd (bs_below hj h1) h
 ·exact h1
theorem bs_yes {l:List At.Fr} (hs:FrUp l) {a:Int} (h:bsB l a=true):∃ f,l[bsI l a]?=some f∧l.find? (fun f=>decide (f.pos=a))=some f:=by
 unfold bsB at h;split at h
 ·next f hf =>
  replace h:=of_decide_eq_true h;refine ⟨f,hf,?_⟩;cases e:l.find? (fun f=>decide (f.pos=a)) with
  | none =>
   have:=List.find?_eq_none.1 e f (List.mem_of_getElem? hf);simp [h] at this
  | some g =>
   have hg:g.pos=a:=of_decide_eq_true (List.find?_some (p:=fun f:At.Fr=>decide (f.pos=a)) e);obtain ⟨j,hj⟩:=List.mem_iff_getElem?.1 (List.mem_of_find?_eq_some e);rcases Nat.lt_trichotomy j (bsI l a) with h1 | h1 | h1
   ·have:=hs _ _ _ _ h1 hj hf;omega
   ·rw [h1,hf] at hj;exact hj.symm
   ·have:=hs _ _ _ _ h1 hf hj;omega
 ·cases h
theorem bs_no {l:List At.Fr} (hs:FrUp l) {a:Int} (h:bsB l a=false):l.find? (fun f=>decide (f.pos=a))=none:=by
 rw [List.find?_eq_none];intro f hf;obtain ⟨j,hj⟩:=List.mem_iff_getElem?.1 hf;intro hp;replace hp:=of_decide_eq_true hp;rcases Nat.lt_or_ge j (bsI l a) with h1 | h1
 ·have:=bs_below hj h1;omega
 ·have h2:bsI l a<l.length:=Nat.lt_of_le_of_lt h1 (Wa hj);have h3:=bs_at (List.getElem?_eq_getElem h2);unfold bsB at h;rw [List.getElem?_eq_getElem h2] at h;replace h:=of_decide_eq_false h;rcases Nat.lt_or_ge (bsI l a) j with h4 | h4
  ·have:=hs _ _ _ _ h4 (List.getElem?_eq_getElem h2) hj;omega
  ·have h5:bsI l a=j:=by omega
   have h6:l[bsI l a]?=some f:=by rw [h5];exact hj
   rw [List.getElem?_eq_getElem h2] at h6;rw [Option.some.inj h6] at h;exact h hp
theorem cmp_lt {a b:Int} (h:cmpI a b<0):a<b:=by unfold cmpI at h;split at h<;>(try split at h)<;>omega
theorem cmp_ge {a b:Int} (h:¬ cmpI a b<0):¬ a<b:=by unfold cmpI at h;split at h<;>(try split at h)<;>omega
theorem cmp_eq {a b:Int}:cmpI a b=0↔a=b:=by unfold cmpI;split<;>(try split)<;>omega
theorem half_is {i j:Nat} (h:i<j) (hj:j≤1048576):IntKind.wrap .i64 ((IntKind.wrap .u64 ((i:Int)+j)).fdiv (2 ^ min (1:Int).toNat (IntKind.bits .u64)))=(((i+j)/2:Nat):Int):=by
 have h1:IntKind.wrap .u64 ((i:Int)+j)=(i:Int)+j:=by rw [IntKind.wrap_u64];omega
 rw [h1,show min (1:Int).toNat (IntKind.bits .u64)=1 from rfl,show ((2:Int) ^ 1)=2 from rfl,Int.fdiv_eq_ediv_of_nonneg _ (by omega),Tu _ (by omega)];omega
theorem half_eq {i j m:Nat} (hm:m=(i+j)/2) (h:i<j) (hj:j≤1048576):IntKind.wrap .i64 ((IntKind.wrap .u64 ((i:Int)+j)).fdiv (2 ^ min (1:Int).toNat (IntKind.bits .u64)))=(m:Int):=by
 rw [hm];exact half_is h hj
theorem bs_leaf1 {l:List At.Fr} {a:Int} {i:Nat} {f:At.Fr} (h:i=bsI l a) (hi:l[i]?=some f):(.tuple #[iN i,.bool (decide (cmpI f.pos a=0))]:Value)=.tuple #[.int .i64 (bsI l a:Nat),.bool (bsB l a)]:=by
 subst h;have e:bsB l a=decide (f.pos=a):=by unfold bsB;rw [hi]
 rw [e,decide_eq_decide.2 cmp_eq]
theorem bs_leaf2 {l:List At.Fr} {a:Int} {i:Nat} (h:i=bsI l a) (hi:l.length≤i):(.tuple #[iN i,.bool false]:Value)=.tuple #[.int .i64 (bsI l a:Nat),.bool (bsB l a)]:=by
 subst h;have e:bsB l a=false:=by unfold bsB;rw [List.getElem?_eq_none hi]
 rw [e]
theorem frOfW (u:World) {q:Option Addr} {n c:Nat} {l:List At.Fr} (h:Pg u (.slice q n c) l) {i:Nat} {f:At.Fr} (hi:l[i]?=some f):∃ b o lv sv,q=some ⟨b,o,none⟩∧b<u.heap.size∧Yu u lv f.locals∧Yu u sv f.stack∧∀ j v,(frV f lv sv)[j]?=some v→u.cell? ⟨b,o+i*3+j,none⟩=some v:=by
 obtain ⟨p,c',hv, -,hr⟩:=h.is;cases hv;obtain ⟨b,o,r,hp,hb,⟨lv,sv,rfl,h1,h2, -⟩,hc⟩:=hr i f hi;exact ⟨b,o,lv,sv,hp,hb,h1,h2,hc⟩
structure BsV where
 i:Nat
 j:Nat
theorem row_u {u w0:World} {F:List Nat} {H:Hp} {R:Asr} {b o:Nat} {vs:List Value} (hu:Below u.heap.size u w0) (hF:∀ x ∈ F,u.heap.size≤x) (h:∀ j v,vs[j]?=some v→u.cell? ⟨b,o+j,none⟩=some v) (hb:b<u.heap.size):Row w0 F H R b o vs :=
 ⟨fun _ hs j v hj=>by rw [(Xp hu hF hs).cell (p:=⟨b,o+j,none⟩) hb];exact h j v hj⟩
theorem bsearch_any (g:Nat) (hg:IsFn Tryz.prog g) (hB:∀ f lv sv n w,Vc Tryz.prog g #[.agg (frV f lv sv).toArray,.int .i64 n] w (.int .i64 (cmpI f.pos n))) (v:Value) (l:List At.Fr) (a:Int) (w:World) (h:Pg w v l) (hs:FrUp l) :
  Vc Tryz.prog 328 #[v,.int .i64 a,.func (.func g) #[] #[]] w (.tuple #[.int .i64 (bsI l a:Nat),.bool (bsB l a)]):=by
 obtain ⟨p,c,rfl,⟨hl1,hl2⟩, -⟩:=h.is;replace h:Hid _:=h;replace hs:Hid _:=hs;have hbl:=bs_len l a;refine Xf (args:=[.slice p l.length c,.int .i64 a,.func (.func g) #[] #[]]) Tryz.func328 J Tryz.ntmps328 ?_;refine Zg (Zb (Za J (Zf J) (Za J (Zf J) (Ze (Zc (Zg (Zb (Za J (Zd J) (Za J (Zx (ts J) J) (Za J (Zf J) (Ze (Zc (Zg (Zb (Za J (Zd J) (Za J (Zf J) (Za J (Zf J) (Ze (Zc (Zg (Zn ?_)))))))))))))))))))));refine Yf (Yg (X:=BsV) (fun y=>[(0,.slice p l.length c),(1,.int .i64 a),(2,.func (.func g) #[] #[]),(8,iN l.length),(9,iN y.i),(10,iN y.j)]) _ _ (fun y=>[]) (fun y=>Asr.none) (fun y=>y.i≤bsI l a∧bsI l a≤y.j∧y.j≤l.length) (fun y=>y.j - y.i) (⟨0,l.length⟩) (⟨Nat.zero_le _,hbl,Nat.le_refl _⟩) ?_) ⟨J,J,J,J,J,J,trivial⟩;intro y hI;obtain ⟨i,j⟩:=y;obtain ⟨hj1,hj2,hj3⟩:=hI;dsimp only at hj1 hj2 hj3;have hnn:(BsV.mk i j).i=i:=rfl;have hnj:(BsV.mk i j).j=j:=rfl;refine Zg (Zg (Zb (Za J (Zd J) (Za J (Zd J) (Za J (Yi J J) (Ze (Zc (Zu J ?_ ?_))))))))
 ·intro c1;replace c1:(i:Int)<(j:Int):=c1;obtain ⟨m,hm⟩:∃ m,m=(i+j)/2:=⟨_,rfl⟩;obtain ⟨f,hi⟩:∃ f,l[m]?=some f:=⟨_,List.getElem?_eq_getElem (by omega)⟩;obtain ⟨gb,o,lv,sv,hq,hgb,hlv,hsv,hc⟩:=frOfW w h.out hi;subst hq;refine Zo (Zc (Zn (Zg (Zb (Za J (Zd J) (Za J (Zd J) ?_))))));refine Za J (Ex_addB J J ?_) ?_;omega;refine Za J (Si (Sj J) (Sj J) J) (Za J (Ex_shr J J J) (Za J (Si (Sj J) (Sj J) J) (Wt (s:=23) (v':=.int .i64 (m:Int)) J (congrArg (Value.int .i64) (half_eq hm (by omega) (by omega))) ?_)));refine Za J (Zf J) (Ze (Zc (Zg (Zb (Za J (Zd J) (Za J (Zd J) (Za J (Zd J) (Za J (Yo (ts J) J J ?_) ?_))))))))
  ·omega
  refine Za J (Yj (tn J) J (Xl hc hgb) J) (Za J (Zd J) (WL_callV hg J J J (fun w _=>hB _ _ _ _ w) ?_));refine Za J (Yi J J) (Ze (Zc (Zu J ?_ ?_)))
  ·intro c2;refine Zb (Za J (Zd J) ?_);refine Za J (Yn J J ?_) ?_;omega;refine Za J (Zf J) (Ze (Zt ?_));refine Z1 ((⟨m+1,j⟩:BsV)) ?_ (⟨bs_lo hs.out hi (cmp_lt c2),hj2,hj3⟩) 0 J (J) ⟨J,J,J,J,J,J,trivial⟩;show j - (m+1)<j - i;omega
  ·intro c2;refine Zb (Za J (Zd J) (Za J (Zf J) (Ze (Zt ?_))));refine Z1 ((⟨i,m⟩:BsV)) ?_ (⟨hj1,bs_hi hi (cmp_ge c2),by show m≤_;omega⟩) 0 rfl (rfl) ⟨rfl,rfl,rfl,rfl,rfl,rfl,trivial⟩;show m - i<j - i;omega
 ·intro c1;replace c1:¬ (i:Int)<(j:Int):=c1;refine Yd (Yc (Z5 (Yb (Zc (Zg (Zb (Za J (Zd J) (Za J (Zd J) (Za J (Zd J) (Za J (Yi J J) (Za J (Zd J) (Z9 J J J ?_ ?_))))))))))))
  ·intro h1;obtain ⟨f,hi⟩:∃ f,l[i]?=some f:=⟨_,List.getElem?_eq_getElem (by omega)⟩;obtain ⟨gb,o,lv,sv,hq,hgb,hlv,hsv,hc⟩:=frOfW w h.out hi;subst hq;refine Zk J J J (Zd J) (Zk J J J (Zd J) (Zk J J J (Zd J) (Zk J J J (Yo (ts J) J J ?_) ?_)))
   ·omega
   refine Zk J J J (Yj (tn J) J (Xl hc hgb) J) (Zk J J J (Zd J) ?_);refine WL_guard J J ?_;refine WL_callV hg J J J (fun w _=>hB _ _ _ _ w) ?_;refine Zk J J J (Ya J J) (Za J (Zp J J) (Za J (Zf J) (Za J (Zf J) (Ze (Zc (Zr (P_endR (Res_2 J (X9 J) (X9 J)) ?_)))))));exact bs_leaf1 (by omega) hi
  ·intro h1;refine Zm J J J (Zm J J J (Zm J J J (Zm J J J (Zm J J J (Zm J J J (Zm J J J (Zm J J J (Za J (Zs J J) (Za J (Zf J) (Za J (Zf J) (Ze (Zc (Zr (P_endR (Res_2 J (X9 J) (X9 J)) ?_))))))))))))));exact bs_leaf2 (by omega) (by omega)
def Vm:Value:=.slice none 0 0
def okFw (u:World) (x:WkX) (k:WkM) (a:Int) (Rin:Asr):Value→List Value→Asr→Prop:=fun v cs' R' =>
 cs'=wkC x k∧R'=Rin∧∃ (f:At.Fr) (lv sv:Value) (fd:Bool) (p1 p2:Option Addr) (n1 n2 c1 c2:Nat),lv=.slice p1 n1 c1∧sv=.slice p2 n2 c2∧v=.tuple #[.agg (frV f lv sv).toArray,.bool fd]∧(fd=true→U0 x.m a=some f∧Yu u lv f.locals∧Yu u sv f.stack)∧(fd=false→U0 x.m a=none)
theorem frame_any (u:World) (b:Nat) (x:WkX) (k:WkM) (a:Int) (Rin:Asr) (hG:Pg u x.rv x.m.frames) (hup:FrUp x.m.frames):RuP Tryz.prog 258 #[pt b,.int .i64 a] u b (wkC x k) Rin (okFw u x k a Rin):=by
 intro w hu hF hs0;obtain ⟨cl,fv,mv,gb0,n,me,pv,cv,hv,rv⟩:=x;dsimp only at hG hup;obtain ⟨q,e,rfl,⟨hl1,hl2⟩, -⟩:=hG.is;replace hG:Hid _:=hG;replace hup:Hid _:=hup;refine Yz (hs0) (args:=[pt b,.int .i64 a]) Tryz.func258 J Tryz.ntmps258 ?_;refine Zg (Zb (Yk J (tz J) ?_));intro b1 hb1;refine Za J (Zf J) (Ze (Zc (Zg (Zb (Za J (Zd J) (Za J (Zw J) (Za J (Zh (ff J) J) (Za J (Zh (ff J) J) (Za J (Zj (t1 J) J (Zi 1 J J)) (Za J (Zd J) (Yq fn328 J J (fun w hs=>bsearch_any 329 fn329 frameC1_any _ me.frames a w (Pg.mono hG.out (Xp hu hF hs)) hup.out) ?_)))))))))));refine Za J (Zd J) (Za J (X3 J J) (Za J (X3 J J) (Za J (Zf J) (Za J (Zf J) (Ze (Zc (Zg (Zg (Zb (Za J (Zd J) (Za J (Xv J) (Ze (Zc (W4 J ?_ ?_))))))))))))))
 ·intro c1;refine Zg (Zb (Za J (Z8 (tb J) J J) (Z2 (tn J) J J 0 J J J J (Za J (Zf J) (Ze (Zc (Zr (Zl (Wp (Res_2 J (Wf (tn J) J (Yl 0 J) J) (X9 J)) 1 J ?_)))))))));exact ⟨J,J,⟨0,[],[]⟩,Vm,Vm,false,_,_,_,_,_,_,J,J,J,(fun h=>by cases h),fun _=>bs_no hup.out (by simpa using c1)⟩
 ·intro c1;obtain ⟨f,hi,hfi⟩:=bs_yes hup.out (by simpa using c1);obtain ⟨gb,o,lv,sv,hq,hgb,hlv,hsv,hc⟩:=frOfW u hG.out hi;subst hq;have hlt:=Wa hi;obtain ⟨pA,cA,hvA, -⟩:=id hlv.is;obtain ⟨pB,cB,hvB, -⟩:=id hsv.is;subst hvA;subst hvB;refine Zo (Zc (Zg (Zb (Za J (Zd J) (Za J (Zw J) (Za J (Zh (ff J) J) (Za J (Zh (ff J) J) (Za J (Zj (t1 J) J (Zi 1 J J)) (Za J (Zd J) (Za J (Yo (ts J) J J ?_) ?_))))))))))
  ·omega
  refine Za J (Yj (tn J) J (row_u hu hF hc hgb) J) (Z2 (tn J) J J 0 J J J J (Za J (Zf J) (Ze (Zc (Zr (Wp (Res_2 J (Wf (tn J) J (Yl 0 J) J) (X9 J)) 1 J ?_))))));exact ⟨J,J,f,_,_,true,_,_,_,_,_,_,J,J,J,fun _=>⟨hfi,hlv,hsv⟩,(fun h=>by cases h)⟩
end
namespace E
open Go Go.RowKit
theorem Sat.take {w0:World} {F:List Nat} {H:Hp} {R:Asr} {w:World} (h:Sat w0 F H R w) (j:Nat):Sat w0 F (H.take j) R w :=
 ⟨h.low,fun p hp=>h.own p (List.mem_of_mem_take hp),fun p hp=>h.hi p (List.mem_of_mem_take hp),by rw [List.map_take];exact h.apart.sublist (List.take_sublist _ _),h.res,h.rhi,fun p hp=>h.rapart p (List.mem_of_mem_take hp)⟩
theorem WC_heldT {P:Program} {n:Nat} {E:Env} {w0:World} {F:List Nat} {H:Hp} {R:Asr} {fn:Func} {Z:Ending→World→Prop} {κ:List Kf} (j:Nat) {id:Nat} {l:List Oper} (hm:P.follows .mixedOrders=true) (h:WH w0 F (H.take j) Asr.none P n l.toArray l.length (Array.replicate l.length false) E w0 F H R fn Z κ):WC P n (.region id l.toArray true) E w0 F H R fn Z κ:=O7 w0 F (H.take j) Asr.none hm h
end E
section
open Go Go.RowKit At E
structure WkG (u:World) (x:WkX):Prop where
 me:MeParts u x.m x.pv x.cv x.hv x.rv
 ok:Yt x.m=true
theorem me_fr {m:Me} (h:Yt m=true) {i:Nat} {f:At.Fr} (hi:m.frames[i]?=some f):Td (S3 m.frames i) f m.locals m.stack m.code.length=true:=by
 unfold Yt at h;simp only [Bool.and_eq_true] at h;have h1:=List.all_eq_true.1 h.2 i (List.mem_range.2 (Wa hi));unfold M5 at h1;rw [hi] at h1;exact h1
theorem me_up1 {m:Me} (h:Yt m=true) {i:Nat} {f g:At.Fr} (hi:m.frames[i]?=some f) (hj:m.frames[i+1]?=some g):f.pos<g.pos:=by
 have h1:=me_fr h hj;unfold Td at h1;simp only [Bool.and_eq_true,decide_eq_true_eq] at h1
 have h2:S3 m.frames (i+1)=f.pos:=by
  rw [Tp (by omega) (by show i+1 - 1<_;have:=Wa hi;omega)];have h3:=List.getElem?_eq_getElem (Wa hi);rw [hi] at h3;exact (congrArg (·.pos) (Option.some.inj h3)).symm
 rw [h2] at h1;exact h1.1.1.1.1.2
theorem me_upA {m:Me} (h:Yt m=true) (d:Nat):∀ (i:Nat) {f g:At.Fr},m.frames[i]?=some f→m.frames[i+d+1]?=some g→f.pos<g.pos:=by
 induction d with
 | zero=>intro i f g hi hj;exact me_up1 h hi hj
 | succ d ih =>
  intro i f g hi hj;have hlt:=Wa hj;obtain ⟨z,hz⟩:∃ z,m.frames[i+d+1]?=some z:=⟨_,List.getElem?_eq_getElem (by omega)⟩;have h1:=ih i hi hz;have h2:=me_up1 h hz hj;omega
theorem WkG.up {u:World} {x:WkX} (h:WkG u x):FrUp x.m.frames:=fun i j f g hij hi hj=>by
 refine me_upA h.ok (j - i - 1) i hi ?_;rw [show i+(j - i - 1)+1=j by omega];exact hj
theorem WkG.fr {u:World} {x:WkX} (h:WkG u x) {a:Int} {f:At.Fr} (hf:U0 x.m a=some f):(f.locals.length:Int)=x.m.locals∧(f.stack.length:Int)≤x.m.stack∧Wo f.stack true=true:=by
 obtain ⟨i,hi⟩:=List.mem_iff_getElem?.1 (List.mem_of_find?_eq_some hf);have h1:=me_fr h.ok hi;unfold Td at h1;simp only [Bool.and_eq_true,decide_eq_true_eq] at h1;exact ⟨h1.1.1.1.2,h1.1.1.2,h1.2⟩
theorem top_any {l:List Ty} (h:Wo l true=true):(l.any fun z=>decide (P5.kind=z.kind)&&eqS P5.cls z.cls)=l.any fun t=>decide (t.kind=4):=by
 have h1:∀ t ∈ l,(decide (P5.kind=t.kind)&&eqS P5.cls t.cls)=decide (t.kind=4):=by
  intro t ht;have h2:=List.all_eq_true.1 h t ht;by_cases h4:t.kind=4
  ·unfold X7 at h2;rw [h4] at h2
   have h3:t.cls=At.mt:=by
    simp [eqS] at h2;exact h2
   rw [h4,h3];decide
  ·rw [decide_eq_false h4];have h5:¬ P5.kind=t.kind:=fun e=>h4 (e.symm);rw [decide_eq_false h5];rfl
 rw [Bool.eq_iff_iff,List.any_eq_true,List.any_eq_true];constructor
 ·rintro ⟨t,ht,hp⟩;exact ⟨t,ht,by rw [← h1 t ht];exact hp⟩
 ·rintro ⟨t,ht,hp⟩;exact ⟨t,ht,by rw [h1 t ht];exact hp⟩
theorem meets_mf {c:Cl} {m:Me} {tl:List Ty} {a:Int} {f:At.Fr} (h:U0 m a=some f) (s:St):Vf c m tl a s=mfF c tl f s:=by
 unfold Vf mfF fitF;rw [h];show (if _ then _ else _)=_;rw [addAll_swap]
theorem meets_no {c:Cl} {m:Me} {tl:List Ty} {a:Int} {s:St} (h:U0 m a=none):Vf c m tl a s=none:=by
 unfold Vf;rw [h]
def okMa (x:WkX) (k:WkM) (Ra:Asr) (tl:List Ty) (a:Int):Value→List Value→Asr→Prop:=fun v cs' R' =>
 v=.tuple #[]∧∃ gr',cs'=wkC x { k with gr:=gr' }∧R'.Imp ((wkA x { k with gr:=gr' }).and Ra)∧Vf x.c x.m tl a (Vl k)=some (Vl { k with gr:=gr' })
theorem mustFitAt_any (u:World) (b:Nat) (x:WkX) (k:WkM) (hG:WkG u x) (hK:WkOk x k) (tl:List Ty) (tv:Value) (a:Int) (Ra:Asr) (htl:tl.length≤1048576)
  (h1v:([k.lv,tv]:List Value).all (·.oneCell')=true)
  (hT:∀ gr' w',Below u.heap.size u w'→((wkA x { k with gr:=gr' }).and Ra).A w'→TyL w' tv tl) :
  RxP Tryz.prog 264 ([pt b,.agg [k.lv,tv].toArray,.int .i64 a]:List Value).toArray u b (wkC x k) ((wkA x k).and Ra) (okMa x k Ra tl a) (Vp x.n k.pos) (Vf x.c x.m tl a (Vl k)=none):=by
 intro w hu hF hs0;replace hT:Hid _:=hT;have hOpen:=Yz (Z:=RxZ b w ((wkA x k).and Ra) (okMa x k Ra tl a) (Vp x.n k.pos) (Vf x.c x.m tl a (Vl k)=none)) (hS:=hs0) (args:=[pt b,.agg [k.lv,tv].toArray,.int .i64 a]) Tryz.func264 rfl Tryz.ntmps264;refine hOpen ?_;clear hOpen;refine Zg (Zb (Y2 J J ?_));intro b1 hb1;refine Ze (Zc (Zg (Zb (Za J (Zd J) (Za J (Zd J) ?_)))));refine Ye fn258 J J 1 J hu hF (frame_any u b x k a _ hG.me.fs hG.up) ?_;rintro v cs' R' ⟨rfl,rfl,f,lv,sv,fd,p1,p2,n1,n2,c1,c2,rfl,rfl,rfl,hfd1,hfd2⟩;refine Za J (Zd J) (Za J (X3 J J) (Za J (X3 J J) (Yk J (tz J) ?_)));intro b2 hb2;refine Z2 (tn J) J J 0 J J J J (Za J (Zf J) (Ze (Zc (Zg (Zb (Za J (Zd J) (Za J (Zd J) ?_)))))));refine Y8 Pe J J 2 J hu hF (V0 u b x k _ _) (fun hm=>by (repeat refine Wh ?_);exact Wm (meets_no (hfd2 hm))) ?_;rintro v cs' R' ⟨rfl,rfl,rfl,hyes⟩;obtain ⟨hfa,hlv,hsv⟩:=hfd1 hyes;obtain ⟨hf1,hf2, -⟩:=hG.fr hfa;have hlo:=hK.lo;refine Ze (Zc (Zb (Za J (Zd J) (Za J (Zv (tn J) J 1 J J) (Za J (Zv (tn J) J 0 J J) ?_)))));refine Y8 fn260 J J 2 J hu hF (mustFit_any u b x k tl tv f (.slice p1 n1 c1) (.slice p2 n2 c2) Ra (fun w' hb=>hlv.mono hb) (fun w' hb=>hsv.mono hb) (by omega) htl hT.out) (fun hm=>by (repeat refine Wh ?_);exact Wm ((by rw [meets_mf hfa];exact hm))) ?_;rintro v cs' R' ⟨rfl,gr',rfl,hR,hmf⟩;refine Zz hR ?_;refine Ze (W5 J 2 J ?_);exact ⟨J,gr',J,.refl _,by rw [meets_mf hfa];exact hmf⟩
end
end Go.Proofs.YtpofmnfkdkmieaaGreat
