/- What is proved here: package check: what the rows of the docu -/
import Derived.Test.YtpofmnfkdkmieaaGreatQ35
set_option linter.unusedVariables false
set_option linter.unusedSimpArgs false
namespace Go.Proofs.YtpofmnfkdkmieaaGreat
section
open Go Go.RowKit At E
theorem fn146:IsFn Tryz.prog 146:=⟨_,Tryz.func146,by kernel_rfl,by kernel_rfl⟩
theorem fn145:IsFn Tryz.prog 145:=⟨_,Tryz.func145,by kernel_rfl,by kernel_rfl⟩
theorem fn144:IsFn Tryz.prog 144:=⟨_,Tryz.func144,by kernel_rfl,by kernel_rfl⟩
theorem fn147:IsFn Tryz.prog 147:=⟨_,Tryz.func147,by kernel_rfl,by kernel_rfl⟩
theorem fn150:IsFn Tryz.prog 150:=⟨_,Tryz.func150,by kernel_rfl,by kernel_rfl⟩
theorem fn153:IsFn Tryz.prog 153:=⟨_,Tryz.func153,by kernel_rfl,by kernel_rfl⟩
theorem fn155:IsFn Tryz.prog 155:=⟨_,Tryz.func155,by kernel_rfl,by kernel_rfl⟩
theorem fn152:IsFn Tryz.prog 152:=⟨_,Tryz.func152,by kernel_rfl,by kernel_rfl⟩
theorem fn154:IsFn Tryz.prog 154:=⟨_,Tryz.func154,by kernel_rfl,by kernel_rfl⟩
theorem fn156:IsFn Tryz.prog 156:=⟨_,Tryz.func156,by kernel_rfl,by kernel_rfl⟩
theorem fn157:IsFn Tryz.prog 157:=⟨_,Tryz.func157,by kernel_rfl,by kernel_rfl⟩
theorem fn149:IsFn Tryz.prog 149:=⟨_,Tryz.func149,by kernel_rfl,by kernel_rfl⟩
theorem fn151:IsFn Tryz.prog 151:=⟨_,Tryz.func151,by kernel_rfl,by kernel_rfl⟩
theorem fn255:IsFn Tryz.prog 255:=⟨_,Tryz.func255,by kernel_rfl,by kernel_rfl⟩
theorem Rh.to {f:FuncId} {args:List Value} {u:World} {b:Nat} {x:WkX} {k:WkM} {g:St→Option St} (h:Rh f args u b x k g) {pos:Nat} (hp:k.pos=pos) :
  RxP Tryz.prog f (pt b::args).toArray u b (wkC x k) (wkA x k) (okW x k g) (Vp x.n pos) (g (Vl k)=none):=by subst hp;exact h
theorem Oe (s:ByteArray) (w:World):Vc Tryz.prog 158 #[.string s] w (.agg (tyV (Xu s)).toArray):=by
 refine Xf (args:=[.string s]) Tryz.func158 J Tryz.ntmps158 ?_;refine Zg (Zb (Yk J (tz J) ?_));intro b0 hb0;refine Ze (Zc (Zg (Zb (Za J (Zd J) (Za J (Z8 (cs:=tyV (Xu s)) (tb J) J (by kernel_rfl)) ?_)))));refine Z2 (tn J) J J 0 J J J J (Ze (Zc (Zr (P_endR (We J (Wf (tn J) J (Yl 0 J) J)) ?_))));rfl
def anyF (s:St):Option St:=(V9 s).map (·.2)
def againF (m:Me) (s:St):Option St:=(V9 s).bind fun r=>U1 m r.1 s
theorem takeAny_any (u:World) (b:Nat) (x:WkX) (k:WkM) (i:Ins) (pv:Value) (hk:WkOk x k):Rh 146 [.agg (Wx i pv).toArray] u b x k anyF:=by
 intro w hu hF hs0;replace hk:Hid _:=hk;refine Yz (hs0) (args:=[pt b,.agg (Wx i pv).toArray]) Tryz.func146 J Tryz.ntmps146 ?_;refine Zg (Zb (Y2 J J ?_));intro b1 hb1;refine Ze (Zc (Zb (Za J (Zd J) ?_)));refine Y8 fn253 J J 1 J hu hF (wtake_any u b x k hk.out) (fun hm=>by (repeat refine Wh ?_);exact Wm (by unfold anyF;rw [hm];rfl)) ?_;rintro v cs' R' ⟨s,k1,rfl,rfl,hR,hk1,hpos,hp, -⟩;refine Zz hR ?_;refine Ze (W5 J 1 J ?_);exact ⟨J,_,J,.refl _,hk1,hpos,by unfold anyF;rw [hp];rfl⟩
theorem layAgain_any (u:World) (b:Nat) (x:WkX) (k:WkM) (i:Ins) (pv:Value) (hk:WkOk x k):Rh 147 [.agg (Wx i pv).toArray] u b x k (againF x.m):=by
 intro w hu hF hs0;replace hk:Hid _:=hk;refine Yz (hs0) (args:=[pt b,.agg (Wx i pv).toArray]) Tryz.func147 J Tryz.ntmps147 ?_;refine Zg (Zb (Y2 J J ?_));intro b1 hb1;refine Ze (Zc (Zb (Za J (Zd J) (Za J (Zd J) ?_))));refine Y8 fn254 J J 1 J hu hF (wlast_any u b x k) (fun hm=>by (repeat refine Wh ?_);exact Wm (by unfold againF;rw [hm];rfl)) ?_;rintro v cs' R' ⟨t,s',rfl,rfl,rfl,hp⟩;refine Y8 fn252 J J 1 J hu hF ((wlay_any u b x k t hk.out).to J) (fun hm=>by (repeat refine Wh ?_);exact Wm (by unfold againF;rw [hp];exact hm)) ?_;rintro v cs' R' ⟨rfl,k2,rfl,hR2,hk2,hp2,ht2⟩;refine Ze (W5 J 1 J ?_);exact ⟨J,k2,J,hR2,hk2,hp2,by unfold againF;rw [hp];exact ht2⟩
theorem P7 (u:World) (b:Nat) (x:WkX) (k:WkM) (i:Ins) (pv:Value) (hk:WkOk x k):Rh 150 [.agg (Wx i pv).toArray] u b x k (Va x.c (Xu i.ref.cls)):=by
 intro w hu hF hs0;replace hk:Hid _:=hk;refine Yz (hs0) (args:=[pt b,.agg (Wx i pv).toArray]) Tryz.func150 J Tryz.ntmps150 ?_;refine Zg (Zb (Y2 J J ?_));intro b1 hb1;refine Ze (Zc (Zb (Za J (Zd J) (Za J (Zh (ff J) J) (Za J (Zh (ff J) J) (Za J (Zj (t1 J) J (Zi 0 J J)) (Yq fn158 J J (fun w _=>Oe _ w) ?_)))))));refine Y8 fn257 J J 1 J hu hF ((Ov u b x k (Xu i.ref.cls) hk.out).to J) (fun hm=>by (repeat refine Wh ?_);exact Wm (hm)) ?_;rintro v cs' R' ⟨rfl,k2,rfl,hR2,hk2,hp2,ht2⟩;refine Ze (W5 J 1 J ?_);exact ⟨J,k2,J,hR2,hk2,hp2,ht2⟩
theorem takeType_any (u:World) (b:Nat) (x:WkX) (k:WkM) (i:Ins) (pv:Value) (hk:WkOk x k):Rh 153 [.agg (Wx i pv).toArray] u b x k (Va x.c i.ref.ty):=by
 intro w hu hF hs0;replace hk:Hid _:=hk;refine Yz (hs0) (args:=[pt b,.agg (Wx i pv).toArray]) Tryz.func153 J Tryz.ntmps153 ?_;refine Zg (Zb (Y2 J J ?_));intro b1 hb1;refine Ze (Zc (Zb (Za J (Zd J) (Za J (Zh (ff J) J) (Za J (Zh (ff J) J) (Za J (Zv (tn J) J 0 J J) ?_))))));refine Y8 fn257 J J 1 J hu hF ((Ov u b x k i.ref.ty hk.out).to J) (fun hm=>by (repeat refine Wh ?_);exact Wm (hm)) ?_;rintro v cs' R' ⟨rfl,k2,rfl,hR2,hk2,hp2,ht2⟩;refine Ze (W5 J 1 J ?_);exact ⟨J,k2,J,hR2,hk2,hp2,ht2⟩
theorem takeParams_any (u:World) (b:Nat) (x:WkX) (k:WkM) (i:Ins) (pv:Value) (hk:WkOk x k) (hA:∀ w',Below u.heap.size u w'→Yu w' pv i.ref.params):Rh 155 [.agg (Wx i pv).toArray] u b x k (Xe x.c i.ref.params):=by
 intro w hu hF hs0;replace hk:Hid _:=hk;refine Yz (hs0) (args:=[pt b,.agg (Wx i pv).toArray]) Tryz.func155 J Tryz.ntmps155 ?_;refine Zg (Zb (Y2 J J ?_));intro b1 hb1;refine Ze (Zc (Zb (Za J (Zd J) (Za J (Zh (ff J) J) (Za J (Zh (ff J) J) (Za J (Zj (t1 J) J (Zi 0 J J)) ?_))))));refine Y8 fn250 J J 1 J hu hF ((wtakeAll_any u b x k i.ref.params pv hk.out hA).to J) (fun hm=>by (repeat refine Wh ?_);exact Wm (hm)) ?_;rintro v cs' R' ⟨rfl,k2,rfl,hR2,hk2,hp2,ht2⟩;refine Ze (W5 J 1 J ?_);exact ⟨J,k2,J,hR2,hk2,hp2,ht2⟩
def bothF (f g:St→Option St) (s:St):Option St:=(f s).bind g
theorem takeObjectAndType_any (u:World) (b:Nat) (x:WkX) (k:WkM) (i:Ins) (pv:Value) (hk:WkOk x k):Rh 152 [.agg (Wx i pv).toArray] u b x k (bothF (Va x.c i.ref.ty) (Va x.c (Xu i.ref.cls))):=by
 intro w hu hF hs0;replace hk:Hid _:=hk;refine Yz (hs0) (args:=[pt b,.agg (Wx i pv).toArray]) Tryz.func152 J Tryz.ntmps152 ?_;refine Zg (Zb (Y2 J J ?_));intro b1 hb1;refine Ze (Zc (Zg (Zb (Za J (Zd J) (Za J (Zv (tn J) J 0 J J) ?_)))));refine Y8 fn153 J J 1 J hu hF ((takeType_any u b x k i pv hk.out).to J) (fun hm=>by (repeat refine Wh ?_);exact Wm (by unfold bothF;rw [hm];rfl)) ?_;rintro v cs' R' ⟨rfl,k1,rfl,hR1,hk1,hp1,ht1⟩;refine Zz hR1 ?_;refine Ze (Zc (Zb (Za J (Zd J) (Za J (Zv (tn J) J 0 J J) ?_))));refine Y8 fn150 J J 1 J hu hF ((P7 u b x k1 i pv hk1).to hp1) (fun hm=>by (repeat refine Wh ?_);exact Wm (by unfold bothF;rw [ht1];exact hm)) ?_;rintro v cs' R' ⟨rfl,k2,rfl,hR2,hk2,hp2,ht2⟩;refine Ze (W5 J 1 J ?_);exact ⟨J,k2,J,hR2,hk2,hp2.trans hp1,by unfold bothF;rw [ht1];exact ht2⟩
theorem No (u:World) (b:Nat) (x:WkX) (k:WkM) (i:Ins) (pv:Value) (hk:WkOk x k) (hA:∀ w',Below u.heap.size u w'→Yu w' pv i.ref.params):Rh 154 [.agg (Wx i pv).toArray] u b x k (bothF (Xe x.c i.ref.params) (Va x.c (Xu i.ref.cls))):=by
 intro w hu hF hs0;replace hk:Hid _:=hk;refine Yz (hs0) (args:=[pt b,.agg (Wx i pv).toArray]) Tryz.func154 J Tryz.ntmps154 ?_;refine Zg (Zb (Y2 J J ?_));intro b1 hb1;refine Ze (Zc (Zg (Zb (Za J (Zd J) (Za J (Zv (tn J) J 0 J J) ?_)))));refine Y8 fn155 J J 1 J hu hF ((takeParams_any u b x k i pv hk.out hA).to J) (fun hm=>by (repeat refine Wh ?_);exact Wm (by unfold bothF;rw [hm];rfl)) ?_;rintro v cs' R' ⟨rfl,k1,rfl,hR1,hk1,hp1,ht1⟩;refine Zz hR1 ?_;refine Ze (Zc (Zb (Za J (Zd J) (Za J (Zv (tn J) J 0 J J) ?_))));refine Y8 fn150 J J 1 J hu hF ((P7 u b x k1 i pv hk1).to hp1) (fun hm=>by (repeat refine Wh ?_);exact Wm (by unfold bothF;rw [ht1];exact hm)) ?_;rintro v cs' R' ⟨rfl,k2,rfl,hR2,hk2,hp2,ht2⟩;refine Ze (W5 J 1 J ?_);exact ⟨J,k2,J,hR2,hk2,hp2.trans hp1,by unfold bothF;rw [ht1];exact ht2⟩
def voidF (m:Me) (s:St):Option St:=if m.result.kind=0 then some s else none
def giveF (c:Cl) (m:Me) (s:St):Option St:=if m.result.kind=0 then none else Va c m.result s
theorem takeNothingToGive_any (u:World) (b:Nat) (x:WkX) (k:WkM) (i:Ins) (pv:Value) (hk:WkOk x k):Rh 156 [.agg (Wx i pv).toArray] u b x k (voidF x.m):=by
 intro w hu hF hs0;replace hk:Hid _:=hk;refine Yz (hs0) (args:=[pt b,.agg (Wx i pv).toArray]) Tryz.func156 J Tryz.ntmps156 ?_;refine Zg (Zb (Y2 J J ?_));intro b1 hb1;refine Ze (Zc (Zb (Za J (Zd J) (Za J (Zd J) (Za J (Zw J) (Za J (Zh (ff J) J) (Za J (Zh (ff J) J) (Za J (Zh (ff J) J) (Za J (Zj (t1 J) J (Zi 1 J J)) (Za J (Ya J J) ?_))))))))));refine Y8 Pe J J 1 J hu hF (V0 u b x k _ _) (fun hm=>by (repeat refine Wh ?_);exact Wm (by unfold voidF;rw [if_neg (of_decide_eq_false hm)])) ?_;rintro v cs' R' ⟨rfl,rfl,rfl,hyes⟩;replace hyes:=of_decide_eq_true hyes;refine Ze (W5 J 1 J ?_);exact ⟨J,k,J,.refl _,hk.out,J,by unfold voidF;rw [if_pos hyes]⟩
theorem takeWhatIsGiven_any (u:World) (b:Nat) (x:WkX) (k:WkM) (i:Ins) (pv:Value) (hk:WkOk x k):Rh 157 [.agg (Wx i pv).toArray] u b x k (giveF x.c x.m):=by
 intro w hu hF hs0;replace hk:Hid _:=hk;refine Yz (hs0) (args:=[pt b,.agg (Wx i pv).toArray]) Tryz.func157 J Tryz.ntmps157 ?_;refine Zg (Zb (Y2 J J ?_));intro b1 hb1;refine Ze (Zc (Zg (Zb (Za J (Zd J) (Za J (Zd J) (Za J (Zw J) (Za J (Zh (ff J) J) (Za J (Zh (ff J) J) (Za J (Zh (ff J) J) (Za J (Zj (t1 J) J (Zi 1 J J)) (Za J (T3 J J) ?_)))))))))));refine Y8 Pe J J 1 J hu hF (V0 u b x k _ _) (fun hm=>by (repeat refine Wh ?_);exact Wm (by unfold giveF;rw [if_pos (Sn hm)])) ?_;rintro v cs' R' ⟨rfl,rfl,rfl,hyes⟩;replace hyes:=Rm hyes;refine Ze (Zc (Zb (Za J (Zd J) (Za J (Zd J) (Za J (Zw J) (Za J (Zh (ff J) J) (Za J (Zh (ff J) J) (Za J (Zv (tn J) J 1 J J) ?_))))))));refine Y8 fn257 J J 1 J hu hF ((Ov u b x k x.m.result hk.out).to J) (fun hm=>by (repeat refine Wh ?_);exact Wm (by unfold giveF;rw [if_neg hyes];exact hm)) ?_;rintro v cs' R' ⟨rfl,k2,rfl,hR2,hk2,hp2,ht2⟩;refine Ze (W5 J 1 J ?_);exact ⟨J,k2,J,hR2,hk2,hp2,by unfold giveF;rw [if_neg hyes];exact ht2⟩
theorem layObject_any (u:World) (b:Nat) (x:WkX) (k:WkM) (i:Ins) (pv:Value) (hk:WkOk x k):Rh 149 [.agg (Wx i pv).toArray] u b x k (U1 x.m (Xu i.ref.cls)):=by
 intro w hu hF hs0;replace hk:Hid _:=hk;refine Yz (hs0) (args:=[pt b,.agg (Wx i pv).toArray]) Tryz.func149 J Tryz.ntmps149 ?_;refine Zg (Zb (Y2 J J ?_));intro b1 hb1;refine Ze (Zc (Zb (Za J (Zd J) (Za J (Zh (ff J) J) (Za J (Zh (ff J) J) (Za J (Zj (t1 J) J (Zi 0 J J)) (Yq fn158 J J (fun w _=>Oe _ w) ?_)))))));refine Y8 fn252 J J 1 J hu hF ((wlay_any u b x k (Xu i.ref.cls) hk.out).to J) (fun hm=>by (repeat refine Wh ?_);exact Wm (hm)) ?_;rintro v cs' R' ⟨rfl,k2,rfl,hR2,hk2,hp2,ht2⟩;refine Ze (W5 J 1 J ?_);exact ⟨J,k2,J,hR2,hk2,hp2,ht2⟩
theorem layType_any (u:World) (b:Nat) (x:WkX) (k:WkM) (i:Ins) (pv:Value) (hk:WkOk x k):Rh 151 [.agg (Wx i pv).toArray] u b x k (Vw x.m i.ref.ty):=by
 intro w hu hF hs0;replace hk:Hid _:=hk;refine Yz (hs0) (args:=[pt b,.agg (Wx i pv).toArray]) Tryz.func151 J Tryz.ntmps151 ?_;refine Zg (Zb (Y2 J J ?_));intro b1 hb1;refine Ze (Zc (Zg (Zb (Za J (Zh (ff J) J) (Za J (Zh (ff J) J) (Za J (Zh (ff J) J) (Za J (Zj (t1 J) J (Zi 0 J J)) (Za J (T3 J J) (Ze (Zc (Qw J ?_ ?_)))))))))))
 ·intro c1;refine Zb (Za J (Zd J) (Za J (Zh (ff J) J) (Za J (Zh (ff J) J) (Za J (Zv (tn J) J 0 J J) ?_))));refine Y8 fn252 J J 1 J hu hF ((wlay_any u b x k i.ref.ty hk.out).to J) (fun hm=>by (repeat refine Wh ?_);exact Wm (by unfold Vw;rw [if_neg c1];exact hm)) ?_;rintro v cs' R' ⟨rfl,k2,rfl,hR2,hk2,hp2,ht2⟩;refine Ze (W5 J 1 J ?_);exact ⟨J,k2,J,hR2,hk2,hp2,by unfold Vw;rw [if_neg c1];exact ht2⟩
 ·intro c1;refine Zo (W5 J 1 J ?_);exact ⟨J,k,J,.refl _,hk.out,J,by unfold Vw;rw [if_pos c1]⟩
theorem load_no {m:Me} {s:St} {j:Nat} {t:Ty} (hi:s.lo[j]?=some t) (h:t.kind=4):loadF m (j:Int) s=none:=by
 unfold loadF;rw [Int.toNat_natCast,hi];exact if_pos h
theorem load_yes {m:Me} {s:St} {j:Nat} {t:Ty} (hi:s.lo[j]?=some t) (h:¬ t.kind=4):loadF m (j:Int) s=U1 m t s:=by
 unfold loadF;rw [Int.toNat_natCast,hi];exact if_neg h
theorem layLocal_any (u:World) (b:Nat) (x:WkX) (k:WkM) (i:Ins) (pv:Value) (j:Nat) (hj:i.n=j) (hjl:j<k.lo.length) (hk:WkOk x k):Rh 144 [.agg (Wx i pv).toArray] u b x k (loadF x.m i.n):=by
 obtain ⟨op,n,ref⟩:=i;dsimp only at hj;subst hj;intro w hu hF hs0;obtain ⟨t,hi⟩:∃ t,k.lo[j]?=some t:=⟨_,List.getElem?_eq_getElem hjl⟩;obtain ⟨gr,pos,lo,lv,st,sv,al⟩:=k;have hT:(lsA lv lo).A w:=hs0.res.2.1.1;obtain ⟨p,c,rfl,⟨hlc,hcm⟩,hps⟩:=T6 hT;dsimp only at hjl hi;obtain ⟨g,hgo⟩:=hps (by omega);subst hgo;replace hk:Hid _:=hk;clear hT hps;refine Yz (hs0) (args:=[pt b,.agg (Wx ⟨op,(j:Int),ref⟩ pv).toArray]) Tryz.func144 J Tryz.ntmps144 ?_;refine Zg (Zb (Y2 J J ?_));intro b1 hb1;refine Ze (Zc (Zg (WC_zheldR 10 (wkA x ⟨gr,pos,lo,.slice (some ⟨g,0,none⟩) lo.length c,st,sv,al⟩) X2 ?_)));refine V5 0 J (by kernel_rfl) (by kernel_rfl) (by kernel_rfl) (by kernel_rfl) J (fun _ hs=>(hs.drop 0).leads (Asr.Imp.refl _)) (Zd J) ?_;refine V5 1 J (by kernel_rfl) (by kernel_rfl) (by kernel_rfl) (by kernel_rfl) J (fun _ hs=>(hs.drop 0).leads (Asr.Imp.refl _)) (Zw J) ?_;refine V5 2 J (by kernel_rfl) (by kernel_rfl) (by kernel_rfl) (by kernel_rfl) J (fun _ hs=>(hs.drop 0).leads (Asr.Imp.refl _)) (Zh (ff J) J) ?_;refine V5 3 J (by kernel_rfl) (by kernel_rfl) (by kernel_rfl) (by kernel_rfl) J (fun _ hs=>(hs.drop 0).leads (Asr.Imp.refl _)) (Zh (ff J) J) ?_;refine V5 4 J (by kernel_rfl) (by kernel_rfl) (by kernel_rfl) (by kernel_rfl) J (fun _ hs=>(hs.drop 0).leads (Asr.Imp.refl _)) (Zj (t1 J) J (Zi 1 J J)) ?_;refine V5 5 J (by kernel_rfl) (by kernel_rfl) (by kernel_rfl) (by kernel_rfl) J (fun _ hs=>(hs.drop 0).leads (Asr.Imp.refl _)) (Zh (ff J) J) ?_;refine V5 6 J (by kernel_rfl) (by kernel_rfl) (by kernel_rfl) (by kernel_rfl) J (fun _ hs=>(hs.drop 0).leads (Asr.Imp.refl _)) (Zj (t1 J) J (Zi 0 J J)) ?_;refine V5 7 J (by kernel_rfl) (by kernel_rfl) (by kernel_rfl) (by kernel_rfl) J (fun _ hs=>(hs.drop 0).leads (Asr.Imp.refl _)) (Yo (ts J) J J ?_) ?_
 ·omega
 refine V5 8 J (by kernel_rfl) (by kernel_rfl) (by kernel_rfl) (by kernel_rfl) J (fun _ hs=>(hs.drop 0).leads (Asr.Imp.refl _)) (Yj (tn J) J (row_ls (fun w hs=>hs.res.2.1.1) hi) J) ?_;refine Tg (rs:=[9]) (by kernel_rfl) (by simp) ?_;refine Vy ?_ (Ur);refine ⟨_,J,?_⟩;refine Yk J (tz J) ?_;intro b2 hb2;refine Ze (Uw (.inr (fun _ hs=>(hs.drop 1).leads (Asr.Imp.refl _))) ?_);refine Tg (rs:=[10]) (by kernel_rfl) (by simp) ?_;refine Vy ?_ (Ur);refine ⟨_,J,?_⟩;refine Z2 (tn J) J J 0 J J J J (Ze (Uw (.inl J) (WZ_done (by kernel_rfl) ?_)));refine Zc (Zg (Zb (Za J (Zd J) (Za J (Zh (ff J) J) (Za J (Zj (t1 J) J (Zi 0 J J)) (Za J (T3 J J) ?_))))));refine Y8 Pe J J 2 J hu hF (V0 u b x _ _ _) (fun hm=>by (repeat refine Wh ?_);exact Wm (load_no hi (Sn hm))) ?_;rintro v cs' R' ⟨rfl,rfl,rfl,hyes⟩;replace hyes:=Rm hyes;refine Ze (Zc (Zb (Za J (Zd J) (Za J (Zv (tn J) J 0 J J) ?_))));refine Y8 fn252 J J 2 J hu hF ((wlay_any u b x _ t hk.out).to J) (fun hm=>by (repeat refine Wh ?_);exact Wm (by rw [load_yes hi hyes];exact hm)) ?_;rintro v cs' R' ⟨rfl,k2,rfl,hR2,hk2,hp2,ht2⟩;refine Ze (W5 J 2 J ?_);exact ⟨J,k2,J,hR2,hk2,hp2,by rw [load_yes hi hyes];exact ht2⟩
end
section
open Go Go.RowKit At E
theorem fn326:IsFn Tryz.prog 326:=⟨_,Tryz.func326,by kernel_rfl,by kernel_rfl⟩
theorem fn256:IsFn Tryz.prog 256:=⟨_,Tryz.func256,by kernel_rfl,by kernel_rfl⟩
def holdW (b:Nat) (x:WkX) (k:WkM):Asr:=⟨[b],fun w=>∃ sv t,w.heap[b]?=some (.cells (wkC x { k with sv:=sv }).toArray t (0,0)),fun w w' h hk=>by
 obtain ⟨sv,t,h⟩:=h;exact ⟨sv,t,by rw [hk b (by simp)];exact h⟩⟩
theorem To {w0 w:World} {F:List Nat} {H:Hp} {R:Asr} {b b1:Nat} {cs ds:List Value} {x:WkX} {k:WkM} (hs:Sat w0 F ((b1,cs)::(b,ds)::H) R w) (he:∃ sv,ds=wkC x { k with sv:=sv }):Sat w0 F [(b1,cs)] (holdW b x k) w:=by
 obtain ⟨sv,rfl⟩:=he;have hm1:(b1,cs) ∈ (b1,cs)::(b,wkC x { k with sv:=sv })::H:=List.mem_cons_self;have hm2:(b,wkC x { k with sv:=sv }) ∈ (b1,cs)::(b,wkC x { k with sv:=sv })::H:=List.mem_cons_of_mem _ List.mem_cons_self;have hap:=hs.apart;simp only [List.map_cons,List.nodup_cons,List.mem_cons,not_or] at hap;refine ⟨hs.low,fun p hp=>?_,fun p hp=>?_,by simp,?_,?_,?_⟩
 ·simp only [List.mem_singleton] at hp;subst hp;exact hs.own _ hm1
 ·simp only [List.mem_singleton] at hp;subst hp;exact hs.hi _ hm1
 ·obtain ⟨t,ht⟩:=hs.own _ hm2;exact ⟨sv,t,ht⟩
 ·intro j hj;simp only [holdW,List.mem_singleton] at hj;subst hj;exact ⟨hs.hi _ hm2,hs.lt hm2⟩
 ·intro p hp hj;simp only [List.mem_singleton] at hp;subst hp;simp only [holdW,List.mem_singleton] at hj;exact hap.1.1 hj
theorem cell_holdW {w0:World} {F:List Nat} {H:Hp} {b j:Nat} {x:WkX} {k:WkM} {v:Value} (hv:∀ sv,(wkC x { k with sv:=sv })[j]?=some v):Cell w0 F H (holdW b x k) ⟨b,j,none⟩ v:=⟨fun w hs=>by
 obtain ⟨sv,t,h⟩:=hs.res;have:=hv sv;simp only [World.cell?,h]
 simpa using this⟩
theorem wkA_lo {x:WkX} {gr:List Bl} {lv sv:Value} {lo st:List Ty} {p:Option Addr} {n c:Nat} (hv:lv=.slice p n c) (hc:0<c):((Q4 x.gb gr).and ((lsA lv lo).and (lsA sv st))).Imp ((T4 lv lo).and ((Q4 x.gb gr).and (lsA sv st))):=by
 rw [lsA_pos hv hc];exact Asr.swap _ _ _
theorem lo_wkA {x:WkX} {gr:List Bl} {lv sv:Value} {lo st:List Ty}:((T4 lv lo).and ((Q4 x.gb gr).and (lsA sv st))).Imp ((Q4 x.gb gr).and ((lsA lv lo).and (lsA sv st))) :=
 (Asr.swap _ _ _).trans (Asr.Imp.right (Asr.Imp.left (Mr _ _)))
theorem set_wkA {x:WkX} {gr:List Bl} {lv sv:Value} {lo st:List Ty} {j:Nat} {t:Ty} (hj:j<lo.length):((Y0 71 2 lv lo.length (put (lo.flatMap tyV) (0+j*2) (tyV t))).and ((Q4 x.gb gr).and (lsA sv st))).Imp ((Q4 x.gb gr).and ((lsA lv (lo.set j t)).and (lsA sv st))):=by
 have he:Y0 71 2 lv lo.length (put (lo.flatMap tyV) (0+j*2) (tyV t))=T4 lv (lo.set j t):=by unfold T4;rw [Nat.zero_add,put_set hj,List.length_set]
 rw [he];exact lo_wkA
theorem store_no {j:Nat} {s:St} (h:V9 s=none):P8 (j:Int) s=none:=by unfold P8;rw [h];rfl
theorem store_yes {j:Nat} {s s':St} {t:Ty} (h:V9 s=some (t,s')):P8 (j:Int) s=some { s' with lo:=s'.lo.set j t }:=by unfold P8;rw [h,Int.toNat_natCast];rfl
theorem takeIntoLocal_any (u:World) (b:Nat) (x:WkX) (k:WkM) (i:Ins) (pv:Value) (j:Nat) (hj:i.n=j) (hjl:j<k.lo.length) (hk:WkOk x k):Rh 145 [.agg (Wx i pv).toArray] u b x k (P8 i.n):=by
 obtain ⟨op,n,ref⟩:=i;dsimp only at hj;subst hj;intro w hu hF hs0;obtain ⟨gr,pos,lo,lv,st,sv,al⟩:=k;have hT:(lsA lv lo).A w:=hs0.res.2.1.1;obtain ⟨p,c,rfl,⟨hlc,hcm⟩,hps⟩:=T6 hT;dsimp only at hjl;obtain ⟨g,hgo⟩:=hps (by omega);subst hgo;replace hk:Hid _:=hk;clear hT hps;refine Yz (hs0) (args:=[pt b,.agg (Wx ⟨op,(j:Int),ref⟩ pv).toArray]) Tryz.func145 J Tryz.ntmps145 ?_;refine Zg (Zb (Y2 J J ?_));intro b1 hb1;refine Ze (Zc (O7 w (b::(wkA x ⟨gr,pos,lo,.slice (some ⟨g,0,none⟩) lo.length c,st,sv,al⟩).S) [(b1,Wx ⟨op,(j:Int),ref⟩ pv)] (holdW b x ⟨gr,pos,lo,.slice (some ⟨g,0,none⟩) lo.length c,st,sv,al⟩) X2 ?_));refine Z4 0 J (by kernel_rfl) J (fun _ hs=>To hs ⟨_,J⟩) (Zd J) ?_;refine Z4 1 J (by kernel_rfl) J (fun _ hs=>To hs ⟨_,J⟩) (Zw J) ?_;refine Z4 2 J (by kernel_rfl) J (fun _ hs=>To hs ⟨_,J⟩) (Zh (ff J) J) ?_;refine Z4 3 J (by kernel_rfl) J (fun _ hs=>To hs ⟨_,J⟩) (Zh (ff J) J) ?_;refine Z4 4 J (by kernel_rfl) J (fun _ hs=>To hs ⟨_,J⟩) (Zj (t1 J) J (cell_holdW (fun _=>J))) ?_;refine Z4 5 J (by kernel_rfl) J (fun _ hs=>To hs ⟨_,J⟩) (Zh (ff J) J) ?_;refine Z4 6 J (by kernel_rfl) J (fun _ hs=>To hs ⟨_,J⟩) (Zj (t1 J) J (Zi 0 J J)) ?_;refine Z4 7 J (by kernel_rfl) J (fun _ hs=>To hs ⟨_,J⟩) (Zd J) ?_;refine Xh 8 (by kernel_rfl) J ?_;refine Y8 fn253 J J 1 J hu hF (wtake_any u b x _ hk.out) (fun hm=>by (repeat refine Wh ?_);exact Wm (store_no hm)) ?_;rintro v cs' R' ⟨t,k1,rfl,rfl,hR,hk1,hpos,hp,st',sv',rfl⟩;refine Zz hR ?_;refine Ze (Y1 (fun _ hs=>To hs ⟨_,J⟩) ?_);refine Z4 9 J (by kernel_rfl) J (fun _ hs=>To hs ⟨_,J⟩) (Yo (ts J) J J ?_) ?_
 ·omega
 refine Xh 10 (by kernel_rfl) J ?_;refine Zz (wkA_lo J (by omega)) ?_;refine Un (tn J) J J J J (by show 0+j*2+2≤lo.length*2;omega) ?_;refine Ze (Y1 (fun _ hs=>To hs ⟨_,J⟩) ?_);refine W8 (by kernel_rfl) ?_;refine W5 J 1 J ?_;exact ⟨J,⟨gr,pos,lo.set j t,.slice (some ⟨g,0,none⟩) lo.length c,st',sv',al⟩,J,set_wkA hjl,⟨by show ((lo.set j t).length:Int)=_;rw [List.length_set];exact hk1.lo,hk1.st,hk1.bs,hk1.bl⟩,J,by rw [store_yes hp];rfl⟩
structure IntsAt (w:World) (v:Value) (l:List Int):Prop where
 is:∃ g c,v=.slice (some ⟨g,0,none⟩) l.length c∧l.length≤100∧∀ j n,l[j]?=some n→w.cell? ⟨g,0+j*1,none⟩=some (.int .i64 n)
theorem IntsAt.mono {w w':World} {v:Value} {l:List Int} (h:IntsAt w v l) (hb:Below w.heap.size w w'):IntsAt w' v l:=by
 obtain ⟨g,c,hv,hl,hc⟩:=h.is;refine ⟨g,c,hv,hl,fun j n hj=>?_⟩;have h1:=hc j n hj
 have hlt:g<w.heap.size:=by
  rcases Nat.lt_or_ge g w.heap.size with h' | h'
  ·exact h'
  ·simp [World.cell?,Array.getElem?_eq_none h'] at h1
 rw [hb.cell (p:=⟨g,0+j*1,none⟩) hlt];exact h1
def idxI (l:List Int) (a:Int):Int:=match l.findIdx? (fun z=>decide (a=z)) with
 | some j=>j
 | none => -1
theorem idx_some {l:List Int} {a:Int} {j:Nat} (h:l[j]?=some a) (hno:∀ i<j,∀ z,l[i]?=some z→¬ a=z):idxI l a=j:=by
 have:l.findIdx? (fun z=>decide (a=z))=some j:=by
  rw [List.findIdx?_eq_some_iff_getElem];refine ⟨Wa h,?_,fun i hi=>?_⟩
  ·have:=List.getElem?_eq_getElem (Wa h);rw [this] at h;simp [Option.some.inj h]
  ·have hil:i<l.length:=Nat.lt_trans hi (Wa h)
   simpa using hno i hi _ (List.getElem?_eq_getElem hil)
 unfold idxI;rw [this]
theorem idx_none {l:List Int} {a:Int} (hno:∀ i<l.length,∀ z,l[i]?=some z→¬ a=z):idxI l a = -1:=by
 have:l.findIdx? (fun z=>decide (a=z))=none:=by
  rw [List.findIdx?_eq_none_iff];intro z hz;obtain ⟨i,hi⟩:=List.mem_iff_getElem?.1 hz
  simpa using hno i (Wa hi) z hi
 unfold idxI;rw [this]
theorem indexInt_any (v:Value) (l:List Int) (a:Int) (w:World) (h:IntsAt w v l):Vc Tryz.prog 326 #[v,.int .i64 a] w (.int .i64 (idxI l a)):=by
 obtain ⟨g,c,rfl,hl,hc⟩:=h.is;replace hc:Hid _:=hc;clear h;refine Xf (args:=[.slice (some ⟨g,0,none⟩) l.length c,.int .i64 a]) Tryz.func326 J Tryz.ntmps326 ?_;refine Zg (Zb (Za J (Zf J) (Ze (Zc (Zg (Zg (Zb (Za J (Zd J) (Za J (Zx (ts J) J) (Za J (Zd J) (Ze (Zc (Zn ?_)))))))))))));refine Yf (Yg (X:=Nat) (fun i=>[(0,.slice (some ⟨g,0,none⟩) l.length c),(1,.int .i64 a),(7,iN l.length),(8,iN i)]) _ _ (fun i=>[]) (fun i=>Asr.none) (fun i=>i≤l.length∧∀ m<i,∀ z,l[m]?=some z→¬ a=z) (fun i=>l.length - i) (0) (⟨Nat.zero_le _,fun m hm=>by omega⟩) ?_) ⟨J,J,J,J,trivial⟩;intro i hI;refine Zg (Zb (Za J (Yi J J) (Ze (Zc (Zg (Zu J ?_ ?_))))))
 ·intro c1;obtain ⟨z,hz⟩:∃ z,l[i]?=some z:=⟨_,List.getElem?_eq_getElem (by omega)⟩;refine Zo (Zc (Zg (Zn (Zg (Zb (Za J (Zd J) (Za J (Zf J) (Ze (Zc (Zg (Zb (Za J (Zd J) (Za J (Zd J) (Za J (Zd J) (Za J (Yo (ts J) J J ?_) ?_)))))))))))))))
  ·omega
  refine Za J (Zj (t1 J) J (Vi (hc.out i z hz) (by simp))) ?_;refine Za J (Ya J J) (Ze (Zc (Zu J ?_ ?_)))
  ·intro c2;refine Zg (Zb (Za J (Zd J) (Za J (Zf J) (Ze (Zc (Zr (Zl (Zl (Zl (Zl (Zl (Z3 J J ?_))))))))))));rw [idx_some (j:=i) (by rw [hz,c2]) hI.2]
  ·intro c2;refine Zo (Zt (Zc (Zb ?_)));refine Za J (Yn J J ?_) ?_;omega;refine Za J (Zd J) (Ze ?_);refine Z1 (i+1) ?_ (⟨by omega,fun m hm y hy=>by rcases Nat.lt_or_ge m i with h9 | h9;exact hI.2 m h9 y hy;(have h8:m=i:=by omega);subst h8;rw [hz] at hy;cases hy;exact c2⟩) 0 J (J) ⟨J,J,J,J,trivial⟩;omega
 ·intro c1;refine Yd (Yc (Z5 (Yb (Zc (Zg (Zb (Za J (Zf J) (Ze (Zc (Zr (Z3 J J ?_)))))))))));rw [idx_none (fun m hm=>hI.2 m (by omega))]
theorem idx_in (l:List Int) (a:Int):decide (0≤idxI l a)=decide (a ∈ l):=by
 by_cases h:a ∈ l
 ·obtain ⟨j,hj⟩:=Option.isSome_iff_exists.1 (show (l.findIdx? (fun z=>decide (a=z))).isSome=true by rw [List.findIdx?_isSome,List.any_eq_true];exact ⟨a,h,by simp⟩);have e:idxI l a=j:=by unfold idxI;rw [hj]
  rw [e,decide_eq_true (by omega),decide_eq_true h]
 ·have e:idxI l a = -1:=idx_none fun i hi z hz e=>h (e ▸ List.mem_of_getElem? hz);rw [e,decide_eq_false h];rfl
theorem containsInt_any (v:Value) (l:List Int) (a:Int) (w:World) (h:IntsAt w v l):Vc Tryz.prog 256 #[v,.int .i64 a] w (.bool (decide (a ∈ l))):=by
 refine Xf (args:=[v,.int .i64 a]) Tryz.func256 J Tryz.ntmps256 ?_;refine Zg (Zb (Za J (Zf J) (Ze (Zc (Zg (Zb (Za J (Zd J) (Za J (Zd J) (Yq fn326 J J (fun w' hs=>indexInt_any v l a w' (h.mono hs.low.below)) ?_)))))))));refine Za J (Rq J J) (Za J (Zf J) (Ze (Zc (Zr (Z3 J J ?_)))));rw [idx_in]
theorem Ex_kindT {n:Nat} {E:Env} {w0:World} {F:List Nat} {H:Hp} {R:Asr} {x:Operand} {t:Ty} (hx:ev E x=some (.agg (tyV t).toArray)):Ex Tryz.prog n E w0 F H R (.field 71 x 0) (.int .i64 t.kind):=⟨fun w _ a ha _ _ _ _ _=>by
 have hu:=Tryz.underlying71;simp only [execOp];rw [ha.eval hx];simp [Instr.field,run_underlying hu,part,isAgg,asAgg,tyV,run_underlying (Sj (t:=3) rfl)]⟩
structure TyL (w:World) (v:Value) (l:List Ty):Prop where
 is:∃ p c,v=.slice p l.length c∧(0<l.length→∃ g o,p=some ⟨g,o,none⟩)∧∀ g o,p=some ⟨g,o,none⟩→∀ i t,l[i]?=some t→∀ j v,(tyV t)[j]?=some v→w.cell? ⟨g,o+i*2+j,none⟩=some v
theorem tyL_ls {w:World} {v:Value} {l:List Ty} (h:(lsA v l).A w):TyL w v l:=by
 obtain ⟨p,c,rfl, -,hp⟩:=T6 h;refine ⟨p,c,J,fun h0=>?_,fun g o hpo i t hi j v hj=>?_⟩
 ·obtain ⟨g,hg⟩:=hp h0;exact ⟨g,0,hg⟩
 ·have h0:0<l.length:=Nat.lt_of_le_of_lt (Nat.zero_le _) (Wa hi);obtain ⟨g',hg⟩:=hp h0;rw [hpo] at hg;cases hg;subst hpo;cases hz:isZ (.slice (some ⟨g,0,none⟩) l.length c) with
  | true=>rw [lsA_z hz] at h;cases h;cases hi
  | false=>rw [lsA_n hz] at h;exact tysA_cell h hi hj
theorem row_tl {w0:World} {F:List Nat} {H:Hp} {R:Asr} {b o n c i:Nat} {l:List Ty} {t:Ty} (h:∀ w,Sat w0 F H R w→TyL w (.slice (some ⟨b,o,none⟩) n c) l) (hi:l[i]?=some t):Row w0 F H R b (o+i*2) (tyV t):=⟨fun w hs j v hj=>by
 obtain ⟨p,c',hv, -,hr⟩:=(h w hs).is;injection hv with a1 a2 a3
 exact hr b o a1.symm i t hi j v hj⟩
theorem Qd {P:Program} {n:Nat} {E:Env} {w0:World} {F:List Nat} {H:Hp} {R:Asr} {fn:Func} {Z:Ending→World→Prop} {κ:List Kf} {id:Nat} {l:List Oper} (hm:P.follows .mixedOrders=true) (h:WH w0 F H Asr.none P n l.toArray l.length (Array.replicate l.length false) E w0 F H R fn Z κ):WC P n (.region id l.toArray true) E w0 F H R fn Z κ :=
 O7 w0 F H Asr.none hm h
end
namespace E
open Go Go.RowKit
section
variable {w1:World} {F1:List Nat} {H1:Hp} {R1:Asr} {P:Program} {n:Nat} {E:Env} {w0:World} {F:List Nat} {H:Hp} {R:Asr} {fn:Func} {Z:Ending→World→Prop} {κ:List Kf}
theorem WH_split {all:Array Oper} {fuel:Nat} {listed:Array Bool} {s:Nat} {t:Bool} (hl:look E s=some (.bool t)) (ht:t=true→WH w1 F1 H1 R1 P n all fuel listed ((s,.bool true)::E) w0 F H R fn Z κ) (hf:t=false→WH w1 F1 H1 R1 P n all fuel listed ((s,.bool false)::E) w0 F H R fn Z κ):WH w1 F1 H1 R1 P n all fuel listed E w0 F H R fn Z κ :=
 ⟨fun w hs a ha=>by
  cases t with
  | true=>exact (ht rfl).go w hs a (ha.known hl)
  | false=>exact (hf rfl).go w hs a (ha.known hl)⟩
theorem Qc {all:Array Oper} {fuel:Nat} {listed:Array Bool} (i:Nat) {d j dj:Nat} {want:Bool} {o:Op} {t:TypeId} {p:String} {x:Array Edge} {v:Value} (hi:all[i]?=some ⟨some d,o,t,p,x,some (j,want)⟩) (hj:(all[j]?).bind (·.dst)=some dj) (hl:look E dj=some (.bool want)) (hs:Region.noSelect all=true) (hf:Region.free .any all listed i=true)
  (hr:(Region.ready .any all listed).contains i=true) (hd:Nat.blt d n=true) (hk:∀ w,Sat w0 F H R w→Sat w1 F1 H1 R1 w) (he:Ex P n E w1 F1 H1 R1 o v)
  (h:WH w1 F1 H1 R1 P n all fuel (listed.setIfInBounds i true) ((d,v)::E) w0 F H R fn Z κ):WH w1 F1 H1 R1 P n all (fuel+1) listed E w0 F H R fn Z κ :=
 ⟨fun w hw a ha=>wpAnyH_take (v:=v) hi hs hf hr (fun _ _ _=>M7 κ) (.inl ⟨by rw [Sw rfl hj ha hl];exact beq_self_eq_true want,fun w' hw'=>he.go w' hw' a ha _ _ _ _ _⟩) (hk w hw) (h.go w hw _ (ha.put hd v))⟩
theorem O6 {all:Array Oper} {fuel:Nat} {listed:Array Bool} (i:Nat) {d j dj:Nat} {want:Bool} {o:Op} {t:TypeId} {p:String} {x:Array Edge} (hi:all[i]?=some ⟨some d,o,t,p,x,some (j,want)⟩) (hj:(all[j]?).bind (·.dst)=some dj) (hl:look E dj=some (.bool (!want))) (hs:Region.noSelect all=true) (hf:Region.free .any all listed i=true)
  (hr:(Region.ready .any all listed).contains i=true) (hd:Nat.blt d n=true) (hk:∀ w,Sat w0 F H R w→Sat w1 F1 H1 R1 w)
  (h:WH w1 F1 H1 R1 P n all fuel (listed.setIfInBounds i true) ((d,undef)::E) w0 F H R fn Z κ):WH w1 F1 H1 R1 P n all (fuel+1) listed E w0 F H R fn Z κ :=
 ⟨fun w hw a ha=>wpAnyH_take (v:=undef) hi hs hf hr (fun _ _ _=>M7 κ) (.inr ⟨by rw [Sw rfl hj ha hl];cases want<;>rfl,rfl⟩) (hk w hw) (h.go w hw _ (ha.put hd undef))⟩
theorem WL_guard {all:Array Oper} {l:List Oper} {d:Option Nat} {j dj:Nat} {want:Bool} {o:Op} {t:TypeId} {p:String} {x:Array Edge} (hj:(all[j]?).bind (·.dst)=some dj) (hl:look E dj=some (.bool want))
  (h:WL P n all (⟨d,o,t,p,x,none⟩::l) E w0 F H R fn Z κ):WL P n all (⟨d,o,t,p,x,some (j,want)⟩::l) E w0 F H R fn Z κ :=
 ⟨fun w hs a ha=>by
  have h1:=h.go w hs a ha;have hw:Region.wanted ⟨d,o,t,p,x,some (j,want)⟩ (yielded all a.tmps)=true:=by rw [Sw rfl hj ha hl];exact beq_self_eq_true want
  have hw2:Region.wanted ⟨d,o,t,p,x,none⟩ (yielded all a.tmps)=true:=rfl;simp only [wpList] at h1 ⊢;rw [if_pos hw2] at h1;rw [if_pos hw];exact h1⟩
end
end E
section
open Go Go.RowKit At E
structure MtW where
 n:Nat
 gr:List Bl
def fitF (c:Cl) (l:List (Ty × Ty)) (s:St):Option St:=grF s (Wg c l s.gr)
def mfF (c:Cl) (tl:List Ty) (f:At.Fr) (s:St):Option St:=if tl.length=f.stack.length then fitF c (tl.zip f.stack++S9 s.lo f.locals) s else none
theorem addAll_more {c:Cl} {L:List (Ty × Ty)} {G:Set Bl} {s t:Ty} {gr gr':List Bl} (h:Wg c L G=some fun y=>y ∈ gr) (hy:(Wq c s t).isSome=true) (hm:∀ y,y ∈ gr'↔y ∈ gr∨Wq c s t=some (some y)):Wg c (L++[(s,t)]) G=some fun y=>y ∈ gr':=by
 rw [Um,h];show (Sb c (s,t) fun y=>y ∈ gr).bind (Wg c [])=_;unfold Sb;cases e:Wq c s t with
 | none=>rw [e] at hy;cases hy
 | some o =>
  rw [e] at hm;simp only [Option.map_some,Option.bind_some,Wg];rw [gr_set hm]
theorem addAll_fail {c:Cl} {L rest:List (Ty × Ty)} {G:Set Bl} {s t:Ty} {gr:List Bl} (h:Wg c L G=some fun y=>y ∈ gr) (hn:(Wq c s t).isSome=false):Wg c (L++[(s,t)]++rest) G=none:=by
 rw [Um,Um,h];show ((Sb c (s,t) fun y=>y ∈ gr).bind (Wg c [])).bind _=none;unfold Sb;cases e:Wq c s t with
 | none=>rfl
 | some o=>rw [e] at hn;cases hn
def idxT (l:List Ty) (a:Ty):Int:=match l.findIdx? (fun z=>decide (a.kind=z.kind)&&eqS a.cls z.cls) with
 | some j=>j
 | none => -1
theorem idxT_some {l:List Ty} {a z:Ty} {j:Nat} (h:l[j]?=some z) (hz:(decide (a.kind=z.kind)&&eqS a.cls z.cls)=true) (hno:∀ i<j,∀ z,l[i]?=some z→(decide (a.kind=z.kind)&&eqS a.cls z.cls)=false):idxT l a=j:=by
 have:l.findIdx? (fun z=>decide (a.kind=z.kind)&&eqS a.cls z.cls)=some j:=by
  rw [List.findIdx?_eq_some_iff_getElem];refine ⟨Wa h,?_,fun i hi=>?_⟩
  ·have h1:=List.getElem?_eq_getElem (Wa h);rw [h1] at h;rw [Option.some.inj h];exact hz
  ·have hil:i<l.length:=Nat.lt_trans hi (Wa h);rw [hno i hi _ (List.getElem?_eq_getElem hil)];simp
 unfold idxT;rw [this]
theorem idxT_none {l:List Ty} {a:Ty} (hno:∀ i<l.length,∀ z,l[i]?=some z→(decide (a.kind=z.kind)&&eqS a.cls z.cls)=false):idxT l a = -1:=by
 have:l.findIdx? (fun z=>decide (a.kind=z.kind)&&eqS a.cls z.cls)=none:=by
  rw [List.findIdx?_eq_none_iff];intro z hz;obtain ⟨i,hi⟩:=List.mem_iff_getElem?.1 hz;exact hno i (Wa hi) z hi
 unfold idxT;rw [this]
theorem idxT_in (l:List Ty) (a:Ty):decide (0≤idxT l a)=l.any fun z=>decide (a.kind=z.kind)&&eqS a.cls z.cls:=by
 cases h:l.any fun z=>decide (a.kind=z.kind)&&eqS a.cls z.cls with
 | true =>
  obtain ⟨j,hj⟩:=Option.isSome_iff_exists.1 (show (l.findIdx? (fun z=>decide (a.kind=z.kind)&&eqS a.cls z.cls)).isSome=true by rw [List.findIdx?_isSome];exact h);have e:idxT l a=j:=by unfold idxT;rw [hj]
  rw [e,decide_eq_true (by omega)]
 | false =>
  have e:idxT l a = -1:=idxT_none fun i hi z hz=>by
   rw [List.any_eq_false] at h
   simpa using h z (List.mem_of_getElem? hz)
  rw [e];rfl
theorem indexType_any (v:Value) (l:List Ty) (a:Ty) (w:World) (h:Yu w v l):Vc Tryz.prog 331 #[v,.agg (tyV a).toArray] w (.int .i64 (idxT l a)):=by
 obtain ⟨p,c,rfl,⟨hl1,hl2⟩,hps⟩:=h.shape;replace hps:Hid _:=hps;replace h:Hid _:=h;refine Xf (args:=[.slice p l.length c,.agg (tyV a).toArray]) Tryz.func331 J Tryz.ntmps331 ?_;refine Zg (Zb (Y2 J J ?_));intro b0 hb0;refine Za J (Zf J) (Ze (Zc (Zg (Zg (Zb (Za J (Zd J) (Za J (Zx (ts J) J) (Za J (Zd J) (Ze (Zc (Zn ?_)))))))))));refine Yf (Yg (X:=Nat) (fun i=>[(0,.slice p l.length c),(3,pt b0),(7,iN l.length),(8,iN i)]) _ _ (fun i=>[(b0,tyV a)]) (fun i=>Asr.none) (fun i=>i≤l.length∧∀ m<i,∀ z,l[m]?=some z→(decide (a.kind=z.kind)&&eqS a.cls z.cls)=false) (fun i=>l.length - i) (0) (⟨Nat.zero_le _,fun m hm=>by omega⟩) ?_) ⟨J,J,J,J,trivial⟩;intro i hI;refine Zg (Zb (Za J (Yi J J) (Ze (Zc (Zg (Zu J ?_ ?_))))))
 ·intro c1;obtain ⟨z,hz⟩:∃ z,l[i]?=some z:=⟨_,List.getElem?_eq_getElem (by omega)⟩;obtain ⟨g,o,hgo⟩:=hps.out (by omega);subst hgo;refine Zo (Zc (Zg (Zn (Zg (Zb (Za J (Zd J) (Za J (Zf J) (Ze (Zc (Zg (Ws X2 (by kernel_rfl) ?_)))))))))));refine Zq J (Zv (tn J) J 0 J J) (Zq J (Zd J) (Zq J (Zd J) (Zq J (Yo (ts J) J J ?_) ?_)))
  ·omega
  refine Zq J (Yj (tn J) J (R6 (u:=w) (fun w' hs=>Yu.mono h.out hs.low.below) hz) J) ?_;refine Zq J (Or J J) (Wi (Zc (W4 J ?_ ?_)))
  ·intro c2;refine Zg (Zb (Za J (Zd J) (Za J (Zf J) (Ze (Zc (Zr (Zl (Zl (Zl (Zl (Zl (Z3 J J ?_))))))))))));rw [idxT_some (j:=i) hz c2 hI.2]
  ·intro c2;refine Zo (Zt (Zc (Zb ?_)));refine Za J (Yn J J ?_) ?_;omega;refine Za J (Zd J) (Ze ?_);refine Z1 (i+1) ?_ (⟨by omega,fun m hm y hy=>by rcases Nat.lt_or_ge m i with h9 | h9;exact hI.2 m h9 y hy;(have h8:m=i:=by omega);subst h8;rw [hz] at hy;cases hy;exact c2⟩) 0 J (J) ⟨J,J,J,J,trivial⟩;omega
 ·intro c1;refine Yd (Yc (Z5 (Yb (Zc (Zg (Zb (Za J (Zf J) (Ze (Zc (Zr (Z3 J J ?_)))))))))));rw [idxT_none (fun m hm=>hI.2 m (by omega))]
theorem containsType_any (v:Value) (l:List Ty) (a:Ty) (w:World) (h:Yu w v l):Vc Tryz.prog 259 #[v,.agg (tyV a).toArray] w (.bool (l.any fun z=>decide (a.kind=z.kind)&&eqS a.cls z.cls)):=by
 refine Xf (args:=[v,.agg (tyV a).toArray]) Tryz.func259 J Tryz.ntmps259 ?_;refine Zg (Zb (Y2 J J ?_));intro b0 hb0;refine Za J (Zf J) (Ze (Zc (Zg (Zb (Za J (Zd J) (Za J (Zv (tn J) J 0 J J) (Yq fn331 J J (fun w' hs=>indexType_any v l a w' (h.mono hs.low.below)) ?_)))))));refine Za J (Rq J J) (Za J (Zf J) (Ze (Zc (Zr (Z3 J J ?_)))));rw [idxT_in]
end
end Go.Proofs.YtpofmnfkdkmieaaGreat
