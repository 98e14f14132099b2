/- What is proved here: package check: a frame is met. -/
import Derived.Test.YtpofmnfkdkmieaaGreatQ37
set_option linter.unusedVariables false
set_option linter.unusedSimpArgs false
namespace Go.Proofs.YtpofmnfkdkmieaaGreat
section
open Go Go.RowKit At E
section
variable {c:Cl} {m:Me} {p:Int} {s:St} {f:At.Fr}
theorem framed_dead (h:U0 m p=none) (ha:s.alive=false):Wv c m p s=none:=by unfold Wv;rw [h,ha];rfl
theorem framed_same (h:U0 m p=none) (ha:s.alive=true):Wv c m p s=some s:=by unfold Wv;rw [h,ha];rfl
theorem framed_top (h:U0 m p=some f) (ht:(f.stack.any fun t=>decide (t.kind=4))=true):Wv c m p s=none:=by
 unfold Wv;rw [h];show (if _ then _ else _)=_;rw [if_pos ht]
theorem framed_on (h:U0 m p=some f) (ht:(f.stack.any fun t=>decide (t.kind=4))=false):Wv c m p s=(if s.alive then Vf c m s.st p s else some s).map fun s'=>⟨s'.gr,f.locals,f.stack,true⟩:=by
 unfold Wv;rw [h];show (if _ then _ else _)=_;rw [if_neg (by rw [ht];decide)]
theorem framed_no (h:U0 m p=some f) (ht:(f.stack.any fun t=>decide (t.kind=4))=false) (ha:s.alive=true) (hn:Vf c m s.st p s=none):Wv c m p s=none:=by
 rw [framed_on h ht,if_pos ha,hn];rfl
end
theorem clone_end (A B C D:Asr):(A.and (B.and (C.and D))).Imp (C.and (B.and A)) :=
 (Asr.Imp.right (Asr.Imp.right (Asr.fst C D))).trans ((Asr.comm A (B.and C)).trans ((Asr.Imp.left (Asr.comm B C)).trans (Asr.assoc C B A)))
theorem ls_know {v:Value} {l:List Ty} {w:World} (h:(lsA v l).A w):∃ p n c,v=.slice p n c:=by
 obtain ⟨p,c,rfl, -⟩:=T6 h;exact ⟨p,_,c,J⟩
theorem meetFrame_any (u:World) (b:Nat) (x:WkX) (k:WkM) (hG:WkG u x) (hK:WkOk x k):Rh 160 [] u b x k (Wv x.c x.m k.pos):=by
 intro w hu hF hs0;have hOpen:=Yz (Z:=RxZ b w (wkA x k) (okW x k (Wv x.c x.m k.pos)) (Vp x.n k.pos) (Wv x.c x.m k.pos (Vl k)=none)) (hS:=hs0) (args:=[pt b]) Tryz.func160 rfl Tryz.ntmps160;refine hOpen ?_;clear hOpen;refine Zg (Zb (Za J (Zd J) (Za J (Zd J) (Za J (Zw J) (Za J (Zh (ff J) J) (Za J (Zj (t1 J) J (Zi 0 J J)) ?_))))));refine Ye fn258 J J 0 J hu hF (frame_any u b x k k.pos _ hG.me.fs hG.up) ?_;rintro v cs' R' ⟨rfl,rfl,f,lv,sv,fd,p1,p2,n1,n2,d1,d2,rfl,rfl,rfl,hfd1,hfd2⟩;refine Za J (Zd J) (Za J (X3 J J) (Za J (X3 J J) (Yk J (tz J) ?_)));intro b1 hb1;refine Z2 (tn J) J J 0 J J J J (Za J (Zf J) (Ze (Zc (Zg (Zg (Zb (Za J (Zd J) (Za J (Xv J) (Ze (Zc (W4 J ?_ ?_)))))))))))
 ·intro c1;refine Zg (Zb (Za J (Zd J) (Za J (Zd J) (Za J (Zw J) (Za J (Zh (ff J) J) (Za J (Zj (t1 J) J (Zi 1 J J)) ?_))))));refine Y8 Pe J J 1 J hu hF (V0 u b x k _ _) (fun hm=>by (repeat refine Wh ?_);exact Wm (framed_dead (hfd2 (by simpa using c1)) hm)) ?_;rintro v cs' R' ⟨rfl,rfl,rfl,hyes⟩;refine Ze (Zc (Zr (Zl (Rx_end0r J 1 J ?_))));exact ⟨J,k,J,.refl _,hK,J,framed_same (hfd2 (by simpa using c1)) hyes⟩
 ·intro c1;obtain ⟨hfa,hlv,hsv⟩:=hfd1 (by simpa using c1);obtain ⟨hf1,hf2,hf3⟩:=hG.fr hfa;have hlo:=hK.lo;have hst:=hK.st;have hbs:=hK.bs;refine Zo (Zc (Zg (Zb (Za J (Zd J) (Za J (Zh (ff J) J) (Za J (Zj (t1 J) J (Zi 0 J J)) (Za J (Z8 (cs:=tyV P5) (tb J) J (by kernel_rfl)) ?_)))))));refine Yq fn259 J J (fun w hs=>containsType_any _ f.stack P5 w (hsv.mono (Xp hu hF hs))) ?_;refine Za J (Xv J) ?_;refine Y8 Pe J J 1 J hu hF (V0 u b x k _ _) (fun hm=>by (repeat refine Wh ?_);exact Wm (framed_top hfa (by rw [← top_any hf3];simpa using hm))) ?_;rintro v cs' R' ⟨rfl,rfl,rfl,hyes⟩;have hnt:(f.stack.any fun t=>decide (t.kind=4))=false:=by rw [← top_any hf3];simpa using hyes
  refine Ze (Zc (Zg (Zg (Zb (Za J (Zd J) (Za J (Zw J) (Za J (Zh (ff J) J) (Za J (Zj (t1 J) J (Zi 1 J J)) (Ze (Zc (W4 J ?_ ?_)))))))))))
  ·intro c2;refine Xt (Asr.addNone _) (Qd X2 (Z4 0 J (by kernel_rfl) J lN (Zd J) ?_));refine Z4 1 J (by kernel_rfl) J lN (Zd J) ?_;refine Z4 2 J (by kernel_rfl) J lN (Zw J) ?_;refine Z4 3 J (by kernel_rfl) J lN (Zh (ff J) J) ?_;refine Z4 4 J (by kernel_rfl) J lN (Yj (tn J) J ((row_mine 1 J 2 J)) J) ?_;refine Z4 5 J (by kernel_rfl) J lN (Zv (tn J) J 0 J J) ?_;refine Xh 6 (by kernel_rfl) J ?_;refine Y8 fn260 J J 1 J hu hF (mustFit_any u b x k k.st k.sv f (.slice p1 n1 d1) (.slice p2 n2 d2) Asr.none (fun w' hb=>hlv.mono hb) (fun w' hb=>hsv.mono hb) (by omega) (by omega) (fun gr' w' _ ha=>tyL_ls ha.1.2.1.2.1)) (fun hm=>by (repeat refine Wh ?_);exact Wm (framed_no hfa hnt c2 (by rw [meets_mf hfa];exact hm))) ?_;rintro v cs' R' ⟨rfl,gr',rfl,hR,hmf⟩;refine Zz (hR.trans (Asr.fst _ _)) ?_;refine Ze (Y1 lN (W8 (by kernel_rfl) ?_));refine Zc (WC_heldT 1 X2 (Z4 0 J (by kernel_rfl) J (fun _ hs=>lN _ (hs.take 1)) (Zd J) ?_));refine Z4 1 J (by kernel_rfl) J (fun _ hs=>lN _ (hs.take 1)) (Zd J) ?_;refine Z4 2 J (by kernel_rfl) J (fun _ hs=>lN _ (hs.take 1)) (Zh (ff J) J) ?_;refine Z4 3 J (by kernel_rfl) J (fun _ hs=>lN _ (hs.take 1)) (Zj (t1 J) J (Zi 0 J J)) ?_;refine Z4 5 J (by kernel_rfl) J (fun _ hs=>lN _ (hs.take 1)) (Zh (ff J) J) ?_;refine Z4 6 J (by kernel_rfl) J (fun _ hs=>lN _ (hs.take 1)) (Zj (t1 J) J (Zi 0 J J)) ?_;refine Xh 4 (by kernel_rfl) J ?_;refine X8 fn261 J J (fun w' hs=>Qz _ f.locals w' (hlv.mono (Xp hu hF hs))) False.elim ?_;intro v1 R1 hR1;refine Zz hR1.left (Xc (p:=∃ p n c,v1=.slice p n c) (fun w hs=>ls_know hs.res.1) ?_);rintro ⟨q1,m1,e1,rfl⟩;refine Ze (Y1 (fun _ hs=>lN _ (hs.take 1)) ?_);refine Xh 7 (by kernel_rfl) J ?_;refine X8 fn261 J J (fun w' hs=>Qz _ f.stack w' (hsv.mono (Xp hu hF hs))) False.elim ?_;intro v2 R2 hR2;refine Zz hR2.left (Xc (p:=∃ p n c,v2=.slice p n c) (fun w hs=>ls_know hs.res.1) ?_);rintro ⟨q2,m2,e2,rfl⟩;refine Zz (clone_end _ _ _ _) (Ze (Y1 (fun _ hs=>lN _ (hs.take 1)) ?_));refine Z4 8 J (by kernel_rfl) J (fun _ hs=>lN _ (hs.take 1)) (Z8 (tb J) J J) ?_;refine Z4 9 J (by kernel_rfl) J (fun _ hs=>lN _ (hs.take 1)) (Zw J) ?_;refine Z4 10 J (by kernel_rfl) J (fun _ hs=>lN _ (hs.take 1)) (Zh (ff J) J) ?_;refine Xh 11 (by kernel_rfl) J ?_;refine Z2 (tn J) J J 1 J J J J (Ze (Y1 (fun _ hs=>lN _ (hs.take 1)) ?_));refine Z4 12 J (by kernel_rfl) J (fun _ hs=>lN _ (hs.take 1)) (Zw J) ?_;refine Z4 13 J (by kernel_rfl) J (fun _ hs=>lN _ (hs.take 1)) (Zh (ff J) J) ?_;refine Xh 14 (by kernel_rfl) J ?_;refine Yy (t1 J) J J 1 J J J J (Ze (Y1 (fun _ hs=>lN _ (hs.take 1)) ?_));refine W8 (by kernel_rfl) ?_;refine W5 J 1 J ?_;exact ⟨J,⟨gr',k.pos,f.locals,_,f.stack,_,true⟩,J,.refl _,⟨hf1,hf2,hK.bs,hK.bl⟩,J,by rw [framed_on hfa hnt,if_pos (show (Vl k).alive=true from c2)];show (Vf x.c x.m k.st k.pos (Vl k)).map _=_;rw [meets_mf hfa,hmf];rfl⟩
  ·intro c2;refine Zo (Zc (WC_heldT 1 X2 (Z4 0 J (by kernel_rfl) J (fun _ hs=>lN _ (hs.take 1)) (Zd J) ?_)));refine Z4 1 J (by kernel_rfl) J (fun _ hs=>lN _ (hs.take 1)) (Zd J) ?_;refine Z4 2 J (by kernel_rfl) J (fun _ hs=>lN _ (hs.take 1)) (Zh (ff J) J) ?_;refine Z4 3 J (by kernel_rfl) J (fun _ hs=>lN _ (hs.take 1)) (Zj (t1 J) J (Zi 0 J J)) ?_;refine Z4 5 J (by kernel_rfl) J (fun _ hs=>lN _ (hs.take 1)) (Zh (ff J) J) ?_;refine Z4 6 J (by kernel_rfl) J (fun _ hs=>lN _ (hs.take 1)) (Zj (t1 J) J (Zi 0 J J)) ?_;refine Xh 4 (by kernel_rfl) J ?_;refine X8 fn261 J J (fun w' hs=>Qz _ f.locals w' (hlv.mono (Xp hu hF hs))) False.elim ?_;intro v1 R1 hR1;refine Zz hR1.left (Xc (p:=∃ p n c,v1=.slice p n c) (fun w hs=>ls_know hs.res.1) ?_);rintro ⟨q1,m1,e1,rfl⟩;refine Ze (Y1 (fun _ hs=>lN _ (hs.take 1)) ?_);refine Xh 7 (by kernel_rfl) J ?_;refine X8 fn261 J J (fun w' hs=>Qz _ f.stack w' (hsv.mono (Xp hu hF hs))) False.elim ?_;intro v2 R2 hR2;refine Zz hR2.left (Xc (p:=∃ p n c,v2=.slice p n c) (fun w hs=>ls_know hs.res.1) ?_);rintro ⟨q2,m2,e2,rfl⟩;refine Zz (clone_end _ _ _ _) (Ze (Y1 (fun _ hs=>lN _ (hs.take 1)) ?_));refine Z4 8 J (by kernel_rfl) J (fun _ hs=>lN _ (hs.take 1)) (Z8 (tb J) J J) ?_;refine Z4 9 J (by kernel_rfl) J (fun _ hs=>lN _ (hs.take 1)) (Zw J) ?_;refine Z4 10 J (by kernel_rfl) J (fun _ hs=>lN _ (hs.take 1)) (Zh (ff J) J) ?_;refine Xh 11 (by kernel_rfl) J ?_;refine Z2 (tn J) J J 1 J J J J (Ze (Y1 (fun _ hs=>lN _ (hs.take 1)) ?_));refine Z4 12 J (by kernel_rfl) J (fun _ hs=>lN _ (hs.take 1)) (Zw J) ?_;refine Z4 13 J (by kernel_rfl) J (fun _ hs=>lN _ (hs.take 1)) (Zh (ff J) J) ?_;refine Xh 14 (by kernel_rfl) J ?_;refine Yy (t1 J) J J 1 J J J J (Ze (Y1 (fun _ hs=>lN _ (hs.take 1)) ?_));refine W8 (by kernel_rfl) ?_;refine W5 J 1 J ?_;exact ⟨J,⟨k.gr,k.pos,f.locals,_,f.stack,_,true⟩,J,.refl _,⟨hf1,hf2,hK.bs,hK.bl⟩,J,by rw [framed_on hfa hnt,if_neg (show ¬ (Vl k).alive=true by show ¬ k.alive=true;simp [c2])];rfl⟩
end
section
open Go Go.RowKit At E
def orAt (s t:ByteArray) (i:Nat):ByteArray:=if i=0 then s else t
theorem or_leaf1 {s t:ByteArray} {i:Nat} (hi:i<2) (hI:∀ j<i,orAt s t j=At.mt) (h:¬ orAt s t i=⟨#[]⟩):(.string (orAt s t i):Value)=.string (if s=At.mt then t else s):=by
 by_cases h0:i=0
 ·subst h0;rw [if_neg (show ¬ s=At.mt from h)];rfl
 ·have h1:i=1:=by omega
  subst h1;rw [if_pos (show s=At.mt from hI 0 (by omega))];rfl
theorem or_leaf2 {s t:ByteArray} {i:Nat} (hi:2≤i) (hI:∀ j<i,orAt s t j=At.mt):(.string ⟨#[]⟩:Value)=.string (if s=At.mt then t else s):=by
 rw [if_pos (show s=At.mt from hI 0 (by omega)),show t=At.mt from hI 1 (by omega)];rfl
theorem orS_any (g:Nat) (s t:ByteArray) (w:World) (hg:g<w.heap.size) (hc:∀ i<2,w.cell? ⟨g,0+i*1,none⟩=some (.string (orAt s t i))):Vc Tryz.prog 263 #[.slice (some ⟨g,0,none⟩) 2 2] w (.string (if s=At.mt then t else s)):=by
 replace hc:Hid _:=hc;refine Xf (args:=[.slice (some ⟨g,0,none⟩) 2 2]) Tryz.func263 J Tryz.ntmps263 ?_;refine Zg (Zb (Za J (Zf J) (Ze (Zc (Zg (Zb (Za J (Zf J) (Ze (Zc (Zg (Zg (Zb (Za J (Zd J) (Za J (Zx (ts J) J) (Za J (Zd J) (Ze (Zc (Zn ?_))))))))))))))))));refine Yf (Yg (X:=Nat) (fun i=>[(3,.string ⟨#[]⟩),(6,.slice (some ⟨g,0,none⟩) 2 2),(7,.int .i64 2),(8,iN i)]) _ _ (fun i=>[]) (fun i=>Asr.none) (fun i=>i≤2∧∀ j<i,orAt s t j=At.mt) (fun i=>2 - i) (0) (⟨Nat.zero_le _,fun j hj=>by omega⟩) ?_) ⟨J,J,J,J,trivial⟩;intro i hI;refine Zg (Zb (Za J (Yi J J) (Ze (Zc (Zg (Zu J ?_ ?_))))))
 ·intro c1;have hi:i<2:=by omega
  refine Zo (Zc (Zg (Zn (Zg (Zb (Za J (Yo (ts J) J J ?_) ?_))))))
  ·omega
  refine Za J (Zj (t1 J) J (Z6 (hc.out i hi) hg)) (Za J (Zf J) (Ze (Zc (Zg (Zb (Za J (Zd J) (Za J (Zd J) (Za J (S5 J J) (Ze (Zc (Qw J ?_ ?_)))))))))))
  ·intro c2;refine Zg (Zb (Za J (Zd J) (Za J (Zf J) (Ze (Zc (Zr (Zl (Zl (Zl (Zl (Zl (Z3 J J ?_))))))))))));exact or_leaf1 hi hI.2 c2
  ·intro c2;refine Zo (Zt (Zc (Zb ?_)));refine Za J (Yn J J ?_) ?_;omega;refine Za J (Zd J) (Ze ?_);refine Z1 (i+1) ?_ (⟨by omega,fun j hj=>by rcases Nat.lt_or_ge j i with h9 | h9;exact hI.2 j h9;(have h8:j=i:=by omega);subst h8;exact c2⟩) 0 J (J) ⟨J,J,J,J,trivial⟩;omega
 ·intro c1;refine Yd (Yc (Z5 (Yb (Zc (Zg (Zb (Za J (Zd J) (Za J (Zf J) (Ze (Zc (Zr (Z3 J J ?_))))))))))));exact or_leaf2 (by omega) hI.2
theorem one_tyL {w:World} {b:Nat} {t:Ty} (h:(Pi b (tyV t)).A w):TyL w (.slice (some ⟨b,0,none⟩) 1 1) [t]:=by
 obtain ⟨e,he⟩:=h;refine ⟨some ⟨b,0,none⟩,1,J,fun _=>⟨b,0,J⟩,fun g o hp i x hi j v hj=>?_⟩;cases hp;have hi0:i=0:=by have:=Wa hi;simp at this;omega
 subst hi0;cases hi;simp only [World.cell?,he]
 simpa using hj
def Nd (c:Cl) (m:Me) (s:ByteArray) (a:Int) (q:St):Option St:=(grF q (Sb c (Xu s,Xu thS) q.gr)).bind (Vf c m [Xu s] a)
theorem hand1_no {c:Cl} {m:Me} {s:ByteArray} {a:Int} {q:St} (h:(Wq c (Xu s) (Xu thS)).isSome=false):Nd c m s a q=none:=by
 unfold Nd Sb;cases e:Wq c (Xu s) (Xu thS) with
 | none=>rfl
 | some o=>rw [e] at h;cases h
theorem hand1_yes {c:Cl} {m:Me} {s:ByteArray} {a:Int} {k:WkM} {gr':List Bl} (h:(Wq c (Xu s) (Xu thS)).isSome=true) (hm:∀ y,y ∈ gr'↔y ∈ k.gr∨Wq c (Xu s) (Xu thS)=some (some y)):Nd c m s a (Vl k)=Vf c m [Xu s] a (Vl { k with gr:=gr' }):=by
 unfold Nd Sb;cases e:Wq c (Xu s) (Xu thS) with
 | none=>rw [e] at h;cases h
 | some o =>
  rw [e] at hm;show Vf c m [Xu s] a ⟨addO o (fun y=>y ∈ k.gr),k.lo,k.st,k.alive⟩=_;rw [← gr_set hm];rfl
theorem meetHandler_any (u:World) (b:Nat) (x:WkX) (k:WkM) (hG:WkG u x) (hK:WkOk x k) (a:Int) (s:ByteArray):Rh 262 [.int .i64 a,.string s] u b x k (Nd x.c x.m s a):=by
 intro w hu hF hs0;obtain ⟨gr,pos,lo,lv,st,sv,al⟩:=k;have hLV:(lsA lv lo).A w:=hs0.res.2.1.1;obtain ⟨pl,cl,rfl, -⟩:=T6 hLV;clear hLV;have hOpen:=Yz (Z:=RxZ b w (wkA x ⟨gr,pos,lo,.slice pl lo.length cl,st,sv,al⟩) (okW x ⟨gr,pos,lo,.slice pl lo.length cl,st,sv,al⟩ (Nd x.c x.m s a)) (Vp x.n pos) (Nd x.c x.m s a (Vl ⟨gr,pos,lo,.slice pl lo.length cl,st,sv,al⟩)=none)) (hS:=hs0) (args:=[pt b,.int .i64 a,.string s]) Tryz.func262 rfl Tryz.ntmps262;refine hOpen ?_;clear hOpen;refine Zg (Zb (Za J (Zd J) (Za J (Zd J) (Za J (Zd J) ?_))));refine Ye fn332 J J 0 J hu hF (wbelow_any u b x ⟨gr,pos,lo,.slice pl lo.length cl,st,sv,al⟩ s thS) ?_;rintro v cs' R' ⟨gr',rfl,rfl,hR,hm2⟩;refine Zz hR ?_;refine Y8 Pe J J 0 J hu hF (V0 u b x ⟨gr',pos,lo,.slice pl lo.length cl,st,sv,al⟩ _ _) (fun hm=>by (repeat refine Wh ?_);exact Wm (hand1_no hm)) ?_;rintro v cs' R' ⟨rfl,rfl,rfl,hyes⟩;refine Ze (Zc (Qd X2 (Z4 0 J (by kernel_rfl) J (by exact fun _ hs=>hs.leads (Asr.toNone _)) (Zd J) ?_)));refine Z4 1 J (by kernel_rfl) J (by exact fun _ hs=>hs.leads (Asr.toNone _)) (Zd J) ?_;refine Z4 2 J (by kernel_rfl) J (by exact fun _ hs=>hs.leads (Asr.toNone _)) (Zw J) ?_;refine Z4 3 J (by kernel_rfl) J (by exact fun _ hs=>hs.leads (Asr.toNone _)) (Zh (ff J) J) ?_;refine Z4 4 J (by kernel_rfl) J (by exact fun _ hs=>hs.leads (Asr.toNone _)) (Zh (ff J) J) ?_;refine Z4 5 J (by kernel_rfl) J (by exact fun _ hs=>hs.leads (Asr.toNone _)) (Zj (t1 J) J ((Zi 0 J J))) ?_;refine Z4 6 J (by kernel_rfl) J (by exact fun _ hs=>hs.leads (Asr.toNone _)) (Zd J) ?_;refine Z4 10 J (by kernel_rfl) J (by exact fun _ hs=>hs.leads (Asr.toNone _)) (Zd J) ?_;refine Xh 7 (by kernel_rfl) J ?_;refine Yq fn158 J J (fun w _=>Oe s w) ?_;refine Ze (Y1 (by exact fun _ hs=>hs.leads (Asr.toNone _)) ?_);refine Xh 8 (by kernel_rfl) J ?_;refine Wk J (ts J) (tz J) J J J J J ?_;intro b1 hb1;refine Ze (Y1 (by exact fun _ hs=>lN _ (hs.drop 1)) ?_);refine Z4 9 J (by kernel_rfl) J (by exact fun _ hs=>lN _ (hs.drop 1)) (Z8 (tb J) J J) ?_;refine Xh 11 (by kernel_rfl) J ?_;refine Lh ?_;refine Y8 fn264 J J 0 J hu hF (mustFitAt_any u b x ⟨gr',pos,lo,.slice pl lo.length cl,st,sv,al⟩ hG ⟨hK.lo,hK.st,hK.bs,hK.bl⟩ [Xu s] (.slice (some ⟨b1,0,none⟩) 1 1) a (Pi b1 (tyV (Xu s))) (by show 1≤1048576;decide) rfl (fun _ _ _ h=>one_tyL h.2.1)) (fun hm=>by (repeat refine Wh ?_);exact Wm (by rw [hand1_yes hyes hm2];exact hm)) ?_;rintro v cs' R' ⟨rfl,gr2,rfl,hR2,hm3⟩;refine Zz (hR2.trans (Asr.fst _ _)) ?_;refine Ze (Y1 (by exact fun _ hs=>hs.leads (Asr.toNone _)) ?_);refine W8 (by kernel_rfl) ?_;refine W5 J 0 J ?_;exact ⟨J,⟨gr2,pos,lo,.slice pl lo.length cl,st,sv,al⟩,J,.refl _,⟨hK.lo,hK.st,hK.bs,hK.bl⟩,J,by rw [hand1_yes hyes hm2];exact hm3⟩
theorem hdOfW (u:World) {q:Option Addr} {n c:Nat} {l:List Hd} (h:HdsAt u (.slice q n c) l) {i:Nat} {d:Hd} (hi:l[i]?=some d):∃ b o,q=some ⟨b,o,none⟩∧b<u.heap.size∧∀ j v,(hdV d)[j]?=some v→u.cell? ⟨b,o+i*4+j,none⟩=some v:=by
 obtain ⟨p,c',hv, -,hr⟩:=h.is;cases hv;obtain ⟨b,o,r,hp,hb,⟨rfl, -⟩,hc⟩:=hr i d hi;exact ⟨b,o,hp,hb,hc⟩
theorem or_cells {w0 w:World} {F:List Nat} {H:Hp} {R:Asr} {g:Nat} {s t:ByteArray} (hs:Sat w0 F ((g,[.string s,.string t])::H) R w):∀ i<2,w.cell? ⟨g,0+i*1,none⟩=some (.string (orAt s t i)):=by
 intro i hi;rw [hs.mine List.mem_cons_self];rcases Nat.lt_or_ge 0 i with h | h
 ·have h1:i=1:=by omega
  subst h1;rfl
 ·have h1:i=0:=by omega
  subst h1;rfl
structure HnW where
 n:Nat
 k:WkM
theorem hands_in {c:Cl} {m:Me} {p:Int} {h:Hd} (h1:h.lo≤p) (h2:p<h.hi) (q:St):Uu c m p h q=Nd c m (N7 h) h.pos q:=by
 unfold Uu Nd;rw [if_pos ⟨h1,h2⟩]
theorem hands_out {c:Cl} {m:Me} {p:Int} {h:Hd} (hn:¬ (h.lo≤p∧p<h.hi)) (q:St):Uu c m p h q=some q:=by
 unfold Uu;rw [if_neg hn]
theorem M4 {c:Cl} {m:Me} {p:Int} {n:Nat} {h:Hd} (hi:m.handlers[n]?=some h) (q:St):Vn c m p (m.handlers.take (n+1)) q=(Vn c m p (m.handlers.take n) q).bind (Uu c m p h):=by
 rw [List.take_add_one,hi,handFapp];congr 1;funext s
 show (Uu c m p h s).bind (Vn c m p [])=_;cases Uu c m p h s<;>rfl
theorem hands_no {c:Cl} {m:Me} {p:Int} {n:Nat} {h:Hd} {q q1:St} (hi:m.handlers[n]?=some h) (hj:Vn c m p (m.handlers.take n) q=some q1) (h1:h.lo≤p) (h2:p<h.hi) (hm:Nd c m (N7 h) h.pos q1=none):Vn c m p m.handlers q=none:=by
 rw [← List.take_append_drop (n+1) m.handlers,handFapp,M4 hi,hj];show ((Uu c m p h q1).bind _)=none;rw [hands_in h1 h2,hm];rfl
set_option maxRecDepth 2000 in
theorem meetHandlers_any (u:World) (b:Nat) (x:WkX) (k:WkM) (hG:WkG u x) (hK:WkOk x k):Rh 161 [] u b x k (Vn x.c x.m k.pos x.m.handlers):=by
 intro w hu hF hs0;have hH:HdsAt u x.hv x.m.handlers:=hG.me.hs;obtain ⟨q,e,hxh,⟨hl1,hl2⟩, -⟩:=id hH.is;rw [hxh] at hH;replace hH:Hid _:=hH;obtain ⟨gr0,pos,lo0,lv0,st0,sv0,al0⟩:=k;have hOpen:=Yz (Z:=RxZ b w (wkA x ⟨gr0,pos,lo0,lv0,st0,sv0,al0⟩) (okW x ⟨gr0,pos,lo0,lv0,st0,sv0,al0⟩ (Vn x.c x.m pos x.m.handlers)) (Vp x.n pos) (Vn x.c x.m pos x.m.handlers (Vl ⟨gr0,pos,lo0,lv0,st0,sv0,al0⟩)=none)) (hS:=hs0) (args:=[pt b]) Tryz.func161 rfl Tryz.ntmps161;refine hOpen ?_;clear hOpen;refine Zg (Zb (Za J (Zd J) (Za J (Zw J) (Za J (Zh (ff J) J) (Za J (Zh (ff J) J) (Za J (Zj (t1 J) J (Zi 0 J J)) (Wt (s:=8) (v':=.slice q x.m.handlers.length e) J hxh (Za J (Zx (ts J) J) (Za J (Zd J) (Ze (Zc (Zn ?_))))))))))));refine Yf (Yg (X:=HnW) (fun y=>[(0,pt b),(8,.slice q x.m.handlers.length e),(9,iN x.m.handlers.length),(10,iN y.n)]) _ _ (fun y=>[(b,wkC x y.k)]) (fun y=>wkA x y.k) (fun y=>y.n≤x.m.handlers.length∧WkOk x y.k∧y.k.pos=pos∧Hid (Vn x.c x.m pos (x.m.handlers.take y.n) (Vl ⟨gr0,pos,lo0,lv0,st0,sv0,al0⟩)=some (Vl y.k))) (fun y=>x.m.handlers.length - y.n) (⟨0,⟨gr0,pos,lo0,lv0,st0,sv0,al0⟩⟩) (⟨Nat.zero_le _,hK,J,J⟩) ?_) ⟨J,J,J,J,trivial⟩;intro y hI;obtain ⟨n,⟨gr,pos2,lo,lv,st,sv,al⟩⟩:=y;obtain ⟨hj1,hj2,hj3,hj4⟩:=hI;dsimp only at hj1 hj3;subst hj3;have hnn:(HnW.mk n ⟨gr,pos2,lo,lv,st,sv,al⟩).n=n:=rfl;refine Zg (Zb (Za J (Yi J J) (Ze (Zc (Zg (Zu J ?_ ?_))))))
 ·intro c1;replace c1:(n:Int)<(x.m.handlers.length:Int):=c1;obtain ⟨hd,hi⟩:∃ d,x.m.handlers[n]?=some d:=⟨_,List.getElem?_eq_getElem (by omega)⟩;obtain ⟨gb,o,hq,hgb,hc⟩:=hdOfW u hH.out hi;subst hq;refine Zo (Zc (Zg (Zn (Zg (Zb (Za J (Yo (ts J) J J ?_) ?_))))))
  ·omega
  refine Za J (Yj (tn J) J (row_u hu hF hc hgb) J) (Yk J (tz J) ?_);intro b1 hb1;refine Z2 (tn J) J J 0 J J J J (Ze (Zc (Zg (Qd X2 (Z4 0 J (by kernel_rfl) J lN (Zh (ff J) J) ?_)))));refine Z4 1 J (by kernel_rfl) J lN (Zj (t1 J) J (Zi 0 J J)) ?_;refine Z4 2 J (by kernel_rfl) J lN (Zd J) ?_;refine Z4 3 J (by kernel_rfl) J lN (Zw J) ?_;refine Z4 4 J (by kernel_rfl) J lN (Zh (ff J) J) ?_;refine Z4 5 J (by kernel_rfl) J lN (Zj (t1 J) J ((Zi 1 J J))) ?_;refine Z4 6 J (by kernel_rfl) J lN (Xj J J) ?_;refine Z4 7 J (by kernel_rfl) J lN (Zd J) ?_;refine WH_split (s:=21) J ?_ ?_
  ·intro h1;replace h1:=dTr h1;refine Qc 8 J J J (by kernel_rfl) (by kernel_rfl) (by kernel_rfl) J lN (Zd J) ?_;refine Qc 9 J J J (by kernel_rfl) (by kernel_rfl) (by kernel_rfl) J lN (Zw J) ?_;refine Qc 10 J J J (by kernel_rfl) (by kernel_rfl) (by kernel_rfl) J lN (Zh (ff J) J) ?_;refine Qc 11 J J J (by kernel_rfl) (by kernel_rfl) (by kernel_rfl) J lN (Zj (t1 J) J ((Zi 1 J J))) ?_;refine Qc 12 J J J (by kernel_rfl) (by kernel_rfl) (by kernel_rfl) J lN (Zh (ff J) J) ?_;refine Qc 13 J J J (by kernel_rfl) (by kernel_rfl) (by kernel_rfl) J lN (Zj (t1 J) J (Zi 0 J J)) ?_;refine Qc 14 J J J (by kernel_rfl) (by kernel_rfl) (by kernel_rfl) J lN (Yi J J) ?_;refine Z4 15 J (by kernel_rfl) J lN (Zp J J) ?_;refine W8 (by kernel_rfl) ?_;refine Zc (Zu J ?_ ?_)
   ·intro c2;refine WC_heldT 1 X2 (Z4 0 J (by kernel_rfl) J (by exact fun _ hs=>lN _ (hs.take 1)) (Zd J) ?_);refine Z4 1 J (by kernel_rfl) J (by exact fun _ hs=>lN _ (hs.take 1)) (Zh (ff J) J) ?_;refine Z4 2 J (by kernel_rfl) J (by exact fun _ hs=>lN _ (hs.take 1)) (Zj (t1 J) J (Zi 0 J J)) ?_;refine Z4 3 J (by kernel_rfl) J (by exact fun _ hs=>lN _ (hs.take 1)) (Zh (ff J) J) ?_;refine Z4 4 J (by kernel_rfl) J (by exact fun _ hs=>lN _ (hs.take 1)) (Zj (t1 J) J (Zi 0 J J)) ?_;refine Xh 5 (by kernel_rfl) J ?_;refine Wk J (ts J) (tz J) J J J J J ?_;intro b2 hb2;refine Ze (Y1 (by exact fun _ hs=>((hs.drop 1).take 1).leads (Asr.toNone _)) ?_);refine Xh 6 (by kernel_rfl) J ?_;refine Yq fn263 J J (fun w hs=>orS_any b2 hd.cls thS w (hs.lt List.mem_cons_self) (or_cells hs)) ?_;refine Ze (Y1 (by exact fun _ hs=>((hs.drop 1).take 1).leads (Asr.toNone _)) ?_);refine Xh 7 (by kernel_rfl) J ?_;refine Y8 fn262 J J 2 J hu hF (meetHandler_any u b x ⟨gr,pos2,lo,lv,st,sv,al⟩ hG hj2 hd.pos (N7 hd)) (fun hm=>by (repeat refine Wh ?_);exact Wm (hands_no hi hj4.out h1 c2 hm)) ?_;rintro v cs' R' ⟨rfl,k2,rfl,hR,hk2,hp2,hs2⟩;refine Zz hR ?_;refine Ze (Y1 (by exact fun _ hs=>((hs.drop 1).take 1).leads (Asr.toNone _)) ?_);refine W8 (by kernel_rfl) ?_;refine Zt (Zc (Zb ?_));refine Za J (Yn J J ?_) ?_;omega;refine Za J (Zd J) (Ze ?_);refine Z1 ((⟨n+1,k2⟩:HnW)) ?_ (⟨by show n+1≤_;omega,hk2,hp2,by show Hid (Vn _ _ _ (x.m.handlers.take (n+1)) _=_);rw [M4 hi,hj4.out];show Hid (Uu _ _ _ hd (Vl _)=_);rw [hands_in h1 c2];exact hs2⟩) 2 J (J) ⟨J,J,J,J,trivial⟩;show x.m.handlers.length - (n+1)<x.m.handlers.length - n;omega
   ·intro c2;refine Zo (Zt (Zc (Zb ?_)));refine Za J (Yn J J ?_) ?_;omega;refine Za J (Zd J) (Ze ?_);refine Z1 ((⟨n+1,⟨gr,pos2,lo,lv,st,sv,al⟩⟩:HnW)) ?_ (⟨by show n+1≤_;omega,hj2,rfl,by show Hid (Vn _ _ _ (x.m.handlers.take (n+1)) _=_);rw [M4 hi,hj4.out];exact hands_out (by first | (intro hh;exact h1 hh.1) | (intro hh;exact c2 hh.2)) _⟩) 1 J (J) ⟨J,J,J,J,trivial⟩;show x.m.handlers.length - (n+1)<x.m.handlers.length - n;omega
  ·intro h1;replace h1:=dFa h1;refine O6 8 J J J (by kernel_rfl) (by kernel_rfl) (by kernel_rfl) J lN ?_;refine O6 9 J J J (by kernel_rfl) (by kernel_rfl) (by kernel_rfl) J lN ?_;refine O6 10 J J J (by kernel_rfl) (by kernel_rfl) (by kernel_rfl) J lN ?_;refine O6 11 J J J (by kernel_rfl) (by kernel_rfl) (by kernel_rfl) J lN ?_;refine O6 12 J J J (by kernel_rfl) (by kernel_rfl) (by kernel_rfl) J lN ?_;refine O6 13 J J J (by kernel_rfl) (by kernel_rfl) (by kernel_rfl) J lN ?_;refine O6 14 J J J (by kernel_rfl) (by kernel_rfl) (by kernel_rfl) J lN ?_;refine Z4 15 J (by kernel_rfl) J lN (Zs J J) ?_;refine W8 (by kernel_rfl) ?_;refine Zc (Xn J (Zo (Zt (Zc (Zb ?_)))));refine Za J (Yn J J ?_) ?_;omega;refine Za J (Zd J) (Ze ?_);refine Z1 ((⟨n+1,⟨gr,pos2,lo,lv,st,sv,al⟩⟩:HnW)) ?_ (⟨by show n+1≤_;omega,hj2,rfl,by show Hid (Vn _ _ _ (x.m.handlers.take (n+1)) _=_);rw [M4 hi,hj4.out];exact hands_out (by first | (intro hh;exact h1 hh.1) | (intro hh;exact c2 hh.2)) _⟩) 1 J (J) ⟨J,J,J,J,trivial⟩;show x.m.handlers.length - (n+1)<x.m.handlers.length - n;omega
 ·intro c1;replace c1:¬ (n:Int)<(x.m.handlers.length:Int):=c1;refine Yd (Yc (Z5 (Yb (W5 J 0 J ?_))));exact ⟨J,⟨gr,pos2,lo,lv,st,sv,al⟩,J,.refl _,hj2,J,by rw [List.take_of_length_le (by omega)] at hj4;exact hj4.out⟩
end
namespace E
open Go Go.RowKit
section
variable {P:Program} {n:Nat} {E:Env} {w0:World} {F:List Nat} {H:Hp} {R:Asr} {fn:Func} {Z:Ending→World→Prop} {κ:List Kf} {pc:List PanicEntry}
theorem WL_callT {all:Array Oper} {l:List Oper} {d f b:Nat} {g:Operand} {cap:List Value} {xs:List Operand} {vs:List Value} {ts:Array TypeId} {t:TypeId} {p:String} {e:Array Edge} {cs:List Value} {u:World} {ok:Value→List Value→Asr→Prop} {may:Prop} {T:World→Prop} (hf:IsFn P f)
  (hd:Nat.blt d n=true) (hg:ev E g=some (.func (.func f) #[] cap.toArray)) (hx:args E xs=some vs) (i:Nat) (hp:H[i]?=some (b,cs)) (hu:Below u.heap.size u w0) (hF:∀ x ∈ F,u.heap.size≤x)
  (hc:∀ w,Below u.heap.size u w→(∀ x ∈ b::R.S,u.heap.size≤x)→Sat w (b::R.S) [(b,cs)] R w→T w→Calls P f (vs++cap).toArray w (RxZ b w R ok pc may)) (hT:∀ w,Sat w0 F H R w→T w)
  (hn:may→WX P n E w0 F pc fn Z κ)
  (h:∀ v cs' R',ok v cs' R'→WL P n all l ((d,v)::E) w0 F (H.set i (b,cs')) R' fn Z κ) :
  WL P n all (⟨some d,.call ⟨.value g,xs.toArray,ts⟩,t,p,e,none⟩::l) E w0 F H R fn Z κ :=
 ⟨fun w hs0 a ha=>wpList_plain rfl fun K hK=>by
  have hs:=hs0.leads (Asr.addNone R);unfold Oper.wp;rw [Np rfl (ha.eval hg) hf,Ve ha xs vs hx];rw [show (#[]++vs.toArray++cap.toArray:Array Value)=(vs++cap).toArray by simp];refine Calls.mono (hc w (Xp hu hF hs0) (ru_F hu hF hs hp) (rk_now hs hp) (hT w hs0)) ?_;rintro e w' (⟨v,cs',R',rfl,hok,hw⟩ | ⟨hm,rfl,hb⟩)
  ·exact hK _ _ ((h v cs' R' hok).go w' ((Oz hs hp hw).leads (Asr.fst _ _)) _ (ha.put hd _))
  ·refine (hn hm).go w' (hs.low.trans hb fun x hx=>?_) _ ha;rcases List.mem_cons.1 hx with rfl | hx
   ·exact hs.hi _ (List.mem_of_getElem? hp)
   ·exact (hs.rhi x (List.mem_append_left _ hx)).1⟩
end
end E
section
open Go Go.RowKit At E
theorem fn249:IsFn Tryz.prog 249:=⟨_,Tryz.func249,by kernel_rfl,by kernel_rfl⟩
theorem fn251:IsFn Tryz.prog 251:=⟨_,Tryz.func251,by kernel_rfl,by kernel_rfl⟩
theorem takec1_at (u:World) (b bc:Nat) (x:WkX) (k:WkM) (i:Ins) (pv v:Value) (l:List Ty) (hk:WkOk x k) :
  StepP 249 [.agg (Wx i pv).toArray,pt bc] u b x k (Xe x.c l) (fun w=>∀ w',Fr (b::(wkA x k).S) w w'→w'.cell? ⟨bc,0,none⟩=some v∧Yu w' v l):=by
 intro w hu hF hs0 hT;replace hk:Hid _:=hk;replace hT:Hid _:=hT;refine Yz (hs0) (args:=[pt b,.agg (Wx i pv).toArray,pt bc]) Tryz.func249 J Tryz.ntmps249 ?_;refine Zg (Zb (Y2 J J ?_));intro b1 hb1;refine Ze (Zc (Zb (Za J (Zd J) (Za J (Zj (t1 J) J (⟨fun w' hs=>(hT.out w' hs.low).1⟩)) ?_))));refine WL_callT (cap:=[]) fn250 J J J 1 J hu hF (wtakeAll_at u b x k l v hk.out) (fun w' hs w2 hf=>(hT.out w2 (hs.low.trans hf fun _ h=>.inl h)).2) (fun hm=>by (repeat refine Wh ?_);exact Wm hm) ?_;rintro v cs' R' ⟨rfl,k2,rfl,hR2,hk2,hp2,ht2⟩;refine Ze (W5 J 1 J ?_);exact ⟨J,k2,J,hR2,hk2,hp2,ht2⟩
theorem layc1_at (u:World) (b bc:Nat) (x:WkX) (k:WkM) (i:Ins) (pv:Value) (t:Ty) (hk:WkOk x k) :
  StepP 251 [.agg (Wx i pv).toArray,pt bc] u b x k (U1 x.m t) (fun w=>∀ w',Fr (b::(wkA x k).S) w w'→∀ j v,(tyV t)[j]?=some v→w'.cell? ⟨bc,0+j,none⟩=some v):=by
 intro w hu hF hs0 hT;replace hk:Hid _:=hk;replace hT:Hid _:=hT;refine Yz (hs0) (args:=[pt b,.agg (Wx i pv).toArray,pt bc]) Tryz.func251 J Tryz.ntmps251 ?_;refine Zg (Zb (Y2 J J ?_));intro b1 hb1;refine Ze (Zc (Zb (Za J (Zd J) (Za J (Yj (tn J) J ((⟨fun w' hs=>hT.out w' hs.low⟩:Row _ _ _ _ _ _ (tyV t))) J) ?_))));refine Y8 fn252 J J 1 J hu hF ((wlay_any u b x k t hk.out).to J) (fun hm=>by (repeat refine Wh ?_);exact Wm (hm)) ?_;rintro v cs' R' ⟨rfl,k2,rfl,hR2,hk2,hp2,ht2⟩;refine Ze (W5 J 1 J ?_);exact ⟨J,k2,J,hR2,hk2,hp2,ht2⟩
theorem takeKindc1_at (u:World) (b bc:Nat) (x:WkX) (k:WkM) (i:Ins) (pv v:Value) (l:List Int) (hk:WkOk x k) :
  StepP 255 [.agg (Wx i pv).toArray,pt bc] u b x k (Qi l) (fun w=>∀ w',Fr (b::(wkA x k).S) w w'→w'.cell? ⟨bc,0,none⟩=some v∧IntsAt w' v l):=by
 intro w hu hF hs0 hT;replace hk:Hid _:=hk;replace hT:Hid _:=hT;refine Yz (hs0) (args:=[pt b,.agg (Wx i pv).toArray,pt bc]) Tryz.func255 J Tryz.ntmps255 ?_;refine Zg (Zb (Y2 J J ?_));intro b1 hb1;refine Ze (Zc (WC_heldT 0 X2 (Z4 0 J (by kernel_rfl) J (fun _ hs=>lN _ (hs.take 0)) (Zd J) ?_)));refine Z4 1 J (by kernel_rfl) J (fun _ hs=>lN _ (hs.take 0)) (Zj (t1 J) J (⟨fun w' hs=>(hT.out w' hs.low).1⟩)) ?_;refine Z4 2 J (by kernel_rfl) J (fun _ hs=>lN _ (hs.take 0)) (Zd J) ?_;refine Xh 3 (by kernel_rfl) J ?_;refine Y8 fn253 J J 1 J hu hF (wtake_any u b x k hk.out) (fun hm=>by (repeat refine Wh ?_);exact Wm (by unfold Qi;rw [hm];rfl)) ?_;rintro v cs' R' ⟨t,k1,rfl,rfl,hR,hk1,hpos,hp, -⟩;refine Zz hR ?_;refine Ze (Y1 (fun _ hs=>lN _ (hs.take 0)) ?_);refine Xh 4 (by kernel_rfl) J ?_;refine Za J (Ex_kindT J) (Ze (Y1 (fun _ hs=>lN _ (hs.take 0)) ?_));refine Xh 5 (by kernel_rfl) J ?_;refine Yq fn256 J J (fun w' hs=>containsInt_any v l t.kind w' (hT.out w' hs.low).2) ?_;refine Ze (Y1 (fun _ hs=>lN _ (hs.take 0)) ?_);refine Xh 6 (by kernel_rfl) J ?_;refine Y8 Pe J J 1 J hu hF (wmust_at u b x k1 _ _ hpos) (fun hm=>by (repeat refine Wh ?_);exact Wm (by unfold Qi;rw [hp];exact if_neg (of_decide_eq_false hm))) ?_;rintro v cs' R' ⟨rfl,rfl,rfl,hyes⟩;replace hyes:=of_decide_eq_true hyes;refine Ze (Y1 (fun _ hs=>lN _ (hs.take 0)) ?_);refine W8 (by kernel_rfl) ?_;refine W5 J 1 J ?_;exact ⟨J,k1,J,.refl _,hk1,hpos,by unfold Qi;rw [hp];exact if_pos hyes⟩
inductive Ac where
 | nil
 | take (l:List Ty)
 | lay (t:Ty)
 | kind (ks:List Int)
 | any
 | again
 | load
 | store
 | obj
 | typ
 | params
 | objTyp
 | objParams
 | void
 | give
 | layObj
 | layTyp
def acF (c:Cl) (m:Me) (i:Ins):Ac→St→Option St
 | .nil=>fun s=>some s
 | .take l=>Xe c l
 | .lay t=>U1 m t
 | .kind ks=>Qi ks
 | .any=>anyF
 | .again=>againF m
 | .load=>loadF m i.n
 | .store=>P8 i.n
 | .obj=>Va c (Xu i.ref.cls)
 | .typ=>Va c i.ref.ty
 | .params=>Xe c i.ref.params
 | .objTyp=>bothF (Va c i.ref.ty) (Va c (Xu i.ref.cls))
 | .objParams=>bothF (Xe c i.ref.params) (Va c (Xu i.ref.cls))
 | .void=>voidF m
 | .give=>giveF c m
 | .layObj=>U1 m (Xu i.ref.cls)
 | .layTyp=>Vw m i.ref.ty
def Vj (f:FuncId) (bc:Nat):Value:=.func (.func f) #[] #[pt bc]
def fnV (f:FuncId):Value:=.func (.func f) #[] #[]
def AcAt (w:World) (v:Value) (bc:Nat) (sv:Value):Ac→Prop
 | .nil=>v=.nilFunc
 | .take l=>v=Vj 249 bc∧w.cell? ⟨bc,0,none⟩=some sv∧Yu w sv l
 | .lay t=>v=Vj 251 bc∧∀ j z,(tyV t)[j]?=some z→w.cell? ⟨bc,0+j,none⟩=some z
 | .kind ks=>v=Vj 255 bc∧w.cell? ⟨bc,0,none⟩=some sv∧IntsAt w sv ks
 | .any=>v=fnV 146
 | .again=>v=fnV 147
 | .load=>v=fnV 144
 | .store=>v=fnV 145
 | .obj=>v=fnV 150
 | .typ=>v=fnV 153
 | .params=>v=fnV 155
 | .objTyp=>v=fnV 152
 | .objParams=>v=fnV 154
 | .void=>v=fnV 156
 | .give=>v=fnV 157
 | .layObj=>v=fnV 149
 | .layTyp=>v=fnV 151
def isFnV:Value→Bool
 | .nilFunc=>false
 | _=>true
theorem ac_form {w:World} {v:Value} {bc:Nat} {sv:Value} {a:Ac} (h:AcAt w v bc sv a):(v=.nilFunc∧a=.nil)∨((∃ f fi ca,v=.func f fi ca)∧a≠.nil):=by
 cases a<;>first | exact .inl ⟨h,rfl⟩ | exact .inr ⟨⟨_,_,_,h⟩,by simp⟩ | exact .inr ⟨⟨_,_,_,h.1⟩,by simp⟩
theorem ac_val {w:World} {v:Value} {bc:Nat} {sv:Value} {a:Ac} (h:AcAt w v bc sv a):v=.nilFunc∨∃ f fi ca,v=.func f fi ca:=(ac_form h).imp (·.1) (·.1)
theorem ac_one {w:World} {v:Value} {bc:Nat} {sv:Value} {a:Ac} (h:AcAt w v bc sv a):v.oneCell'=true:=by
 rcases ac_val h with rfl | ⟨f,fi,ca,rfl⟩<;>rfl
theorem ac_no {w:World} {v:Value} {bc:Nat} {sv:Value} {a:Ac} (h:AcAt w v bc sv a) (hn:isFnV v=false):a=.nil:=by
 rcases ac_form h with ⟨_,e⟩ | ⟨⟨f,fi,ca,rfl⟩,_⟩
 ·exact e
 ·cases hn
theorem ac_yes {w:World} {v:Value} {bc:Nat} {sv:Value} {a:Ac} (h:AcAt w v bc sv a) (hn:isFnV v=true):a≠.nil:=by
 rcases ac_form h with ⟨rfl,_⟩ | ⟨_,e⟩
 ·cases hn
 ·exact e
theorem eqF1 (w:World) (d:Nat):(Op.equalIn (d+1) 260 .nilFunc .nilFunc).run Tryz.prog w=.ok true w:=by simp [Op.equalIn,run_underlying Tryz.underlying260]
theorem eqF2 (w:World) (d:Nat) (f:Fn) (fi ca:Array Value):(Op.equalIn (d+1) 260 (.func f fi ca) .nilFunc).run Tryz.prog w=.ok false w:=by simp [Op.equalIn,run_underlying Tryz.underlying260]
theorem Ex_neqF {n:Nat} {E:Env} {w0:World} {F:List Nat} {H:Hp} {R:Asr} {t':TypeId} {x:Operand} {v:Value} (hx:ev E x=some v) (hv:v=.nilFunc∨∃ f fi ca,v=.func f fi ca):Ex Tryz.prog n E w0 F H R (.binOp .neq 260 x (.const .nilFunc) t') (.bool (isFnV v)):=⟨fun w _ a ha _ _ _ _ _=>by
 simp only [execOp];rw [ha.eval hx,show a.eval (.const .nilFunc)=.nilFunc from rfl];rcases hv with rfl | ⟨f,fi,ca,rfl⟩
 ·have h1:(Op.equal 260 .nilFunc .nilFunc).run Tryz.prog w=.ok true w:=eqF1 w 9999;simp [eqGuard,binOp,h1,isFnV]
 ·have h1:(Op.equal 260 (.func f fi ca) .nilFunc).run Tryz.prog w=.ok false w:=eqF2 w 9999 f fi ca;simp [eqGuard,binOp,h1,isFnV]⟩
theorem act_any (u:World) (b:Nat) (x:WkX) (i:Ins) (pv:Value) (hpv:Yu u pv i.ref.params) {w:World} {v:Value} {bc:Nat} {sv:Value} {a:Ac} (h:AcAt w v bc sv a) (hn:a≠.nil) (hin:a=.load∨a=.store→∃ j:Nat,i.n=j∧(j:Int)<x.m.locals) :
  ∃ f cap,v=.func (.func f) #[] cap.toArray∧IsFn Tryz.prog f∧∀ k,WkOk x k→StepP f (.agg (Wx i pv).toArray::cap) u b x k (acF x.c x.m i a) (fun w=>∀ w',Fr (b::(wkA x k).S) w w'→AcAt w' v bc sv a):=by
 have hA:∀ w',Below u.heap.size u w'→Yu w' pv i.ref.params:=fun w' hb=>hpv.mono hb;cases a with
 | nil=>exact absurd rfl hn
 | take l=>exact ⟨249,[pt bc],h.1,fn249,fun k hk w hu hF hs hT=>takec1_at u b bc x k i pv sv l hk w hu hF hs fun w' hf=>(hT w' hf).2⟩
 | lay t=>exact ⟨251,[pt bc],h.1,fn251,fun k hk w hu hF hs hT=>layc1_at u b bc x k i pv t hk w hu hF hs fun w' hf=>(hT w' hf).2⟩
 | kind ks=>exact ⟨255,[pt bc],h.1,fn255,fun k hk w hu hF hs hT=>takeKindc1_at u b bc x k i pv sv ks hk w hu hF hs fun w' hf=>(hT w' hf).2⟩
 | any=>exact ⟨146,[],h,fn146,fun k hk w hu hF hs _=>takeAny_any u b x k i pv hk w hu hF hs⟩
 | again=>exact ⟨147,[],h,fn147,fun k hk w hu hF hs _=>layAgain_any u b x k i pv hk w hu hF hs⟩
 | load =>
  obtain ⟨j,hj,hl⟩:=hin (by simp);exact ⟨144,[],h,fn144,fun k hk w hu hF hs _=>layLocal_any u b x k i pv j hj (by have:=hk.lo;omega) hk w hu hF hs⟩
 | store =>
  obtain ⟨j,hj,hl⟩:=hin (by simp);exact ⟨145,[],h,fn145,fun k hk w hu hF hs _=>takeIntoLocal_any u b x k i pv j hj (by have:=hk.lo;omega) hk w hu hF hs⟩
 | obj=>exact ⟨150,[],h,fn150,fun k hk w hu hF hs _=>P7 u b x k i pv hk w hu hF hs⟩
 | typ=>exact ⟨153,[],h,fn153,fun k hk w hu hF hs _=>takeType_any u b x k i pv hk w hu hF hs⟩
 | params=>exact ⟨155,[],h,fn155,fun k hk w hu hF hs _=>takeParams_any u b x k i pv hk hA w hu hF hs⟩
 | objTyp=>exact ⟨152,[],h,fn152,fun k hk w hu hF hs _=>takeObjectAndType_any u b x k i pv hk w hu hF hs⟩
 | objParams=>exact ⟨154,[],h,fn154,fun k hk w hu hF hs _=>No u b x k i pv hk hA w hu hF hs⟩
 | void=>exact ⟨156,[],h,fn156,fun k hk w hu hF hs _=>takeNothingToGive_any u b x k i pv hk w hu hF hs⟩
 | give=>exact ⟨157,[],h,fn157,fun k hk w hu hF hs _=>takeWhatIsGiven_any u b x k i pv hk w hu hF hs⟩
 | layObj=>exact ⟨149,[],h,fn149,fun k hk w hu hF hs _=>layObject_any u b x k i pv hk w hu hF hs⟩
 | layTyp=>exact ⟨151,[],h,fn151,fun k hk w hu hF hs _=>layType_any u b x k i pv hk w hu hF hs⟩
theorem StepP.to {f:FuncId} {args:List Value} {u:World} {b:Nat} {x:WkX} {k:WkM} {g:St→Option St} {T:World→Prop} (h:StepP f args u b x k g T) {pos:Nat} (hp:k.pos=pos) :
  ∀ w,Below u.heap.size u w→(∀ y ∈ b::(wkA x k).S,u.heap.size≤y)→Sat w (b::(wkA x k).S) [(b,wkC x k)] (wkA x k) w→T w→Calls Tryz.prog f (pt b::args).toArray w (RxZ b w (wkA x k) (okW x k g) (Vp x.n pos) (g (Vl k)=none)):=by subst hp;exact h
theorem rx_at {P:Program} {f:FuncId} {args:Array Value} {u:World} {b:Nat} {cs:List Value} {Rin:Asr} {ok:Value→List Value→Asr→Prop} {n pos pos':Nat} {may:Prop} (h:RxP P f args u b cs Rin ok (Vp n pos) may) (e:pos=pos'):RxP P f args u b cs Rin ok (Vp n pos') may:=e ▸ h
theorem fr_then {w0 w w2:World} {b:Nat} {S:List Nat} {H:Hp} {R:Asr} (hs:Sat w0 (b::S) H R w) (hf:Fr (b::R.S) w w2):Fr (b::S) w0 w2 :=
 hs.low.trans hf fun y hy=>by
  rcases List.mem_cons.1 hy with rfl | hy
  ·exact .inl List.mem_cons_self
  ·exact (hs.rhi y hy).1
def goF (c:Cl) (m:Me) (i:Ins) (goes:Bool) (s:St):Option St:=if goes then Vf c m s.st i.n s else some s
def doG (c:Cl) (m:Me) (i:Ins) (a1 a2:Ac) (goes ends:Bool) (s:St):Option St:=(((acF c m i a1 s).bind (acF c m i a2)).bind (goF c m i goes)).map fun s=>{ s with alive := !ends }
theorem wk_one {x:WkX} {k:WkM} {w:World} (h:(wkA x k).A w):([k.lv,k.sv]:List Value).all (·.oneCell')=true:=by
 obtain ⟨p,n,c,e1⟩:=ls_know h.2.1.1;obtain ⟨p',n',c',e2⟩:=ls_know h.2.1.2.1;rw [e1,e2];rfl
section
variable {c:Cl} {m:Me} {i:Ins} {a1 a2:Ac} {goes ends:Bool} {s s1 s2 s3:St}
theorem do_n1 (h:acF c m i a1 s=none):doG c m i a1 a2 goes ends s=none:=by unfold doG;rw [h];rfl
theorem do_n2 (h:acF c m i a1 s=some s1) (h2:acF c m i a2 s1=none):doG c m i a1 a2 goes ends s=none:=by
 unfold doG;rw [h];show (((acF c m i a2 s1).bind _).map _)=none;rw [h2];rfl
theorem do_n3 (h:acF c m i a1 s=some s1) (h2:acF c m i a2 s1=some s2) (h3:goF c m i goes s2=none):doG c m i a1 a2 goes ends s=none:=by
 unfold doG;rw [h];show (((acF c m i a2 s1).bind _).map _)=none;rw [h2];show ((goF c m i goes s2).map _)=none;rw [h3];rfl
theorem do_yes (h:acF c m i a1 s=some s1) (h2:acF c m i a2 s1=some s2) (h3:goF c m i goes s2=some s3):doG c m i a1 a2 goes ends s=some { s3 with alive := !ends }:=by
 unfold doG;rw [h];show (((acF c m i a2 s1).bind _).map _)=_;rw [h2];show ((goF c m i goes s2).map _)=_;rw [h3];rfl
end
set_option maxRecDepth 2000 in
theorem do_any (u:World) (b:Nat) (x:WkX) (k:WkM) (hG:WkG u x) (hK:WkOk x k) (i:Ins) (pv:Value) (hpv:Yu u pv i.ref.params) (tv lv s1v s2v:Value) (b1c b2c:Nat) (a1 a2:Ac) (goes ends:Bool) (hin:∀ a,a=a1∨a=a2→a=.load∨a=.store→∃ j:Nat,i.n=j∧(j:Int)<x.m.locals) :
  StepP 162 [.agg [tv,lv,.bool goes,.bool ends].toArray,.agg (Wx i pv).toArray] u b x k (doG x.c x.m i a1 a2 goes ends) (fun w=>∀ w',Fr (b::(wkA x k).S) w w'→AcAt w' tv b1c s1v a1∧AcAt w' lv b2c s2v a2):=by
 intro w hu hF hs0 hT;have hT1:=(hT w (Fr.refl _ _)).1;have hT2:=(hT w (Fr.refl _ _)).2;replace hT:Hid _:=hT;replace hin:Hid _:=hin;have h1v:([tv,lv,.bool goes,.bool ends]:List Value).all (·.oneCell')=true:=by simp only [List.all_cons,List.all_nil,ac_one hT1,ac_one hT2,Bool.and_true,Bool.true_and];rfl
 obtain ⟨pp,cp,rfl, -⟩:=id hpv.shape;replace hpv:Hid _:=hpv;have hOpen:=Yz (Z:=RxZ b w (wkA x k) (okW x k (doG x.c x.m i a1 a2 goes ends)) (Vp x.n k.pos) (doG x.c x.m i a1 a2 goes ends (Vl k)=none)) (hS:=hs0) (args:=[pt b,.agg [tv,lv,.bool goes,.bool ends].toArray,.agg (Wx i (.slice pp i.ref.params.length cp)).toArray]) Tryz.func162 rfl Tryz.ntmps162;refine hOpen ?_;clear hOpen;refine Zg (Zb (Y2 J J ?_));intro b1 hb1;refine Y2 J J ?_;intro b2 hb2;refine Ze (Zc (Sg (Y:=WkM) (fun k1:WkM=>[(0,pt b),(4,pt b1),(5,pt b2)]) (fun k1:WkM=>[(b2,Wx i (.slice pp i.ref.params.length cp)),(b1,[tv,lv,.bool goes,.bool ends]),(b,wkC x k1)]) (fun k1:WkM=>wkA x k1) (fun k1:WkM=>WkOk x k1∧k1.pos=k.pos∧Hid (acF x.c x.m i a1 (Vl k)=some (Vl k1))) ?_ ?_))
 ·skip
  refine Zg (Zb (Za J (Zh (ff J) J) (Za J (Zj (t1 J) J (Zi 1 J J)) (Za J (Ex_neqF J (ac_val hT1)) (Ze (Zc (W4 J ?_ ?_)))))))
  ·intro c1;obtain ⟨f1,cap1,hv1,hf1,hst1⟩:=act_any u b x i _ hpv.out hT1 (ac_yes hT1 c1) (hin.out a1 (.inl rfl));refine Zb (Za J (Zh (ff J) J) (Za J (Zj (t1 J) J (Zi 1 J J)) (Za J (Zd J) (Za J (Zv (tn J) J 0 J J) ?_))));refine WL_callT hf1 J (show some tv=some _ from congrArg some hv1) J 2 J hu hF (hst1 k hK) (fun w' hs w2 hf=>(hT.out w2 (fr_then hs hf)).1) (fun hm=>by (repeat refine Wh ?_);exact Wm (do_n1 hm)) ?_;rintro v cs' R' ⟨rfl,kA,rfl,hRA,hkA,hpA,htA⟩;refine Zz hRA (Ze ?_);refine Wj (kA) 0 J J ⟨J,J,J,trivial⟩ ?_;exact ⟨hkA,hpA,htA⟩
  ·intro c1;have hno1:=ac_no hT1 c1;refine Zo ?_;refine Wj (k) 0 J J ⟨J,J,J,trivial⟩ ?_;exact ⟨hK,J,by subst hno1;exact J⟩
 intro k1 hJ;obtain ⟨hk1,hp1,hs1⟩:=hJ;refine Sg (Y:=WkM) (fun k2:WkM=>[(0,pt b),(4,pt b1),(5,pt b2)]) (fun k2:WkM=>[(b2,Wx i (.slice pp i.ref.params.length cp)),(b1,[tv,lv,.bool goes,.bool ends]),(b,wkC x k2)]) (fun k2:WkM=>wkA x k2) (fun k2:WkM=>WkOk x k2∧k2.pos=k.pos∧Hid (acF x.c x.m i a2 (Vl k1)=some (Vl k2))) ?_ ?_
 ·skip
  refine Zg (Zb (Za J (Zh (ff J) J) (Za J (Zj (t1 J) J (Zi 1 J J)) (Za J (Ex_neqF J (ac_val hT2)) (Ze (Zc (W4 J ?_ ?_)))))))
  ·intro c2;obtain ⟨f2,cap2,hv2,hf2,hst2⟩:=act_any u b x i _ hpv.out hT2 (ac_yes hT2 c2) (hin.out a2 (.inr rfl));refine Zb (Za J (Zh (ff J) J) (Za J (Zj (t1 J) J (Zi 1 J J)) (Za J (Zd J) (Za J (Zv (tn J) J 0 J J) ?_))));refine WL_callT hf2 J (show some lv=some _ from congrArg some hv2) J 2 J hu hF ((hst2 k1 hk1).to hp1) (fun w' hs w2 hf=>(hT.out w2 (fr_then hs hf)).2) (fun hm=>by (repeat refine Wh ?_);exact Wm (do_n2 hs1.out hm)) ?_;rintro v cs' R' ⟨rfl,kB,rfl,hRB,hkB,hpB,htB⟩;refine Zz hRB (Ze ?_);refine Wj (kB) 0 J J ⟨J,J,J,trivial⟩ ?_;exact ⟨hkB,hpB.trans hp1,htB⟩
  ·intro c2;have hno2:=ac_no hT2 c2;refine Zo ?_;refine Wj (k1) 0 J J ⟨J,J,J,trivial⟩ ?_;exact ⟨hk1,hp1,by subst hno2;exact J⟩
 intro k2 hJ;obtain ⟨hk2,hp2,hs2⟩:=hJ;refine Zg (Zg (Zb (Za J (Zh (ff J) J) (Za J (Zj (t1 J) J (Zi 1 J J)) (Ze (Zc (W4 J ?_ ?_)))))))
 ·intro c3;refine Th (p:=([k2.lv,k2.sv]:List Value).all (·.oneCell')=true) (fun w hs=>wk_one hs.res) ?_;intro hone;refine Xt (Asr.addNone _) (Qd X2 (Z4 0 J (by kernel_rfl) J lN (Zd J) ?_));refine Z4 1 J (by kernel_rfl) J lN (Zd J) ?_;refine Z4 2 J (by kernel_rfl) J lN (Zw J) ?_;refine Z4 3 J (by kernel_rfl) J lN (Zh (ff J) J) ?_;refine Z4 4 J (by kernel_rfl) J lN (Yj (tn J) J ((row_mine 2 J 2 J)) J) ?_;refine Z4 5 J (by kernel_rfl) J lN (Zh (ff J) J) ?_;refine Z4 6 J (by kernel_rfl) J lN (Zj (t1 J) J (Zi 0 J J)) ?_;refine Xh 7 (by kernel_rfl) J ?_;refine Y8 fn264 J J 2 J hu hF (rx_at (mustFitAt_any u b x k2 hG hk2 k2.st k2.sv i.n Asr.none (by have:=hk2.st;have:=hk2.bs;omega) hone (fun gr' w' _ ha=>tyL_ls ha.1.2.1.2.1)) hp2) (fun hm=>by (repeat refine Wh ?_);exact Wm (do_n3 hs1.out hs2.out ((if_pos c3).trans hm))) ?_;rintro v cs' R' ⟨rfl,gr',rfl,hR,hmf⟩;refine Zz (hR.trans (Asr.fst _ _)) ?_;refine Ze (Y1 lN (W8 (by kernel_rfl) ?_));refine Zc (Zb (Za J (Zd J) (Za J (Zh (ff J) J) (Za J (Zj (t1 J) J (Zi 1 J J)) (Za J (Xv J) (Za J (Zw J) (Za J (Zh (ff J) J) (Yy (t1 J) J J 2 J J J J (Ze (W5 J 2 J ?_))))))))));exact ⟨J,{ k2 with gr:=gr',alive := !ends },J,.refl _,⟨hk2.lo,hk2.st,hk2.bs,hk2.bl⟩,hp2,do_yes hs1.out hs2.out ((if_pos c3).trans hmf)⟩
 ·intro c3;refine Zo (Zc (Zb (Za J (Zd J) (Za J (Zh (ff J) J) (Za J (Zj (t1 J) J (Zi 1 J J)) (Za J (Xv J) (Za J (Zw J) (Za J (Zh (ff J) J) (Yy (t1 J) J J 2 J J J J (Ze (W5 J 2 J ?_)))))))))));exact ⟨J,{ k2 with alive := !ends },J,.refl _,⟨hk2.lo,hk2.st,hk2.bs,hk2.bl⟩,hp2,do_yes hs1.out hs2.out (if_neg (by rw [c3];decide))⟩
end
end Go.Proofs.YtpofmnfkdkmieaaGreat
