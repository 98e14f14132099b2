/- What is proved here: the document's own Checker: an instructi -/
import Derived.Test.YtpofmnfkdkmieaaGreatQ31
import Derived.Test.YtpofmnfkdkmieaaGreatQ15
import Derived.StillTail
set_option linter.unusedVariables false
set_option linter.unusedSimpArgs false
namespace Go.Proofs.YtpofmnfkdkmieaaGreat
section
open Go Go.RowKit At E
def Pi (b:Nat) (cs:List Value):Asr:=⟨[b],fun w=>∃ t,w.heap[b]?=some (.cells cs.toArray t (0,0)),fun w w' h hk=>by rw [hk b List.mem_cons_self];exact h⟩
theorem Sat.give {w0 w:World} {F:List Nat} {H:Hp} {R:Asr} {b:Nat} {cs:List Value} (hs:Sat w0 F ((b,cs)::H) R w):Sat w0 F H (R.and (Pi b cs)) w:=by
 have hap:=hs.apart;simp only [List.map_cons,List.nodup_cons] at hap;refine ⟨hs.low,fun p hp=>hs.own p (List.mem_cons_of_mem _ hp),fun p hp=>hs.hi p (List.mem_cons_of_mem _ hp),hap.2,⟨hs.res,hs.own (b,cs) List.mem_cons_self,?_⟩,?_,?_⟩
 ·intro k hk hb;simp only [Pi,List.mem_singleton] at hb;subst hb;exact hs.rapart _ List.mem_cons_self hk
 ·intro k hk;rcases List.mem_append.1 hk with hk | hk
  ·exact hs.rhi k hk
  ·simp only [Pi,List.mem_singleton] at hk;subst hk;exact ⟨hs.hi _ List.mem_cons_self,hs.lt List.mem_cons_self⟩
 ·intro p hp hk;rcases List.mem_append.1 hk with hk | hk
  ·exact hs.rapart p (List.mem_cons_of_mem _ hp) hk
  ·simp only [Pi,List.mem_singleton] at hk;exact hap.1 (hk ▸ List.mem_map_of_mem hp)
theorem Lh {P:Program} {n:Nat} {E:Env} {w0:World} {F:List Nat} {H:Hp} {R:Asr} {fn:Func} {Z:Ending→World→Prop} {κ:List Kf} {all:Array Oper} {l:List Oper} {b:Nat} {cs:List Value} (h:WL P n all l E w0 F H (R.and (Pi b cs)) fn Z κ):WL P n all l E w0 F ((b,cs)::H) R fn Z κ :=
 ⟨fun w hs a ha=>h.go w (Sat.give hs) a ha⟩
theorem one_ty {w:World} {b:Nat} {t:Ty} (ht:Rz t) (h:(Pi b (tyV t)).A w):Yu w (.slice (some ⟨b,0,none⟩) 1 1) [t]:=by
 obtain ⟨e,he⟩:=h;refine ⟨some ⟨b,0,none⟩,1,J,⟨by show 1≤1048576;decide,by show 1≤1;decide⟩,fun i x hi=>?_⟩;have hi0:i=0:=by have:=Wa hi;simp at this;omega
 subst hi0;cases hi
 have hlt:b<w.heap.size:=by
  rcases Nat.lt_or_ge b w.heap.size with h' | h'
  ·exact h'
  ·rw [Array.getElem?_eq_none h'] at he;cases he
 refine ⟨b,0,tyV t,J,hlt,⟨J,ht⟩,fun j v hj=>?_⟩;simp only [World.cell?,he]
 simpa using hj
theorem hand_all {x:CkX} {k1 kn:CkM} {c:Cl} {m:Me} {pos:Int} {n:Nat} (h:Go1 x k1 kn (41*n) 0 (Vn c m pos (m.handlers.take n))) (hl:m.handlers.length≤10) (hn:n≤m.handlers.length) (he:¬ n<m.handlers.length∨kn.bad=true):Go1 x k1 kn 420 0 (Vn c m pos m.handlers):=by
 rcases he with he | he
 ·rw [List.take_of_length_le (by omega)] at h;exact h.mono (by omega) (Nat.le_refl _)
 ·refine ((h.dead (g:=Vn c m pos (m.handlers.drop n)) he).as (fun s _=>?_)).mono (by omega) (Nat.le_refl _);rw [← handFapp,List.take_append_drop]
theorem hand_one {x:CkX} {kn ka k2:CkM} {c:Cl} {m:Me} {pos:Int} {h:Hd} {cl:ByteArray} (hr:h.lo≤pos∧pos<h.hi) (hc:cl=N7 h) (ga:Go1 x kn ka 1 0 (fun s=>grF s (Sb c (Xu cl,Xu thS) s.gr))) (gb:Go1 x ka k2 40 0 (Vf c m [Xu cl] h.pos)):Go1 x kn k2 41 0 (Uu c m pos h):=by
 subst hc;refine (ga.then gb).as fun s _=>?_;unfold Uu;rw [if_pos hr]
theorem hand_bad {x:CkX} {kn ka:CkM} {c:Cl} {m:Me} {pos:Int} {h:Hd} {cl:ByteArray} (hr:h.lo≤pos∧pos<h.hi) (hc:cl=N7 h) (ga:Go1 x kn ka 1 0 (fun s=>grF s (Sb c (Xu cl,Xu thS) s.gr))) (hb:ka.bad=true):Go1 x kn ka 41 0 (Uu c m pos h):=by
 subst hc;refine ((ga.dead (g:=Vf c m [Xu (N7 h)] h.pos) hb).mono (by omega) (Nat.le_refl _)).as fun s _=>?_;unfold Uu;rw [if_pos hr]
theorem hand_next {x:CkX} {k1 kn k2:CkM} {c:Cl} {m:Me} {pos:Int} {n:Nat} {h:Hd} (g:Go1 x k1 kn (41*n) 0 (Vn c m pos (m.handlers.take n))) (g1:Go1 x kn k2 41 0 (Uu c m pos h)) (hh:m.handlers[n]?=some h):Go1 x k1 k2 (41*(n+1)) 0 (Vn c m pos (m.handlers.take (n+1))) :=
 ((g.then g1).as fun s _=>(hand_snoc hh s).symm).mono (by omega) (Nat.le_refl _)
theorem last_yes {a n:Nat} {al:Bool} (h:a<n):true=(decide (a<n) || !al):=by rw [decide_eq_true h];rfl
theorem last_no {a n:Nat} {al:Bool} (h:¬ a<n):(!al)=(decide (a<n) || !al):=by rw [decide_eq_false h];rfl
set_option maxHeartbeats 2000000 in
theorem step_any (u:World) (b:Nat) (x:CkX) (k:CkM) (pos:Nat) (i:Ins) (hk:CkOk x k) (hb:k.bad=false) (hm:Yt x.m=true) (hp:MeParts u x.m x.pv x.cv x.hv x.rv) (hi:x.m.code[pos]?=some i) (hst:k.st.length≤20) (hn:k.gr.length≤3900000) :
  RuP Tryz.prog 108 #[pt b,iN pos] u b (ckC x k) (ckA u k) (okF u x k (R5 x.c x.m pos i) 600 30):=by
 intro w hu hF hs0;obtain ⟨ph,ch,hhv,hhl,hhr⟩:=hp.hs.is;obtain ⟨pc,cc,hcv,hcl,hcr⟩:=hp.cs.is;obtain ⟨c,fv,mv,m,pv,cv,hv,rv⟩:=x;dsimp only at hhv hhl hhr hcv hcl hcr hi;subst hhv;subst hcv;obtain ⟨hb1,hb2,hb3,hb4,hb5,hb6, -, -⟩:=Nx hm;dsimp only at hb1 hb2 hb3 hb4 hb5 hb6;have hpos:pos<m.code.length:=Wa hi;replace hhr:Hid _:=hhr;replace hcr:Hid _:=hcr;refine Yz (hs0) (args:=[pt b,iN pos]) Tryz.func108 J Tryz.ntmps108 ?_;refine Zg (Zb (Za J (Zd J) (Za J (Zd J) ?_)));refine Ye fn169 J J 0 J hu hF (framed_any u b _ k pos hk hb hm hp (by omega)) ?_;rintro v cs' R' ⟨rfl,k1,rfl,hR,hk1,hg1,hst1,hs1⟩;refine Zz hR ?_;have G1:=Go1.mk hk1 hg1 hst1 hs1;refine Ze (Zc (Sg (Y:=CkM) (fun kh:CkM=>[(0,pt b),(1,iN pos)]) (fun kh:CkM=>[(b,ckC ⟨c,fv,mv,m,pv,.slice pc m.code.length cc,.slice ph m.handlers.length ch,rv⟩ kh)]) (fun kh:CkM=>ckA u kh) (fun kh:CkM=>Go1 ⟨c,fv,mv,m,pv,.slice pc m.code.length cc,.slice ph m.handlers.length ch,rv⟩ k1 kh 420 0 (Vn c m pos m.handlers)) ?_ ?_))
 ·skip
  refine Zg (Zb (Za J (Zf J) (Ze (Zc (Zn ?_)))));refine Yf (Yg (X:=HdL) (fun z=>[(0,pt b),(1,iN pos),(4,iN z.n)]) _ _ (fun z=>[(b,ckC ⟨c,fv,mv,m,pv,.slice pc m.code.length cc,.slice ph m.handlers.length ch,rv⟩ z.k)]) (fun z=>ckA u z.k) (fun z=>z.n≤m.handlers.length∧Go1 ⟨c,fv,mv,m,pv,.slice pc m.code.length cc,.slice ph m.handlers.length ch,rv⟩ k1 z.k (41*z.n) 0 (Vn c m pos (m.handlers.take z.n))) (fun z=>m.handlers.length - z.n) (⟨0,k1⟩) (⟨Nat.zero_le _,(Go1.refl hk1).as (fun s _=>J)⟩) ?_) ⟨J,J,J,trivial⟩;intro z hI;obtain ⟨n,kn⟩:=z;obtain ⟨hI1,hI2⟩:=hI;dsimp only at hI1 hI2;have hnn:(HdL.mk n kn).n=n:=rfl;refine Zg (Zg (Zb (Za J (Zd J) (Za J (Zd J) (Za J (Zw J) (Za J (Zh (ff J) J) (Za J (Zh (ff J) J) (Za J (Zj (t1 J) J (Zi 0 J J)) (Za J (Zx (ts J) J) (Za J (Yi J J) (Za J (Zd J) (Z9 J J J ?_ ?_))))))))))))
  ·intro h1;refine Zk J J J (Zd J) (Zk J J J (Zw J) (Zk J J J (Zh (ff J) J) (Zk J J J (Zj (t1 J) J (Zi 0 J J)) (Zk J J J (Xv J) (Za J (Zp J J) (Ze (Zc (W4 J ?_ ?_))))))))
   ·intro c1;have hbn:kn.bad=false:=by simpa using c1
    obtain ⟨hd,hh⟩:∃ h,m.handlers[n]?=some h:=⟨_,List.getElem?_eq_getElem (by omega)⟩;obtain ⟨bb,oo,rr,hph,hbb,⟨hrw,hdok⟩,hcc⟩:=hhr.out n hd hh;subst hph;subst hrw;have hg2:=hI2.gr;refine Zo (Zc (Zg (Zn (Zg (Zb (Za J (Zd J) (Za J (Zw J) (Za J (Zh (ff J) J) (Za J (Zh (ff J) J) (Za J (Zj (t1 J) J (Zi 0 J J)) (Za J (Zd J) (Za J (Yo (ts J) J J ?_) ?_))))))))))))
    ·omega
    refine Za J (Yj (tn J) J (U6 hu hF hbb hcc) J) (Yk J (tz J) ?_);intro b1 hb1;refine Z2 (tn J) J J 0 J J J J (Ze (Zc (Zg (Zg (Zb (Za J (Zd J) (Za J (Zh (ff J) J) (Za J (Zj (t1 J) J (Zi 0 J J)) (Za J (Yi J J) (Za J (Zd J) (Z9 J J J ?_ ?_)))))))))))
    ·intro h2;refine Zm J J J (Zm J J J (Zm J J J (Zm J J J (Za J (Zp J J) (Ze (Zc (Yh J (Yd (Yc (Yb (Zc (Zb (Za J (Zd J) ?_)))))))))))));refine Za J (Yn J J ?_) ?_;omega;refine Za J (Zf J) (Ze ?_);refine Z1 (⟨n+1,kn⟩) ?_ (⟨by show n+1≤_;omega,hand_next hI2 ((Go1.refl hI2.ok).mono (by omega) (Nat.le_refl _) |>.as (fun s _=>(hand_no (by omega) s).symm)) hh⟩) 1 rfl (rfl) ⟨rfl,rfl,rfl,trivial⟩;show m.handlers.length - (n+1)<m.handlers.length - n;omega
    ·intro h2;refine Zk J J J (Zd J) (Zk J J J (Zh (ff J) J) (Zk J J J (Zj (t1 J) J (Zi 0 J J)) (Zk J J J (Rq J J) (Za J (Zs J J) (Ze (Zc (Zu J ?_ ?_)))))))
     ·intro c2;refine Yd (Yc (Yb (Zc (Zb (Za J (Zd J) ?_)))));refine Za J (Yn J J ?_) ?_;omega;refine Za J (Zf J) (Ze ?_);refine Z1 (⟨n+1,kn⟩) ?_ (⟨by show n+1≤_;omega,hand_next hI2 ((Go1.refl hI2.ok).mono (by omega) (Nat.le_refl _) |>.as (fun s _=>(hand_no (by omega) s).symm)) hh⟩) 1 rfl (rfl) ⟨rfl,rfl,rfl,trivial⟩;show m.handlers.length - (n+1)<m.handlers.length - n;omega
     ·intro c2;refine Zo (Zc (Zg (Zb (Za J (Zh (ff J) J) (Za J (Zj (t1 J) J (Zi 0 J J)) (Yq fn107 J J (fun w' _=>Vd _ w') ?_))))));refine Yk J (tz J) ?_;intro b2 hb2;refine Z2 (tn J) J J 0 J J J J (Ze (Zc (Sg (Y:=ByteArray) (fun cl:ByteArray=>[(0,pt b),(1,iN pos),(4,iN n),(5,pt b1),(6,pt b2)]) (fun cl:ByteArray=>[(b2,tyV (Xu cl)),(b1,hdV hd),(b,ckC ⟨c,fv,mv,m,pv,.slice pc m.code.length cc,.slice (some ⟨bb,oo,none⟩) m.handlers.length ch,rv⟩ kn)]) (fun cl:ByteArray=>ckA u kn) (fun cl:ByteArray=>cl=N7 hd) ?_ ?_)))
      ·skip
       refine Zg (Zb (Za J (Zh (ff J) J) (Za J (Zj (t1 J) J (Zi 1 J J)) (Za J (Y7 J J) (Ze (Zc (Zu J ?_ ?_)))))))
       ·intro c3;refine Zb (Yq fn107 J J (fun w' _=>Vd _ w') ?_);refine Z2 (tn J) J J 0 J J J J (Ze ?_);refine Wj (thS) 0 J J ⟨J,J,J,J,J,trivial⟩ ?_;exact (if_pos (show hd.cls=At.mt from c3)).symm
       ·intro c3;refine Zo ?_;refine Wj (hd.cls) 0 J J ⟨J,J,J,J,J,trivial⟩ ?_;exact (if_neg (show ¬ hd.cls=At.mt from c3)).symm
      intro cl hJ;have hcl9:=hJ;have hclo:X5 cl:=by subst hcl9;unfold N7;split;(unfold X5 thS;decide);exact hdok.2.2.2
      refine Zg (WC_holdK u Asr.none 2 J X2 (Z4 0 J (by kernel_rfl) J (fun _ hs=>Xd hs 2 J ((Asr.snd _ _).trans (Asr.addNone _)) J) (Zd J) ?_));refine Z4 1 J (by kernel_rfl) J (fun _ hs=>Xd hs 2 J ((Asr.snd _ _).trans (Asr.addNone _)) J) (Zv (tn J) J 0 J J) ?_;refine Xh 2 (by kernel_rfl) J ?_;refine Yq fn107 J J (fun w' _=>Vd _ w') ?_;refine Ze (Y1 (fun _ hs=>Xd hs 2 J ((Asr.snd _ _).trans (Asr.addNone _)) J) ?_);refine Xh 3 (by kernel_rfl) J ?_;refine Ye fn170 J J 2 J hu hF (fits_any u b _ kn (Xu cl) (Xu thS) false hI2.ok.srt (by omega)) ?_;rintro v cs' R' ⟨gr',gv',rfl,rfl,hR,hsr2,hl2,hm2⟩;refine Zz hR ?_;have GA:=hand_fit (gv':=gv') hI2.ok hbn rfl hsr2 hl2 hm2;refine Ze (Y1 (fun _ hs=>Xd hs 2 J ((Asr.snd _ _).trans (Asr.addNone _)) J) ?_);refine Xh 4 (by kernel_rfl) J ?_;refine Za J (Zf J) (Ze (Y1 (fun _ hs=>Xd hs 2 J ((Asr.snd _ _).trans (Asr.addNone _)) J) ?_));refine W8 (by kernel_rfl) ?_;refine Zc (Zg (Zb (Za J (Zd J) (Za J (Zd J) ?_))));refine Ye Ru J J 2 J hu hF (Vh u b _ _ _) ?_;rintro v cs' R' ⟨rfl,rfl,hR⟩;refine Zz hR ?_;refine Ze (Zc (Zg (Zb (Za J (Zd J) (Ze (Zc (W4 J ?_ ?_)))))))
      ·intro c4;refine Zb (Za J (Zd J) (Za J (Zh (ff J) J) (Za J (Zj (t1 J) J (Zi 1 J J)) (Za J (Zv (tn J) J 0 J J) (Wk J (ts J) (tz J) J J J J J ?_)))));intro b3 hb3;refine Lh ?_;refine Ye fn172 J J 2 J hu hF (meets_any u b _ { kn with gr:=gr',gv:=gv',bad:=kn.bad || !(Ul c false (Xu cl) (Xu thS)).isSome } (Pi b3 (tyV (Xu cl))) (.slice (some ⟨b3,0,none⟩) 1 1) [Xu cl] hd.pos GA.ok (by show (kn.bad || !(Ul c false (Xu cl) (Xu thS)).isSome)=false;rw [hbn,show (Ul c false (Xu cl) (Xu thS)).isSome=true from c4];rfl) hm hp (fun t ht=>by simp only [List.mem_singleton] at ht;subst ht;show ¬ (3:Int)=4;decide) (by show gr'.length≤3999000;omega) (fun w _ h=>one_ty ⟨by show Wc 3;unfold Wc;decide,hclo⟩ h.2.1)) ?_;rintro v cs' R' ⟨rfl,k2,rfl,hR,hk2,hg3,hst2,hs2⟩;refine Zz hR ?_;refine Ze (Zt (Zc (Zb (Za J (Zd J) ?_))));refine Za J (Yn J J ?_) ?_;omega;refine Za J (Zf J) (Ze ?_);refine Z1 (⟨n+1,k2⟩) ?_ (⟨by show n+1≤_;omega,hand_next hI2 (hand_one (by omega) hcl9 GA (Go1.mk hk2 hg3 hst2 hs2)) hh⟩) 2 rfl (rfl) ⟨rfl,rfl,rfl,trivial⟩;show m.handlers.length - (n+1)<m.handlers.length - n;omega
      ·intro c4;refine Zo (Zt (Zc (Zb (Za J (Zd J) ?_))));refine Za J (Yn J J ?_) ?_;omega;refine Za J (Zf J) (Ze ?_);refine Z1 (⟨n+1,{ kn with gr:=gr',gv:=gv',bad:=kn.bad || !(Ul c false (Xu cl) (Xu thS)).isSome }⟩) ?_ (⟨by show n+1≤_;omega,hand_next hI2 (hand_bad (by omega) hcl9 GA (by show (kn.bad || !(Ul c false (Xu cl) (Xu thS)).isSome)=true;rw [show (Ul c false (Xu cl) (Xu thS)).isSome=false from c4];simp)) hh⟩) 2 rfl (rfl) ⟨rfl,rfl,rfl,trivial⟩;show m.handlers.length - (n+1)<m.handlers.length - n;omega
   ·intro c1;refine Yd (Yc (Z5 (Yb (Wj kn 0 J J ⟨J,J,trivial⟩ ?_))));exact hand_all hI2 hb3 hI1 (by exact .inr (by simpa using c1))
  ·intro h1;refine Zm J J J (Zm J J J (Zm J J J (Zm J J J (Zm J J J (Za J (Zs J J) (Ze (Zc (Xn J (Yd (Yc (Z5 (Yb (Wj kn 0 J J ⟨J,J,trivial⟩ ?_)))))))))))));exact hand_all hI2 hb3 hI1 (by exact .inl (by omega))
 intro kh hJ;have G2:=hJ;have hg2:=G2.gr;have hs2:=G2.st;refine Zg (Zg (Zb (Za J (Zd J) (Za J (Zw J) (Za J (Zh (ff J) J) (Za J (Zj (t1 J) J (Zi 0 J J)) (Ze (Zc (W4 J ?_ ?_)))))))))
 ·intro c5;have hbh:=c5;refine Zr (Zl (Rk_end0r J 0 J ?_));exact (((((((G1.then G2).dead (g:=opF c m i) hbh).dead (g:=N8 c m i) hbh).dead (g:=endF i) hbh).dead (g:=N2 m pos) hbh).as (fun s _=>Mt s)).mono (by omega) (by omega)).okF
 ·intro c5;have hbh:=c5;refine Zo (Zc (Zg ?_));obtain ⟨bc,oc,rc,hpc,hbc,⟨ipv,hrc,hips,hio⟩,hcc⟩:=hcr.out pos i hi;subst hpc;subst hrc;obtain ⟨pp,cp,hipv, -, -⟩:=hips.shape;subst hipv;have hlen:=(G2.ok.ok _ (Xi hbh)).len;dsimp only at hlen;refine Zb (Za J (Zd J) (Za J (Zw J) (Za J (Zh (ff J) J) (Za J (Zh (ff J) J) (Za J (Zj (t1 J) J (Zi 0 J J)) (Za J (Zd J) (Za J (Yo (ts J) J J ?_) ?_)))))))
  ·omega
  refine Za J (Yj (tn J) J (U6 hu hF hbc hcc) J) (Yk J (tz J) ?_);intro b1 hb1;refine Z2 (tn J) J J 0 J J J J (Ze (Zc (Sg (Y:=CkM) (fun ko:CkM=>[(0,pt b),(1,iN pos),(8,pt b1)]) (fun ko:CkM=>[(b1,Wx i (.slice pp i.ref.params.length cp)),(b,ckC ⟨c,fv,mv,m,pv,.slice (some ⟨bc,oc,none⟩) m.code.length cc,.slice ph m.handlers.length ch,rv⟩ ko)]) (fun ko:CkM=>ckA u ko) (fun ko:CkM=>Go1 ⟨c,fv,mv,m,pv,.slice (some ⟨bc,oc,none⟩) m.code.length cc,.slice ph m.handlers.length ch,rv⟩ kh ko 10 2 (opF c m i)) ?_ ?_)))
  ·skip
   refine Zg (Zb (Za J (Zh (ff J) J) (Za J (Zj (t1 J) J (Zi 0 J J)) (Yq fn173 J J (fun w' _=>sort_any _ w') ?_))));refine Za J (Ug J J) (Ze (Zc (Zu J ?_ ?_)))
   ·intro c6;refine Zb (Za J (Zd J) (Za J (Zv (tn J) J 0 J J) ?_));obtain ⟨q1,q2,q3,q4⟩:=ins_named (me_ins hm hi) c6;refine Ye fn174 J J 1 J hu hF (named_any u b _ kh i (.slice pp i.ref.params.length cp) G2.ok q1 (by omega) (by omega) hips q2 q3 q4 hio) ?_;rintro v cs' R' ⟨rfl,k2,rfl,hR,hk2,hg3,hst2,hs2⟩;refine Zz hR ?_;refine Ze (Wj k2 0 J J ⟨J,J,J,trivial⟩ ?_);exact (Go1.mk hk2 hg3 hst2 hs2).mono (by omega) (by omega)
   ·intro c6;refine Zb (Za J (Zd J) (Za J (Zv (tn J) J 0 J J) ?_));obtain ⟨q1,q2⟩:=ins_plain (me_ins hm hi) c6;refine Ye fn175 J J 1 J hu hF (plain_any u b _ kh i (.slice pp i.ref.params.length cp) G2.ok q1 (by omega) (by omega) (fun ho=>⟨i.n.toNat,by have:=q2 ho;omega,by have h1:=q2 ho;have h2:=G2.ok.lo;dsimp only at h1 h2;omega⟩) (ty_not4 hb6)) ?_;rintro v cs' R' ⟨rfl,k2,rfl,hR,hk2,hg3,hst2,hs2⟩;refine Zz hR ?_;refine Ze (Wj k2 0 J J ⟨J,J,J,trivial⟩ ?_);exact (Go1.mk hk2 hg3 hst2 hs2).mono (by omega) (by omega)
  intro ko hJ;have G3:=hJ;have hg4:=G3.gr;refine Zg (Zg (Zb (Za J (Zd J) (Za J (Zw J) (Za J (Zh (ff J) J) (Za J (Zj (t1 J) J (Zi 1 J J)) (Ze (Zc (W4 J ?_ ?_)))))))))
  ·intro c7;refine Zr (Zl (Rk_end0r J 1 J ?_));exact (((((((G1.then G2).then G3).dead (g:=N8 c m i) c7).dead (g:=endF i) c7).dead (g:=N2 m pos) c7).as (fun s _=>Mt s)).mono (by omega) (by omega)).okF
  ·intro c7;refine Zo (Zc (Sg (Y:=CkM) (fun kg:CkM=>[(0,pt b),(1,iN pos),(8,pt b1)]) (fun kg:CkM=>[(b1,Wx i (.slice pp i.ref.params.length cp)),(b,ckC ⟨c,fv,mv,m,pv,.slice (some ⟨bc,oc,none⟩) m.code.length cc,.slice ph m.handlers.length ch,rv⟩ kg)]) (fun kg:CkM=>ckA u kg) (fun kg:CkM=>Go1 ⟨c,fv,mv,m,pv,.slice (some ⟨bc,oc,none⟩) m.code.length cc,.slice ph m.handlers.length ch,rv⟩ ko kg 40 0 (N8 c m i)) ?_ ?_))
   ·skip
    refine Zg (Zb (Za J (Zh (ff J) J) (Za J (Zj (t1 J) J (Zi 0 J J)) (Yq fn173 J J (fun w' _=>sort_any _ w') ?_))));refine Za J (Ya J J) (Ze (Zc (Zu J ?_ ?_)))
    ·intro c8;refine Lk 7 X2 (by kernel_rfl) ?_;refine Xs J (Zd J) (Xs J (Zh (ff J) J) (Xs J (Zj (t1 J) J (Zi 0 J J)) (Xs J (Zd J) (Xs J (Zw J) (Xs J (Zh (ff J) J) (Xs J (Zj (t1 J) J (Zi 1 J J)) (WS_nil ?_)))))));refine Zz (Asr.addNone _) ?_;refine Ye fn172 J J 1 J hu hF (meets_any u b _ ko Asr.none _ ko.st i.n G3.ok c7 hm hp (fun t ht=>((G3.ok.ok _ (Xi c7)).st t ht).2) (by omega) (fun w hb h=>Sy h.1.2.1 hb)) ?_;rintro v cs' R' ⟨rfl,k2,rfl,hR,hk2,hg3,hst2,hs2⟩;refine Zz hR ?_;refine Ze ?_;refine Wj (k2) 0 J J ⟨J,J,J,trivial⟩ ?_;exact (Go1.mk hk2 hg3 hst2 hs2).as (fun s hs=>by unfold N8;rw [if_pos c8];rw [Xi c7] at hs;cases hs;rfl)
    ·intro c8;refine Zo ?_;refine Wj (ko) 0 J J ⟨J,J,J,trivial⟩ ?_;exact ((Go1.refl G3.ok).mono (by omega) (by omega)).as (fun s _=>by unfold N8;rw [if_neg c8])
   intro kg hJ;have G4:=hJ;refine Sg (Y:=CkM) (fun ke:CkM=>[(0,pt b),(1,iN pos),(8,pt b1)]) (fun ke:CkM=>[(b1,Wx i (.slice pp i.ref.params.length cp)),(b,ckC ⟨c,fv,mv,m,pv,.slice (some ⟨bc,oc,none⟩) m.code.length cc,.slice ph m.handlers.length ch,rv⟩ ke)]) (fun ke:CkM=>ckA u ke) (fun ke:CkM=>Go1 ⟨c,fv,mv,m,pv,.slice (some ⟨bc,oc,none⟩) m.code.length cc,.slice ph m.handlers.length ch,rv⟩ kg ke 0 0 (endF i)) ?_ ?_
   ·skip
    refine Zg (Zb (Za J (Zh (ff J) J) (Za J (Zj (t1 J) J (Zi 0 J J)) (Za J (Ya J J) (Za J (Zd J) (Z9 J J J ?_ ?_))))))
    ·intro h3;refine Zm J J J (Zm J J J (Zm J J J (Zm J J J (W7 J J J (W7 J J J (W7 J J J (Zm J J J (Za J (Zp J J) (Ze (Zc (Yh J (Zb (Za J (Zd J) (Za J (Zw J) (Za J (Zh (ff J) J) (Yy (t1 J) J J 1 J J J J (Ze ?_)))))))))))))))));refine Wj ({ kg with alive:=false }) 0 J J ⟨J,J,J,trivial⟩ ?_;exact end_go G4.ok (by unfold endsB;simp;omega)
    ·intro h3;refine Zk J J J (Zh (ff J) J) (Zk J J J (Zj (t1 J) J (Zi 0 J J)) (Zk J J J (Rq J J) (Zk J J J (Zd J) (Z9 J J J ?_ ?_))))
     ·intro h4;refine Zk J J J (Zh (ff J) J) (Zk J J J (Zj (t1 J) J (Zi 0 J J)) (Zk J J J (Xj J J) (Zk J J J (Zp J J) (Za J (Zs J J) (Ze (Zc (Zu J ?_ ?_)))))))
      ·intro c9;refine Zb (Za J (Zd J) (Za J (Zw J) (Za J (Zh (ff J) J) (Yy (t1 J) J J 1 J J J J (Ze ?_)))));refine Wj ({ kg with alive:=false }) 0 J J ⟨J,J,J,trivial⟩ ?_;exact end_go G4.ok (by unfold endsB;simp;omega)
      ·intro c9;refine Zo ?_;refine Wj (kg) 0 J J ⟨J,J,J,trivial⟩ ?_;exact end_no G4.ok (by unfold endsB;simp;omega)
     ·intro h4;refine Zm J J J (Zm J J J (Zm J J J (Zk J J J (Zs J J) (Za J (Zs J J) (Ze (Zc (Xn J (Zo ?_))))))));refine Wj (kg) 0 J J ⟨J,J,J,trivial⟩ ?_;exact end_no G4.ok (by unfold endsB;simp;omega)
   intro ke hJ;have G5:=hJ;refine Zb (Za J (Zd J) (Za J (Zd J) ?_));refine Za J (Yn J J ?_) ?_;omega;refine Za J (Zd J) (Za J (Zw J) (Za J (Zh (ff J) J) (Za J (Zh (ff J) J) (Za J (Zj (t1 J) J (Zi 1 J J)) (Za J (Zx (ts J) J) (Za J (Yi J J) (Za J (Zd J) (Z9 J J J ?_ ?_))))))))
   ·intro h5;refine Zm J J J (Zm J J J (Zm J J J (Zm J J J (Zm J J J (Za J (Zp J J) ?_)))));refine Ye Ru J J 1 J hu hF (Vh u b _ ke _) ?_;rintro v cs' R' ⟨rfl,rfl,hR⟩;refine Zz hR ?_;refine Ze (Xa J 1 J ?_);exact (((((((G1.then G2).then G3).then G4).then G5).then (last_go (pos:=pos) (is:=true) G5.ok (last_yes (by dsimp only;omega)))).as (fun s _=>Mt s)).mono (by omega) (by omega)).okF
   ·intro h5;refine Zk J J J (Zd J) (Zk J J J (Zw J) (Zk J J J (Zh (ff J) J) (Zk J J J (Zj (t1 J) J (Zi 1 J J)) (Zk J J J (Xv J) (Za J (Zs J J) ?_)))));refine Ye Ru J J 1 J hu hF (Vh u b _ ke _) ?_;rintro v cs' R' ⟨rfl,rfl,hR⟩;refine Zz hR ?_;refine Ze (Xa J 1 J ?_);exact (((((((G1.then G2).then G3).then G4).then G5).then (last_go (pos:=pos) (is := !ke.alive) G5.ok (last_no (by dsimp only;omega)))).as (fun s _=>Mt s)).mono (by omega) (by omega)).okF
end
namespace E
open Go Go.RowKit
section
variable {P:Program} {ops:Array Oper} {Q:Exit→Act→World→Prop} {S:World→Prop} {z:Nat}
def anyZ (P:Program) (ops:Array Oper) (Q:Exit→Act→World→Prop) (S:World→Prop) (z:Nat):Nat→Array Bool→Act→World→Prop
 | 0,listed,a,w=>Region.ready .any ops listed=[]∧Q .normal a w
 | fuel+1,listed,a,w=>(Region.ready .any ops listed=[]→Q .normal a w)∧∀ i ∈ Region.ready .any ops listed,wpOp P ops Q i (fun a' w'=>(i=z∨S w')∧anyZ P ops Q S z fuel (listed.setIfInBounds i true) a' w') a w
theorem anyZ_any:∀ (fuel:Nat) (listed:Array Bool) (a:Act) (w:World),anyZ P ops Q S z fuel listed a w→wpAny P .any ops Q fuel listed a w
 | 0,_,_,_,h=>h
 | fuel+1,_,_,_,h=>⟨h.1,fun i hi=>wpOp_mono (fun a' w' h'=>anyZ_any fuel _ a' w' h'.2) (h.2 i hi)⟩
theorem waits_not {listed:Array Bool} {i j:Nat} (hw:Region.waitsFor .any ops j i=true) (hi:i ∈ Region.ready .any ops listed):j ∉ Region.ready .any ops listed:=by
 intro hj;obtain ⟨oj,hoj,e,he,hb,hon⟩:=Region.waitsFor_spec hw;obtain ⟨_,o,ho,hall⟩:=mem_ready.1 hj;rw [hoj] at ho;cases ho;have h1:=hall e he hb;have h0:=(mem_ready.1 hi).1;rw [hon] at h1;rcases Nat.lt_or_ge i listed.size with h' | h'
 ·simp [h'] at h0 h1;rw [h0] at h1;cases h1
 ·simp [Array.getElem?_eq_none h'] at h1
theorem anyZ_first {i:Nat} {oi:Oper} {v:Value} (hi:ops[i]?=some oi) (hsel:∀ (j:Nat) (o:Oper) cs b,ops[j]?=some o→o.op≠.select cs b) (hQ:∀ c a w,Q (.panic c) (a.put oi.dst v) w→Q (.panic c) a w) (hz:Region.waitsFor .any ops z i=true) :
  ∀ (fuel:Nat) (listed:Array Bool) (a:Act) (w:World),
   (∀ j oj,ops[j]?=some oj→j≠i→listed.getD j true=false→(∀ e ∈ oj.after,Region.binds .any e=true→e.on≠i)→oi.apart ops oj=true) →
   i ∈ Region.ready .any ops listed→YieldsIf P ops S oi v a→S w→anyZ P ops Q S z fuel (listed.setIfInBounds i true) (a.put oi.dst v) w→anyZ P ops Q S z (fuel+1) listed a w:=by
 intro fuel;induction fuel with
 | zero =>
  intro listed a w _ hr hy hS H;refine ⟨fun h=>(by rw [h] at hr;cases hr),fun j hj=>?_⟩;by_cases hji:j=i
  ·subst hji;exact hy.wpOp hi hS ⟨.inr hS,H⟩
  ·have h2:=ready_mono hj hji;rw [H.1] at h2;cases h2
 | succ fuel ih =>
  intro listed a w hfree hr hy hS H;refine ⟨fun h=>(by rw [h] at hr;cases hr),fun j hj=>?_⟩;by_cases hji:j=i
  ·subst hji;exact hy.wpOp hi hS ⟨.inr hS,H⟩
  ·have hjz:j≠z:=fun e=>waits_not hz hr (e ▸ hj);have h1:=H.2 j (ready_mono hj hji);obtain ⟨hjun,oj,hoj,hall⟩:=mem_ready.1 hj
   have hnot:∀ e ∈ oj.after,Region.binds .any e=true→e.on≠i:=fun e he hb heq=>by
    have h3:=hall e he hb;have h0:=(mem_ready.1 hr).1;rw [heq] at h3;rcases Nat.lt_or_ge i listed.size with h' | h'
    ·simp [h'] at h0 h3;rw [h0] at h3;cases h3
    ·simp [Array.getElem?_eq_none h'] at h3
   have h2:=wpOp_putIf hoj (hfree j oj hoj hji hjun hnot) (fun cs b=>hsel i oi cs b hi) (fun cs b=>hsel j oj cs b hoj) hQ hy h1
   have hfree':∀ k ok,ops[k]?=some ok→k≠i→(listed.setIfInBounds j true).getD k true=false→(∀ e ∈ ok.after,Region.binds .any e=true→e.on≠i)→oi.apart ops ok=true:=fun k ok hk hki hun hno=>by
    refine hfree k ok hk hki ?_ hno;by_cases hjk:j=k
    ·subst hjk;exact hjun
    ·rw [getD_set_ne true hjk] at hun;exact hun
   refine wpOp_mono (fun a' w' h3=>?_) h2;obtain ⟨hy',hS',H'⟩:=h3;have hS'':S w':=hS'.resolve_left hjz;refine ⟨.inr hS'',ih (listed.setIfInBounds j true) a' w' hfree' (ready_mono hr (Ne.symm hji)) hy' hS'' ?_⟩;rw [Array.setIfInBounds_comm _ _ hji];exact H'
end
structure WZ (z:Nat) (w1:World) (F1:List Nat) (H1:Hp) (R1:Asr) (P:Program) (n:Nat) (all:Array Oper) (fuel:Nat) (listed:Array Bool) (E:Env) (w0:World) (F:List Nat) (H:Hp) (R:Asr) (fn:Func) (Z:Ending→World→Prop) (κ:List Kf):Prop where
 go:∀ w,Sat w0 F H R w→∀ a,Ag n a E→anyZ P all (den P fn Z κ) (fun w=>Sat w1 F1 H1 R1 w) z fuel listed a w
section
variable {z:Nat} {w1:World} {F1:List Nat} {H1:Hp} {R1:Asr} {P:Program} {n:Nat} {E:Env} {w0:World} {F:List Nat} {H:Hp} {R:Asr} {fn:Func} {Z:Ending→World→Prop} {κ:List Kf}
theorem WC_zheld (z:Nat) {id:Nat} {l:List Oper} (hm:P.follows .mixedOrders=true) (h:WZ z w0 F H Asr.none P n l.toArray l.length (Array.replicate l.length false) E w0 F H R fn Z κ):WC P n (.region id l.toArray true) E w0 F H R fn Z κ :=
 ⟨fun w hs a ha=>wp_region_any hm (anyZ_any _ _ _ _ (by rw [List.size_toArray];exact h.go _ (hs.drawn _) a ha))⟩
theorem WC_zheldR (z:Nat) (R1:Asr) {id:Nat} {l:List Oper} (hm:P.follows .mixedOrders=true) (h:WZ z w0 F H R1 P n l.toArray l.length (Array.replicate l.length false) E w0 F H R fn Z κ):WC P n (.region id l.toArray true) E w0 F H R fn Z κ :=
 ⟨fun w hs a ha=>wp_region_any hm (anyZ_any _ _ _ _ (by rw [List.size_toArray];exact h.go _ (hs.drawn _) a ha))⟩
theorem WZ_done {all:Array Oper} {fuel:Nat} {listed:Array Bool} (hr:Region.ready .any all listed=[]) (h:WQ P n .normal E w0 F H R fn Z κ):WZ z w1 F1 H1 R1 P n all fuel listed E w0 F H R fn Z κ :=
 ⟨fun w hs a ha=>by
  cases fuel with
  | zero=>exact ⟨hr,h.go w hs a ha⟩
  | succ fuel=>exact ⟨fun _=>h.go w hs a ha,by rw [hr];simp⟩⟩
theorem V5 {all:Array Oper} {fuel:Nat} {listed:Array Bool} (i:Nat) {d:Nat} {o:Op} {t:TypeId} {p:String} {x:Array Edge} {v:Value} (hi:all[i]?=some ⟨some d,o,t,p,x,none⟩) (hs:Region.noSelect all=true) (hf:Region.free .any all listed i=true)
  (hr:(Region.ready .any all listed).contains i=true) (hz:Region.waitsFor .any all z i=true) (hd:Nat.blt d n=true) (hk:∀ w,Sat w0 F H R w→Sat w1 F1 H1 R1 w) (he:Ex P n E w1 F1 H1 R1 o v)
  (h:WZ z w1 F1 H1 R1 P n all fuel (listed.setIfInBounds i true) ((d,v)::E) w0 F H R fn Z κ):WZ z w1 F1 H1 R1 P n all (fuel+1) listed E w0 F H R fn Z κ :=
 ⟨fun w hw a ha=>anyZ_first (v:=v) hi (Region.noSelect_spec hs) (fun _ _ _=>M7 κ) hz fuel listed a w (Region.free_spec hi hf) (by simpa using hr) (.inl ⟨rfl,fun w' hw'=>he.go w' hw' a ha _ _ _ _ _⟩) (hk w hw) (h.go w hw _ (ha.put hd v))⟩
theorem Tg {all:Array Oper} {fuel:Nat} {listed:Array Bool} {rs:List Nat} (hr:Region.ready .any all listed=rs) (hne:rs≠[])
  (h:∀ i ∈ rs,∃ o,all[i]?=some o∧WL P n all [o] E w0 F H R fn Z (⟨2,0,.skip,fun a w=>(i=z∨Sat w1 F1 H1 R1 w)∧anyZ P all (den P fn Z κ) (fun w=>Sat w1 F1 H1 R1 w) z fuel (listed.setIfInBounds i true) a w⟩::κ)):WZ z w1 F1 H1 R1 P n all (fuel+1) listed E w0 F H R fn Z κ :=
 ⟨fun w hs a ha=>⟨fun h0=>absurd (hr ▸ h0) hne,hr ▸ fun i hi=>by
  obtain ⟨o,ho,hw⟩:=h i hi;have h1:=hw.go w hs a ha;unfold wpOp;rw [ho];simp only [wpList] at h1;simp only;split
  ·rename_i hwant
   rw [if_pos hwant] at h1;rcases h1 with h1 | ⟨h1,a0,w1,h2⟩
   ·left;unfold Oper.wp at h1 ⊢;generalize (execOp a.eval o).run P w=r at *;cases r with
    | ok nx w' =>
     cases nx<;>simp only [Oper.upon] at h1 ⊢ <;>
      first
       | exact h1
       | exact Calls.mono h1 (fun e w'' he=>by cases e<;>exact he)
       | exact Rows.mono h1 (fun _ _ he=>he)
    | halt x w'=>cases x<;>simp only [Oper.upon] at h1 ⊢<;>exact h1
   ·exact .inr ⟨h1,a0,w1,h2⟩
  ·rename_i hwant
   rw [if_neg hwant] at h1;exact h1⟩⟩
theorem WZ_one {all:Array Oper} {fuel:Nat} {listed:Array Bool} (i:Nat) {o:Oper} (hr:Region.ready .any all listed=[i]) (ho:all[i]?=some o)
  (h:WL P n all [o] E w0 F H R fn Z (⟨2,0,.skip,fun a w=>(i=z∨Sat w1 F1 H1 R1 w)∧anyZ P all (den P fn Z κ) (fun w=>Sat w1 F1 H1 R1 w) z fuel (listed.setIfInBounds i true) a w⟩::κ)):WZ z w1 F1 H1 R1 P n all (fuel+1) listed E w0 F H R fn Z κ:=Tg hr (by simp) (fun j hj=>by rw [List.mem_singleton.1 hj];exact ⟨o,ho,h⟩)
theorem Uw {i:Nat} {all:Array Oper} {fuel:Nat} {listed:Array Bool} (hk:i=z∨∀ w,Sat w0 F H R w→Sat w1 F1 H1 R1 w) (h:WZ z w1 F1 H1 R1 P n all fuel listed E w0 F H R fn Z κ):WQ P n .normal E w0 F H R fn Z (⟨2,0,.skip,fun a w=>(i=z∨Sat w1 F1 H1 R1 w)∧anyZ P all (den P fn Z κ) (fun w=>Sat w1 F1 H1 R1 w) z fuel listed a w⟩::κ) :=
 ⟨fun w hs a ha=>⟨hk.imp id (fun hk=>hk w hs),h.go w hs a ha⟩⟩
end
theorem Ur {α:Type} {p:α→Prop}:∀ i ∈ ([]:List α),p i:=fun _ h=>by cases h
theorem Vy {α:Type} {p:α→Prop} {a:α} {l:List α} (h:p a) (h':∀ i ∈ l,p i):∀ i ∈ a::l,p i:=fun i hi=>by
 rcases List.mem_cons.1 hi with rfl | hi
 ·exact h
 ·exact h' i hi
end E
end Go.Proofs.YtpofmnfkdkmieaaGreat
