/- What is proved here: the document's own Checker: the frame at -/
import Derived.Test.YtpofmnfkdkmieaaGreatQ29
import Derived.Test.YtpofmnfkdkmieaaGreatQ03
import Derived.StillTail
set_option linter.unusedVariables false
set_option linter.unusedSimpArgs false
namespace Go.Proofs.YtpofmnfkdkmieaaGreat
section
open Go Go.RowKit At E
theorem pos_inc {m:Me} (h:Yt m=true):∀ (d i:Nat) (f g:Fr),m.frames[i]?=some f→m.frames[i+d+1]?=some g→f.pos<g.pos:=by
 have step:∀ (j:Nat) (f g:Fr),m.frames[j]?=some f→m.frames[j+1]?=some g→f.pos<g.pos:=by
  intro j f g hf hg;unfold Yt at h;simp only [Bool.and_eq_true] at h;have hr:=List.all_eq_true.1 h.2 (j+1) (List.mem_range.2 (Wa hg));unfold M5 at hr;rw [hg] at hr;simp only [Td,Bool.and_eq_true,decide_eq_true_eq,S3,Nat.add_sub_cancel,posAt,hf,Option.map_some,Option.getD_some] at hr;have:=hr.1.1.1.1.2;rw [if_neg (by omega)] at this;exact this
 intro d;induction d with
 | zero=>intro i f g hf hg;exact step i f g hf hg
 | succ d ih =>
  intro i f g hf hg;have hlt:i+d+1<m.frames.length:=by have:=Wa hg;omega
  have h1:=ih i f _ hf (List.getElem?_eq_getElem hlt);have h2:=step (i+d+1) _ g (List.getElem?_eq_getElem hlt) (by rw [← hg];congr 1);omega
theorem ty_frame {l:List Ty} (h:Wo l true=true):∀ t ∈ l,¬ t.kind=0:=by
 intro t ht h0;have:=List.all_eq_true.1 h t ht;unfold X7 at this;rw [if_pos h0] at this;simp at this
structure FmL where
 i:Nat
 k:CkM
structure FnL where
 n:Nat
 bd:Bool
def FrI (x:CkX) (k:CkM) (pos:Int) (i:Nat) (k':CkM):Prop :=
 (k'=k∧∀ (j:Nat) g,j<i→x.m.frames[j]?=some g→¬ g.pos=pos) ∨
 (∃ j f,j<i∧x.m.frames[j]?=some f∧f.pos=pos∧CkOk x k'∧k'.gr.length≤k.gr.length+40∧k'.st.length≤20∧k'.alive=true∧sem k'=(sem k).bind (Wv x.c x.m pos))
theorem FrI.first {x:CkX} {k k':CkM} {pos:Int} {i:Nat} {f:Fr} (h:FrI x k pos i k') (hm:Yt x.m=true) (hf:x.m.frames[i]?=some f) (hp:f.pos=pos):k'=k∧∀ (j:Nat) g,j<i→x.m.frames[j]?=some g→¬ g.pos=pos:=by
 rcases h with h | ⟨j,g,hj,hg,hgp,_⟩
 ·exact h
 ·have:=pos_inc hm (i - j - 1) j g f hg (by rw [show j+(i - j - 1)+1=i by omega];exact hf);omega
theorem FrI.next {x:CkX} {k k':CkM} {pos:Int} {i:Nat} {f:Fr} (h:FrI x k pos i k') (hf:x.m.frames[i]?=some f) (hp:¬ f.pos=pos):FrI x k pos (i+1) k':=by
 rcases h with ⟨h1,h2⟩ | ⟨j,g,hj,h⟩
 ·refine .inl ⟨h1,fun j g hj hg=>?_⟩;rcases Nat.lt_or_ge j i with h | h
  ·exact h2 j g h hg
  ·have e:j=i:=by omega
   subst e;rw [hf] at hg;cases hg;exact hp
 ·exact .inr ⟨j,g,by omega,h⟩
theorem fr_imp {u:World} {k:CkM} {fl fs:List Ty} {flv fsv:Value} {al bd:Bool} (hl:Yu u flv fl) (hs:Yu u fsv fs):(ckA u k).Imp (ckA u ⟨k.gr,k.gv,fl,flv,[],fs,fsv,[],al,bd⟩):=by
 refine ((Asr.fst _ _).trans (roA_old (u:=u) (Q:=(Yu · fsv fs)) (fun w hb=>Yu.mono hs hb) _)).trans ?_;refine (roA_old (u:=u) (Q:=(Yu · flv fl)) (fun w hb=>Yu.mono hl hb) _).trans ?_;exact (Asr.cossa _ _ _).trans (Asr.comm _ _)
theorem fr_end {x:CkX} {k k1:CkM} {pos:Int} {i:Nat} {f:Fr} {flv fsv:Value} (hb:k.bad=false) (hk:CkOk x k) (hm:Yt x.m=true) (hf:x.m.frames[i]?=some f) (hp:f.pos=pos) (hno:∀ (j:Nat) g,j<i→x.m.frames[j]?=some g→¬ g.pos=pos)
  (hk1:Srt k1.gr) (hl1:k1.gr.length≤k.gr.length+40)
  (hs:sem k1=if f.stack.any (fun t=>decide (t.kind=4)) then none else if k.alive then (sem k).bind (Vf x.c x.m k.st pos) else sem k):FrI x k pos (i+1) ⟨k1.gr,k1.gv,f.locals,flv,[],f.stack,fsv,[],true,k1.bad⟩:=by
 obtain ⟨h1,h2,h3,h4,h5,h6⟩:=me_frame hm hf;have hfa:U0 x.m pos=some f:=find_at hno hf hp
 have hsem:sem ⟨k1.gr,k1.gv,f.locals,flv,[],f.stack,fsv,[],true,k1.bad⟩=(sem k1).map fun s=>⟨s.gr,f.locals,f.stack,true⟩:=by
  cases hb1:k1.bad
  ·rw [Xi hb1];rfl
  ·rw [Vu hb1];rfl
 refine .inr ⟨i,f,by omega,hf,hp,⟨h1,hk1,fun s hs'=>?_⟩,hl1,by show f.stack.length≤20;omega,rfl,?_⟩
 ·rw [hsem,hs] at hs';by_cases ha:f.stack.any (fun t=>decide (t.kind=4))=true
  ·rw [if_pos ha] at hs';cases hs'
  ·rw [if_neg ha] at hs';obtain ⟨s', -,rfl⟩:=Option.map_eq_some_iff.1 hs';refine ⟨h3,fun t ht=>⟨ty_frame h6 t ht,fun h4'=>ha ?_⟩,ty_frame h5⟩;rw [List.any_eq_true];exact ⟨t,ht,decide_eq_true h4'⟩
 ·rw [hsem,hs,Xi hb];show _=Wv x.c x.m pos _;unfold Wv;rw [hfa];by_cases ha:f.stack.any (fun t=>decide (t.kind=4))=true
  ·simp only [ha,if_true];rfl
  ·simp only [ha,if_false];cases k.alive<;>rfl
theorem fr_last {x:CkX} {k k':CkM} {pos:Int} (hb:k.bad=false) (hk:CkOk x k) (h:FrI x k pos x.m.frames.length k'):CkOk x { k' with bad:=k'.bad || !k'.alive }∧k'.gr.length≤k.gr.length+40∧k'.st.length≤k.st.length+20∧sem { k' with bad:=k'.bad || !k'.alive }=(sem k).bind (Wv x.c x.m pos):=by
 rcases h with ⟨rfl,hno⟩ | ⟨j,f, -, -, -,hk',hl,hst,ha,hs⟩
 ·refine ⟨⟨hk.lo,hk.srt,fun s hs=>?_⟩,by omega,by omega,?_⟩
  ·have h1:=hk.ok _ (Xi hb);cases hal:k'.alive with
   | true=>rw [hal,hb] at hs;cases hs;exact ⟨h1.len,h1.st,h1.lo⟩
   | false=>rw [hal,hb] at hs;cases hs
  ·rw [Xi hb];show _=Wv x.c x.m pos _;unfold Wv U0;rw [find_no (fun j g hj hg=>hno j g hj hg)];cases hal:k'.alive with
   | true=>rw [Xi (by simp [hb])];rfl
   | false=>rw [Vu (by simp)];rfl
 ·have e:{ k' with bad:=k'.bad || !k'.alive }=k':=by cases k';simp_all
  rw [e];exact ⟨hk',hl,by omega,hs⟩
theorem any_snoc {l:List Ty} {n:Nat} {t:Ty} (h:l[n]?=some t):(l.take (n+1)).any (fun t=>decide (t.kind=4))=((l.take n).any (fun t=>decide (t.kind=4)) || !!decide (t.kind=4)):=by
 rw [List.take_add_one,h,List.any_append];simp
theorem any_all {l:List Ty} {n:Nat} (h:l.length≤n):(l.take n).any (fun t=>decide (t.kind=4))=l.any (fun t=>decide (t.kind=4)):=by rw [List.take_of_length_le h]
theorem fr_bd {l:List Ty} {n:Nat} {bd al:Bool} {gr gv lo lv lb st sv sb} {q:Option St} (h:bd=(l.take n).any (fun t=>decide (t.kind=4))) (hn:l.length≤n) (hc:bd=true∨al=false) :
  sem ⟨gr,gv,lo,lv,lb,st,sv,sb,al,bd⟩=if l.any (fun t=>decide (t.kind=4)) then none else if al then q else sem ⟨gr,gv,lo,lv,lb,st,sv,sb,al,false⟩:=by
 rw [any_all hn] at h;rw [← h];cases bd
 ·rcases hc with hc | hc
  ·cases hc
  ·subst hc;rfl
 ·rfl
theorem framed_any (u:World) (b:Nat) (x:CkX) (k:CkM) (pos:Int) (hk:CkOk x k) (hb:k.bad=false) (hm:Yt x.m=true) (hp:MeParts u x.m x.pv x.cv x.hv x.rv) (hn:k.gr.length≤3999000) :
  RuP Tryz.prog 169 #[pt b,.int .i64 pos] u b (ckC x k) (ckA u k) (okF u x k (Wv x.c x.m pos) 40 20):=by
 intro w hu hF hs0;obtain ⟨pr,cr,hrv,hrl,hrr⟩:=hp.fs.is;obtain ⟨c,fv,mv,m,pv,cv,hv,rv⟩:=x;dsimp only at hrv hrl hrr;subst hrv;replace hrr:Hid _:=hrr;replace hm:Hid _:=hm;refine Yz (hs0) (args:=[pt b,.int .i64 pos]) Tryz.func169 J Tryz.ntmps169 ?_;refine Zg (Zg (Zb (Za J (Zf J) (Ze (Zc (Zn ?_))))));refine Yf (Yg (X:=FmL) (fun y=>[(0,pt b),(1,.int .i64 pos),(4,iN y.i)]) _ _ (fun y=>[(b,ckC ⟨c,fv,mv,m,pv,cv,hv,.slice pr m.frames.length cr⟩ y.k)]) (fun y=>ckA u y.k) (fun y=>y.i≤m.frames.length∧FrI ⟨c,fv,mv,m,pv,cv,hv,.slice pr m.frames.length cr⟩ k pos y.i y.k) (fun y=>m.frames.length - y.i) (⟨0,k⟩) (⟨Nat.zero_le _,.inl ⟨J,fun j g hj=>by (have h9:j<0:=hj);omega⟩⟩) ?_) ⟨rfl,rfl,rfl,trivial⟩;intro y hI;obtain ⟨i,kk⟩:=y;obtain ⟨hi1,hI1⟩:=hI;dsimp only at hi1 hI1;have hii:(FmL.mk i kk).i=i:=rfl;refine Zg (Zg (Zb (Za J (Zd J) (Za J (Zd J) (Za J (Zw J) (Za J (Zh (ff J) J) (Za J (Zh (ff J) J) (Za J (Zj (t1 J) J (Zi 0 J J)) (Za J (Zx (ts J) J) (Za J (Yi J J) (Ze (Zc (Zu J ?_ ?_)))))))))))))
 ·intro c1;obtain ⟨f,hf⟩:∃ f,m.frames[i]?=some f:=⟨_,List.getElem?_eq_getElem (by omega)⟩;obtain ⟨bb,oo,rr,hpr,hbb,⟨flv,fsv,hrw,hfl,hfs,hfp⟩,hcc⟩:=hrr.out i f hf;subst hpr;subst hrw;obtain ⟨pfl,cfl,rfl,⟨hfl1,hfl2⟩,hpfl⟩:=hfl.shape;obtain ⟨pfs,cfs,rfl,⟨hfs1,hfs2⟩,hpfs⟩:=hfs.shape;replace hpfl:Hid _:=hpfl;replace hpfs:Hid _:=hpfs;refine Zo (Zc (Zg (Zn (Zg (Zb (Za J (Zd J) (Za J (Zw J) (Za J (Zh (ff J) J) (Za J (Zh (ff J) J) (Za J (Zj (t1 J) J (Zi 0 J J)) (Za J (Zd J) (Za J (Yo (ts J) J J ?_) ?_))))))))))))
  ·omega
  refine Za J (Yj (tn J) J (U6 hu hF hbb hcc) J) (Yk J (tz J) ?_);intro b1 hb1;refine Z2 (tn J) J J 0 J J J J (Ze (Zc (Zg (Zg (Zb (Za J (Zh (ff J) J) (Za J (Zj (t1 J) J (Zi 0 J J)) (Za J (Zd J) (Za J (T3 J J) (Ze (Zc (Qw J ?_ ?_))))))))))))
  ·intro c2;refine Yd (Yc (Yb (Zc (Zb (Za J (Zd J) ?_)))));refine Za J (Yn J J ?_) ?_;omega;refine Za J (Zf J) (Ze ?_);refine Z1 (⟨i+1,kk⟩) ?_ (⟨by show i+1≤_;omega,hI1.next hf c2⟩) 1 rfl (rfl) ⟨rfl,rfl,rfl,trivial⟩;show m.frames.length - (i+1)<m.frames.length - i;omega
  ·intro c2;obtain ⟨rfl,hno⟩:=hI1.first hm.out hf c2
   obtain ⟨gr,gv,lo,lv,lb,st,sv,sb,al,bd0⟩:=kk;replace hb:bd0=false:=hb;subst hb;replace hn:gr.length≤3999000:=hn;refine Zo (Zc (Zg (Zg (Zb (Za J (Zf J) (Ze (Zc (Zn ?_))))))));refine Yf (Yg (X:=FnL) (fun z=>[(0,pt b),(1,.int .i64 pos),(5,pt b1),(4,iN i),(6,iN z.n)]) _ _ (fun z=>[(b1,frV f (.slice pfl f.locals.length cfl) (.slice pfs f.stack.length cfs)),(b,ckC ⟨c,fv,mv,m,pv,cv,hv,.slice (some ⟨bb,oo,none⟩) m.frames.length cr⟩ ⟨gr,gv,lo,lv,lb,st,sv,sb,al,z.bd⟩)]) (fun z=>ckA u ⟨gr,gv,lo,lv,lb,st,sv,sb,al,z.bd⟩) (fun z=>z.n≤f.stack.length∧z.bd=(f.stack.take z.n).any (fun t=>decide (t.kind=4))) (fun z=>f.stack.length - z.n) (⟨0,false⟩) (⟨Nat.zero_le _,J⟩) ?_) ⟨J,J,J,J,J,trivial⟩;intro z hI;obtain ⟨n,bd⟩:=z;obtain ⟨hj1,hj2⟩:=hI;dsimp only at hj1 hj2;have hnn:(FnL.mk n bd).n=n:=rfl;refine Zg (Zg (Zb (Za J (Zd J) (Za J (Zh (ff J) J) (Za J (Zj (t1 J) J (Zi 0 J J)) (Za J (Zx (ts J) J) (Za J (Yi J J) (Ze (Zc (Zu J ?_ ?_))))))))))
   ·intro c3;obtain ⟨gs,os,hgs⟩:=hpfs.out (by omega);subst hgs;obtain ⟨tA,htn⟩:∃ t,f.stack[n]?=some t:=⟨_,List.getElem?_eq_getElem (by omega)⟩;refine Zo (Zc (Zg (Zn (Zb (Za J (Zd J) (Za J (Zh (ff J) J) (Za J (Zj (t1 J) J (Zi 0 J J)) (Za J (Zd J) (Za J (Yo (ts J) J J ?_) ?_)))))))))
    ·omega
    refine Za J (Zh (ff J) J) (Za J (Zj (t1 J) J (cell_ro (u:=u) (fun w hs=>Yu.mono hfs (Xp hu hF hs)) htn J)) ?_);refine Za J (T3 J J) ?_;refine Ye Ru J J 1 J hu hF (Vh u b _ _ _) ?_;rintro v cs' R' ⟨rfl,rfl,hR⟩;refine Zz hR ?_;refine Ze (Zt (Zc (Zb (Za J (Zd J) ?_))));refine Za J (Yn J J ?_) ?_;omega;refine Za J (Zf J) (Ze ?_);refine Z1 (⟨n+1,bd || !!decide (tA.kind=4)⟩) ?_ (⟨by show n+1≤_;omega,by show (bd || !!decide (tA.kind=4))=_;rw [any_snoc htn,← hj2]⟩) 0 rfl (rfl) ⟨rfl,rfl,rfl,rfl,rfl,trivial⟩;show f.stack.length - (n+1)<f.stack.length - n;omega
   ·intro c3;refine Yd (Yc (Z5 (Yb (Zc (Zg (Zg (Zb (Za J (Zd J) (Za J (Zw J) (Za J (Zh (ff J) J) (Za J (Zj (t1 J) J (Zi 1 J J)) (Za J (Zd J) (Ub J J J ?_ ?_)))))))))))))
    ·intro h1;refine Zk J J J (Zd J) (Zk J J J (Zw J) (Zk J J J (Zh (ff J) J) (Zk J J J (Zj (t1 J) J (Zi 1 J J)) (Zk J J J (Xv J) (Za J (Zp J J) (Ze (Zc (W4 J ?_ ?_))))))))
     ·intro c4;replace c4:bd=false:=by simpa using c4
      subst c4;refine Zb (Za J (Zd J) (Za J (Zd J) (Za J (Zd J) (Za J (Zw J) (Za J (Zh (ff J) J) (Za J (Zj (t1 J) J (Zi 1 J J)) ?_))))));refine Zz (Asr.addNone _) ?_;refine Ye fn172 J J 1 J hu hF (meets_any u b _ _ Asr.none _ st pos hk J hm.out hp (fun t ht=>((hk.ok _ J).st t ht).2) hn (fun w hb h=>Sy h.1.2.1 hb)) ?_;rintro v cs' R' ⟨rfl,k1,rfl,hR,hk1,hl1,hst1,hs1⟩;refine Zz hR ?_;refine Ze (Zc (Zg (Zb (Za J (Zd J) (Za J (Zh (ff J) J) (Za J (Zj (t1 J) J (Zi 0 J J)) (Za J (Zw J) (Za J (Zh (ff J) J) (Yy (t1 J) J J 1 J J J J (Ze (Zc (Zg (Zb (Za J (Zd J) (Za J (Zh (ff J) J) (Za J (Zj (t1 J) J (Zi 0 J J)) (Za J (Zw J) (Za J (Zh (ff J) J) (Yy (t1 J) J J 1 J J J J (Ze (Zc (Xt (fr_imp (al:=true) (bd:=true) hfl hfs) (Zb (Za J (Zd J) (Za J (Zw J) (Za J (Zh (ff J) J) (Yy (t1 J) J J 1 J J J J (Ze (Zt ?_)))))))))))))))))))))))))))));refine Zc (Zb (Za J (Zd J) ?_));refine Za J (Yn J J ?_) ?_;omega;refine Za J (Zf J) (Ze ?_);refine Z1 (⟨i+1,⟨k1.gr,k1.gv,f.locals,.slice pfl f.locals.length cfl,[],f.stack,.slice pfs f.stack.length cfs,[],true,k1.bad⟩⟩) ?_ (⟨by show i+1≤_;omega,fr_end (k1:=k1) rfl hk hm.out hf c2 hno hk1.srt hl1 (by rw [hs1,if_neg (by rw [← any_all (n:=n) (by omega),← hj2];simp),if_pos h1])⟩) 1 rfl (rfl) ⟨rfl,rfl,rfl,trivial⟩;show m.frames.length - (i+1)<m.frames.length - i;omega
     ·intro c4;refine Zo (Zc (Zg (Zb (Za J (Zd J) (Za J (Zh (ff J) J) (Za J (Zj (t1 J) J (Zi 0 J J)) (Za J (Zw J) (Za J (Zh (ff J) J) (Yy (t1 J) J J 1 J J J J (Ze (Zc (Zg (Zb (Za J (Zd J) (Za J (Zh (ff J) J) (Za J (Zj (t1 J) J (Zi 0 J J)) (Za J (Zw J) (Za J (Zh (ff J) J) (Yy (t1 J) J J 1 J J J J (Ze (Zc (Xt (fr_imp (al:=true) (bd:=true) hfl hfs) (Zb (Za J (Zd J) (Za J (Zw J) (Za J (Zh (ff J) J) (Yy (t1 J) J J 1 J J J J (Ze (Zt ?_)))))))))))))))))))))))))))));refine Zc (Zb (Za J (Zd J) ?_));refine Za J (Yn J J ?_) ?_;omega;refine Za J (Zf J) (Ze ?_);refine Z1 (⟨i+1,⟨gr,gv,f.locals,.slice pfl f.locals.length cfl,[],f.stack,.slice pfs f.stack.length cfs,[],true,bd⟩⟩) ?_ (⟨by show i+1≤_;omega,fr_end (k1:=⟨gr,gv,lo,lv,lb,st,sv,sb,al,bd⟩) rfl hk hm.out hf c2 hno hk.srt (by show gr.length≤gr.length+40;omega) (fr_bd hj2 (by omega) (by first | exact .inr h1 | exact .inl (by simpa using c4)))⟩) 1 rfl (rfl) ⟨rfl,rfl,rfl,trivial⟩;show m.frames.length - (i+1)<m.frames.length - i;omega
    ·intro h1;refine Zm J J J (Zm J J J (Zm J J J (Zm J J J (Zm J J J (Za J (Zs J J) (Ze (Zc (Xn J (Zo (Zc (Zg (Zb (Za J (Zd J) (Za J (Zh (ff J) J) (Za J (Zj (t1 J) J (Zi 0 J J)) (Za J (Zw J) (Za J (Zh (ff J) J) (Yy (t1 J) J J 1 J J J J (Ze (Zc (Zg (Zb (Za J (Zd J) (Za J (Zh (ff J) J) (Za J (Zj (t1 J) J (Zi 0 J J)) (Za J (Zw J) (Za J (Zh (ff J) J) (Yy (t1 J) J J 1 J J J J (Ze ?_)))))))))))))))))))))))))))));refine Zc (Xt (fr_imp (al:=true) (bd:=true) hfl hfs) (Zb (Za J (Zd J) (Za J (Zw J) (Za J (Zh (ff J) J) (Yy (t1 J) J J 1 J J J J (Ze (Zt (Zc (Zb (Za J (Zd J) ?_)))))))))));refine Za J (Yn J J ?_) ?_;omega;refine Za J (Zf J) (Ze ?_);refine Z1 (⟨i+1,⟨gr,gv,f.locals,.slice pfl f.locals.length cfl,[],f.stack,.slice pfs f.stack.length cfs,[],true,bd⟩⟩) ?_ (⟨by show i+1≤_;omega,fr_end (k1:=⟨gr,gv,lo,lv,lb,st,sv,sb,al,bd⟩) rfl hk hm.out hf c2 hno hk.srt (by show gr.length≤gr.length+40;omega) (fr_bd hj2 (by omega) (by first | exact .inr h1 | exact .inl (by simpa using c4)))⟩) 1 rfl (rfl) ⟨rfl,rfl,rfl,trivial⟩;show m.frames.length - (i+1)<m.frames.length - i;omega
 ·intro c1;refine Yd (Yc (Z5 (Yb (Zc (Zb (Za J (Zd J) (Za J (Zd J) (Za J (Zw J) (Za J (Zh (ff J) J) (Za J (Zj (t1 J) J (Zi 0 J J)) ?_))))))))));refine Ye Ru J J 0 J hu hF (Vh u b _ _ _) ?_;rintro v cs' R' ⟨rfl,rfl,hR⟩;refine Zz hR ?_;refine Ze (Xa J 0 J ?_);exact (fun h=>⟨J,_,J,.refl _,h.1,h.2.1,h.2.2.1,h.2.2.2⟩) (fr_last hb hk (show FrI _ k pos m.frames.length kk from (show i=m.frames.length by omega) ▸ hI1))
theorem Vd (s:ByteArray) (w:World):Vc Tryz.prog 107 #[.string s] w (.agg (tyV (Xu s)).toArray):=by
 refine Xf (args:=[.string s]) Tryz.func107 J Tryz.ntmps107 ?_;refine Zg (Zb (Yk J (tz J) ?_));intro b0 hb0;refine Ze (Zc (Zg (Zb (Za J (Zd J) (Za J (Z8 (tb J) J J) (Z2 (tn J) J J 0 J J J J (Ze (Zc (Zr (P_endR (We J (Wf (tn J) J (Yl 0 J) J)) ?_))))))))));rfl
def ifF (p:Prop) [Decidable p] (f:St→Option St) (s:St):Option St:=if p then f s else some s
def refV (r:Rf) (pv:Value):List Value:=[.string r.cls,.string r.name,pv,.int .i64 r.ty.kind,.string r.ty.cls]
structure Go1 (x:CkX) (k k':CkM) (d e:Nat) (f:St→Option St):Prop where
 ok:CkOk x k'
 gr:k'.gr.length≤k.gr.length+d
 st:k'.st.length≤k.st.length+e
 sm:sem k'=(sem k).bind f
theorem Go1.refl {x:CkX} {k:CkM} (hk:CkOk x k):Go1 x k k 0 0 some:=⟨hk,Nat.le_refl _,Nat.le_refl _,by cases sem k<;>rfl⟩
theorem Go1.then {x:CkX} {k k' k'':CkM} {d e d' e':Nat} {f g:St→Option St} (h:Go1 x k k' d e f) (h':Go1 x k' k'' d' e' g):Go1 x k k'' (d+d') (e+e') (fun s=>(f s).bind g) :=
 ⟨h'.ok,by have:=h.gr;have:=h'.gr;omega,by have:=h.st;have:=h'.st;omega,by rw [h'.sm,h.sm,Option.bind_assoc]⟩
theorem Go1.yes {x:CkX} {k k':CkM} {d e:Nat} {f:St→Option St} (h:Go1 x k k' d e f) {p:Prop} [Decidable p] (hp:p):Go1 x k k' d e (ifF p f):=⟨h.ok,h.gr,h.st,by rw [h.sm];congr 1;funext s;unfold ifF;rw [if_pos hp]⟩
theorem Go1.no {x:CkX} {k:CkM} {d e:Nat} {f:St→Option St} (hk:CkOk x k) {p:Prop} [Decidable p] (hp:¬ p):Go1 x k k d e (ifF p f):=⟨hk,Nat.le_add_right _ _,Nat.le_add_right _ _,by
 have e:ifF p f=some:=by funext s;unfold ifF;rw [if_neg hp]
 rw [e];cases sem k<;>rfl⟩
theorem Go1.mono {x:CkX} {k k':CkM} {d e d' e':Nat} {f:St→Option St} (h:Go1 x k k' d e f) (hd:d≤d') (he:e≤e'):Go1 x k k' d' e' f:=⟨h.ok,Nat.le_trans h.gr (by omega),Nat.le_trans h.st (by omega),h.sm⟩
theorem Go1.as {x:CkX} {k k':CkM} {d e:Nat} {f g:St→Option St} (h:Go1 x k k' d e f) (hf:∀ s,sem k=some s→f s=g s):Go1 x k k' d e g:=⟨h.ok,h.gr,h.st,by
 rw [h.sm];cases hs:sem k with
 | none=>rfl
 | some s=>exact hf s hs⟩
theorem Go1.okF {u:World} {x:CkX} {k k':CkM} {d e:Nat} {f:St→Option St} (h:Go1 x k k' d e f):okF u x k f d e (.tuple #[]) (ckC x k') (ckA u k'):=⟨rfl,k',rfl,.refl _,h.ok,h.gr,h.st,h.sm⟩
theorem M2 {x:CkX} {k k1:CkM} {t:Ty} {ks:List Int} {is:Bool} (hk1:CkOk x k1) (hg:k1.gr=k.gr) (hst:k1.st.length≤k.st.length) (hs:(sem k).bind V9=(sem k1).map fun s=>(t,s)) (hi:is=decide (t.kind ∈ ks)):Go1 x k { k1 with bad:=k1.bad || !is } 0 0 (Qi ks):=by
 have e:(sem k).bind (Qi ks)=((sem k).bind V9).bind fun r=>if r.1.kind ∈ ks then some r.2 else none:=by cases sem k<;>rfl
 subst hi;refine ⟨⟨hk1.lo,hk1.srt,fun s h=>?_⟩,by rw [← hg];exact Nat.le_refl _,hst,?_⟩
 ·cases hb:k1.bad with
  | true=>rw [hb] at h;cases h
  | false =>
   have h1:=hk1.ok _ (Xi hb);rw [hb] at h;by_cases hm:t.kind ∈ ks
   ·rw [decide_eq_true hm] at h;cases h;exact ⟨h1.len,h1.st,h1.lo⟩
   ·rw [decide_eq_false hm] at h;cases h
 ·rw [e,hs];cases hb:k1.bad with
  | true=>rw [Vu hb];rfl
  | false =>
   rw [Xi hb];by_cases hm:t.kind ∈ ks
   ·rw [Xi (by simp [decide_eq_true hm])];show _=if t.kind ∈ ks then _ else _;rw [if_pos hm]
   ·rw [Vu (by simp [decide_eq_false hm])];show _=if t.kind ∈ ks then _ else _;rw [if_neg hm]
theorem kA35 {n:Int} (h:n=3):true=decide (n ∈ [3,5]):=by subst h;decide
theorem kB35 {n:Int} (h:¬ n=3):decide (n=5)=decide (n ∈ [3,5]):=by simp [h]
theorem ifYes {p:Prop} [Decidable p] {f:St→Option St} (hp:p):ifF p f=f:=by funext s;unfold ifF;rw [if_pos hp]
theorem N5 {p:Prop} [Decidable p] {f:St→Option St} (hp:¬ p):ifF p f=some:=by funext s;unfold ifF;rw [if_neg hp]
theorem layVobj {m:Me} {s:ByteArray}:Vw m (Xu s)=U1 m (Xu s):=by funext q;unfold Vw;rw [if_neg (by show ¬ (3:Int)=0;decide)]
theorem Pk {m:Me}:Vw m Yx=U1 m Yx:=by funext q;unfold Vw;rw [if_neg (by decide)]
theorem layVrow {m:Me}:Vw m Uh=U1 m Uh:=by funext q;unfold Vw;rw [if_neg (by decide)]
theorem layVnull {m:Me}:Vw m nullT=U1 m nullT:=by funext q;unfold Vw;rw [if_neg (by decide)]
section
variable {c:Cl} {m:Me} {i:Ins} {s:St}
abbrev stA (c:Cl) (i:Ins):St→Option St:=ifF (i.op=17∨i.op=19) (Va c i.ref.ty)
abbrev stB (c:Cl) (i:Ins):St→Option St:=ifF (i.op=20∨i.op=21) (Xe c i.ref.params)
abbrev stC (c:Cl) (i:Ins):St→Option St:=ifF (i.op=16∨i.op=17∨i.op=20) (Va c (Xu i.ref.cls))
abbrev stP (c:Cl) (i:Ins):St→Option St:=fun s=>((stA c i s).bind (stB c i)).bind (stC c i)
theorem nm15 (h:i.op=15):(stP c i s).bind (Vw m (Xu i.ref.cls))=opF c m i s:=by
 simp only [stP,stA,stB,stC];rw [N5 (p:=i.op=17∨i.op=19) (by omega),N5 (p:=i.op=20∨i.op=21) (by omega),N5 (p:=i.op=16∨i.op=17∨i.op=20) (by omega)];simp [opF,h,Vw,Xu]
theorem nm16 (h:i.op=16):(stP c i s).bind (Vw m i.ref.ty)=opF c m i s:=by
 simp only [stP,stA,stB,stC];rw [N5 (p:=i.op=17∨i.op=19) (by omega),N5 (p:=i.op=20∨i.op=21) (by omega),ifYes (p:=i.op=16∨i.op=17∨i.op=20) (by omega)];simp [opF,h]
theorem nm17 (h:i.op=17):stP c i s=opF c m i s:=by
 simp only [stP,stA,stB,stC];rw [ifYes (p:=i.op=17∨i.op=19) (by omega),N5 (p:=i.op=20∨i.op=21) (by omega),ifYes (p:=i.op=16∨i.op=17∨i.op=20) (by omega)];simp [opF,h]
theorem nm18 (h:i.op=18):(stP c i s).bind (Vw m i.ref.ty)=opF c m i s:=by
 simp only [stP,stA,stB,stC];rw [N5 (p:=i.op=17∨i.op=19) (by omega),N5 (p:=i.op=20∨i.op=21) (by omega),N5 (p:=i.op=16∨i.op=17∨i.op=20) (by omega)];simp [opF,h]
theorem nm19 (h:i.op=19):stP c i s=opF c m i s:=by
 simp only [stP,stA,stB,stC];rw [ifYes (p:=i.op=17∨i.op=19) (by omega),N5 (p:=i.op=20∨i.op=21) (by omega),N5 (p:=i.op=16∨i.op=17∨i.op=20) (by omega)];simp [opF,h]
theorem nm20 (h:i.op=20):(stP c i s).bind (Vw m i.ref.ty)=opF c m i s:=by
 simp only [stP,stA,stB,stC];rw [N5 (p:=i.op=17∨i.op=19) (by omega),ifYes (p:=i.op=20∨i.op=21) (by omega),ifYes (p:=i.op=16∨i.op=17∨i.op=20) (by omega)];simp [opF,h]
theorem nm21 (h:i.op=21):(stP c i s).bind (Vw m i.ref.ty)=opF c m i s:=by
 simp only [stP,stA,stB,stC];rw [N5 (p:=i.op=17∨i.op=19) (by omega),ifYes (p:=i.op=20∨i.op=21) (by omega),N5 (p:=i.op=16∨i.op=17∨i.op=20) (by omega)];simp [opF,h]
theorem nm25 (h:i.op=25):((stP c i s).bind (Qi [3,5])).bind (Vw m (Xu i.ref.cls))=opF c m i s:=by
 simp only [stP,stA,stB,stC];rw [N5 (p:=i.op=17∨i.op=19) (by omega),N5 (p:=i.op=20∨i.op=21) (by omega),N5 (p:=i.op=16∨i.op=17∨i.op=20) (by omega)];simp [opF,h,layVobj]
theorem nm26 (h:i.op=26):((stP c i s).bind (Qi [3,5])).bind (Vw m Yx)=opF c m i s:=by
 simp only [stP,stA,stB,stC];rw [N5 (p:=i.op=17∨i.op=19) (by omega),N5 (p:=i.op=20∨i.op=21) (by omega),N5 (p:=i.op=16∨i.op=17∨i.op=20) (by omega)];simp [opF,h,Pk]
end
theorem takesFdrop {c:Cl} {l:List Ty} {j:Nat} {t:Ty} (h:l[j]?=some t) (s:St):Xe c (l.drop j) s=(Xe c (l.drop (j+1)) s).bind (Va c t):=by
 rw [Q9 h];rfl
set_option maxHeartbeats 1000000 in
theorem named_any (u:World) (b:Nat) (x:CkX) (k:CkM) (i:Ins) (pv:Value) (hk:CkOk x k) (hop:15≤i.op∧i.op≤21∨i.op=25∨i.op=26) (hst:k.st.length≤20) (hn:k.gr.length≤3990000) (hps:Yu u pv i.ref.params) (hpl:i.ref.params.length≤6) (hpk:∀ t ∈ i.ref.params,¬ t.kind=4) (hty:¬ i.ref.ty.kind=4) (hio:N3 i) :
  RuP Tryz.prog 174 #[pt b,.agg (Wx i pv).toArray] u b (ckC x k) (ckA u k) (okF u x k (opF x.c x.m i) 10 1):=by
 intro w hu hF hs0;obtain ⟨pp,cp,rfl,⟨hp1,hp2⟩,hpp⟩:=hps.shape;replace hpp:Hid _:=hpp;replace hpk:Hid _:=hpk;replace hps:Hid _:=hps;refine Yz (hs0) (args:=[pt b,.agg (Wx i (.slice pp i.ref.params.length cp)).toArray]) Tryz.func174 J Tryz.ntmps174 ?_;refine Zg (Zb (Y2 J J ?_));intro b1 hb1;refine Ze (Zc (Zg (Zb (Za J (Zh (ff J) J) (Za J (Zv (tn J) J 0 J J) (Yk J (tz J) ?_))))));intro b2 hb2;refine Z2 (tn J) J J 0 J J J J (Ze (Zc (Sg (Y:=CkM) (fun kA:CkM=>[(0,pt b),(3,pt b1),(4,pt b2)]) (fun kA:CkM=>[(b2,refV i.ref (.slice pp i.ref.params.length cp)),(b1,Wx i (.slice pp i.ref.params.length cp)),(b,ckC x kA)]) (fun kA:CkM=>ckA u kA) (fun kA:CkM=>Go1 x k kA 1 0 (stA x.c i)) ?_ ?_)))
 ·skip
  refine Zg (Zb (Za J (Zh (ff J) J) (Za J (Zj (t1 J) J (Zi 1 J J)) (Za J (Ya J J) (Za J (Zd J) (Z9 J J J ?_ ?_))))))
  ·intro h1;refine Zm J J J (Zm J J J (Zm J J J (Za J (Zp J J) (Ze (Zc (Yh J (Zb (Za J (Zd J) (Za J (Zh (ff J) J) (Za J (Zv (tn J) J 0 J J) ?_))))))))));refine Ye fn271 J J 2 J hu hF (Sl u b x k i.ref.ty hk hty (by omega)) ?_;rintro v cs' R' ⟨rfl,k1,rfl,hR,hk1,hg1,hst1,hs1⟩;refine Zz hR ?_;refine Ze ?_;refine Wj (k1) 0 J J ⟨J,J,J,trivial⟩ ?_;exact (Go1.mk hk1 hg1 hst1 hs1).yes (by omega)
  ·intro h1;refine Zk J J J (Zh (ff J) J) (Zk J J J (Zj (t1 J) J (Zi 1 J J)) (Zk J J J (Ya J J) (Za J (Zs J J) (Ze (Zc (Zu J ?_ ?_))))))
   ·intro c1;refine Zb (Za J (Zd J) (Za J (Zh (ff J) J) (Za J (Zv (tn J) J 0 J J) ?_)));refine Ye fn271 J J 2 J hu hF (Sl u b x k i.ref.ty hk hty (by omega)) ?_;rintro v cs' R' ⟨rfl,k1,rfl,hR,hk1,hg1,hst1,hs1⟩;refine Zz hR ?_;refine Ze ?_;refine Wj (k1) 0 J J ⟨J,J,J,trivial⟩ ?_;exact (Go1.mk hk1 hg1 hst1 hs1).yes (by omega)
   ·intro c1;refine Zo ?_;refine Wj (k) 0 J J ⟨J,J,J,trivial⟩ ?_;exact Go1.no hk (by omega)
 intro kA hJ;have hA:=hJ;refine Sg (Y:=CkM) (fun kB:CkM=>[(0,pt b),(3,pt b1),(4,pt b2)]) (fun kB:CkM=>[(b2,refV i.ref (.slice pp i.ref.params.length cp)),(b1,Wx i (.slice pp i.ref.params.length cp)),(b,ckC x kB)]) (fun kB:CkM=>ckA u kB) (fun kB:CkM=>Go1 x k kB 7 0 (fun s=>(stA x.c i s).bind (stB x.c i))) ?_ ?_
 ·skip
  refine Zg (Zb (Za J (Zh (ff J) J) (Za J (Zj (t1 J) J (Zi 1 J J)) (Za J (Ya J J) (Za J (Zd J) (Z9 J J J ?_ ?_))))))
  ·intro h2;refine Zm J J J (Zm J J J (Zm J J J (Za J (Zp J J) (Ze (Zc (Yh J (Zg (Zb (Za J (Zh (ff J) J) (Za J (Zj (t1 J) J (Zi 0 J J)) (Za J (Zx (ts J) J) ?_)))))))))));refine Za J (Q0 J J ?_) ?_;omega;refine Za J (Zf J) (Ze (Zc (Zn ?_)));refine Yf (Yg (X:=TkL) (fun z=>[(0,pt b),(3,pt b1),(4,pt b2),(5,.int .i64 ((z.j:Int) - 1))]) _ _ (fun z=>[(b2,refV i.ref (.slice pp i.ref.params.length cp)),(b1,Wx i (.slice pp i.ref.params.length cp)),(b,ckC x z.k)]) (fun z=>ckA u z.k) (fun z=>z.j≤i.ref.params.length∧Go1 x kA z.k (i.ref.params.length - z.j) 0 (Xe x.c (i.ref.params.drop z.j))) (fun z=>z.j) (⟨i.ref.params.length,kA⟩) (⟨Nat.le_refl _,(Go1.refl hA.ok).mono (Nat.zero_le _) (Nat.zero_le _) |>.as (fun s _=>by show some s=Xe x.c (i.ref.params.drop i.ref.params.length) s;rw [List.drop_length];rfl)⟩) ?_) ⟨rfl,rfl,rfl,rfl,trivial⟩;intro z hI;obtain ⟨j,kj⟩:=z;obtain ⟨hj1,hj2⟩:=hI;dsimp only at hj1 hj2;refine Zg (Zg (Zb (Za J (Zd J) (Za J (Rq J J) (Ze (Zc (Zu J ?_ ?_)))))))
   ·intro c3;replace c3:(0:Int)≤(j:Int) - 1:=c3;obtain ⟨gp,op,hgp⟩:=hpp.out (by omega);subst hgp;obtain ⟨tA,htn⟩:∃ t,i.ref.params[j - 1]?=some t:=⟨_,List.getElem?_eq_getElem (by omega)⟩;have hg9:=hj2.gr;have hg8:=hA.gr;refine Zo (Zc (Zg (Zn (Zb (Za J (Zd J) (Za J (Zh (ff J) J) (Za J (Zj (t1 J) J (Zi 0 J J)) (Za J (Zd J) ?_))))))));refine Wt (s:=40) (v':=.int .i64 ((j - 1:Nat):Int)) J (congrArg (Value.int .i64) (by show (j:Int) - 1=_;omega)) ?_;refine Za J (Yo (ts J) J J ?_) ?_
    ·omega
    refine Za J (Yj (tn J) J (R6 (u:=u) (fun w hs=>Yu.mono hps.out (Xp hu hF hs)) htn) J) ?_;refine Ye fn271 J J 2 J hu hF (Sl u b x kj tA hj2.ok (hpk.out tA (List.mem_of_getElem? htn)) (by omega)) ?_;rintro v cs' R' ⟨rfl,k1,rfl,hR,hk1,hg1,hst1,hs1⟩;refine Zz hR ?_;refine Ze (Zt (Zc (Zb (Za J (Zd J) (Za J (Ex_sub J J) (Za J (Zf J) (Ze ?_)))))));refine Se (s:=5) (v':=.int .i64 (((j - 1:Nat):Int) - 1)) J (congrArg (Value.int .i64) (by show IntKind.i64.wrap ((j:Int) - 1 - 1)=_;rw [Tu _ (by omega)];omega)) ?_;refine Z1 (⟨j - 1,k1⟩) ?_ (⟨by show j - 1≤_;omega,((hj2.then (Go1.mk hk1 hg1 hst1 hs1)).mono (by show i.ref.params.length - j+1≤i.ref.params.length - (j - 1);omega) (Nat.le_refl _)).as (fun s _=>by show _=Xe x.c (i.ref.params.drop (j - 1)) s;rw [takesFdrop htn,show j - 1+1=j by omega])⟩) 0 rfl (rfl) ⟨rfl,rfl,rfl,rfl,trivial⟩;show j - 1<j;omega
   ·intro c3;replace c3:¬ (0:Int)≤(j:Int) - 1:=c3;refine Yd (Yc (Z5 (Yb ?_)));refine Wj (kj) 0 J J ⟨J,J,J,trivial⟩ ?_;exact (hA.then ((hj2.mono (d':=6) (by omega) (Nat.le_refl _)).as (fun s _=>by rw [show j=0 by omega,List.drop_zero]) |>.yes (by omega))).mono (by omega) (by omega)
  ·intro h2;refine Zk J J J (Zh (ff J) J) (Zk J J J (Zj (t1 J) J (Zi 1 J J)) (Zk J J J (Ya J J) (Za J (Zs J J) (Ze (Zc (Zu J ?_ ?_))))))
   ·intro c2;refine Zg (Zb (Za J (Zh (ff J) J) (Za J (Zj (t1 J) J (Zi 0 J J)) (Za J (Zx (ts J) J) ?_))));refine Za J (Q0 J J ?_) ?_;omega;refine Za J (Zf J) (Ze (Zc (Zn ?_)));refine Yf (Yg (X:=TkL) (fun z=>[(0,pt b),(3,pt b1),(4,pt b2),(5,.int .i64 ((z.j:Int) - 1))]) _ _ (fun z=>[(b2,refV i.ref (.slice pp i.ref.params.length cp)),(b1,Wx i (.slice pp i.ref.params.length cp)),(b,ckC x z.k)]) (fun z=>ckA u z.k) (fun z=>z.j≤i.ref.params.length∧Go1 x kA z.k (i.ref.params.length - z.j) 0 (Xe x.c (i.ref.params.drop z.j))) (fun z=>z.j) (⟨i.ref.params.length,kA⟩) (⟨Nat.le_refl _,(Go1.refl hA.ok).mono (Nat.zero_le _) (Nat.zero_le _) |>.as (fun s _=>by show some s=Xe x.c (i.ref.params.drop i.ref.params.length) s;rw [List.drop_length];rfl)⟩) ?_) ⟨rfl,rfl,rfl,rfl,trivial⟩;intro z hI;obtain ⟨j,kj⟩:=z;obtain ⟨hj1,hj2⟩:=hI;dsimp only at hj1 hj2;refine Zg (Zg (Zb (Za J (Zd J) (Za J (Rq J J) (Ze (Zc (Zu J ?_ ?_)))))))
    ·intro c3;replace c3:(0:Int)≤(j:Int) - 1:=c3;obtain ⟨gp,op,hgp⟩:=hpp.out (by omega);subst hgp;obtain ⟨tA,htn⟩:∃ t,i.ref.params[j - 1]?=some t:=⟨_,List.getElem?_eq_getElem (by omega)⟩;have hg9:=hj2.gr;have hg8:=hA.gr;refine Zo (Zc (Zg (Zn (Zb (Za J (Zd J) (Za J (Zh (ff J) J) (Za J (Zj (t1 J) J (Zi 0 J J)) (Za J (Zd J) ?_))))))));refine Wt (s:=40) (v':=.int .i64 ((j - 1:Nat):Int)) J (congrArg (Value.int .i64) (by show (j:Int) - 1=_;omega)) ?_;refine Za J (Yo (ts J) J J ?_) ?_
     ·omega
     refine Za J (Yj (tn J) J (R6 (u:=u) (fun w hs=>Yu.mono hps.out (Xp hu hF hs)) htn) J) ?_;refine Ye fn271 J J 2 J hu hF (Sl u b x kj tA hj2.ok (hpk.out tA (List.mem_of_getElem? htn)) (by omega)) ?_;rintro v cs' R' ⟨rfl,k1,rfl,hR,hk1,hg1,hst1,hs1⟩;refine Zz hR ?_;refine Ze (Zt (Zc (Zb (Za J (Zd J) (Za J (Ex_sub J J) (Za J (Zf J) (Ze ?_)))))));refine Se (s:=5) (v':=.int .i64 (((j - 1:Nat):Int) - 1)) J (congrArg (Value.int .i64) (by show IntKind.i64.wrap ((j:Int) - 1 - 1)=_;rw [Tu _ (by omega)];omega)) ?_;refine Z1 (⟨j - 1,k1⟩) ?_ (⟨by show j - 1≤_;omega,((hj2.then (Go1.mk hk1 hg1 hst1 hs1)).mono (by show i.ref.params.length - j+1≤i.ref.params.length - (j - 1);omega) (Nat.le_refl _)).as (fun s _=>by show _=Xe x.c (i.ref.params.drop (j - 1)) s;rw [takesFdrop htn,show j - 1+1=j by omega])⟩) 0 rfl (rfl) ⟨rfl,rfl,rfl,rfl,trivial⟩;show j - 1<j;omega
    ·intro c3;replace c3:¬ (0:Int)≤(j:Int) - 1:=c3;refine Yd (Yc (Z5 (Yb ?_)));refine Wj (kj) 0 J J ⟨J,J,J,trivial⟩ ?_;exact (hA.then ((hj2.mono (d':=6) (by omega) (Nat.le_refl _)).as (fun s _=>by rw [show j=0 by omega,List.drop_zero]) |>.yes (by omega))).mono (by omega) (by omega)
   ·intro c2;refine Zo ?_;refine Wj (kA) 0 J J ⟨J,J,J,trivial⟩ ?_;exact (hA.then (Go1.no (d:=6) (e:=0) hA.ok (by omega))).mono (by omega) (by omega)
 intro kB hJ;have hB:=hJ;refine Sg (Y:=CkM) (fun kC:CkM=>[(0,pt b),(3,pt b1),(4,pt b2)]) (fun kC:CkM=>[(b2,refV i.ref (.slice pp i.ref.params.length cp)),(b1,Wx i (.slice pp i.ref.params.length cp)),(b,ckC x kC)]) (fun kC:CkM=>ckA u kC) (fun kC:CkM=>Go1 x k kC 8 0 (stP x.c i)) ?_ ?_
 ·skip
  refine Zg (Zb (Za J (Zh (ff J) J) (Za J (Zj (t1 J) J (Zi 1 J J)) (Za J (Ya J J) (Za J (Zd J) (Z9 J J J ?_ ?_))))))
  ·intro h3;refine Zm J J J (Zm J J J (Zm J J J (Za J (Zp J J) (Za J (Zd J) (Zm J J J (Zm J J J (Zm J J J (Za J (Zp J J) (Ze (Zc (Yh J (Zb (Za J (Zd J) (Za J (Zh (ff J) J) (Za J (Zj (t1 J) J (Zi 0 J J)) (Yq fn107 J J (fun w' _=>Vd _ w') ?_))))))))))))))));refine Ye fn271 J J 2 J hu hF (Sl u b x kB (Xu i.ref.cls) hB.ok (by show ¬ (3:Int)=4;decide) (by have h9:=hB.gr;omega)) ?_;rintro v cs' R' ⟨rfl,k1,rfl,hR,hk1,hg1,hst1,hs1⟩;refine Zz hR ?_;refine Ze ?_;refine Wj (k1) 0 J J ⟨J,J,J,trivial⟩ ?_;exact (hB.then ((Go1.mk hk1 hg1 hst1 hs1).yes (by omega))).mono (by omega) (by omega)
  ·intro h3;refine Zk J J J (Zh (ff J) J) (Zk J J J (Zj (t1 J) J (Zi 1 J J)) (Zk J J J (Ya J J) (Za J (Zs J J) (Za J (Zd J) (Z9 J J J ?_ ?_)))))
   ·intro h4;refine Zm J J J (Zm J J J (Zm J J J (Za J (Zp J J) (Ze (Zc (Yh J (Zb (Za J (Zd J) (Za J (Zh (ff J) J) (Za J (Zj (t1 J) J (Zi 0 J J)) (Yq fn107 J J (fun w' _=>Vd _ w') ?_)))))))))));refine Ye fn271 J J 2 J hu hF (Sl u b x kB (Xu i.ref.cls) hB.ok (by show ¬ (3:Int)=4;decide) (by have h9:=hB.gr;omega)) ?_;rintro v cs' R' ⟨rfl,k1,rfl,hR,hk1,hg1,hst1,hs1⟩;refine Zz hR ?_;refine Ze ?_;refine Wj (k1) 0 J J ⟨J,J,J,trivial⟩ ?_;exact (hB.then ((Go1.mk hk1 hg1 hst1 hs1).yes (by omega))).mono (by omega) (by omega)
   ·intro h4;refine Zk J J J (Zh (ff J) J) (Zk J J J (Zj (t1 J) J (Zi 1 J J)) (Zk J J J (Ya J J) (Za J (Zs J J) (Ze (Zc (Zu J ?_ ?_))))))
    ·intro c4;refine Zb (Za J (Zd J) (Za J (Zh (ff J) J) (Za J (Zj (t1 J) J (Zi 0 J J)) (Yq fn107 J J (fun w' _=>Vd _ w') ?_))));refine Ye fn271 J J 2 J hu hF (Sl u b x kB (Xu i.ref.cls) hB.ok (by show ¬ (3:Int)=4;decide) (by have h9:=hB.gr;omega)) ?_;rintro v cs' R' ⟨rfl,k1,rfl,hR,hk1,hg1,hst1,hs1⟩;refine Zz hR ?_;refine Ze ?_;refine Wj (k1) 0 J J ⟨J,J,J,trivial⟩ ?_;exact (hB.then ((Go1.mk hk1 hg1 hst1 hs1).yes (by omega))).mono (by omega) (by omega)
    ·intro c4;refine Zo ?_;refine Wj (kB) 0 J J ⟨J,J,J,trivial⟩ ?_;exact (hB.then (Go1.no (d:=1) (e:=0) hB.ok (by omega))).mono (by omega) (by omega)
 intro kC hJ;have hC:=hJ;have hC8:=hC.gr;have hC9:=hC.st;refine Zg (Zb (Za J (Zh (ff J) J) (Za J (Zj (t1 J) J (Zi 1 J J)) (Ze (Zc (Zn (Zg (Zb (Za J (Ya J J) (Za J (Zf J) (Ze (Zc (Zu J ?_ ?_)))))))))))))
 ·intro c5;refine Zb (Za J (Zd J) (Za J (Zh (ff J) J) (Za J (Zj (t1 J) J (Zi 0 J J)) (Yq fn107 J J (fun w' _=>Vd _ w') ?_))));refine Ye S7 J J 2 J hu hF (Vt u b x kC (Xu i.ref.cls) hC.ok ⟨by show Wc 3;unfold Wc;decide,hio.2.2.1⟩ (fun _=>by show ¬ (3:Int)=4;decide) (by omega)) ?_;rintro v cs' R' ⟨rfl,k1,rfl,hR,hk1,hg1,hst1,hs1⟩;refine Zz hR ?_;refine Ze (Zt (Xa J 2 J ?_));exact (((hC.then (Go1.mk hk1 hg1 hst1 hs1)).as (fun s _=>nm15 (by omega))).mono (by omega) (by omega)).okF
 ·intro c5;refine Zg (Zg (Zb (Za J (Ya J J) (Za J (Zf J) (Ze (Zc (Zu J ?_ ?_)))))))
  ·intro c6;refine Zo (Zc (Yh J (Zb (Za J (Zd J) (Za J (Zh (ff J) J) (Za J (Zv (tn J) J 0 J J) ?_))))));refine Ye S7 J J 2 J hu hF (Vt u b x kC i.ref.ty hC.ok hio.2.2.2.2 (fun _=>hty) (by omega)) ?_;rintro v cs' R' ⟨rfl,k1,rfl,hR,hk1,hg1,hst1,hs1⟩;refine Zz hR ?_;refine Ze (Zt (Xa J 2 J ?_));exact (((hC.then (Go1.mk hk1 hg1 hst1 hs1)).as (fun s _=>by first | exact nm16 (by omega) | exact nm18 (by omega) | exact nm20 (by omega) | exact nm21 (by omega))).mono (by omega) (by omega)).okF
  ·intro c6;refine Zg (Zb (Za J (Ya J J) (Za J (Zf J) (Ze (Zc (Zu J ?_ ?_))))))
   ·intro c7;refine Zo (Zc (Yh J (Zb (Za J (Zd J) (Za J (Zh (ff J) J) (Za J (Zv (tn J) J 0 J J) ?_))))));refine Ye S7 J J 2 J hu hF (Vt u b x kC i.ref.ty hC.ok hio.2.2.2.2 (fun _=>hty) (by omega)) ?_;rintro v cs' R' ⟨rfl,k1,rfl,hR,hk1,hg1,hst1,hs1⟩;refine Zz hR ?_;refine Ze (Zt (Xa J 2 J ?_));exact (((hC.then (Go1.mk hk1 hg1 hst1 hs1)).as (fun s _=>by first | exact nm16 (by omega) | exact nm18 (by omega) | exact nm20 (by omega) | exact nm21 (by omega))).mono (by omega) (by omega)).okF
   ·intro c7;refine Zg (Zb (Za J (Ya J J) (Za J (Zf J) (Ze (Zc (Zu J ?_ ?_))))))
    ·intro c8;refine Zo (Zc (Yh J (Zb (Za J (Zd J) (Za J (Zh (ff J) J) (Za J (Zv (tn J) J 0 J J) ?_))))));refine Ye S7 J J 2 J hu hF (Vt u b x kC i.ref.ty hC.ok hio.2.2.2.2 (fun _=>hty) (by omega)) ?_;rintro v cs' R' ⟨rfl,k1,rfl,hR,hk1,hg1,hst1,hs1⟩;refine Zz hR ?_;refine Ze (Zt (Xa J 2 J ?_));exact (((hC.then (Go1.mk hk1 hg1 hst1 hs1)).as (fun s _=>by first | exact nm16 (by omega) | exact nm18 (by omega) | exact nm20 (by omega) | exact nm21 (by omega))).mono (by omega) (by omega)).okF
    ·intro c8;refine Zb (Za J (Ya J J) (Za J (Zf J) (Ze (Zc (Zu J ?_ ?_)))))
     ·intro c9;refine Zb (Za J (Zd J) (Za J (Zh (ff J) J) (Za J (Zv (tn J) J 0 J J) ?_)));refine Ye S7 J J 2 J hu hF (Vt u b x kC i.ref.ty hC.ok hio.2.2.2.2 (fun _=>hty) (by omega)) ?_;rintro v cs' R' ⟨rfl,k1,rfl,hR,hk1,hg1,hst1,hs1⟩;refine Zz hR ?_;refine Ze (Zt (Xa J 2 J ?_));exact (((hC.then (Go1.mk hk1 hg1 hst1 hs1)).as (fun s _=>by first | exact nm16 (by omega) | exact nm18 (by omega) | exact nm20 (by omega) | exact nm21 (by omega))).mono (by omega) (by omega)).okF
     ·intro c9;refine Zg (Zg (Zb (Za J (Ya J J) (Za J (Zf J) (Ze (Zc (Zu J ?_ ?_)))))))
      ·intro c10;refine Zo (Zc (Yh J (Zg (Zb (Za J (Zd J) ?_)))));refine Ye fn273 J J 2 J hu hF (M0 u b x kC hC.ok) ?_;rintro v cs' R' ⟨tt,k0,rfl,rfl,hR,hk0,hg0,hl0,hst0,hto,hs0'⟩;refine Zz hR ?_;refine Yk J (tz J) ?_;intro b3 hb3;refine Z2 (tn J) J J 0 J J J J (Ze (Zc (Zg (Zb (Za J (Zd J) (Za J (Zh (ff J) J) (Za J (Zj (t1 J) J (Zi 0 J J)) (Za J (Ya J J) (Za J (Zd J) (Z9 J J J ?_ ?_))))))))))
       ·intro h5;have hq:tt.kind=3:=by assumption
        refine Zm J J J (Zm J J J (Zm J J J (Za J (Zp J J) ?_)));refine Ye Ru J J 3 J hu hF (Vh u b x k0 _) ?_;rintro v cs' R' ⟨rfl,rfl,hR⟩;refine Zz hR ?_;have hK:=M2 (ks:=[3,5]) (is:=true) hk0 hg0 hst0 hs0' (kA35 hq);refine Ze (Zc (Zg (Zb (Za J (Zh (ff J) J) (Za J (Zj (t1 J) J (Zi 2 J J)) (Za J (Ya J J) (Ze (Zc (Zu J ?_ ?_)))))))))
        ·intro c12;refine Zb (Za J (Zd J) (Za J (Zh (ff J) J) (Za J (Zj (t1 J) J (Zi 1 J J)) (Yq fn107 J J (fun w' _=>Vd _ w') ?_))));refine Ye S7 J J 3 J hu hF (Vt u b x _ (Xu i.ref.cls) hK.ok ⟨by show Wc 3;unfold Wc;decide,hio.2.2.1⟩ (fun _=>by show ¬ (3:Int)=4;decide) (by have h9:=hK.st;dsimp only at h9 ⊢;omega)) ?_;rintro v cs' R' ⟨rfl,k1,rfl,hR,hk1,hg1,hst1,hs1⟩;refine Zz hR ?_;refine Ze (Zt (Xa J 3 J ?_));exact ((((hC.then hK).then (Go1.mk hk1 hg1 hst1 hs1)).as (fun s _=>by first | exact nm25 (by omega) | exact nm26 (by omega))).mono (by omega) (by omega)).okF
        ·intro c12;exfalso;omega
       ·intro h5;have hq:¬ tt.kind=3:=by assumption
        refine Zk J J J (Zh (ff J) J) (Zk J J J (Zj (t1 J) J (Zi 0 J J)) (Zk J J J (Ya J J) (Za J (Zs J J) ?_)));refine Ye Ru J J 3 J hu hF (Vh u b x k0 _) ?_;rintro v cs' R' ⟨rfl,rfl,hR⟩;refine Zz hR ?_;have hK:=M2 (ks:=[3,5]) (is:=decide (tt.kind=5)) hk0 hg0 hst0 hs0' (kB35 hq);refine Ze (Zc (Zg (Zb (Za J (Zh (ff J) J) (Za J (Zj (t1 J) J (Zi 2 J J)) (Za J (Ya J J) (Ze (Zc (Zu J ?_ ?_)))))))))
        ·intro c12;refine Zb (Za J (Zd J) (Za J (Zh (ff J) J) (Za J (Zj (t1 J) J (Zi 1 J J)) (Yq fn107 J J (fun w' _=>Vd _ w') ?_))));refine Ye S7 J J 3 J hu hF (Vt u b x _ (Xu i.ref.cls) hK.ok ⟨by show Wc 3;unfold Wc;decide,hio.2.2.1⟩ (fun _=>by show ¬ (3:Int)=4;decide) (by have h9:=hK.st;dsimp only at h9 ⊢;omega)) ?_;rintro v cs' R' ⟨rfl,k1,rfl,hR,hk1,hg1,hst1,hs1⟩;refine Zz hR ?_;refine Ze (Zt (Xa J 3 J ?_));exact ((((hC.then hK).then (Go1.mk hk1 hg1 hst1 hs1)).as (fun s _=>by first | exact nm25 (by omega) | exact nm26 (by omega))).mono (by omega) (by omega)).okF
        ·intro c12;exfalso;omega
      ·intro c10;refine Zb (Za J (Ya J J) (Za J (Zf J) (Ze (Zc (Zu J ?_ ?_)))))
       ·intro c11;refine Zg (Zb (Za J (Zd J) ?_));refine Ye fn273 J J 2 J hu hF (M0 u b x kC hC.ok) ?_;rintro v cs' R' ⟨tt,k0,rfl,rfl,hR,hk0,hg0,hl0,hst0,hto,hs0'⟩;refine Zz hR ?_;refine Yk J (tz J) ?_;intro b3 hb3;refine Z2 (tn J) J J 0 J J J J (Ze (Zc (Zg (Zb (Za J (Zd J) (Za J (Zh (ff J) J) (Za J (Zj (t1 J) J (Zi 0 J J)) (Za J (Ya J J) (Za J (Zd J) (Z9 J J J ?_ ?_))))))))))
        ·intro h6;have hq:tt.kind=3:=by assumption
         refine Zm J J J (Zm J J J (Zm J J J (Za J (Zp J J) ?_)));refine Ye Ru J J 3 J hu hF (Vh u b x k0 _) ?_;rintro v cs' R' ⟨rfl,rfl,hR⟩;refine Zz hR ?_;have hK:=M2 (ks:=[3,5]) (is:=true) hk0 hg0 hst0 hs0' (kA35 hq);refine Ze (Zc (Zg (Zb (Za J (Zh (ff J) J) (Za J (Zj (t1 J) J (Zi 2 J J)) (Za J (Ya J J) (Ze (Zc (Zu J ?_ ?_)))))))))
         ·intro c12;exfalso;omega
         ·intro c12;refine Zb (Za J (Zd J) (Za J (Z8 (tb J) J J) ?_));refine Ye S7 J J 3 J hu hF (Vt u b x _ Yx hK.ok ⟨by show Wc 1;unfold Wc;decide,by show X5 At.mt;unfold X5 At.mt;decide⟩ (fun _=>by show ¬ (1:Int)=4;decide) (by have h9:=hK.st;dsimp only at h9 ⊢;omega)) ?_;rintro v cs' R' ⟨rfl,k1,rfl,hR,hk1,hg1,hst1,hs1⟩;refine Zz hR ?_;refine Ze (Zt (Xa J 3 J ?_));exact ((((hC.then hK).then (Go1.mk hk1 hg1 hst1 hs1)).as (fun s _=>by first | exact nm25 (by omega) | exact nm26 (by omega))).mono (by omega) (by omega)).okF
        ·intro h6;have hq:¬ tt.kind=3:=by assumption
         refine Zk J J J (Zh (ff J) J) (Zk J J J (Zj (t1 J) J (Zi 0 J J)) (Zk J J J (Ya J J) (Za J (Zs J J) ?_)));refine Ye Ru J J 3 J hu hF (Vh u b x k0 _) ?_;rintro v cs' R' ⟨rfl,rfl,hR⟩;refine Zz hR ?_;have hK:=M2 (ks:=[3,5]) (is:=decide (tt.kind=5)) hk0 hg0 hst0 hs0' (kB35 hq);refine Ze (Zc (Zg (Zb (Za J (Zh (ff J) J) (Za J (Zj (t1 J) J (Zi 2 J J)) (Za J (Ya J J) (Ze (Zc (Zu J ?_ ?_)))))))))
         ·intro c12;exfalso;omega
         ·intro c12;refine Zb (Za J (Zd J) (Za J (Z8 (tb J) J J) ?_));refine Ye S7 J J 3 J hu hF (Vt u b x _ Yx hK.ok ⟨by show Wc 1;unfold Wc;decide,by show X5 At.mt;unfold X5 At.mt;decide⟩ (fun _=>by show ¬ (1:Int)=4;decide) (by have h9:=hK.st;dsimp only at h9 ⊢;omega)) ?_;rintro v cs' R' ⟨rfl,k1,rfl,hR,hk1,hg1,hst1,hs1⟩;refine Zz hR ?_;refine Ze (Zt (Xa J 3 J ?_));exact ((((hC.then hK).then (Go1.mk hk1 hg1 hst1 hs1)).as (fun s _=>by first | exact nm25 (by omega) | exact nm26 (by omega))).mono (by omega) (by omega)).okF
       ·intro c11;refine Zo (Zt (Xa J 2 J ?_));exact ((hC.as (fun s _=>by rcases (show i.op=17∨i.op=19 by omega) with h | h;exact nm17 h;exact nm19 h)).mono (by omega) (by omega)).okF
end
namespace E
open Go Go.RowKit
structure WS (P:Program) (n:Nat) (all:Array Oper) (rest l:List Oper) (E:Env) (w0:World) (F:List Nat) (H:Hp) (R:Asr) (fn:Func) (Z:Ending→World→Prop) (κ:List Kf):Prop where
 go:∀ w,Sat w0 F H R w→∀ a,Ag n a E→wpStill P all w (fun a'=>wpList P all (den P fn Z κ) rest a' w) l a
section
variable {P:Program} {n:Nat} {E:Env} {w0:World} {F:List Nat} {H:Hp} {R:Asr} {fn:Func} {Z:Ending→World→Prop} {κ:List Kf}
theorem Lk (k:Nat) {id:Nat} {l:List Oper} (hm:P.follows .mixedOrders=true) (hB:Region.lexTailB .any l.toArray k=true) (h:WS P n l.toArray (l.drop k) (l.take k) E w0 F H R fn Z κ):WC P n (.region id l.toArray true) E w0 F H R fn Z κ :=
 ⟨fun w hs a ha=>wp_region_still_tail k hm hB (h.go _ (hs.drawn _) a ha)⟩
theorem WS_nil {all:Array Oper} {rest:List Oper} (h:WL P n all rest E w0 F H R fn Z κ):WS P n all rest [] E w0 F H R fn Z κ:=⟨fun w hs a ha=>wpStill_nil (h.go w hs a ha)⟩
theorem still_of {o:Op} {d:Option Nat} {t:TypeId} {p:String} {x:Array Edge} {g:Option (Nat × Bool)} {v:Value} {a:Act} {w:World} {K:Act→Prop} (he:Ex P n E w0 F H R o v) (hs:Sat w0 F H R w) (ha:Ag n a E)
  (h:K (a.put d v)):Oper.still P ⟨d,o,t,p,x,g⟩ a w K:=by
 unfold Oper.still;rw [he.go w hs a ha];exact ⟨J,h⟩
theorem Xs {all:Array Oper} {rest l:List Oper} {d:Nat} {o:Op} {t:TypeId} {p:String} {x:Array Edge} {v:Value} (hd:Nat.blt d n=true) (he:Ex P n E w0 F H R o v)
  (h:WS P n all rest l ((d,v)::E) w0 F H R fn Z κ):WS P n all rest (⟨some d,o,t,p,x,none⟩::l) E w0 F H R fn Z κ :=
 ⟨fun w hs a ha=>wpStill_step fun _ hK=>by
  rw [if_pos (by rfl)];exact still_of he hs ha (hK _ (h.go w hs _ (ha.put hd v)))⟩
theorem WS_same {all:Array Oper} {rest l:List Oper} {s:Nat} {v v':Value} (hl:look E s=some v) (hv:v=v') (h:WS P n all rest l ((s,v')::E) w0 F H R fn Z κ):WS P n all rest l E w0 F H R fn Z κ :=
 ⟨fun w hs a ha=>h.go w hs a (ha.known (by rw [hl,hv]))⟩
end
end E
end Go.Proofs.YtpofmnfkdkmieaaGreat
