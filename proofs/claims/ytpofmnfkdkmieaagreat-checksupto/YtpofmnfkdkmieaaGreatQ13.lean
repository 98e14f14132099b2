/- What is proved here: the document's own answer IsClass answer -/
import Derived.Test.YtpofmnfkdkmieaaGreatQ12
import Derived.Test.YtpofmnfkdkmieaaGreatQ09
set_option linter.unusedVariables false
set_option linter.unusedSimpArgs false
namespace Go.Proofs.YtpofmnfkdkmieaaGreat
section
open Go.RowKit At E
def Lb (c:Cl):Bool:=X4 c.name&&X4 c.super&&decide ((c.fields.length:Int)≤20)&&decide ((c.methods.length:Int)≤20)
theorem O4 (c:Cl):Xm c=(Lb c&&(List.range c.fields.length).all (fdAt c.fields)&&(List.range c.methods.length).all (meAt c.methods)):=rfl
theorem cls_head {c:Cl} (h:Lb c=false):Xm c=false:=by rw [O4,h];rfl
theorem cls_fds {c:Cl} (h:(List.range c.fields.length).all (fdAt c.fields)=false):Xm c=false:=by rw [O4,h];simp
theorem cls_mes {c:Cl} (h:(List.range c.methods.length).all (meAt c.methods)=false):Xm c=false:=by rw [O4,h];simp
theorem cls_yes {c:Cl} (h1:Lb c=true) (h2:(List.range c.fields.length).all (fdAt c.fields)=true) (h3:(List.range c.methods.length).all (meAt c.methods)=true):Xm c=true:=by rw [O4,h1,h2,h3];rfl
set_option maxHeartbeats 2000000 in
theorem isClass_any (c:Cl) (fv mv:Value) (w:World) (hc0:ClAt w c fv mv):Vc Tryz.prog 54 #[.agg (clV c fv mv).toArray] w (.bool (Xm c)):=by
 obtain ⟨p1,e1,rfl,hl1,hr1⟩:=hc0.fs.is;obtain ⟨p2,e2,rfl,hl2,hr2⟩:=hc0.ms.is;replace hr1:Hid _:=hr1;replace hr2:Hid _:=hr2;have hnm:=hc0.ok;clear hc0;refine Xf (args:=[.agg (clV c (.slice p1 c.fields.length e1) (.slice p2 c.methods.length e2)).toArray]) Tryz.func54 J Tryz.ntmps54 ?_;refine Zg (Zb (Y2 J J ?_));intro b0 hb0;refine Za J (Zf J) (Ze (Zc (Zg (Zb (Za J (Zh (ff J) J) (Za J (Zj (t1 J) J (Zi 0 J J)) (Yq fn93 J J (fun w _=>Sr _ w hnm.1) ?_)))))));refine Za J (Zf J) (Ze (Zc (Zg (Zb (Za J (Zh (ff J) J) (Za J (Zj (t1 J) J (Zi 0 J J)) (Yq fn93 J J (fun w _=>Sr _ w hnm.2) ?_)))))));refine Za J (Zf J) (Ze (Zc (Zg (Zg (Zb (Za J (Zd J) (Za J (Xv J) (Za J (Zd J) (Ub J J J ?_ ?_)))))))))
 ·intro h1;refine Zm J J J (Zm J J J (Za J (Zp J J) (Za J (Zd J) (Zm J J J (Zm J J J (Zm J J J (Zm J J J (Za J (Zp J J) (Za J (Zd J) (Zm J J J (Zm J J J (Zm J J J (Zm J J J (Za J (Zp J J) (Ze (Zc (Yh J ?_)))))))))))))))));have hF:=cls_head (c:=c) (by (simp_all [Lb];done));refine Zg (Zb (Za J (Zf J) (Ze (Zc (Zr (Zl (Z3 J J ?_)))))));exact congrArg Value.bool hF.symm
 ·intro h1;refine Zk J J J (Zd J) (Zk J J J (Xv J) (Za J (Zs J J) (Za J (Zd J) (Ub J J J ?_ ?_))))
  ·intro h2;refine Zm J J J (Zm J J J (Zm J J J (Zm J J J (Za J (Zp J J) (Za J (Zd J) (Zm J J J (Zm J J J (Zm J J J (Zm J J J (Za J (Zp J J) (Ze (Zc (Yh J ?_)))))))))))));have hF:=cls_head (c:=c) (by (simp_all [Lb];done));refine Zg (Zb (Za J (Zf J) (Ze (Zc (Zr (Zl (Z3 J J ?_)))))));exact congrArg Value.bool hF.symm
  ·intro h2;refine Zk J J J (Zh (ff J) J) (Zk J J J (Zj (t1 J) J (Zi 0 J J)) (Zk J J J (Zx (ts J) J) (Zk J J J (Ug J J) (Za J (Zs J J) (Za J (Zd J) (Z9 J J J ?_ ?_))))))
   ·intro h3;refine Zm J J J (Zm J J J (Zm J J J (Zm J J J (Za J (Zp J J) (Ze (Zc (Yh J ?_)))))));have hF:=cls_head (c:=c) (by (simp_all [Lb];omega));refine Zg (Zb (Za J (Zf J) (Ze (Zc (Zr (Zl (Z3 J J ?_)))))));exact congrArg Value.bool hF.symm
   ·intro h3;refine Zk J J J (Zh (ff J) J) (Zk J J J (Zj (t1 J) J (Zi 0 J J)) (Zk J J J (Zx (ts J) J) (Zk J J J (Ug J J) (Za J (Zs J J) (Ze (Zc (Zu J ?_ ?_)))))))
    ·intro c1;have hF:=cls_head (c:=c) (by (simp_all [Lb];done));refine Zg (Zb (Za J (Zf J) (Ze (Zc (Zr (Zl (Z3 J J ?_)))))));exact congrArg Value.bool hF.symm
    ·intro c1;have hHd:Lb c=true:=by (simp_all [Lb];done)
     refine Zo (Zc (Zg (Zg (Zb (Za J (Zf J) (Ze (Zc (Zn ?_))))))));refine Yf (Yg (X:=Nat) (fun i=>[(1,pt b0),(5,iN i)]) _ _ (fun i=>[(b0,clV c (.slice p1 c.fields.length e1) (.slice p2 c.methods.length e2))]) (fun i=>Asr.none) (fun i=>i≤c.fields.length∧(List.range i).all (fdAt c.fields)=true) (fun i=>c.fields.length - i) (0) (⟨Nat.zero_le _,J⟩) ?_) ⟨J,J,trivial⟩;intro i hI;refine Zg (Zg (Zb (Za J (Zd J) (Za J (Zh (ff J) J) (Za J (Zj (t1 J) J (Zi 0 J J)) (Za J (Zx (ts J) J) (Za J (Yi J J) (Ze (Zc (Zu J ?_ ?_))))))))))
     ·intro c2;have hi:i<c.fields.length:=by omega
      obtain ⟨b,o,r,hp,hb,⟨hr,hfo⟩,hc⟩:=hr1.out i c.fields[i] (List.getElem?_eq_getElem hi);subst hp;subst hr;refine Zo (Zc (Zg (Zn (Zg (Zb (Za J (Zh (ff J) J) (Za J (Zj (t1 J) J (Zi 0 J J)) (Za J (Zd J) (Za J (Yo (ts J) J J ?_) ?_)))))))))
      ·omega
      refine Za J (Zh (ff J) J) (Za J (Zj (t1 J) J (Z6 (hc 0 _ J) hb)) (Yq fn93 J J (fun w _=>Sr _ w hfo.1) ?_));refine Za J (Zf J) (Ze (Zc (Zg (Zb (Za J (Zh (ff J) J) (Za J (Zj (t1 J) J (Zi 0 J J)) (Za J (Zd J) (Za J (Yo (ts J) J J ?_) ?_))))))))
      ·omega
      refine Za J (Zh (ff J) J) (Za J (Yj (tn J) J (Xl (sub_row hc 2 2) hb) J) (Yq fn94 J J (fun w _=>M3 _ _ _ w hfo.2) ?_));refine Za J (Zf J) (Ze (Zc (Zg (Zg (Zb (Za J (Zd J) (Za J (Xv J) (Za J (Zd J) (Ub J J J ?_ ?_)))))))))
      ·intro h4;refine Zm J J J (Zm J J J (Za J (Zp J J) (Ze (Zc (Yh J ?_)))));have hF:=cls_fds (Wb hi (by rw [Rv hi];simp_all));refine Zg (Zb (Za J (Zf J) (Ze (Zc (Zr (Zl (Zl (Zl (Zl (Zl (Zl (Z3 J J ?_))))))))))));exact congrArg Value.bool hF.symm
      ·intro h4;refine Zk J J J (Zd J) (Zk J J J (Xv J) (Za J (Zs J J) (Ze (Zc (W4 J ?_ ?_)))))
       ·intro c3;have hF:=cls_fds (Wb hi (by rw [Rv hi];simp_all));refine Zg (Zb (Za J (Zf J) (Ze (Zc (Zr (Zl (Zl (Zl (Zl (Zl (Zl (Z3 J J ?_))))))))))));exact congrArg Value.bool hF.symm
       ·intro c3;refine Zo (Zc (Zg (Zb (Za J (Zf J) (Ze (Zc (Zn ?_)))))));have hO:=hI;refine Yf (Yg (X:=Nat) (fun k=>[(1,pt b0),(5,iN i),(6,.bool (X4 c.fields[i].name)),(7,.bool (X7 c.fields[i].ty false false)),(8,iN k)]) _ _ (fun k=>[(b0,clV c (.slice (some ⟨b,o,none⟩) c.fields.length e1) (.slice p2 c.methods.length e2))]) (fun k=>Asr.none) (fun k=>k≤i∧(List.range k).all (fdNe c.fields i)=true) (fun k=>i - k) (0) (⟨Nat.zero_le _,J⟩) ?_) ⟨J,J,J,J,J,trivial⟩;intro k hI;refine Zg (Zg (Zb (Za J (Zd J) (Za J (Zd J) (Za J (Yi J J) (Ze (Zc (Zu J ?_ ?_))))))))
        ·intro c4;have hki:k<i:=by omega
         have hk:k<c.fields.length:=by omega
         obtain ⟨b',o',r',hp',hb',⟨hr', -⟩,hc'⟩:=hr1.out k c.fields[k] (List.getElem?_eq_getElem hk);cases hp';subst hr';refine Zo (Zc (Zg (Zn (Zg (Ws X2 (by kernel_rfl) ?_)))));refine Zq J (Zh (ff J) J) (Zq J (Zj (t1 J) J (Zi 0 J J)) (Zq J (Zd J) (Zq J (Yo (ts J) J J ?_) ?_)))
         ·omega
         refine Zq J (Zh (ff J) J) (Zq J (Zj (t1 J) J (Z6 (hc' 0 _ J) hb')) (Zq J (Zh (ff J) J) (Zq J (Zj (t1 J) J (Zi 0 J J)) (Zq J (Zd J) (Zq J (Yo (ts J) J J ?_) ?_)))))
         ·omega
         refine Zq J (Zh (ff J) J) (Zq J (Zj (t1 J) J (Z6 (hc 0 _ J) hb)) (Zq J (Y7 J J) (Wi (Zc (Zu J ?_ ?_)))))
         ·intro c5;have hF:=cls_fds (Wb hi (by rw [Rv hi,show fdNew c.fields i=false from Wb hki (by rw [fdNe_some hi hk];simp_all)];simp));refine Zg (Zb (Za J (Zf J) (Ze (Zc (Zr (Zl (Zl (Zl (Zl (Zl (Zl (Zl (Zl (Zl (Z3 J J ?_)))))))))))))));exact congrArg Value.bool hF.symm
         ·intro c5;refine Zo (Zt (Zc (Zb (Za J (Zd J) ?_))));refine Za J (Yn J J ?_) ?_;omega;refine Za J (Zf J) (Ze ?_);refine Z1 (k+1) ?_ (⟨by omega,Ud hI.2 (by rw [fdNe_some hi hk];simp_all)⟩) 0 rfl (rfl) ⟨rfl,rfl,rfl,rfl,rfl,trivial⟩;omega
        ·intro c4;have hN:fdNew c.fields i=true:=Tl hI.1 (by omega) hI.2;have hA:fdAt c.fields i=true:=by rw [Rv hi,hN];simp_all
         refine Yd (Yc (Z5 (Yb (Zt (Zc (Zb (Za J (Zd J) ?_)))))));refine Za J (Yn J J ?_) ?_;omega;refine Za J (Zf J) (Ze ?_);refine Z1 (i+1) ?_ (⟨by omega,Ud hO.2 hA⟩) 0 J (J) ⟨J,J,trivial⟩;omega
     ·intro c2;have hFd:=Tl hI.1 (by omega) hI.2;refine Yd (Yc (Z5 (Yb (Zc (Zg (Zg (Zb (Za J (Zf J) (Ze (Zc (Zn ?_)))))))))));refine Yf (Yg (X:=Nat) (fun i=>[(1,pt b0),(9,iN i)]) _ _ (fun i=>[(b0,clV c (.slice p1 c.fields.length e1) (.slice p2 c.methods.length e2))]) (fun i=>Asr.none) (fun i=>i≤c.methods.length∧(List.range i).all (meAt c.methods)=true) (fun i=>c.methods.length - i) (0) (⟨Nat.zero_le _,J⟩) ?_) ⟨J,J,trivial⟩;intro i hI;refine Zg (Zg (Zb (Za J (Zd J) (Za J (Zh (ff J) J) (Za J (Zj (t1 J) J (Zi 0 J J)) (Za J (Zx (ts J) J) (Za J (Yi J J) (Ze (Zc (Zu J ?_ ?_))))))))))
      ·intro c6;have hi:i<c.methods.length:=by omega
       obtain ⟨b,o,r,hp,hb,⟨pv,cv,hv,fv,hr,hmp⟩,hc⟩:=hr2.out i c.methods[i] (List.getElem?_eq_getElem hi);subst hp;subst hr;refine Zo (Zc (Zg (Zn (Zg (Zb (Za J (Zh (ff J) J) (Za J (Zj (t1 J) J (Zi 0 J J)) (Za J (Zd J) (Za J (Yo (ts J) J J ?_) ?_)))))))))
       ·omega
       refine Za J (Yj (tn J) J (Xl hc hb) J) (Yq fn95 J J (fun w hs=>isMethod_any _ _ _ _ _ w (hmp.mono (Xx hs))) ?_);refine Za J (Zf J) (Ze (Zc (Zg (Zg (Zb (Za J (Zd J) (Za J (Xv J) (Ze (Zc (W4 J ?_ ?_))))))))))
       ·intro c7;have hF:=cls_mes (Wb hi (by rw [Qr hi];simp_all));refine Zg (Zb (Za J (Zf J) (Ze (Zc (Zr (Zl (Zl (Zl (Zl (Zl (Zl (Z3 J J ?_))))))))))));exact congrArg Value.bool hF.symm
       ·intro c7;have hmb:Yt c.methods[i]=true:=by simp_all
        have hsm:=Ri hmb;have hsg:=isMethodB_sig hmb;refine Zo (Zc (Zg (Zb (Za J (Zf J) (Ze (Zc (Zn ?_)))))));have hO:=hI;refine Yf (Yg (X:=Nat) (fun k=>[(1,pt b0),(9,iN i),(11,iN k)]) _ _ (fun k=>[(b0,clV c (.slice p1 c.fields.length e1) (.slice (some ⟨b,o,none⟩) c.methods.length e2))]) (fun k=>Asr.none) (fun k=>k≤i∧(List.range k).all (meNe c.methods i)=true) (fun k=>i - k) (0) (⟨Nat.zero_le _,J⟩) ?_) ⟨J,J,J,trivial⟩;intro k hI;refine Zg (Zg (Zb (Za J (Zd J) (Za J (Zd J) (Za J (Yi J J) (Ze (Zc (Zu J ?_ ?_))))))))
        ·intro c8;have hki:k<i:=by omega
         have hk:k<c.methods.length:=by omega
         obtain ⟨b',o',r',hp',hb',⟨pv',cv',hv',fv',hr',hmp'⟩,hc'⟩:=hr2.out k c.methods[k] (List.getElem?_eq_getElem hk);cases hp';subst hr';have hmb':Yt c.methods[k]=true:=by have h9:=List.all_eq_true.1 hO.2 k (List.mem_range.2 hki);rw [Qr hk,Bool.and_eq_true] at h9;exact h9.1
         have hsm':=Ri hmb';have hsg':=isMethodB_sig hmb';refine Zo (Zc (Zg (Zn (Zg (Ws X2 (by kernel_rfl) ?_)))));refine Zq J (Zh (ff J) J) (Zq J (Zj (t1 J) J (Zi 0 J J)) (Zq J (Zd J) (Zq J (Yo (ts J) J J ?_) ?_)))
         ·omega
         refine Zq J (Zh (ff J) J) (Zq J (Zj (t1 J) J (Z6 (hc' 0 _ J) hb')) (Zq J (Zh (ff J) J) (Zq J (Zj (t1 J) J (Zi 0 J J)) (Zq J (Zd J) (Zq J (Yo (ts J) J J ?_) ?_)))))
         ·omega
         refine Zq J (Zh (ff J) J) (Zq J (Zj (t1 J) J (Z6 (hc' 2 _ J) hb')) (Zq J (Zh (ff J) J) (Zq J (Zj (t1 J) J (Zi 0 J J)) (Zq J (Zd J) (Zq J (Yo (ts J) J J ?_) ?_)))))
         ·omega
         refine Zq J (Zh (ff J) J) (Zq J (Yj (tn J) J (Xl (sub_row hc' 3 2) hb') J) (Sf fn96 J J (fun w hs=>sign_any _ _ w (hmp'.ps.mono (Xx hs)) (fun t ht=>⟨hsm'.pt t ht,(hsg'.ps t ht).lo,(hsg'.ps t ht).hi⟩) ⟨hsm'.rt,hsg'.rs.lo,hsg'.rs.hi⟩ hsm'.nm hmp'.ok.2.1) ?_));refine Zq J (Zf J) (Wi (Zc (Zg (Ws X2 (by kernel_rfl) ?_))));refine Zq J (Zh (ff J) J) (Zq J (Zj (t1 J) J (Zi 0 J J)) (Zq J (Zd J) (Zq J (Yo (ts J) J J ?_) ?_)))
         ·omega
         refine Zq J (Zh (ff J) J) (Zq J (Zj (t1 J) J (Z6 (hc 0 _ J) hb)) (Zq J (Zh (ff J) J) (Zq J (Zj (t1 J) J (Zi 0 J J)) (Zq J (Zd J) (Zq J (Yo (ts J) J J ?_) ?_)))))
         ·omega
         refine Zq J (Zh (ff J) J) (Zq J (Zj (t1 J) J (Z6 (hc 2 _ J) hb)) (Zq J (Zh (ff J) J) (Zq J (Zj (t1 J) J (Zi 0 J J)) (Zq J (Zd J) (Zq J (Yo (ts J) J J ?_) ?_)))))
         ·omega
         refine Zq J (Zh (ff J) J) (Zq J (Yj (tn J) J (Xl (sub_row hc 3 2) hb) J) (Sf fn96 J J (fun w hs=>sign_any _ _ w (hmp.ps.mono (Xx hs)) (fun t ht=>⟨hsm.pt t ht,(hsg.ps t ht).lo,(hsg.ps t ht).hi⟩) ⟨hsm.rt,hsg.rs.lo,hsg.rs.hi⟩ hsm.nm hmp.ok.2.1) ?_));refine Zq J (Zf J) (Wi (Zc (Zg (Zb (Za J (Zd J) (Za J (Zd J) (Za J (Y7 J J) (Ze (Zc (Zu J ?_ ?_))))))))))
         ·intro c9;have hsame:=sign_eq hsg' hsg;have hF:=cls_mes (Wb hi (by rw [Qr hi,show meNew c.methods i=false from Wb hki (by rw [meNe_some hi hk,← hsame];simp [eqS,c9])];simp));refine Zg (Zb (Za J (Zf J) (Ze (Zc (Zr (Zl (Zl (Zl (Zl (Zl (Zl (Zl (Zl (Zl (Z3 J J ?_)))))))))))))));exact congrArg Value.bool hF.symm
         ·intro c9;have hsame:=sign_eq hsg' hsg;refine Zo (Zt (Zc (Zb (Za J (Zd J) ?_))));refine Za J (Yn J J ?_) ?_;omega;refine Za J (Zf J) (Ze ?_);refine Z1 (k+1) ?_ (⟨by omega,Ud hI.2 (by rw [meNe_some hi hk,← hsame];simp [eqS,c9])⟩) 0 rfl (rfl) ⟨rfl,rfl,rfl,trivial⟩;omega
        ·intro c8;have hN:meNew c.methods i=true:=Tl hI.1 (by omega) hI.2;have hA:meAt c.methods i=true:=by rw [Qr hi,hN,hmb];rfl
         refine Yd (Yc (Z5 (Yb (Zt (Zc (Zb (Za J (Zd J) ?_)))))));refine Za J (Yn J J ?_) ?_;omega;refine Za J (Zf J) (Ze ?_);refine Z1 (i+1) ?_ (⟨by omega,Ud hO.2 hA⟩) 0 J (J) ⟨J,J,trivial⟩;omega
      ·intro c6;have hMe:=Tl hI.1 (by omega) hI.2;refine Yd (Yc (Z5 (Yb (Zc (Zg (Zb (Za J (Zf J) (Ze (Zc (Zr (Z3 J J ?_)))))))))));exact congrArg Value.bool (cls_yes hHd hFd hMe).symm
def fdS (s:ByteArray) (f:Fld):ByteArray:=s++Tt f.name++flagS f.stat++Vv f.ty
def topS (c:Cl):ByteArray:=⟨#[67,76,65,83]⟩++Tt c.name++Tt c.super++W1 (c.fields.length:Nat) 1
def fdsS (c:Cl):ByteArray:=c.fields.foldl fdS (topS c)
def Oj (c:Cl):ByteArray:=c.methods.foldl (fun s m=>s++O3 m) (fdsS c++W1 (c.methods.length:Nat) 1)
structure ClSmall (c:Cl):Prop where
 nm:c.name.size≤12∧c.super.size≤12
 fl:c.fields.length≤20
 ml:c.methods.length≤20
 fi:∀ f ∈ c.fields,f.name.size≤12∧f.ty.cls.size≤12
 mi:∀ m ∈ c.methods,MeSmall m
theorem isClassB_small {c:Cl} (h:Xm c=true):ClSmall c:=by
 unfold Xm at h;simp only [Bool.and_eq_true,decide_eq_true_eq] at h;obtain ⟨⟨⟨⟨⟨h1,h2⟩,h3⟩,h4⟩,h5⟩,h6⟩:=h;refine ⟨⟨Ui h1,Ui h2⟩,by omega,by omega,fun f hf=>?_,fun m hm=>?_⟩
 ·obtain ⟨k,hk⟩:=List.mem_iff_getElem?.1 hf
  have hkl:k<c.fields.length:=by
   rcases Nat.lt_or_ge k c.fields.length with h' | h'
   ·exact h'
   ·rw [List.getElem?_eq_none h'] at hk;cases hk
  have:=List.all_eq_true.1 h5 k (List.mem_range.2 hkl);unfold fdAt at this;rw [hk] at this;simp only [Bool.and_eq_true] at this;exact ⟨Ui this.1.1,R8 this.1.2⟩
 ·obtain ⟨k,hk⟩:=List.mem_iff_getElem?.1 hm
  have hkl:k<c.methods.length:=by
   rcases Nat.lt_or_ge k c.methods.length with h' | h'
   ·exact h'
   ·rw [List.getElem?_eq_none h'] at hk;cases hk
  have:=List.all_eq_true.1 h6 k (List.mem_range.2 hkl);unfold meAt at this;rw [hk] at this;simp only [Bool.and_eq_true] at this;exact Ri this.1
theorem topS_le {c:Cl} (h:ClSmall c):(topS c).size≤40:=by
 have:=h.nm;unfold topS;have e:(⟨#[67,76,65,83]⟩:ByteArray).size=4:=rfl;simp only [ByteArray.size_append,X6,Tx,e];omega
theorem fdsS_le {c:Cl} (h:ClSmall c) (k:Nat):((c.fields.take k).foldl fdS (topS c)).size≤1000:=by
 have:=Ma fdS 30 (c.fields.take k) (topS c) (fun s f hf=>by have h1:=h.fi f (List.mem_of_mem_take hf);have h2:=Q2 f.ty;simp only [fdS,ByteArray.size_append,Tx,flagS_size];omega);have h1:=topS_le h;have h2:=h.fl;have h3:(c.fields.take k).length≤20:=by rw [List.length_take];omega
 have h4:(c.fields.take k).length*30≤20*30:=Nat.mul_le_mul_right _ h3;omega
theorem methodS_le {m:Me} (h:MeSmall m):(O3 m).size≤90000:=by
 have:=methodTo_le h m.frames.length;rw [List.take_length] at this;exact this
theorem bytesTo_le {c:Cl} (h:ClSmall c) (k:Nat):((c.methods.take k).foldl (fun s m=>s++O3 m) (fdsS c++W1 (c.methods.length:Nat) 1)).size≤2000000:=by
 have:=Ma (fun s m=>s++O3 m) 90000 (c.methods.take k) (fdsS c++W1 (c.methods.length:Nat) 1) (fun s m hm=>by have h1:=methodS_le (h.mi m (List.mem_of_mem_take hm));simp only [ByteArray.size_append];omega);have h1:=fdsS_le h c.fields.length;rw [List.take_length] at h1;have h5:(fdsS c).size≤1000:=h1;have h2:=h.ml;have h3:(c.methods.take k).length≤20:=by rw [List.length_take];omega
 have h4:(c.methods.take k).length*90000≤20*90000:=Nat.mul_le_mul_right _ h3;rw [ByteArray.size_append,X6] at this;omega
end
section
open Go.RowKit At E
theorem M6 {α:Type} (g:ByteArray→α→ByteArray) (f:α→List UInt8) (hg:∀ s x,dl (g s x)=dl s++f x):∀ (l:List α) (s:ByteArray),dl (l.foldl g s)=dl s++l.flatMap f
 | [],s=>by simp
 | x::l,s=>by rw [List.foldl_cons,M6 g f hg l,hg,List.flatMap_cons,List.append_assoc]
theorem Py {α:Type} (g:α→List UInt8) (l:List α) (i:Nat) (hi:i<l.length):((l.take i).flatMap g).length+(g l[i]).length≤(l.flatMap g).length:=by
 have h:l.flatMap g=(l.take i).flatMap g++(g l[i]++(l.drop (i+1)).flatMap g):=by
  rw [← List.flatMap_cons,← List.flatMap_append,← List.drop_eq_getElem_cons hi,List.take_append_drop]
 rw [h];simp only [List.length_append];omega
theorem Pz {α:Type} (g:α→List UInt8) (l:List α) (i:Nat) (hi:i<l.length):(l.take (i+1)).flatMap g=(l.take i).flatMap g++g l[i]:=by
 rw [List.take_succ_eq_append_getElem hi,List.flatMap_append,List.flatMap_cons,List.flatMap_nil,List.append_nil]
theorem Md {α:Type} (g:α→List UInt8) (l:List α) (i:Nat) (hi:¬ i<l.length):(l.take i).flatMap g=l.flatMap g:=by rw [List.take_of_length_le (by omega)]
def tyL (t:Ty):List UInt8:=dl (Vv t)
theorem dl_typesS (l:List Ty):dl (P4 l)=dl (W1 (l.length:Nat) 1)++l.flatMap tyL:=M6 _ tyL (fun s t=>Wn s _) l _
theorem Ow (U:World) (b:Nat) (tv:Value) (l:List Ty) (hv:Yu U tv l):WrP Tryz.prog 192 #[pt b,tv] U b (dl (P4 l)):=by
 intro w v bs h0 hl;obtain ⟨p,e,rfl,hlen,hr1⟩:=hv.is;replace hr1:Hid _:=hr1;rw [dl_typesS] at hl ⊢;simp only [List.length_append] at hl;refine Yz (h0.sat) (args:=[pt b,.slice p l.length e]) Tryz.func192 J Tryz.ntmps192 ?_;refine Zg (Zb (Za J (Zd J) (Za J (Zd J) (Za J (Zx (ts J) J) (Y6 Mb J J 0 J h0.base h0.F (Vz U b (l.length:Nat)) (by omega) ?_)))));intro v1;refine Ze (Zc (Zg (Zb (Za J (Zd J) (Za J (Zx (ts J) J) (Za J (Zd J) (Ze (Zc (Zn (W9 (congrArg (wrA _) (show _=bs++dl (W1 (l.length:Nat) 1)++(l.take 0).flatMap tyL from by simp)) ?_))))))))));refine Yf (Yg (X:=Nat × Value) (fun x:Nat × Value=>[(0,pt b),(10,.slice p l.length e),(11,iN l.length),(12,iN x.1)]) _ _ (fun x:Nat × Value=>[(b,[x.2])]) (fun x:Nat × Value=>wrA x.2 (bs++dl (W1 (l.length:Nat) 1)++(l.take x.1).flatMap tyL)) (fun x:Nat × Value=>x.1≤l.length) (fun x:Nat × Value=>l.length - x.1) ((0,v1)) (Nat.zero_le _) ?_) ⟨J,J,J,J,trivial⟩;intro x hI;refine Zg (Zb (Za J (Yi J J) (Ze (Zc (Zg (Zu J ?_ ?_))))))
 ·intro c1;have hx:x.1<l.length:=by omega
  obtain ⟨b',o',r,hp,hb,⟨hr, -⟩,hc⟩:=hr1.out x.1 l[x.1] (List.getElem?_eq_getElem hx);subst hp;subst hr;refine Zo (Zc (Zg (Zn (Zg (Zb (Za J (Yo (ts J) J J ?_) ?_))))))
  ·omega
  refine Za J (Yj (tn J) J (U6 h0.base h0.F hb hc) J) (Yk J (tz J) ?_);intro b1 hb1;refine Z2 (tn J) J J 0 J J J J (Ze (Zc (Zb (Za J (Zd J) (Za J (Zv (tn J) J 0 J J) ?_)))));refine Y6 fn124 J J 1 J h0.base h0.F (Nj U b l[x.1]) (by have hr:=Py tyL l x.1 hx;unfold tyL at hr;simp only [List.length_append];unfold tyL at *;omega) ?_;intro v2;refine Ze (Zt (Zc (Zb ?_)));refine Za J (Yn J J ?_) ?_;omega;refine Za J (Zd J) (Ze ?_);refine Z1 ((x.1+1,v2)) ?_ (hx) 1 J (congrArg (wrA v2) (by rw [Pz tyL l x.1 hx,← List.append_assoc];rfl)) ⟨rfl,rfl,rfl,rfl,trivial⟩;omega
 ·intro c1;refine Yd (Yc (Z5 (Yb ?_)));refine U8 h0 J (i:=0) J ?_;rw [Md tyL l x.1 (by omega),List.append_assoc]
theorem opd_eq (op:Int):V1 op=if Xk op = -1 then 0 else Xk op:=by
 unfold V1 Xk;by_cases h1:op=1
 ·rw [if_pos h1,if_pos h1];rfl
 rw [if_neg h1,if_neg h1];by_cases h2:op=2∨op=3
 ·rw [if_pos h2,if_pos h2];rfl
 rw [if_neg h2,if_neg h2];by_cases h3:op=10∨op=11∨op=12∨op=13
 ·rw [if_pos h3,if_pos h3];rfl
 rw [if_neg h3,if_neg h3];by_cases h4:op=15∨op=25∨op=26
 ·rw [if_pos h4,if_pos h4];rfl
 rw [if_neg h4,if_neg h4];by_cases h5:op=16∨op=17∨op=18∨op=19
 ·rw [if_pos h5,if_pos h5];rfl
 rw [if_neg h5,if_neg h5];by_cases h6:op=20∨op=21
 ·rw [if_pos h6,if_pos h6];rfl
 rw [if_neg h6,if_neg h6];by_cases h7:op<0∨32<op
 ·rw [if_pos h7];rfl
 ·rw [if_neg h7];rfl
theorem Wz {op k:Int} (hk:k=1∨k=2∨k=3∨k=4∨k=5∨k=6):V1 op=k↔Xk op=k:=by
 rw [opd_eq];split<;>omega
theorem instrL_1 {i:Ins} (h:V1 i.op=1):dl (Uj i)=dl (W1 i.op 1)++dl (W1 i.n 8):=by
 have h:=(Wz (by omega)).1 h;unfold Uj;rw [if_pos h,Wn]
theorem instrL_2 {i:Ins} (h:V1 i.op=2):dl (Uj i)=dl (W1 i.op 1)++dl (W1 i.n 1):=by
 have h:=(Wz (by omega)).1 h;unfold Uj;rw [if_neg (by omega),if_pos h,Wn]
theorem instrL_3 {i:Ins} (h:V1 i.op=3):dl (Uj i)=dl (W1 i.op 1)++dl (W1 i.n 2):=by
 have h:=(Wz (by omega)).1 h;unfold Uj;rw [if_neg (by omega),if_neg (by omega),if_pos h,Wn]
theorem instrL_4 {i:Ins} (h:V1 i.op=4):dl (Uj i)=dl (W1 i.op 1)++dl (Tt i.ref.cls):=by
 have h:=(Wz (by omega)).1 h;unfold Uj;rw [if_neg (by omega),if_neg (by omega),if_neg (by omega),if_pos h,Wn]
theorem instrL_5 {i:Ins} (h:V1 i.op=5):dl (Uj i)=dl (W1 i.op 1)++dl (Tt i.ref.cls)++dl (Tt i.ref.name)++dl (Vv i.ref.ty):=by
 have h:=(Wz (by omega)).1 h;unfold Uj;rw [if_neg (by omega),if_neg (by omega),if_neg (by omega),if_neg (by omega),if_pos h,Wn,Wn,Wn]
theorem instrL_6 {i:Ins} (h:V1 i.op=6):dl (Uj i)=dl (W1 i.op 1)++dl (Tt i.ref.cls)++dl (Tt i.ref.name)++dl (P4 i.ref.params)++dl (Vv i.ref.ty):=by
 have h:=(Wz (by omega)).1 h;unfold Uj;rw [if_neg (by omega),if_neg (by omega),if_neg (by omega),if_neg (by omega),if_neg (by omega),if_pos h,Wn,Wn,Wn,Wn]
theorem instrL_0 {i:Ins} (h1:¬ V1 i.op=1) (h2:¬ V1 i.op=2) (h3:¬ V1 i.op=3) (h4:¬ V1 i.op=4) (h5:¬ V1 i.op=5) (h6:¬ V1 i.op=6):dl (Uj i)=dl (W1 i.op 1):=by
 have h1:=fun h=>h1 ((Wz (by omega)).2 h);have h2:=fun h=>h2 ((Wz (by omega)).2 h);have h3:=fun h=>h3 ((Wz (by omega)).2 h);have h4:=fun h=>h4 ((Wz (by omega)).2 h);have h5:=fun h=>h5 ((Wz (by omega)).2 h);have h6:=fun h=>h6 ((Wz (by omega)).2 h);unfold Uj;rw [if_neg h1,if_neg h2,if_neg h3,if_neg h4,if_neg h5,if_neg h6]
theorem instrL_pos (i:Ins):(dl (W1 i.op 1)).length≤(dl (Uj i)).length:=by
 by_cases h1:V1 i.op=1
 ·rw [instrL_1 h1];simp only [List.length_append];omega
 by_cases h2:V1 i.op=2
 ·rw [instrL_2 h2];simp only [List.length_append];omega
 by_cases h3:V1 i.op=3
 ·rw [instrL_3 h3];simp only [List.length_append];omega
 by_cases h4:V1 i.op=4
 ·rw [instrL_4 h4];simp only [List.length_append];omega
 by_cases h5:V1 i.op=5
 ·rw [instrL_5 h5];simp only [List.length_append];omega
 by_cases h6:V1 i.op=6
 ·rw [instrL_6 h6];simp only [List.length_append];omega
 rw [instrL_0 h1 h2 h3 h4 h5 h6];omega
theorem wrInstr_any (U:World) (b:Nat) (i:Ins) (pv:Value) (hp:Yu U pv i.ref.params):WrP Tryz.prog 194 #[pt b,.agg (Wx i pv).toArray] U b (dl (Uj i)):=by
 intro w v bs h0 hl;have h1:=instrL_pos i;refine Yz (h0.sat) (args:=[pt b,.agg (Wx i pv).toArray]) Tryz.func194 J Tryz.ntmps194 ?_;refine Zg (Zb (Y2 J J ?_));intro b1 hb1;refine Ze (Zc (Zg (Zb (Za J (Zd J) (Za J (Zh (ff J) J) (Za J (Zj (t1 J) J (Zi 0 J J)) (Y6 Mb J J 1 J h0.base h0.F (Vz U b i.op) (by omega) ?_)))))));intro v1;refine Ze (Zc (Zg (Zb (Za J (Zh (ff J) J) (Za J (Zj (t1 J) J (Zi 0 J J)) (Yq fn284 J J (fun w _=>Qy _ w) ?_))))));refine Ze (Zc (Zn (Zg (Zb (Za J (Ya J J) (Za J (Zf J) (Ze (Zc (Zu J ?_ ?_)))))))))
 ·intro c1;have e:=instrL_1 c1;rw [e] at hl;simp only [List.length_append] at hl;refine Zb (Za J (Zd J) (Za J (Zh (ff J) J) (Za J (Zj (t1 J) J (Zi 0 J J)) ?_)));refine Y6 fn286 J J 1 J h0.base h0.F (wrEight_any U b i.n) (by (try simp only [List.length_append]);omega) ?_;intro v2;refine Ze (Zt ?_);refine U8 h0 J (i:=1) J ?_;rw [e];simp only [List.append_assoc]
 ·intro c1;refine Zg (Zb (Za J (Ya J J) (Za J (Zf J) (Ze (Zc (Zu J ?_ ?_))))))
  ·intro c2;have e:=instrL_2 c2;rw [e] at hl;simp only [List.length_append] at hl;refine Zb (Za J (Zd J) (Za J (Zh (ff J) J) (Za J (Zj (t1 J) J (Zi 0 J J)) ?_)));refine Y6 Mb J J 1 J h0.base h0.F (Vz U b i.n) (by (try simp only [List.length_append]);omega) ?_;intro v3;refine Ze (Zt ?_);refine U8 h0 J (i:=1) J ?_;rw [e];simp only [List.append_assoc]
  ·intro c2;refine Zg (Zb (Za J (Ya J J) (Za J (Zf J) (Ze (Zc (Zu J ?_ ?_))))))
   ·intro c3;have e:=instrL_3 c3;rw [e] at hl;simp only [List.length_append] at hl;refine Zb (Za J (Zd J) (Za J (Zh (ff J) J) (Za J (Zj (t1 J) J (Zi 0 J J)) ?_)));refine Y6 fn193 J J 1 J h0.base h0.F (Pp U b i.n) (by (try simp only [List.length_append]);omega) ?_;intro v4;refine Ze (Zt ?_);refine U8 h0 J (i:=1) J ?_;rw [e];simp only [List.append_assoc]
   ·intro c3;refine Zg (Zb (Za J (Ya J J) (Za J (Zf J) (Ze (Zc (Zu J ?_ ?_))))))
    ·intro c4;have e:=instrL_4 c4;rw [e] at hl;simp only [List.length_append] at hl;refine Zb (Za J (Zd J) (Za J (Zh (ff J) J) (Za J (Zh (ff J) J) (Za J (Zj (t1 J) J (Zi 0 J J)) ?_))));refine Y6 fn121 J J 1 J h0.base h0.F (Us U b i.ref.cls) (by (try simp only [List.length_append]);omega) ?_;intro v5;refine Ze (Zt ?_);refine U8 h0 J (i:=1) J ?_;rw [e];simp only [List.append_assoc]
    ·intro c4;refine Zg (Zb (Za J (Ya J J) (Za J (Zf J) (Ze (Zc (Zu J ?_ ?_))))))
     ·intro c5;have e:=instrL_5 c5;rw [e] at hl;simp only [List.length_append] at hl;refine Zg (Zb (Za J (Zd J) (Za J (Zh (ff J) J) (Za J (Zh (ff J) J) (Za J (Zj (t1 J) J (Zi 0 J J)) ?_)))));refine Y6 fn121 J J 1 J h0.base h0.F (Us U b i.ref.cls) (by (try simp only [List.length_append]);omega) ?_;intro v6;refine Ze (Zc (Zg (Zb (Za J (Zd J) (Za J (Zh (ff J) J) (Za J (Zh (ff J) J) (Za J (Zj (t1 J) J (Zi 0 J J)) ?_)))))));refine Y6 fn121 J J 1 J h0.base h0.F (Us U b i.ref.name) (by (try simp only [List.length_append]);omega) ?_;intro v7;refine Ze (Zc (Zb (Za J (Zd J) (Za J (Zh (ff J) J) (Za J (Zh (ff J) J) (Za J (Zv (tn J) J 0 J J) ?_))))));refine Y6 fn124 J J 1 J h0.base h0.F (Nj U b i.ref.ty) (by (try simp only [List.length_append]);omega) ?_;intro v8;refine Ze (Zt ?_);refine U8 h0 J (i:=1) J ?_;rw [e];simp only [List.append_assoc]
     ·intro c5;refine Zg (Zb (Za J (Ya J J) (Za J (Zf J) (Ze (Zc (Zu J ?_ ?_))))))
      ·intro c6;have e:=instrL_6 c6;rw [e] at hl;simp only [List.length_append] at hl;refine Zg (Zb (Za J (Zd J) (Za J (Zh (ff J) J) (Za J (Zh (ff J) J) (Za J (Zj (t1 J) J (Zi 0 J J)) ?_)))));refine Y6 fn121 J J 1 J h0.base h0.F (Us U b i.ref.cls) (by (try simp only [List.length_append]);omega) ?_;intro v9;refine Ze (Zc (Zg (Zb (Za J (Zd J) (Za J (Zh (ff J) J) (Za J (Zh (ff J) J) (Za J (Zj (t1 J) J (Zi 0 J J)) ?_)))))));refine Y6 fn121 J J 1 J h0.base h0.F (Us U b i.ref.name) (by (try simp only [List.length_append]);omega) ?_;intro v10;refine Ze (Zc (Zg (Zb (Za J (Zd J) (Za J (Zh (ff J) J) (Za J (Zh (ff J) J) (Za J (Zj (t1 J) J (Zi 0 J J)) ?_)))))));refine Y6 fn192 J J 1 J h0.base h0.F (Ow U b pv i.ref.params hp) (by (try simp only [List.length_append]);omega) ?_;intro v11;refine Ze (Zc (Zb (Za J (Zd J) (Za J (Zh (ff J) J) (Za J (Zh (ff J) J) (Za J (Zv (tn J) J 0 J J) ?_))))));refine Y6 fn124 J J 1 J h0.base h0.F (Nj U b i.ref.ty) (by (try simp only [List.length_append]);omega) ?_;intro v12;refine Ze (Zt ?_);refine U8 h0 J (i:=1) J ?_;rw [e];simp only [List.append_assoc]
      ·intro c6;have e:=instrL_0 c1 c2 c3 c4 c5 c6;refine Zo (Zt ?_);refine U8 h0 J (i:=1) J ?_;rw [e];done
def hdL (h:Hd):List UInt8:=dl (W1 h.lo 2)++dl (W1 h.hi 2)++dl (W1 h.pos 2)++dl (Tt h.cls)
theorem wrHandler_any (U:World) (b:Nat) (h:Hd):WrP Tryz.prog 195 #[pt b,.agg (hdV h).toArray] U b (hdL h):=by
 intro w v bs h0 hl;unfold hdL at hl;simp only [List.length_append] at hl;refine Yz (h0.sat) (args:=[pt b,.agg (hdV h).toArray]) Tryz.func195 J Tryz.ntmps195 ?_;refine Zg (Zb (Y2 J J ?_));intro b1 hb1;refine Ze (Zc (Zg (Zb (Za J (Zd J) (Za J (Zh (ff J) J) (Za J (Zj (t1 J) J (Zi 0 J J)) ?_))))));refine Y6 fn193 J J 1 J h0.base h0.F (Pp U b h.lo) (by (try simp only [List.length_append]);omega) ?_;intro v1;refine Ze (Zc (Zg (Zb (Za J (Zd J) (Za J (Zh (ff J) J) (Za J (Zj (t1 J) J (Zi 0 J J)) ?_))))));refine Y6 fn193 J J 1 J h0.base h0.F (Pp U b h.hi) (by (try simp only [List.length_append]);omega) ?_;intro v2;refine Ze (Zc (Zg (Zb (Za J (Zd J) (Za J (Zh (ff J) J) (Za J (Zj (t1 J) J (Zi 0 J J)) ?_))))));refine Y6 fn193 J J 1 J h0.base h0.F (Pp U b h.pos) (by (try simp only [List.length_append]);omega) ?_;intro v3;refine Ze (Zc (Zb (Za J (Zd J) (Za J (Zh (ff J) J) (Za J (Zj (t1 J) J (Zi 0 J J)) ?_)))));refine Y6 fn121 J J 1 J h0.base h0.F (Us U b h.cls) (by (try simp only [List.length_append]);omega) ?_;intro v4;refine Ze ?_;refine U8 h0 J (i:=1) J ?_;unfold hdL;simp only [List.append_assoc]
def frL (f:Fr):List UInt8:=dl (W1 f.pos 2)++dl (P4 f.locals)++dl (P4 f.stack)
theorem wrFrame_any (U:World) (b:Nat) (f:Fr) (lv sv:Value) (hlv:Yu U lv f.locals) (hsv:Yu U sv f.stack):WrP Tryz.prog 196 #[pt b,.agg (frV f lv sv).toArray] U b (frL f):=by
 intro w v bs h0 hl;unfold frL at hl;simp only [List.length_append] at hl;refine Yz (h0.sat) (args:=[pt b,.agg (frV f lv sv).toArray]) Tryz.func196 J Tryz.ntmps196 ?_;refine Zg (Zb (Y2 J J ?_));intro b1 hb1;refine Ze (Zc (Zg (Zb (Za J (Zd J) (Za J (Zh (ff J) J) (Za J (Zj (t1 J) J (Zi 0 J J)) ?_))))));refine Y6 fn193 J J 1 J h0.base h0.F (Pp U b f.pos) (by (try simp only [List.length_append]);omega) ?_;intro v1;refine Ze (Zc (Zg (Zb (Za J (Zd J) (Za J (Zh (ff J) J) (Za J (Zj (t1 J) J (Zi 0 J J)) ?_))))));refine Y6 fn192 J J 1 J h0.base h0.F (Ow U b lv f.locals hlv) (by (try simp only [List.length_append]);omega) ?_;intro v2;refine Ze (Zc (Zb (Za J (Zd J) (Za J (Zh (ff J) J) (Za J (Zj (t1 J) J (Zi 0 J J)) ?_)))));refine Y6 fn192 J J 1 J h0.base h0.F (Ow U b sv f.stack hsv) (by (try simp only [List.length_append]);omega) ?_;intro v3;refine Ze ?_;refine U8 h0 J (i:=1) J ?_;unfold frL;simp only [List.append_assoc]
def insL (i:Ins):List UInt8:=dl (Uj i)
def headL (m:Me):List UInt8:=dl (Tt m.name)++dl (flagS m.stat)++dl (P4 m.params)++dl (Vv m.result)++dl (W1 m.locals 1)++dl (W1 m.stack 1)++dl (W1 (m.code.length:Nat) 2)
theorem dl_methodS (m:Me):dl (O3 m)=headL m++m.code.flatMap insL++dl (W1 (m.handlers.length:Nat) 1)++m.handlers.flatMap hdL++dl (W1 (m.frames.length:Nat) 1)++m.frames.flatMap frL:=by
 unfold O3 hdsS codeS
 rw [M6 frS frL (fun s f=>by unfold frS frL;simp only [Wn,List.append_assoc]),Wn,M6 hdS hdL (fun s f=>by unfold hdS hdL;simp only [Wn,List.append_assoc]),Wn,
  M6 _ insL (fun s i=>Wn s _)]
 unfold headS headL;simp only [Wn,List.append_assoc]
theorem wrMethod_any (U:World) (b:Nat) (m:Me) (pv cv hv fv:Value) (hm:MeParts U m pv cv hv fv):WrP Tryz.prog 125 #[pt b,.agg (meV m pv cv hv fv).toArray] U b (dl (O3 m)):=by
 intro w v bs h0 hl;have hps:=hm.ps;obtain ⟨p1,e1,rfl, -, -⟩:=hm.ps.is;obtain ⟨p2,e2,rfl,hk2,hr2⟩:=hm.cs.is;obtain ⟨p3,e3,rfl,hk3,hr3⟩:=hm.hs.is;obtain ⟨p4,e4,rfl,hk4,hr4⟩:=hm.fs.is;replace hr2:Hid _:=hr2;replace hr3:Hid _:=hr3;replace hr4:Hid _:=hr4;clear hm;rw [dl_methodS] at hl ⊢;have hl':=hl;unfold headL at hl;simp only [List.length_append] at hl hl';refine Yz (h0.sat) (args:=[pt b,.agg (meV m (.slice p1 m.params.length e1) (.slice p2 m.code.length e2) (.slice p3 m.handlers.length e3) (.slice p4 m.frames.length e4)).toArray]) Tryz.func125 J Tryz.ntmps125 ?_;refine Zg (Zb (Y2 J J ?_));intro b1 hb1;refine Ze (Zc (Zg (Zb (Za J (Zd J) (Za J (Zh (ff J) J) (Za J (Zj (t1 J) J (Zi 0 J J)) ?_))))));refine Y6 fn121 J J 1 J h0.base h0.F (Us U b m.name) (by (try simp only [List.length_append]);omega) ?_;intro v1;refine Ze (Zc (Zg (Zb (Za J (Zd J) (Za J (Zh (ff J) J) (Za J (Zj (t1 J) J (Zi 0 J J)) ?_))))));refine Y6 fn123 J J 1 J h0.base h0.F (wrFlag_any U b m.stat) (by (try simp only [List.length_append]);omega) ?_;intro v2;refine Ze (Zc (Zg (Zb (Za J (Zd J) (Za J (Zh (ff J) J) (Za J (Zj (t1 J) J (Zi 0 J J)) ?_))))));refine Y6 fn192 J J 1 J h0.base h0.F (Ow U b _ m.params hps) (by (try simp only [List.length_append]);omega) ?_;intro v3;refine Ze (Zc (Zg (Zb (Za J (Zd J) (Za J (Zh (ff J) J) (Za J (Zv (tn J) J 0 J J) ?_))))));refine Y6 fn124 J J 1 J h0.base h0.F (Nj U b m.result) (by (try simp only [List.length_append]);omega) ?_;intro v4;refine Ze (Zc (Zg (Zb (Za J (Zd J) (Za J (Zh (ff J) J) (Za J (Zj (t1 J) J (Zi 0 J J)) ?_))))));refine Y6 Mb J J 1 J h0.base h0.F (Vz U b m.locals) (by (try simp only [List.length_append]);omega) ?_;intro v5;refine Ze (Zc (Zg (Zb (Za J (Zd J) (Za J (Zh (ff J) J) (Za J (Zj (t1 J) J (Zi 0 J J)) ?_))))));refine Y6 Mb J J 1 J h0.base h0.F (Vz U b m.stack) (by (try simp only [List.length_append]);omega) ?_;intro v6;refine Ze (Zc (Zg (Zb (Za J (Zd J) (Za J (Zh (ff J) J) (Za J (Zj (t1 J) J (Zi 0 J J)) (Za J (Zx (ts J) J) ?_)))))));refine Y6 fn193 J J 1 J h0.base h0.F (Pp U b (m.code.length:Nat)) (by (try simp only [List.length_append]);omega) ?_;intro v7;refine Ze (Zc (Zg (Zg (Zb (Za J (Zh (ff J) J) (Za J (Zj (t1 J) J (Zi 0 J J)) (Za J (Zx (ts J) J) (Za J (Zd J) (Ze (Zc (Zn ?_)))))))))));refine W9 (congrArg (wrA _) (show _=bs++headL m++(m.code.take 0).flatMap insL from by unfold headL;simp only [List.append_assoc,List.take_zero,List.flatMap_nil,List.append_nil])) ?_;refine Yf (Yg (X:=Nat × Value) (fun x:Nat × Value=>[(0,pt b),(3,pt b1),(40,.slice p2 m.code.length e2),(41,iN m.code.length),(42,iN x.1)]) _ _ (fun x:Nat × Value=>[(b1,meV m (.slice p1 m.params.length e1) (.slice p2 m.code.length e2) (.slice p3 m.handlers.length e3) (.slice p4 m.frames.length e4)),(b,[x.2])]) (fun x:Nat × Value=>wrA x.2 (bs++headL m++(m.code.take x.1).flatMap insL)) (fun x:Nat × Value=>x.1≤m.code.length) (fun x:Nat × Value=>m.code.length - x.1) ((0,v7)) (Nat.zero_le _) ?_) ⟨J,J,J,J,J,trivial⟩;intro x hI;refine Zg (Zb (Za J (Yi J J) (Ze (Zc (Zg (Zu J ?_ ?_))))))
 ·intro c1;have hx:x.1<m.code.length:=by omega
  obtain ⟨b',o',r,hp,hb,⟨qv,hr,hq, -⟩,hc⟩:=hr2.out x.1 m.code[x.1] (List.getElem?_eq_getElem hx);subst hp;subst hr;obtain ⟨q1,g1,rfl, -, -⟩:=hq.is;refine Zo (Zc (Zg (Zn (Zg (Zb (Za J (Yo (ts J) J J ?_) ?_))))))
  ·omega
  refine Za J (Yj (tn J) J (U6 h0.base h0.F hb hc) J) (Yk J (tz J) ?_);intro b2 hb2;refine Z2 (tn J) J J 0 J J J J (Ze (Zc (Zb (Za J (Zd J) (Za J (Zv (tn J) J 0 J J) ?_)))));refine Y6 fn194 J J 2 J h0.base h0.F (wrInstr_any U b m.code[x.1] _ hq) (by have hr:=Py insL m.code x.1 hx;unfold insL at *;simp only [List.length_append];omega) ?_;intro v8;refine Ze (Zt (Zc (Zb ?_)));refine Za J (Yn J J ?_) ?_;omega;refine Za J (Zd J) (Ze ?_);refine Z1 ((x.1+1,v8)) ?_ (hx) 1 J (congrArg (wrA v8) (by rw [Pz insL m.code x.1 hx,← List.append_assoc];rfl)) ⟨rfl,rfl,rfl,rfl,rfl,trivial⟩;omega
 ·intro c1;refine Yd (Yc (Z5 (Yb (Zc (Zg (W9 (congrArg (wrA _) (show _=bs++headL m++m.code.flatMap insL from by rw [Md insL m.code x.1 (by omega)])) ?_))))));refine Zb (Za J (Zd J) (Za J (Zh (ff J) J) (Za J (Zj (t1 J) J (Zi 0 J J)) (Za J (Zx (ts J) J) ?_))));refine Y6 Mb J J 1 J h0.base h0.F (Vz U b (m.handlers.length:Nat)) (by (try simp only [List.length_append]);omega) ?_;intro v9;refine Ze (Zc (Zg (Zg (Zb (Za J (Zh (ff J) J) (Za J (Zj (t1 J) J (Zi 0 J J)) (Za J (Zx (ts J) J) (Za J (Zd J) (Ze (Zc (Zn (W9 (congrArg (wrA _) (show _=bs++headL m++m.code.flatMap insL++dl (W1 (m.handlers.length:Nat) 1)++(m.handlers.take 0).flatMap hdL from by simp only [List.take_zero,List.flatMap_nil,List.append_nil])) ?_))))))))))));refine Yf (Yg (X:=Nat × Value) (fun y:Nat × Value=>[(0,pt b),(3,pt b1),(56,.slice p3 m.handlers.length e3),(57,iN m.handlers.length),(58,iN y.1)]) _ _ (fun y:Nat × Value=>[(b1,meV m (.slice p1 m.params.length e1) (.slice p2 m.code.length e2) (.slice p3 m.handlers.length e3) (.slice p4 m.frames.length e4)),(b,[y.2])]) (fun y:Nat × Value=>wrA y.2 (bs++headL m++m.code.flatMap insL++dl (W1 (m.handlers.length:Nat) 1)++(m.handlers.take y.1).flatMap hdL)) (fun y:Nat × Value=>y.1≤m.handlers.length) (fun y:Nat × Value=>m.handlers.length - y.1) ((0,v9)) (Nat.zero_le _) ?_) ⟨J,J,J,J,J,trivial⟩;intro y hI;refine Zg (Zb (Za J (Yi J J) (Ze (Zc (Zg (Zu J ?_ ?_))))))
  ·intro c2;have hy:y.1<m.handlers.length:=by omega
   obtain ⟨b',o',r,hp,hb,⟨hr, -⟩,hc⟩:=hr3.out y.1 m.handlers[y.1] (List.getElem?_eq_getElem hy);subst hp;subst hr;refine Zo (Zc (Zg (Zn (Zg (Zb (Za J (Yo (ts J) J J ?_) ?_))))))
   ·omega
   refine Za J (Yj (tn J) J (U6 h0.base h0.F hb hc) J) (Yk J (tz J) ?_);intro b2 hb2;refine Z2 (tn J) J J 0 J J J J (Ze (Zc (Zb (Za J (Zd J) (Za J (Zv (tn J) J 0 J J) ?_)))));refine Y6 fn195 J J 2 J h0.base h0.F (wrHandler_any U b m.handlers[y.1]) (by have hr:=Py hdL m.handlers y.1 hy;simp only [List.length_append];omega) ?_;intro v10;refine Ze (Zt (Zc (Zb ?_)));refine Za J (Yn J J ?_) ?_;omega;refine Za J (Zd J) (Ze ?_);refine Z1 ((y.1+1,v10)) ?_ (hy) 1 J (congrArg (wrA v10) (by rw [Pz hdL m.handlers y.1 hy,← List.append_assoc])) ⟨J,J,J,J,J,trivial⟩;omega
  ·intro c2;refine Yd (Yc (Z5 (Yb (Zc (Zg (W9 (congrArg (wrA _) (show _=bs++headL m++m.code.flatMap insL++dl (W1 (m.handlers.length:Nat) 1)++m.handlers.flatMap hdL from by rw [Md hdL m.handlers y.1 (by omega)])) ?_))))));refine Zb (Za J (Zd J) (Za J (Zh (ff J) J) (Za J (Zj (t1 J) J (Zi 0 J J)) (Za J (Zx (ts J) J) ?_))));refine Y6 Mb J J 1 J h0.base h0.F (Vz U b (m.frames.length:Nat)) (by (try simp only [List.length_append]);omega) ?_;intro v11;refine Ze (Zc (Zg (Zb (Za J (Zh (ff J) J) (Za J (Zj (t1 J) J (Zi 0 J J)) (Za J (Zx (ts J) J) (Za J (Zd J) (Ze (Zc (Zn (W9 (congrArg (wrA _) (show _=bs++headL m++m.code.flatMap insL++dl (W1 (m.handlers.length:Nat) 1)++m.handlers.flatMap hdL++dl (W1 (m.frames.length:Nat) 1)++(m.frames.take 0).flatMap frL from by simp only [List.take_zero,List.flatMap_nil,List.append_nil])) ?_)))))))))));refine Yf (Yg (X:=Nat × Value) (fun z:Nat × Value=>[(0,pt b),(3,pt b1),(72,.slice p4 m.frames.length e4),(73,iN m.frames.length),(74,iN z.1)]) _ _ (fun z:Nat × Value=>[(b1,meV m (.slice p1 m.params.length e1) (.slice p2 m.code.length e2) (.slice p3 m.handlers.length e3) (.slice p4 m.frames.length e4)),(b,[z.2])]) (fun z:Nat × Value=>wrA z.2 (bs++headL m++m.code.flatMap insL++dl (W1 (m.handlers.length:Nat) 1)++m.handlers.flatMap hdL++dl (W1 (m.frames.length:Nat) 1)++(m.frames.take z.1).flatMap frL)) (fun z:Nat × Value=>z.1≤m.frames.length) (fun z:Nat × Value=>m.frames.length - z.1) ((0,v11)) (Nat.zero_le _) ?_) ⟨J,J,J,J,J,trivial⟩;intro z hI;refine Zg (Zb (Za J (Yi J J) (Ze (Zc (Zg (Zu J ?_ ?_))))))
   ·intro c3;have hz:z.1<m.frames.length:=by omega
    obtain ⟨b',o',r,hp,hb,⟨lv,sv,hr,hq1,hq2, -⟩,hc⟩:=hr4.out z.1 m.frames[z.1] (List.getElem?_eq_getElem hz);subst hp;subst hr;obtain ⟨q1,g1,rfl, -, -⟩:=hq1.is;obtain ⟨q2,g2,rfl, -, -⟩:=hq2.is;refine Zo (Zc (Zg (Zn (Zg (Zb (Za J (Yo (ts J) J J ?_) ?_))))))
    ·omega
    refine Za J (Yj (tn J) J (U6 h0.base h0.F hb hc) J) (Yk J (tz J) ?_);intro b2 hb2;refine Z2 (tn J) J J 0 J J J J (Ze (Zc (Zb (Za J (Zd J) (Za J (Zv (tn J) J 0 J J) ?_)))));refine Y6 fn196 J J 2 J h0.base h0.F (wrFrame_any U b m.frames[z.1] _ _ hq1 hq2) (by have hr:=Py frL m.frames z.1 hz;simp only [List.length_append];omega) ?_;intro v12;refine Ze (Zt (Zc (Zb ?_)));refine Za J (Yn J J ?_) ?_;omega;refine Za J (Zd J) (Ze ?_);refine Z1 ((z.1+1,v12)) ?_ (hz) 1 J (congrArg (wrA v12) (by rw [Pz frL m.frames z.1 hz,← List.append_assoc])) ⟨J,J,J,J,J,trivial⟩;omega
   ·intro c3;refine Yd (Yc (Z5 (Yb ?_)));refine U8 h0 J (i:=1) J ?_;rw [Md frL m.frames z.1 (by omega)];simp only [List.append_assoc]
end
end Go.Proofs.YtpofmnfkdkmieaaGreat
