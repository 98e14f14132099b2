/- What is proved here: the document's own answer isMethod answe -/
import Derived.Test.YtpofmnfkdkmieaaGreatQ07
set_option linter.unusedVariables false
set_option linter.unusedSimpArgs false
namespace Go.Proofs.YtpofmnfkdkmieaaGreat
section
open Go.RowKit At E
theorem Q3 {m:Me} (h:V7 m=false):Yt m=false:=by simp [Yt,h]
theorem met_size {m:Me} (h:(decide (1≤(m.code.length:Int))&&decide ((m.code.length:Int)≤200)&&decide ((m.handlers.length:Int)≤10)&&decide ((m.frames.length:Int)≤60))=false):Yt m=false:=by
 unfold Yt;cases V7 m
 ·rfl
 ·simp only [Bool.true_and,h,Bool.false_and]
theorem met_code {m:Me} (h:m.code.all (fun i=>Y5 i m.locals m.code.length)=false):Yt m=false:=by unfold Yt;rw [h];simp
theorem met_hds {m:Me} (h:m.handlers.all (fun h=>Tb h m.code.length)=false):Yt m=false:=by unfold Yt;rw [h];simp
theorem R7 {m:Me} (h:(List.range m.frames.length).all (M5 m.frames m.locals m.stack m.code.length)=false):Yt m=false:=by unfold Yt;rw [h];simp
theorem met_yes {m:Me} (h1:V7 m=true) (h2:(decide (1≤(m.code.length:Int))&&decide ((m.code.length:Int)≤200)&&decide ((m.handlers.length:Int)≤10)&&decide ((m.frames.length:Int)≤60))=true)
  (h3:m.code.all (fun i=>Y5 i m.locals m.code.length)=true) (h4:m.handlers.all (fun h=>Tb h m.code.length)=true) (h5:(List.range m.frames.length).all (M5 m.frames m.locals m.stack m.code.length)=true):Yt m=true:=by
 unfold Yt;rw [h1,h3,h4,h5];simp only [Bool.true_and,Bool.and_true];exact h2
theorem Ua {l:List Fr} {k:Nat} (hk:k<l.length) (a b:Int) (c:Nat):M5 l a b c k=Td (S3 l k) l[k] a b c:=by
 simp [M5,List.getElem?_eq_getElem hk]
theorem Ta {l:List Fr} {k:Nat} (h:k=0):S3 l k = -1:=by simp [S3,h]
theorem Tp {l:List Fr} {k:Nat} (h:0<k) (hk:k - 1<l.length):S3 l k=(l[k - 1]).pos:=by
 have:¬ k=0:=by omega
 simp [S3,this,posAt,List.getElem?_eq_getElem hk]
set_option maxHeartbeats 2000000 in
theorem isMethod_any (m:Me) (pv cv hv fv:Value) (w:World) (hm:MeParts w m pv cv hv fv) :
  Vc Tryz.prog 95 #[.agg (meV m pv cv hv fv).toArray] w (.bool (Yt m)):=by
 obtain ⟨p1,e1,rfl,hl1, -⟩:=hm.ps.is;obtain ⟨p2,e2,rfl,hl2,hr2⟩:=hm.cs.is;obtain ⟨p3,e3,rfl,hl3,hr3⟩:=hm.hs.is;obtain ⟨p4,e4,rfl,hl4,hr4⟩:=hm.fs.is;replace hr2:Hid _:=hr2;replace hr3:Hid _:=hr3;replace hr4:Hid _:=hr4;replace hm:Hid _:=hm;refine Xf (args:=[.agg (meV m (.slice p1 m.params.length e1) (.slice p2 m.code.length e2) (.slice p3 m.handlers.length e3) (.slice p4 m.frames.length e4)).toArray]) Tryz.func95 J Tryz.ntmps95 ?_;refine Zg (Zb (Y2 J J ?_));intro b0 hb0;refine Za J (Zf J) (Ze (Zc (Zg (Zb (Za J (Zh (ff J) J) (Za J (Zj (t1 J) J (Zi 0 J J)) (Yq fn93 J J (fun w _=>Sr _ w hm.out.ok.1) ?_)))))));refine Za J (Zf J) (Ze (Zc (Zg (Zb (Za J (Zh (ff J) J) (Za J (Zj (t1 J) J (Zi 0 J J)) (Yq fn134 J J (fun w hs=>Pm _ m.params _ w (hm.out.ps.mono (Xx hs))) ?_)))))));refine Za J (Zf J) (Ze (Zc (Zg (Zb (Za J (Zh (ff J) J) (Za J (Zv (tn J) J 0 J J) (Yq fn94 J J (fun w _=>M3 m.result _ _ w hm.out.ok.2.1) ?_)))))));refine Za J (Zf J) (Ze (Zc (Zg (Zb (Za J (Zh (ff J) J) (Za J (Zj (t1 J) J (Zi 0 J J)) (Za J (Zx (ts J) J) (Za J (Zf J) (Ze (Zc (Sg (Y:=Int) (fun y:Int=>[(1,pt b0),(2,.bool false),(3,.bool (X4 m.name)),(4,.bool (Wo m.params false)),(5,.bool (X7 m.result true false)),(6,.int .i64 y)]) (fun y:Int=>[(b0,meV m (.slice p1 m.params.length e1) (.slice p2 m.code.length e2) (.slice p3 m.handlers.length e3) (.slice p4 m.frames.length e4))]) (fun y:Int=>Asr.none) (fun y:Int=>y=Qt m) ?_ ?_)))))))))))
 ·skip
  refine Zg (Zb (Za J (Zh (ff J) J) (Za J (Zj (t1 J) J (Zi 0 J J)) (Za J (Xv J) (Ze (Zc (W4 J ?_ ?_)))))))
  ·intro c1;refine Zb (Za J (Zd J) ?_);refine Za J (Yn J J ?_) ?_;omega;refine Za J (Zf J) (Ze (Wj _ 0 J J ⟨J,J,J,J,J,J,trivial⟩ ?_));simp_all [Qt]
  ·intro c1;refine Zo (Wj _ 0 J J ⟨J,J,J,J,J,J,trivial⟩ ?_);simp_all [Qt]
 intro y hJ;refine Zg (Zg (Zb (Za J (Zd J) (Za J (Xv J) (Za J (Zd J) (Ub J J J ?_ ?_))))))
 ·intro h1;refine Zm J J J (Zm J J J (Za J (Zp J J) (Za J (Zd J) (Zm J J J (Zm J J J (Za J (Zp J J) (Za J (Zd J) (Zm J J J (Zm J J J (Zm J J J (Zm J J J (Za J (Zp J J) (Za J (Zd J) (Zm J J J (Zm J J J (Zm J J J (Zm J J J (Za J (Zp J J) (Za J (Zd J) (Zm J J J (Zm J J J (Zm J J J (Za J (Zp J J) (Za J (Zd J) (Zm J J J (Zm J J J (Zm J J J (Za J (Zp J J) (Za J (Zd J) ?_)))))))))))))))))))))))))))));refine Zm J J J (Zm J J J (Zm J J J (Za J (Zp J J) (Ze (Zc (Yh J ?_))))));have hF:=Q3 (m:=m) (by (simp_all [V7];done));refine Zg (Zb (Za J (Zf J) (Ze (Zc (Zr (Zl (Z3 J J ?_)))))));exact congrArg Value.bool hF.symm
 ·intro h1;refine Zk J J J (Zd J) (Zk J J J (Xv J) (Za J (Zs J J) (Za J (Zd J) (Ub J J J ?_ ?_))))
  ·intro h2;refine Zm J J J (Zm J J J (Za J (Zp J J) (Za J (Zd J) (Zm J J J (Zm J J J (Zm J J J (Zm J J J (Za J (Zp J J) (Za J (Zd J) (Zm J J J (Zm J J J (Zm J J J (Zm J J J (Za J (Zp J J) (Za J (Zd J) (Zm J J J (Zm J J J (Zm J J J (Za J (Zp J J) (Za J (Zd J) (Zm J J J (Zm J J J (Zm J J J (Za J (Zp J J) (Za J (Zd J) (Zm J J J (Zm J J J (Zm J J J (Za J (Zp J J) ?_)))))))))))))))))))))))))))));refine Ze (Zc (Yh J ?_));have hF:=Q3 (m:=m) (by (simp_all [V7];done));refine Zg (Zb (Za J (Zf J) (Ze (Zc (Zr (Zl (Z3 J J ?_)))))));exact congrArg Value.bool hF.symm
  ·intro h2;refine Zk J J J (Zd J) (Zk J J J (Xv J) (Za J (Zs J J) (Za J (Zd J) (Ub J J J ?_ ?_))))
   ·intro h3;refine Zm J J J (Zm J J J (Zm J J J (Zm J J J (Za J (Zp J J) (Za J (Zd J) (Zm J J J (Zm J J J (Zm J J J (Zm J J J (Za J (Zp J J) (Za J (Zd J) (Zm J J J (Zm J J J (Zm J J J (Za J (Zp J J) (Za J (Zd J) (Zm J J J (Zm J J J (Zm J J J (Za J (Zp J J) (Za J (Zd J) (Zm J J J (Zm J J J (Zm J J J (Za J (Zp J J) (Ze (Zc (Yh J ?_))))))))))))))))))))))))))));have hF:=Q3 (m:=m) (by (simp_all [V7];done));refine Zg (Zb (Za J (Zf J) (Ze (Zc (Zr (Zl (Z3 J J ?_)))))));exact congrArg Value.bool hF.symm
   ·intro h3;refine Zk J J J (Zh (ff J) J) (Zk J J J (Zj (t1 J) J (Zi 0 J J)) (Zk J J J (Zx (ts J) J) (Zk J J J (Ug J J) (Za J (Zs J J) (Za J (Zd J) (Z9 J J J ?_ ?_))))))
    ·intro h4;refine Zm J J J (Zm J J J (Zm J J J (Zm J J J (Za J (Zp J J) (Za J (Zd J) (Zm J J J (Zm J J J (Zm J J J (Za J (Zp J J) (Za J (Zd J) (Zm J J J (Zm J J J (Zm J J J (Za J (Zp J J) (Za J (Zd J) (Zm J J J (Zm J J J (Zm J J J (Za J (Zp J J) (Ze (Zc (Yh J ?_))))))))))))))))))))));have hF:=Q3 (m:=m) (by (simp_all [V7];omega));refine Zg (Zb (Za J (Zf J) (Ze (Zc (Zr (Zl (Z3 J J ?_)))))));exact congrArg Value.bool hF.symm
    ·intro h4;refine Zk J J J (Zh (ff J) J) (Zk J J J (Zj (t1 J) J (Zi 0 J J)) (Zk J J J (Zd J) (Zk J J J (Yi J J) (Za J (Zs J J) (Za J (Zd J) (Z9 J J J ?_ ?_))))))
     ·intro h5;refine Zm J J J (Zm J J J (Zm J J J (Za J (Zp J J) (Za J (Zd J) (Zm J J J (Zm J J J (Zm J J J (Za J (Zp J J) (Za J (Zd J) (Zm J J J (Zm J J J (Zm J J J (Za J (Zp J J) (Ze (Zc (Yh J ?_))))))))))))))));have hF:=Q3 (m:=m) (by (simp_all [V7];omega));refine Zg (Zb (Za J (Zf J) (Ze (Zc (Zr (Zl (Z3 J J ?_)))))));exact congrArg Value.bool hF.symm
     ·intro h5;refine Zk J J J (Zh (ff J) J) (Zk J J J (Zj (t1 J) J (Zi 0 J J)) (Zk J J J (Ug J J) (Za J (Zs J J) (Za J (Zd J) (Z9 J J J ?_ ?_)))))
      ·intro h6;refine Zm J J J (Zm J J J (Zm J J J (Za J (Zp J J) (Za J (Zd J) (Zm J J J (Zm J J J (Zm J J J (Za J (Zp J J) (Ze (Zc (Yh J ?_)))))))))));have hF:=Q3 (m:=m) (by (simp_all [V7];omega));refine Zg (Zb (Za J (Zf J) (Ze (Zc (Zr (Zl (Z3 J J ?_)))))));exact congrArg Value.bool hF.symm
      ·intro h6;refine Zk J J J (Zh (ff J) J) (Zk J J J (Zj (t1 J) J (Zi 0 J J)) (Zk J J J (Yi J J) (Za J (Zs J J) (Za J (Zd J) (Z9 J J J ?_ ?_)))))
       ·intro h7;refine Zm J J J (Zm J J J (Zm J J J (Za J (Zp J J) (Ze (Zc (Yh J ?_))))));have hF:=Q3 (m:=m) (by (simp_all [V7];omega));refine Zg (Zb (Za J (Zf J) (Ze (Zc (Zr (Zl (Z3 J J ?_)))))));exact congrArg Value.bool hF.symm
       ·intro h7;refine Zk J J J (Zh (ff J) J) (Zk J J J (Zj (t1 J) J (Zi 0 J J)) (Zk J J J (Ug J J) (Za J (Zs J J) (Ze (Zc (Zu J ?_ ?_))))))
        ·intro c2;have hF:=Q3 (m:=m) (by (simp_all [V7];done));refine Zg (Zb (Za J (Zf J) (Ze (Zc (Zr (Zl (Z3 J J ?_)))))));exact congrArg Value.bool hF.symm
        ·intro c2;have hH:V7 m=true:=by (simp_all [V7];done)
         refine Zo (Zc (Zg (Zg (Zb (Za J (Zh (ff J) J) (Za J (Zj (t1 J) J (Zi 0 J J)) (Za J (Zx (ts J) J) (Za J (Yi J J) (Za J (Zd J) (Z9 J J J ?_ ?_))))))))))
         ·intro h8;refine Zm J J J (Zm J J J (Zm J J J (Zm J J J (Za J (Zp J J) (Za J (Zd J) (Zm J J J (Zm J J J (Zm J J J (Zm J J J (Za J (Zp J J) (Za J (Zd J) (Zm J J J (Zm J J J (Zm J J J (Zm J J J (Za J (Zp J J) (Ze (Zc (Yh J ?_)))))))))))))))))));have hF:=met_size (m:=m) (by (simp_all;omega));refine Zg (Zb (Za J (Zf J) (Ze (Zc (Zr (Zl (Z3 J J ?_)))))));exact congrArg Value.bool hF.symm
         ·intro h8;refine Zk J J J (Zh (ff J) J) (Zk J J J (Zj (t1 J) J (Zi 0 J J)) (Zk J J J (Zx (ts J) J) (Zk J J J (Ug J J) (Za J (Zs J J) (Za J (Zd J) (Z9 J J J ?_ ?_))))))
          ·intro h9;refine Zm J J J (Zm J J J (Zm J J J (Zm J J J (Za J (Zp J J) (Za J (Zd J) (Zm J J J (Zm J J J (Zm J J J (Zm J J J (Za J (Zp J J) (Ze (Zc (Yh J ?_)))))))))))));have hF:=met_size (m:=m) (by (simp_all;omega));refine Zg (Zb (Za J (Zf J) (Ze (Zc (Zr (Zl (Z3 J J ?_)))))));exact congrArg Value.bool hF.symm
          ·intro h9;refine Zk J J J (Zh (ff J) J) (Zk J J J (Zj (t1 J) J (Zi 0 J J)) (Zk J J J (Zx (ts J) J) (Zk J J J (Ug J J) (Za J (Zs J J) (Za J (Zd J) (Z9 J J J ?_ ?_))))))
           ·intro h10;refine Zm J J J (Zm J J J (Zm J J J (Zm J J J (Za J (Zp J J) (Ze (Zc (Yh J ?_)))))));have hF:=met_size (m:=m) (by (simp_all;omega));refine Zg (Zb (Za J (Zf J) (Ze (Zc (Zr (Zl (Z3 J J ?_)))))));exact congrArg Value.bool hF.symm
           ·intro h10;refine Zk J J J (Zh (ff J) J) (Zk J J J (Zj (t1 J) J (Zi 0 J J)) (Zk J J J (Zx (ts J) J) (Zk J J J (Ug J J) (Za J (Zs J J) (Ze (Zc (Zu J ?_ ?_)))))))
            ·intro c3;have hF:=met_size (m:=m) (by (simp_all;done));refine Zg (Zb (Za J (Zf J) (Ze (Zc (Zr (Zl (Z3 J J ?_)))))));exact congrArg Value.bool hF.symm
            ·intro c3;have hZ:(decide (1≤(m.code.length:Int))&&decide ((m.code.length:Int)≤200)&&decide ((m.handlers.length:Int)≤10)&&decide ((m.frames.length:Int)≤60))=true:=by (simp_all;done)
             refine Zo (Zc (Zg (Zg (Zb (Za J (Zf J) (Ze (Zc (Zn ?_))))))));refine Yf (Yg (X:=Nat) (fun k=>[(1,pt b0),(7,iN k)]) _ _ (fun k=>[(b0,meV m (.slice p1 m.params.length e1) (.slice p2 m.code.length e2) (.slice p3 m.handlers.length e3) (.slice p4 m.frames.length e4))]) (fun k=>Asr.none) (fun k=>k≤m.code.length∧(m.code.take k).all (fun i=>Y5 i m.locals m.code.length)=true) (fun k=>m.code.length - k) (0) (⟨Nat.zero_le _,J⟩) ?_) ⟨J,J,trivial⟩;intro k hI;refine Zg (Zg (Zb (Za J (Zd J) (Za J (Zh (ff J) J) (Za J (Zj (t1 J) J (Zi 0 J J)) (Za J (Zx (ts J) J) (Za J (Yi J J) (Ze (Zc (Zu J ?_ ?_))))))))))
             ·intro c4;have hk:k<m.code.length:=by omega
              obtain ⟨b,o,r,hp,hb,⟨pv,hr,hpt,hio⟩,hc⟩:=hr2.out k m.code[k] (List.getElem?_eq_getElem hk);subst hp;subst hr;refine Zo (Zc (Zg (Zn (Zg (Ws X2 (by kernel_rfl) ?_)))));refine Zq J (Zh (ff J) J) (Zq J (Zj (t1 J) J (Zi 0 J J)) (Zq J (Zd J) (Zq J (Yo (ts J) J J ?_) ?_)))
              ·omega
              refine Zq J (Yj (tn J) J (Xl hc hb) J) (Zq J (Zv (tn J) J 0 J J) (Sf fn135 J J (fun w hs=>isInstr_any _ m _ _ _ _ _ w (hpt.mono (Xx hs)) hio (hm.out.mono (Xx hs))) ?_));refine Zq J (Zf J) (Wi (Zc (Zg (Zb (Za J (Zd J) (Za J (Xv J) (Ze (Zc (W4 J ?_ ?_)))))))))
              ·intro c5;have hF:=met_code (Sa hk (by simpa using c5));refine Zg (Zb (Za J (Zf J) (Ze (Zc (Zr (Zl (Zl (Zl (Zl (Zl (Z3 J J ?_)))))))))));exact congrArg Value.bool hF.symm
              ·intro c5;refine Zo (Zt (Zc (Zb (Za J (Zd J) ?_))));refine Za J (Yn J J ?_) ?_;omega;refine Za J (Zf J) (Ze ?_);refine Z1 (k+1) ?_ (⟨hk,Ol hk hI.2 (by simpa using c5)⟩) 0 J (J) ⟨J,J,trivial⟩;omega
             ·intro c4;have hC:=all_end (by omega) hI.2;refine Yd (Yc (Z5 (Yb (Zc (Zg (Zg (Zb (Za J (Zf J) (Ze (Zc (Zn ?_)))))))))));refine Yf (Yg (X:=Nat) (fun k=>[(1,pt b0),(9,iN k)]) _ _ (fun k=>[(b0,meV m (.slice p1 m.params.length e1) (.slice p2 m.code.length e2) (.slice p3 m.handlers.length e3) (.slice p4 m.frames.length e4))]) (fun k=>Asr.none) (fun k=>k≤m.handlers.length∧(m.handlers.take k).all (fun h=>Tb h m.code.length)=true) (fun k=>m.handlers.length - k) (0) (⟨Nat.zero_le _,J⟩) ?_) ⟨J,J,trivial⟩;intro k hI;refine Zg (Zg (Zb (Za J (Zd J) (Za J (Zh (ff J) J) (Za J (Zj (t1 J) J (Zi 0 J J)) (Za J (Zx (ts J) J) (Za J (Yi J J) (Ze (Zc (Zu J ?_ ?_))))))))))
              ·intro c6;have hk:k<m.handlers.length:=by omega
               obtain ⟨b,o,r,hp,hb,⟨hr,hho⟩,hc⟩:=hr3.out k m.handlers[k] (List.getElem?_eq_getElem hk);subst hp;subst hr;refine Zo (Zc (Zg (Zn (Zg (Zb (Za J (Zh (ff J) J) (Za J (Zj (t1 J) J (Zi 0 J J)) (Za J (Zd J) (Za J (Yo (ts J) J J ?_) ?_)))))))))
               ·omega
               refine Za J (Yj (tn J) J (Xl hc hb) J) (Yk J (tz J) ?_);intro b1 hb1;refine Z2 (tn J) J J 0 J J J J (Ze (Zc (Zg (Zb (Za J (Zh (ff J) J) (Za J (Zj (t1 J) J (Zi 0 J J)) (Yq fn93 J J (fun w _=>Sr _ w hho.2.2.2) ?_)))))));refine Za J (Zf J) (Ze (Zc (Zg (Zb (Za J (Zh (ff J) J) (Za J (Zj (t1 J) J (Zi 0 J J)) (Za J (Yi J J) (Za J (Zd J) (Z9 J J J ?_ ?_)))))))))
               ·intro h11;refine Zm J J J (Zm J J J (Zm J J J (Zm J J J (Zm J J J (Za J (Zp J J) (Za J (Zd J) (Zm J J J (Zm J J J (Zm J J J (Zm J J J (Zm J J J (Zm J J J (Za J (Zp J J) (Za J (Zd J) (Zm J J J (Zm J J J (Zm J J J (Za J (Zp J J) (Za J (Zd J) (Zm J J J (Zm J J J (Zm J J J (Zm J J J (Zm J J J (Zm J J J (Za J (Zp J J) (Za J (Zd J) (Zm J J J (Zm J J J ?_)))))))))))))))))))))))))))));refine Zm J J J (W7 J J J (W7 J J J (W7 J J J (Zm J J J (Za J (Zp J J) (Ze (Zc (Yh J ?_))))))));have hF:=met_hds (Sa hk (by (simp_all [Tb];omega)));refine Zg (Zb (Za J (Zf J) (Ze (Zc (Zr (Zl (Zl (Zl (Zl (Zl (Z3 J J ?_)))))))))));exact congrArg Value.bool hF.symm
               ·intro h11;refine Zk J J J (Zh (ff J) J) (Zk J J J (Zj (t1 J) J (Zi 0 J J)) (Zk J J J (Zh (ff J) J) (Zk J J J (Zj (t1 J) J (Zi 0 J J)) (Zk J J J (Xj J J) (Za J (Zs J J) (Za J (Zd J) (Z9 J J J ?_ ?_)))))))
                ·intro h12;refine Zm J J J (Zm J J J (Zm J J J (Zm J J J (Zm J J J (Zm J J J (Za J (Zp J J) (Za J (Zd J) (Zm J J J (Zm J J J (Zm J J J (Za J (Zp J J) (Za J (Zd J) (Zm J J J (Zm J J J (Zm J J J (Zm J J J (Zm J J J (Zm J J J (Za J (Zp J J) (Za J (Zd J) (Zm J J J (Zm J J J (Zm J J J (W7 J J J (W7 J J J (W7 J J J (Zm J J J (Za J (Zp J J) (Ze ?_)))))))))))))))))))))))))))));refine Zc (Yh J ?_);have hF:=met_hds (Sa hk (by (simp_all [Tb];omega)));refine Zg (Zb (Za J (Zf J) (Ze (Zc (Zr (Zl (Zl (Zl (Zl (Zl (Z3 J J ?_)))))))))));exact congrArg Value.bool hF.symm
                ·intro h12;refine Zk J J J (Zh (ff J) J) (Zk J J J (Zj (t1 J) J (Zi 0 J J)) (Zk J J J (Zh (ff J) J) (Zk J J J (Zj (t1 J) J (Zi 1 J J)) (Zk J J J (Zx (ts J) J) (Zk J J J (Ug J J) (Za J (Zs J J) (Za J (Zd J) (Z9 J J J ?_ ?_))))))))
                 ·intro h13;refine Zm J J J (Zm J J J (Zm J J J (Za J (Zp J J) (Za J (Zd J) (Zm J J J (Zm J J J (Zm J J J (Zm J J J (Zm J J J (Zm J J J (Za J (Zp J J) (Za J (Zd J) (Zm J J J (Zm J J J (Zm J J J (W7 J J J (W7 J J J (W7 J J J (Zm J J J (Za J (Zp J J) (Ze (Zc (Yh J ?_)))))))))))))))))))))));have hF:=met_hds (Sa hk (by (simp_all [Tb];omega)));refine Zg (Zb (Za J (Zf J) (Ze (Zc (Zr (Zl (Zl (Zl (Zl (Zl (Z3 J J ?_)))))))))));exact congrArg Value.bool hF.symm
                 ·intro h13;refine Zk J J J (Zh (ff J) J) (Zk J J J (Zj (t1 J) J (Zi 0 J J)) (Zk J J J (Yi J J) (Za J (Zs J J) (Za J (Zd J) (Z9 J J J ?_ ?_)))))
                  ·intro h14;refine Zm J J J (Zm J J J (Zm J J J (Zm J J J (Zm J J J (Zm J J J (Za J (Zp J J) (Za J (Zd J) (Zm J J J (Zm J J J (Zm J J J (W7 J J J (W7 J J J (W7 J J J (Zm J J J (Za J (Zp J J) (Ze (Zc (Yh J ?_))))))))))))))))));have hF:=met_hds (Sa hk (by (simp_all [Tb];omega)));refine Zg (Zb (Za J (Zf J) (Ze (Zc (Zr (Zl (Zl (Zl (Zl (Zl (Z3 J J ?_)))))))))));exact congrArg Value.bool hF.symm
                  ·intro h14;refine Zk J J J (Zh (ff J) J) (Zk J J J (Zj (t1 J) J (Zi 0 J J)) (Zk J J J (Zh (ff J) J) (Zk J J J (Zj (t1 J) J (Zi 1 J J)) (Zk J J J (Zx (ts J) J) (Zk J J J (Rq J J) (Za J (Zs J J) (Za J (Zd J) (Z9 J J J ?_ ?_))))))))
                   ·intro h15;refine Zm J J J (Zm J J J (Zm J J J (W7 J J J (W7 J J J (W7 J J J (Zm J J J (Za J (Zp J J) (Ze (Zc (Yh J ?_))))))))));have hF:=met_hds (Sa hk (by (simp_all [Tb];omega)));refine Zg (Zb (Za J (Zf J) (Ze (Zc (Zr (Zl (Zl (Zl (Zl (Zl (Z3 J J ?_)))))))))));exact congrArg Value.bool hF.symm
                   ·intro h15;refine Zk J J J (Zd J) (Zk J J J (Xv J) (Zk J J J (Zd J) (Ub J J J ?_ ?_)))
                    ·intro h16;refine Zk J J J (Zh (ff J) J) (Zk J J J (Zj (t1 J) J (Zi 0 J J)) (Zk J J J (S5 J J) (Zk J J J (Zp J J) (Za J (Zs J J) (Ze (Zc (Qw J ?_ ?_)))))))
                     ·intro c7;have hF:=met_hds (Sa hk (by (simp_all [Tb];done)));refine Zg (Zb (Za J (Zf J) (Ze (Zc (Zr (Zl (Zl (Zl (Zl (Zl (Z3 J J ?_)))))))))));exact congrArg Value.bool hF.symm
                     ·intro c7;refine Zo (Zt (Zc (Zb (Za J (Zd J) ?_))));refine Za J (Yn J J ?_) ?_;omega;refine Za J (Zf J) (Ze ?_);refine Z1 (k+1) ?_ (⟨hk,Ol hk hI.2 (by (simp_all [Tb];done))⟩) 1 rfl (rfl) ⟨rfl,rfl,trivial⟩;omega
                    ·intro h16;refine Zm J J J (Zm J J J (Zm J J J (Zk J J J (Zs J J) (Za J (Zs J J) (Ze (Zc (Xn J (Zo (Zt (Zc (Zb (Za J (Zd J) ?_))))))))))));refine Za J (Yn J J ?_) ?_;omega;refine Za J (Zf J) (Ze ?_);refine Z1 (k+1) ?_ (⟨hk,Ol hk hI.2 (by (simp_all [Tb];done))⟩) 1 rfl (rfl) ⟨rfl,rfl,trivial⟩;omega
              ·intro c6;have hD:=all_end (by omega) hI.2;refine Yd (Yc (Z5 (Yb (Zc (Zg (Zg (Zb (Za J (Zf J) (Ze (Zc (Zn ?_)))))))))));refine Yf (Yg (X:=Nat) (fun k=>[(1,pt b0),(12,iN k)]) _ _ (fun k=>[(b0,meV m (.slice p1 m.params.length e1) (.slice p2 m.code.length e2) (.slice p3 m.handlers.length e3) (.slice p4 m.frames.length e4))]) (fun k=>Asr.none) (fun k=>k≤m.frames.length∧(List.range k).all (M5 m.frames m.locals m.stack m.code.length)=true) (fun k=>m.frames.length - k) (0) (⟨Nat.zero_le _,J⟩) ?_) ⟨J,J,trivial⟩;intro k hI;refine Zg (Zg (Zb (Za J (Zd J) (Za J (Zh (ff J) J) (Za J (Zj (t1 J) J (Zi 0 J J)) (Za J (Zx (ts J) J) (Za J (Yi J J) (Ze (Zc (Zu J ?_ ?_))))))))))
               ·intro c8;have hk:k<m.frames.length:=by omega
                obtain ⟨b,o,r,hp,hb,⟨lv,sv,hr,hfl,hfs,hfo⟩,hc⟩:=hr4.out k m.frames[k] (List.getElem?_eq_getElem hk);obtain ⟨q1,f1,hq1,hm1, -⟩:=hfl.is;obtain ⟨q2,f2,hq2,hm2, -⟩:=hfs.is;subst hp;subst hr;subst hq1;subst hq2;refine Zo (Zc (Zg (Zn (Zg (Zb (Za J (Zh (ff J) J) (Za J (Zj (t1 J) J (Zi 0 J J)) (Za J (Zd J) (Za J (Yo (ts J) J J ?_) ?_)))))))))
                ·omega
                refine Za J (Yj (tn J) J (Xl hc hb) J) (Yk J (tz J) ?_);intro b1 hb1;refine Z2 (tn J) J J 0 J J J J (Ze (Zc (Zg (Zb (Za J (Zh (ff J) J) (Za J (Zj (t1 J) J (Zi 0 J J)) (Yq fn134 J J (fun w hs=>Pm _ m.frames[k].locals _ w (hfl.mono (Xx hs))) ?_)))))));refine Za J (Zf J) (Ze (Zc (Zg (Zb (Za J (Zh (ff J) J) (Za J (Zj (t1 J) J (Zi 0 J J)) (Yq fn134 J J (fun w hs=>Pm _ m.frames[k].stack _ w (hfs.mono (Xx hs))) ?_)))))));refine Za J (Zf J) (Ze (Zc (Zg (Ws X2 (by kernel_rfl) ?_))));refine Zq J (Zh (ff J) J) (Zq J (Zj (t1 J) J (Zi 0 J J)) (Zq J (Yi J J) (Zq J (Zd J) (Tz J J ?_ ?_))))
                ·intro h17;replace h17:=dTr h17;try have hA:=Tp (l:=m.frames) (k:=k) (by omega) (by omega)
                 try obtain ⟨b',o',r',hp',hb',⟨lv',sv',hr', -, -, -⟩,hc'⟩:=hr4.out (k - 1) m.frames[k-1] (List.getElem?_eq_getElem (by omega))
                 try (cases hp';subst hr')
                 try have hprev:=hc' 0 _ rfl
                 refine Yp J J J (Yp J J J (Yp J J J (Yp J J J (Yp J J J (Yp J J J (Zq J (Zp J J) (Zq J (Zd J) (Yp J J J (Yp J J J (Yp J J J (Xz J J J (Xz J J J (Xz J J J (Xz J J J (Xz J J J (Xz J J J (Xz J J J (Xz J J J (Xz J J J (Xz J J J (Yp J J J (Zq J (Zp J J) (Zq J (Zd J) (Yp J J J (Yp J J J (Yp J J J (Yp J J J (Yp J J J (Yp J J J ?_)))))))))))))))))))))))))))));refine Zq J (Zp J J) (Zq J (Zd J) (Yp J J J (Yp J J J (Yp J J J (Yp J J J (Yp J J J (Yp J J J (Zq J (Zp J J) (Zq J (Zd J) (Yp J J J (Yp J J J (Zq J (Zp J J) (Zq J (Zd J) (Yp J J J (Yp J J J (Zq J (Zp J J) (Wi (Zc (Yh J ?_)))))))))))))))))));have hF:=R7 (Wb hk (by rw [Ua hk];(simp_all [Td];omega)));refine Zg (Zb (Za J (Zf J) (Ze (Zc (Zr (Zl (Zl (Zl (Zl (Zl (Z3 J J ?_)))))))))));exact congrArg Value.bool hF.symm
                ·intro h17;replace h17:=dFa h17;try have hA:=Ta (l:=m.frames) (k:=k) (by omega)
                 refine Z0 J J J (Zh (ff J) J) (Z0 J J J (Zj (t1 J) J (Zi 0 J J)) (Z0 J J J (Zh (ff J) J) (Z0 J J J (Zj (t1 J) J (Zi 1 J J)) (Z0 J J J (Zx (ts J) J) (Z0 J J J (Rq J J) (Zq J (Zs J J) (Zq J (Zd J) (Tz J J ?_ ?_))))))))
                 ·intro h18;replace h18:=dTr h18;try have hA:=Tp (l:=m.frames) (k:=k) (by omega) (by omega)
                  try obtain ⟨b',o',r',hp',hb',⟨lv',sv',hr', -, -, -⟩,hc'⟩:=hr4.out (k - 1) m.frames[k-1] (List.getElem?_eq_getElem (by omega))
                  try (cases hp';subst hr')
                  try have hprev:=hc' 0 _ rfl
                  refine Yp J J J (Yp J J J (Yp J J J (Xz J J J (Xz J J J (Xz J J J (Xz J J J (Xz J J J (Xz J J J (Xz J J J (Xz J J J (Xz J J J (Xz J J J (Yp J J J (Zq J (Zp J J) (Zq J (Zd J) (Yp J J J (Yp J J J (Yp J J J (Yp J J J (Yp J J J (Yp J J J (Zq J (Zp J J) (Zq J (Zd J) (Yp J J J (Yp J J J (Yp J J J (Yp J J J (Yp J J J (Yp J J J ?_)))))))))))))))))))))))))))));refine Zq J (Zp J J) (Zq J (Zd J) (Yp J J J (Yp J J J (Zq J (Zp J J) (Zq J (Zd J) (Yp J J J (Yp J J J (Zq J (Zp J J) (Wi (Zc (Yh J ?_)))))))))));have hF:=R7 (Wb hk (by rw [Ua hk];(simp_all [Td];omega)));refine Zg (Zb (Za J (Zf J) (Ze (Zc (Zr (Zl (Zl (Zl (Zl (Zl (Z3 J J ?_)))))))))));exact congrArg Value.bool hF.symm
                 ·intro h18;replace h18:=dFa h18;try have hA:=Ta (l:=m.frames) (k:=k) (by omega)
                  refine Z0 J J J (Zd J) (Z0 J J J (Ug J J) (Z0 J J J (Zd J) (Tz J J ?_ ?_)))
                  ·intro h19;replace h19:=dTr h19;try have hA:=Tp (l:=m.frames) (k:=k) (by omega) (by omega)
                   try obtain ⟨b',o',r',hp',hb',⟨lv',sv',hr', -, -, -⟩,hc'⟩:=hr4.out (k - 1) m.frames[k-1] (List.getElem?_eq_getElem (by omega))
                   try (cases hp';subst hr')
                   try have hprev:=hc' 0 _ rfl
                   refine Z0 J J J (Zh (ff J) J) (Z0 J J J (Zj (t1 J) J (Zi 0 J J)) (Z0 J J J (Zh (ff J) J) (Z0 J J J (Zj (t1 J) J (Zi 1 J J)) (Z0 J J J (Zd J) ?_))));refine Z0 J J J (Q0 J J ?_) ?_;omega;refine WO_same (s:=201) (v':=.int .i64 ((k - 1:Nat):Int)) J (by congr 1;omega) ?_;refine Z0 J J J (Yo (ts J) J J ?_) ?_
                   ·omega
                   refine Z0 J J J (Zh (ff J) J) (Z0 J J J (Zj (t1 J) J (Z6 hprev hb)) (Z0 J J J (Xj J J) (Z0 J J J (Zp J J) (Zq J (Zs J J) (Zq J (Zd J) (Tz J J ?_ ?_))))))
                   ·intro h20;replace h20:=dTr h20;try have hA:=Tp (l:=m.frames) (k:=k) (by omega) (by omega)
                    try obtain ⟨b',o',r',hp',hb',⟨lv',sv',hr', -, -, -⟩,hc'⟩:=hr4.out (k - 1) m.frames[k-1] (List.getElem?_eq_getElem (by omega))
                    try (cases hp';subst hr')
                    try have hprev:=hc' 0 _ rfl
                    refine Yp J J J (Yp J J J (Yp J J J (Yp J J J (Yp J J J (Yp J J J (Zq J (Zp J J) (Zq J (Zd J) (Yp J J J (Yp J J J (Yp J J J (Yp J J J (Yp J J J (Yp J J J (Zq J (Zp J J) (Zq J (Zd J) (Yp J J J (Yp J J J (Zq J (Zp J J) (Zq J (Zd J) (Yp J J J (Yp J J J (Zq J (Zp J J) (Wi (Zc (Yh J ?_)))))))))))))))))))))))));have hF:=R7 (Wb hk (by rw [Ua hk];(simp_all [Td];omega)));refine Zg (Zb (Za J (Zf J) (Ze (Zc (Zr (Zl (Zl (Zl (Zl (Zl (Z3 J J ?_)))))))))));exact congrArg Value.bool hF.symm
                   ·intro h20;replace h20:=dFa h20;try have hA:=Ta (l:=m.frames) (k:=k) (by omega)
                    refine Z0 J J J (Zh (ff J) J) (Z0 J J J (Zj (t1 J) J (Zi 0 J J)) (Z0 J J J (Zx (ts J) J) (Z0 J J J (Zh (ff J) J) (Z0 J J J (Zj (t1 J) J (Zi 1 J J)) (Z0 J J J (T3 J J) (Zq J (Zs J J) (Zq J (Zd J) (Tz J J ?_ ?_))))))))
                    ·intro h21;replace h21:=Rm h21;try have hA:=Tp (l:=m.frames) (k:=k) (by omega) (by omega)
                     try obtain ⟨b',o',r',hp',hb',⟨lv',sv',hr', -, -, -⟩,hc'⟩:=hr4.out (k - 1) m.frames[k-1] (List.getElem?_eq_getElem (by omega))
                     try (cases hp';subst hr')
                     try have hprev:=hc' 0 _ rfl
                     refine Yp J J J (Yp J J J (Yp J J J (Yp J J J (Yp J J J (Yp J J J (Zq J (Zp J J) (Zq J (Zd J) (Yp J J J (Yp J J J (Zq J (Zp J J) (Zq J (Zd J) (Yp J J J (Yp J J J (Zq J (Zp J J) (Wi (Zc (Yh J ?_)))))))))))))))));have hF:=R7 (Wb hk (by rw [Ua hk];(simp_all [Td];done)));refine Zg (Zb (Za J (Zf J) (Ze (Zc (Zr (Zl (Zl (Zl (Zl (Zl (Z3 J J ?_)))))))))));exact congrArg Value.bool hF.symm
                    ·intro h21;replace h21:=Sn h21;try have hA:=Ta (l:=m.frames) (k:=k) (by omega)
                     refine Z0 J J J (Zh (ff J) J) (Z0 J J J (Zj (t1 J) J (Zi 0 J J)) (Z0 J J J (Zx (ts J) J) (Z0 J J J (Zh (ff J) J) (Z0 J J J (Zj (t1 J) J (Zi 1 J J)) (Z0 J J J (Ug J J) (Zq J (Zs J J) (Zq J (Zd J) (Tz J J ?_ ?_))))))))
                     ·intro h22;replace h22:=dTr h22;try have hA:=Tp (l:=m.frames) (k:=k) (by omega) (by omega)
                      try obtain ⟨b',o',r',hp',hb',⟨lv',sv',hr', -, -, -⟩,hc'⟩:=hr4.out (k - 1) m.frames[k-1] (List.getElem?_eq_getElem (by omega))
                      try (cases hp';subst hr')
                      try have hprev:=hc' 0 _ rfl
                      refine Yp J J J (Yp J J J (Zq J (Zp J J) (Zq J (Zd J) (Yp J J J (Yp J J J (Zq J (Zp J J) (Wi (Zc (Yh J ?_)))))))));have hF:=R7 (Wb hk (by rw [Ua hk];(simp_all [Td];omega)));refine Zg (Zb (Za J (Zf J) (Ze (Zc (Zr (Zl (Zl (Zl (Zl (Zl (Z3 J J ?_)))))))))));exact congrArg Value.bool hF.symm
                     ·intro h22;replace h22:=dFa h22;try have hA:=Ta (l:=m.frames) (k:=k) (by omega)
                      refine Z0 J J J (Zd J) (Z0 J J J (Xv J) (Zq J (Zs J J) (Zq J (Zd J) (Tz J J ?_ ?_))))
                      ·intro h23;try have hA:=Tp (l:=m.frames) (k:=k) (by omega) (by omega)
                       try obtain ⟨b',o',r',hp',hb',⟨lv',sv',hr', -, -, -⟩,hc'⟩:=hr4.out (k - 1) m.frames[k-1] (List.getElem?_eq_getElem (by omega))
                       try (cases hp';subst hr')
                       try have hprev:=hc' 0 _ rfl
                       refine Yp J J J (Yp J J J (Zq J (Zp J J) (Wi (Zc (Yh J ?_)))));have hF:=R7 (Wb hk (by rw [Ua hk];(simp_all [Td];done)));refine Zg (Zb (Za J (Zf J) (Ze (Zc (Zr (Zl (Zl (Zl (Zl (Zl (Z3 J J ?_)))))))))));exact congrArg Value.bool hF.symm
                      ·intro h23;try have hA:=Ta (l:=m.frames) (k:=k) (by omega)
                       refine Z0 J J J (Zd J) (Z0 J J J (Xv J) (Zq J (Zs J J) (Wi (Zc (W4 J ?_ ?_)))))
                       ·intro c9;have hF:=R7 (Wb hk (by rw [Ua hk];(simp_all [Td];done)));refine Zg (Zb (Za J (Zf J) (Ze (Zc (Zr (Zl (Zl (Zl (Zl (Zl (Z3 J J ?_)))))))))));exact congrArg Value.bool hF.symm
                       ·intro c9;refine Zo (Zt (Zc (Zb (Za J (Zd J) ?_))));refine Za J (Yn J J ?_) ?_;omega;refine Za J (Zf J) (Ze ?_);refine Z1 (k+1) ?_ (⟨hk,Ud hI.2 (by rw [Ua hk];(simp_all [Td];done))⟩) 1 rfl (rfl) ⟨rfl,rfl,trivial⟩;omega
                  ·intro h19;replace h19:=dFa h19;try have hA:=Ta (l:=m.frames) (k:=k) (by omega)
                   refine Yp J J J (Yp J J J (Yp J J J (Yp J J J (Yp J J J (Yp J J J (Yp J J J (Yp J J J (Yp J J J (Yp J J J (Z0 J J J (Zs J J) (Zq J (Zs J J) (Zq J (Zd J) (Z0 J J J (Zh (ff J) J) (Z0 J J J (Zj (t1 J) J (Zi 0 J J)) (Z0 J J J (Zx (ts J) J) (Z0 J J J (Zh (ff J) J) (Z0 J J J (Zj (t1 J) J (Zi 1 J J)) (Z0 J J J (T3 J J) (Zq J (Zs J J) (Zq J (Zd J) (Tz J J ?_ ?_)))))))))))))))))))))
                   ·intro h24;replace h24:=Rm h24;try have hA:=Tp (l:=m.frames) (k:=k) (by omega) (by omega)
                    try obtain ⟨b',o',r',hp',hb',⟨lv',sv',hr', -, -, -⟩,hc'⟩:=hr4.out (k - 1) m.frames[k-1] (List.getElem?_eq_getElem (by omega))
                    try (cases hp';subst hr')
                    try have hprev:=hc' 0 _ rfl
                    refine Yp J J J (Yp J J J (Yp J J J (Yp J J J (Yp J J J (Yp J J J (Zq J (Zp J J) (Zq J (Zd J) (Yp J J J (Yp J J J (Zq J (Zp J J) (Zq J (Zd J) (Yp J J J (Yp J J J (Zq J (Zp J J) (Wi (Zc (Yh J ?_)))))))))))))))));have hF:=R7 (Wb hk (by rw [Ua hk];(simp_all [Td];done)));refine Zg (Zb (Za J (Zf J) (Ze (Zc (Zr (Zl (Zl (Zl (Zl (Zl (Z3 J J ?_)))))))))));exact congrArg Value.bool hF.symm
                   ·intro h24;replace h24:=Sn h24;try have hA:=Ta (l:=m.frames) (k:=k) (by omega)
                    refine Z0 J J J (Zh (ff J) J) (Z0 J J J (Zj (t1 J) J (Zi 0 J J)) (Z0 J J J (Zx (ts J) J) (Z0 J J J (Zh (ff J) J) (Z0 J J J (Zj (t1 J) J (Zi 1 J J)) (Z0 J J J (Ug J J) (Zq J (Zs J J) (Zq J (Zd J) (Tz J J ?_ ?_))))))))
                    ·intro h25;replace h25:=dTr h25;try have hA:=Tp (l:=m.frames) (k:=k) (by omega) (by omega)
                     try obtain ⟨b',o',r',hp',hb',⟨lv',sv',hr', -, -, -⟩,hc'⟩:=hr4.out (k - 1) m.frames[k-1] (List.getElem?_eq_getElem (by omega))
                     try (cases hp';subst hr')
                     try have hprev:=hc' 0 _ rfl
                     refine Yp J J J (Yp J J J (Zq J (Zp J J) (Zq J (Zd J) (Yp J J J (Yp J J J (Zq J (Zp J J) (Wi (Zc (Yh J ?_)))))))));have hF:=R7 (Wb hk (by rw [Ua hk];(simp_all [Td];omega)));refine Zg (Zb (Za J (Zf J) (Ze (Zc (Zr (Zl (Zl (Zl (Zl (Zl (Z3 J J ?_)))))))))));exact congrArg Value.bool hF.symm
                    ·intro h25;replace h25:=dFa h25;try have hA:=Ta (l:=m.frames) (k:=k) (by omega)
                     refine Z0 J J J (Zd J) (Z0 J J J (Xv J) (Zq J (Zs J J) (Zq J (Zd J) (Tz J J ?_ ?_))))
                     ·intro h26;try have hA:=Tp (l:=m.frames) (k:=k) (by omega) (by omega)
                      try obtain ⟨b',o',r',hp',hb',⟨lv',sv',hr', -, -, -⟩,hc'⟩:=hr4.out (k - 1) m.frames[k-1] (List.getElem?_eq_getElem (by omega))
                      try (cases hp';subst hr')
                      try have hprev:=hc' 0 _ rfl
                      refine Yp J J J (Yp J J J (Zq J (Zp J J) (Wi (Zc (Yh J ?_)))));have hF:=R7 (Wb hk (by rw [Ua hk];(simp_all [Td];done)));refine Zg (Zb (Za J (Zf J) (Ze (Zc (Zr (Zl (Zl (Zl (Zl (Zl (Z3 J J ?_)))))))))));exact congrArg Value.bool hF.symm
                     ·intro h26;try have hA:=Ta (l:=m.frames) (k:=k) (by omega)
                      refine Z0 J J J (Zd J) (Z0 J J J (Xv J) (Zq J (Zs J J) (Wi (Zc (W4 J ?_ ?_)))))
                      ·intro c9;have hF:=R7 (Wb hk (by rw [Ua hk];(simp_all [Td];done)));refine Zg (Zb (Za J (Zf J) (Ze (Zc (Zr (Zl (Zl (Zl (Zl (Zl (Z3 J J ?_)))))))))));exact congrArg Value.bool hF.symm
                      ·intro c9;refine Zo (Zt (Zc (Zb (Za J (Zd J) ?_))));refine Za J (Yn J J ?_) ?_;omega;refine Za J (Zf J) (Ze ?_);refine Z1 (k+1) ?_ (⟨hk,Ud hI.2 (by rw [Ua hk];(simp_all [Td];omega))⟩) 1 rfl (rfl) ⟨rfl,rfl,trivial⟩;omega
               ·intro c8;have hE:=Tl hI.1 (by omega) hI.2;refine Yd (Yc (Z5 (Yb (Zc (Zg (Zb (Za J (Zf J) (Ze (Zc (Zr (Z3 J J ?_)))))))))));exact congrArg Value.bool (met_yes hH hZ hC hD hE).symm
end
end Go.Proofs.YtpofmnfkdkmieaaGreat
