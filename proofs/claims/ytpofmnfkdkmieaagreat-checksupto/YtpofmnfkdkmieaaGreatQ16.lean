/- What is proved here: the program's own asking of code, handle -/
import Derived.Test.YtpofmnfkdkmieaaGreatQ09
import Derived.Test.YtpofmnfkdkmieaaGreatQ13
import Derived.Test.YtpofmnfkdkmieaaGreatQ06
set_option linter.unusedVariables false
set_option linter.unusedSimpArgs false
namespace Go.Proofs.YtpofmnfkdkmieaaGreat
section
open Go.RowKit At E
theorem sort_opd (op:Int):Xk op=if op<0∨32<op then -1 else V1 op:=by
 unfold Xk V1;repeat' split
 all_goals first | rfl | omega
theorem opd_range (op:Int):V1 op=0∨V1 op=1∨V1 op=2∨V1 op=3∨V1 op=4∨V1 op=5∨V1 op=6:=by
 unfold V1;repeat' split
 all_goals simp
theorem isInstrB_parts (i:Ins) (a:Int) (n:Nat):Y5 i a n=(decide (0≤i.op)&&decide (i.op≤32)&&numB i a n&&Ob i):=by
 unfold Y5;rw [sort_opd];by_cases ho:i.op<0∨32<i.op
 ·rw [if_pos ho,if_pos (by omega)]
  have:(decide (0≤i.op)&&decide (i.op≤32))=false:=by
   rcases ho with h | h
   ·rw [decide_eq_false (by omega)];rfl
   ·rw [decide_eq_false (p:=i.op≤32) (by omega)];simp
  rw [this];rfl
 ·rw [if_neg ho];have h1:(decide (0≤i.op)&&decide (i.op≤32))=true:=by rw [decide_eq_true (by omega),decide_eq_true (by omega)];rfl
  rw [h1];simp only [Bool.true_and];unfold numB Ob mtT;have hlen:(0<(i.ref.params.length:Int))↔¬ ((i.ref.params.length:Int)=0):=by omega
  have hff:∀ (p:Prop) [Decidable p] (x:Bool),(if p then false else x)=(!decide p&&x):=by intro p _ x;by_cases hp:p<;>simp [hp]
  have hnb:∀ b:Bool,decide (b=false) = !b:=by intro b;cases b<;>rfl
  rcases opd_range i.op with h | h | h | h | h | h | h
  all_goals
   simp only [h,hff,Bool.decide_or,decide_not,hlen,hnb];generalize decide (i.ref.cls=_)=b1;generalize decide (i.ref.name=_)=b2;generalize decide ((i.ref.params.length:Int)=0)=b3;generalize decide (i.ref.ty.kind=0)=b4;generalize decide (i.ref.ty.cls=_)=b5;generalize decide (i.n=0)=b6;generalize X4 i.ref.cls=b7;simp
  all_goals (cases b1<;>cases b2<;>cases b3<;>cases b4<;>cases b5<;>cases b6<;>cases b7<;>simp [Bool.and_assoc])
def Pf (m:Me):Bool:=decide (0<(m.code.length:Int))&&decide ((m.code.length:Int)≤200)&&m.code.all (fun i=>Y5 i m.locals m.code.length)
theorem Tn (m:Me) (pv hv fv:Value) (cv:Value) (w:World) (hm:MeParts w m pv cv hv fv):Qj Tryz.prog 321 #[.agg (meV m pv cv hv fv).toArray] w (Pf m):=by
 obtain ⟨p2,e2,rfl,hl2,hr2⟩:=hm.cs.is;replace hr2:Hid _:=hr2;clear hm;refine Xf (args:=[.agg (meV m pv (.slice p2 m.code.length e2) hv fv).toArray]) Tryz.func321 J Tryz.ntmps321 ?_;refine Zg (Zb (Y2 J J ?_));intro b0 hb0;refine Ze (Zc (Zg (Zb (Za J (Zh (ff J) J) (Za J (Zj (t1 J) J (Zi 0 J J)) (Za J (Zx (ts J) J) (Za J (Yi J J) (Za J (Zd J) (Z9 J J J ?_ ?_)))))))))
 ·intro h1;refine Zk J J J (Zh (ff J) J) (Zk J J J (Zj (t1 J) J (Zi 0 J J)) (Zk J J J (Zx (ts J) J) (Zk J J J (Xj J J) (Za J (Zp J J) (Z7 X1 J J (fun w _=>Yr _ w) ?_ ?_)))))
  rotate_left
  ·intro o2;replace o2:=dFa o2;have hF:Pf m=false:=by (simp_all [Pf];omega)
   refine Zy (Ym ?_);exact hF
  intro o2;replace o2:=dTr o2;have hZ:(decide (0<(m.code.length:Int))&&decide ((m.code.length:Int)≤200))=true:=by (simp_all;done)
  refine Ze (Zc (Zg (Zb (Za J (Zh (ff J) J) (Za J (Zj (t1 J) J (Zi 0 J J)) (Za J (Zx (ts J) J) (Za J (Zd J) (Ze (Zc (Zn ?_))))))))));refine Yf (Yg (X:=Nat) (fun k=>[(1,pt b0),(16,.slice p2 m.code.length e2),(17,iN m.code.length),(18,iN k)]) _ _ (fun k=>[(b0,meV m pv (.slice p2 m.code.length e2) hv fv)]) (fun k=>Asr.none) (fun k=>k≤m.code.length∧(m.code.take k).all (fun i=>Y5 i m.locals m.code.length)=true) (fun k=>m.code.length - k) (0) (⟨Nat.zero_le _,J⟩) ?_) ⟨J,J,J,J,trivial⟩;intro k hI;refine Zg (Zb (Za J (Yi J J) (Ze (Zc (Zg (Zu J ?_ ?_))))))
  ·intro c1;have hk:k<m.code.length:=by omega
   obtain ⟨b,o,r,hp,hb,⟨qv,hr,hpt,hio⟩,hc⟩:=hr2.out k m.code[k] (List.getElem?_eq_getElem hk);obtain ⟨q1,f1,hq1, -, -⟩:=hpt.is;subst hp;subst hr;subst hq1;have hIP:=isInstrB_parts m.code[k] m.locals m.code.length;refine Zo (Zc (Zg (Zn (Zg (Zb (Za J (Yo (ts J) J J ?_) ?_))))))
   ·omega
   refine Za J (Yj (tn J) J (Xl hc hb) J) (Yk J (tz J) ?_);intro b1 hb1;refine Z2 (tn J) J J 0 J J J J (Ze (Zc (Zg (Zb (Za J (Zh (ff J) J) (Za J (Zj (t1 J) J (Zi 0 J J)) (Za J (Xj J J) (Za J (Zd J) (Z9 J J J ?_ ?_)))))))))
   ·intro h3;refine Zk J J J (Zh (ff J) J) (Zk J J J (Zj (t1 J) J (Zi 0 J J)) (Zk J J J (Xj J J) (Za J (Zp J J) (Z7 X1 J J (fun w _=>Yr _ w) ?_ ?_))))
    rotate_left
    ·intro o4;replace o4:=dFa o4;have hF:Pf m=false:=by unfold Pf;rw [Sa hk (f:=fun i=>Y5 i m.locals m.code.length) (by rw [hIP];(simp_all;omega))];simp
     refine Zy (Zy (Zy (Zy (Zy (Ym ?_)))));exact hF
    intro o4;replace o4:=dTr o4;refine Ze (Zc (Zg (Zb (Za J (Zv (tn J) J 0 J J) (Za J (Zv (tn J) J 1 J J) (Z7 fn355 J J (fun w _=>mustHaveNumber_any _ _ m _ _ _ _ _ w) ?_ ?_))))))
    rotate_left
    ·intro o5;have hF:Pf m=false:=by unfold Pf;rw [Sa hk (f:=fun i=>Y5 i m.locals m.code.length) (by rw [hIP];simp_all)];simp
     refine Zy (Zy (Zy (Zy (Zy (Ym ?_)))));exact hF
    intro o5;refine Ze (Zc (Zb (Za J (Zv (tn J) J 0 J J) (Z7 fn356 J J (fun w hs=>mustHaveRef_any _ _ w (Yu.mono hpt (Xx hs)) hio) ?_ ?_))))
    rotate_left
    ·intro o6;have hF:Pf m=false:=by unfold Pf;rw [Sa hk (f:=fun i=>Y5 i m.locals m.code.length) (by rw [hIP];simp_all)];simp
     refine Zy (Zy (Zy (Zy (Ym ?_))));exact hF
    intro o6;refine Ze (Zt (Zc (Zb ?_)));refine Za J (Yn J J ?_) ?_;omega;refine Za J (Zd J) (Ze ?_);refine Z1 (k+1) ?_ (⟨hk,Ol hk hI.2 (by rw [hIP];(simp_all;done))⟩) 1 rfl (rfl) ⟨rfl,rfl,rfl,rfl,trivial⟩;omega
   ·intro h3;refine Zm J J J (Zm J J J (Zm J J J (Za J (Zs J J) (Z7 X1 J J (fun w _=>Yr _ w) ?_ ?_))))
    ·intro o7;cases o7
    intro _;have hF:Pf m=false:=by unfold Pf;rw [Sa hk (f:=fun i=>Y5 i m.locals m.code.length) (by rw [hIP];(simp_all;omega))];simp
    refine Zy (Zy (Zy (Zy (Zy (Ym ?_)))));exact hF
  ·intro c1;refine Yd (Yc (Z5 (Yb (Uf J ?_))));unfold Pf;rw [hZ,all_end (by omega) hI.2];rfl
 ·intro h1;refine Zm J J J (Zm J J J (Zm J J J (Zm J J J (Za J (Zs J J) (Z7 X1 J J (fun w _=>Yr _ w) ?_ ?_)))))
  ·intro o8;cases o8
  intro _;have hF:Pf m=false:=by (simp_all [Pf];done)
  refine Zy (Ym ?_);exact hF
def hdsB (m:Me):Bool:=decide ((m.handlers.length:Int)≤10)&&m.handlers.all (fun h=>Tb h m.code.length)
theorem V2 (m:Me) (pv hv fv:Value) (cv:Value) (w:World) (hm:MeParts w m pv cv hv fv):Qj Tryz.prog 322 #[.agg (meV m pv cv hv fv).toArray] w (hdsB m):=by
 obtain ⟨p2,e2,rfl,hl2, -⟩:=hm.cs.is;obtain ⟨p3,e3,rfl,hl3,hr3⟩:=hm.hs.is;replace hr3:Hid _:=hr3;clear hm;refine Xf (args:=[.agg (meV m pv (.slice p2 m.code.length e2) (.slice p3 m.handlers.length e3) fv).toArray]) Tryz.func322 J Tryz.ntmps322 ?_;refine Zg (Zb (Y2 J J ?_));intro b0 hb0;refine Ze (Zc (Zg (Zb (Za J (Zh (ff J) J) (Za J (Zj (t1 J) J (Zi 0 J J)) (Za J (Zx (ts J) J) (Za J (Xj J J) (Z7 X1 J J (fun w _=>Yr _ w) ?_ ?_))))))))
 rotate_left
 ·intro o1;replace o1:=dFa o1;have hF:hdsB m=false:=by (simp_all [hdsB];omega)
  refine Zy (Ym ?_);exact hF
 intro o1;replace o1:=dTr o1;have hZ:decide ((m.handlers.length:Int)≤10)=true:=by simp_all
 refine Ze (Zc (Zg (Zb (Za J (Zh (ff J) J) (Za J (Zj (t1 J) J (Zi 0 J J)) (Za J (Zx (ts J) J) (Za J (Zd J) (Ze (Zc (Zn ?_))))))))));refine Yf (Yg (X:=Nat) (fun k=>[(1,pt b0),(10,.slice p3 m.handlers.length e3),(11,iN m.handlers.length),(12,iN k)]) _ _ (fun k=>[(b0,meV m pv (.slice p2 m.code.length e2) (.slice p3 m.handlers.length e3) fv)]) (fun k=>Asr.none) (fun k=>k≤m.handlers.length∧(m.handlers.take k).all (fun h=>Tb h m.code.length)=true) (fun k=>m.handlers.length - k) (0) (⟨Nat.zero_le _,J⟩) ?_) ⟨J,J,J,J,trivial⟩;intro k hI;refine Zg (Zb (Za J (Yi J J) (Ze (Zc (Zg (Zu J ?_ ?_))))))
 ·intro c1;have hk:k<m.handlers.length:=by omega
  obtain ⟨b,o,r,hp,hb,⟨hr,hho⟩,hc⟩:=hr3.out k m.handlers[k] (List.getElem?_eq_getElem hk);subst hp;subst hr;refine Zo (Zc (Zg (Zn (Zg (Zb (Za J (Yo (ts J) J J ?_) ?_))))))
  ·omega
  refine Za J (Yj (tn J) J (Xl hc hb) J) (Yk J (tz J) ?_);intro b1 hb1;refine Z2 (tn J) J J 0 J J J J (Ze (Zc (Zg (Zb (Za J (Zh (ff J) J) (Za J (Zj (t1 J) J (Zi 0 J J)) (Za J (Xj J J) (Za J (Zd J) (Z9 J J J ?_ ?_)))))))))
  ·intro h2;refine Zk J J J (Zh (ff J) J) (Zk J J J (Zj (t1 J) J (Zi 0 J J)) (Zk J J J (Zh (ff J) J) (Zk J J J (Zj (t1 J) J (Zi 0 J J)) (Zk J J J (Yi J J) (Za J (Zp J J) (Za J (Zd J) (Z9 J J J ?_ ?_)))))))
   ·intro h3;refine Zk J J J (Zh (ff J) J) (Zk J J J (Zj (t1 J) J (Zi 0 J J)) (Zk J J J (Zh (ff J) J) (Zk J J J (Zj (t1 J) J (Zi 1 J J)) (Zk J J J (Zx (ts J) J) (Zk J J J (Xj J J) (Za J (Zp J J) (Z7 X1 J J (fun w _=>Yr _ w) ?_ ?_)))))))
    rotate_left
    ·intro o4;replace o4:=dFa o4;have hF:hdsB m=false:=by unfold hdsB;rw [Sa hk (f:=fun h=>Tb h m.code.length) (by (simp_all [Tb];omega))];simp
     refine Zy (Zy (Zy (Zy (Zy (Ym ?_)))));exact hF
    intro o4;replace o4:=dTr o4;refine Ze (Zc (Zg (Zb (Za J (Zh (ff J) J) (Za J (Zj (t1 J) J (Zi 0 J J)) (Za J (Zv (tn J) J 1 J J) (Yq fn357 J J (fun w _=>isPlace_any _ m _ _ _ _ _ w) ?_)))))));refine Z7 X1 J J (fun w _=>Yr _ w) ?_ ?_
    rotate_left
    ·intro o5;have hF:hdsB m=false:=by unfold hdsB;rw [Sa hk (f:=fun h=>Tb h m.code.length) (by (simp_all [Tb];omega))];simp
     refine Zy (Zy (Zy (Zy (Zy (Ym ?_)))));exact hF
    intro o5;refine Ze (Zc (Zg (Zb (Za J (Zh (ff J) J) (Za J (Zj (t1 J) J (Zi 0 J J)) (Za J (S5 J J) (Ze (Zc (Qw J ?_ ?_)))))))))
    ·intro c2;refine Zb (Za J (Zh (ff J) J) (Za J (Zj (t1 J) J (Zi 0 J J)) (Z7 fn139 J J (fun w _=>W6 _ w hho.2.2.2) ?_ ?_)))
     rotate_left
     ·intro o6;have hF:hdsB m=false:=by unfold hdsB;rw [Sa hk (f:=fun h=>Tb h m.code.length) (by (simp_all [Tb];done))];simp
      refine Zy (Zy (Zy (Zy (Ym ?_))));exact hF
     intro o6;refine Ze (Zt (Zc (Zb ?_)));refine Za J (Yn J J ?_) ?_;omega;refine Za J (Zd J) (Ze ?_);refine Z1 (k+1) ?_ (⟨hk,Ol hk hI.2 (by (simp_all [Tb];done))⟩) 1 rfl (rfl) ⟨rfl,rfl,rfl,rfl,trivial⟩;omega
    ·intro c2;refine Zo (Zt (Zc (Zb ?_)));refine Za J (Yn J J ?_) ?_;omega;refine Za J (Zd J) (Ze ?_);refine Z1 (k+1) ?_ (⟨hk,Ol hk hI.2 (by (simp_all [Tb];done))⟩) 1 rfl (rfl) ⟨rfl,rfl,rfl,rfl,trivial⟩;omega
   ·intro h3;refine Zm J J J (Zm J J J (Zm J J J (Zm J J J (Zm J J J (Zm J J J (Za J (Zs J J) (Z7 X1 J J (fun w _=>Yr _ w) ?_ ?_)))))))
    ·intro o7;cases o7
    intro _;have hF:hdsB m=false:=by unfold hdsB;rw [Sa hk (f:=fun h=>Tb h m.code.length) (by (simp_all [Tb];omega))];simp
    refine Zy (Zy (Zy (Zy (Zy (Ym ?_)))));exact hF
  ·intro h2;refine Zm J J J (Zm J J J (Zm J J J (Zm J J J (Zm J J J (Za J (Zs J J) (Za J (Zd J) (Zm J J J (Zm J J J (Zm J J J (Zm J J J (Zm J J J (Zm J J J (Za J (Zs J J) (Z7 X1 J J (fun w _=>Yr _ w) ?_ ?_))))))))))))))
   ·intro o8;cases o8
   intro _;have hF:hdsB m=false:=by unfold hdsB;rw [Sa hk (f:=fun h=>Tb h m.code.length) (by (simp_all [Tb];omega))];simp
   refine Zy (Zy (Zy (Zy (Zy (Ym ?_)))));exact hF
 ·intro c1;refine Yd (Yc (Z5 (Yb (Uf J ?_))));unfold hdsB;rw [hZ,all_end (by omega) hI.2];rfl
def frsB (m:Me):Bool:=decide ((m.frames.length:Int)≤60)&&(List.range m.frames.length).all (M5 m.frames m.locals m.stack m.code.length)
theorem all_fra (l:List Ty):l.all (mayB fraB)=Wo l true:=by unfold Wo;congr 1;funext t;exact mayB_fra t
theorem aheadOf_succ {l:List Fr} {k:Nat} (hk:k<l.length):S3 l (k+1)=(l[k]).pos:=by simp [S3,posAt,List.getElem?_eq_getElem hk]
theorem Up (m:Me) (pv hv fv:Value) (cv:Value) (w:World) (hm:MeParts w m pv cv hv fv):Qj Tryz.prog 323 #[.agg (meV m pv cv hv fv).toArray] w (frsB m):=by
 obtain ⟨p2,e2,rfl,hl2, -⟩:=hm.cs.is;obtain ⟨p4,e4,rfl,hl4,hr4⟩:=hm.fs.is;replace hr4:Hid _:=hr4;clear hm;refine Xf (args:=[.agg (meV m pv (.slice p2 m.code.length e2) hv (.slice p4 m.frames.length e4)).toArray]) Tryz.func323 J Tryz.ntmps323 ?_;refine Zg (Zb (Y2 J J ?_));intro b0 hb0;refine Ze (Zc (Zg (Zb (Za J (Zh (ff J) J) (Za J (Zj (t1 J) J (Zi 0 J J)) (Za J (Zx (ts J) J) (Za J (Xj J J) (Z7 X1 J J (fun w _=>Yr _ w) ?_ ?_))))))))
 rotate_left
 ·intro o1;replace o1:=dFa o1;have hF:frsB m=false:=by (simp_all [frsB];omega)
  refine Zy (Ym ?_);exact hF
 intro o1;replace o1:=dTr o1;have hZ:decide ((m.frames.length:Int)≤60)=true:=by simp_all
 refine Ze (Zc (Zg (Zb (Za J (Zf J) (Ze (Zc (Zg (Zb (Za J (Zh (ff J) J) (Za J (Zj (t1 J) J (Zi 0 J J)) (Za J (Zx (ts J) J) (Za J (Zd J) (Ze (Zc (Zn ?_)))))))))))))));refine Yf (Yg (X:=Nat) (fun k=>[(1,pt b0),(2,.int .i64 (S3 m.frames k)),(11,.slice p4 m.frames.length e4),(12,iN m.frames.length),(13,iN k)]) _ _ (fun k=>[(b0,meV m pv (.slice p2 m.code.length e2) hv (.slice p4 m.frames.length e4))]) (fun k=>Asr.none) (fun k=>k≤m.frames.length∧(List.range k).all (M5 m.frames m.locals m.stack m.code.length)=true) (fun k=>m.frames.length - k) (0) (⟨Nat.zero_le _,J⟩) ?_) ⟨J,J,J,J,J,trivial⟩;intro k hI;refine Zg (Zb (Za J (Yi J J) (Ze (Zc (Zg (Zu J ?_ ?_))))))
 ·intro c1;have hk:k<m.frames.length:=by omega
  obtain ⟨b,o,r,hp,hb,⟨lv,sv,hr,hfl,hfs,hfo⟩,hc⟩:=hr4.out k m.frames[k] (List.getElem?_eq_getElem hk);obtain ⟨q1,f1,hq1,hm1, -⟩:=hfl.is;obtain ⟨q2,f2,hq2,hm2, -⟩:=hfs.is;subst hp;subst hr;subst hq1;subst hq2;replace hfl:Hid _:=hfl;replace hfs:Hid _:=hfs;have hFA:=Ua hk m.locals m.stack m.code.length;refine Zo (Zc (Zg (Zn (Zg (Zb (Za J (Yo (ts J) J J ?_) ?_))))))
  ·omega
  refine Za J (Yj (tn J) J (Xl hc hb) J) (Yk J (tz J) ?_);intro b1 hb1;refine Z2 (tn J) J J 0 J J J J (Ze (Zc (Zg (Zb (Za J (Zd J) (Za J (Zh (ff J) J) (Za J (Zj (t1 J) J (Zi 0 J J)) (Za J (Yi J J) (Za J (Zd J) (Z9 J J J ?_ ?_))))))))))
  ·intro h2;refine Zk J J J (Zh (ff J) J) (Zk J J J (Zj (t1 J) J (Zi 0 J J)) (Zk J J J (Zv (tn J) J 1 J J) (Oo fn357 J J J J (fun w _=>isPlace_any _ m _ _ _ _ _ w) ?_)));refine Za J (Zp J J) (Z7 X1 J J (fun w _=>Yr _ w) ?_ ?_)
   rotate_left
   ·intro o3;have hF:frsB m=false:=by unfold frsB;rw [Wb hk (f:=M5 m.frames m.locals m.stack m.code.length) (by rw [hFA];(simp_all [Td];omega))];simp
    refine Zy (Zy (Zy (Zy (Zy (Ym ?_)))));exact hF
   intro o3;refine Ze (Zc (Zg (Zb (Za J (Zh (ff J) J) (Za J (Zj (t1 J) J (Zi 0 J J)) (Za J (Zf J) (Ze (Zc (Zg (Zb (Za J (Zh (ff J) J) (Za J (Zj (t1 J) J (Zi 0 J J)) (Za J (Zx (ts J) J) (Za J (Zh (ff J) J) (Za J (Zj (t1 J) J (Zi 1 J J)) (Za J (Ya J J) (Za J (Zd J) (Z9 J J J ?_ ?_))))))))))))))))))
   ·intro h4;refine Zk J J J (Zh (ff J) J) (Zk J J J (Zj (t1 J) J (Zi 0 J J)) (Zk J J J (Zx (ts J) J) (Zk J J J (Zh (ff J) J) (Zk J J J (Zj (t1 J) J (Zi 1 J J)) (Zk J J J (Xj J J) (Za J (Zp J J) (Z7 X1 J J (fun w _=>Yr _ w) ?_ ?_)))))))
    rotate_left
    ·intro o5;replace o5:=dFa o5;have hF:frsB m=false:=by unfold frsB;rw [Wb hk (f:=M5 m.frames m.locals m.stack m.code.length) (by rw [hFA];(simp_all [Td];omega))];simp
     refine Zy (Zy (Zy (Zy (Zy (Ym ?_)))));exact hF
    intro o5;replace o5:=dTr o5;refine Ze (Zc (Zg (Zb (Za J (Zh (ff J) J) (Za J (Zj (t1 J) J (Zi 0 J J)) (Z7 fn354 J J (fun w hs=>(Pb 358 fraB fn358 isOfFrame_any _ m.frames[k].locals w (Yu.mono hfl.out (Xx hs))).of_eq (all_fra _)) ?_ ?_))))))
    rotate_left
    ·intro o6;have hF:frsB m=false:=by unfold frsB;rw [Wb hk (f:=M5 m.frames m.locals m.stack m.code.length) (by rw [hFA];(simp_all [Td];done))];simp
     refine Zy (Zy (Zy (Zy (Zy (Ym ?_)))));exact hF
    intro o6;refine Ze (Zc (Zb (Za J (Zh (ff J) J) (Za J (Zj (t1 J) J (Zi 0 J J)) (Z7 fn354 J J (fun w hs=>(Pb 358 fraB fn358 isOfFrame_any _ m.frames[k].stack w (Yu.mono hfs.out (Xx hs))).of_eq (all_fra _)) ?_ ?_)))))
    rotate_left
    ·intro o7;have hF:frsB m=false:=by unfold frsB;rw [Wb hk (f:=M5 m.frames m.locals m.stack m.code.length) (by rw [hFA];(simp_all [Td];done))];simp
     refine Zy (Zy (Zy (Zy (Ym ?_))));exact hF
    intro o7;refine Ze (Zt (Zc (Zb ?_)));refine Za J (Yn J J ?_) ?_;omega;refine Za J (Zd J) (Ze (Se (s:=2) (v':=.int .i64 (S3 m.frames (k+1))) J (by rw [aheadOf_succ hk]) ?_));refine Z1 (k+1) ?_ (⟨hk,Ud hI.2 (by rw [hFA];(simp_all [Td];done))⟩) 1 rfl (rfl) ⟨rfl,rfl,rfl,rfl,rfl,trivial⟩;omega
   ·intro h4;refine Zm J J J (Zm J J J (Zm J J J (Zm J J J (Zm J J J (Zm J J J (Za J (Zs J J) (Z7 X1 J J (fun w _=>Yr _ w) ?_ ?_)))))))
    ·intro o8;cases o8
    intro _;have hF:frsB m=false:=by unfold frsB;rw [Wb hk (f:=M5 m.frames m.locals m.stack m.code.length) (by rw [hFA];(simp_all [Td];done))];simp
    refine Zy (Zy (Zy (Zy (Zy (Ym ?_)))));exact hF
  ·intro h2;refine Zm J J J (Zm J J J (Zm J J J (Zm J J J (Za J (Zs J J) (Z7 X1 J J (fun w _=>Yr _ w) ?_ ?_)))))
   ·intro o9;cases o9
   intro _;have hF:frsB m=false:=by unfold frsB;rw [Wb hk (f:=M5 m.frames m.locals m.stack m.code.length) (by rw [hFA];(simp_all [Td];omega))];simp
   refine Zy (Zy (Zy (Zy (Zy (Ym ?_)))));exact hF
 ·intro c1;refine Yd (Yc (Z5 (Yb (Uf J ?_))));unfold frsB;rw [hZ,Tl hI.1 (by omega) hI.2];rfl
def tyEq (a b:Ty):Bool:=decide (a.kind=b.kind)&&eqS a.cls b.cls
def tysEq (l l':List Ty):Bool:=decide (l.length=l'.length)&&(List.range l.length).all (fun i=>match l[i]?,l'[i]? with | some a,some b=>tyEq a b | _,_=>true)
theorem tysEq_eq (l l':List Ty):tysEq l l'=decide (l.map (fun t=>(t.kind,t.cls))=l'.map (fun t=>(t.kind,t.cls))):=by
 rw [Bool.eq_iff_iff];simp only [tysEq,Bool.and_eq_true,decide_eq_true_eq,List.all_eq_true,List.mem_range];constructor
 ·rintro ⟨h1,h2⟩;apply List.ext_getElem?;intro i;rw [List.getElem?_map,List.getElem?_map];by_cases hi:i<l.length
  ·have h3:=h2 i hi;rw [List.getElem?_eq_getElem hi,List.getElem?_eq_getElem (h1 ▸ hi)] at h3 ⊢;simp only [tyEq,eqS,Bool.and_eq_true,decide_eq_true_eq] at h3;simp [h3.1,h3.2]
  ·rw [List.getElem?_eq_none (by omega),List.getElem?_eq_none (by omega)]
 ·intro h;have hl:l.length=l'.length:=by have:=congrArg List.length h;simpa using this
  refine ⟨hl,fun i hi=>?_⟩;have h3:=congrArg (fun x=>x[i]?) h;simp only [List.getElem?_map] at h3;rw [List.getElem?_eq_getElem hi,List.getElem?_eq_getElem (hl ▸ hi)] at h3 ⊢;simp only [Option.map_some,Option.some.injEq,Prod.mk.injEq] at h3;simp [tyEq,eqS,h3.1,h3.2]
theorem tys_no {l l':List Ty} {k:Nat} (hk:k<l.length) (hk':k<l'.length) (h:tyEq l[k] l'[k]=false):tysEq l l'=false:=by
 unfold tysEq;rw [Wb hk (by rw [List.getElem?_eq_getElem hk,List.getElem?_eq_getElem hk'];exact h)];simp
theorem equal_any (v v':Value) (l l':List Ty) (w:World) (hv:Yu w v l) (hv':Yu w v' l'):Vc Tryz.prog 324 #[v,v'] w (.bool (tysEq l l')):=by
 obtain ⟨p,c,rfl,hl,hr⟩:=hv.parts;obtain ⟨p',c',rfl,hl',hr'⟩:=hv'.parts;replace hr:Hid _:=hr;replace hr':Hid _:=hr';clear hv hv';refine Xf (args:=[.slice p l.length c,.slice p' l'.length c']) Tryz.func324 J Tryz.ntmps324 ?_;refine Zg (Zb (Za J (Zf J) (Ze (Zc (Zg (Zg (Zb (Za J (Zd J) (Za J (Zx (ts J) J) (Za J (Zd J) (Za J (Zx (ts J) J) (Za J (T3 J J) (Ze (Zc (Qw J ?_ ?_)))))))))))))))
 ·intro c1;have hF:tysEq l l'=false:=by unfold tysEq;rw [decide_eq_false (by omega)];rfl
  refine Zg (Zb (Za J (Zf J) (Ze (Zc (Zr (Zl (Z3 J J ?_)))))));exact congrArg Value.bool hF.symm
 ·intro c1;have hE:l.length=l'.length:=by omega
  refine Zo (Zc (Zg (Zg (Zb (Za J (Zd J) (Za J (Zx (ts J) J) (Za J (Zd J) (Ze (Zc (Zn ?_))))))))));refine Yf (Yg (X:=Nat) (fun k=>[(0,.slice p l.length c),(1,.slice p' l'.length c'),(12,iN l.length),(13,iN k)]) _ _ (fun k=>[]) (fun k=>Asr.none) (fun k=>k≤l.length∧(List.range k).all (fun i=>match l[i]?,l'[i]? with | some a,some b=>tyEq a b | _,_=>true)=true) (fun k=>l.length - k) (0) (⟨Nat.zero_le _,J⟩) ?_) ⟨J,J,J,J,trivial⟩;intro k hI;refine Zg (Zb (Za J (Yi J J) (Ze (Zc (Zg (Zu J ?_ ?_))))))
  ·intro c2;have hk:k<l.length:=by omega
   have hk':k<l'.length:=by omega
   obtain ⟨b,o,hp,hb,hc⟩:=hr.out k l[k] (List.getElem?_eq_getElem hk);obtain ⟨b',o',hp',hb',hc'⟩:=hr'.out k l'[k] (List.getElem?_eq_getElem hk');subst hp;subst hp';refine Zo (Zc (Zg (Zn (Zg (Zb (Za J (Zd J) (Za J (Zf J) (Ze (Zc (Zg (Ws X2 (by kernel_rfl) ?_)))))))))));refine Zq J (Zd J) (Zq J (Zd J) (Zq J (Yo (ts J) J J ?_) ?_))
   ·omega
   refine Zq J (Yj (tn J) J (Xl hc hb) J) (Zq J (Zd J) (Zq J (Zd J) (Zq J (Yo (ts J) J J ?_) ?_)))
   ·omega
   refine Zq J (Yj (tn J) J (Xl hc' hb') J) (Zq J (Ex_neqTy J J) (Wi (Zc (W4 J ?_ ?_))))
   ·intro c3;have hF:tysEq l l'=false:=tys_no hk hk' (by have h9:=c3;rw [Bool.not_eq_true'] at h9;exact h9);refine Zg (Zb (Za J (Zf J) (Ze (Zc (Zr (Zl (Zl (Zl (Zl (Zl (Z3 J J ?_)))))))))));exact congrArg Value.bool hF.symm
   ·intro c3;refine Zo (Zt (Zc (Zb ?_)));refine Za J (Yn J J ?_) ?_;omega;refine Za J (Zd J) (Ze ?_);refine Z1 (k+1) ?_ (⟨hk,Ud hI.2 (by rw [List.getElem?_eq_getElem hk,List.getElem?_eq_getElem hk'];have h9:=c3;rw [Bool.not_eq_false'] at h9;exact h9)⟩) 0 J (J) ⟨J,J,J,J,trivial⟩;omega
  ·intro c2;refine Yd (Yc (Z5 (Yb (Zc (Zg (Zb (Za J (Zf J) (Ze (Zc (Zr (Z3 J J ?_)))))))))))
   (have hT:tysEq l l'=true:=by unfold tysEq;rw [decide_eq_true hE,Tl hI.1 (by omega) hI.2];rfl);exact congrArg Value.bool hT.symm
theorem haveOne_any (a b:Me) (pv cv hv fv pv' cv' hv' fv':Value) (w:World) (ha:Yu w pv a.params) (hb:Yu w pv' b.params) :
  Vc Tryz.prog 248 #[.agg (meV a pv cv hv fv).toArray,.agg (meV b pv' cv' hv' fv').toArray] w (.bool (Ph a b)):=by
 refine Xf (args:=[.agg (meV a pv cv hv fv).toArray,.agg (meV b pv' cv' hv' fv').toArray]) Tryz.func248 J Tryz.ntmps248 ?_;refine Zg (Zb (Y2 J J ?_));intro b0 hb0;refine Y2 J J ?_;intro b1 hb1;refine Za J (Zf J) (Ze (Zc (Zg (Zb (Za J (Zh (ff J) J) (Za J (Zj (t1 J) J (Zi 1 J J)) (Za J (Zh (ff J) J) (Za J (Zj (t1 J) J (Zi 0 J J)) (Za J (Y7 J J) (Za J (Zd J) (Z9 J J J ?_ ?_)))))))))))
 ·intro h1;refine Zk J J J (Zh (ff J) J) (Zk J J J (Zv (tn J) J 1 J J) (Zk J J J (Zh (ff J) J) (Zk J J J (Zv (tn J) J 0 J J) (Zk J J J (Or J J) (Za J (Zp J J) (Za J (Zd J) (Ub J J J ?_ ?_)))))))
  ·intro h2;refine Zk J J J (Zh (ff J) J) (Zk J J J (Zj (t1 J) J (Zi 1 J J)) (Zk J J J (Zh (ff J) J) (Zk J J J (Zj (t1 J) J (Zi 0 J J)) (Oo fn324 J J J J (fun w hs=>equal_any _ _ a.params b.params w (Yu.mono ha (Xx hs)) (Yu.mono hb (Xx hs))) ?_))));refine Za J (Zp J J) (Za J (Zf J) (Ze (Zc (Zr (Z3 J J ?_)))));clear ha hb;congr 1;rw [Bool.eq_iff_iff];simp_all [Ph,tysEq_eq,eqS]
  ·intro h2;refine Zm J J J (Zm J J J (Zm J J J (Zm J J J (Zm J J J (Za J (Zs J J) (Za J (Zf J) (Ze (Zc (Zr (Z3 J J ?_))))))))));clear ha hb;congr 1;rw [Bool.eq_iff_iff];simp_all [Ph,tysEq_eq,eqS]
 ·intro h1;refine Zm J J J (Zm J J J (Zm J J J (Zm J J J (Zm J J J (Za J (Zs J J) (Za J (Zd J) (Zm J J J (Zm J J J (Zm J J J (Zm J J J (Zm J J J (Za J (Zs J J) (Za J (Zf J) (Ze (Zc (Zr (Z3 J J ?_)))))))))))))))));clear ha hb;congr 1;rw [Bool.eq_iff_iff];simp_all [Ph,tysEq_eq,eqS]
def fdsB (l:List Fld):Bool:=decide ((l.length:Int)≤20)&&(List.range l.length).all (fdAt l)
theorem mustBeFields_any (v:Value) (l:List Fld) (w:World) (hv:FdsAt w v l):Qj Tryz.prog 140 #[v] w (fdsB l):=by
 obtain ⟨p,e,rfl,hl,hr1⟩:=hv.is;replace hr1:Hid _:=hr1;clear hv;refine Xf (args:=[.slice p l.length e]) Tryz.func140 J Tryz.ntmps140 ?_;refine Zg (Zb (Za J (Zd J) (Za J (Zx (ts J) J) (Za J (Xj J J) (Z7 X1 J J (fun w _=>Yr _ w) ?_ ?_)))))
 rotate_left
 ·intro o1;replace o1:=dFa o1;have hF:fdsB l=false:=by (simp_all [fdsB];omega)
  refine Zy (Ym ?_);exact hF
 intro o1;replace o1:=dTr o1;have hZ:decide ((l.length:Int)≤20)=true:=by simp_all
 refine Ze (Zc (Zg (Zb (Za J (Zd J) (Za J (Zx (ts J) J) (Za J (Zd J) (Ze (Zc (Zn ?_)))))))));refine Yf (Yg (X:=Nat) (fun i=>[(0,.slice p l.length e),(10,.slice p l.length e),(11,iN l.length),(12,iN i)]) _ _ (fun i=>[]) (fun i=>Asr.none) (fun i=>i≤l.length∧(List.range i).all (fdAt l)=true) (fun i=>l.length - i) (0) (⟨Nat.zero_le _,J⟩) ?_) ⟨J,J,J,J,trivial⟩;intro i hI;refine Zg (Zb (Za J (Yi J J) (Ze (Zc (Zg (Zu J ?_ ?_))))))
 ·intro c1;have hi:i<l.length:=by omega
  obtain ⟨b,o,r,hp,hb,⟨hr,hfo⟩,hc⟩:=hr1.out i l[i] (List.getElem?_eq_getElem hi);subst hp;subst hr;refine Zo (Zc (Zg (Zn (Zg (Zb (Za J (Zd J) (Za J (Yo (ts J) J J ?_) ?_)))))))
  ·omega
  refine Za J (Yj (tn J) J (Xl hc hb) J) (Yk J (tz J) ?_);intro b0 hb0;refine Za J (Zf J) (Z2 (tn J) J J 0 J J J J (Ze (Zc (Zg (Zb (Za J (Zh (ff J) J) (Za J (Zj (t1 J) J (Zi 0 J J)) (Z7 fn139 J J (fun w _=>W6 _ w hfo.1) ?_ ?_))))))))
  rotate_left
  ·intro o2;have hF:fdsB l=false:=by unfold fdsB;rw [Wb hi (by rw [Rv hi];simp_all)];simp
   refine Zy (Zy (Zy (Zy (Zy (Ym ?_)))));exact hF
  intro o2;refine Ze (Zc (Zg (Zb (Za J (Zh (ff J) J) (Za J (Zv (tn J) J 0 J J) (Z7 fn245 J J (fun w _=>(So 246 valB fn246 Rg _ w hfo.2).of_eq (mayB_val _)) ?_ ?_))))))
  rotate_left
  ·intro o3;have hF:fdsB l=false:=by unfold fdsB;rw [Wb hi (by rw [Rv hi];simp_all)];simp
   refine Zy (Zy (Zy (Zy (Zy (Ym ?_)))));exact hF
  intro o3;refine Ze (Zc (Zg (Zb (Za J (Zd J) (Za J (Zd J) (Za J (U4 (ts J) J J ?_) ?_))))))
  ·omega
  refine Za J (Zx (ts J) J) (Za J (Zd J) (Ze (Zc (Zn ?_))));have hO:=hI;refine Yf (Yg (X:=Nat) (fun k=>[(0,.slice (some ⟨b,o,none⟩) l.length e),(3,pt b0),(10,.slice (some ⟨b,o,none⟩) l.length e),(11,iN l.length),(12,iN i),(25,.slice (some ⟨b,o,none⟩) i e),(26,iN i),(27,iN k)]) _ _ (fun k=>[(b0,fdV l[i])]) (fun k=>Asr.none) (fun k=>k≤i∧(List.range k).all (fdNe l i)=true) (fun k=>i - k) (0) (⟨Nat.zero_le _,J⟩) ?_) ⟨J,J,J,J,J,J,J,J,trivial⟩;intro k hI;refine Zg (Zb (Za J (Yi J J) (Ze (Zc (Zg (Zu J ?_ ?_))))))
  ·intro c2;have hki:k<i:=by omega
   have hk:k<l.length:=by omega
   obtain ⟨b',o',r',hp',hb',⟨hr', -⟩,hc'⟩:=hr1.out k l[k] (List.getElem?_eq_getElem hk);cases hp';subst hr';refine Zo (Zc (Zg (Zn (Zg (Zb (Za J (Yo (ts J) J J ?_) ?_))))))
   ·omega
   refine Za J (Yj (tn J) J (Xl hc' hb') J) (Yk J (tz J) ?_);intro b1 hb1;refine Z2 (tn J) J J 0 J J J J (Ze (Zc (Zb (Za J (Zh (ff J) J) (Za J (Zj (t1 J) J (Zi 0 J J)) (Za J (Zh (ff J) J) (Za J (Zj (t1 J) J (Zi 1 J J)) (Za J (S5 J J) (Z7 X1 J J (fun w _=>Yr _ w) ?_ ?_)))))))))
   rotate_left
   ·intro o4;replace o4:=Sn o4;have hF:fdsB l=false:=by unfold fdsB;rw [Wb hi (by rw [Rv hi,show fdNew l i=false from Wb hki (by rw [fdNe_some hi hk];simp_all [eqS])];simp)];simp
    refine Zy (Zy (Zy (Zy (Zy (Zy (Zy (Zy (Ym ?_))))))));exact hF
   intro o4;replace o4:=Rm o4;refine Ze (Zt (Zc (Zb ?_)));refine Za J (Yn J J ?_) ?_;omega;refine Za J (Zd J) (Ze ?_);refine Z1 (k+1) ?_ (⟨hki,Ud hI.2 (by rw [fdNe_some hi hk];simp_all [eqS])⟩) 1 rfl (rfl) ⟨rfl,rfl,rfl,rfl,rfl,rfl,rfl,rfl,trivial⟩;omega
  ·intro c2;have hN:fdNew l i=true:=Tl hI.1 (by omega) hI.2;have hA:fdAt l i=true:=by rw [Rv hi,hN];simp_all
   refine Yd (Yc (Z5 (Yb (Zt (Zc (Zb ?_))))));refine Za J (Yn J J ?_) ?_;omega;refine Za J (Zd J) (Ze ?_);refine Z1 (i+1) ?_ (⟨hi,Ud hO.2 hA⟩) 1 J (J) ⟨J,J,J,J,trivial⟩;omega
 ·intro c1;have hFd:=Tl hI.1 (by omega) hI.2;refine Yd (Yc (Z5 (Yb (Uf J ?_))));unfold fdsB;rw [hZ,hFd];rfl
end
namespace E
open Go Go.RowKit
section
variable {P:Program} {n:Nat} {E:Env} {w0:World} {F:List Nat} {H:Hp} {R:Asr}
theorem Uy {t t':TypeId} {x y:Operand} {k:IntKind} {i:Int} (hx:ev E x=some (.int k i)) (hy:ev E y=some (.int k i)):Ex P n E w0 F H R (.binOp .neq t x y t') (.bool false):=by
 have h:=T3 (P:=P) (n:=n) (w0:=w0) (F:=F) (H:=H) (R:=R) (t:=t) (t':=t') hx hy
 simpa using h
theorem T8 {t t':TypeId} {x y:Operand} {k:IntKind} {i:Int} (hx:ev E x=some (.int k i)) (hy:ev E y=some (.int k i)):Ex P n E w0 F H R (.binOp .eql t x y t') (.bool true):=by
 have h:=Ya (P:=P) (n:=n) (w0:=w0) (F:=F) (H:=H) (R:=R) (t:=t) (t':=t') hx hy
 simpa using h
theorem eqS_self (s:ByteArray):eqS s s=true:=by simp [eqS]
theorem Ex_neqS0 {t t':TypeId} {x y:Operand} {s:ByteArray} (hx:ev E x=some (.string s)) (hy:ev E y=some (.string s)):Ex P n E w0 F H R (.binOp .neq t x y t') (.bool false):=by
 have h:=S5 (P:=P) (n:=n) (w0:=w0) (F:=F) (H:=H) (R:=R) (t:=t) (t':=t') hx hy;rw [eqS_self] at h;exact h
theorem Ex_eqlS1 {t t':TypeId} {x y:Operand} {s:ByteArray} (hx:ev E x=some (.string s)) (hy:ev E y=some (.string s)):Ex P n E w0 F H R (.binOp .eql t x y t') (.bool true):=by
 have h:=Y7 (P:=P) (n:=n) (w0:=w0) (F:=F) (H:=H) (R:=R) (t:=t) (t':=t') hx hy;rw [eqS_self] at h;exact h
end
section
variable {n:Nat} {E:Env} {w0:World} {F:List Nat} {H:Hp} {R:Asr}
theorem neqB (b:Bool) (w:World):(do let r ← binOp .neq 4 (.bool b) (.bool b);pure (Next.value r):Sem Next).run Tryz.prog w=.ok (.value (.bool false)) w:=by cases b<;>kernel_rfl
theorem Ex_neqB0 {t':TypeId} {x y:Operand} {b:Bool} (hx:ev E x=some (.bool b)) (hy:ev E y=some (.bool b)):Ex Tryz.prog n E w0 F H R (.binOp .neq 4 x y t') (.bool false):=⟨fun w _ a ha _ _ _ _ _=>by
 simp only [execOp];rw [ha.eval hx,ha.eval hy];have h:=neqB b w;cases b<;>simpa [eqGuard] using h⟩
theorem Ex_neqTy0 {t':TypeId} {x y:Operand} {a:Int} {s:ByteArray} (hx:ev E x=some (.agg #[.int .i64 a,.string s])) (hy:ev E y=some (.agg #[.int .i64 a,.string s])):Ex Tryz.prog n E w0 F H R (.binOp .neq 71 x y t') (.bool false):=by
 have h:=Ex_neqTy (n:=n) (w0:=w0) (F:=F) (H:=H) (R:=R) (t':=t') hx hy;rw [eqS_self] at h;simpa using h
theorem Ex_eqlTy1 {t':TypeId} {x y:Operand} {a:Int} {s:ByteArray} (hx:ev E x=some (.agg #[.int .i64 a,.string s])) (hy:ev E y=some (.agg #[.int .i64 a,.string s])):Ex Tryz.prog n E w0 F H R (.binOp .eql 71 x y t') (.bool true):=by
 have h:=Or (n:=n) (w0:=w0) (F:=F) (H:=H) (R:=R) (t':=t') hx hy;rw [eqS_self] at h;simpa using h
theorem teInt (d:Nat) (a:Int) (w:World):(Op.equalIn (d+1) 3 (.int .i64 a) (.int .i64 a)).run Tryz.prog w=.ok true w:=by
 rw [run_equalIn_int w d 3 .i64 .i64 a a (Sj rfl)];simp
theorem teStr (d:Nat) (s:ByteArray) (w:World):(Op.equalIn (d+1) 9 (.string s) (.string s)).run Tryz.prog w=.ok true w:=by
 rw [run_equalIn_string w d 9 s s (Sk rfl)];simp
theorem teHd (a b c:Int) (s:ByteArray) (w:World):(Op.equalIn 10000 169 (.agg #[.int .i64 a,.int .i64 b,.int .i64 c,.string s]) (.agg #[.int .i64 a,.int .i64 b,.int .i64 c,.string s])).run Tryz.prog w=.ok true w:=by
 have hs:Tryz.prog.stoodInHeld 169=false:=by kernel_rfl
 have h3:∀ (w:World) (a:Int),(Op.equalIn 9999 3 (.int .i64 a) (.int .i64 a)).run Tryz.prog w=.ok true w:=fun w a=>teInt 9998 a w;have h9:∀ w:World,(Op.equalIn 9999 9 (.string s) (.string s)).run Tryz.prog w=.ok true w:=fun w=>teStr 9998 s w;have hu:=Tryz.underlying169;rw [show (10000:Nat)=9999+1 from rfl,Op.equalIn];simp only [Sem.run_bind,run_underlying hu,Result.andThen_ok,run_program,hs,Bool.false_eq_true,if_false];simp [part,isAgg,run_underlying (Sj (t:=3) rfl),run_underlying (Sk (t:=9) rfl),h3,h9]
theorem Ex_neqHd0 {t':TypeId} {x y:Operand} {a b c:Int} {s:ByteArray} (hx:ev E x=some (.agg #[.int .i64 a,.int .i64 b,.int .i64 c,.string s])) (hy:ev E y=some (.agg #[.int .i64 a,.int .i64 b,.int .i64 c,.string s])):Ex Tryz.prog n E w0 F H R (.binOp .neq 169 x y t') (.bool false) :=
 Ex_neqN (r:=true) (by kernel_rfl) hx hy (fun w=>teHd a b c s w)
end
end E
section
open Go Go.RowKit At E
theorem U9 (v v':Value) (l:List Ty) (w:World) (hv:Yu w v l) (hv':Yu w v' l):Vc Tryz.prog 79 #[v,v'] w (.bool true):=by
 obtain ⟨p,e,rfl,hl,hr1⟩:=hv.is;obtain ⟨p',e',rfl,hl',hr2⟩:=hv'.is;replace hr1:Hid _:=hr1;replace hr2:Hid _:=hr2;refine Xf (args:=[.slice p l.length e,.slice p' l.length e']) Tryz.func79 J Tryz.ntmps79 ?_;refine Zg (Zb (Za J (Zf J) (Ze (Zc (Zg (Zg (Zb (Za J (Zd J) (Za J (Zx (ts J) J) (Za J (Zd J) (Za J (Zx (ts J) J) (Za J (Uy J J) (Ze (Zc (Xn J (Zo (Zc (Zg (Zg (Zb (Za J (Zf J) (Ze (Zc (Zn ?_))))))))))))))))))))))));refine Yf (Yg (X:=Nat) (fun i=>[(0,.slice p l.length e),(1,.slice p' l.length e'),(5,iN i)]) _ _ (fun i=>[]) (fun i=>Asr.none) (fun i=>i≤l.length) (fun i=>l.length - i) (0) (Nat.zero_le _) ?_) ⟨J,J,J,trivial⟩;intro i hI;refine Zg (Zg (Zb (Za J (Zd J) (Za J (Zd J) (Za J (Zx (ts J) J) (Za J (Yi J J) (Ze (Zc (Zu J ?_ ?_)))))))))
 ·intro c2;have hi:i<l.length:=by omega
  obtain ⟨b,o,r,hp,hb,⟨hr, -⟩,hc⟩:=hr1.out i l[i] (List.getElem?_eq_getElem hi);obtain ⟨b',o',r',hp',hb',⟨hr', -⟩,hc'⟩:=hr2.out i l[i] (List.getElem?_eq_getElem hi);subst hp;subst hr;subst hp';subst hr';refine Zo (Zc (Zg (Zn (Zg (Ws X2 (by kernel_rfl) ?_)))));refine Zq J (Zd J) (Zq J (Zd J) (Zq J (Yo (ts J) J J ?_) ?_))
  ·omega
  refine Zq J (Yj (tn J) J (Xl hc hb) J) (Zq J (Zd J) (Zq J (Zd J) (Zq J (Yo (ts J) J J ?_) ?_)))
  ·omega
  refine Zq J (Yj (tn J) J (Xl hc' hb') J) (Zq J (Ex_neqTy0 J J) (Wi (Zc (Xn J (Zo (Zt (Zc (Zb (Za J (Zd J) ?_)))))))));refine Za J (Yn J J ?_) ?_;omega;refine Za J (Zf J) (Ze ?_);refine Z1 (i+1) ?_ (by omega) 0 J (J) ⟨J,J,J,trivial⟩;omega
 ·intro c2;refine Yd (Yc (Z5 (Yb (Zc (Zg (Zb (Za J (Zf J) (Ze (Zc (Zr (Z3 J J ?_)))))))))));rfl
def rfV (r:Rf) (pv:Value):List Value:=[.string r.cls,.string r.name,pv,.int .i64 r.ty.kind,.string r.ty.cls]
theorem sameRef_any (r:Rf) (pv pv':Value) (w:World) (hv:Yu w pv r.params) (hv':Yu w pv' r.params):Vc Tryz.prog 92 #[.agg (rfV r pv).toArray,.agg (rfV r pv').toArray] w (.bool true):=by
 refine Xf (args:=[.agg (rfV r pv).toArray,.agg (rfV r pv').toArray]) Tryz.func92 J Tryz.ntmps92 ?_;refine Zg (Zb (Y2 J J ?_));intro b0 hb0;refine Y2 J J ?_;intro b1 hb1;refine Za J (Zf J) (Ze (Zc (Zg (Zb (Za J (Zh (ff J) J) (Za J (Zj (t1 J) J (Zi 1 J J)) (Za J (Zh (ff J) J) (Za J (Zj (t1 J) J (Zi 0 J J)) (Yq fn79 J J (fun w hs=>U9 _ _ r.params w (hv.mono (Xx hs)) (hv'.mono (Xx hs))) ?_)))))))));refine Za J (Zf J) (Ze (Zc (Zg (Zb (Za J (Zd J) (Za J (Zd J) (Zk J J J (Zh (ff J) J) (Zk J J J (Zj (t1 J) J (Zi 1 J J)) (Zk J J J (Zh (ff J) J) (Zk J J J (Zj (t1 J) J (Zi 0 J J)) (Zk J J J (Ex_eqlS1 J J) (Za J (Zp J J) (Za J (Zd J) (Zk J J J (Zh (ff J) J) (Zk J J J (Zj (t1 J) J (Zi 1 J J)) (Zk J J J (Zh (ff J) J) (Zk J J J (Zj (t1 J) J (Zi 0 J J)) (Zk J J J (Ex_eqlS1 J J) (Za J (Zp J J) (Za J (Zd J) (Zk J J J (Zh (ff J) J) (Zk J J J (Zv (tn J) J 1 J J) (Zk J J J (Zh (ff J) J) (Zk J J J (Zv (tn J) J 0 J J) (Zk J J J (Ex_eqlTy1 J J) (Za J (Zp J J) (Za J (Zf J) (Ze (Zc ?_)))))))))))))))))))))))))))));refine Zr (Z3 J J ?_);rfl
theorem sameInstrs_any (v v':Value) (l:List Ins) (w:World) (hv:Su w v l) (hv':Su w v' l):Vc Tryz.prog 80 #[v,v'] w (.bool true):=by
 obtain ⟨p,e,rfl,hl,hr1⟩:=hv.is;obtain ⟨p',e',rfl,hl',hr2⟩:=hv'.is;replace hr1:Hid _:=hr1;replace hr2:Hid _:=hr2;refine Xf (args:=[.slice p l.length e,.slice p' l.length e']) Tryz.func80 J Tryz.ntmps80 ?_;refine Zg (Zb (Za J (Zf J) (Ze (Zc (Zg (Zg (Zb (Za J (Zd J) (Za J (Zx (ts J) J) (Za J (Zd J) (Za J (Zx (ts J) J) (Za J (Uy J J) (Ze (Zc (Xn J (Zo (Zc (Zg (Zg (Zb (Za J (Zf J) (Ze (Zc (Zn ?_))))))))))))))))))))))));refine Yf (Yg (X:=Nat) (fun i=>[(0,.slice p l.length e),(1,.slice p' l.length e'),(5,iN i)]) _ _ (fun i=>[]) (fun i=>Asr.none) (fun i=>i≤l.length) (fun i=>l.length - i) (0) (Nat.zero_le _) ?_) ⟨J,J,J,trivial⟩;intro i hI;refine Zg (Zg (Zb (Za J (Zd J) (Za J (Zd J) (Za J (Zx (ts J) J) (Za J (Yi J J) (Ze (Zc (Zu J ?_ ?_)))))))))
 ·intro c2;have hi:i<l.length:=by omega
  obtain ⟨b,o,r,hp,hb,⟨pv,hr,hpv, -⟩,hc⟩:=hr1.out i l[i] (List.getElem?_eq_getElem hi);obtain ⟨b',o',r',hp',hb',⟨pv',hr',hpv', -⟩,hc'⟩:=hr2.out i l[i] (List.getElem?_eq_getElem hi);subst hp;subst hr;subst hp';subst hr';refine Zo (Zc (Zg (Zn (Zg (Ws X2 (by kernel_rfl) ?_)))));refine Zq J (Zd J) (Zq J (Zd J) (Zq J (Yo (ts J) J J ?_) ?_))
  ·omega
  refine Zq J (Zh (ff J) J) (Zq J (Yj (tn J) J (Xl (sub_row hc 2 5) hb) J) (Zq J (Zd J) (Zq J (Zd J) (Zq J (Yo (ts J) J J ?_) ?_))))
  ·omega
  refine Zq J (Zh (ff J) J) (Zq J (Yj (tn J) J (Xl (sub_row hc' 2 5) hb') J) (Sf fn92 J J (fun w hs=>sameRef_any l[i].ref pv pv' w (hpv.mono (Xx hs)) (hpv'.mono (Xx hs))) ?_));refine Zq J (Zf J) (Wi (Zc (Zg (Ws X2 (by kernel_rfl) ?_))));refine Zq J (Zd J) (Zq J (Xv J) (Zq J (Zd J) (Z0 J J J (Zd J) (Z0 J J J (Zd J) (Z0 J J J (Yo (ts J) J J ?_) ?_)))))
  ·omega
  refine Z0 J J J (Zh (ff J) J) (Z0 J J J (Zj (t1 J) J (Z6 (hc 0 _ J) hb)) (Z0 J J J (Zd J) (Z0 J J J (Zd J) (Z0 J J J (Yo (ts J) J J ?_) ?_))))
  ·omega
  refine Z0 J J J (Zh (ff J) J) (Z0 J J J (Zj (t1 J) J (Z6 (hc' 0 _ J) hb')) (Z0 J J J (Uy J J) (Zq J (Zs J J) (Zq J (Zd J) (Z0 J J J (Zd J) (Z0 J J J (Zd J) (Z0 J J J (Yo (ts J) J J ?_) ?_)))))))
  ·omega
  refine Z0 J J J (Zh (ff J) J) (Z0 J J J (Zj (t1 J) J (Z6 (hc 1 _ J) hb)) (Z0 J J J (Zd J) (Z0 J J J (Zd J) (Z0 J J J (Yo (ts J) J J ?_) ?_))))
  ·omega
  refine Z0 J J J (Zh (ff J) J) (Z0 J J J (Zj (t1 J) J (Z6 (hc' 1 _ J) hb')) (Z0 J J J (Uy J J) (Zq J (Zs J J) (Wi (Zc (Xn J (Zo (Zt (Zc (Zb (Za J (Zd J) ?_)))))))))));refine Za J (Yn J J ?_) ?_;omega;refine Za J (Zf J) (Ze ?_);refine Z1 (i+1) ?_ (by omega) 0 J (J) ⟨J,J,J,trivial⟩;omega
 ·intro c2;refine Yd (Yc (Z5 (Yb (Zc (Zg (Zb (Za J (Zf J) (Ze (Zc (Zr (Z3 J J ?_)))))))))));rfl
set_option maxHeartbeats 2000000 in
theorem P9 (m:Me) (pv cv hv fv pv' cv' hv' fv':Value) (w:World) (hm:MeParts w m pv cv hv fv) (hm':MeParts w m pv' cv' hv' fv') :
  Vc Tryz.prog 53 #[.agg (meV m pv cv hv fv).toArray,.agg (meV m pv' cv' hv' fv').toArray] w (.bool true):=by
 obtain ⟨p3,e3,rfl,hl3,hr3⟩:=hm.hs.is;obtain ⟨p4,e4,rfl,hl4,hr4⟩:=hm.fs.is;obtain ⟨q3,d3,rfl, -,hs3⟩:=hm'.hs.is;obtain ⟨q4,d4,rfl, -,hs4⟩:=hm'.fs.is;replace hr3:Hid _:=hr3;replace hr4:Hid _:=hr4;replace hs3:Hid _:=hs3;replace hs4:Hid _:=hs4;refine Xf (args:=[.agg (meV m pv cv (.slice p3 m.handlers.length e3) (.slice p4 m.frames.length e4)).toArray,.agg (meV m pv' cv' (.slice q3 m.handlers.length d3) (.slice q4 m.frames.length d4)).toArray]) Tryz.func53 J Tryz.ntmps53 ?_;refine Zg (Zb (Y2 J J ?_));intro b0 hb0;refine Y2 J J ?_;intro b1 hb1;refine Za J (Zf J) (Ze (Zc (Zg (Zb (Za J (Zh (ff J) J) (Za J (Zj (t1 J) J (Zi 1 J J)) (Za J (Zh (ff J) J) (Za J (Zj (t1 J) J (Zi 0 J J)) (Yq fn79 J J (fun w hs=>U9 _ _ m.params w (hm.ps.mono (Xx hs)) (hm'.ps.mono (Xx hs))) ?_)))))))));refine Za J (Zf J) (Ze (Zc (Zg (Zb (Za J (Zh (ff J) J) (Za J (Zj (t1 J) J (Zi 1 J J)) (Za J (Zh (ff J) J) (Za J (Zj (t1 J) J (Zi 0 J J)) (Yq fn80 J J (fun w hs=>sameInstrs_any _ _ m.code w (hm.cs.mono (Xx hs)) (hm'.cs.mono (Xx hs))) ?_)))))))));refine Za J (Zf J) (Ze (Zc (Zg (Zg (Zb (Za J (Zd J) (Za J (Xv J) (Za J (Zd J) (Zk J J J (Zd J) (Zk J J J (Xv J) (Za J (Zs J J) (Za J (Zd J) (Zk J J J (Zh (ff J) J) (Zk J J J (Zj (t1 J) J (Zi 1 J J)) (Zk J J J (Zh (ff J) J) (Zk J J J (Zj (t1 J) J (Zi 0 J J)) (Zk J J J (Ex_neqS0 J J) (Za J (Zs J J) (Za J (Zd J) (Zk J J J (Zh (ff J) J) (Zk J J J (Zj (t1 J) J (Zi 1 J J)) (Zk J J J (Zh (ff J) J) (Zk J J J (Zj (t1 J) J (Zi 0 J J)) (Zk J J J (Ex_neqB0 J J) (Za J (Zs J J) (Za J (Zd J) (Zk J J J (Zh (ff J) J) (Zk J J J (Zv (tn J) J 1 J J) (Zk J J J (Zh (ff J) J) ?_)))))))))))))))))))))))))))));refine Zk J J J (Zv (tn J) J 0 J J) (Zk J J J (Ex_neqTy0 J J) (Za J (Zs J J) (Za J (Zd J) (Zk J J J (Zh (ff J) J) (Zk J J J (Zj (t1 J) J (Zi 1 J J)) (Zk J J J (Zh (ff J) J) (Zk J J J (Zj (t1 J) J (Zi 0 J J)) (Zk J J J (Uy J J) (Za J (Zs J J) (Za J (Zd J) (Zk J J J (Zh (ff J) J) (Zk J J J (Zj (t1 J) J (Zi 1 J J)) (Zk J J J (Zh (ff J) J) (Zk J J J (Zj (t1 J) J (Zi 0 J J)) (Zk J J J (Uy J J) (Za J (Zs J J) (Za J (Zd J) (Zk J J J (Zh (ff J) J) (Zk J J J (Zj (t1 J) J (Zi 1 J J)) (Zk J J J (Zx (ts J) J) (Zk J J J (Zh (ff J) J) (Zk J J J (Zj (t1 J) J (Zi 0 J J)) (Zk J J J (Zx (ts J) J) (Zk J J J (Uy J J) (Za J (Zs J J) (Za J (Zd J) (Zk J J J (Zh (ff J) J) (Zk J J J (Zj (t1 J) J (Zi 1 J J)) (Zk J J J (Zx (ts J) J) ?_)))))))))))))))))))))))))))));refine Zk J J J (Zh (ff J) J) (Zk J J J (Zj (t1 J) J (Zi 0 J J)) (Zk J J J (Zx (ts J) J) (Zk J J J (Uy J J) (Za J (Zs J J) (Ze (Zc (Xn J (Zo (Zc (Zg (Zg (Zb (Za J (Zf J) (Ze (Zc (Zn ?_))))))))))))))));refine Yf (Yg (X:=Nat) (fun i=>[(2,pt b0),(3,pt b1),(7,iN i)]) _ _ (fun i=>[(b1,meV m pv' cv' (.slice q3 m.handlers.length d3) (.slice q4 m.frames.length d4)),(b0,meV m pv cv (.slice p3 m.handlers.length e3) (.slice p4 m.frames.length e4))]) (fun i=>Asr.none) (fun i=>i≤m.handlers.length) (fun i=>m.handlers.length - i) (0) (Nat.zero_le _) ?_) ⟨J,J,J,trivial⟩;intro i hI;refine Zg (Zg (Zb (Za J (Zd J) (Za J (Zh (ff J) J) (Za J (Zj (t1 J) J (Zi 1 J J)) (Za J (Zx (ts J) J) (Za J (Yi J J) (Ze (Zc (Zu J ?_ ?_))))))))))
 ·intro c2;have hi:i<m.handlers.length:=by omega
  obtain ⟨b,o,r,hp,hb,⟨hr, -⟩,hc⟩:=hr3.out i m.handlers[i] (List.getElem?_eq_getElem hi);obtain ⟨b',o',r',hp',hb',⟨hr', -⟩,hc'⟩:=hs3.out i m.handlers[i] (List.getElem?_eq_getElem hi);subst hp;subst hr;subst hp';subst hr';refine Zo (Zc (Zg (Zn (Zg (Ws X2 (by kernel_rfl) ?_)))));refine Zq J (Zh (ff J) J) (Zq J (Zj (t1 J) J (Zi 1 J J)) (Zq J (Zd J) (Zq J (Yo (ts J) J J ?_) ?_)))
  ·omega
  refine Zq J (Yj (tn J) J (Xl hc hb) J) (Zq J (Zh (ff J) J) (Zq J (Zj (t1 J) J (Zi 0 J J)) (Zq J (Zd J) (Zq J (Yo (ts J) J J ?_) ?_))))
  ·omega
  refine Zq J (Yj (tn J) J (Xl hc' hb') J) (Zq J (Ex_neqHd0 J J) (Wi (Zc (Xn J (Zo (Zt (Zc (Zb (Za J (Zd J) ?_)))))))));refine Za J (Yn J J ?_) ?_;omega;refine Za J (Zf J) (Ze ?_);refine Z1 (i+1) ?_ (by omega) 0 J (J) ⟨J,J,J,trivial⟩;omega
 ·intro c2;refine Yd (Yc (Z5 (Yb (Zc (Zg (Zg (Zb (Za J (Zf J) (Ze (Zc (Zn ?_)))))))))));refine Yf (Yg (X:=Nat) (fun k=>[(2,pt b0),(3,pt b1),(8,iN k)]) _ _ (fun k=>[(b1,meV m pv' cv' (.slice q3 m.handlers.length d3) (.slice q4 m.frames.length d4)),(b0,meV m pv cv (.slice p3 m.handlers.length e3) (.slice p4 m.frames.length e4))]) (fun k=>Asr.none) (fun k=>k≤m.frames.length) (fun k=>m.frames.length - k) (0) (Nat.zero_le _) ?_) ⟨J,J,J,trivial⟩;intro k hI;refine Zg (Zg (Zb (Za J (Zd J) (Za J (Zh (ff J) J) (Za J (Zj (t1 J) J (Zi 1 J J)) (Za J (Zx (ts J) J) (Za J (Yi J J) (Ze (Zc (Zu J ?_ ?_))))))))))
  ·intro c4;have hk:k<m.frames.length:=by omega
   obtain ⟨b,o,r,hp,hb,⟨lv,sv,hr,hlv,hsv, -⟩,hc⟩:=hr4.out k m.frames[k] (List.getElem?_eq_getElem hk);obtain ⟨b',o',r',hp',hb',⟨lv',sv',hr',hlv',hsv', -⟩,hc'⟩:=hs4.out k m.frames[k] (List.getElem?_eq_getElem hk);subst hp;subst hr;subst hp';subst hr';refine Zo (Zc (Zg (Zn (Zg (Ws X2 (by kernel_rfl) ?_)))));refine Zq J (Zh (ff J) J) (Zq J (Zj (t1 J) J (Zi 1 J J)) (Zq J (Zd J) (Zq J (Yo (ts J) J J ?_) ?_)))
   ·omega
   refine Zq J (Zh (ff J) J) (Zq J (Zj (t1 J) J (Z6 (hc 1 _ J) hb)) (Zq J (Zh (ff J) J) (Zq J (Zj (t1 J) J (Zi 0 J J)) (Zq J (Zd J) (Zq J (Yo (ts J) J J ?_) ?_)))))
   ·omega
   refine Zq J (Zh (ff J) J) (Zq J (Zj (t1 J) J (Z6 (hc' 1 _ J) hb')) (Sf fn79 J J (fun w hs=>U9 _ _ m.frames[k].locals w (hlv.mono (Xx hs)) (hlv'.mono (Xx hs))) ?_));refine Zq J (Zf J) (Wi (Zc (Zg (Ws X2 (by kernel_rfl) ?_))));refine Zq J (Zh (ff J) J) (Zq J (Zj (t1 J) J (Zi 1 J J)) (Zq J (Zd J) (Zq J (Yo (ts J) J J ?_) ?_)))
   ·omega
   refine Zq J (Zh (ff J) J) (Zq J (Zj (t1 J) J (Z6 (hc 2 _ J) hb)) (Zq J (Zh (ff J) J) (Zq J (Zj (t1 J) J (Zi 0 J J)) (Zq J (Zd J) (Zq J (Yo (ts J) J J ?_) ?_)))))
   ·omega
   refine Zq J (Zh (ff J) J) (Zq J (Zj (t1 J) J (Z6 (hc' 2 _ J) hb')) (Sf fn79 J J (fun w hs=>U9 _ _ m.frames[k].stack w (hsv.mono (Xx hs)) (hsv'.mono (Xx hs))) ?_));refine Zq J (Zf J) (Wi (Zc (Zg (Ws X2 (by kernel_rfl) ?_))));refine Zq J (Zd J) (Zq J (Xv J) (Zq J (Zd J) (Z0 J J J (Zd J) (Z0 J J J (Xv J) (Zq J (Zs J J) (Zq J (Zd J) (Z0 J J J (Zh (ff J) J) (Z0 J J J (Zj (t1 J) J (Zi 1 J J)) (Z0 J J J (Zd J) (Z0 J J J (Yo (ts J) J J ?_) ?_))))))))))
   ·omega
   refine Z0 J J J (Zh (ff J) J) (Z0 J J J (Zj (t1 J) J (Z6 (hc 0 _ J) hb)) (Z0 J J J (Zh (ff J) J) (Z0 J J J (Zj (t1 J) J (Zi 0 J J)) (Z0 J J J (Zd J) (Z0 J J J (Yo (ts J) J J ?_) ?_)))))
   ·omega
   refine Z0 J J J (Zh (ff J) J) (Z0 J J J (Zj (t1 J) J (Z6 (hc' 0 _ J) hb')) (Z0 J J J (Uy J J) (Zq J (Zs J J) (Wi (Zc (Xn J (Zo (Zt (Zc (Zb (Za J (Zd J) ?_)))))))))));refine Za J (Yn J J ?_) ?_;omega;refine Za J (Zf J) (Ze ?_);refine Z1 (k+1) ?_ (by omega) 0 J (J) ⟨J,J,J,trivial⟩;omega
  ·intro c4;refine Yd (Yc (Z5 (Yb (Zc (Zg (Zb (Za J (Zf J) (Ze (Zc (Zr (Z3 J J ?_)))))))))));rfl
end
end Go.Proofs.YtpofmnfkdkmieaaGreat
