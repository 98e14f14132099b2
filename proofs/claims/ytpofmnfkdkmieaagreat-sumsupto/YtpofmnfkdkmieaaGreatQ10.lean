/- What is proved here: the program's own asking whether somethi -/
import Derived.Test.YtpofmnfkdkmieaaGreatQ09
import Derived.Test.YtpofmnfkdkmieaaGreatQ08
import Derived.Test.YtpofmnfkdkmieaaGreatQ07
import Derived.Test.YtpofmnfkdkmieaaGreatQ03
import Derived.Tactics2
import Derived.Test.YtpofmnfkdkmieaaGreatQ06
set_option linter.unusedVariables false
set_option linter.unusedSimpArgs false
namespace Go.Proofs.YtpofmnfkdkmieaaGreat
section
open Go.RowKit At E
theorem Fj (m:Me):Uk m=(Xz m.name&&(decide ((m.params.length:Int)<=6)&&Vl m.params false)&&Vv m.result true false&&(decide (Nv m<=m.locals)&&decide (m.locals<=20))&&(decide (0<=m.stack)&&decide (m.stack<=20))&&Qy m&&Kq m&&Mt m):=by
 have e:decide (1<=(m.code.length:Int))=decide (0<(m.code.length:Int)):=by rw [Bool.eq_iff_iff];simp only [decide_eq_true_eq];omega
 unfold Uk L9 Qy Kq Mt;rw [e];generalize Xz m.name=b1;generalize decide ((m.params.length:Int)<=6)=b2;generalize Vl m.params false=b3;generalize Vv m.result true false=b4;generalize decide (Nv m<=m.locals)=b5;generalize decide (m.locals<=20)=b6;generalize decide (0<=m.stack)=b7;generalize decide (m.stack<=20)=b8;generalize decide (0<(m.code.length:Int))=b9;generalize decide ((m.code.length:Int)<=200)=b10;generalize decide ((m.handlers.length:Int)<=10)=b11;generalize decide ((m.frames.length:Int)<=60)=b12;generalize m.code.all (fun i=>V9 i m.locals m.code.length)=b13;generalize m.handlers.all (fun h=>Ro h m.code.length)=b14;generalize (List.range m.frames.length).all (J8 m.frames m.locals m.stack m.code.length)=b15;cases b1<;>cases b2<;>cases b3<;>cases b4<;>cases b5<;>cases b6<;>cases b7<;>cases b8<;>try rfl
 all_goals (cases b9<;>cases b10<;>cases b11<;>cases b12<;>cases b13<;>cases b14<;>cases b15<;>rfl)
set_option maxHeartbeats 1000000 in
theorem Hl (m:Me) (pv hv fv:Value) (cv:Value) (w:World) (hm:MeParts w m pv cv hv fv):Rz Tryz.prog 247 #[.agg (meV m pv cv hv fv).toArray] w (Uk m):=by
 rw [Fj];have hm0:=hm;obtain ⟨p1,e1,rfl,hl1, -⟩:=hm.ps.is;obtain ⟨p2,e2,rfl,hl2, -⟩:=hm.cs.is;replace hm0:Hid _:=hm0;have hok:=hm.ok;clear hm;refine V0 (args:=[.agg (meV m (.slice p1 m.params.length e1) (.slice p2 m.code.length e2) hv fv).toArray]) Tryz.func247 J Tryz.ntmps247 ?_;refine Zt (Zd (Uu J J ?_));intro b0 hb0;refine Zo (Zj (Zt (Zd (Za J (Zy (ff J) J) (Za J (Z8 (t1 J) J (Z1 0 J J)) (Z7 Lb J J (fun w _=>Wt _ w hok.1) ?_ ?_))))))
 rotate_left
 ·intro o1;refine Z3 (Yf ?_);simp_all;done
 intro o1;refine Zo (Zj (Zt (Zd (Za J (Zy (ff J) J) (Za J (Z8 (t1 J) J (Z1 0 J J)) (Z7 fn318 J J (fun w hs=>O4 _ m.params w (Uf.mono hm0.out.ps (Vu hs))) ?_ ?_))))))
 rotate_left
 ·intro o2;refine Z3 (Yf ?_);simp_all;done
 intro o2;refine Zo (Zj (Zt (Zd (Za J (Zy (ff J) J) (Za J (Ys (tn J) J 0 J J) (Z7 Zfg J J (fun w _=>(T5 319 resB fn319 M8 m.result w hok.2.1).of_eq (Zee _)) ?_ ?_))))))
 rotate_left
 ·intro o3;refine Z3 (Yf ?_);simp_all;done
 intro o3;refine Zo (Zj (Zt (WC_any Xy (Kk (rs:=[0,2]) (by kernel_rfl) (by simp) ?_))));simp only [List.forall_mem_cons,List.not_mem_nil,false_imp_iff,implies_true,and_true];refine ⟨?_,?_⟩
 ·refine ⟨_,J,?_⟩;refine Za J (Ys (tn J) J 0 J J) (Zo (Yx (Kk (rs:=[1,2]) (by kernel_rfl) (by simp) ?_)));simp only [List.forall_mem_cons,List.not_mem_nil,false_imp_iff,implies_true,and_true];refine ⟨?_,?_⟩
  ·refine ⟨_,J,?_⟩;refine Vw Ak J J (fun w _=>Uh m _ _ _ _ _ w hl1.1) ?_;refine Zo (Yx (Y7 2 (by kernel_rfl) J ?_));refine Za J (Zy (ff J) J) (Zo (Yx (Y7 3 (by kernel_rfl) J ?_)));refine Za J (Z8 (t1 J) J (Z1 0 J J)) (Zo (Yx (Y7 4 (by kernel_rfl) J ?_)));refine Za J (Xo J J) (Zo (Yx (Y7 5 (by kernel_rfl) J ?_)));refine Za J (Zr J) (Zo (Yx (Y7 6 (by kernel_rfl) J ?_)));refine Xl J J J ?_ ?_
   ·intro h4;refine Yd J J J (Zy (ff J) J) (Zo (Yx (Y7 7 (by kernel_rfl) J ?_)));refine Yd J J J (Z8 (t1 J) J (Z1 0 J J)) (Zo (Yx (Y7 8 (by kernel_rfl) J ?_)));refine Yd J J J (Xo J J) (Zo (Yx (Y7 9 (by kernel_rfl) J ?_)));refine Za J (Xd J J) (Zo (Yx (Y7 10 (by kernel_rfl) J ?_)));refine Z7 Xq J J (fun w _=>Ym _ w) ?_ ?_
    rotate_left
    ·intro o5;replace o5:=dFa o5;refine Z3 (Z3 (Yf ?_));simp_all;omega
    intro o5;replace o5:=dTr o5;refine Zo (Yx (Kl (by kernel_rfl) ?_));refine Zj (Zt (Zd (Za J (Zy (ff J) J) (Za J (Z8 (t1 J) J (Z1 0 J J)) (Za J (Xo J J) (Za J (Zr J) (Xl J J J ?_ ?_)))))))
    ·intro h6;refine Yd J J J (Zy (ff J) J) (Yd J J J (Z8 (t1 J) J (Z1 0 J J)) (Yd J J J (Xo J J) (Za J (Xd J J) (Z7 Xq J J (fun w _=>Ym _ w) ?_ ?_))))
     rotate_left
     ·intro o7;replace o7:=dFa o7;refine Z3 (Yf ?_);simp_all;omega
     intro o7;replace o7:=dTr o7;refine Zo (Zj (Zt (Zd (Za J (Ys (tn J) J 0 J J) (Z7 Aj J J (fun w hs=>U5 m _ _ _ _ w (hm0.out.mono (Vu hs))) ?_ ?_)))))
     rotate_left
     ·intro o8;refine Z3 (Yf ?_);simp_all;done
     intro o8;refine Zo (Zj (Zt (Zd (Za J (Ys (tn J) J 0 J J) (Z7 Ai J J (fun w hs=>Vs m _ _ _ _ w (hm0.out.mono (Vu hs))) ?_ ?_)))))
     rotate_left
     ·intro o9;refine Z3 (Yf ?_);simp_all;done
     intro o9;refine Zo (Zj (Zd (Za J (Ys (tn J) J 0 J J) (Z7 Ah J J (fun w hs=>Uj m _ _ _ _ w (hm0.out.mono (Vu hs))) ?_ ?_))))
     rotate_left
     ·intro o10;refine Yf ?_;simp_all;done
     intro o10;refine Zo (V6 J ?_);simp_all;done
    ·intro h6;refine Yk J J J (Yk J J J (Yk J J J (Za J (Y8 J J) (Z7 Xq J J (fun w _=>Ym _ w) ?_ ?_))))
     ·intro o11;cases o11
     intro _;refine Z3 (Yf ?_);simp_all;omega
   ·intro h4;refine Yk J J J (Zo (Yx (Y7 7 (by kernel_rfl) J ?_)));refine Yk J J J (Zo (Yx (Y7 8 (by kernel_rfl) J ?_)));refine Yk J J J (Zo (Yx (Y7 9 (by kernel_rfl) J ?_)));refine Za J (Y8 J J) (Zo (Yx (Y7 10 (by kernel_rfl) J ?_)));refine Z7 Xq J J (fun w _=>Ym _ w) ?_ ?_
    ·intro o12;cases o12
    intro _;refine Z3 (Z3 (Yf ?_));simp_all;omega
  ·refine ⟨_,J,?_⟩;refine Za J (Zy (ff J) J) (Zo (Yx (Kk (rs:=[1,3]) (by kernel_rfl) (by simp) ?_)));simp only [List.forall_mem_cons,List.not_mem_nil,false_imp_iff,implies_true,and_true];refine ⟨?_,?_⟩
   ·refine ⟨_,J,?_⟩;refine Vw Ak J J (fun w _=>Uh m _ _ _ _ _ w hl1.1) ?_;refine Zo (Yx (Y7 3 (by kernel_rfl) J ?_));refine Za J (Z8 (t1 J) J (Z1 0 J J)) (Zo (Yx (Y7 4 (by kernel_rfl) J ?_)));refine Za J (Xo J J) (Zo (Yx (Y7 5 (by kernel_rfl) J ?_)));refine Za J (Zr J) (Zo (Yx (Y7 6 (by kernel_rfl) J ?_)));refine Xl J J J ?_ ?_
    ·intro h13;refine Yd J J J (Zy (ff J) J) (Zo (Yx (Y7 7 (by kernel_rfl) J ?_)));refine Yd J J J (Z8 (t1 J) J (Z1 0 J J)) (Zo (Yx (Y7 8 (by kernel_rfl) J ?_)));refine Yd J J J (Xo J J) (Zo (Yx (Y7 9 (by kernel_rfl) J ?_)));refine Za J (Xd J J) (Zo (Yx (Y7 10 (by kernel_rfl) J ?_)));refine Z7 Xq J J (fun w _=>Ym _ w) ?_ ?_
     rotate_left
     ·intro o14;replace o14:=dFa o14;refine Z3 (Z3 (Yf ?_));simp_all;omega
     intro o14;replace o14:=dTr o14;refine Zo (Yx (Kl (by kernel_rfl) ?_));refine Zj (Zt (Zd (Za J (Zy (ff J) J) (Za J (Z8 (t1 J) J (Z1 0 J J)) (Za J (Xo J J) (Za J (Zr J) (Xl J J J ?_ ?_)))))))
     ·intro h15;refine Yd J J J (Zy (ff J) J) (Yd J J J (Z8 (t1 J) J (Z1 0 J J)) (Yd J J J (Xo J J) (Za J (Xd J J) (Z7 Xq J J (fun w _=>Ym _ w) ?_ ?_))))
      rotate_left
      ·intro o16;replace o16:=dFa o16;refine Z3 (Yf ?_);simp_all;omega
      intro o16;replace o16:=dTr o16;refine Zo (Zj (Zt (Zd (Za J (Ys (tn J) J 0 J J) (Z7 Aj J J (fun w hs=>U5 m _ _ _ _ w (hm0.out.mono (Vu hs))) ?_ ?_)))))
      rotate_left
      ·intro o17;refine Z3 (Yf ?_);simp_all;done
      intro o17;refine Zo (Zj (Zt (Zd (Za J (Ys (tn J) J 0 J J) (Z7 Ai J J (fun w hs=>Vs m _ _ _ _ w (hm0.out.mono (Vu hs))) ?_ ?_)))))
      rotate_left
      ·intro o18;refine Z3 (Yf ?_);simp_all;done
      intro o18;refine Zo (Zj (Zd (Za J (Ys (tn J) J 0 J J) (Z7 Ah J J (fun w hs=>Uj m _ _ _ _ w (hm0.out.mono (Vu hs))) ?_ ?_))))
      rotate_left
      ·intro o19;refine Yf ?_;simp_all;done
      intro o19;refine Zo (V6 J ?_);simp_all;done
     ·intro h15;refine Yk J J J (Yk J J J (Yk J J J (Za J (Y8 J J) (Z7 Xq J J (fun w _=>Ym _ w) ?_ ?_))))
      ·intro o20;cases o20
      intro _;refine Z3 (Yf ?_);simp_all;omega
    ·intro h13;refine Yk J J J (Zo (Yx (Y7 7 (by kernel_rfl) J ?_)));refine Yk J J J (Zo (Yx (Y7 8 (by kernel_rfl) J ?_)));refine Yk J J J (Zo (Yx (Y7 9 (by kernel_rfl) J ?_)));refine Za J (Y8 J J) (Zo (Yx (Y7 10 (by kernel_rfl) J ?_)));refine Z7 Xq J J (fun w _=>Ym _ w) ?_ ?_
     ·intro o21;cases o21
     intro _;refine Z3 (Z3 (Yf ?_));simp_all;omega
   ·refine ⟨_,J,?_⟩;refine Za J (Z8 (t1 J) J (Z1 0 J J)) (Zo (Yx (Y7 1 (by kernel_rfl) J ?_)));refine Vw Ak J J (fun w _=>Uh m _ _ _ _ _ w hl1.1) ?_;refine Zo (Yx (Y7 4 (by kernel_rfl) J ?_));refine Za J (Xo J J) (Zo (Yx (Y7 5 (by kernel_rfl) J ?_)));refine Za J (Zr J) (Zo (Yx (Y7 6 (by kernel_rfl) J ?_)));refine Xl J J J ?_ ?_
    ·intro h22;refine Yd J J J (Zy (ff J) J) (Zo (Yx (Y7 7 (by kernel_rfl) J ?_)));refine Yd J J J (Z8 (t1 J) J (Z1 0 J J)) (Zo (Yx (Y7 8 (by kernel_rfl) J ?_)));refine Yd J J J (Xo J J) (Zo (Yx (Y7 9 (by kernel_rfl) J ?_)));refine Za J (Xd J J) (Zo (Yx (Y7 10 (by kernel_rfl) J ?_)));refine Z7 Xq J J (fun w _=>Ym _ w) ?_ ?_
     rotate_left
     ·intro o23;replace o23:=dFa o23;refine Z3 (Z3 (Yf ?_));simp_all;omega
     intro o23;replace o23:=dTr o23;refine Zo (Yx (Kl (by kernel_rfl) ?_));refine Zj (Zt (Zd (Za J (Zy (ff J) J) (Za J (Z8 (t1 J) J (Z1 0 J J)) (Za J (Xo J J) (Za J (Zr J) (Xl J J J ?_ ?_)))))))
     ·intro h24;refine Yd J J J (Zy (ff J) J) (Yd J J J (Z8 (t1 J) J (Z1 0 J J)) (Yd J J J (Xo J J) (Za J (Xd J J) (Z7 Xq J J (fun w _=>Ym _ w) ?_ ?_))))
      rotate_left
      ·intro o25;replace o25:=dFa o25;refine Z3 (Yf ?_);simp_all;omega
      intro o25;replace o25:=dTr o25;refine Zo (Zj (Zt (Zd (Za J (Ys (tn J) J 0 J J) (Z7 Aj J J (fun w hs=>U5 m _ _ _ _ w (hm0.out.mono (Vu hs))) ?_ ?_)))))
      rotate_left
      ·intro o26;refine Z3 (Yf ?_);simp_all;done
      intro o26;refine Zo (Zj (Zt (Zd (Za J (Ys (tn J) J 0 J J) (Z7 Ai J J (fun w hs=>Vs m _ _ _ _ w (hm0.out.mono (Vu hs))) ?_ ?_)))))
      rotate_left
      ·intro o27;refine Z3 (Yf ?_);simp_all;done
      intro o27;refine Zo (Zj (Zd (Za J (Ys (tn J) J 0 J J) (Z7 Ah J J (fun w hs=>Uj m _ _ _ _ w (hm0.out.mono (Vu hs))) ?_ ?_))))
      rotate_left
      ·intro o28;refine Yf ?_;simp_all;done
      intro o28;refine Zo (V6 J ?_);simp_all;done
     ·intro h24;refine Yk J J J (Yk J J J (Yk J J J (Za J (Y8 J J) (Z7 Xq J J (fun w _=>Ym _ w) ?_ ?_))))
      ·intro o29;cases o29
      intro _;refine Z3 (Yf ?_);simp_all;omega
    ·intro h22;refine Yk J J J (Zo (Yx (Y7 7 (by kernel_rfl) J ?_)));refine Yk J J J (Zo (Yx (Y7 8 (by kernel_rfl) J ?_)));refine Yk J J J (Zo (Yx (Y7 9 (by kernel_rfl) J ?_)));refine Za J (Y8 J J) (Zo (Yx (Y7 10 (by kernel_rfl) J ?_)));refine Z7 Xq J J (fun w _=>Ym _ w) ?_ ?_
     ·intro o30;cases o30
     intro _;refine Z3 (Z3 (Yf ?_));simp_all;omega
 ·refine ⟨_,J,?_⟩;refine Za J (Zy (ff J) J) (Zo (Yx (Kk (rs:=[0,3]) (by kernel_rfl) (by simp) ?_)));simp only [List.forall_mem_cons,List.not_mem_nil,false_imp_iff,implies_true,and_true];refine ⟨?_,?_⟩
  ·refine ⟨_,J,?_⟩;refine Za J (Ys (tn J) J 0 J J) (Zo (Yx (Kk (rs:=[1,3]) (by kernel_rfl) (by simp) ?_)));simp only [List.forall_mem_cons,List.not_mem_nil,false_imp_iff,implies_true,and_true];refine ⟨?_,?_⟩
   ·refine ⟨_,J,?_⟩;refine Vw Ak J J (fun w _=>Uh m _ _ _ _ _ w hl1.1) ?_;refine Zo (Yx (Y7 3 (by kernel_rfl) J ?_));refine Za J (Z8 (t1 J) J (Z1 0 J J)) (Zo (Yx (Y7 4 (by kernel_rfl) J ?_)));refine Za J (Xo J J) (Zo (Yx (Y7 5 (by kernel_rfl) J ?_)));refine Za J (Zr J) (Zo (Yx (Y7 6 (by kernel_rfl) J ?_)));refine Xl J J J ?_ ?_
    ·intro h31;refine Yd J J J (Zy (ff J) J) (Zo (Yx (Y7 7 (by kernel_rfl) J ?_)));refine Yd J J J (Z8 (t1 J) J (Z1 0 J J)) (Zo (Yx (Y7 8 (by kernel_rfl) J ?_)));refine Yd J J J (Xo J J) (Zo (Yx (Y7 9 (by kernel_rfl) J ?_)));refine Za J (Xd J J) (Zo (Yx (Y7 10 (by kernel_rfl) J ?_)));refine Z7 Xq J J (fun w _=>Ym _ w) ?_ ?_
     rotate_left
     ·intro o32;replace o32:=dFa o32;refine Z3 (Z3 (Yf ?_));simp_all;omega
     intro o32;replace o32:=dTr o32;refine Zo (Yx (Kl (by kernel_rfl) ?_));refine Zj (Zt (Zd (Za J (Zy (ff J) J) (Za J (Z8 (t1 J) J (Z1 0 J J)) (Za J (Xo J J) (Za J (Zr J) (Xl J J J ?_ ?_)))))))
     ·intro h33;refine Yd J J J (Zy (ff J) J) (Yd J J J (Z8 (t1 J) J (Z1 0 J J)) (Yd J J J (Xo J J) (Za J (Xd J J) (Z7 Xq J J (fun w _=>Ym _ w) ?_ ?_))))
      rotate_left
      ·intro o34;replace o34:=dFa o34;refine Z3 (Yf ?_);simp_all;omega
      intro o34;replace o34:=dTr o34;refine Zo (Zj (Zt (Zd (Za J (Ys (tn J) J 0 J J) (Z7 Aj J J (fun w hs=>U5 m _ _ _ _ w (hm0.out.mono (Vu hs))) ?_ ?_)))))
      rotate_left
      ·intro o35;refine Z3 (Yf ?_);simp_all;done
      intro o35;refine Zo (Zj (Zt (Zd (Za J (Ys (tn J) J 0 J J) (Z7 Ai J J (fun w hs=>Vs m _ _ _ _ w (hm0.out.mono (Vu hs))) ?_ ?_)))))
      rotate_left
      ·intro o36;refine Z3 (Yf ?_);simp_all;done
      intro o36;refine Zo (Zj (Zd (Za J (Ys (tn J) J 0 J J) (Z7 Ah J J (fun w hs=>Uj m _ _ _ _ w (hm0.out.mono (Vu hs))) ?_ ?_))))
      rotate_left
      ·intro o37;refine Yf ?_;simp_all;done
      intro o37;refine Zo (V6 J ?_);simp_all;done
     ·intro h33;refine Yk J J J (Yk J J J (Yk J J J (Za J (Y8 J J) (Z7 Xq J J (fun w _=>Ym _ w) ?_ ?_))))
      ·intro o38;cases o38
      intro _;refine Z3 (Yf ?_);simp_all;omega
    ·intro h31;refine Yk J J J (Zo (Yx (Y7 7 (by kernel_rfl) J ?_)));refine Yk J J J (Zo (Yx (Y7 8 (by kernel_rfl) J ?_)));refine Yk J J J (Zo (Yx (Y7 9 (by kernel_rfl) J ?_)));refine Za J (Y8 J J) (Zo (Yx (Y7 10 (by kernel_rfl) J ?_)));refine Z7 Xq J J (fun w _=>Ym _ w) ?_ ?_
     ·intro o39;cases o39
     intro _;refine Z3 (Z3 (Yf ?_));simp_all;omega
   ·refine ⟨_,J,?_⟩;refine Za J (Z8 (t1 J) J (Z1 0 J J)) (Zo (Yx (Y7 1 (by kernel_rfl) J ?_)));refine Vw Ak J J (fun w _=>Uh m _ _ _ _ _ w hl1.1) ?_;refine Zo (Yx (Y7 4 (by kernel_rfl) J ?_));refine Za J (Xo J J) (Zo (Yx (Y7 5 (by kernel_rfl) J ?_)));refine Za J (Zr J) (Zo (Yx (Y7 6 (by kernel_rfl) J ?_)));refine Xl J J J ?_ ?_
    ·intro h40;refine Yd J J J (Zy (ff J) J) (Zo (Yx (Y7 7 (by kernel_rfl) J ?_)));refine Yd J J J (Z8 (t1 J) J (Z1 0 J J)) (Zo (Yx (Y7 8 (by kernel_rfl) J ?_)));refine Yd J J J (Xo J J) (Zo (Yx (Y7 9 (by kernel_rfl) J ?_)));refine Za J (Xd J J) (Zo (Yx (Y7 10 (by kernel_rfl) J ?_)));refine Z7 Xq J J (fun w _=>Ym _ w) ?_ ?_
     rotate_left
     ·intro o41;replace o41:=dFa o41;refine Z3 (Z3 (Yf ?_));simp_all;omega
     intro o41;replace o41:=dTr o41;refine Zo (Yx (Kl (by kernel_rfl) ?_));refine Zj (Zt (Zd (Za J (Zy (ff J) J) (Za J (Z8 (t1 J) J (Z1 0 J J)) (Za J (Xo J J) (Za J (Zr J) (Xl J J J ?_ ?_)))))))
     ·intro h42;refine Yd J J J (Zy (ff J) J) (Yd J J J (Z8 (t1 J) J (Z1 0 J J)) (Yd J J J (Xo J J) (Za J (Xd J J) (Z7 Xq J J (fun w _=>Ym _ w) ?_ ?_))))
      rotate_left
      ·intro o43;replace o43:=dFa o43;refine Z3 (Yf ?_);simp_all;omega
      intro o43;replace o43:=dTr o43;refine Zo (Zj (Zt (Zd (Za J (Ys (tn J) J 0 J J) (Z7 Aj J J (fun w hs=>U5 m _ _ _ _ w (hm0.out.mono (Vu hs))) ?_ ?_)))))
      rotate_left
      ·intro o44;refine Z3 (Yf ?_);simp_all;done
      intro o44;refine Zo (Zj (Zt (Zd (Za J (Ys (tn J) J 0 J J) (Z7 Ai J J (fun w hs=>Vs m _ _ _ _ w (hm0.out.mono (Vu hs))) ?_ ?_)))))
      rotate_left
      ·intro o45;refine Z3 (Yf ?_);simp_all;done
      intro o45;refine Zo (Zj (Zd (Za J (Ys (tn J) J 0 J J) (Z7 Ah J J (fun w hs=>Uj m _ _ _ _ w (hm0.out.mono (Vu hs))) ?_ ?_))))
      rotate_left
      ·intro o46;refine Yf ?_;simp_all;done
      intro o46;refine Zo (V6 J ?_);simp_all;done
     ·intro h42;refine Yk J J J (Yk J J J (Yk J J J (Za J (Y8 J J) (Z7 Xq J J (fun w _=>Ym _ w) ?_ ?_))))
      ·intro o47;cases o47
      intro _;refine Z3 (Yf ?_);simp_all;omega
    ·intro h40;refine Yk J J J (Zo (Yx (Y7 7 (by kernel_rfl) J ?_)));refine Yk J J J (Zo (Yx (Y7 8 (by kernel_rfl) J ?_)));refine Yk J J J (Zo (Yx (Y7 9 (by kernel_rfl) J ?_)));refine Za J (Y8 J J) (Zo (Yx (Y7 10 (by kernel_rfl) J ?_)));refine Z7 Xq J J (fun w _=>Ym _ w) ?_ ?_
     ·intro o48;cases o48
     intro _;refine Z3 (Z3 (Yf ?_));simp_all;omega
  ·refine ⟨_,J,?_⟩;refine Za J (Z8 (t1 J) J (Z1 0 J J)) (Zo (Yx (Y7 0 (by kernel_rfl) J ?_)));refine Za J (Ys (tn J) J 0 J J) (Zo (Yx (Y7 1 (by kernel_rfl) J ?_)));refine Vw Ak J J (fun w _=>Uh m _ _ _ _ _ w hl1.1) ?_;refine Zo (Yx (Y7 4 (by kernel_rfl) J ?_));refine Za J (Xo J J) (Zo (Yx (Y7 5 (by kernel_rfl) J ?_)));refine Za J (Zr J) (Zo (Yx (Y7 6 (by kernel_rfl) J ?_)));refine Xl J J J ?_ ?_
   ·intro h49;refine Yd J J J (Zy (ff J) J) (Zo (Yx (Y7 7 (by kernel_rfl) J ?_)));refine Yd J J J (Z8 (t1 J) J (Z1 0 J J)) (Zo (Yx (Y7 8 (by kernel_rfl) J ?_)));refine Yd J J J (Xo J J) (Zo (Yx (Y7 9 (by kernel_rfl) J ?_)));refine Za J (Xd J J) (Zo (Yx (Y7 10 (by kernel_rfl) J ?_)));refine Z7 Xq J J (fun w _=>Ym _ w) ?_ ?_
    rotate_left
    ·intro o50;replace o50:=dFa o50;refine Z3 (Z3 (Yf ?_));simp_all;omega
    intro o50;replace o50:=dTr o50;refine Zo (Yx (Kl (by kernel_rfl) ?_));refine Zj (Zt (Zd (Za J (Zy (ff J) J) (Za J (Z8 (t1 J) J (Z1 0 J J)) (Za J (Xo J J) (Za J (Zr J) (Xl J J J ?_ ?_)))))))
    ·intro h51;refine Yd J J J (Zy (ff J) J) (Yd J J J (Z8 (t1 J) J (Z1 0 J J)) (Yd J J J (Xo J J) (Za J (Xd J J) (Z7 Xq J J (fun w _=>Ym _ w) ?_ ?_))))
     rotate_left
     ·intro o52;replace o52:=dFa o52;refine Z3 (Yf ?_);simp_all;omega
     intro o52;replace o52:=dTr o52;refine Zo (Zj (Zt (Zd (Za J (Ys (tn J) J 0 J J) (Z7 Aj J J (fun w hs=>U5 m _ _ _ _ w (hm0.out.mono (Vu hs))) ?_ ?_)))))
     rotate_left
     ·intro o53;refine Z3 (Yf ?_);simp_all;done
     intro o53;refine Zo (Zj (Zt (Zd (Za J (Ys (tn J) J 0 J J) (Z7 Ai J J (fun w hs=>Vs m _ _ _ _ w (hm0.out.mono (Vu hs))) ?_ ?_)))))
     rotate_left
     ·intro o54;refine Z3 (Yf ?_);simp_all;done
     intro o54;refine Zo (Zj (Zd (Za J (Ys (tn J) J 0 J J) (Z7 Ah J J (fun w hs=>Uj m _ _ _ _ w (hm0.out.mono (Vu hs))) ?_ ?_))))
     rotate_left
     ·intro o55;refine Yf ?_;simp_all;done
     intro o55;refine Zo (V6 J ?_);simp_all;done
    ·intro h51;refine Yk J J J (Yk J J J (Yk J J J (Za J (Y8 J J) (Z7 Xq J J (fun w _=>Ym _ w) ?_ ?_))))
     ·intro o56;cases o56
     intro _;refine Z3 (Yf ?_);simp_all;omega
   ·intro h49;refine Yk J J J (Zo (Yx (Y7 7 (by kernel_rfl) J ?_)));refine Yk J J J (Zo (Yx (Y7 8 (by kernel_rfl) J ?_)));refine Yk J J J (Zo (Yx (Y7 9 (by kernel_rfl) J ?_)));refine Za J (Y8 J J) (Zo (Yx (Y7 10 (by kernel_rfl) J ?_)));refine Z7 Xq J J (fun w _=>Ym _ w) ?_ ?_
    ·intro o57;cases o57
    intro _;refine Z3 (Z3 (Yf ?_));simp_all;omega
def Ba (l:List Me):Bool:=decide ((l.length:Int)<=20)&&(List.range l.length).all (Bb l)
theorem J1 (v:Value) (l:List Me) (w:World) (hv:Cu w v l):Rz Tryz.prog 141 #[v] w (Ba l):=by
 obtain ⟨p,e,rfl,hl,hr1⟩:=hv.is;replace hr1:Hid _:=hr1;clear hv;refine V0 (args:=[.slice p l.length e]) Tryz.func141 J Tryz.ntmps141 ?_;refine Zt (Zd (Za J (Zr J) (Za J (Xv (ts J) J) (Za J (Xo J J) (Z7 Xq J J (fun w _=>Ym _ w) ?_ ?_)))))
 rotate_left
 ·intro o1;replace o1:=dFa o1;have hF:Ba l=false:=by (simp_all [Ba];omega)
  refine Z3 (Yf ?_);exact hF
 intro o1;replace o1:=dTr o1;have hZ:decide ((l.length:Int)<=20)=true:=by simp_all
 refine Zo (Zj (Zt (Zd (Za J (Zr J) (Za J (Xv (ts J) J) (Za J (Zr J) (Zo (Zj (Yy ?_)))))))));refine Vb (Vc (X:=Nat) (fun i=>[(0,.slice p l.length e),(10,.slice p l.length e),(11,iN l.length),(12,iN i)]) _ _ (fun i=>[]) (fun i=>Asr.none) (fun i=>i<=l.length/\(List.range i).all (Bb l)=true) (fun i=>l.length - i) (0) (⟨Nat.zero_le _,J⟩) ?_) ⟨J,J,J,J,trivial⟩;intro i hI;refine Zt (Zd (Za J (Vf J J) (Zo (Zj (Zt (Xc J ?_ ?_))))))
 ·intro c1;have hi:i<l.length:=by omega
  obtain ⟨b,o,r,hp,hb,⟨pv,cv,hv,fv,hr,hmp⟩,hc⟩:=hr1.out i l[i] (List.getElem?_eq_getElem hi);obtain ⟨q1,g1,hq1, -, -⟩:=hmp.ps.is;obtain ⟨q2,g2,hq2, -, -⟩:=hmp.cs.is;obtain ⟨q3,g3,hq3, -, -⟩:=hmp.hs.is;obtain ⟨q4,g4,hq4, -, -⟩:=hmp.fs.is;subst hp;subst hr;subst hq1;subst hq2;subst hq3;subst hq4;refine Xe (Zj (Zt (Yy (Zt (Zd (Za J (Zr J) (Za J (Qr (ts J) J J ?_) ?_)))))))
  ·omega
  refine Za J (Vp (tn J) J (Rh hc hb) J) (X1 J (tz J) ?_);intro b0 hb0;refine Za J (Zx J) (Y5 (tn J) J J 0 J J J J (Zo (Zj (Zt (Zd (Za J (Ys (tn J) J 0 J J) (Z7 fn247 J J (fun w hs=>Hl _ _ _ _ _ w (hmp.mono (Vu hs))) ?_ ?_)))))))
  rotate_left
  ·intro o2;have hF:Ba l=false:=by unfold Ba;rw [Uv hi (by rw [Hq hi];simp_all)];simp
   refine Z3 (Z3 (Z3 (Z3 (Z3 (Yf ?_)))));exact hF
  intro o2;have hmb:Uk l[i]=true:=by assumption
  refine Zo (Zj (Zt (Zd (Za J (Zr J) (Za J (Zr J) (Za J (Zac (ts J) J J ?_) ?_))))))
  ·omega
  refine Za J (Xv (ts J) J) (Za J (Zr J) (Zo (Zj (Yy ?_))));have hO:=hI;refine Vb (Vc (X:=Nat) (fun k=>[(0,.slice (some ⟨b,o,none⟩) l.length e),(3,pt b0),(10,.slice (some ⟨b,o,none⟩) l.length e),(11,iN l.length),(12,iN i),(21,.slice (some ⟨b,o,none⟩) i e),(22,iN i),(23,iN k)]) _ _ (fun k=>[(b0,meV l[i] (.slice q1 l[i].params.length g1) (.slice q2 l[i].code.length g2) (.slice q3 l[i].handlers.length g3) (.slice q4 l[i].frames.length g4))]) (fun k=>Asr.none) (fun k=>k<=i/\(List.range k).all (meNe l i)=true) (fun k=>i - k) (0) (⟨Nat.zero_le _,J⟩) ?_) ⟨J,J,J,J,J,J,J,J,trivial⟩;intro k hI;refine Zt (Zd (Za J (Vf J J) (Zo (Zj (Zt (Xc J ?_ ?_))))))
  ·intro c2;have hki:k<i:=by omega
   have hk:k<l.length:=by omega
   obtain ⟨b',o',r',hp',hb',⟨pv',cv',hv',fv',hr',hmp'⟩,hc'⟩:=hr1.out k l[k] (List.getElem?_eq_getElem hk);obtain ⟨u1,d1,hu1, -, -⟩:=hmp'.ps.is;obtain ⟨u2,d2,hu2, -, -⟩:=hmp'.cs.is;obtain ⟨u3,d3,hu3, -, -⟩:=hmp'.hs.is;obtain ⟨u4,d4,hu4, -, -⟩:=hmp'.fs.is;cases hp';subst hr';subst hu1;subst hu2;subst hu3;subst hu4;refine Xe (Zj (Zt (Yy (Zt (Zd (Za J (Qr (ts J) J J ?_) ?_))))))
   ·omega
   refine Za J (Vp (tn J) J (Rh hc' hb') J) (X1 J (tz J) ?_);intro b1 hb1;refine Y5 (tn J) J J 0 J J J J (Zo (Zj (Zd (Za J (Ys (tn J) J 0 J J) (Za J (Ys (tn J) J 1 J J) (Vw fn248 J J (fun w hs=>Zew _ _ _ _ _ _ _ _ _ _ w (Uf.mono hmp'.ps (Vu hs)) (Uf.mono hmp.ps (Vu hs))) ?_))))));refine Za J (Zvm J) (Z7 Xq J J (fun w _=>Ym _ w) ?_ ?_)
   rotate_left
   ·intro o3;have hF:Ba l=false:=by unfold Ba;rw [Uv hi (by rw [Hq hi,show Zed l i=false from Uv hki (by rw [B5 hi hk];assumption)];simp)];simp
    refine Z3 (Z3 (Z3 (Z3 (Z3 (Z3 (Z3 (Z3 (Yf ?_))))))));exact hF
   intro o3;have hY:(!Nr l[k] l[i])=true:=by assumption
   refine Zo (Y3 (Zj (Zd ?_)));refine Za J (Vt J J ?_) ?_;omega;refine Za J (Zr J) (Zo ?_);refine Wh (k+1) ?_ (⟨hki,R6 hI.2 (by rw [B5 hi hk];exact hY)⟩) 1 J (J) ⟨J,J,J,J,J,J,J,J,trivial⟩;omega
  ·intro c2;have hN:Zed l i=true:=Q8 hI.1 (by omega) hI.2;have hA:Bb l i=true:=by rw [Hq hi,hN,hmb];rfl
   refine Vd (Va (Wo (W9 (Y3 (Zj (Zd ?_))))));refine Za J (Vt J J ?_) ?_;omega;refine Za J (Zr J) (Zo ?_);refine Wh (i+1) ?_ (⟨hi,R6 hO.2 hA⟩) 1 J (J) ⟨J,J,J,J,trivial⟩;omega
 ·intro c1;have hFd:=Q8 hI.1 (by omega) hI.2;refine Vd (Va (Wo (W9 (V6 J ?_))));unfold Ba;rw [hZ,hFd];rfl
theorem D4 (c:Cl):Xg c=(Xz c.name&&Xz c.super&&Fl c.fields&&Ba c.methods):=by
 unfold Xg Fl Ba;generalize Xz c.name=b1;generalize Xz c.super=b2;generalize decide ((c.fields.length:Int)<=20)=b3;generalize decide ((c.methods.length:Int)<=20)=b4;generalize (List.range c.fields.length).all (fdAt c.fields)=b5;generalize (List.range c.methods.length).all (Bb c.methods)=b6;cases b1<;>cases b2<;>cases b3<;>cases b4<;>cases b5<;>cases b6<;>rfl
theorem Qu (c:Cl) (fv mv:Value) (w:World) (hc0:ClAt w c fv mv):Rz Tryz.prog 103 #[.agg (clV c fv mv).toArray] w (Xg c):=by
 rw [D4];have hok:=hc0.ok;replace hc0:Hid _:=hc0;refine V0 (args:=[.agg (clV c fv mv).toArray]) Tryz.func103 J Tryz.ntmps103 ?_;refine Zt (Zd (Uu J J ?_));intro b0 hb0;refine Zo (Zj (Zt (Zd (Za J (Zy (ff J) J) (Za J (Z8 (t1 J) J (Z1 0 J J)) (Z7 Lb J J (fun w _=>Wt _ w hok.1) ?_ ?_))))))
 rotate_left
 ·intro o1;refine Z3 (Yf ?_);simp_all
 intro o1;refine Zo (Zj (Zt (Zd (Za J (Zy (ff J) J) (Za J (Z8 (t1 J) J (Z1 0 J J)) (Z7 Lb J J (fun w _=>Wt _ w hok.2) ?_ ?_))))))
 rotate_left
 ·intro o2;refine Z3 (Yf ?_);simp_all
 intro o2;refine Zo (Zj (Zt (Zd (Za J (Zy (ff J) J) (Za J (Z8 (t1 J) J (Z1 0 J J)) (Z7 fn140 J J (fun w hs=>Hm _ c.fields w (C3.mono hc0.out.fs (Vu hs))) ?_ ?_))))))
 rotate_left
 ·intro o3;refine Z3 (Yf ?_);simp_all
 intro o3;refine Zo (Zj (Zd (Za J (Zy (ff J) J) (Za J (Z8 (t1 J) J (Z1 0 J J)) (Z7 fn141 J J (fun w hs=>J1 _ c.methods w (Cu.mono hc0.out.ms (Vu hs))) ?_ ?_)))))
 rotate_left
 ·intro o4;refine Yf ?_;simp_all
 intro o4;refine Zo (V6 J ?_);simp_all
end
section
open Go.RowKit At E
def fdL (f:Fld):List UInt8:=dl (U2 f.name)++dl (Kx f.stat)++dl (W7 f.ty)
def meL (m:Me):List UInt8:=dl (Qh m)
def Ztv:ByteArray:=⟨#[67,76,65,83]⟩
def topL (c:Cl):List UInt8:=dl Ztv++dl (U2 c.name)++dl (U2 c.super)++dl (Wl (c.fields.length:Nat) 1)
theorem Aw (c:Cl):dl (Tt c)=topL c++c.fields.flatMap fdL++dl (Wl (c.methods.length:Nat) 1)++c.methods.flatMap meL:=by
 unfold Tt fdsS;rw [N6 _ meL (fun s m=>Wd s _),Wd,N6 fdS fdL (fun s f=>by unfold fdS fdL;simp only [Wd,List.append_assoc])];unfold topS topL Ztv;simp only [Wd,List.append_assoc]
theorem of_dl {s:ByteArray} {l:List UInt8} (h:l=dl s):(⟨l.toArray⟩:ByteArray)=s:=by subst h;cases s;simp [dl]
theorem Up {α:Type} {p:α->Prop}:∀ x ∈ ([]:List α),p x:=fun _ h=>by cases h
set_option maxHeartbeats 1000000 in
theorem Zmc (c:Cl) (fv mv:Value) (w:World) (hc0:ClAt w c fv mv):Zlp Tryz.prog 71 #[.agg (clV c fv mv).toArray] w (if Xg c=true then some (.string (Tt c)) else none):=by
 obtain ⟨p1,e1,rfl,hk1,hr1⟩:=hc0.fs.is;obtain ⟨p2,e2,rfl,hk2,hr2⟩:=hc0.ms.is;replace hr1:Hid _:=hr1;replace hr2:Hid _:=hr2;replace hc0:Hid _:=hc0;have hu:Below w.heap.size w w:=Below.refl _ w;refine V0 (args:=[.agg (clV c (.slice p1 c.fields.length e1) (.slice p2 c.methods.length e2)).toArray]) Tryz.func71 J Tryz.ntmps71 ?_;refine Zt (Zd (Uu J J ?_));intro b0 hb0;refine Za J (Zx J) (Zo (Zj (Zt (Zd (Za J (Ys (tn J) J 0 J J) (Z7 fn103 J J (fun w hs=>Qu c _ _ w (hc0.out.mono (Vu hs))) ?_ ?_))))))
 rotate_left
 ·intro o1;refine Z3 (Zlr ?_);rw [o1];rfl
 intro o1;have hS:=M9 o1;have hl:(dl (Tt c)).length<=2000000:=by rw [Ul];have h9:=Cm hS c.methods.length;rw [List.take_length] at h9;exact h9
 rw [Aw] at hl;have hl':=hl;unfold topL at hl;simp only [List.length_append] at hl hl';refine Zo (Zj (Zt (Zd (Za J (Ub (tb J) J J) (Uu J J ?_)))));intro b1 hb1;refine Za J (Zx J) (Zo (Zj (Zt (Jm 5 1 (Py (R':=wrA (.slice none 0 0) []) J (Zd (Za J (Zr J) ?_)))))));refine Y2 fn120 J J 0 J hu Up (Ee w _ Ztv) (by (try simp only [List.length_append,List.length_nil]);omega) ?_;intro v1;refine Zo (Zj (Zt (Zd (Za J (Zr J) (Za J (Zy (ff J) J) (Za J (Z8 (t1 J) J (Z1 1 J J)) ?_))))));refine Y2 Lc J J 0 J hu Up (Um w _ c.name) (by (try simp only [List.length_append,List.length_nil]);omega) ?_;intro v2;refine Zo (Zj (Zt (Zd (Za J (Zr J) (Za J (Zy (ff J) J) (Za J (Z8 (t1 J) J (Z1 1 J J)) ?_))))));refine Y2 Lc J J 0 J hu Up (Um w _ c.super) (by (try simp only [List.length_append,List.length_nil]);omega) ?_;intro v3;refine Zo (Zj (Zt (Zd (Za J (Zr J) (Za J (Zy (ff J) J) (Za J (Z8 (t1 J) J (Z1 1 J J)) (Za J (Xv (ts J) J) ?_)))))));refine Y2 O9 J J 0 J hu Up (Vq w _ (c.fields.length:Nat)) (by (try simp only [List.length_append,List.length_nil]);omega) ?_;intro v4;refine Zo (Zj (Zt (Zt (Zd (Za J (Zy (ff J) J) (Za J (Z8 (t1 J) J (Z1 1 J J)) (Za J (Xv (ts J) J) (Za J (Zr J) (Zo (Zj (Yy ?_)))))))))));refine Py (congrArg (wrA _) (show _=topL c++(c.fields.take 0).flatMap fdL from by unfold topL;simp only [List.nil_append,List.append_assoc,List.take_zero,List.flatMap_nil,List.append_nil])) ?_;refine Vb (Vc (X:=Nat × Value) (fun x:Nat × Value=>[(1,pt b0),(3,pt b1),(28,.slice p1 c.fields.length e1),(29,iN c.fields.length),(30,iN x.1)]) _ _ (fun x:Nat × Value=>[(b1,[x.2]),(b0,clV c (.slice p1 c.fields.length e1) (.slice p2 c.methods.length e2))]) (fun x:Nat × Value=>wrA x.2 (topL c++(c.fields.take x.1).flatMap fdL)) (fun x:Nat × Value=>x.1<=c.fields.length) (fun x:Nat × Value=>c.fields.length - x.1) ((0,v4)) (Nat.zero_le _) ?_) ⟨J,J,J,J,J,trivial⟩;intro x hI;refine Zt (Zd (Za J (Vf J J) (Zo (Zj (Zt (Xc J ?_ ?_))))))
 ·intro c1;have hx:x.1<c.fields.length:=by omega
  obtain ⟨b',o',r,hp,hb,⟨hr, -⟩,hc⟩:=hr1.out x.1 c.fields[x.1] (List.getElem?_eq_getElem hx);subst hp;subst hr;have hr:=Pc fdL c.fields x.1 hx;unfold fdL at hr;simp only [List.length_append] at hr;refine Xe (Zj (Zt (Yy (Zt (Zd (Za J (Qr (ts J) J J ?_) ?_))))))
  ·omega
  refine Za J (Vp (tn J) J (Ow hu Up hb hc) J) (X1 J (tz J) ?_);intro b2 hb2;refine Y5 (tn J) J J 0 J J J J (Zo (Zj (Zt (Zd (Za J (Zr J) (Za J (Zy (ff J) J) (Za J (Z8 (t1 J) J (Z1 0 J J)) ?_)))))));refine Y2 Lc J J 1 J hu Up (Um w _ c.fields[x.1].name) (by unfold fdL at *;simp only [List.length_append];omega) ?_;intro v5;refine Zo (Zj (Zt (Zd (Za J (Zr J) (Za J (Zy (ff J) J) (Za J (Z8 (t1 J) J (Z1 0 J J)) ?_))))));refine Y2 fn123 J J 1 J hu Up (Eg w _ c.fields[x.1].stat) (by unfold fdL at *;simp only [List.length_append];omega) ?_;intro v6;refine Zo (Zj (Zd (Za J (Zr J) (Za J (Zy (ff J) J) (Za J (Ys (tn J) J 0 J J) ?_)))));refine Y2 Zfi J J 1 J hu Up (On w _ c.fields[x.1].ty) (by unfold fdL at *;simp only [List.length_append];omega) ?_;intro v7;refine Zo (Y3 (Zj (Zd ?_)));refine Za J (Vt J J ?_) ?_;omega;refine Za J (Zr J) (Zo ?_);refine Wh ((x.1+1,v7)) ?_ (hx) 1 J (congrArg (wrA v7) (by rw [Pd fdL c.fields x.1 hx];unfold fdL;simp only [List.append_assoc])) ⟨rfl,rfl,rfl,rfl,rfl,trivial⟩;omega
 ·intro c1;refine Vd (Va (Wo (W9 (Zj (Zt (Py (congrArg (wrA _) (show _=topL c++c.fields.flatMap fdL from by rw [Na fdL c.fields x.1 (by omega)])) ?_))))));refine Zd (Za J (Zr J) (Za J (Zy (ff J) J) (Za J (Z8 (t1 J) J (Z1 1 J J)) (Za J (Xv (ts J) J) ?_))));refine Y2 O9 J J 0 J hu Up (Vq w _ (c.methods.length:Nat)) (by (try simp only [List.length_append,List.length_nil]);omega) ?_;intro v8;refine Zo (Zj (Zt (Zt (Zd (Za J (Zy (ff J) J) (Za J (Z8 (t1 J) J (Z1 1 J J)) (Za J (Xv (ts J) J) (Za J (Zr J) (Zo (Zj (Yy (Py (congrArg (wrA _) (show _=topL c++c.fields.flatMap fdL++dl (Wl (c.methods.length:Nat) 1)++(c.methods.take 0).flatMap meL from by simp only [List.take_zero,List.flatMap_nil,List.append_nil])) ?_))))))))))));refine Vb (Vc (X:=Nat × Value) (fun y:Nat × Value=>[(1,pt b0),(3,pt b1),(53,.slice p2 c.methods.length e2),(54,iN c.methods.length),(55,iN y.1)]) _ _ (fun y:Nat × Value=>[(b1,[y.2]),(b0,clV c (.slice p1 c.fields.length e1) (.slice p2 c.methods.length e2))]) (fun y:Nat × Value=>wrA y.2 (topL c++c.fields.flatMap fdL++dl (Wl (c.methods.length:Nat) 1)++(c.methods.take y.1).flatMap meL)) (fun y:Nat × Value=>y.1<=c.methods.length) (fun y:Nat × Value=>c.methods.length - y.1) ((0,v8)) (Nat.zero_le _) ?_) ⟨J,J,J,J,J,trivial⟩;intro y hI;refine Zt (Zd (Za J (Vf J J) (Zo (Zj (Zt (Xc J ?_ ?_))))))
  ·intro c2;have hy:y.1<c.methods.length:=by omega
   obtain ⟨b',o',r,hp,hb,⟨pv,cv,hv,gv,hr,hmp⟩,hc⟩:=hr2.out y.1 c.methods[y.1] (List.getElem?_eq_getElem hy);obtain ⟨q1,g1,hq1, -, -⟩:=hmp.ps.is;obtain ⟨q2,g2,hq2, -, -⟩:=hmp.cs.is;obtain ⟨q3,g3,hq3, -, -⟩:=hmp.hs.is;obtain ⟨q4,g4,hq4, -, -⟩:=hmp.fs.is;subst hp;subst hr;subst hq1;subst hq2;subst hq3;subst hq4;refine Xe (Zj (Zt (Yy (Zt (Zd (Za J (Qr (ts J) J J ?_) ?_))))))
   ·omega
   refine Za J (Vp (tn J) J (Ow hu Up hb hc) J) (X1 J (tz J) ?_);intro b2 hb2;refine Y5 (tn J) J J 0 J J J J (Zo (Zj (Zd (Za J (Zr J) (Za J (Ys (tn J) J 0 J J) ?_)))));refine Y2 fn125 J J 1 J hu Up (Zaf w _ c.methods[y.1] _ _ _ _ hmp) (by have hr:=Pc meL c.methods y.1 hy;unfold meL at *;simp only [List.length_append];omega) ?_;intro v9;refine Zo (Y3 (Zj (Zd ?_)));refine Za J (Vt J J ?_) ?_;omega;refine Za J (Zr J) (Zo ?_);refine Wh ((y.1+1,v9)) ?_ (hy) 1 J (congrArg (wrA v9) (by rw [Pd meL c.methods y.1 hy,<- List.append_assoc];rfl)) ⟨rfl,rfl,rfl,rfl,rfl,trivial⟩;omega
  ·intro c2;refine Vd (Va (Wo (W9 (Zj (Zt (Zd (Za J (Zr J) (Za J (Oj J) (Za J (Zy (ff J) J) (Za J (Z8 (t1 J) J (Z1 0 J J)) (Za J (Zvs (ta J).sl (P1 J) (Np J) J J) (Za J (Zx J) (Zo (Zj (Yz (Zlq J J ?_))))))))))))))));rw [if_pos o1];refine congrArg (fun s=>some (Value.string s)) (of_dl ?_).symm;rw [Aw,Na meL c.methods y.1 (by omega)]
end
section
open Go Go.RowKit At E
set_option maxRecDepth 4000
theorem Mu (p:Addr) (x:Value) (u:TypeId) (pv:Value) (w:World) (hc:w.cell? p=some x) (hz:w.frozen? p=false) :
  CallsD Tryz.prog 119 #[.pointer (some p)] (.panicking ({ v:=.iface u pv,recovered:=false }::[])) w fun e u' w' =>
   e=.returned (.tuple #[])/\u'=.panicking ({ v:=.iface u pv,recovered:=true }::[])/\w'=w.setCell p (.iface u pv):=by
 refine callsD_of_wpS Tryz.func119 J fun c₀ cs hu=>?_;apply wpS_region;simp [wpOpsS,go_sem,recoverD,hu,Tryz.ntmps119,hc,hz,bodyPostS,results,Tryz.results119]
theorem Ga (p:Addr) (x:Value) (w:World) (hc:w.cell? p=some x) (hz:w.frozen? p=false) :
  CallsD Tryz.prog 119 #[.pointer (some p)] .returning w fun e u' w'=>e=.returned (.tuple #[])/\u'=.returning/\w'=w.setCell p .nilIface:=by
 refine callsD_of_wpS Tryz.func119 J fun c₀ cs hu=>?_;apply wpS_region;simp [wpOpsS,go_sem,recoverD,hu,Tryz.ntmps119,hc,hz,bodyPostS,results,Tryz.results119];cases c₀;simp_all
theorem Lj (p:Addr) (x:Value) (u:TypeId) (pv:Value) (w:World) (hc:w.cell? p=some x) (hz:w.frozen? p=false) :
  CallsD Tryz.prog 110 #[.pointer (some p)] (.panicking ({ v:=.iface u pv,recovered:=false }::[])) w fun e u' w' =>
   e=.returned (.tuple #[])/\u'=.panicking ({ v:=.iface u pv,recovered:=true }::[])/\w'=w.setCell p (.iface u pv):=by
 refine callsD_of_wpS Tryz.func110 J fun c₀ cs hu=>?_;apply wpS_region;simp [wpOpsS,go_sem,recoverD,hu,Tryz.ntmps110,hc,hz,bodyPostS,results,Tryz.results110]
theorem Fo (p:Addr) (x:Value) (w:World) (hc:w.cell? p=some x) (hz:w.frozen? p=false) :
  CallsD Tryz.prog 110 #[.pointer (some p)] .returning w fun e u' w'=>e=.returned (.tuple #[])/\u'=.returning/\w'=w.setCell p .nilIface:=by
 refine callsD_of_wpS Tryz.func110 J fun c₀ cs hu=>?_;apply wpS_region;simp [wpOpsS,go_sem,recoverD,hu,Tryz.ntmps110,hc,hz,bodyPostS,results,Tryz.results110];cases c₀;simp_all
def N5:Value:=.iface 48 (.int .i64 1)
def Pw (zero:Value) (ok:Value->Asr->Prop) (may:Prop):Value->Asr->Prop:=fun v R'=>(∃ x,ok x R'/\v=.tuple #[x,.nilIface])\/(may/\R'=Asr.none/\v=.tuple #[zero,N5])
theorem Bn:T1 Tryz.prog 20:=fun w=>⟨by kernel_rfl,by kernel_rfl⟩
theorem tzany:TZ Tryz.prog 20 [.nilIface]:=fun w=>by kernel_rfl
theorem H9 (g:Nat) (cap:Value) (w:World) (ok:Value->Asr->Prop) (may:Prop) (hgf:IsFn Tryz.prog g) (hg:∀ w',Below w.heap.size w w'->FnP Tryz.prog g #[cap] w' ok may) :
  FnP Tryz.prog 69 #[.func (.func g) #[] #[cap]] w (Pw (.string ⟨#[]⟩) ok may) False:=by
 refine calls_of_wp_defers Tryz.func69 J ?_;rw [Tryz.ntmps69]
 have ha0:AgD [] 7 { tmps:=#[.func (.func g) #[] #[cap]]++Array.replicate (7 - 1) undef,defers:=[] } [(0,.func (.func g) #[] #[cap])]:=by
  refine ⟨⟨by simp,J,fun i v hv=>?_⟩,J⟩;have h1:=Rm hv;simp only [List.mem_singleton,Prod.mk.injEq] at h1;obtain ⟨rfl,rfl⟩:=h1;simp
 refine wp_seq (wp_region_lit ?_);refine WLD.go (F:=[]) (H:=[]) (R:=Asr.none) ?_ w (Sat.first w []) _ ha0;refine Gf J (Zx J) (Gg J tzany fun b hb=>?_);refine Kj fun w1 hs1 a1 ha1=>?_;refine wp_seq (wp_region_lit ?_);refine WLD.go ?_ w1 hs1 _ ha1;refine Gf (v:=.func (.func 119) #[] #[pt b]) J ?_ ?_
 ·exact ⟨fun w _ a ha _ _ _ _ _=>by simp only [execOp];simp [ha.eval (x:=.tmp 3) rfl,Instr.makeFunc]⟩
 refine A7 J (Kj fun w2 hs2 a2 ha2=>?_);refine wp_seq (wp_region_lit ?_);refine WLD.go ?_ w2 hs2 _ ha2;refine Gf J (Zr J) (Zgc hgf J J (fun w' hs=>hg w' (Vu hs)) ?_ ?_)
 ·intro hm w3 hs3 a3 ha3;show Leaves _ _ a3.tmps _ a3.defers (.panicking Nb) w3;rw [ha3.no];have hc:=hs3.cell1 (i:=0) rfl;refine leaves_cons (f:=119) (args:=#[pt b]) (by simp) (by simp [invoke,callFunc,Tryz.func119];rfl) ?_;refine (Mu ⟨b,0,none⟩ _ _ _ w3 hc.1 hc.2).mono ?_;rintro e u' w4 ⟨rfl,rfl,rfl⟩;have hs4:=hs3.set1 (i:=0) (v:=N5) rfl;refine ⟨.tuple #[.string ⟨#[]⟩,N5],Ox J (ha3.ag.eval (x:=.tmp 2) J) ⟨⟨b,0,none⟩,ha3.ag.eval (x:=.tmp 3) J,?_⟩,.inl ⟨_,Asr.none,J,.inr ⟨hm,J,J⟩,hs4.bare⟩⟩;have h1:=(Bn (w3.setCell ⟨b,0,none⟩ N5)).1;have h2:=(hs4.cell1 (i:=0) rfl).1;simp only [N5] at h1 h2 ⊢;simp [loadVar,h1,h2]
 ·intro v R' hok;refine Gf J (Zx J) (Ge (vs:=[.nilIface]) (fun w=>(Bn w).2) J J J J J 0 J J ?_);refine Kj fun w3 hs3 a3 ha3=>?_;refine wp_ret ?_;show Leaves _ _ a3.tmps _ a3.defers .returning w3;rw [ha3.no];have hc:=hs3.cell1 (i:=0) (old:=.nilIface) rfl;refine leaves_cons (f:=119) (args:=#[pt b]) (by simp) (by simp [invoke,callFunc,Tryz.func119];rfl) ?_;refine (Ga ⟨b,0,none⟩ _ w3 hc.1 hc.2).mono ?_;rintro e u' w4 ⟨rfl,rfl,rfl⟩;have hs4:=hs3.set1 (i:=0) (old:=.nilIface) (v:=.nilIface) rfl;refine ⟨.tuple #[v,.nilIface],Ox J (ha3.ag.eval (x:=.tmp 2) J) ⟨⟨b,0,none⟩,ha3.ag.eval (x:=.tmp 3) J,?_⟩,.inl ⟨_,R',J,.inl ⟨v,hok,J⟩,(hs4.leads (Asr.fst R' Asr.none)).bare⟩⟩;have h1:=(Bn (w3.setCell ⟨b,0,none⟩ .nilIface)).1;have h2:=(hs4.cell1 (i:=0) (old:=.nilIface) rfl).1;simp [loadVar,h1,h2]
def Ph:List Value:=[.string ⟨#[]⟩,.string ⟨#[]⟩,.slice none 0 0,.slice none 0 0]
theorem Fm (g:Nat) (cap:Value) (w:World) (ok:Value->Asr->Prop) (may:Prop) (hgf:IsFn Tryz.prog g) (hg:∀ w',Below w.heap.size w w'->FnP Tryz.prog g #[cap] w' ok may)
  (hok4:∀ v R',ok v R'->∃ vs:List Value,v=.agg vs.toArray/\vs.length=4/\vs.all (·.oneCell')=true) :
  FnP Tryz.prog 66 #[.func (.func g) #[] #[cap]] w (Pw (.agg Ph.toArray) ok may) False:=by
 refine calls_of_wp_defers Tryz.func66 J ?_;rw [Tryz.ntmps66]
 have ha0:AgD [] 7 { tmps:=#[.func (.func g) #[] #[cap]]++Array.replicate (7 - 1) undef,defers:=[] } [(0,.func (.func g) #[] #[cap])]:=by
  refine ⟨⟨by simp,J,fun i v hv=>?_⟩,J⟩;have h1:=Rm hv;simp only [List.mem_singleton,Prod.mk.injEq] at h1;obtain ⟨rfl,rfl⟩:=h1;simp
 have htn:TN Tryz.prog 25 4:=tn rfl;refine wp_seq (wp_region_lit ?_);refine WLD.go (F:=[]) (H:=[]) (R:=Asr.none) ?_ w (Sat.first w []) _ ha0;refine Gg (cs:=Ph) J (tz J) fun b0 hb0=>?_;refine Gg J tzany fun b hb=>?_;refine Kj fun w1 hs1 a1 ha1=>?_;refine wp_seq (wp_region_lit ?_);refine WLD.go ?_ w1 hs1 _ ha1;refine Gf (v:=.func (.func 110) #[] #[pt b]) J ?_ ?_
 ·exact ⟨fun w _ a ha _ _ _ _ _=>by simp only [execOp];simp [ha.eval (x:=.tmp 3) rfl,Instr.makeFunc]⟩
 refine A7 J (Kj fun w2 hs2 a2 ha2=>?_);refine wp_seq (wp_region_lit ?_);refine WLD.go ?_ w2 hs2 _ ha2;refine Gf J (Zr J) (Zgc hgf J J (fun w' hs=>hg w' (Vu hs)) ?_ ?_)
 ·intro hm w3 hs3 a3 ha3;show Leaves _ _ a3.tmps _ a3.defers (.panicking Nb) w3;rw [ha3.no];have hc:=hs3.cell1 (i:=0) rfl;refine leaves_cons (f:=110) (args:=#[pt b]) (by simp) (by simp [invoke,callFunc,Tryz.func110];rfl) ?_;refine (Lj ⟨b,0,none⟩ _ _ _ w3 hc.1 hc.2).mono ?_;rintro e u' w4 ⟨rfl,rfl,rfl⟩;have hs4:=hs3.set1 (i:=0) (v:=N5) rfl;have hrow:RV Tryz.prog 7 [(2,pt b0)] w [] [(b,[N5]),(b0,Ph)] Asr.none (.cell 2 25) (.agg Ph.toArray):=W8 htn (b:=b0) (o:=0) (vs:=Ph) rfl (X2 1 rfl) rfl;refine ⟨.tuple #[.agg Ph.toArray,N5],Ox J (hrow.go _ hs4 { a3 with defers:=[] } (ha3.ag.sub (E':=[(2,pt b0)]) ⟨J,trivial⟩)) ⟨⟨b,0,none⟩,ha3.ag.eval (x:=.tmp 3) J,?_⟩,.inl ⟨_,Asr.none,J,.inr ⟨hm,J,J⟩,hs4.bare⟩⟩;have h1:=(Bn (w3.setCell ⟨b,0,none⟩ N5)).1;have h2:=(hs4.cell1 (i:=0) rfl).1;simp only [N5] at h1 h2 ⊢;simp [loadVar,h1,h2]
 ·intro v R' hok;obtain ⟨vs,rfl,hvl,hv1⟩:=hok4 v R' hok;refine Ge (vs:=vs) (fun w=>(htn w).2) J J J hvl hv1 1 J (by rw [hvl];rfl) ?_;have hput:put Ph 0 vs=vs:=by unfold put;rw [hvl];show []++vs++[]=vs;simp
  rw [show (List.set [(b,[Value.nilIface]),(b0,Ph)] 1 (b0,put Ph 0 vs))=[(b,[Value.nilIface]),(b0,vs)] by rw [hput];rfl];refine Ge (vs:=[.nilIface]) (fun w=>(Bn w).2) J J J J J 0 J J ?_;refine Kj fun w3 hs3 a3 ha3=>?_;refine wp_ret ?_;show Leaves _ _ a3.tmps _ a3.defers .returning w3;rw [ha3.no];have hc:=hs3.cell1 (i:=0) (old:=.nilIface) rfl;refine leaves_cons (f:=110) (args:=#[pt b]) (by simp) (by simp [invoke,callFunc,Tryz.func110];rfl) ?_;refine (Fo ⟨b,0,none⟩ _ w3 hc.1 hc.2).mono ?_;rintro e u' w4 ⟨rfl,rfl,rfl⟩;have hs4:=hs3.set1 (i:=0) (old:=.nilIface) (v:=.nilIface) rfl;have hrow:RV Tryz.prog 7 [(2,pt b0)] w [] [(b,[Value.nilIface]),(b0,vs)] (R'.and Asr.none) (.cell 2 25) (.agg vs.toArray):=W8 htn (b:=b0) (o:=0) (vs:=vs) rfl (X2 1 rfl) hvl;refine ⟨.tuple #[.agg vs.toArray,.nilIface],Ox J (hrow.go _ hs4 { a3 with defers:=[] } (ha3.ag.sub (E':=[(2,pt b0)]) ⟨J,trivial⟩)) ⟨⟨b,0,none⟩,ha3.ag.eval (x:=.tmp 3) J,?_⟩,.inl ⟨_,R',J,.inl ⟨_,hok,J⟩,(hs4.leads (Asr.fst R' Asr.none)).bare⟩⟩;have h1:=(Bn (w3.setCell ⟨b,0,none⟩ .nilIface)).1;have h2:=(hs4.cell1 (i:=0) (old:=.nilIface) rfl).1;simp [loadVar,h1,h2]
end
section
open Go.RowKit At E
def decOk (o:Option Cl):Value->Asr->Prop:=fun v R' =>
 (∃ c k,o=some c/\v=.tuple #[.agg (clV c k.fv k.mv).toArray,.int .i64 0]/\R'.Imp (clA c k)/\ClFit c k)\/(o=none/\v=.tuple #[.agg Ph.toArray,.int .i64 1])
def clH (nm sp:ByteArray) (fv mv:Value):List Value:=[.string nm,.string sp,fv,mv]
end
end Go.Proofs.YtpofmnfkdkmieaaGreat
