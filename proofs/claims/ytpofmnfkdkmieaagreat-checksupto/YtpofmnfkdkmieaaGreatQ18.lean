/- What is proved here: the program's own asking whether somethi -/
import Derived.Test.YtpofmnfkdkmieaaGreatQ16
import Derived.Test.YtpofmnfkdkmieaaGreatQ14
set_option linter.unusedVariables false
set_option linter.unusedSimpArgs false
namespace Go.Proofs.YtpofmnfkdkmieaaGreat
section
open Go.RowKit At E
theorem isMethodB_parts (m:Me):Yt m=(X4 m.name&&(decide ((m.params.length:Int)≤6)&&Wo m.params false)&&X7 m.result true false&&(decide (Qt m≤m.locals)&&decide (m.locals≤20))&&(decide (0≤m.stack)&&decide (m.stack≤20))&&Pf m&&hdsB m&&frsB m):=by
 have e:decide (1≤(m.code.length:Int))=decide (0<(m.code.length:Int)):=by rw [Bool.eq_iff_iff];simp only [decide_eq_true_eq];omega
 unfold Yt V7 Pf hdsB frsB;rw [e];generalize X4 m.name=b1;generalize decide ((m.params.length:Int)≤6)=b2;generalize Wo m.params false=b3;generalize X7 m.result true false=b4;generalize decide (Qt m≤m.locals)=b5;generalize decide (m.locals≤20)=b6;generalize decide (0≤m.stack)=b7;generalize decide (m.stack≤20)=b8;generalize decide (0<(m.code.length:Int))=b9;generalize decide ((m.code.length:Int)≤200)=b10;generalize decide ((m.handlers.length:Int)≤10)=b11;generalize decide ((m.frames.length:Int)≤60)=b12;generalize m.code.all (fun i=>Y5 i m.locals m.code.length)=b13;generalize m.handlers.all (fun h=>Tb h m.code.length)=b14;generalize (List.range m.frames.length).all (M5 m.frames m.locals m.stack m.code.length)=b15;cases b1<;>cases b2<;>cases b3<;>cases b4<;>cases b5<;>cases b6<;>cases b7<;>cases b8<;>try rfl
 all_goals (cases b9<;>cases b10<;>cases b11<;>cases b12<;>cases b13<;>cases b14<;>cases b15<;>rfl)
set_option maxHeartbeats 1000000 in
theorem mustBeMethod_any (m:Me) (pv hv fv:Value) (cv:Value) (w:World) (hm:MeParts w m pv cv hv fv):Qj Tryz.prog 247 #[.agg (meV m pv cv hv fv).toArray] w (Yt m):=by
 rw [isMethodB_parts];have hm0:=hm;obtain ⟨p1,e1,rfl,hl1, -⟩:=hm.ps.is;obtain ⟨p2,e2,rfl,hl2, -⟩:=hm.cs.is;replace hm0:Hid _:=hm0;have hok:=hm.ok;clear hm;refine Xf (args:=[.agg (meV m (.slice p1 m.params.length e1) (.slice p2 m.code.length e2) hv fv).toArray]) Tryz.func247 J Tryz.ntmps247 ?_;refine Zg (Zb (Y2 J J ?_));intro b0 hb0;refine Ze (Zc (Zg (Zb (Za J (Zh (ff J) J) (Za J (Zj (t1 J) J (Zi 0 J J)) (Z7 fn139 J J (fun w _=>W6 _ w hok.1) ?_ ?_))))))
 rotate_left
 ·intro o1;refine Zy (Ym ?_);simp_all;done
 intro o1;refine Ze (Zc (Zg (Zb (Za J (Zh (ff J) J) (Za J (Zj (t1 J) J (Zi 0 J J)) (Z7 fn318 J J (fun w hs=>Nw _ m.params w (Yu.mono hm0.out.ps (Xx hs))) ?_ ?_))))))
 rotate_left
 ·intro o2;refine Zy (Ym ?_);simp_all;done
 intro o2;refine Ze (Zc (Zg (Zb (Za J (Zh (ff J) J) (Za J (Zv (tn J) J 0 J J) (Z7 fn245 J J (fun w _=>(So 319 resB fn319 isOfResult_any m.result w hok.2.1).of_eq (mayB_res _)) ?_ ?_))))))
 rotate_left
 ·intro o3;refine Zy (Ym ?_);simp_all;done
 intro o3;refine Ze (Zc (Zg (WC_any X2 (Ll (rs:=[0,2]) (by kernel_rfl) (by simp) ?_))));simp only [List.forall_mem_cons,List.not_mem_nil,false_imp_iff,implies_true,and_true];refine ⟨?_,?_⟩
 ·refine ⟨_,J,?_⟩;refine Za J (Zv (tn J) J 0 J J) (Ze (Yw (Ll (rs:=[1,2]) (by kernel_rfl) (by simp) ?_)));simp only [List.forall_mem_cons,List.not_mem_nil,false_imp_iff,implies_true,and_true];refine ⟨?_,?_⟩
  ·refine ⟨_,J,?_⟩;refine Yq fn320 J J (fun w _=>Uo m _ _ _ _ _ w hl1.1) ?_;refine Ze (Yw (Y4 2 (by kernel_rfl) J ?_));refine Za J (Zh (ff J) J) (Ze (Yw (Y4 3 (by kernel_rfl) J ?_)));refine Za J (Zj (t1 J) J (Zi 0 J J)) (Ze (Yw (Y4 4 (by kernel_rfl) J ?_)));refine Za J (Xj J J) (Ze (Yw (Y4 5 (by kernel_rfl) J ?_)));refine Za J (Zd J) (Ze (Yw (Y4 6 (by kernel_rfl) J ?_)));refine Z9 J J J ?_ ?_
   ·intro h4;refine Zk J J J (Zh (ff J) J) (Ze (Yw (Y4 7 (by kernel_rfl) J ?_)));refine Zk J J J (Zj (t1 J) J (Zi 0 J J)) (Ze (Yw (Y4 8 (by kernel_rfl) J ?_)));refine Zk J J J (Xj J J) (Ze (Yw (Y4 9 (by kernel_rfl) J ?_)));refine Za J (Zp J J) (Ze (Yw (Y4 10 (by kernel_rfl) J ?_)));refine Z7 X1 J J (fun w _=>Yr _ w) ?_ ?_
    rotate_left
    ·intro o5;replace o5:=dFa o5;refine Zy (Zy (Ym ?_));simp_all;omega
    intro o5;replace o5:=dTr o5;refine Ze (Yw (O8 (by kernel_rfl) ?_));refine Zc (Zg (Zb (Za J (Zh (ff J) J) (Za J (Zj (t1 J) J (Zi 0 J J)) (Za J (Xj J J) (Za J (Zd J) (Z9 J J J ?_ ?_)))))))
    ·intro h6;refine Zk J J J (Zh (ff J) J) (Zk J J J (Zj (t1 J) J (Zi 0 J J)) (Zk J J J (Xj J J) (Za J (Zp J J) (Z7 X1 J J (fun w _=>Yr _ w) ?_ ?_))))
     rotate_left
     ·intro o7;replace o7:=dFa o7;refine Zy (Ym ?_);simp_all;omega
     intro o7;replace o7:=dTr o7;refine Ze (Zc (Zg (Zb (Za J (Zv (tn J) J 0 J J) (Z7 fn321 J J (fun w hs=>Tn m _ _ _ _ w (hm0.out.mono (Xx hs))) ?_ ?_)))))
     rotate_left
     ·intro o8;refine Zy (Ym ?_);simp_all;done
     intro o8;refine Ze (Zc (Zg (Zb (Za J (Zv (tn J) J 0 J J) (Z7 fn322 J J (fun w hs=>V2 m _ _ _ _ w (hm0.out.mono (Xx hs))) ?_ ?_)))))
     rotate_left
     ·intro o9;refine Zy (Ym ?_);simp_all;done
     intro o9;refine Ze (Zc (Zb (Za J (Zv (tn J) J 0 J J) (Z7 fn323 J J (fun w hs=>Up m _ _ _ _ w (hm0.out.mono (Xx hs))) ?_ ?_))))
     rotate_left
     ·intro o10;refine Ym ?_;simp_all;done
     intro o10;refine Ze (Uf J ?_);simp_all;done
    ·intro h6;refine Zm J J J (Zm J J J (Zm J J J (Za J (Zs J J) (Z7 X1 J J (fun w _=>Yr _ w) ?_ ?_))))
     ·intro o11;cases o11
     intro _;refine Zy (Ym ?_);simp_all;omega
   ·intro h4;refine Zm J J J (Ze (Yw (Y4 7 (by kernel_rfl) J ?_)));refine Zm J J J (Ze (Yw (Y4 8 (by kernel_rfl) J ?_)));refine Zm J J J (Ze (Yw (Y4 9 (by kernel_rfl) J ?_)));refine Za J (Zs J J) (Ze (Yw (Y4 10 (by kernel_rfl) J ?_)));refine Z7 X1 J J (fun w _=>Yr _ w) ?_ ?_
    ·intro o12;cases o12
    intro _;refine Zy (Zy (Ym ?_));simp_all;omega
  ·refine ⟨_,J,?_⟩;refine Za J (Zh (ff J) J) (Ze (Yw (Ll (rs:=[1,3]) (by kernel_rfl) (by simp) ?_)));simp only [List.forall_mem_cons,List.not_mem_nil,false_imp_iff,implies_true,and_true];refine ⟨?_,?_⟩
   ·refine ⟨_,J,?_⟩;refine Yq fn320 J J (fun w _=>Uo m _ _ _ _ _ w hl1.1) ?_;refine Ze (Yw (Y4 3 (by kernel_rfl) J ?_));refine Za J (Zj (t1 J) J (Zi 0 J J)) (Ze (Yw (Y4 4 (by kernel_rfl) J ?_)));refine Za J (Xj J J) (Ze (Yw (Y4 5 (by kernel_rfl) J ?_)));refine Za J (Zd J) (Ze (Yw (Y4 6 (by kernel_rfl) J ?_)));refine Z9 J J J ?_ ?_
    ·intro h13;refine Zk J J J (Zh (ff J) J) (Ze (Yw (Y4 7 (by kernel_rfl) J ?_)));refine Zk J J J (Zj (t1 J) J (Zi 0 J J)) (Ze (Yw (Y4 8 (by kernel_rfl) J ?_)));refine Zk J J J (Xj J J) (Ze (Yw (Y4 9 (by kernel_rfl) J ?_)));refine Za J (Zp J J) (Ze (Yw (Y4 10 (by kernel_rfl) J ?_)));refine Z7 X1 J J (fun w _=>Yr _ w) ?_ ?_
     rotate_left
     ·intro o14;replace o14:=dFa o14;refine Zy (Zy (Ym ?_));simp_all;omega
     intro o14;replace o14:=dTr o14;refine Ze (Yw (O8 (by kernel_rfl) ?_));refine Zc (Zg (Zb (Za J (Zh (ff J) J) (Za J (Zj (t1 J) J (Zi 0 J J)) (Za J (Xj J J) (Za J (Zd J) (Z9 J J J ?_ ?_)))))))
     ·intro h15;refine Zk J J J (Zh (ff J) J) (Zk J J J (Zj (t1 J) J (Zi 0 J J)) (Zk J J J (Xj J J) (Za J (Zp J J) (Z7 X1 J J (fun w _=>Yr _ w) ?_ ?_))))
      rotate_left
      ·intro o16;replace o16:=dFa o16;refine Zy (Ym ?_);simp_all;omega
      intro o16;replace o16:=dTr o16;refine Ze (Zc (Zg (Zb (Za J (Zv (tn J) J 0 J J) (Z7 fn321 J J (fun w hs=>Tn m _ _ _ _ w (hm0.out.mono (Xx hs))) ?_ ?_)))))
      rotate_left
      ·intro o17;refine Zy (Ym ?_);simp_all;done
      intro o17;refine Ze (Zc (Zg (Zb (Za J (Zv (tn J) J 0 J J) (Z7 fn322 J J (fun w hs=>V2 m _ _ _ _ w (hm0.out.mono (Xx hs))) ?_ ?_)))))
      rotate_left
      ·intro o18;refine Zy (Ym ?_);simp_all;done
      intro o18;refine Ze (Zc (Zb (Za J (Zv (tn J) J 0 J J) (Z7 fn323 J J (fun w hs=>Up m _ _ _ _ w (hm0.out.mono (Xx hs))) ?_ ?_))))
      rotate_left
      ·intro o19;refine Ym ?_;simp_all;done
      intro o19;refine Ze (Uf J ?_);simp_all;done
     ·intro h15;refine Zm J J J (Zm J J J (Zm J J J (Za J (Zs J J) (Z7 X1 J J (fun w _=>Yr _ w) ?_ ?_))))
      ·intro o20;cases o20
      intro _;refine Zy (Ym ?_);simp_all;omega
    ·intro h13;refine Zm J J J (Ze (Yw (Y4 7 (by kernel_rfl) J ?_)));refine Zm J J J (Ze (Yw (Y4 8 (by kernel_rfl) J ?_)));refine Zm J J J (Ze (Yw (Y4 9 (by kernel_rfl) J ?_)));refine Za J (Zs J J) (Ze (Yw (Y4 10 (by kernel_rfl) J ?_)));refine Z7 X1 J J (fun w _=>Yr _ w) ?_ ?_
     ·intro o21;cases o21
     intro _;refine Zy (Zy (Ym ?_));simp_all;omega
   ·refine ⟨_,J,?_⟩;refine Za J (Zj (t1 J) J (Zi 0 J J)) (Ze (Yw (Y4 1 (by kernel_rfl) J ?_)));refine Yq fn320 J J (fun w _=>Uo m _ _ _ _ _ w hl1.1) ?_;refine Ze (Yw (Y4 4 (by kernel_rfl) J ?_));refine Za J (Xj J J) (Ze (Yw (Y4 5 (by kernel_rfl) J ?_)));refine Za J (Zd J) (Ze (Yw (Y4 6 (by kernel_rfl) J ?_)));refine Z9 J J J ?_ ?_
    ·intro h22;refine Zk J J J (Zh (ff J) J) (Ze (Yw (Y4 7 (by kernel_rfl) J ?_)));refine Zk J J J (Zj (t1 J) J (Zi 0 J J)) (Ze (Yw (Y4 8 (by kernel_rfl) J ?_)));refine Zk J J J (Xj J J) (Ze (Yw (Y4 9 (by kernel_rfl) J ?_)));refine Za J (Zp J J) (Ze (Yw (Y4 10 (by kernel_rfl) J ?_)));refine Z7 X1 J J (fun w _=>Yr _ w) ?_ ?_
     rotate_left
     ·intro o23;replace o23:=dFa o23;refine Zy (Zy (Ym ?_));simp_all;omega
     intro o23;replace o23:=dTr o23;refine Ze (Yw (O8 (by kernel_rfl) ?_));refine Zc (Zg (Zb (Za J (Zh (ff J) J) (Za J (Zj (t1 J) J (Zi 0 J J)) (Za J (Xj J J) (Za J (Zd J) (Z9 J J J ?_ ?_)))))))
     ·intro h24;refine Zk J J J (Zh (ff J) J) (Zk J J J (Zj (t1 J) J (Zi 0 J J)) (Zk J J J (Xj J J) (Za J (Zp J J) (Z7 X1 J J (fun w _=>Yr _ w) ?_ ?_))))
      rotate_left
      ·intro o25;replace o25:=dFa o25;refine Zy (Ym ?_);simp_all;omega
      intro o25;replace o25:=dTr o25;refine Ze (Zc (Zg (Zb (Za J (Zv (tn J) J 0 J J) (Z7 fn321 J J (fun w hs=>Tn m _ _ _ _ w (hm0.out.mono (Xx hs))) ?_ ?_)))))
      rotate_left
      ·intro o26;refine Zy (Ym ?_);simp_all;done
      intro o26;refine Ze (Zc (Zg (Zb (Za J (Zv (tn J) J 0 J J) (Z7 fn322 J J (fun w hs=>V2 m _ _ _ _ w (hm0.out.mono (Xx hs))) ?_ ?_)))))
      rotate_left
      ·intro o27;refine Zy (Ym ?_);simp_all;done
      intro o27;refine Ze (Zc (Zb (Za J (Zv (tn J) J 0 J J) (Z7 fn323 J J (fun w hs=>Up m _ _ _ _ w (hm0.out.mono (Xx hs))) ?_ ?_))))
      rotate_left
      ·intro o28;refine Ym ?_;simp_all;done
      intro o28;refine Ze (Uf J ?_);simp_all;done
     ·intro h24;refine Zm J J J (Zm J J J (Zm J J J (Za J (Zs J J) (Z7 X1 J J (fun w _=>Yr _ w) ?_ ?_))))
      ·intro o29;cases o29
      intro _;refine Zy (Ym ?_);simp_all;omega
    ·intro h22;refine Zm J J J (Ze (Yw (Y4 7 (by kernel_rfl) J ?_)));refine Zm J J J (Ze (Yw (Y4 8 (by kernel_rfl) J ?_)));refine Zm J J J (Ze (Yw (Y4 9 (by kernel_rfl) J ?_)));refine Za J (Zs J J) (Ze (Yw (Y4 10 (by kernel_rfl) J ?_)));refine Z7 X1 J J (fun w _=>Yr _ w) ?_ ?_
     ·intro o30;cases o30
     intro _;refine Zy (Zy (Ym ?_));simp_all;omega
 ·refine ⟨_,J,?_⟩;refine Za J (Zh (ff J) J) (Ze (Yw (Ll (rs:=[0,3]) (by kernel_rfl) (by simp) ?_)));simp only [List.forall_mem_cons,List.not_mem_nil,false_imp_iff,implies_true,and_true];refine ⟨?_,?_⟩
  ·refine ⟨_,J,?_⟩;refine Za J (Zv (tn J) J 0 J J) (Ze (Yw (Ll (rs:=[1,3]) (by kernel_rfl) (by simp) ?_)));simp only [List.forall_mem_cons,List.not_mem_nil,false_imp_iff,implies_true,and_true];refine ⟨?_,?_⟩
   ·refine ⟨_,J,?_⟩;refine Yq fn320 J J (fun w _=>Uo m _ _ _ _ _ w hl1.1) ?_;refine Ze (Yw (Y4 3 (by kernel_rfl) J ?_));refine Za J (Zj (t1 J) J (Zi 0 J J)) (Ze (Yw (Y4 4 (by kernel_rfl) J ?_)));refine Za J (Xj J J) (Ze (Yw (Y4 5 (by kernel_rfl) J ?_)));refine Za J (Zd J) (Ze (Yw (Y4 6 (by kernel_rfl) J ?_)));refine Z9 J J J ?_ ?_
    ·intro h31;refine Zk J J J (Zh (ff J) J) (Ze (Yw (Y4 7 (by kernel_rfl) J ?_)));refine Zk J J J (Zj (t1 J) J (Zi 0 J J)) (Ze (Yw (Y4 8 (by kernel_rfl) J ?_)));refine Zk J J J (Xj J J) (Ze (Yw (Y4 9 (by kernel_rfl) J ?_)));refine Za J (Zp J J) (Ze (Yw (Y4 10 (by kernel_rfl) J ?_)));refine Z7 X1 J J (fun w _=>Yr _ w) ?_ ?_
     rotate_left
     ·intro o32;replace o32:=dFa o32;refine Zy (Zy (Ym ?_));simp_all;omega
     intro o32;replace o32:=dTr o32;refine Ze (Yw (O8 (by kernel_rfl) ?_));refine Zc (Zg (Zb (Za J (Zh (ff J) J) (Za J (Zj (t1 J) J (Zi 0 J J)) (Za J (Xj J J) (Za J (Zd J) (Z9 J J J ?_ ?_)))))))
     ·intro h33;refine Zk J J J (Zh (ff J) J) (Zk J J J (Zj (t1 J) J (Zi 0 J J)) (Zk J J J (Xj J J) (Za J (Zp J J) (Z7 X1 J J (fun w _=>Yr _ w) ?_ ?_))))
      rotate_left
      ·intro o34;replace o34:=dFa o34;refine Zy (Ym ?_);simp_all;omega
      intro o34;replace o34:=dTr o34;refine Ze (Zc (Zg (Zb (Za J (Zv (tn J) J 0 J J) (Z7 fn321 J J (fun w hs=>Tn m _ _ _ _ w (hm0.out.mono (Xx hs))) ?_ ?_)))))
      rotate_left
      ·intro o35;refine Zy (Ym ?_);simp_all;done
      intro o35;refine Ze (Zc (Zg (Zb (Za J (Zv (tn J) J 0 J J) (Z7 fn322 J J (fun w hs=>V2 m _ _ _ _ w (hm0.out.mono (Xx hs))) ?_ ?_)))))
      rotate_left
      ·intro o36;refine Zy (Ym ?_);simp_all;done
      intro o36;refine Ze (Zc (Zb (Za J (Zv (tn J) J 0 J J) (Z7 fn323 J J (fun w hs=>Up m _ _ _ _ w (hm0.out.mono (Xx hs))) ?_ ?_))))
      rotate_left
      ·intro o37;refine Ym ?_;simp_all;done
      intro o37;refine Ze (Uf J ?_);simp_all;done
     ·intro h33;refine Zm J J J (Zm J J J (Zm J J J (Za J (Zs J J) (Z7 X1 J J (fun w _=>Yr _ w) ?_ ?_))))
      ·intro o38;cases o38
      intro _;refine Zy (Ym ?_);simp_all;omega
    ·intro h31;refine Zm J J J (Ze (Yw (Y4 7 (by kernel_rfl) J ?_)));refine Zm J J J (Ze (Yw (Y4 8 (by kernel_rfl) J ?_)));refine Zm J J J (Ze (Yw (Y4 9 (by kernel_rfl) J ?_)));refine Za J (Zs J J) (Ze (Yw (Y4 10 (by kernel_rfl) J ?_)));refine Z7 X1 J J (fun w _=>Yr _ w) ?_ ?_
     ·intro o39;cases o39
     intro _;refine Zy (Zy (Ym ?_));simp_all;omega
   ·refine ⟨_,J,?_⟩;refine Za J (Zj (t1 J) J (Zi 0 J J)) (Ze (Yw (Y4 1 (by kernel_rfl) J ?_)));refine Yq fn320 J J (fun w _=>Uo m _ _ _ _ _ w hl1.1) ?_;refine Ze (Yw (Y4 4 (by kernel_rfl) J ?_));refine Za J (Xj J J) (Ze (Yw (Y4 5 (by kernel_rfl) J ?_)));refine Za J (Zd J) (Ze (Yw (Y4 6 (by kernel_rfl) J ?_)));refine Z9 J J J ?_ ?_
    ·intro h40;refine Zk J J J (Zh (ff J) J) (Ze (Yw (Y4 7 (by kernel_rfl) J ?_)));refine Zk J J J (Zj (t1 J) J (Zi 0 J J)) (Ze (Yw (Y4 8 (by kernel_rfl) J ?_)));refine Zk J J J (Xj J J) (Ze (Yw (Y4 9 (by kernel_rfl) J ?_)));refine Za J (Zp J J) (Ze (Yw (Y4 10 (by kernel_rfl) J ?_)));refine Z7 X1 J J (fun w _=>Yr _ w) ?_ ?_
     rotate_left
     ·intro o41;replace o41:=dFa o41;refine Zy (Zy (Ym ?_));simp_all;omega
     intro o41;replace o41:=dTr o41;refine Ze (Yw (O8 (by kernel_rfl) ?_));refine Zc (Zg (Zb (Za J (Zh (ff J) J) (Za J (Zj (t1 J) J (Zi 0 J J)) (Za J (Xj J J) (Za J (Zd J) (Z9 J J J ?_ ?_)))))))
     ·intro h42;refine Zk J J J (Zh (ff J) J) (Zk J J J (Zj (t1 J) J (Zi 0 J J)) (Zk J J J (Xj J J) (Za J (Zp J J) (Z7 X1 J J (fun w _=>Yr _ w) ?_ ?_))))
      rotate_left
      ·intro o43;replace o43:=dFa o43;refine Zy (Ym ?_);simp_all;omega
      intro o43;replace o43:=dTr o43;refine Ze (Zc (Zg (Zb (Za J (Zv (tn J) J 0 J J) (Z7 fn321 J J (fun w hs=>Tn m _ _ _ _ w (hm0.out.mono (Xx hs))) ?_ ?_)))))
      rotate_left
      ·intro o44;refine Zy (Ym ?_);simp_all;done
      intro o44;refine Ze (Zc (Zg (Zb (Za J (Zv (tn J) J 0 J J) (Z7 fn322 J J (fun w hs=>V2 m _ _ _ _ w (hm0.out.mono (Xx hs))) ?_ ?_)))))
      rotate_left
      ·intro o45;refine Zy (Ym ?_);simp_all;done
      intro o45;refine Ze (Zc (Zb (Za J (Zv (tn J) J 0 J J) (Z7 fn323 J J (fun w hs=>Up m _ _ _ _ w (hm0.out.mono (Xx hs))) ?_ ?_))))
      rotate_left
      ·intro o46;refine Ym ?_;simp_all;done
      intro o46;refine Ze (Uf J ?_);simp_all;done
     ·intro h42;refine Zm J J J (Zm J J J (Zm J J J (Za J (Zs J J) (Z7 X1 J J (fun w _=>Yr _ w) ?_ ?_))))
      ·intro o47;cases o47
      intro _;refine Zy (Ym ?_);simp_all;omega
    ·intro h40;refine Zm J J J (Ze (Yw (Y4 7 (by kernel_rfl) J ?_)));refine Zm J J J (Ze (Yw (Y4 8 (by kernel_rfl) J ?_)));refine Zm J J J (Ze (Yw (Y4 9 (by kernel_rfl) J ?_)));refine Za J (Zs J J) (Ze (Yw (Y4 10 (by kernel_rfl) J ?_)));refine Z7 X1 J J (fun w _=>Yr _ w) ?_ ?_
     ·intro o48;cases o48
     intro _;refine Zy (Zy (Ym ?_));simp_all;omega
  ·refine ⟨_,J,?_⟩;refine Za J (Zj (t1 J) J (Zi 0 J J)) (Ze (Yw (Y4 0 (by kernel_rfl) J ?_)));refine Za J (Zv (tn J) J 0 J J) (Ze (Yw (Y4 1 (by kernel_rfl) J ?_)));refine Yq fn320 J J (fun w _=>Uo m _ _ _ _ _ w hl1.1) ?_;refine Ze (Yw (Y4 4 (by kernel_rfl) J ?_));refine Za J (Xj J J) (Ze (Yw (Y4 5 (by kernel_rfl) J ?_)));refine Za J (Zd J) (Ze (Yw (Y4 6 (by kernel_rfl) J ?_)));refine Z9 J J J ?_ ?_
   ·intro h49;refine Zk J J J (Zh (ff J) J) (Ze (Yw (Y4 7 (by kernel_rfl) J ?_)));refine Zk J J J (Zj (t1 J) J (Zi 0 J J)) (Ze (Yw (Y4 8 (by kernel_rfl) J ?_)));refine Zk J J J (Xj J J) (Ze (Yw (Y4 9 (by kernel_rfl) J ?_)));refine Za J (Zp J J) (Ze (Yw (Y4 10 (by kernel_rfl) J ?_)));refine Z7 X1 J J (fun w _=>Yr _ w) ?_ ?_
    rotate_left
    ·intro o50;replace o50:=dFa o50;refine Zy (Zy (Ym ?_));simp_all;omega
    intro o50;replace o50:=dTr o50;refine Ze (Yw (O8 (by kernel_rfl) ?_));refine Zc (Zg (Zb (Za J (Zh (ff J) J) (Za J (Zj (t1 J) J (Zi 0 J J)) (Za J (Xj J J) (Za J (Zd J) (Z9 J J J ?_ ?_)))))))
    ·intro h51;refine Zk J J J (Zh (ff J) J) (Zk J J J (Zj (t1 J) J (Zi 0 J J)) (Zk J J J (Xj J J) (Za J (Zp J J) (Z7 X1 J J (fun w _=>Yr _ w) ?_ ?_))))
     rotate_left
     ·intro o52;replace o52:=dFa o52;refine Zy (Ym ?_);simp_all;omega
     intro o52;replace o52:=dTr o52;refine Ze (Zc (Zg (Zb (Za J (Zv (tn J) J 0 J J) (Z7 fn321 J J (fun w hs=>Tn m _ _ _ _ w (hm0.out.mono (Xx hs))) ?_ ?_)))))
     rotate_left
     ·intro o53;refine Zy (Ym ?_);simp_all;done
     intro o53;refine Ze (Zc (Zg (Zb (Za J (Zv (tn J) J 0 J J) (Z7 fn322 J J (fun w hs=>V2 m _ _ _ _ w (hm0.out.mono (Xx hs))) ?_ ?_)))))
     rotate_left
     ·intro o54;refine Zy (Ym ?_);simp_all;done
     intro o54;refine Ze (Zc (Zb (Za J (Zv (tn J) J 0 J J) (Z7 fn323 J J (fun w hs=>Up m _ _ _ _ w (hm0.out.mono (Xx hs))) ?_ ?_))))
     rotate_left
     ·intro o55;refine Ym ?_;simp_all;done
     intro o55;refine Ze (Uf J ?_);simp_all;done
    ·intro h51;refine Zm J J J (Zm J J J (Zm J J J (Za J (Zs J J) (Z7 X1 J J (fun w _=>Yr _ w) ?_ ?_))))
     ·intro o56;cases o56
     intro _;refine Zy (Ym ?_);simp_all;omega
   ·intro h49;refine Zm J J J (Ze (Yw (Y4 7 (by kernel_rfl) J ?_)));refine Zm J J J (Ze (Yw (Y4 8 (by kernel_rfl) J ?_)));refine Zm J J J (Ze (Yw (Y4 9 (by kernel_rfl) J ?_)));refine Za J (Zs J J) (Ze (Yw (Y4 10 (by kernel_rfl) J ?_)));refine Z7 X1 J J (fun w _=>Yr _ w) ?_ ?_
    ·intro o57;cases o57
    intro _;refine Zy (Zy (Ym ?_));simp_all;omega
end
end Go.Proofs.YtpofmnfkdkmieaaGreat
