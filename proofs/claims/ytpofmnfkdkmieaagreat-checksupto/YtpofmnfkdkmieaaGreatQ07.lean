/- What is proved here: the document's own answers sort and isIn -/
import Derived.Test.YtpofmnfkdkmieaaGreatQ06
set_option linter.unusedVariables false
set_option linter.unusedSimpArgs false
namespace Go.Proofs.YtpofmnfkdkmieaaGreat
section
open Go.RowKit At E
theorem sort_any (op:Int) (w:World):Vc Tryz.prog 173 #[.int .i64 op] w (.int .i64 (Xk op)):=by
 refine Xf (args:=[.int .i64 op]) Tryz.func173 J Tryz.ntmps173 ?_;refine Zg (Zb (Za J (Zf J) (Ze (Zc (Zg (Zg (Zb (Za J (Zd J) (Ze (Zc (Zn (Zg (Zb (Za J (Ya J J) (Za J (Zf J) (Ze (Zc (Zu J ?_ ?_))))))))))))))))))
 ·intro c1;refine Zg (Zb (Za J (Zf J) (Ze (Zc (Zr (Zl (Zl (Z3 J J ?_))))))));simp_all [Xk]
 ·intro c1;refine Zg (Zg (Zb (Za J (Ya J J) (Za J (Zf J) (Ze (Zc (Zu J ?_ ?_)))))))
  ·intro c2;refine Zo (Zc (Yh J (Zg (Zb (Za J (Zf J) (Ze (Zc (Zr (Zl (Zl (Z3 J J ?_)))))))))));simp_all [Xk]
  ·intro c2;refine Zb (Za J (Ya J J) (Za J (Zf J) (Ze (Zc (Zu J ?_ ?_)))))
   ·intro c3;refine Zg (Zb (Za J (Zf J) (Ze (Zc (Zr (Zl (Zl (Z3 J J ?_))))))));simp_all [Xk]
   ·intro c3;refine Zg (Zg (Zb (Za J (Ya J J) (Za J (Zf J) (Ze (Zc (Zu J ?_ ?_)))))))
    ·intro c4;refine Zo (Zc (Yh J (Zg (Zb (Za J (Zf J) (Ze (Zc (Zr (Zl (Zl (Z3 J J ?_)))))))))));simp_all [Xk]
    ·intro c4;refine Zg (Zb (Za J (Ya J J) (Za J (Zf J) (Ze (Zc (Zu J ?_ ?_))))))
     ·intro c5;refine Zo (Zc (Yh J (Zg (Zb (Za J (Zf J) (Ze (Zc (Zr (Zl (Zl (Z3 J J ?_)))))))))));simp_all [Xk]
     ·intro c5;refine Zg (Zb (Za J (Ya J J) (Za J (Zf J) (Ze (Zc (Zu J ?_ ?_))))))
      ·intro c6;refine Zo (Zc (Yh J (Zg (Zb (Za J (Zf J) (Ze (Zc (Zr (Zl (Zl (Z3 J J ?_)))))))))));simp_all [Xk]
      ·intro c6;refine Zb (Za J (Ya J J) (Za J (Zf J) (Ze (Zc (Zu J ?_ ?_)))))
       ·intro c7;refine Zg (Zb (Za J (Zf J) (Ze (Zc (Zr (Zl (Zl (Z3 J J ?_))))))));simp_all [Xk]
       ·intro c7;refine Zg (Zg (Zb (Za J (Ya J J) (Za J (Zf J) (Ze (Zc (Zu J ?_ ?_)))))))
        ·intro c8;refine Zo (Zc (Yh J (Zg (Zb (Za J (Zf J) (Ze (Zc (Zr (Zl (Zl (Z3 J J ?_)))))))))));simp_all [Xk]
        ·intro c8;refine Zg (Zb (Za J (Ya J J) (Za J (Zf J) (Ze (Zc (Zu J ?_ ?_))))))
         ·intro c9;refine Zo (Zc (Yh J (Zg (Zb (Za J (Zf J) (Ze (Zc (Zr (Zl (Zl (Z3 J J ?_)))))))))));simp_all [Xk]
         ·intro c9;refine Zb (Za J (Ya J J) (Za J (Zf J) (Ze (Zc (Zu J ?_ ?_)))))
          ·intro c10;refine Zg (Zb (Za J (Zf J) (Ze (Zc (Zr (Zl (Zl (Z3 J J ?_))))))));simp_all [Xk]
          ·intro c10;refine Zg (Zg (Zb (Za J (Ya J J) (Za J (Zf J) (Ze (Zc (Zu J ?_ ?_)))))))
           ·intro c11;refine Zo (Zc (Yh J (Zg (Zb (Za J (Zf J) (Ze (Zc (Zr (Zl (Zl (Z3 J J ?_)))))))))));simp_all [Xk]
           ·intro c11;refine Zg (Zb (Za J (Ya J J) (Za J (Zf J) (Ze (Zc (Zu J ?_ ?_))))))
            ·intro c12;refine Zo (Zc (Yh J (Zg (Zb (Za J (Zf J) (Ze (Zc (Zr (Zl (Zl (Z3 J J ?_)))))))))));simp_all [Xk]
            ·intro c12;refine Zg (Zb (Za J (Ya J J) (Za J (Zf J) (Ze (Zc (Zu J ?_ ?_))))))
             ·intro c13;refine Zo (Zc (Yh J (Zg (Zb (Za J (Zf J) (Ze (Zc (Zr (Zl (Zl (Z3 J J ?_)))))))))));simp_all [Xk]
             ·intro c13;refine Zb (Za J (Ya J J) (Za J (Zf J) (Ze (Zc (Zu J ?_ ?_)))))
              ·intro c14;refine Zg (Zb (Za J (Zf J) (Ze (Zc (Zr (Zl (Zl (Z3 J J ?_))))))));simp_all [Xk]
              ·intro c14;refine Zg (Zg (Zb (Za J (Ya J J) (Za J (Zf J) (Ze (Zc (Zu J ?_ ?_)))))))
               ·intro c15;refine Zo (Zc (Yh J (Zg (Zb (Za J (Zf J) (Ze (Zc (Zr (Zl (Zl (Z3 J J ?_)))))))))));simp_all [Xk]
               ·intro c15;refine Zb (Za J (Ya J J) (Za J (Zf J) (Ze (Zc (Zu J ?_ ?_)))))
                ·intro c16;refine Zg (Zb (Za J (Zf J) (Ze (Zc (Zr (Zl (Zl (Z3 J J ?_))))))));simp_all [Xk]
                ·intro c16;refine Zo (Zt (Zc (Zg (Zg (Zb (Za J (Zd J) (Za J (Yi J J) (Za J (Zd J) (Z9 J J J ?_ ?_)))))))))
                 ·intro h1;refine Zm J J J (Zm J J J (Za J (Zp J J) (Ze (Zc (Yh J (Zg (Zb (Za J (Zf J) (Ze (Zc (Zr (Zl (Z3 J J ?_)))))))))))));simp_all [Xk]
                 ·intro h1;refine Zk J J J (Zd J) (Zk J J J (Ug J J) (Za J (Zs J J) (Ze (Zc (Zu J ?_ ?_)))))
                  ·intro c17;refine Zg (Zb (Za J (Zf J) (Ze (Zc (Zr (Zl (Z3 J J ?_)))))));simp_all [Xk]
                  ·intro c17;refine Zo (Zc (Zg (Zb (Za J (Zf J) (Ze (Zc (Zr (Z3 J J ?_))))))));simp_all [Xk]
set_option maxHeartbeats 1000000 in
theorem isInstr_any (i:Ins) (m:Me) (pv:Value) (qv cv hv fv:Value) (w:World) (hp:Yu w pv i.ref.params) (hi:N3 i) (hm:MeParts w m qv cv hv fv) :
  Vc Tryz.prog 135 #[.agg (Wx i pv).toArray,.agg (meV m qv cv hv fv).toArray] w (.bool (Y5 i m.locals m.code.length)):=by
 obtain ⟨p,c,rfl,hl, -⟩:=hp.is;obtain ⟨p',c',rfl,hl', -⟩:=hm.cs.is;refine Xf (args:=[.agg (Wx i (.slice p i.ref.params.length c)).toArray,.agg (meV m qv (.slice p' m.code.length c') hv fv).toArray]) Tryz.func135 J Tryz.ntmps135 ?_;refine Zg (Zb (Y2 J J ?_));intro b0 hb0;refine Y2 J J ?_;intro b1 hb1;refine Za J (Zf J) (Ze (Zc (Zg (Zb (Za J (Zh (ff J) J) (Za J (Zv (tn J) J 1 J J) (Yk J (tz J) ?_)))))));intro b2 hb2;refine Z2 (tn J) J J 0 J J J J (Ze (Zc (Zg (Zb (Za J (Zh (ff J) J) (Za J (Zj (t1 J) J (Zi 2 J J)) (Yq fn173 J J (fun w _=>sort_any _ w) ?_)))))));refine Za J (Zf J) (Ze (Zc (Zg (Zg (Zb (Za J (Zd J) (Za J (Yi J J) (Ze (Zc (Zu J ?_ ?_))))))))))
 ·intro c1;refine Zg (Zb (Za J (Zf J) (Ze (Zc (Zr (Zl (Z3 J J ?_)))))));simp_all [Y5,eqS];done
 ·intro c1;refine Zo (Zc (Zg (Zb (Za J (Zh (ff J) J) (Za J (Zj (t1 J) J (Zi 0 J J)) (Yq fn93 J J (fun w _=>Sr _ w hi.2.2.1) ?_))))));refine Za J (Zf J) (Ze (Zc (Zg (Zb (Za J (Zh (ff J) J) (Za J (Zj (t1 J) J (Zi 0 J J)) (Yq fn93 J J (fun w _=>Sr _ w hi.2.2.2.1) ?_)))))));refine Za J (Zf J) (Ze (Zc (Zg (Zb (Za J (Zh (ff J) J) (Za J (Zj (t1 J) J (Zi 0 J J)) (Yq fn134 J J (fun w hs=>Pm _ i.ref.params false w (hp.mono (Xx hs))) ?_)))))));refine Za J (Zf J) (Ze (Zc (Zg (Zb (Za J (Zh (ff J) J) (Za J (Zv (tn J) J 0 J J) (Za J (Zd J) (Za J (Ya J J) (Yq fn94 J J (fun w _=>M3 i.ref.ty _ _ w hi.2.2.2.2) ?_)))))))));refine Za J (Zf J) (Ze (Zc (Zg (Zg (Zb (Za J (Zd J) (Za J (Yi J J) (Ze (Zc (Zu J ?_ ?_))))))))))
  ·intro c2;refine Zg (Zg (Zb (Za J (Zh (ff J) J) (Za J (Zj (t1 J) J (Zi 0 J J)) (Za J (S5 J J) (Za J (Zd J) (On J J J ?_ ?_)))))))
   ·intro h1;refine Zm J J J (Zm J J J (Zm J J J (Za J (Zp J J) (Za J (Zd J) (Zm J J J (Zm J J J (Zm J J J (Zm J J J (Za J (Zp J J) (Za J (Zd J) (Zm J J J (Zm J J J (Zm J J J (Zm J J J (Za J (Zp J J) (Za J (Zd J) (Zm J J J (Zm J J J (Zm J J J (Zm J J J (Za J (Zp J J) (Ze (Zc (Yh J (Zg (Zb (Za J (Zf J) (Ze (Zc ?_)))))))))))))))))))))))))))));refine Zr (Zl (Zl (Z3 J J ?_)));simp_all [Y5,eqS];done
   ·intro h1;refine Zk J J J (Zh (ff J) J) (Zk J J J (Zj (t1 J) J (Zi 0 J J)) (Zk J J J (S5 J J) (Za J (Zs J J) (Za J (Zd J) (On J J J ?_ ?_)))))
    ·intro h2;refine Zm J J J (Zm J J J (Zm J J J (Zm J J J (Za J (Zp J J) (Za J (Zd J) (Zm J J J (Zm J J J (Zm J J J (Zm J J J (Za J (Zp J J) (Za J (Zd J) (Zm J J J (Zm J J J (Zm J J J (Zm J J J (Za J (Zp J J) (Ze (Zc (Yh J (Zg (Zb (Za J (Zf J) (Ze (Zc (Zr (Zl (Zl (Z3 J J ?_))))))))))))))))))))))))))));simp_all [Y5,eqS];done
    ·intro h2;refine Zk J J J (Zh (ff J) J) (Zk J J J (Zj (t1 J) J (Zi 0 J J)) (Zk J J J (Zx (ts J) J) (Zk J J J (Ug J J) (Za J (Zs J J) (Za J (Zd J) (Z9 J J J ?_ ?_))))))
     ·intro h3;refine Zm J J J (Zm J J J (Zm J J J (Zm J J J (Za J (Zp J J) (Za J (Zd J) (Zm J J J (Zm J J J (Zm J J J (Zm J J J (Za J (Zp J J) (Ze (Zc (Yh J (Zg (Zb (Za J (Zf J) (Ze (Zc (Zr (Zl (Zl (Z3 J J ?_))))))))))))))))))))));simp_all [Y5,eqS];done
     ·intro h3;refine Zk J J J (Zh (ff J) J) (Zk J J J (Zh (ff J) J) (Zk J J J (Zj (t1 J) J (Zi 0 J J)) (Zk J J J (T3 J J) (Za J (Zs J J) (Za J (Zd J) (On J J J ?_ ?_))))))
      ·intro h4;refine Zm J J J (Zm J J J (Zm J J J (Zm J J J (Za J (Zp J J) (Ze (Zc (Yh J (Zg (Zb (Za J (Zf J) (Ze (Zc (Zr (Zl (Zl (Z3 J J ?_))))))))))))))));simp_all [Y5,eqS];done
      ·intro h4;refine Zk J J J (Zh (ff J) J) (Zk J J J (Zh (ff J) J) (Zk J J J (Zj (t1 J) J (Zi 0 J J)) (Zk J J J (S5 J J) (Za J (Zs J J) (Ze (Zc (Qw J ?_ ?_)))))))
       ·intro c3;refine Zg (Zb (Za J (Zf J) (Ze (Zc (Zr (Zl (Zl (Z3 J J ?_))))))));simp_all [Y5,eqS];done
       ·intro c3;refine Zo (Zc (Zg (Zg (Zb (Za J (Zd J) (Ze (Zc (Zn (Zg (Zb (Za J (Ya J J) (Za J (Zf J) (Ze (Zc (Zu J ?_ ?_)))))))))))))))
        ·intro c4;refine Zg (Zb (Za J (Zh (ff J) J) (Za J (Zj (t1 J) J (Zi 2 J J)) (Za J (Ya J J) (Za J (Zf J) (Ze (Zc (Zr (Zl (Zl (Zl (Z3 J J ?_))))))))))));simp_all [Y5,eqS];done
        ·intro c4;refine Zg (Zb (Za J (Ya J J) (Za J (Zf J) (Ze (Zc (Zu J ?_ ?_))))))
         ·intro c5;refine Zg (Zb (Za J (Zh (ff J) J) (Za J (Zj (t1 J) J (Zi 2 J J)) (Za J (Rq J J) (Za J (Zd J) (Z9 J J J ?_ ?_))))))
          ·intro h5;refine Zk J J J (Zh (ff J) J) (Zk J J J (Zj (t1 J) J (Zi 2 J J)) (Zk J J J (Zh (ff J) J) (Zk J J J (Zj (t1 J) J (Zi 1 J J)) (Zk J J J (Yi J J) (Za J (Zp J J) (Za J (Zf J) (Ze (Zc (Zr (Zl (Zl (Zl (Z3 J J ?_)))))))))))));simp_all [Y5,eqS];done
          ·intro h5;refine Zm J J J (Zm J J J (Zm J J J (Zm J J J (Zm J J J (Za J (Zs J J) (Za J (Zf J) (Ze (Zc (Zr (Zl (Zl (Zl (Z3 J J ?_)))))))))))));simp_all [Y5,eqS];omega
         ·intro c5;refine Zg (Zb (Za J (Ya J J) (Za J (Zf J) (Ze (Zc (Zu J ?_ ?_))))))
          ·intro c6;refine Zg (Zb (Za J (Zh (ff J) J) (Za J (Zj (t1 J) J (Zi 2 J J)) (Za J (Rq J J) (Za J (Zd J) (Z9 J J J ?_ ?_))))))
           ·intro h6;refine Zk J J J (Zh (ff J) J) (Zk J J J (Zj (t1 J) J (Zi 2 J J)) (Zk J J J (Zh (ff J) J) (Zk J J J (Zj (t1 J) J (Zi 1 J J)) (Zk J J J (Zx (ts J) J) (Zk J J J (Yi J J) (Za J (Zp J J) (Za J (Zf J) (Ze (Zc (Zr (Zl (Zl (Zl (Z3 J J ?_))))))))))))));simp_all [Y5,eqS];done
           ·intro h6;refine Zm J J J (Zm J J J (Zm J J J (Zm J J J (Zm J J J (Zm J J J (Za J (Zs J J) (Za J (Zf J) (Ze (Zc (Zr (Zl (Zl (Zl (Z3 J J ?_))))))))))))));simp_all [Y5,eqS];omega
          ·intro c6;refine Zo (Zt (Zc (Zg (Zb (Za J (Zf J) (Ze (Zc (Zr (Zl (Z3 J J ?_))))))))));simp_all [Y5,eqS];done
  ·intro c2;refine Zo (Zc (Zg (Zg (Zb (Za J (Zh (ff J) J) (Za J (Zj (t1 J) J (Zi 2 J J)) (Za J (T3 J J) (Za J (Zd J) (On J J J ?_ ?_)))))))))
   ·intro h7;refine Zm J J J (Zm J J J (Za J (Zp J J) (Ze (Zc (Yh J (Zg (Zb (Za J (Zf J) (Ze (Zc (Zr (Zl (Z3 J J ?_)))))))))))));simp_all [Y5,eqS];omega
   ·intro h7;refine Zk J J J (Zd J) (Zk J J J (Xv J) (Za J (Zs J J) (Ze (Zc (W4 J ?_ ?_)))))
    ·intro c7;refine Zg (Zb (Za J (Zf J) (Ze (Zc (Zr (Zl (Z3 J J ?_)))))));simp_all [Y5,eqS];omega
    ·intro c7;refine Zo (Zc (Zg (Zg (Zb (Za J (Zd J) (Ze (Zc (Zn (Zg (Zb (Za J (Ya J J) (Za J (Zf J) (Ze (Zc (Zu J ?_ ?_)))))))))))))))
     ·intro c8;refine Zg (Zb (Za J (Zh (ff J) J) (Za J (Zj (t1 J) J (Zi 0 J J)) (Za J (Y7 J J) (Za J (Zd J) (Z9 J J J ?_ ?_))))))
      ·intro h8;refine Zk J J J (Zh (ff J) J) (Zk J J J (Zj (t1 J) J (Zi 0 J J)) (Zk J J J (Zx (ts J) J) (Zk J J J (Ya J J) (Za J (Zp J J) (Za J (Zd J) (Z9 J J J ?_ ?_))))))
       ·intro h9;refine Zk J J J (Zh (ff J) J) (Zk J J J (Zh (ff J) J) (Zk J J J (Zj (t1 J) J (Zi 0 J J)) (Zk J J J (Ya J J) (Za J (Zp J J) (Za J (Zd J) (Z9 J J J ?_ ?_))))))
        ·intro h10;refine Zk J J J (Zh (ff J) J) (Zk J J J (Zh (ff J) J) (Zk J J J (Zj (t1 J) J (Zi 0 J J)) (Zk J J J (Y7 J J) (Za J (Zp J J) (Za J (Zf J) (Ze (Zc (Zr (Zl (Zl (Z3 J J ?_)))))))))));simp_all [Y5,eqS];done
        ·intro h10;refine Zm J J J (Zm J J J (Zm J J J (Zm J J J (Za J (Zs J J) (Za J (Zf J) (Ze (Zc (Zr (Zl (Zl (Z3 J J ?_)))))))))));simp_all [Y5,eqS];done
       ·intro h9;refine Zm J J J (Zm J J J (Zm J J J (Zm J J J (Za J (Zs J J) (Za J (Zd J) (Zm J J J (Zm J J J (Zm J J J (Zm J J J (Za J (Zs J J) (Za J (Zf J) (Ze (Zc (Zr (Zl (Zl (Z3 J J ?_)))))))))))))))));simp_all [Y5,eqS];done
      ·intro h8;refine Zm J J J (Zm J J J (Zm J J J (Zm J J J (Za J (Zs J J) (Za J (Zd J) (Zm J J J (Zm J J J (Zm J J J (Zm J J J (Za J (Zs J J) (Za J (Zd J) (Zm J J J (Zm J J J (Zm J J J (Zm J J J (Za J (Zs J J) (Za J (Zf J) (Ze (Zc (Zr (Zl (Zl (Z3 J J ?_)))))))))))))))))))))));simp_all [Y5,eqS];done
     ·intro c8;refine Zg (Zb (Za J (Ya J J) (Za J (Zf J) (Ze (Zc (Zu J ?_ ?_))))))
      ·intro c9;refine Zg (Zb (Za J (Zd J) (Za J (Zd J) (Ub J J J ?_ ?_))))
       ·intro h11;refine Zk J J J (Zh (ff J) J) (Zk J J J (Zj (t1 J) J (Zi 0 J J)) (Zk J J J (Zx (ts J) J) (Zk J J J (Ya J J) (Za J (Zp J J) (Za J (Zd J) (Z9 J J J ?_ ?_))))))
        ·intro h12;refine Zk J J J (Zd J) (Za J (Zp J J) (Za J (Zf J) (Ze (Zc (Zr (Zl (Zl (Z3 J J ?_))))))));simp_all [Y5,eqS];done
        ·intro h12;refine Zm J J J (Za J (Zs J J) (Za J (Zf J) (Ze (Zc (Zr (Zl (Zl (Z3 J J ?_))))))));simp_all [Y5,eqS];done
       ·intro h11;refine Zm J J J (Zm J J J (Zm J J J (Zm J J J (Za J (Zs J J) (Za J (Zd J) (Zm J J J (Za J (Zs J J) (Za J (Zf J) (Ze (Zc (Zr (Zl (Zl (Z3 J J ?_))))))))))))));simp_all [Y5,eqS];done
      ·intro c9;refine Zo (Zt (Zc (Zg (Zb (Za J (Zd J) (Za J (Zd J) (Ub J J J ?_ ?_)))))))
       ·intro h13;refine Zk J J J (Zh (ff J) J) (Zk J J J (Zj (t1 J) J (Zi 0 J J)) (Zk J J J (Zx (ts J) J) (Zk J J J (Xj J J) (Za J (Zp J J) (Za J (Zd J) (Z9 J J J ?_ ?_))))))
        ·intro h14;refine Zk J J J (Zd J) (Za J (Zp J J) (Za J (Zd J) (Ub J J J ?_ ?_)))
         ·intro h15;refine Zk J J J (Zd J) (Za J (Zp J J) (Za J (Zf J) (Ze (Zc (Zr (Z3 J J ?_))))));simp only [Y5];(repeat' split)<;>first | (exfalso;omega) | (simp_all [eqS];done) | (simp_all [eqS];omega)
         ·intro h15;refine Zm J J J (Za J (Zs J J) (Za J (Zf J) (Ze (Zc (Zr (Z3 J J ?_))))));simp_all [Y5,eqS];omega
        ·intro h14;refine Zm J J J (Za J (Zs J J) (Za J (Zd J) (Zm J J J (Za J (Zs J J) (Za J (Zf J) (Ze (Zc (Zr (Z3 J J ?_)))))))));simp only [Y5];(repeat' split)<;>first | (exfalso;omega) | (simp_all [eqS];done) | (simp_all [eqS];omega)
       ·intro h13;refine Zm J J J (Zm J J J (Zm J J J (Zm J J J (Za J (Zs J J) (Za J (Zd J) (Zm J J J (Za J (Zs J J) (Za J (Zd J) (Zm J J J (Za J (Zs J J) (Za J (Zf J) (Ze (Zc (Zr (Z3 J J ?_)))))))))))))));simp_all [Y5,eqS];omega
def Tt (s:ByteArray):ByteArray:=W1 (s.size:Nat) 1++s
def flagS (b:Bool):ByteArray:=if b then W1 1 1 else W1 0 1
def Vv (t:Ty):ByteArray:=if t.kind=3 then W1 3 1++Tt t.cls else W1 t.kind 1
def P4 (l:List Ty):ByteArray:=l.foldl (fun s t=>s++Vv t) (W1 (l.length:Nat) 1)
def Uj (i:Ins):ByteArray :=
 if Xk i.op=1 then W1 i.op 1++W1 i.n 8
 else if Xk i.op=2 then W1 i.op 1++W1 i.n 1
 else if Xk i.op=3 then W1 i.op 1++W1 i.n 2
 else if Xk i.op=4 then W1 i.op 1++Tt i.ref.cls
 else if Xk i.op=5 then W1 i.op 1++Tt i.ref.cls++Tt i.ref.name++Vv i.ref.ty
 else if Xk i.op=6 then W1 i.op 1++Tt i.ref.cls++Tt i.ref.name++P4 i.ref.params++Vv i.ref.ty
 else W1 i.op 1
theorem X6 (x:Int) (k:Nat):(W1 x k).size=k:=by
 show (lowL (u64 x) k).toArray.size=k;rw [List.size_toArray,Q5]
theorem Tx (s:ByteArray):(Tt s).size=1+s.size:=by unfold Tt;rw [ByteArray.size_append,X6]
theorem flagS_size (b:Bool):(flagS b).size=1:=by unfold flagS;split<;>rw [X6]
theorem Q2 (t:Ty):(Vv t).size≤2+t.cls.size:=by
 unfold Vv;split
 ·rw [ByteArray.size_append,X6,Tx];omega
 ·rw [X6];omega
theorem foldl_size {α:Type} (f:α→ByteArray) (c:Nat):∀ (l:List α) (s:ByteArray),(∀ x ∈ l,(f x).size≤c)→(l.foldl (fun s x=>s++f x) s).size≤s.size+l.length*c
 | [],s,_=>by simp
 | x::r,s,h=>by
  have ih:=foldl_size f c r (s++f x) (fun y hy=>h y (List.mem_cons_of_mem _ hy));have hx:=h x List.mem_cons_self;rw [ByteArray.size_append] at ih;simp only [List.foldl_cons,List.length_cons,Nat.add_mul,Nat.one_mul];omega
theorem typesS_le (l:List Ty) (h:∀ t ∈ l,t.cls.size≤12):(P4 l).size≤1+l.length*14:=by
 have:=foldl_size Vv 14 l (W1 (l.length:Nat) 1) (fun t ht=>by have:=Q2 t;have:=h t ht;omega);rw [X6] at this;exact this
end
end Go.Proofs.YtpofmnfkdkmieaaGreat
