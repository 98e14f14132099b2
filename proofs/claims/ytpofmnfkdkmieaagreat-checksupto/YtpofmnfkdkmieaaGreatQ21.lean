/- What is proved here: two copies of a class, with all their li -/
import Derived.Test.YtpofmnfkdkmieaaGreatQ15
import Derived.Test.YtpofmnfkdkmieaaGreatQ20
set_option linter.unusedVariables false
set_option linter.unusedSimpArgs false
namespace Go.Proofs.YtpofmnfkdkmieaaGreat
section
open Go Go.RowKit At E
structure RowsAt {α:Type} (El:World→Value→List α→Prop) (w:World) (v:Value) (rows:List (List α)):Prop where
 is:∃ p c,v=.slice p rows.length c∧rows.length≤1099511627776∧∀ i l,rows[i]?=some l→∃ g rv,p=some ⟨g,0,none⟩∧g<w.heap.size∧w.cell? ⟨g,0+i*1,none⟩=some rv∧El w rv l
theorem Pt {α β:Type} {El:World→Value→List α→Prop} {w:World} {e' e sz:Nat} {cell:β→List Value} {v:Value} {rows:List (List β × Value)} (f:List β→List α) (h:(U5 e' e sz cell v rows).A w) (hl:rows.length≤1099511627776) (hEl:∀ r ∈ rows,w.ownsRow 0 e sz r.2 r.1.length (r.1.flatMap cell)→El w r.2 (f r.1)):RowsAt El w v (rows.map fun r=>f r.1):=by
 obtain ⟨p,c,rfl,hp⟩:=Xr h.1;refine ⟨p,c,by rw [List.length_map],by rw [List.length_map];exact hl,fun i l hi=>?_⟩;rw [List.getElem?_map] at hi;cases hr:rows[i]? with
 | none=>rw [hr] at hi;cases hi
 | some r =>
  rw [hr] at hi;cases hi
  have hlt:i<rows.length:=by
   rcases Nat.lt_or_ge i rows.length with h' | h'
   ·exact h'
   ·rw [List.getElem?_eq_none h'] at hr;cases hr
  obtain ⟨g,rfl⟩:=hp (by omega);have hc:=h.1.cells (g:=g) rfl i r.2 (by rw [List.getElem?_map,hr];rfl);rw [Addr.add_lit] at hc;have hm:=List.mem_of_getElem? hr;exact ⟨g,r.2,J,(h.1.lt g J).2,by rw [Nat.mul_one];exact hc,hEl r hm (bigA_mem h.2.1 r hm)⟩
structure LsAt (w:World) (b:Nat) (k:Lx) (LT:List (List Ty)) (LI:List (List Ins)) (LF:List (List Fld)) (LM:List (List Me)) (LH:List (List Hd)) (LR:List (List Fr)):Prop where
 cells:∀ j x,k.C[j]?=some x→w.cell? ⟨b,j,none⟩=some x
 lt:b<w.heap.size
 t:RowsAt Yu w k.vT LT
 i:RowsAt Su w k.vI LI
 f:RowsAt FdsAt w k.vF LF
 m:RowsAt Mn w k.vM LM
 h:RowsAt HdsAt w k.vH LH
 r:RowsAt Pg w k.vR LR
set_option maxHeartbeats 8000000 in
theorem sameLists_any (a b:Nat) (ka kb:Lx) (LT:List (List Ty)) (LI:List (List Ins)) (LF:List (List Fld)) (LM:List (List Me)) (LH:List (List Hd)) (LR:List (List Fr)) (w:World) (hka:LsAt w a ka LT LI LF LM LH LR) (hkb:LsAt w b kb LT LI LF LM LH LR):Vc Tryz.prog 46 #[pt a,pt b] w (.bool true):=by
 obtain ⟨vTa,vIa,vFa,vMa,vHa,vRa,s1,s2,s3,s4,s5,s6⟩:=ka;have hac:=hka.cells;have hal:=hka.lt;obtain ⟨pTa,cTa,hvTa,hnTa,hyTa⟩:=hka.t.is;obtain ⟨pIa,cIa,hvIa,hnIa,hyIa⟩:=hka.i.is;obtain ⟨pFa,cFa,hvFa,hnFa,hyFa⟩:=hka.f.is;obtain ⟨pMa,cMa,hvMa,hnMa,hyMa⟩:=hka.m.is;obtain ⟨pHa,cHa,hvHa,hnHa,hyHa⟩:=hka.h.is;obtain ⟨pRa,cRa,hvRa,hnRa,hyRa⟩:=hka.r.is;clear hka;dsimp only at hvTa hnTa hyTa hvIa hnIa hyIa hvFa hnFa hyFa hvMa hnMa hyMa hvHa hnHa hyHa hvRa hnRa hyRa hac;subst hvTa;subst hvIa;subst hvFa;subst hvMa;subst hvHa;subst hvRa;replace hyTa:Hid _:=hyTa;replace hyIa:Hid _:=hyIa;replace hyFa:Hid _:=hyFa;replace hyMa:Hid _:=hyMa;replace hyHa:Hid _:=hyHa;replace hyRa:Hid _:=hyRa;replace hac:∀ j y,(bkC (.slice pTa LT.length cTa) (.slice pIa LI.length cIa) (.slice pFa LF.length cFa) (.slice pMa LM.length cMa) (.slice pHa LH.length cHa) (.slice pRa LR.length cRa) W0)[j]?=some y→w.cell? ⟨a,j,none⟩=some y:=hac;obtain ⟨vTb,vIb,vFb,vMb,vHb,vRb,t1x,t2x,t3x,t4x,t5x,t6x⟩:=kb;have hbc:=hkb.cells;have hbl:=hkb.lt;obtain ⟨pTb,cTb,hvTb,hnTb,hyTb⟩:=hkb.t.is;obtain ⟨pIb,cIb,hvIb,hnIb,hyIb⟩:=hkb.i.is;obtain ⟨pFb,cFb,hvFb,hnFb,hyFb⟩:=hkb.f.is;obtain ⟨pMb,cMb,hvMb,hnMb,hyMb⟩:=hkb.m.is;obtain ⟨pHb,cHb,hvHb,hnHb,hyHb⟩:=hkb.h.is;obtain ⟨pRb,cRb,hvRb,hnRb,hyRb⟩:=hkb.r.is;clear hkb;dsimp only at hvTb hnTb hyTb hvIb hnIb hyIb hvFb hnFb hyFb hvMb hnMb hyMb hvHb hnHb hyHb hvRb hnRb hyRb hbc;subst hvTb;subst hvIb;subst hvFb;subst hvMb;subst hvHb;subst hvRb;replace hyTb:Hid _:=hyTb;replace hyIb:Hid _:=hyIb;replace hyFb:Hid _:=hyFb;replace hyMb:Hid _:=hyMb;replace hyHb:Hid _:=hyHb;replace hyRb:Hid _:=hyRb;replace hbc:∀ j y,(bkC (.slice pTb LT.length cTb) (.slice pIb LI.length cIb) (.slice pFb LF.length cFb) (.slice pMb LM.length cMb) (.slice pHb LH.length cHb) (.slice pRb LR.length cRb) W0)[j]?=some y→w.cell? ⟨b,j,none⟩=some y:=hbc;refine Xf (args:=[pt a,pt b]) Tryz.func46 J Tryz.ntmps46 ?_;refine Zg (Zb (Za J (Zf J) (Ze (Zc (Zg (Zg (Zb (Za J (Zf J) (Ze (Zc (Zn ?_)))))))))));refine Yf (Yg (X:=Nat) (fun i1=>[(0,pt a),(1,pt b),(5,iN i1)]) _ _ (fun i1=>[]) (fun i1=>Asr.none) (fun i1=>i1≤LT.length) (fun i1=>LT.length - i1) (0) (Nat.zero_le _) ?_) ⟨J,J,J,trivial⟩;intro i1 hI;refine Zg (Zg (Zb (Za J (Zd J) (Za J (Zd J) (Za J (Zw J) (Za J (Zh (ff J) J) (Za J (Zj (t1 J) J (Z6 (hac 0 _ J) hal)) (Za J (Zx (ts J) J) (Za J (Yi J J) (Ze (Zc (Zu J ?_ ?_))))))))))))
 ·intro c1;have hiT:i1<LT.length:=by omega
  obtain ⟨lT,hlT⟩:∃ u,LT[i1]?=some u:=⟨_,List.getElem?_eq_getElem hiT⟩;obtain ⟨gTa,rTa,hgTa,hbTa,hrTa,haTa⟩:=hyTa.out i1 lT hlT;subst hgTa;obtain ⟨gTb,rTb,hgTb,hbTb,hrTb,haTb⟩:=hyTb.out i1 lT hlT;subst hgTb;refine Zo (Zc (Zg (Zn (Zg (Ws X2 (by kernel_rfl) ?_)))));refine Zq J (Zd J) (Zq J (Zw J) (Zq J (Zh (ff J) J) (Zq J (Zj (t1 J) J (Z6 (hac 0 _ J) hal)) (Zq J (Zd J) (Zq J (Yo (ts J) J J ?_) ?_)))))
  ·omega
  refine Zq J (Zj (t1 J) J (Z6 hrTa hbTa)) (Zq J (Zd J) (Zq J (Zw J) (Zq J (Zh (ff J) J) (Zq J (Zj (t1 J) J (Z6 (hbc 0 _ J) hbl)) (Zq J (Zd J) (Zq J (Yo (ts J) J J ?_) ?_))))))
  ·omega
  refine Zq J (Zj (t1 J) J (Z6 hrTb hbTb)) (Sf fn79 J J (fun w hs=>U9 _ _ lT w (haTa.mono (Xx hs)) (haTb.mono (Xx hs))) ?_);refine Zq J (Zf J) (Wi (Zc (Zg (Zb (Za J (Zd J) (Za J (Xv J) (Ze (Zc (Xn J (Zo (Zt (Zc (Zb (Za J (Zd J) ?_))))))))))))));refine Za J (Yn J J ?_) ?_;omega;refine Za J (Zf J) (Ze ?_);refine Z1 (i1+1) ?_ (by omega) 0 J (J) ⟨J,J,J,trivial⟩;omega
 ·intro c1;refine Yd (Yc (Z5 (Yb (Zc (Zg (Zg (Zb (Za J (Zf J) (Ze (Zc (Zn ?_)))))))))));refine Yf (Yg (X:=Nat) (fun i2=>[(0,pt a),(1,pt b),(7,iN i2)]) _ _ (fun i2=>[]) (fun i2=>Asr.none) (fun i2=>i2≤LI.length) (fun i2=>LI.length - i2) (0) (Nat.zero_le _) ?_) ⟨J,J,J,trivial⟩;intro i2 hI;refine Zg (Zg (Zb (Za J (Zd J) (Za J (Zd J) (Za J (Zw J) (Za J (Zh (ff J) J) (Za J (Zj (t1 J) J (Z6 (hac 1 _ J) hal)) (Za J (Zx (ts J) J) (Za J (Yi J J) (Ze (Zc (Zu J ?_ ?_))))))))))))
  ·intro c3;have hiI:i2<LI.length:=by omega
   obtain ⟨lI,hlI⟩:∃ u,LI[i2]?=some u:=⟨_,List.getElem?_eq_getElem hiI⟩;obtain ⟨gIa,rIa,hgIa,hbIa,hrIa,haIa⟩:=hyIa.out i2 lI hlI;subst hgIa;obtain ⟨gIb,rIb,hgIb,hbIb,hrIb,haIb⟩:=hyIb.out i2 lI hlI;subst hgIb;refine Zo (Zc (Zg (Zn (Zg (Ws X2 (by kernel_rfl) ?_)))));refine Zq J (Zd J) (Zq J (Zw J) (Zq J (Zh (ff J) J) (Zq J (Zj (t1 J) J (Z6 (hac 1 _ J) hal)) (Zq J (Zd J) (Zq J (Yo (ts J) J J ?_) ?_)))))
   ·omega
   refine Zq J (Zj (t1 J) J (Z6 hrIa hbIa)) (Zq J (Zd J) (Zq J (Zw J) (Zq J (Zh (ff J) J) (Zq J (Zj (t1 J) J (Z6 (hbc 1 _ J) hbl)) (Zq J (Zd J) (Zq J (Yo (ts J) J J ?_) ?_))))))
   ·omega
   refine Zq J (Zj (t1 J) J (Z6 hrIb hbIb)) (Sf fn80 J J (fun w hs=>sameInstrs_any _ _ lI w (haIa.mono (Xx hs)) (haIb.mono (Xx hs))) ?_);refine Zq J (Zf J) (Wi (Zc (Zg (Zb (Za J (Zd J) (Za J (Xv J) (Ze (Zc (Xn J (Zo (Zt (Zc (Zb (Za J (Zd J) ?_))))))))))))));refine Za J (Yn J J ?_) ?_;omega;refine Za J (Zf J) (Ze ?_);refine Z1 (i2+1) ?_ (by omega) 0 J (J) ⟨J,J,J,trivial⟩;omega
  ·intro c3;refine Yd (Yc (Z5 (Yb (Zc (Zg (Zg (Zb (Za J (Zf J) (Ze (Zc (Zn ?_)))))))))));refine Yf (Yg (X:=Nat) (fun i3=>[(0,pt a),(1,pt b),(9,iN i3)]) _ _ (fun i3=>[]) (fun i3=>Asr.none) (fun i3=>i3≤LF.length) (fun i3=>LF.length - i3) (0) (Nat.zero_le _) ?_) ⟨J,J,J,trivial⟩;intro i3 hI;refine Zg (Zg (Zb (Za J (Zd J) (Za J (Zd J) (Za J (Zw J) (Za J (Zh (ff J) J) (Za J (Zj (t1 J) J (Z6 (hac 2 _ J) hal)) (Za J (Zx (ts J) J) (Za J (Yi J J) (Ze (Zc (Zu J ?_ ?_))))))))))))
   ·intro c5;have hiF:i3<LF.length:=by omega
    obtain ⟨lF,hlF⟩:∃ u,LF[i3]?=some u:=⟨_,List.getElem?_eq_getElem hiF⟩;obtain ⟨gFa,rFa,hgFa,hbFa,hrFa,haFa⟩:=hyFa.out i3 lF hlF;subst hgFa;obtain ⟨gFb,rFb,hgFb,hbFb,hrFb,haFb⟩:=hyFb.out i3 lF hlF;subst hgFb;obtain ⟨qFa,dFa,heFa,hdFa,hfFa⟩:=haFa.is;subst heFa;replace hfFa:Hid _:=hfFa;obtain ⟨qFb,dFb,heFb,hdFb,hfFb⟩:=haFb.is;subst heFb;replace hfFb:Hid _:=hfFb;refine Zo (Zc (Zg (Zn (Zg (Zb (Za J (Zf J) (Ze (Zc (Zn ?_)))))))));refine Yf (Yg (X:=Nat) (fun k3=>[(0,pt a),(1,pt b),(9,iN i3),(10,iN k3)]) _ _ (fun k3=>[]) (fun k3=>Asr.none) (fun k3=>k3≤lF.length) (fun k3=>lF.length - k3) (0) (Nat.zero_le _) ?_) ⟨J,J,J,J,trivial⟩;intro k3 hI;refine Zg (Zg (Zb (Za J (Zd J) (Za J (Zd J) (Za J (Zw J) (Za J (Zh (ff J) J) (Za J (Zj (t1 J) J (Z6 (hac 2 _ J) hal)) (Za J (Zd J) (Za J (Yo (ts J) J J ?_) ?_)))))))))
    ·omega
    refine Za J (Zj (t1 J) J (Z6 hrFa hbFa)) (Za J (Zx (ts J) J) (Za J (Yi J J) (Ze (Zc (Zu J ?_ ?_)))))
    ·intro c6;have hjF:k3<lF.length:=by omega
     obtain ⟨yF,hyF⟩:∃ u,lF[k3]?=some u:=⟨_,List.getElem?_eq_getElem hjF⟩;obtain ⟨bFa,oFa,zFa,hpFa,hkFa,⟨hzFa, -⟩,hcFa⟩:=hfFa.out k3 yF hyF;subst hpFa;subst hzFa;obtain ⟨bFb,oFb,zFb,hpFb,hkFb,⟨hzFb, -⟩,hcFb⟩:=hfFb.out k3 yF hyF;subst hpFb;subst hzFb;refine Zo (Zc (Zg (Zn (Zg (Ws X2 (by kernel_rfl) ?_)))));refine Zq J (Zd J) (Zq J (Zw J) (Zq J (Zh (ff J) J) (Zq J (Zj (t1 J) J (Z6 (hac 2 _ J) hal)) (Zq J (Zd J) (Zq J (Yo (ts J) J J ?_) ?_)))))
     ·omega
     refine Zq J (Zj (t1 J) J (Z6 hrFa hbFa)) (Zq J (Zd J) (Zq J (Yo (ts J) J J ?_) ?_))
     ·omega
     refine Zq J (Yj (tn J) J (Xl hcFa hkFa) J) (Zq J (Zd J) (Zq J (Zw J) (Zq J (Zh (ff J) J) (Zq J (Zj (t1 J) J (Z6 (hbc 2 _ J) hbl)) (Zq J (Zd J) (Zq J (Yo (ts J) J J ?_) ?_))))))
     ·omega
     refine Zq J (Zj (t1 J) J (Z6 hrFb hbFb)) (Zq J (Zd J) (Zq J (Yo (ts J) J J ?_) ?_))
     ·omega
     refine Zq J (Yj (tn J) J (Xl hcFb hkFb) J) (Zq J (Ex_neqFld0 J J) (Wi (Zc (Xn J (Zo (Zt (Zc (Zb (Za J (Zd J) ?_)))))))));refine Za J (Yn J J ?_) ?_;omega;refine Za J (Zf J) (Ze ?_);refine Z1 (k3+1) ?_ (by omega) 0 J (J) ⟨J,J,J,J,trivial⟩;omega
    ·intro c6;refine Yd (Yc (Z5 (Yb (Zt (Zc (Zb (Za J (Zd J) ?_)))))));refine Za J (Yn J J ?_) ?_;omega;refine Za J (Zf J) (Ze ?_);refine Z1 (i3+1) ?_ (by omega) 0 J (J) ⟨J,J,J,trivial⟩;omega
   ·intro c5;refine Yd (Yc (Z5 (Yb (Zc (Zg (Zg (Zb (Za J (Zf J) (Ze (Zc (Zn ?_)))))))))));refine Yf (Yg (X:=Nat) (fun i5=>[(0,pt a),(1,pt b),(11,iN i5)]) _ _ (fun i5=>[]) (fun i5=>Asr.none) (fun i5=>i5≤LH.length) (fun i5=>LH.length - i5) (0) (Nat.zero_le _) ?_) ⟨J,J,J,trivial⟩;intro i5 hI;refine Zg (Zg (Zb (Za J (Zd J) (Za J (Zd J) (Za J (Zw J) (Za J (Zh (ff J) J) (Za J (Zj (t1 J) J (Z6 (hac 4 _ J) hal)) (Za J (Zx (ts J) J) (Za J (Yi J J) (Ze (Zc (Zu J ?_ ?_))))))))))))
    ·intro c8;have hiH:i5<LH.length:=by omega
     obtain ⟨lH,hlH⟩:∃ u,LH[i5]?=some u:=⟨_,List.getElem?_eq_getElem hiH⟩;obtain ⟨gHa,rHa,hgHa,hbHa,hrHa,haHa⟩:=hyHa.out i5 lH hlH;subst hgHa;obtain ⟨gHb,rHb,hgHb,hbHb,hrHb,haHb⟩:=hyHb.out i5 lH hlH;subst hgHb;obtain ⟨qHa,dHa,heHa,hdHa,hfHa⟩:=haHa.is;subst heHa;replace hfHa:Hid _:=hfHa;obtain ⟨qHb,dHb,heHb,hdHb,hfHb⟩:=haHb.is;subst heHb;replace hfHb:Hid _:=hfHb;refine Zo (Zc (Zg (Zn (Zg (Zb (Za J (Zf J) (Ze (Zc (Zn ?_)))))))));refine Yf (Yg (X:=Nat) (fun k5=>[(0,pt a),(1,pt b),(11,iN i5),(12,iN k5)]) _ _ (fun k5=>[]) (fun k5=>Asr.none) (fun k5=>k5≤lH.length) (fun k5=>lH.length - k5) (0) (Nat.zero_le _) ?_) ⟨J,J,J,J,trivial⟩;intro k5 hI;refine Zg (Zg (Zb (Za J (Zd J) (Za J (Zd J) (Za J (Zw J) (Za J (Zh (ff J) J) (Za J (Zj (t1 J) J (Z6 (hac 4 _ J) hal)) (Za J (Zd J) (Za J (Yo (ts J) J J ?_) ?_)))))))))
     ·omega
     refine Za J (Zj (t1 J) J (Z6 hrHa hbHa)) (Za J (Zx (ts J) J) (Za J (Yi J J) (Ze (Zc (Zu J ?_ ?_)))))
     ·intro c9;have hjH:k5<lH.length:=by omega
      obtain ⟨yH,hyH⟩:∃ u,lH[k5]?=some u:=⟨_,List.getElem?_eq_getElem hjH⟩;obtain ⟨bHa,oHa,zHa,hpHa,hkHa,⟨hzHa, -⟩,hcHa⟩:=hfHa.out k5 yH hyH;subst hpHa;subst hzHa;obtain ⟨bHb,oHb,zHb,hpHb,hkHb,⟨hzHb, -⟩,hcHb⟩:=hfHb.out k5 yH hyH;subst hpHb;subst hzHb;refine Zo (Zc (Zg (Zn (Zg (Ws X2 (by kernel_rfl) ?_)))));refine Zq J (Zd J) (Zq J (Zw J) (Zq J (Zh (ff J) J) (Zq J (Zj (t1 J) J (Z6 (hac 4 _ J) hal)) (Zq J (Zd J) (Zq J (Yo (ts J) J J ?_) ?_)))))
      ·omega
      refine Zq J (Zj (t1 J) J (Z6 hrHa hbHa)) (Zq J (Zd J) (Zq J (Yo (ts J) J J ?_) ?_))
      ·omega
      refine Zq J (Yj (tn J) J (Xl hcHa hkHa) J) (Zq J (Zd J) (Zq J (Zw J) (Zq J (Zh (ff J) J) (Zq J (Zj (t1 J) J (Z6 (hbc 4 _ J) hbl)) (Zq J (Zd J) (Zq J (Yo (ts J) J J ?_) ?_))))))
      ·omega
      refine Zq J (Zj (t1 J) J (Z6 hrHb hbHb)) (Zq J (Zd J) (Zq J (Yo (ts J) J J ?_) ?_))
      ·omega
      refine Zq J (Yj (tn J) J (Xl hcHb hkHb) J) (Zq J (Ex_neqHd0 J J) (Wi (Zc (Xn J (Zo (Zt (Zc (Zb (Za J (Zd J) ?_)))))))));refine Za J (Yn J J ?_) ?_;omega;refine Za J (Zf J) (Ze ?_);refine Z1 (k5+1) ?_ (by omega) 0 J (J) ⟨J,J,J,J,trivial⟩;omega
     ·intro c9;refine Yd (Yc (Z5 (Yb (Zt (Zc (Zb (Za J (Zd J) ?_)))))));refine Za J (Yn J J ?_) ?_;omega;refine Za J (Zf J) (Ze ?_);refine Z1 (i5+1) ?_ (by omega) 0 J (J) ⟨J,J,J,trivial⟩;omega
    ·intro c8;refine Yd (Yc (Z5 (Yb (Zc (Zg (Zg (Zb (Za J (Zf J) (Ze (Zc (Zn ?_)))))))))));refine Yf (Yg (X:=Nat) (fun i7=>[(0,pt a),(1,pt b),(13,iN i7)]) _ _ (fun i7=>[]) (fun i7=>Asr.none) (fun i7=>i7≤LM.length) (fun i7=>LM.length - i7) (0) (Nat.zero_le _) ?_) ⟨J,J,J,trivial⟩;intro i7 hI;refine Zg (Zg (Zb (Za J (Zd J) (Za J (Zd J) (Za J (Zw J) (Za J (Zh (ff J) J) (Za J (Zj (t1 J) J (Z6 (hac 3 _ J) hal)) (Za J (Zx (ts J) J) (Za J (Yi J J) (Ze (Zc (Zu J ?_ ?_))))))))))))
     ·intro c11;have hiM:i7<LM.length:=by omega
      obtain ⟨lM,hlM⟩:∃ u,LM[i7]?=some u:=⟨_,List.getElem?_eq_getElem hiM⟩;obtain ⟨gMa,rMa,hgMa,hbMa,hrMa,haMa⟩:=hyMa.out i7 lM hlM;subst hgMa;obtain ⟨gMb,rMb,hgMb,hbMb,hrMb,haMb⟩:=hyMb.out i7 lM hlM;subst hgMb;obtain ⟨qMa,dMa,heMa,hdMa,hfMa⟩:=haMa.is;subst heMa;replace hfMa:Hid _:=hfMa;obtain ⟨qMb,dMb,heMb,hdMb,hfMb⟩:=haMb.is;subst heMb;replace hfMb:Hid _:=hfMb;refine Zo (Zc (Zg (Zn (Zg (Zb (Za J (Zf J) (Ze (Zc (Zn ?_)))))))));refine Yf (Yg (X:=Nat) (fun k7=>[(0,pt a),(1,pt b),(13,iN i7),(14,iN k7)]) _ _ (fun k7=>[]) (fun k7=>Asr.none) (fun k7=>k7≤lM.length) (fun k7=>lM.length - k7) (0) (Nat.zero_le _) ?_) ⟨J,J,J,J,trivial⟩;intro k7 hI;refine Zg (Zg (Zb (Za J (Zd J) (Za J (Zd J) (Za J (Zw J) (Za J (Zh (ff J) J) (Za J (Zj (t1 J) J (Z6 (hac 3 _ J) hal)) (Za J (Zd J) (Za J (Yo (ts J) J J ?_) ?_)))))))))
      ·omega
      refine Za J (Zj (t1 J) J (Z6 hrMa hbMa)) (Za J (Zx (ts J) J) (Za J (Yi J J) (Ze (Zc (Zu J ?_ ?_)))))
      ·intro c12;have hjM:k7<lM.length:=by omega
       obtain ⟨yM,hyM⟩:∃ u,lM[k7]?=some u:=⟨_,List.getElem?_eq_getElem hjM⟩;obtain ⟨bMa,oMa,zMa,hpMa,hkMa,⟨m1a,m2a,m3a,m4a,hzMa,hma⟩,hcMa⟩:=hfMa.out k7 yM hyM;subst hpMa;subst hzMa;obtain ⟨bMb,oMb,zMb,hpMb,hkMb,⟨m1b,m2b,m3b,m4b,hzMb,hmb⟩,hcMb⟩:=hfMb.out k7 yM hyM;subst hpMb;subst hzMb;refine Zo (Zc (Zg (Zn (Zg (Ws X2 (by kernel_rfl) ?_)))));refine Zq J (Zd J) (Zq J (Zw J) (Zq J (Zh (ff J) J) (Zq J (Zj (t1 J) J (Z6 (hac 3 _ J) hal)) (Zq J (Zd J) (Zq J (Yo (ts J) J J ?_) ?_)))))
       ·omega
       refine Zq J (Zj (t1 J) J (Z6 hrMa hbMa)) (Zq J (Zd J) (Zq J (Yo (ts J) J J ?_) ?_))
       ·omega
       refine Zq J (Yj (tn J) J (Xl hcMa hkMa) J) (Zq J (Zd J) (Zq J (Zw J) (Zq J (Zh (ff J) J) (Zq J (Zj (t1 J) J (Z6 (hbc 3 _ J) hbl)) (Zq J (Zd J) (Zq J (Yo (ts J) J J ?_) ?_))))))
       ·omega
       refine Zq J (Zj (t1 J) J (Z6 hrMb hbMb)) (Zq J (Zd J) (Zq J (Yo (ts J) J J ?_) ?_))
       ·omega
       refine Zq J (Yj (tn J) J (Xl hcMb hkMb) J) (Sf fn53 J J (fun w hs=>P9 yM _ _ _ _ _ _ _ _ w (hma.mono (Xx hs)) (hmb.mono (Xx hs))) ?_);refine Zq J (Zf J) (Wi (Zc (Zg (Zb (Za J (Zd J) (Za J (Xv J) (Ze (Zc (Xn J (Zo (Zt (Zc (Zb (Za J (Zd J) ?_))))))))))))));refine Za J (Yn J J ?_) ?_;omega;refine Za J (Zf J) (Ze ?_);refine Z1 (k7+1) ?_ (by omega) 0 J (J) ⟨J,J,J,J,trivial⟩;omega
      ·intro c12;refine Yd (Yc (Z5 (Yb (Zt (Zc (Zb (Za J (Zd J) ?_)))))));refine Za J (Yn J J ?_) ?_;omega;refine Za J (Zf J) (Ze ?_);refine Z1 (i7+1) ?_ (by omega) 0 J (J) ⟨J,J,J,trivial⟩;omega
     ·intro c11;refine Yd (Yc (Z5 (Yb (Zc (Zg (Zg (Zb (Za J (Zf J) (Ze (Zc (Zn ?_)))))))))));refine Yf (Yg (X:=Nat) (fun i9=>[(0,pt a),(1,pt b),(16,iN i9)]) _ _ (fun i9=>[]) (fun i9=>Asr.none) (fun i9=>i9≤LR.length) (fun i9=>LR.length - i9) (0) (Nat.zero_le _) ?_) ⟨J,J,J,trivial⟩;intro i9 hI;refine Zg (Zg (Zb (Za J (Zd J) (Za J (Zd J) (Za J (Zw J) (Za J (Zh (ff J) J) (Za J (Zj (t1 J) J (Z6 (hac 5 _ J) hal)) (Za J (Zx (ts J) J) (Za J (Yi J J) (Ze (Zc (Zu J ?_ ?_))))))))))))
      ·intro c14;have hiR:i9<LR.length:=by omega
       obtain ⟨lR,hlR⟩:∃ u,LR[i9]?=some u:=⟨_,List.getElem?_eq_getElem hiR⟩;obtain ⟨gRa,rRa,hgRa,hbRa,hrRa,haRa⟩:=hyRa.out i9 lR hlR;subst hgRa;obtain ⟨gRb,rRb,hgRb,hbRb,hrRb,haRb⟩:=hyRb.out i9 lR hlR;subst hgRb;obtain ⟨qRa,dRa,heRa,hdRa,hfRa⟩:=haRa.is;subst heRa;replace hfRa:Hid _:=hfRa;obtain ⟨qRb,dRb,heRb,hdRb,hfRb⟩:=haRb.is;subst heRb;replace hfRb:Hid _:=hfRb;refine Zo (Zc (Zg (Zn (Zg (Zb (Za J (Zf J) (Ze (Zc (Zn ?_)))))))));refine Yf (Yg (X:=Nat) (fun k9=>[(0,pt a),(1,pt b),(16,iN i9),(17,iN k9)]) _ _ (fun k9=>[]) (fun k9=>Asr.none) (fun k9=>k9≤lR.length) (fun k9=>lR.length - k9) (0) (Nat.zero_le _) ?_) ⟨J,J,J,J,trivial⟩;intro k9 hI;refine Zg (Zg (Zb (Za J (Zd J) (Za J (Zd J) (Za J (Zw J) (Za J (Zh (ff J) J) (Za J (Zj (t1 J) J (Z6 (hac 5 _ J) hal)) (Za J (Zd J) (Za J (Yo (ts J) J J ?_) ?_)))))))))
       ·omega
       refine Za J (Zj (t1 J) J (Z6 hrRa hbRa)) (Za J (Zx (ts J) J) (Za J (Yi J J) (Ze (Zc (Zu J ?_ ?_)))))
       ·intro c15;have hjR:k9<lR.length:=by omega
        obtain ⟨yR,hyR⟩:∃ u,lR[k9]?=some u:=⟨_,List.getElem?_eq_getElem hjR⟩;obtain ⟨bRa,oRa,zRa,hpRa,hkRa,⟨f1a,f2a,hzRa,hf1a,hf2a, -⟩,hcRa⟩:=hfRa.out k9 yR hyR;subst hpRa;subst hzRa;obtain ⟨bRb,oRb,zRb,hpRb,hkRb,⟨f1b,f2b,hzRb,hf1b,hf2b, -⟩,hcRb⟩:=hfRb.out k9 yR hyR;subst hpRb;subst hzRb;refine Zo (Zc (Zg (Zn (Zg (Ws X2 (by kernel_rfl) ?_)))));refine Zq J (Zd J) (Zq J (Zw J) (Zq J (Zh (ff J) J) (Zq J (Zj (t1 J) J (Z6 (hac 5 _ J) hal)) (Zq J (Zd J) (Zq J (Yo (ts J) J J ?_) ?_)))))
        ·omega
        refine Zq J (Zj (t1 J) J (Z6 hrRa hbRa)) (Zq J (Zd J) (Zq J (Yo (ts J) J J ?_) ?_))
        ·omega
        refine Zq J (Zh (ff J) J) (Zq J (Zj (t1 J) J (Z6 (hcRa 1 _ J) hkRa)) (Zq J (Zd J) (Zq J (Zw J) (Zq J (Zh (ff J) J) (Zq J (Zj (t1 J) J (Z6 (hbc 5 _ J) hbl)) (Zq J (Zd J) (Zq J (Yo (ts J) J J ?_) ?_)))))))
        ·omega
        refine Zq J (Zj (t1 J) J (Z6 hrRb hbRb)) (Zq J (Zd J) (Zq J (Yo (ts J) J J ?_) ?_))
        ·omega
        refine Zq J (Zh (ff J) J) (Zq J (Zj (t1 J) J (Z6 (hcRb 1 _ J) hkRb)) (Sf fn79 J J (fun w hs=>U9 _ _ yR.locals w (hf1a.mono (Xx hs)) (hf1b.mono (Xx hs))) ?_));refine Zq J (Zf J) (Wi (Zc (Zg (Ws X2 (by kernel_rfl) ?_))));refine Zq J (Zd J) (Zq J (Zw J) (Zq J (Zh (ff J) J) (Zq J (Zj (t1 J) J (Z6 (hac 5 _ J) hal)) (Zq J (Zd J) (Zq J (Yo (ts J) J J ?_) ?_)))))
        ·omega
        refine Zq J (Zj (t1 J) J (Z6 hrRa hbRa)) (Zq J (Zd J) (Zq J (Yo (ts J) J J ?_) ?_))
        ·omega
        refine Zq J (Zh (ff J) J) (Zq J (Zj (t1 J) J (Z6 (hcRa 2 _ J) hkRa)) (Zq J (Zd J) (Zq J (Zw J) (Zq J (Zh (ff J) J) (Zq J (Zj (t1 J) J (Z6 (hbc 5 _ J) hbl)) (Zq J (Zd J) (Zq J (Yo (ts J) J J ?_) ?_)))))))
        ·omega
        refine Zq J (Zj (t1 J) J (Z6 hrRb hbRb)) (Zq J (Zd J) (Zq J (Yo (ts J) J J ?_) ?_))
        ·omega
        refine Zq J (Zh (ff J) J) (Zq J (Zj (t1 J) J (Z6 (hcRb 2 _ J) hkRb)) (Sf fn79 J J (fun w hs=>U9 _ _ yR.stack w (hf2a.mono (Xx hs)) (hf2b.mono (Xx hs))) ?_));refine Zq J (Zf J) (Wi (Zc (Zg (Ws X2 (by kernel_rfl) ?_))));refine Zq J (Zd J) (Zq J (Xv J) (Zq J (Zd J) (Z0 J J J (Zd J) (Z0 J J J (Xv J) (Zq J (Zs J J) (Zq J (Zd J) (Z0 J J J (Zd J) (Z0 J J J (Zw J) (Z0 J J J (Zh (ff J) J) (Z0 J J J (Zj (t1 J) J (Z6 (hac 5 _ J) hal)) (Z0 J J J (Zd J) (Z0 J J J (Yo (ts J) J J ?_) ?_))))))))))))
        ·omega
        refine Z0 J J J (Zj (t1 J) J (Z6 hrRa hbRa)) (Z0 J J J (Zd J) (Z0 J J J (Yo (ts J) J J ?_) ?_))
        ·omega
        refine Z0 J J J (Zh (ff J) J) (Z0 J J J (Zj (t1 J) J (Z6 (hcRa 0 _ J) hkRa)) (Z0 J J J (Zd J) (Z0 J J J (Zw J) (Z0 J J J (Zh (ff J) J) (Z0 J J J (Zj (t1 J) J (Z6 (hbc 5 _ J) hbl)) (Z0 J J J (Zd J) (Z0 J J J (Yo (ts J) J J ?_) ?_)))))))
        ·omega
        refine Z0 J J J (Zj (t1 J) J (Z6 hrRb hbRb)) (Z0 J J J (Zd J) (Z0 J J J (Yo (ts J) J J ?_) ?_))
        ·omega
        refine Z0 J J J (Zh (ff J) J) (Z0 J J J (Zj (t1 J) J (Z6 (hcRb 0 _ J) hkRb)) (Z0 J J J (Uy J J) (Zq J (Zs J J) (Wi (Zc (Xn J (Zo (Zt (Zc (Zb (Za J (Zd J) ?_)))))))))));refine Za J (Yn J J ?_) ?_;omega;refine Za J (Zf J) (Ze ?_);refine Z1 (k9+1) ?_ (by omega) 0 J (J) ⟨J,J,J,J,trivial⟩;omega
       ·intro c15;refine Yd (Yc (Z5 (Yb (Zt (Zc (Zb (Za J (Zd J) ?_)))))));refine Za J (Yn J J ?_) ?_;omega;refine Za J (Zf J) (Ze ?_);refine Z1 (i9+1) ?_ (by omega) 0 J (J) ⟨J,J,J,trivial⟩;omega
      ·intro c14;refine Yd (Yc (Z5 (Yb (Zc (Zg (Zb (Za J (Zf J) (Ze (Zc (Zr (Z3 J J ?_)))))))))));rfl
end
end Go.Proofs.YtpofmnfkdkmieaaGreat
