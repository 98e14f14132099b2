/- What is proved here: the meter, as long as it has not run out -/
import Derived.Test.YtpofmnfkdkmieaaGreatQ25
import Derived.Test.YtpofmnfkdkmieaaGreatQ22
set_option linter.unusedVariables false
set_option linter.unusedSimpArgs false
namespace Go.Proofs.YtpofmnfkdkmieaaGreat
namespace S
open Go Go.RowKit E
section
set_option maxRecDepth 10000
variable {N mt ch k cap:Nat} {x y:Int}
theorem Zis {bs:List Nat} {G:Nat->Option SB} {σ:St} (hf:Few bs N G σ) (hfr:∀ i,N<=i->G i=none):after bs N G σ=G:=by
 funext g
 unfold after;by_cases hm:g ∈ bs
 ·rw [if_pos hm];have hlt:=List.idxOf_lt_length_of_mem hm;have hi:bs[bs.idxOf g]?=some g:=by rw [List.getElem?_eq_getElem hlt,List.getElem_idxOf]
  obtain ⟨sb,hs⟩:=hf.all _ g hi;obtain ⟨g',hg',hG⟩:=hf.own _ sb hs;rw [hi] at hg';cases hg';rw [hs,hG];rfl
 ·rw [if_neg hm];by_cases hN:g<N
  ·rw [if_pos hN]
  ·rw [if_neg hN,if_neg (by rw [hf.n];omega),hfr g (by omega)]
theorem Zko {P:Program} {f:FuncId} {X Y:SB} {b c:Nat} {args:List SV} {v:SV} (h:Ok P (.call f args (pair X Y)) (.val v (pair X Y))):HF P f (Te (rho [b,c] N) args) N [(b,Sl (rho [b,c] N) X),(c,Sl (rho [b,c] N) Y)] fun u N' H'=>u=ren (rho [b,c] N) v/\N'=N/\H'=[(b,Sl (rho [b,c] N) X),(c,Sl (rho [b,c] N) Y)]:=by
 refine ⟨h.1,fun G hs hfr=>?_⟩;have hne:b≠c:=hs.ne (i:=0) (j:=1) rfl rfl (by omega)
 have hf:Few [b,c] N G (pair X Y):=by
  refine ⟨J,by unfold lim;simp,by simp [hne],fun i z hi=>?_,fun i g hi=>?_⟩
  ·rw [T4] at hi;by_cases e:i=1
   ·subst e;rw [if_pos rfl] at hi;cases hi;exact ⟨c,J,hs.get (i:=1) J⟩
   ·rw [if_neg e] at hi;by_cases e0:i=0
    ·subst e0;rw [if_pos rfl] at hi;cases hi;exact ⟨b,J,hs.get (i:=0) J⟩
    ·rw [if_neg e0] at hi;cases hi
  ·match i,hi with
   | 0,_=>exact ⟨X,by rw [T4];rfl⟩
   | 1,_=>exact ⟨Y,by rw [T4];rfl⟩
 refine (gfRun h hf).mono ?_;rintro u N' G' ⟨rfl,rfl,rfl⟩;rw [Zis hf hfr];exact ⟨_,⟨J,J,J⟩,Hx.start hs hfr⟩
theorem Zqq:HF Tryz.prog 352 [.ptr mt 0] N [(mt,.cells [Zi x,Zi y,.ch ch]),(ch,.chan cap 0)] fun u N' H'=>u=Zb false/\N'=N/\H'=[(mt,.cells [Zi x,Zi y,.ch ch]),(ch,.chan cap 0)] :=
 Zko (X:=.cells [Zi x,Zi y,.ch 1]) (Y:=.chan cap 0) (args:=[.ptr 0 0]) (v:=Zb false) (Zqp (by kernel_rfl))
theorem Zjn (h:y≠x):HF Tryz.prog 236 [.ptr mt 0] N [(mt,.cells [Zi x,Zi y,.ch ch]),(ch,.chan cap k)] fun u N' H'=>u=.tup []/\N'=N/\H'=[(mt,.cells [Zi x,Zi y,.ch ch]),(ch,.chan cap k)]:=by
 have he:ieq y x=false:=Bool.eq_false_iff.2 fun e=>h (Q3.1 e);refine Zko (X:=.cells [Zi x,Zi y,.ch 1]) (Y:=.chan cap k) (args:=[.ptr 0 0]) (v:=.tup []) (Zjm ?_);show (bif ieq y x then _ else _)=_;rw [he];rfl
theorem Zfv {n:Nat} (h:(n:Int)+1≠x) (hn:n<=100000):HF Tryz.prog 384 [.ptr mt 0] N [(mt,.cells [Zi x,Zn n,.ch ch]),(ch,.chan cap k)] fun u N' H'=>u=.tup []/\N'=N/\H'=[(mt,.cells [Zi x,Zn (n+1),.ch ch]),(ch,.chan cap k)]:=by
 refine hf1 Tryz.func384 J Tryz.ntmps384 fun _ _ _ _=>?_;refine Zu (Zg 4 [0] [(2,Zq mt 0),(5,Zn n)] [] (Ya (v:=Zn (n+1)) J (X7 J J J (by omega)) J ?_));refine Z9 3 [0] [] [] N [] [(0,Zc [Zi x,Zn (n+1),SV.ch ch])] (Zv (Z0 (Zg 1 [] [(9,Zq mt 0)] [] (Yl [0,1] [1,0] Z6 J J J J (Zjn h) J (Yn (Yo [0,1] (.inl J) Z6 J (by decide) ?_))))));exact ⟨J,J,J⟩
end
end S
namespace S
open Go Go.RowKit E
section
set_option maxRecDepth 10000
variable {mc f s N ln lo wb nm cl un ev inp:Nat} {a0 a1 a2 a3 a4 a5 a6 v m0 m1 m2 m3 m4 m5 m6 m7 m8 m9 m10 m11 m12 m13 m14 m15 m16:SV} {c d us es:List SV} {x y n:Int} {nb:ByteArray}
theorem Zai {k:Nat} (hl:us.length=k) (hk:k<=1000):HF Tryz.prog 311 [.ptr mc 0] N [(mc,.cells [m0,m1,m2,m3,m4,m5,m6,m7,m8,m9,m10,.sl un 0 (k+1) 0,m12,m13,m14,m15,m16]),(un,.row 364 1 (k+1) (us++[v]))] fun u N' H'=>u=v/\N'=N/\H'=[(mc,.cells [m0,m1,m2,m3,m4,m5,m6,m7,m8,m9,m10,.sl un 0 (k+1) 0,m12,m13,m14,m15,m16]),(un,.row 364 1 (k+1) (us++[v]))]:=by
 refine hf1 Tryz.func311 J Tryz.ntmps311 fun _ _ _ _=>?_;refine Zu (Zg 1 [] [(2,Zp)] [] (Yi ?_))
 refine W3 [.ptr mc 0,.ptr mc 0,.ptr mc 11,.sl un 0 (k+1) 0,.ptr mc 0,.ptr mc 0,.ptr mc 11,.sl un 0 (k+1) 0,Zn (k+1),Zn ((k+1) - 1),.ptr un (0+((k+1) - 1)*1),v,v] [] [] [0,0] [(2,v)] [] [9,10,11] Xy
  trivial
  ⟨X6 fun _ _=>Y4 rfl (R9 rfl rfl rfl (by omega) (by omega)),X6 fun _ _=>Y4 rfl (W0 rfl rfl rfl (by kernel_rfl) (by omega)),(Ws (fun _ hGG=>Yg rfl rfl rfl (hGG.get (i:=1) rfl) (Qv (by kernel_rfl) (by subst hl;simp))) trivial),trivial⟩ rfl ?_
 refine Z2 (Yv (Yo [0,1] (.inr J) Z6 J (by decide) ?_));exact ⟨J,J,J⟩
theorem B9 {k:Nat} (hl:us.length=k) (hk:k<=1000):HF Tryz.prog 309 [.ptr mc 0] N [(mc,.cells [m0,m1,m2,m3,m4,m5,m6,m7,m8,m9,m10,.sl un 0 (k+1) 0,m12,m13,m14,m15,m16]),(un,.row 364 1 (k+1) (us++[v]))] fun u N' H'=>u=.tup []/\N'=N/\H'=[(mc,.cells [m0,m1,m2,m3,m4,m5,m6,m7,m8,m9,m10,.sl un 0 k 0,m12,m13,m14,m15,m16]),(un,.row 364 1 k us)]:=by
 refine hf1 Tryz.func309 J Tryz.ntmps309 fun _ _ _ _=>?_
 refine W3 [.ptr mc 0,.ptr mc 0,.ptr mc 0,.ptr mc 11,.sl un 0 (k+1) 0,.ptr mc 0,.ptr mc 0,.ptr mc 11,.sl un 0 (k+1) 0,Zn (k+1),Zn ((k+1) - 1),.sl un 0 ((k+1) - 1) 0,.ptr mc 0,.ptr mc 11,.tup []] [14] [(_,_)] [0,0] [] [] [10,11] Xy
  ⟨fun _ _ _ _ _ _ _ kG=>Z9 1 [0] [] [] N [] [(0,Zc [m0,m1,m2,m3,m4,m5,m6,m7,m8,m9,m10,Zk un 0 ((k+1) - 1) 0,m12,m13,m14,m15,m16])] kG,trivial⟩
  ⟨X6 fun _ _=>Y4 rfl (R9 rfl rfl rfl (by omega) (by omega)),(Ws (fun _ hGG=>E5 (e:=364) (sz:=1) (k:=(k+1)) (m:=((k+1) - 1)) rfl rfl (by kernel_rfl) (by kernel_rfl) rfl rfl rfl (hGG.get (i:=1) rfl) (by omega)) (S8 (by kernel_rfl) trivial)),trivial⟩ rfl ?_
 refine Gj (i:=1) (k':=k) (c2:=us) [(mc,.cells [m0,m1,m2,m3,m4,m5,m6,m7,m8,m9,m10,Zk un 0 ((k+1) - 1) 0,m12,m13,m14,m15,m16]),(un,.row 364 1 k us)] J (by omega) (I4 hl _) J ?_;refine Yo [0,1] (.inl J) Z6 J (by decide) ?_;exact ⟨J,J,J⟩
theorem Zcx {k:Nat} {kd:Int} (hl:es.length=k*3) (hk:k<=20000):HF Tryz.prog 310 [.ptr mc 0,Zi kd,Zs nb] N [(mc,.cells [m0,m1,m2,m3,m4,m5,m6,m7,m8,m9,m10,m11,m12,m13,m14,.sl ev 0 k 0,m16]),(ev,.row 98 3 k es)] fun u N' H'=>u=.tup []/\N'=N+2/\H'=[(mc,.cells [m0,m1,m2,m3,m4,m5,m6,m7,m8,m9,m10,m11,m12,m13,m14,.sl (N+1) 0 (k+1) 0,m16]),(N+1,.row 98 3 (k+1) (es++[Zi kd,Zi 0,Zs nb]))]:=by
 refine hf1 Tryz.func310 J Tryz.ntmps310 fun _ _ _ _=>?_;refine Z0 (Z9 9 [0] [(6,Zq mc 0),(10,Zk ev 0 k 0),(14,Zk N 0 1 0)] [] (N+1) [(N,Zw 98 3 1 [Zi kd,Zi 0,Zs nb])] [] (Ln (i:=2) (i':=0) (e:=98) (sz:=3) (by_:=32) (js:=[1]) (cc:=(es++[Zi kd,Zi 0,Zs nb])) _ (by kernel_rfl) (by kernel_rfl) J J J J J J J (by decide) J (by omega) J J (by omega) (by omega) J (Zll (m:=1) hl J) J ?_));refine Z9 3 [1] [] [] (N+2) [] [(1,Zc [m0,m1,m2,m3,m4,m5,m6,m7,m8,m9,m10,m11,m12,m13,m14,Zk (N+1) 0 (k+1) 0,m16])] (Yn (Yo [1,0] (.inl J) Z6 J (by decide) ?_));exact ⟨J,J,J⟩
theorem Zpc {kd:Int}:HF Tryz.prog 310 [.ptr mc 0,Zi kd,Zs nb] N [(mc,.cells [m0,m1,m2,m3,m4,m5,m6,m7,m8,m9,m10,m11,m12,m13,m14,Zz,m16])] fun u N' H'=>u=.tup []/\N'=N+2/\H'=[(mc,.cells [m0,m1,m2,m3,m4,m5,m6,m7,m8,m9,m10,m11,m12,m13,m14,.sl (N+1) 0 1 0,m16]),(N+1,.row 98 3 1 [Zi kd,Zi 0,Zs nb])]:=by
 refine hf1 Tryz.func310 J Tryz.ntmps310 fun _ _ _ _=>?_;refine Z0 (Z9 9 [0] [(6,Zq mc 0),(10,Zz),(14,Zk N 0 1 0)] [] (N+1) [(N,Zw 98 3 1 [Zi kd,Zi 0,Zs nb])] [] (Gl (i':=0) (e:=98) (sz:=3) (by_:=32) (cc:=[Zi kd,Zi 0,Zs nb]) [2] _ (by kernel_rfl) (by kernel_rfl) J J J J J J J J (by omega) (by omega) J (J) (by decide) J ?_));refine Z9 3 [1] [] [] (N+2) [] [(1,Zc [m0,m1,m2,m3,m4,m5,m6,m7,m8,m9,m10,m11,m12,m13,m14,Zk (N+1) 0 1 0,m16])] (Yn (Yo [1,0] (.inl J) Z6 J (by decide) ?_));exact ⟨J,J,J⟩
theorem Zpl {k:Nat} (hl:c.length=ln) (hbd:ln+1<=50000) (he:es.length=k*3) (hk:k<=20000):HF Tryz.prog 230 [.ptr mc 0,.ptr f 0,v] N [(mc,.cells [m0,m1,m2,m3,m4,m5,m6,m7,m8,m9,m10,m11,m12,m13,m14,.sl ev 0 k 0,m16]),(ev,.row 98 3 k es),(f,.cells [a0,a1,a2,a3,.sl s 0 (ln+1) 0,a5,a6]),(s,.row 366 1 (ln+1) (c++[.ifc 3 (Zi x)]))] fun u N' H'=>u=Zp/\N'=N+2/\H'=[(mc,.cells [m0,m1,m2,m3,m4,m5,m6,m7,m8,m9,m10,m11,m12,m13,m14,.sl (N+1) 0 (k+1) 0,m16]),(N+1,.row 98 3 (k+1) (es++[Zi 1,Zi x,Ze])),(f,.cells [a0,a1,a2,a3,.sl s 0 ln 0,a5,a6]),(s,.row 366 1 ln c)]:=by
 refine hf1 Tryz.func230 J Tryz.ntmps230 fun _ _ _ _=>?_;refine Zu (Zg 1 [] [(6,Zp)] [] (Yi ?_))
 refine W3 [.ptr mc 0,.ptr mc 0,.ptr mc 0,.ptr mc 15,.sl ev 0 k 0,.ptr f 0,Zi x,.agg [Zi 1,Zi x,Ze],.sl N 0 1 0,.sl (N+1) 0 (k+1) 0,.ptr mc 0,.ptr mc 15,.tup []] [6,8,9,12] [(_,_),(_,_),(_,_),(_,_)] [0,2,3] [] [] [] Xy
  ⟨fun _ _ _ _ _ _ _ kG=>Yl [2,3] [3,2] Z6 rfl rfl rfl rfl (Zcy hl hbd) rfl kG,fun _ _ _ _ _ _ _ kG=>Z9 1 [] [(15,Zk N 0 1 0)] [] (N+1) [(N,Zw 98 3 1 [Zi 1,Zi x,Ze])] [] kG,fun _ _ _ _ _ _ _ kG=>Ln (i:=4) (i':=0) (e:=98) (sz:=3) (by_:=32) (js:=[1,2,3]) (cc:=(es++[Zi 1,Zi x,Ze])) _ (by kernel_rfl) (by kernel_rfl) rfl rfl rfl rfl rfl rfl rfl (by decide) rfl (by omega) rfl rfl (by omega) (by omega) rfl (Zll (m:=1) he rfl) rfl kG,fun _ _ _ _ _ _ _ kG=>Z9 1 [3] [] [] (N+2) [] [(3,Zc [m0,m1,m2,m3,m4,m5,m6,m7,m8,m9,m10,m11,m12,m13,m14,Zk (N+1) 0 (k+1) 0,m16])] kG,trivial⟩
  trivial rfl ?_
 refine Xj (Zg 1 [] [(6,Zp)] [] (Zv (Yv (Yo [3,0,1,2] (.inr J) Z6 J (by decide) ?_))));exact ⟨J,J,J⟩
end
end S
namespace S
open Go Go.RowKit E
section
set_option maxRecDepth 10000
variable {mc f me cd tb N N1 lo un mt ch p k op:Nat} {a1 a3 a4 a5 v u m0 m1 m2 m3 m4 m5 m6 m7 m9 m10 m11 m12 m13 m14 m15 m16:SV} {e0 e1 e2 e3 e4 e5 e6 e7 e8 e9:SV} {c d us es code tab:List SV} {x y n:Int} {Ho H1:Ch} {t1 t2 t4 t5 t6:SV} {g:FuncId} {cap:List SV} {M1 F1:SB}
theorem off0 {i:Nat} {v:SV} (h:code[8*p+i]?=some v):code[0+p*8+i]?=some v:=by rw [show 0+p*8+i=8*p+i by omega];exact h
theorem Zfo (hp:p<k) (hk:k<=1000) (hop:code[8*p]?=some (Zn op)) (hn:code[8*p+1]?=some (Zi n)) (hopb:op<33) (h1:sOne t1=true) (h2:sOne t2=true) (h4:sOne t4=true) (h5:sOne t5=true) (h6:sOne t6=true) (ht:cutAt tab (0+op*7) 7=[.v .nilFunc,t1,t2,.fn g [] cap,t4,t5,t6])
  (hg:HF Tryz.prog g ([.ptr mc 0,.ptr f 0,Zi n]++cap) (N+1) ([(mc,.cells [m0,m1,m2,m3,m4,m5,m6,m7,.sl tb 0 33 0,m9,m10,m11,m12,m13,m14,m15,m16]),(f,.cells [.ptr me 0,Zn p,a1,a3,a4,a5,Zp])]++Ho) (fun a b c=>a=u/\b=N1/\c=[(mc,M1),(f,F1)]++H1)) :
  HF Tryz.prog 383 [.ptr mc 0,.ptr f 0] N ([(mc,.cells [m0,m1,m2,m3,m4,m5,m6,m7,.sl tb 0 33 0,m9,m10,m11,m12,m13,m14,m15,m16]),(f,.cells [.ptr me 0,Zn p,a1,a3,a4,a5,Zp]),(me,.cells [e0,e1,e2,e3,e4,e5,e6,e7,e8,e9,.sl cd 0 k 0]),(cd,.row 475 8 k code),(tb,.row 307 7 33 tab)]++Ho)
   fun a b c=>a=.tup [u,Zb true]/\b=N1/\c=[(mc,M1),(f,F1),(me,.cells [e0,e1,e2,e3,e4,e5,e6,e7,e8,e9,.sl cd 0 k 0]),(cd,.row 475 8 k code),(tb,.row 307 7 33 tab)]++H1:=by
 refine hf1 Tryz.func383 J Tryz.ntmps383 fun _ _ _ _=>?_;refine Zu (Zg 2 [] [(4,Zp),(5,Zb false)] [] (Yi (Zu (Zg 5 [1] [(13,Zb false)] [] (Zv (Yw J (Yp (Z2 (Yb ?_)))))))))
 refine W3 [.ptr f 0,.ptr f 0,.ptr f 0,.ptr me 0,.ptr me 0,.ptr me 10,.sl cd 0 k 0,.ptr f 0,.ptr f 0,.ptr f 1,Zn p,.ptr cd (0+p*8),.ptr cd (0+p*8)] [] [] [1,2,1] [(6,Zq cd (0+p*8))] [] [11] Xy
  trivial
  ⟨X6 fun _ _=>Y4 rfl (W0 rfl rfl rfl (by kernel_rfl) (by omega)),trivial⟩ rfl ?_
 refine Z2 (Yb ?_)
 refine W3 [.ptr mc 0,.ptr mc 0,.ptr mc 8,.sl tb 0 33 0,.ptr cd (0+p*8),.ptr cd (0+p*8),.ptr cd (0+p*8),.ptr cd (0+p*8),Zn op,.ptr tb (0+op*7),.agg [.v .nilFunc,t1,t2,.fn g [] cap,t4,t5,t6],.ptr N 0,.tup []] [11,12] [(_,_),(_,_)] [0,1] [(7,Zq N 0)] [] [8,9,10] Xy
  ⟨fun _ _ _ _ _ _ _ kG=>Z9 1 [] [(7,Zq N 0)] [] (N+1) [(N,Zc [SV.v .nilFunc,SV.v .nilFunc,Zb false,SV.v .nilFunc,SV.v .nilFunc,SV.v .nilFunc,SV.v .nilFunc])] [] kG,fun _ _ _ _ _ _ _ kG=>Mh (i:=0) (m:=7) (c:=[.v .nilFunc,t1,t2,.fn g [] cap,t4,t5,t6]) ([(N,Zc [SV.v .nilFunc,t1,t2,Zh g [] cap,t4,t5,t6]),(mc,Zc [m0,m1,m2,m3,m4,m5,m6,m7,Zk tb 0 33 0,m9,m10,m11,m12,m13,m14,m15,m16]),(f,Zc [Zq me 0,Zn p,a1,a3,a4,a5,Zp]),(me,Zc [e0,e1,e2,e3,e4,e5,e6,e7,e8,e9,Zk cd 0 k 0]),(cd,Zw 475 8 k code),(tb,Zw 307 7 33 tab)]++Ho) rfl rfl rfl rfl rfl rfl (by kernel_rfl) rfl rfl (by simp [List.all_cons,h1,h2,h4,h5,h6];exact ⟨J,J⟩) (Nat.le_of_ble_eq_true J) J kG,trivial⟩
  ⟨(Ws (fun _ hGG=>Yg rfl rfl rfl (hGG.get (i:=3) rfl) (Qv (by kernel_rfl) (off0 (i:=0) hop))) (Ws (fun _ hGG=>Yg rfl rfl rfl (hGG.get (i:=4) rfl) (Qv (by kernel_rfl) (off0 (i:=0) hop))) (S8 (by kernel_rfl) trivial))),X6 fun _ _=>Y4 rfl (W0 rfl rfl rfl (by kernel_rfl) (by omega)),(Ws (fun _ hGG=>Yg rfl rfl rfl (hGG.get (i:=4) rfl) (by have:=Ut (P:=Tryz.prog) (t:=307) (m:=7) (off:=0+op*7) (sb:=.row 307 7 33 tab) (c:=tab) (by kernel_rfl) (by kernel_rfl) rfl (by rw [ht];rfl);rw [ht] at this;exact this)) (Ws (fun _ hGG=>Yg J J J (hGG.get (i:=5) J) (by have:=Ut (P:=Tryz.prog) (t:=307) (m:=7) (off:=0+op*7) (sb:=.row 307 7 33 tab) (c:=tab) (by kernel_rfl) (by kernel_rfl) J (by rw [ht];rfl);rw [ht] at this;exact this)) (S8 (by kernel_rfl) trivial))),trivial⟩ J ?_
 refine Z2 (Yb (Zu (Zg 14 [0] [(58,Zb true)] [] (Zv (Xr J (Yb ?_))))))
 refine W3 [.ptr N 3,.fn g [] cap,.ptr mc 0,.ptr f 0,.ptr cd (0+p*8),.ptr cd (0+p*8),.ptr cd (0+p*8),.ptr cd ((0+p*8)+1),Zi n,u,u,Zb true] [9] [(_,_)] [0] [(4,u),(5,Zb true)] [] [8] Xy
  ⟨fun _ _ _ _ _ _ _ kG=>Sz 6 2 [1,2] [0,3,4,5] Z6 rfl rfl rfl rfl (hg) rfl kG,trivial⟩
  ⟨(Ws (fun _ hGG=>Yg rfl rfl rfl (hGG.get (i:=4) rfl) (Qv (by kernel_rfl) (off0 (i:=1) hn))) (S8 (by kernel_rfl) trivial)),trivial⟩ rfl ?_
 refine Z2 (Yv (Xm (V3 6 [0,1,3,4,5] (.inr J) Z6 J ?_)));exact ⟨J,J,J⟩
theorem Zgs {q dn fu:Nat} {r11 r13 r14 r15 r16:SV} {cp kc:Nat} {U1:SB} (hq:us.length=q) (hqb:q<=1000) (hp:p<k) (hk:k<=1000) (hop:code[8*p]?=some (Zn op)) (hn:code[8*p+1]?=some (Zi n)) (hopb:op<33) (h1:sOne t1=true) (h2:sOne t2=true) (h4:sOne t4=true) (h5:sOne t5=true) (h6:sOne t6=true) (ht:cutAt tab (0+op*7) 7=[.v .nilFunc,t1,t2,.fn g [] cap,t4,t5,t6])
  (hd:(dn:Int)+1≠fu) (hdb:dn<=100000)
  (hg:HF Tryz.prog g ([.ptr mc 0,.ptr f 0,Zi n]++cap) (N+1) ([(mc,.cells [m0,m1,m2,m3,m4,m5,m6,m7,.sl tb 0 33 0,m9,m10,.sl un 0 (q+1) 0,.ptr mt 0,m13,m14,m15,m16]),(f,.cells [.ptr me 0,Zn p,Zn (p+1),a3,a4,a5,Zp])]++((un,.row 364 1 (q+1) (us++[.ptr f 0]))::Ho)) (fun a b c=>a=Zp/\b=N1/\c=[(mc,.cells [m0,m1,m2,m3,m4,m5,m6,m7,.sl tb 0 33 0,m9,m10,r11,.ptr mt 0,r13,r14,r15,r16]),(f,F1)]++((un,U1)::H1))) :
  HF Tryz.prog 353 [.ptr mc 0] N ([(mc,.cells [m0,m1,m2,m3,m4,m5,m6,m7,.sl tb 0 33 0,m9,m10,.sl un 0 (q+1) 0,.ptr mt 0,m13,m14,m15,m16]),(f,.cells [.ptr me 0,a1,Zn p,a3,a4,a5,Zp]),(me,.cells [e0,e1,e2,e3,e4,e5,e6,e7,e8,e9,.sl cd 0 k 0]),(cd,.row 475 8 k code),(tb,.row 307 7 33 tab),(un,.row 364 1 (q+1) (us++[.ptr f 0])),(mt,.cells [Zi fu,Zn dn,.ch ch]),(ch,.chan cp kc)]++Ho)
   fun a b c=>a=.tup []/\b=N1/\c=[(mc,.cells [m0,m1,m2,m3,m4,m5,m6,m7,.sl tb 0 33 0,m9,m10,r11,.ptr mt 0,r13,r14,r15,r16]),(f,F1),(me,.cells [e0,e1,e2,e3,e4,e5,e6,e7,e8,e9,.sl cd 0 k 0]),(cd,.row 475 8 k code),(tb,.row 307 7 33 tab),(un,U1),(mt,.cells [Zi fu,Zn (dn+1),.ch ch]),(ch,.chan cp kc)]++H1:=by
 refine hf1 Tryz.func353 J Tryz.ntmps353 fun _ _ _ _=>?_;refine Zu (Zg 1 [] [(5,Zq mc 0)] [] (Yl [0,5] [5,0] Z6 J J J J (Zai hq hqb) J (Zg 1 [] [(2,Zq f 0)] [] (Yi ?_))))
 refine W3 [.ptr f 0,.ptr f 0,.ptr f 0,.ptr f 0,.ptr f 2,Zn p,.ptr f 0,.ptr f 0,.ptr f 2,Zn p,Zn (p+1),.ptr f 0,.ptr f 1,.tup [],.ptr f 0,.ptr f 2,.tup []] [13,16] [(_,_),(_,_)] [2,2] [] [] [10] Xy
  ⟨fun _ _ _ _ _ _ _ kG=>Z9 1 [2] [] [] N [] [(2,Zc [Zq me 0,Zn p,Zn p,a3,a4,a5,Zp])] kG,fun _ _ _ _ _ _ _ kG=>Z9 1 [2] [] [] N [] [(2,Zc [Zq me 0,Zn p,Zn (p+1),a3,a4,a5,Zp])] kG,trivial⟩
  ⟨X6 fun _ _=>Y4 rfl (X7 rfl rfl rfl (by omega)),trivial⟩ rfl ?_
 refine Xj (Zg 2 [] [(23,Zq mc 0),(24,Zq f 0)] [] (Sz 8 6 [0,2,3,4,5,1] [6,7] Z6 J J J J (Zfo hp hk hop hn hopb h1 h2 h4 h5 h6 ht hg) J (Zg 5 [] [(3,Zp),(4,Zb true)] [] (Yi (Zu (Zg 2 [] [(29,Zb false)] [] (Zv (Yw J (Yp (Xj (Zg 4 [0] [(40,Zq mt 0)] [] (Yl [6,7] [7,6] Z6 J J J J (Zfv hd hdb) J (Yh (Zg 2 [] [(43,Zb false)] [] (Zv (Yw J (Yp (V3 8 [2,3,4,5,6,7,0,1] (.inl J) Z6 J ?_))))))))))))))))));exact ⟨J,J,J⟩
end
end S
namespace S
open Go Go.RowKit E
section
set_option maxRecDepth 10000
variable {mc f me cd tb N N1 lo un mt ch p k s ln nm inp ev:Nat} {a0 a1 a2 a3 a4 a5 a6 v u m0 m1 m2 m3 m4 m5 m6 m7 m8 m9 m10 m11 m12 m13 m14 m15 m16:SV} {e0 e1 e2 e3 e4 e5 e6 e7 e8 e9:SV} {zp:Option Addr} {zq:Nat} {c d us es code:List SV} {x y n:Int}
theorem Zmx {io ij i st:Nat} {sf:Nat × Nat} {ins:List SV} (hl:c.length=ln) (hbd:ln<=50000) (hk:k<=4000000) (hi:i<k) (hx:ins[io+i*1]?=some (Zi x)) :
  HF Tryz.prog 231 [.ptr mc 0,.ptr f 0,v] N [(mc,.cells [m0,m1,.sl inp io k ij,m3,m4,m5,m6,m7,m8,m9,m10,m11,m12,m13,Zn i,m15,m16]),(f,.cells [a0,a1,a2,a3,.sl s 0 ln 0,a5,a6]),(s,.row 366 1 ln c),(inp,.seen ins st sf)] fun u N' H'=>u=Zp/\N'=N+2/\H'=[(mc,.cells [m0,m1,.sl inp io k ij,m3,m4,m5,m6,m7,m8,m9,m10,m11,m12,m13,Zn (i+1),m15,m16]),(f,.cells [a0,a1,a2,a3,.sl (N+1) 0 (ln+1) 0,a5,a6]),(N+1,.row 366 1 (ln+1) (c++[.ifc 3 (Zi x)])),(inp,.seen ins st sf)]:=by
 refine hf1 Tryz.func231 J Tryz.ntmps231 fun _ _ _ _=>?_;refine Zu (Zg 1 [] [(6,Zp)] [] (Yi (Yb (I0 Xy [0,0] [(17,SV.v (.bool (ieq (.ofNat i) (.ofNat k))))] [] (Z2 ?_)))));refine Tx J (Bool.eq_false_iff.2 fun h=>by have:=Q3.1 h;simp at this;omega) ?_;refine Yp (Z2 (Yb ?_))
 refine W3 [.ptr f 0,.ptr mc 0,.ptr mc 0,.ptr mc 0,.ptr mc 2,.sl inp io k ij,.ptr mc 0,.ptr mc 0,.ptr mc 14,Zn i,.ptr inp (io+i*1),Zi x,.ifc 3 (Zi x),.tup []] [13] [(_,_)] [0,2,0,2] [] [] [10,11] Xy
  ⟨fun _ _ _ _ _ _ _ kG=>Yl [1,2] [2,1] Z6 rfl rfl rfl rfl (Nw hl hbd) rfl kG,trivial⟩
  ⟨X6 fun _ _=>Y4 rfl (W0 rfl rfl rfl (by kernel_rfl) (by omega)),(Ws (fun _ hGG=>Yg rfl rfl rfl (hGG.get (i:=3) rfl) (F6 (by kernel_rfl) hx)) (S8 (by kernel_rfl) trivial)),trivial⟩ rfl ?_
 refine Xj (Zg 4 [2] [(35,Zq mc 0),(38,Zn i)] [] (Ya (v:=Zn (i+1)) J (X7 J J J (by omega)) J ?_));refine Z9 3 [2] [] [] (N+2) [] [(2,Zc [m0,m1,Zk inp io k ij,m3,m4,m5,m6,m7,m8,m9,m10,m11,m12,m13,Zn (i+1),m15,m16])] (Yh (Zg 1 [] [(6,Zp)] [] (Zv (Yv (Yo [2,0,1,3] (.inr J) Z6 J (by decide) ?_)))));exact ⟨J,J,J⟩
theorem Zmy {io ij:Nat} (hl:c.length=ln) (hbd:ln<=50000) :
  HF Tryz.prog 231 [.ptr mc 0,.ptr f 0,v] N [(mc,.cells [m0,m1,.sl inp io k ij,m3,m4,m5,m6,m7,m8,m9,m10,m11,m12,m13,Zn k,m15,m16]),(f,.cells [a0,a1,a2,a3,.sl s 0 ln 0,a5,a6]),(s,.row 366 1 ln c)] fun u N' H'=>u=Zp/\N'=N+2/\H'=[(mc,.cells [m0,m1,.sl inp io k ij,m3,m4,m5,m6,m7,m8,m9,m10,m11,m12,m13,Zn k,m15,m16]),(f,.cells [a0,a1,a2,a3,.sl (N+1) 0 (ln+1) 0,a5,a6]),(N+1,.row 366 1 (ln+1) (c++[.ifc 3 (Zi 0)]))]:=by
 refine hf1 Tryz.func231 J Tryz.ntmps231 fun _ _ _ _=>?_;refine Zu (Zg 1 [] [(6,Zp)] [] (Yi (Yb (I0 Xy [0,0] [(17,SV.v (.bool (ieq (.ofNat k) (.ofNat k))))] [] (Z2 (Ti J (Q3.2 J) (Zu (Zg 2 [] [(18,Zq f 0),(19,SV.ifc 3 (Zi 0))] [] (Yl [1,2] [2,1] Z6 J J J J (Nw hl hbd) J (Yh (Zg 1 [] [(6,Zp)] [] (Zv (Yv (Xm (Yo [2,0,1] (.inr J) Z6 J (by decide) ?_)))))))))))))));exact ⟨J,J,J⟩
theorem Zpz {ip:Option Addr} {iq:Nat} (hl:c.length=ln) (hbd:ln<=50000) :
  HF Tryz.prog 231 [.ptr mc 0,.ptr f 0,v] N [(mc,.cells [m0,m1,Zl ip iq,m3,m4,m5,m6,m7,m8,m9,m10,m11,m12,m13,Zi 0,m15,m16]),(f,.cells [a0,a1,a2,a3,.sl s 0 ln 0,a5,a6]),(s,.row 366 1 ln c)] fun u N' H'=>u=Zp/\N'=N+2/\H'=[(mc,.cells [m0,m1,Zl ip iq,m3,m4,m5,m6,m7,m8,m9,m10,m11,m12,m13,Zi 0,m15,m16]),(f,.cells [a0,a1,a2,a3,.sl (N+1) 0 (ln+1) 0,a5,a6]),(N+1,.row 366 1 (ln+1) (c++[.ifc 3 (Zi 0)]))]:=by
 refine hf1 Tryz.func231 J Tryz.ntmps231 fun _ _ _ _=>?_;refine Zu (Zg 1 [] [(6,Zp)] [] (Yi (Yb (I0 Xy [0,0] [(17,Zb true)] [] (Z2 (Xr J (Zu (Zg 2 [] [(18,Zq f 0),(19,SV.ifc 3 (Zi 0))] [] (Yl [1,2] [2,1] Z6 J J J J (Nw hl hbd) J (Yh (Zg 1 [] [(6,Zp)] [] (Zv (Yv (Xm (Yo [2,0,1] (.inr J) Z6 J (by decide) ?_)))))))))))))));exact ⟨J,J,J⟩
theorem Zuj {q:Nat} {w:SV} (hl:us.length=q) (hk:q<=1000) :
  HF Tryz.prog 223 [.ptr mc 0,.ptr f 0,v] N [(mc,.cells [m0,m1,m2,m3,m4,m5,m6,m7,m8,m9,m10,.sl un 0 (q+1) 0,m12,m13,m14,m15,m16]),(f,.cells [a0,a1,a2,a3,a4,Zp,a6]),(un,.row 364 1 (q+1) (us++[w]))] fun u N' H'=>u=Zp/\N'=N/\H'=[(mc,.cells [m0,m1,m2,m3,m4,m5,m6,m7,m8,m9,m10,.sl un 0 q 0,m12,m13,m14,m15,m16]),(f,.cells [a0,a1,a2,a3,a4,Zp,a6]),(un,.row 364 1 q us)]:=by
 refine hf1 Tryz.func223 J Tryz.ntmps223 fun _ _ _ _=>?_;refine Zu (Zg 1 [] [(6,Zp)] [] (Yh (Zg 1 [] [(7,Zq mc 0)] [] (Yl [0,2] [2,0] Z6 J J J J (B9 hl hk) J (Yi (Zu (Zg 5 [2] [(13,Zb false)] [] (Zv (Yw J (Yp (Xj (Zg 1 [] [(6,Zp)] [] (Zv (Yv (Yo [0,2,1] (.inr J) Z6 J (by decide) ?_)))))))))))))));exact ⟨J,J,J⟩
theorem Zua {w:SV}:HF Tryz.prog 397 [.ptr f 0,w] N [(f,.cells [.ptr me 0,a1,a2,a3,a4,a5,a6]),(me,.cells [e0,e1,e2,e3,e4,e5,e6,e7,Zl zp zq,e9,v])] fun u N' H'=>u=Zb false/\N'=N/\H'=[(f,.cells [.ptr me 0,a1,a2,a3,a4,a5,a6]),(me,.cells [e0,e1,e2,e3,e4,e5,e6,e7,Zl zp zq,e9,v])]:=by
 refine hf1 Tryz.func397 J Tryz.ntmps397 fun _ _ _ _=>?_;refine Zu (Zg 1 [] [(4,Zb false)] [] (Yi (Zu (Zg 10 [0,1] [(14,Zl zp zq),(15,Zi 0),(16,Zi 0)] [] (Zv (Ye (U7 (W1 ?_))))))));refine Zu (Zg 1 [] [(17,Zb false)] [] (Yi (Yw J (Uo (Y0 (Y0 (Re (z:=.exit _) J (Wj (Xj (Zg 1 [] [(4,Zb false)] [] (Zv (Yv (Yo [0,1] (.inr J) Z6 J (by decide) ?_)))))))))))));exact ⟨J,J,J⟩
end
end S
namespace S
open Go Go.RowKit E
section
set_option maxRecDepth 10000
variable {mc f me cd tb N N1 lo un mt ch p k s ln nm inp ev ob op:Nat} {a0 a1 a2 a3 a4 a5 a6 v u m0 m1 m2 m3 m4 m5 m6 m7 m8 m9 m10 m11 m12 m13 m14 m15 m16:SV} {e0 e1 e2 e3 e4 e5 e6 e7 e8 e9:SV} {zp:Option Addr} {zq:Nat} {c d us es code tab:List SV} {x y n:Int} {Ho H1:Ch} {t1 t2 t4 t5 t6:SV} {g:FuncId} {cap:List SV} {F1:SB}
theorem Zml:HF Tryz.prog 385 [.ptr mc 0,.ptr ob 0] N [(mc,.cells [m0,m1,m2,m3,m4,m5,m6,m7,m8,m9,m10,.sl un 0 1 0,m12,m13,m14,m15,m16]),(f,.cells [.ptr me 0,a1,a2,a3,a4,Zp,a6]),(me,.cells [e0,e1,e2,e3,e4,e5,e6,e7,Zl zp zq,e9,v]),(un,.row 364 1 1 [.ptr f 0])] fun u N' H'=>u=.tup []/\N'=N/\H'=[(mc,.cells [m0,m1,m2,m3,m4,m5,m6,m7,m8,m9,m10,.sl un 0 0 0,m12,m13,m14,m15,.ptr ob 0]),(f,.cells [.ptr me 0,a1,a2,a3,a4,Zp,a6]),(me,.cells [e0,e1,e2,e3,e4,e5,e6,e7,Zl zp zq,e9,v]),(un,.row 364 1 0 [])]:=by
 refine hf1 Tryz.func385 J Tryz.ntmps385 fun _ _ _ _=>?_;refine Yb (Ye (U7 (W1 ?_)));refine Yb (Zu (Zg 6 [0] [(10,Zb true)] [] (Zv (Xr J (Yp (Z2 (Ye (Zu (Zg 1 [] [(11,Zq mc 0)] [] (Yl [0,3] [3,0] Z6 J J J J (Zai (us:=[]) (k:=0) J (by omega)) J ?_))))))))));refine Zg 1 [] [(4,Zq f 0)] [] (Yi (Zu (Zg 2 [] [(13,Zq f 0),(14,Zq ob 0)] [] (Yl [2,3] [3,2] Z6 J J J J (Zua) J (Zv (Yw J (Yp (Xj (Zg 1 [] [(16,Zq mc 0)] [] (Yl [2,3] [3,2] Z6 J J J J (B9 (us:=[]) (k:=0) J (by omega)) J ?_))))))))));refine Yi (Zu (Zg 5 [2] [(22,Zb true)] [] (Zv (Xr J (Uo (Y0 (Wj (Z2 (W1 (Yb (Zu (Zg 6 [0] [(10,Zb false)] [] (Zv (Yw J (Uo (Y0 (Y0 (Re (z:=.exit _) J (Wj (Z2 (Z0 (Z9 5 [0] [] [] N [] [(0,Zc [m0,m1,m2,m3,m4,m5,m6,m7,m8,m9,m10,Zk un 0 0 0,m12,m13,m14,m15,Zq ob 0])] (Yn (Yo [0,2,3,1] (.inl J) Z6 J (by decide) ?_))))))))))))))))))))))));exact ⟨J,J,J⟩
theorem Zgr {dn fu:Nat} {r13 r14 r15 r16:SV} {cp kc:Nat} (hp:p<k) (hk:k<=1000) (hop:code[8*p]?=some (Zn op)) (hn:code[8*p+1]?=some (Zi n)) (hopb:op<33) (h1:sOne t1=true) (h2:sOne t2=true) (h4:sOne t4=true) (h5:sOne t5=true) (h6:sOne t6=true) (ht:cutAt tab (0+op*7) 7=[.v .nilFunc,t1,t2,.fn g [] cap,t4,t5,t6])
  (hd:(dn:Int)+1≠fu) (hdb:dn<=100000)
  (hg:HF Tryz.prog g ([.ptr mc 0,.ptr f 0,Zi n]++cap) (N+1) ([(mc,.cells [m0,m1,m2,m3,m4,m5,m6,m7,.sl tb 0 33 0,m9,m10,.sl un 0 1 0,.ptr mt 0,m13,m14,m15,m16]),(f,.cells [.ptr me 0,Zn p,Zn (p+1),a3,a4,Zp,Zp])]++((un,.row 364 1 1 [.ptr f 0])::Ho)) (fun a b c=>a=.ptr ob 0/\b=N1/\c=[(mc,.cells [m0,m1,m2,m3,m4,m5,m6,m7,.sl tb 0 33 0,m9,m10,.sl un 0 1 0,.ptr mt 0,r13,r14,r15,r16]),(f,.cells [.ptr me 0,Zn p,Zn (p+1),a3,v,Zp,Zp])]++((un,.row 364 1 1 [.ptr f 0])::H1))) :
  HF Tryz.prog 353 [.ptr mc 0] N ([(mc,.cells [m0,m1,m2,m3,m4,m5,m6,m7,.sl tb 0 33 0,m9,m10,.sl un 0 1 0,.ptr mt 0,m13,m14,m15,m16]),(f,.cells [.ptr me 0,a1,Zn p,a3,a4,Zp,Zp]),(me,.cells [e0,e1,e2,e3,e4,e5,e6,e7,Zl zp zq,e9,.sl cd 0 k 0]),(cd,.row 475 8 k code),(tb,.row 307 7 33 tab),(un,.row 364 1 1 [.ptr f 0]),(mt,.cells [Zi fu,Zn dn,.ch ch]),(ch,.chan cp kc)]++Ho)
   fun a b c=>a=.tup []/\b=N1/\c=[(mc,.cells [m0,m1,m2,m3,m4,m5,m6,m7,.sl tb 0 33 0,m9,m10,.sl un 0 0 0,.ptr mt 0,r13,r14,r15,.ptr ob 0]),(f,.cells [.ptr me 0,Zn p,Zn (p+1),a3,v,Zp,Zp]),(me,.cells [e0,e1,e2,e3,e4,e5,e6,e7,Zl zp zq,e9,.sl cd 0 k 0]),(cd,.row 475 8 k code),(tb,.row 307 7 33 tab),(un,.row 364 1 0 []),(mt,.cells [Zi fu,Zn (dn+1),.ch ch]),(ch,.chan cp kc)]++H1:=by
 refine hf1 Tryz.func353 J Tryz.ntmps353 fun _ _ _ _=>?_;refine Zu (Zg 1 [] [(5,Zq mc 0)] [] (Yl [0,5] [5,0] Z6 J J J J (Zai (us:=[]) (k:=0) J (by omega)) J ?_));refine Zg 1 [] [(2,Zq f 0)] [] (Yi ?_)
 refine W3 [.ptr f 0,.ptr f 0,.ptr f 0,.ptr f 0,.ptr f 2,Zn p,.ptr f 0,.ptr f 0,.ptr f 2,Zn p,Zn (p+1),.ptr f 0,.ptr f 1,.tup [],.ptr f 0,.ptr f 2,.tup []] [13,16] [(_,_),(_,_)] [2,2] [] [] [10] Xy
  ⟨fun _ _ _ _ _ _ _ kG=>Z9 1 [2] [] [] N [] [(2,Zc [Zq me 0,Zn p,Zn p,a3,a4,Zp,Zp])] kG,fun _ _ _ _ _ _ _ kG=>Z9 1 [2] [] [] N [] [(2,Zc [Zq me 0,Zn p,Zn (p+1),a3,a4,Zp,Zp])] kG,trivial⟩
  ⟨X6 fun _ _=>Y4 rfl (X7 rfl rfl rfl (by omega)),trivial⟩ rfl ?_
 refine Xj (Zg 2 [] [(23,Zq mc 0),(24,Zq f 0)] [] (Sz 8 6 [0,2,3,4,5,1] [6,7] Z6 J J J J (Zfo hp hk hop hn hopb h1 h2 h4 h5 h6 ht hg) J (Zg 5 [] [(3,Zq ob 0),(4,Zb true)] [] (Yi (Zu (Zg 2 [] [(29,Zb false)] [] (Zv (Yw J (Yp (Xj (Zg 4 [0] [(40,Zq mt 0)] [] (Yl [6,7] [7,6] Z6 J J J J (Zfv hd hdb) J (Yh (Zg 2 [] [(43,Zb true)] [] (Zv (Xr J (Z0 (Zg 2 [] [(44,Zq mc 0),(45,Zq ob 0)] [] (Yl [2,3,4,7] [7,4,3,2] Z6 J J J J (Zml) J (Yn (V3 8 [0,1,2,6,7,3,4,5] (.inl J) Z6 J ?_)))))))))))))))))))));exact ⟨J,J,J⟩
end
end S
end Go.Proofs.YtpofmnfkdkmieaaGreat
