/- What is proved here: Main is started: it has no start. -/
import Derived.Test.YtpofmnfkdkmieaaGreatQ24
import Derived.Test.YtpofmnfkdkmieaaGreatQ16
import Derived.Test.YtpofmnfkdkmieaaGreatQ17
set_option linter.unusedVariables false
set_option linter.unusedSimpArgs false
namespace Go.Proofs.YtpofmnfkdkmieaaGreat
namespace S
open Go Go.RowKit E
section
set_option maxRecDepth 10000
variable {N mc en nm ob k dm dc c mr me cd ev:Nat} {nb sb bs:ByteArray} {bt:Nat->Bool} {os:List Mi} {ins:List (List SV)} {fp zp hp gp:Option Addr} {fq zq hq gq:Nat} {cod:List SV} {m0 m1 m2 m3 m4 m5 m6 m7 m8 m9 m10 m11 m12 m13 m14 m15 m16:SV} {es:List (ByteArray × SV)}
theorem sound_m (hC:∀ N,HF Tryz.prog 18 [.agg [Zs Zt,Zs sb,Zl fp fq,.sl dm 0 1 0]] N [(dm,.row 134 10 1 [Zs Z4,Zb true,Zl zp zq,Zi 0,Ze,Zi 1,Zi 1,.sl dc 0 k 0,Zl hp hq,Zl gp gq]),(dc,.row 75 7 k cod)] fun u N' H'=>∃ θ:Kv,u=.tup [Zl θ.cp θ.cq,Zi θ.a,Zi θ.b,Zi 0]/\N'=N/\H'=[(dm,.row 134 10 1 [Zs Z4,Zb true,Zl zp zq,Zi 0,Ze,Zi 1,Zi 1,.sl dc 0 k 0,Zl hp hq,Zl gp gq]),(dc,.row 75 7 k cod)]):HF Tryz.prog 350 [.ptr mc 0,.ptr c 0] N [(mc,.cells [m0,m1,m2,m3,m4,m5,m6,.fn 18 [] [],m8,m9,Zz,m11,m12,m13,m14,m15,m16]),(c,.cells [Zs Zt,.ptr ob 0,Zs Zt,Zs sb,Zl fp fq,.sl dm 0 1 0,Zi 0,Zz,.sl mr 0 1 0,Zz,Zz]),(dm,.row 134 10 1 [Zs Z4,Zb true,Zl zp zq,Zi 0,Ze,Zi 1,Zi 1,.sl dc 0 k 0,Zl hp hq,Zl gp gq]),(dc,.row 75 7 k cod)] fun u N' H'=>u=Zb true/\H'=[(mc,.cells [m0,m1,m2,m3,m4,m5,m6,.fn 18 [] [],m8,m9,Zz,m11,m12,m13,m14,m15,m16]),(c,.cells [Zs Zt,.ptr ob 0,Zs Zt,Zs sb,Zl fp fq,.sl dm 0 1 0,Zi 0,Zz,.sl mr 0 1 0,Zz,Zz]),(dm,.row 134 10 1 [Zs Z4,Zb true,Zl zp zq,Zi 0,Ze,Zi 1,Zi 1,.sl dc 0 k 0,Zl hp hq,Zl gp gq]),(dc,.row 75 7 k cod)]:=by
 refine hf1 Tryz.func350 J Tryz.ntmps350 fun _ _ _ _=>?_;refine Zd (Za 1 [] [(4,Zb false)] [] (Z1 ?_))
 refine Tj (Θ:=Kv) kv0 (fun θ=>[.ptr mc 0,.ptr mc 0,.ptr mc 6,.ptr mc 7,.fn 18 [] [],.ptr c 0,.ptr c 0,.ptr c 2,.agg [Zs Zt,Zs sb,Zl fp fq,.sl dm 0 1 0],.tup [Zl θ.cp θ.cq,Zi θ.a,Zi θ.b,Zi 0],.tup [Zl θ.cp θ.cq,Zi θ.a,Zi θ.b,Zi 0],Zl θ.cp θ.cq,Zi θ.a,Zi θ.b,Zi 0,Zl θ.cp θ.cq,Zi θ.a,Zi θ.b,Zi 0]) [9] (fun θ=>[(N,[(mc,.cells [m0,m1,m2,m3,m4,m5,m6,Zh 18 [] [],m8,m9,Zz,m11,m12,m13,m14,m15,m16]),(c,.cells [Zs Zt,Zq ob 0,Zs Zt,Zs sb,Zl fp fq,Zk dm 0 1 0,Zi 0,Zz,Zk mr 0 1 0,Zz,Zz]),(dm,.row 134 10 1 [Zs Z4,Zb true,Zl zp zq,Zi 0,Ze,Zi 1,Zi 1,Zk dc 0 k 0,Zl hp hq,Zl gp gq]),(dc,.row 75 7 k cod)]),(N,[(dm,.row 134 10 1 [Zs Z4,Zb true,Zl zp zq,Zi 0,Ze,Zi 1,Zi 1,Zk dc 0 k 0,Zl hp hq,Zl gp gq]),(dc,.row 75 7 k cod),(mc,.cells [m0,m1,m2,m3,m4,m5,m6,Zh 18 [] [],m8,m9,Zz,m11,m12,m13,m14,m15,m16]),(c,.cells [Zs Zt,Zq ob 0,Zs Zt,Zs sb,Zl fp fq,Zk dm 0 1 0,Zi 0,Zz,Zk mr 0 1 0,Zz,Zz])])]) 9 0 Yt (by kernel_rfl) (by kernel_rfl) (by kernel_rfl) (by kernel_rfl) (by kernel_rfl) (by kernel_rfl) J (fun _ _=>J) (fun _ _=>J) (fun _=>J)
  (fun θ=>⟨.inr (Yf rfl rfl rfl),
   .inr (Yf rfl rfl rfl),
   .inr (Yf rfl rfl (by kernel_rfl)),
   .inr (Yf rfl rfl (by kernel_rfl)),
   .inr (Ph rfl (Ys (fun _ hGG=>Z3 rfl rfl rfl (hGG.get (i:=0) rfl) (by kernel_rfl)) (Xn (by kernel_rfl) trivial))),
   .inr (Yf rfl rfl rfl),
   .inr (Yf rfl rfl rfl),
   .inr (Yf rfl rfl (by kernel_rfl)),
   .inr (Ph rfl (Ys (fun _ hGG=>Z3 rfl rfl rfl (hGG.get (i:=1) rfl) (by kernel_rfl)) (Xn (by kernel_rfl) trivial))),
   .inl rfl,
   .inr (Yf rfl rfl rfl),
   .inr (Yf rfl rfl rfl),
   .inr (Yf rfl rfl rfl),
   .inr (Yf rfl rfl rfl),
   .inr (Yf rfl rfl rfl),
   .inr (Yf rfl rfl rfl),
   .inr (Yf rfl rfl rfl),
   .inr (Yf rfl rfl rfl),
   .inr (Yf rfl rfl rfl),trivial⟩)
  (vx:=(fun θ=>.tup [Zl θ.cp θ.cq,Zi θ.a,Zi θ.b,Zi 0])) (Ny:=(fun θ=>N)) (Hy:=(fun θ=>[(dm,.row 134 10 1 [Zs Z4,Zb true,Zl zp zq,Zi 0,Ze,Zi 1,Zi 1,Zk dc 0 k 0,Zl hp hq,Zl gp gq]),(dc,.row 75 7 k cod),(mc,.cells [m0,m1,m2,m3,m4,m5,m6,Zh 18 [] [],m8,m9,Zz,m11,m12,m13,m14,m15,m16]),(c,.cells [Zs Zt,Zq ob 0,Zs Zt,Zs sb,Zl fp fq,Zk dm 0 1 0,Zi 0,Zz,Zk mr 0 1 0,Zz,Zz])])) rfl (fun _=>rfl) (fun _=>rfl) (fun _=>rfl) (fun _ _ _ _ _ _ _ kGo=>Zez [2,3] [0,1] Zj rfl rfl rfl rfl (by decide) (hC _) (by rintro _ _ _ ⟨θ,rfl,rfl,rfl⟩;exact ⟨_,_,J,J,kGo θ⟩)) (N':=(fun θ=>N)) (H':=(fun θ=>[(dm,.row 134 10 1 [Zs Z4,Zb true,Zl zp zq,Zi 0,Ze,Zi 1,Zi 1,Zk dc 0 k 0,Zl hp hq,Zl gp gq]),(dc,.row 75 7 k cod),(mc,.cells [m0,m1,m2,m3,m4,m5,m6,Zh 18 [] [],m8,m9,Zz,m11,m12,m13,m14,m15,m16]),(c,.cells [Zs Zt,Zq ob 0,Zs Zt,Zs sb,Zl fp fq,Zk dm 0 1 0,Zi 0,Zz,Zk mr 0 1 0,Zz,Zz])])) (fun _=>J) ?_
 intro θ;refine Z1 (Zd (Za 2 [] [(29,Zb false)] [] (Zg (Z6 J (Ya (Yh (Za 1 [] [(9,Zz)] [] (Z1 (Zd (Za 3 [] [(30,Zl θ.cp θ.cq),(31,Zi 0),(32,Zi 0)] [] (Zg (Zv (Yv (Yg ?_))))))))))))));refine Zd (Za 1 [] [(33,Zb false)] [] (Z1 (Z6 J (Yz (Z8 (Z8 (Xb (z:=.exit _) J (Yi (Yh (Za 10 [2,2] [] [] (Zx (Za 1 [] [(4,Zb true)] [] (Zg (Yc (Z5 [2,3,0,1] (.inr J) Zj J (by decide) ?_)))))))))))))));exact ⟨J,J⟩
theorem Hw:HF Tryz.prog 351 [.ptr mc 0,.ptr c 0] N [(mc,.cells [m0,m1,m2,m3,m4,m5,m6,.fn 18 [] [],m8,m9,Zz,m11,m12,m13,m14,.sl ev 0 1 0,m16]),(ev,.row 98 3 1 [Zi 2,Zi 0,Zs Zt]),(c,.cells [Zs Zt,.ptr ob 0,Zs Zt,Zs sb,Zl fp fq,.sl dm 0 1 0,Zi 0,Zz,.sl mr 0 1 0,Zz,Zz]),(mr,.row 329 1 1 [.ptr me 0]),(me,.cells [Zs Z4,Zb true,Zl zp zq,Zi 0,Ze,Zi 1,Zi 1,.sl dc 0 k 0,Zl hp hq,Zl gp gq,.sl cd 0 k 0])] fun u N' H'=>∃ ev,u=Zp/\H'=[(mc,.cells [m0,m1,m2,m3,m4,m5,m6,.fn 18 [] [],m8,m9,Zz,m11,m12,m13,m14,.sl ev 0 3 0,m16]),(ev,.row 98 3 3 [Zi 2,Zi 0,Zs Zt,Zi 3,Zi 0,Zs Zt,Zi 4,Zi 0,Zs Zt]),(c,.cells [Zs Zt,.ptr ob 0,Zs Zt,Zs sb,Zl fp fq,.sl dm 0 1 0,Zi 1,Zz,.sl mr 0 1 0,Zz,Zz]),(mr,.row 329 1 1 [.ptr me 0]),(me,.cells [Zs Z4,Zb true,Zl zp zq,Zi 0,Ze,Zi 1,Zi 1,.sl dc 0 k 0,Zl hp hq,Zl gp gq,.sl cd 0 k 0])]:=by
 refine hf1 Tryz.func351 J Tryz.ntmps351 fun _ _ _ _=>?_;refine Zd (Za 1 [] [(4,Zp)] [] (Zx (Zy 4 [2] [] [] N [] [(2,Zc [Zs Zt,Zq ob 0,Zs Zt,Zs sb,Zl fp fq,Zk dm 0 1 0,Zi 1,Zz,Zk mr 0 1 0,Zz,Zz])] (Zx (Za 5 [2] [(9,Zq mc 0),(13,Zs Zt)] [] (Z0 [0,1] [1,0] Zj J J J J (Va (k:=1) J (by omega)) J ?_))))));refine Zx (Za 1 [] [(15,Zq c 0)] [] (Z0 [2,3,4] [4,3,2] Zj J J J J (J0 J J J J J) J (Za 1 [] [(5,Zp)] [] (Z1 (Zv (Zd (Za 3 [] [(17,Zb true)] [] (Zg (Yj J (Zd (Za 5 [0] [(20,Zq mc 0),(24,Zs Zt)] [] (Z0 [3,4] [4,3] Zj J J J J (Va (k:=2) J (by omega)) J ?_))))))))))));refine Zx (Za 1 [] [(4,Zp)] [] (Zg (Yc (Wu (Xg (Z5 [0,1,2,3,4] (.inr J) Zj J (by decide) ?_))))));exact ⟨_,J,J⟩
theorem start_m (hC:∀ N,HF Tryz.prog 18 [.agg [Zs Zt,Zs sb,Zl fp fq,.sl dm 0 1 0]] N [(dm,.row 134 10 1 [Zs Z4,Zb true,Zl zp zq,Zi 0,Ze,Zi 1,Zi 1,.sl dc 0 k 0,Zl hp hq,Zl gp gq]),(dc,.row 75 7 k cod)] fun u N' H'=>∃ θ:Kv,u=.tup [Zl θ.cp θ.cq,Zi θ.a,Zi θ.b,Zi 0]/\N'=N/\H'=[(dm,.row 134 10 1 [Zs Z4,Zb true,Zl zp zq,Zi 0,Ze,Zi 1,Zi 1,.sl dc 0 k 0,Zl hp hq,Zl gp gq]),(dc,.row 75 7 k cod)]):HF Tryz.prog 316 [.ptr mc 0,.ptr c 0] N [(mc,.cells [m0,m1,m2,m3,m4,m5,m6,.fn 18 [] [],m8,m9,Zz,m11,m12,m13,m14,.sl ev 0 1 0,m16]),(ev,.row 98 3 1 [Zi 2,Zi 0,Zs Zt]),(c,.cells [Zs Zt,.ptr ob 0,Zs Zt,Zs sb,Zl fp fq,.sl dm 0 1 0,Zi 0,Zz,.sl mr 0 1 0,Zz,Zz]),(mr,.row 329 1 1 [.ptr me 0]),(me,.cells [Zs Z4,Zb true,Zl zp zq,Zi 0,Ze,Zi 1,Zi 1,.sl dc 0 k 0,Zl hp hq,Zl gp gq,.sl cd 0 k 0]),(ob,obB),(dm,.row 134 10 1 [Zs Z4,Zb true,Zl zp zq,Zi 0,Ze,Zi 1,Zi 1,.sl dc 0 k 0,Zl hp hq,Zl gp gq]),(dc,.row 75 7 k cod)] fun u N' H'=>∃ ev,u=.tup [Zp,Zb false]/\H'=[(mc,.cells [m0,m1,m2,m3,m4,m5,m6,.fn 18 [] [],m8,m9,Zz,m11,m12,m13,m14,.sl ev 0 3 0,m16]),(ev,.row 98 3 3 [Zi 2,Zi 0,Zs Zt,Zi 3,Zi 0,Zs Zt,Zi 4,Zi 0,Zs Zt]),(c,.cells [Zs Zt,.ptr ob 0,Zs Zt,Zs sb,Zl fp fq,.sl dm 0 1 0,Zi 1,Zz,.sl mr 0 1 0,Zz,Zz]),(mr,.row 329 1 1 [.ptr me 0]),(me,.cells [Zs Z4,Zb true,Zl zp zq,Zi 0,Ze,Zi 1,Zi 1,.sl dc 0 k 0,Zl hp hq,Zl gp gq,.sl cd 0 k 0]),(ob,obB),(dm,.row 134 10 1 [Zs Z4,Zb true,Zl zp zq,Zi 0,Ze,Zi 1,Zi 1,.sl dc 0 k 0,Zl hp hq,Zl gp gq]),(dc,.row 75 7 k cod)]:=by
 refine hf1 Tryz.func316 J Tryz.ntmps316 fun _ _ _ _=>?_;refine Zd (Za 2 [] [(4,Zp),(5,Zb false)] [] (Z1 (Zd (Za 5 [2] [(11,Zb false)] [] (Zg (Z6 J (Ya (Yh (Za 1 [] [(12,Zq c 0)] [] (Z0 [2,5] [5,2] Zj J J J J (Cx) J (Za 1 [] [(6,Zq c 0)] [] (Z1 (Zv (Zd (Za 6 [0] [(14,Zb false)] [] (Zg (Z6 J (Zd (Za 2 [] [(23,Zq mc 0),(24,Zq c 0)] [] (Yn [2,0,6,7] [7,6,2,0] Zj J J J J (sound_m hC) ?_))))))))))))))))))));rintro _ N1 _ ⟨rfl,rfl⟩;refine ⟨_,J,?_⟩;refine Za 2 [] [(22,Zb false)] [] (Zg (Z6 J (Ya (Yb (Yh (Za 2 [] [(32,Zq mc 0),(33,Zq c 0)] [] (Yn [0,5,1,6,7] [7,6,5,1,0] Zj J J J J (Hw) ?_)))))));rintro _ N2 _ ⟨ev2,rfl,rfl⟩;refine ⟨_,J,?_⟩;refine Za 1 [] [(4,Zp)] [] (Zx (Za 5 [] [(4,Zp),(5,Zb false)] [] (Zg (Yc (Z5 [0,1,2,3,4,7,5,6] (.inr J) Zj J (by decide) ?_)))));exact ⟨_,J,J⟩
end
end S
namespace S
open Go Go.RowKit E
abbrev Vf:List SV:=[Zs xS,Zb true,Zi 1,Ze,Zi 0]
section
set_option maxRecDepth 10000
variable {N c sp rf rc rm:Nat} {nb sb:ByteArray} {j:Int} {k0 k1 k2 k3 k4 k5 k6 k7 k8 k9:SV}
theorem Aa:HF Tryz.prog 401 [.agg [Zi 1,Ze]] N [] fun u N' H'=>u=.ifc 3 (Zi 0)/\N'=N/\H'=[] :=
 Wq (bs:=[]) (Bs:=[]) (args:=[.agg [Zi 1,Ze]]) 1000 (by kernel_rfl) rfl (by decide) (fun _ _=>rfl)
theorem Na:HF Tryz.prog 393 [.ptr c 0,.agg [Zs xS,Zb true,Zi 1,Ze]] N [(c,.cells [k0,k1,k2,k3,k4,k5,k6,Zz,k8,Zz,Zz])] fun u N' H'=>∃ fr sr,u=.tup []/\H'=[(c,.cells [k0,k1,k2,k3,k4,k5,k6,.sl fr 0 1 0,k8,.sl sr 0 1 0,Zz]),(fr,.row 380 5 1 Vf),(sr,.row 366 1 1 [.ifc 3 (Zi 0)])]:=by
 refine hf1 Tryz.func393 J Tryz.ntmps393 fun _ _ _ _=>?_;refine Zd (Zy 1 [] [(3,Zq N 0)] [] (N+1) [(N,Zc [Zs xS,Zb true,Zi 1,Ze])] [] ?_);refine Zx (Za 4 [] [(4,Zq c 10)] [] (Z1 (Zd (Za 2 [0] [(9,Zb true)] [] (Zg (Yj J (Zo (Za 4 [] [(4,Zq c 9)] [] (Z1 ?_)))))))))
 refine Y0 [.ptr c 0,.ptr c 0,.ptr c 0,.ptr c 7,Zz,.agg [Zs xS,Zb true,Zi 1,Ze],.ptr c 9,.ptr c 9,Zz,Zi 0,.agg [Zs xS,Zb true,Zi 1,Ze,Zi 0],.sl (N+1) 0 1 0,.sl (N+2) 0 1 0,.ptr c 0,.ptr c 7,.tup []] [11,12,15] [(_,_),(_,_),(_,_)] [1,2,0,1] [] [] [] Yt
  ⟨fun _ _ _ _ _ _ _ kG=>Zy 1 [] [(24,Zk (N+1) 0 1 0)] [] (N+2) [((N+1),Zw 380 5 1 [Zs xS,Zb true,Zi 1,Ze,Zi 0])] [] kG,fun _ _ _ _ _ _ _ kG=>Ux (i':=0) (e:=380) (sz:=5) (by_:=56) (cc:=[Zs xS,Zb true,Zi 1,Ze,Zi 0]) [2,3] _ (by kernel_rfl) (by kernel_rfl) rfl rfl rfl rfl rfl rfl rfl rfl (by omega) (by omega) rfl (rfl) (by decide) rfl kG,fun _ _ _ _ _ _ _ kG=>Zy 1 [2] [] [] (N+3) [] [(2,Zc [k0,k1,k2,k3,k4,k5,k6,Zk (N+2) 0 1 0,k8,Zz,Zz])] kG,trivial⟩
  trivial rfl ?_
 refine Zr ?_
 refine Y0 [.ptr c 9,.ptr c 9,.ptr c 9,Zz,.ptr N 2,.agg [Zi 1,Ze],.ifc 3 (Zi 0),.sl (N+3) 0 1 0,.sl (N+4) 0 1 0,.ptr c 9,.tup []] [6,7,8,10] [(_,_),(_,_),(_,_),(_,_)] [2,2,3,1] [] [] [] Yt
  ⟨fun _ _ _ _ _ _ _ kG=>Z0 [] [] Zj rfl rfl rfl rfl (Aa) rfl kG,fun _ _ _ _ _ _ _ kG=>Zy 1 [] [(35,Zk (N+3) 0 1 0)] [] (N+4) [((N+3),Zw 366 1 1 [SV.ifc 3 (Zi 0)])] [] kG,fun _ _ _ _ _ _ _ kG=>Ux (i':=0) (e:=366) (sz:=1) (by_:=16) (cc:=[SV.ifc 3 (Zi 0)]) [2,3,4] _ (by kernel_rfl) (by kernel_rfl) rfl rfl rfl rfl rfl rfl rfl rfl (by omega) (by omega) rfl (rfl) (by decide) rfl kG,fun _ _ _ _ _ _ _ kG=>Zy 1 [3] [] [] (N+5) [] [(3,Zc [k0,k1,k2,k3,k4,k5,k6,Zk (N+2) 0 1 0,k8,Zk (N+4) 0 1 0,Zz])] kG,trivial⟩
  trivial rfl ?_
 refine Z5 [3,1,0] (.inl J) Zj J (by decide) ?_;exact ⟨_,_,J,J⟩
abbrev Xx (j:Int):List (List SV):=[e7 1 j,e7 27 0,e7 22 0]
theorem codeL_7:∀ x ∈ Xx j,Is7 x:=by
 intro x hx;rcases List.mem_cons.1 hx with rfl | hx
 ·exact ⟨_,_,_,_,_,_,_,J,J⟩
 ·rcases List.mem_cons.1 hx with rfl | hx
  ·exact ⟨_,_,_,_,_,_,_,J,J⟩
  ·cases List.mem_singleton.1 hx;exact ⟨_,_,_,_,_,_,_,J,J⟩
theorem Mb:HF Tryz.prog 380 [.agg [Zs nb,Zs sb,.sl rf 0 1 0,.sl rm 0 1 0],.ptr sp 0] N [(sp,.cells [k0,k1,k2,k3,k4,k5,k6,k7,k8,k9,Zz]),(rf,.row 128 4 1 [Zs xS,Zb true,Zi 1,Ze]),(rc,.row 75 7 3 [e7 1 j,e7 27 0,e7 22 0].flatten),(rm,.row 134 10 1 [Zs Ws,Zb true,Zz,Zi 0,Ze,Zi 0,Zi 1,.sl rc 0 3 0,Zz,Zz])] fun u N' H'=>∃ c fr sr mr me cd,u=.ptr c 0/\H'=[(c,.cells [Zs nb,.ptr sp 0,Zs nb,Zs sb,.sl rf 0 1 0,.sl rm 0 1 0,Zi 0,.sl fr 0 1 0,.sl mr 0 1 0,.sl sr 0 1 0,Zz]),(fr,.row 380 5 1 Vf),(sr,.row 366 1 1 [.ifc 3 (Zi 0)]),(mr,.row 329 1 1 [.ptr me 0]),(me,.cells ([Zs Ws,Zb true,Zz,Zi 0,Ze,Zi 0,Zi 1,.sl rc 0 3 0,Zz,Zz]++[.sl cd 0 3 0])),(cd,.row 475 8 3 (Wd (Xx j) 3))]++[(sp,.cells [k0,k1,k2,k3,k4,k5,k6,k7,k8,k9,Zz]),(rf,.row 128 4 1 [Zs xS,Zb true,Zi 1,Ze]),(rc,.row 75 7 3 [e7 1 j,e7 27 0,e7 22 0].flatten),(rm,.row 134 10 1 [Zs Ws,Zb true,Zz,Zi 0,Ze,Zi 0,Zi 1,.sl rc 0 3 0,Zz,Zz])]:=by
 refine hf1 Tryz.func380 J Tryz.ntmps380 fun _ _ _ _=>?_;refine Zd (Zy 2 [] [(2,Zq N 0),(4,Zp)] [] (N+1) [(N,Zc [Zs nb,Zs sb,Zk rf 0 1 0,Zk rm 0 1 0])] [] (Z1 ?_))
 refine Y0 [.ptr N 0,Zs nb,.ptr sp 0,.agg [Zs nb,Zs sb,.sl rf 0 1 0,.sl rm 0 1 0],.ptr sp 0,.ptr sp 0,.ptr sp 10,Zz,Zz,.agg [Zs nb,.ptr sp 0,Zs nb,Zs sb,.sl rf 0 1 0,.sl rm 0 1 0,Zi 0,Zz,Zz,Zz,Zz],.ptr (N+1) 0,.ptr (N+1) 0] [8,10] [(_,_),(_,_)] [0,0,0,0,1] [(5,Zq (N+1) 0)] [] [] Yt
  ⟨fun _ _ _ _ _ _ _ kG=>Z0 [] [] Zj rfl rfl rfl rfl (Tf) rfl kG,fun _ _ _ _ _ _ _ kG=>Zy 1 [] [(20,Zq (N+1) 0)] [] (N+2) [((N+1),Zc [Zs nb,Zq sp 0,Zs nb,Zs sb,Zk rf 0 1 0,Zk rm 0 1 0,Zi 0,Zz,Zz,Zz,Zz])] [] kG,trivial⟩
  trivial rfl ?_
 refine Zr (Z2 (Zd (Za 4 [1] [(22,Zk rf 0 1 0),(23,Zn 1),(24,Zi 0)] [] (Zg (Zv (Yv (Yg ?_)))))));refine Zd (Za 1 [] [(25,Zb true)] [] (Z1 (Yj J (Ya (Zr (Z2 (Zv (Zd (Zy 4 [3,0] [(7,Zq (N+2) 0)] [] (N+3) [((N+2),Zc [Zs xS,Zb true,Zi 1,Ze])] [] ?_)))))))));refine Zg (Zo (Za 2 [0] [(28,Zq (N+1) 0),(29,SV.agg [Zs xS,Zb true,Zi 1,Ze])] [] ?_));refine Yn [1] [1] Zj J J J J (Na) ?_;rintro _ N2 _ ⟨fr,sr,rfl,rfl⟩;refine ⟨_,J,?_⟩;refine Z7 (Yb (Zr (Zo (Za 2 [] [(24,Zi 1)] [] (Zg (Yg (Zd (Za 1 [] [(25,Zb false)] [] (Z1 (Z6 J (Yz (Z8 (Z8 (Xb (z:=.exit _) J (Yi (Zr (Z2 (Zd (Za 4 [4] [(33,Zk rm 0 1 0),(34,Zn 1),(35,Zi 0)] [] (Zg (Zv (Yv (Yg ?_)))))))))))))))))))))));refine Zd (Za 1 [] [(36,Zb true)] [] (Z1 (Yj J (Ya (Zr (Z2 (Zv (Zd (Zy 4 [8,0] [(9,Zq N2 0)] [] (N2+1) [(N2,Zc [Zs Ws,Zb true,Zz,Zi 0,Ze,Zi 0,Zi 1,Zk rc 0 3 0,Zz,Zz])] [] ?_)))))))));refine Zg ?_
 refine Y0 [.ptr (N+1) 0,.ptr (N+1) 0,.ptr (N+1) 0,.ptr (N+1) 8,Zz,.agg [Zs Ws,Zb true,Zz,Zi 0,Ze,Zi 0,Zi 1,.sl rc 0 3 0,Zz,Zz],.ptr (N2+1+1+3*3+1) 0,.sl (N2+1+1+3*3+2) 0 1 0,.sl ((N2+1+1+3*3+2)+1) 0 1 0,.ptr (N+1) 0,.ptr (N+1) 8,.tup []] [6,7,8,11] [(_,_),(_,_),(_,_),(_,_)] [1,4,5,0] [] [] [] Yt
  ⟨fun _ _ _ _ _ _ _ kG=>Z0 [8] [8] Zj rfl rfl rfl rfl (Ri (ins:=Xx j) rfl (by omega) codeL_7) rfl kG,fun _ _ _ _ _ _ _ kG=>Zy 1 [] [(46,Zk (N2+1+1+3*3+2) 0 1 0)] [] ((N2+1+1+3*3+2)+1) [((N2+1+1+3*3+2),Zw 329 1 1 [Zq (N2+1+1+3*3+1) 0])] [] kG,fun _ _ _ _ _ _ _ kG=>Ux (i':=0) (e:=329) (sz:=1) (by_:=8) (cc:=[Zq (N2+1+1+3*3+1) 0]) [2,3,4,5,6,7,8,9,10,11,12,13] _ (by kernel_rfl) (by kernel_rfl) rfl rfl rfl rfl rfl rfl rfl rfl (by omega) (by omega) rfl (rfl) (by decide) rfl kG,fun _ _ _ _ _ _ _ kG=>Zy 1 [5] [] [] ((N2+1+1+3*3+2)+2) [] [(5,Zc [Zs nb,Zq sp 0,Zs nb,Zs sb,Zk rf 0 1 0,Zk rm 0 1 0,Zi 0,Zk fr 0 1 0,Zk ((N2+1+1+3*3+2)+1) 0 1 0,Zk sr 0 1 0,Zz])] kG,trivial⟩
  trivial rfl ?_
 refine Yb (Zr (Zo (Za 2 [] [(35,Zi 1)] [] (Zg (Yg (Zd (Za 1 [] [(36,Zb false)] [] (Z1 (Z6 J (Yz (Z8 (Z8 (Xb (z:=.exit _) J (Yi (Yh (Za 2 [] [(4,Zq (N+1) 0)] [] (Zg (Yc (Z5 [5,6,7,0,1,2,10,11,3,12] (.inr J) Zj J (by decide) ?_)))))))))))))))))));exact ⟨_,_,_,_,_,_,J,J⟩
theorem Mc:HF Tryz.prog 380 [.agg [Zs nb,Zs sb,.sl rf 0 1 0,Zz],.ptr sp 0] N [(sp,.cells [k0,k1,k2,k3,k4,k5,k6,k7,k8,k9,Zz]),(rf,.row 128 4 1 [Zs xS,Zb true,Zi 1,Ze])] fun u N' H'=>∃ c fr sr,u=.ptr c 0/\H'=[(c,.cells [Zs nb,.ptr sp 0,Zs nb,Zs sb,.sl rf 0 1 0,Zz,Zi 0,.sl fr 0 1 0,Zz,.sl sr 0 1 0,Zz]),(fr,.row 380 5 1 Vf),(sr,.row 366 1 1 [.ifc 3 (Zi 0)])]++[(sp,.cells [k0,k1,k2,k3,k4,k5,k6,k7,k8,k9,Zz]),(rf,.row 128 4 1 [Zs xS,Zb true,Zi 1,Ze])]:=by
 refine hf1 Tryz.func380 J Tryz.ntmps380 fun _ _ _ _=>?_;refine Zd (Zy 2 [] [(2,Zq N 0),(4,Zp)] [] (N+1) [(N,Zc [Zs nb,Zs sb,Zk rf 0 1 0,Zz])] [] (Z1 ?_))
 refine Y0 [.ptr N 0,Zs nb,.ptr sp 0,.agg [Zs nb,Zs sb,.sl rf 0 1 0,Zz],.ptr sp 0,.ptr sp 0,.ptr sp 10,Zz,Zz,.agg [Zs nb,.ptr sp 0,Zs nb,Zs sb,.sl rf 0 1 0,Zz,Zi 0,Zz,Zz,Zz,Zz],.ptr (N+1) 0,.ptr (N+1) 0] [8,10] [(_,_),(_,_)] [0,0,0,0,1] [(5,Zq (N+1) 0)] [] [] Yt
  ⟨fun _ _ _ _ _ _ _ kG=>Z0 [] [] Zj rfl rfl rfl rfl (Tf) rfl kG,fun _ _ _ _ _ _ _ kG=>Zy 1 [] [(20,Zq (N+1) 0)] [] (N+2) [((N+1),Zc [Zs nb,Zq sp 0,Zs nb,Zs sb,Zk rf 0 1 0,Zz,Zi 0,Zz,Zz,Zz,Zz])] [] kG,trivial⟩
  trivial rfl ?_
 refine Zr (Z2 (Zd (Za 4 [1] [(22,Zk rf 0 1 0),(23,Zn 1),(24,Zi 0)] [] (Zg (Zv (Yv (Yg ?_)))))));refine Zd (Za 1 [] [(25,Zb true)] [] (Z1 (Yj J (Ya (Zr (Z2 (Zv (Zd (Zy 4 [3,0] [(7,Zq (N+2) 0)] [] (N+3) [((N+2),Zc [Zs xS,Zb true,Zi 1,Ze])] [] ?_)))))))));refine Zg (Zo (Za 2 [0] [(28,Zq (N+1) 0),(29,SV.agg [Zs xS,Zb true,Zi 1,Ze])] [] ?_));refine Yn [1] [1] Zj J J J J (Na) ?_;rintro _ N2 _ ⟨fr,sr,rfl,rfl⟩;refine ⟨_,J,?_⟩;refine Z7 (Yb (Zr (Zo (Za 2 [] [(24,Zi 1)] [] (Zg (Yg (Zd (Za 1 [] [(25,Zb false)] [] (Z1 (Z6 J (Yz (Z8 (Z8 (Xb (z:=.exit _) J (Yi (Zr (Z2 (Zd (Za 4 [4] [(33,Zz),(34,Zi 0),(35,Zi 0)] [] (Zg (Zv (Yv (Yg ?_)))))))))))))))))))))));refine Zd (Za 1 [] [(36,Zb false)] [] (Z1 (Z6 J (Yz (Z8 (Z8 (Xb (z:=.exit _) J (Yi (Yh (Za 2 [] [(4,Zq (N+1) 0)] [] (Zg (Yc (Z5 [0,1,2,5,6] (.inr J) Zj J (by decide) ?_)))))))))))));exact ⟨_,_,_,J,J⟩
end
end S
namespace S
open Go Go.RowKit E
structure CX where
 (c mr me:Nat) (k0 k2 k3 k4 k5 k6 k7 k9 k10 y7 y10:SV)
structure CD extends CX where
 b:Bool
def CD.mth (d:CD) (mr:Nat):SV:=match d.b with
 | true=>.sl mr 0 1 0
 | false=>.v (.slice none 0 0)
def CD.cB (d:CD) (f:SV->SV) (sup:SV) (mr:Nat):SB:=.cells [f d.k0,sup,f d.k2,f d.k3,f d.k4,f d.k5,f d.k6,f d.k7,d.mth mr,f d.k9,f d.k10]
def CD.mB (d:CD) (f:SV->SV):SB:=.cells [Zs Ws,Zb true,Zz,Zi 0,Ze,Zi 0,Zi 1,f d.y7,Zz,Zz,f d.y10]
def topC (ob:Nat):List CD->Nat
 | []=>ob
 | d::_=>d.c
def CD.tB (d:CD) (f:SV->SV):Ch:=match d.b with
 | true=>[(d.mr,.row 329 1 1 [.ptr d.me 0]),(d.me,d.mB f)]
 | false=>[]
def chH (f:SV->SV) (ob:Nat):List CD->Ch
 | []=>[(ob,obB)]
 | d::r=>(d.c,d.cB f (.ptr (topC ob r) 0) d.mr)::(d.tB f++chH f ob r)
def Kw (n:Nat):List CD->List SB
 | []=>[obB]
 | d::r=>match d.b with
  | true=>d.cB sh (.ptr (n+3) 0) (n+1)::.row 329 1 1 [.ptr (n+2) 0]::d.mB sh::Kw (n+3) r
  | false=>d.cB sh (.ptr (n+1) 0) 0::Kw (n+1) r
def No (ob:Nat):List CD->List Nat
 | []=>[ob]
 | d::r=>match d.b with
  | true=>d.c::d.mr::d.me::No ob r
  | false=>d.c::No ob r
section
set_option maxRecDepth 100000
variable {N mc ob:Nat} {x:Mfx}
noncomputable def outK (r:Option Rs) (bs:List Nat) (N:Nat):Option (SV × Ch):=match r with
 | some (.val v σ)=>(bif Nat.ble σ.n 15000&&Nat.ble bs.length σ.n then some (ren (rho bs N) v,Yd (outH bs N σ) (List.range bs.length)) else none)
 | _=>none
theorem Q1 {f:FuncId} {args:List SV} {bs:List Nat} {Bs:List SB} {v:SV} (k:Nat) (h:outK (R1 k (.call f args (stOf Bs))) bs N=some (v,inH bs N Bs)) (hl:bs.length=Bs.length) (hlim:Bs.length<=1000) :
  HF Tryz.prog f (X3 (rho bs N) args) N (inH bs N Bs) fun u _ H'=>u=v/\H'=inH bs N Bs:=by
 cases hr:R1 k (.call f args (stOf Bs)) with
 | none=>rw [hr] at h;cases h
 | some r =>
  cases r with
  | val w σ =>
   rw [hr] at h;unfold outK at h;simp only at h;cases hb:(Nat.ble σ.n 15000&&Nat.ble bs.length σ.n) with
   | false=>rw [hb] at h;cases h
   | true =>
    rw [hb] at h;simp only [cond_true,Option.some.injEq,Prod.mk.injEq] at h;rw [Bool.and_eq_true,hl] at hb;have:=HF.less (List.range bs.length) (Rj (N:=N) (Rk k _ _ hr) hl hlim hb.1 hb.2) List.nodup_range h.2;rw [h.1] at this;exact this.mono fun u N' H' h=>⟨h.1,h.2.2⟩
  | _=>rw [hr] at h;cases h
theorem O7:∀ (l:List CD) (n:Nat),(No ob l).length=(Kw n l).length
 | [],n=>rfl
 | d::r,n=>by
  unfold No Kw;cases d.b with
  | true=>simp only [List.length_cons,O7 r (n+3)]
  | false=>simp only [List.length_cons,O7 r (n+1)]
theorem Ku:∀ (l:List CD) (n:Nat),(Kw n l).length<=3*l.length+1
 | [],n=>Nat.le_refl _
 | d::r,n=>by
  unfold Kw;cases d.b with
  | true=>have:=Ku r (n+3);simp only [List.length_cons];omega
  | false=>have:=Ku r (n+1);simp only [List.length_cons];omega
theorem Yw {d:CD} {r:List CD} (hb:d.b=true) (hr:r.length<=7) (h:outK (R1 6000 (.call 391 [.sl 1 0 1 0,.fn 392 [.ptr 0 0] []] (stOf (Kw 0 (d::r))))) (No ob (d::r)) N=some (Zb false,inH (No ob (d::r)) N (Kw 0 (d::r))))
  (hI:inH (No ob (d::r)) N (Kw 0 (d::r))=chH (fun y=>ren (rho (No ob (d::r)) N) (sh y)) ob (d::r)) (ha:X3 (rho (No ob (d::r)) N) [.sl 1 0 1 0,.fn 392 [.ptr 0 0] []]=[.sl d.mr 0 1 0,.fn 392 [.ptr d.c 0] []]) :
  HF Tryz.prog 391 [.sl d.mr 0 1 0,.fn 392 [.ptr d.c 0] []] N (chH id ob (d::r)) fun u N' H'=>u=Zb false/\N'=N/\H'=chH id ob (d::r):=by
 have hle:=Ku (d::r) 0;have hlen:=O7 (ob:=ob) (d::r) 0;simp only [List.length_cons] at hle;have h1:=Q1 (N:=N) 6000 h hlen (by omega);rw [ha,hI,show (fun y=>ren (rho (No ob (d::r)) N) (sh y))=id from funext fun y=>X7 (by unfold lim;omega) y] at h1;have h2:=HF.forget (v:=Zb false) (List.range (chH id ob (d::r)).length) h1 List.nodup_range (fun _ _=>rfl) (fun u N' H' h=>⟨h.1,fun p hp=>by rw [h.2];exact Yq hp⟩)
 have e:Yd (chH id ob (d::r)) (List.range (chH id ob (d::r)).length)=chH id ob (d::r):=by
  have:=Uq [] (chH id ob (d::r));simp only [List.nil_append,List.length_nil] at this;rw [List.range_eq_range'];exact this
 rw [e] at h2;exact h2
theorem con_0 {x:CX}:∀ r:List CD,r.length=0->HF Tryz.prog 391 [.sl x.mr 0 1 0,.fn 392 [.ptr x.c 0] []] N (chH id ob (⟨x,true⟩::r)) fun u N' H'=>u=Zb false/\N'=N/\H'=chH id ob (⟨x,true⟩::r)
 | [],_=>by
  exact Yw J (Nat.le_of_ble_eq_true J) (by as_aux_lemma=>kernel_rfl) (by kernel_rfl) (by kernel_rfl)
 | _::_,h=>by simp at h
theorem con_1 {x:CX}:∀ r:List CD,r.length=1->HF Tryz.prog 391 [.sl x.mr 0 1 0,.fn 392 [.ptr x.c 0] []] N (chH id ob (⟨x,true⟩::r)) fun u N' H'=>u=Zb false/\N'=N/\H'=chH id ob (⟨x,true⟩::r)
 | [⟨_,b1⟩],_=>by
  cases b1<;>exact Yw rfl (Nat.le_of_ble_eq_true rfl) (by as_aux_lemma=>kernel_rfl) (by kernel_rfl) (by kernel_rfl)
 | [],h=>by cases h
 | _::_::_,h=>by simp at h
theorem con_2 {x:CX}:∀ r:List CD,r.length=2->HF Tryz.prog 391 [.sl x.mr 0 1 0,.fn 392 [.ptr x.c 0] []] N (chH id ob (⟨x,true⟩::r)) fun u N' H'=>u=Zb false/\N'=N/\H'=chH id ob (⟨x,true⟩::r)
 | [⟨_,b1⟩,⟨_,b2⟩],_=>by
  cases b1<;>cases b2<;>exact Yw rfl (Nat.le_of_ble_eq_true rfl) (by as_aux_lemma=>kernel_rfl) (by kernel_rfl) (by kernel_rfl)
 | [],h=>by cases h
 | [_],h=>by cases h
 | _::_::_::_,h=>by simp at h
theorem con_3 {x:CX}:∀ r:List CD,r.length=3->HF Tryz.prog 391 [.sl x.mr 0 1 0,.fn 392 [.ptr x.c 0] []] N (chH id ob (⟨x,true⟩::r)) fun u N' H'=>u=Zb false/\N'=N/\H'=chH id ob (⟨x,true⟩::r)
 | [⟨_,b1⟩,⟨_,b2⟩,⟨_,b3⟩],_=>by
  cases b1<;>cases b2<;>cases b3<;>exact Yw rfl (Nat.le_of_ble_eq_true rfl) (by as_aux_lemma=>kernel_rfl) (by kernel_rfl) (by kernel_rfl)
 | [],h=>by cases h
 | [_],h=>by cases h
 | [_,_],h=>by cases h
 | _::_::_::_::_,h=>by simp at h
theorem con_4 {x:CX}:∀ r:List CD,r.length=4->HF Tryz.prog 391 [.sl x.mr 0 1 0,.fn 392 [.ptr x.c 0] []] N (chH id ob (⟨x,true⟩::r)) fun u N' H'=>u=Zb false/\N'=N/\H'=chH id ob (⟨x,true⟩::r)
 | [⟨_,b1⟩,⟨_,b2⟩,⟨_,b3⟩,⟨_,b4⟩],_=>by
  cases b1<;>cases b2<;>cases b3<;>cases b4<;>exact Yw rfl (Nat.le_of_ble_eq_true rfl) (by as_aux_lemma=>kernel_rfl) (by kernel_rfl) (by kernel_rfl)
 | [],h=>by cases h
 | [_],h=>by cases h
 | [_,_],h=>by cases h
 | [_,_,_],h=>by cases h
 | _::_::_::_::_::_,h=>by simp at h
end
end S
end Go.Proofs.YtpofmnfkdkmieaaGreat
