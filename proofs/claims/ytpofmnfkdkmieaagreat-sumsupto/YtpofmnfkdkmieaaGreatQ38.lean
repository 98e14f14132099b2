/- What is proved here: check.Class and Check of a class whose o -/
import Derived.Test.YtpofmnfkdkmieaaGreatQ37
import Derived.Test.YtpofmnfkdkmieaaGreatQ32
import Derived.Test.YtpofmnfkdkmieaaGreatQ06
import Derived.Test.YtpofmnfkdkmieaaGreatQ07
set_option linter.unusedVariables false
set_option linter.unusedSimpArgs false
namespace Go.Proofs.YtpofmnfkdkmieaaGreat
namespace S
open Go Go.RowKit E At
section
set_option maxRecDepth 10000
variable {nb:ByteArray} {k p0:Nat} {ins:List (Nat × Int)} {dp:Int} {dm dc N:Nat} {θ:Dg k ins}
noncomputable abbrev goH (N:Nat) (dp:Int) (dm dc:Nat) (nb:ByteArray) (θ:Dg k ins):Ch:=[(N+118,.cells [Zs nb,Zs (nmB 0),Zl θ.1.fp θ.1.fq,.sl dm 0 1 0,.mp (N+1),Zi 0,Zs Xa,Zb true,Zl θ.1.zp θ.1.zq,Zi 0,Ze,Zi 3,Zi dp,.sl dc 0 k 0,Zl θ.1.hp θ.1.hq,Zl θ.1.gp θ.1.gq,Zi 0,Zz,Zz,Zb false]),(N+96,.row 264 4 33 (tabK (N+2)))]++bxs (N+2)++[(dc,.row 75 7 k θ.1.i7.flatten)]
theorem go_ok (hk:ins.length=k) (hkb:k<=1000) (hpl:Plain ins) (hd:∀ q,q<=k->(Yq ins q:Int)<=dp):HF Tryz.prog 105 [.ptr (N+118) 0,.sl (N+96) 0 33 0] (N+119) (goH N dp dm dc nb θ) fun u N' H'=>u=.tup []/\N'=N+119/\H'=[(dc,.row 75 7 k θ.1.i7.flatten)] :=
 HF.forget [9] (Zbt (T:=N+2) hk hkb θ.2.2.1 θ.2.2.2 hpl hd) (by decide) (fun _ _=>rfl) (fun u N' H' h=>⟨h.1,fun p hp=>by rw [h.2];exact hp⟩)
theorem Ztt (hk:ins.length=k) (hkb:k<=1000) (hnb:Uq nb) (hdp:Yu dp) (hin:∀ x ∈ ins,Yu (.ofNat x.1)/\Yu x.2) (hcl:Xg ⟨nb,nmB 0,[],[Wk dp (ins.map Ww)]⟩=true) (hpl:Plain ins) (hd:∀ q,q<=k->(Yq ins q:Int)<=dp):HF Tryz.prog 58 [.agg [Zs nb,Zs (nmB 0),Zl θ.1.fp θ.1.fq,.sl dm 0 1 0]] N (Zm dm dc dp θ) fun u N' H'=>u=Zz/\N'=N+124/\H'=(Zm dm dc dp θ):=by
 have hgo:=go_ok (N:=N) (dm:=dm) (dc:=dc) (nb:=nb) (θ:=θ) hk hkb hpl hd;refine hf1 Tryz.func58 J Tryz.ntmps58 fun _ _ _ _=>?_;refine Zu (Z9 2 [] [(1,Zq N 0),(2,Zz)] [] (N+1) [(N,Zc [Zs nb,Zs (nmB 0),Zl θ.1.fp θ.1.fq,Zk dm 0 1 0])] [] (Yh (Zg 1 [0] [(8,SV.agg [Zs nb,Zs (nmB 0),Zl θ.1.fp θ.1.fq,Zk dm 0 1 0])] [] (Yl [1,2] [2,1] Z6 J J J J (J0 hk hkb hnb hdp hin hcl θ dm dc _) J (Yh (Z9 2 [] [(3,SV.mp (N+1))] [] (N+2) [((N+1),SB.map [])] [] (Yh (Yl [] [] Z6 J J J J (Zdx) J (Zg 1 [] [(4,Zk (N+96) 0 33 0)] [] (Yi (Zu (Zg 4 [11] [(13,Zk dm 0 1 0),(14,Zn 1),(15,Zi 0)] [] (Zv (Ye (U7 (W1 ?_))))))))))))))));refine Zu (Zg 1 [] [(16,Zb true)] [] (Yi (Xr J (Yp (Z2 (Yb (Ye (Zu (Z9 6 [9,0] [(6,Zq (N+117) 0),(5,Zi 0)] [] (N+118) [((N+117),Zc [Zs Xa,Zb true,Zl θ.1.zp θ.1.zq,Zi 0,Ze,Zi 3,Zi dp,Zk dc 0 k 0,Zl θ.1.hp θ.1.hq,Zl θ.1.gp θ.1.gq])] [] ?_)))))))));refine Yh (Z9 7 [12,0,0] [(7,Zq (N+118) 0)] [] (N+119) [((N+118),Zc [Zs nb,Zs (nmB 0),Zl θ.1.fp θ.1.fq,Zk dm 0 1 0,SV.mp (N+1),Zi 0,Zs Xa,Zb true,Zl θ.1.zp θ.1.zq,Zi 0,Ze,Zi 3,Zi dp,Zk dc 0 k 0,Zl θ.1.hp θ.1.hq,Zl θ.1.gp θ.1.gq,Zi 0,Zz,Zz,Zb false])] [] ?_);refine Zv (Z0 (Zg 1 [] [(25,Zk (N+96) 0 33 0)] [] (Yl [0,2,3,4,5,6,7,8,9,12] [12,9,8,7,6,5,4,3,2,0] Z6 J J J J (hgo) J (Yn (Y1 (Z2 (Z0 (Zg 2 [] [(15,Zi 1)] [] (Zv (W1 (Zu (Zg 1 [] [(16,Zb false)] [] (Yi (Yw J (Uo (Y0 (Y0 (Re (z:=.exit _) J (Wj (Xj (Zg 1 [] [(28,SV.mp (N+1))] [] (Yl [2] [2] Z6 J J J J (Zbp) J (Zg 1 [] [(2,Zz)] [] (Zv (Yv (Yo [3,1] (.inr J) Z6 J (by decide) ?_))))))))))))))))))))))))));exact ⟨J,J,J⟩
theorem Ztu (hk:ins.length=k) (hkb:k<=1000) (hnb:Uq nb) (hdp:Yu dp) (hin:∀ x ∈ ins,Yu (.ofNat x.1)/\Yu x.2) (hcl:Xg ⟨nb,nmB 0,[],[Wk dp (ins.map Ww)]⟩=true) (hpl:Plain ins) (hp0:p0<k) (hd:∀ q,q<=p0->(Yq ins q:Int)<=dp) (hd':¬ (Yq ins (p0+1):Int)<=dp):HP Tryz.prog 58 [.agg [Zs nb,Zs (nmB 0),Zl θ.1.fp θ.1.fq,.sl dm 0 1 0]] N (Zm dm dc dp θ) (.iface 143 (.agg #[.int .i64 0,.int .i64 (.ofNat p0)])):=by
 have hgo:=Zbu (N:=N+119) (w:=N+118) (T:=N+2) (dc:=dc) (zp:=θ.1.zp) (zq:=θ.1.zq) (hp:=θ.1.hp) (hq:=θ.1.hq) (gp:=θ.1.gp) (gq:=θ.1.gq) (c0:=Zs nb) (c1:=Zs (nmB 0)) (c2:=Zl θ.1.fp θ.1.fq) (c3:=.sl dm 0 1 0) (gr:=.mp (N+1)) (m0:=Zs Xa) (m4:=Ze) (nu:=0) hk hkb θ.2.2.1 θ.2.2.2 hpl hp0 hd hd';refine hp1 Tryz.func58 J Tryz.ntmps58 fun _ _ _ _=>?_;refine Zu (Z9 2 [] [(1,Zq N 0),(2,Zz)] [] (N+1) [(N,Zc [Zs nb,Zs (nmB 0),Zl θ.1.fp θ.1.fq,Zk dm 0 1 0])] [] (Yh (Zg 1 [0] [(8,SV.agg [Zs nb,Zs (nmB 0),Zl θ.1.fp θ.1.fq,Zk dm 0 1 0])] [] (Yl [1,2] [2,1] Z6 J J J J (J0 hk hkb hnb hdp hin hcl θ dm dc _) J (Yh (Z9 2 [] [(3,SV.mp (N+1))] [] (N+2) [((N+1),SB.map [])] [] (Yh (Yl [] [] Z6 J J J J (Zdx) J (Zg 1 [] [(4,Zk (N+96) 0 33 0)] [] (Yi (Zu (Zg 4 [11] [(13,Zk dm 0 1 0),(14,Zn 1),(15,Zi 0)] [] (Zv (Ye (Zvh (α:=Unit) (st:=(fun _=>[(1,.ptr N 0),(3,.mp (N+1)),(4,.sl (N+96) 0 33 0),(13,.sl dm 0 1 0),(14,Zn 1),(15,Zn 0)])) (nn:=(fun _=>N+117)) (hh:=(fun _=>[(N,.cells [Zs nb,Zs (nmB 0),Zl θ.1.fp θ.1.fq,.sl dm 0 1 0]),(N+96,.row 264 4 33 (tabK (N+2)))]++bxs (N+2)++(Zm dm dc dp θ))) () [11,0,1,2,3,4,5,6,7,9,10] ⟨J,J,J,J,J,J,trivial⟩ J (by decide) J ?_)))))))))))))));refine Iz (α:=Unit) (fun _=>0) (fun _=>[(1,.ptr N 0),(3,.mp (N+1)),(4,.sl (N+96) 0 33 0),(13,.sl dm 0 1 0),(14,Zn 1),(15,Zn 0)]) (fun _=>N+117) (fun _=>[(N,.cells [Zs nb,Zs (nmB 0),Zl θ.1.fp θ.1.fq,.sl dm 0 1 0]),(N+96,.row 264 4 33 (tabK (N+2)))]++bxs (N+2)++(Zm dm dc dp θ)) () ?_;rintro (⟨⟩)
 ·skip
  refine Zu (Zg 1 [] [(16,Zb true)] [] (Yi (Xr J (Yp (Z2 (Yb (Ye (Zu (Z9 6 [9,0] [(6,Zq (N+117) 0),(5,Zn 0)] [] (N+118) [((N+117),Zc [Zs Xa,Zb true,Zl θ.1.zp θ.1.zq,Zi 0,Ze,Zi 3,Zi dp,Zk dc 0 k 0,Zl θ.1.hp θ.1.hq,Zl θ.1.gp θ.1.gq])] [] ?_)))))))));refine Yh (Z9 7 [1,0,0] [(7,Zq (N+118) 0)] [] (N+119) [((N+118),Zc [Zs nb,Zs (nmB 0),Zl θ.1.fp θ.1.fq,Zk dm 0 1 0,SV.mp (N+1),Zn 0,Zs Xa,Zb true,Zl θ.1.zp θ.1.zq,Zi 0,Ze,Zi 3,Zi dp,Zk dc 0 k 0,Zl θ.1.hp θ.1.hq,Zl θ.1.gp θ.1.gq,Zi 0,Zz,Zz,Zb false])] [] ?_);refine Zv (Z0 (Zg 1 [] [(25,Zk (N+96) 0 33 0)] [] (Nk [0,3,4,5,6,7,8,9,10,12] [12,10,9,8,7,6,5,4,3,0] Z6 J J J J (hgo) (fun _=>?_))));refine Gk (Qe (Ziy (Gk (Qe ?_))));exact Sg
theorem Zoe {b:Nat} (hk:ins.length=k) (hkb:k<=1000) (hnb:Uq nb) (hdp:Yu dp) (hin:∀ x ∈ ins,Yu (.ofNat x.1)/\Yu x.2) (hcl:Xg ⟨nb,nmB 0,[],[Wk dp (ins.map Ww)]⟩=true) (hpl:Plain ins) (hd:∀ q,q<=k->(Yq ins q:Int)<=dp):HF Tryz.prog 57 [.ptr b 0] N ((b,.cells [Zs nb,Zs (nmB 0),Zl θ.1.fp θ.1.fq,.sl dm 0 1 0])::(Zm dm dc dp θ)) fun u N' H'=>u=Zz/\N'=N+124/\H'=(b,.cells [Zs nb,Zs (nmB 0),Zl θ.1.fp θ.1.fq,.sl dm 0 1 0])::(Zm dm dc dp θ):=by
 refine hf1 Tryz.func57 J Tryz.ntmps57 fun _ _ _ _=>?_;refine Zu (Zg 1 [] [(1,Zz)] [] (Yh (Zg 1 [0] [(2,SV.agg [Zs nb,Zs (nmB 0),Zl θ.1.fp θ.1.fq,Zk dm 0 1 0])] [] (Yl [1,2] [2,1] Z6 J J J J (Ztt hk hkb hnb hdp hin hcl hpl hd) J (Zg 1 [] [(1,Zz)] [] (Zv (Yv (Yo [2,0,1] (.inr J) Z6 J (by decide) ?_))))))));exact ⟨J,J,J⟩
theorem Zof {b:Nat} (hk:ins.length=k) (hkb:k<=1000) (hnb:Uq nb) (hdp:Yu dp) (hin:∀ x ∈ ins,Yu (.ofNat x.1)/\Yu x.2) (hcl:Xg ⟨nb,nmB 0,[],[Wk dp (ins.map Ww)]⟩=true) (hpl:Plain ins) (hp0:p0<k) (hd:∀ q,q<=p0->(Yq ins q:Int)<=dp) (hd':¬ (Yq ins (p0+1):Int)<=dp):HP Tryz.prog 57 [.ptr b 0] N ((b,.cells [Zs nb,Zs (nmB 0),Zl θ.1.fp θ.1.fq,.sl dm 0 1 0])::(Zm dm dc dp θ)) (.iface 143 (.agg #[.int .i64 0,.int .i64 (.ofNat p0)])):=by
 refine hp1 Tryz.func57 J Tryz.ntmps57 fun _ _ _ _=>?_;refine Zu (Zg 1 [] [(1,Zz)] [] (Yh (Zg 1 [0] [(2,SV.agg [Zs nb,Zs (nmB 0),Zl θ.1.fp θ.1.fq,Zk dm 0 1 0])] [] (Nk [1,2] [2,1] Z6 J J J J (Ztu hk hkb hnb hdp hin hcl hpl hp0 hd hd') (fun _=>?_)))));refine Qe ?_;exact Sg
theorem Zim {b:Nat} (hk:ins.length=k) (hkb:k<=1000) (hnb:Uq nb) (hdp:Yu dp) (hin:∀ x ∈ ins,Yu (.ofNat x.1)/\Yu x.2) (hcl:Xg ⟨nb,nmB 0,[],[Wk dp (ins.map Ww)]⟩=true) (hpl:Plain ins) (hd:∀ q,q<=k->(Yq ins q:Int)<=dp):HF Tryz.prog 56 [.fn 57 [] [.ptr b 0]] N ((b,.cells [Zs nb,Zs (nmB 0),Zl θ.1.fp θ.1.fq,.sl dm 0 1 0])::(Zm dm dc dp θ)) fun u N' H'=>u=.tup [Zz,Zf]/\N'=N+125/\H'=(b,.cells [Zs nb,Zs (nmB 0),Zl θ.1.fp θ.1.fq,.sl dm 0 1 0])::(Zm dm dc dp θ):=by
 refine hf1 Tryz.func56 J Tryz.ntmps56 fun _ _ _ _=>?_;refine Zu (Z9 2 [] [(2,Zz),(3,Zq N 0)] [] (N+1) [(N,Zc [Zf])] [] (Yh (Zg 1 [] [(4,Zh 102 [] [Zq N 0])] [] (Ziz J J J J J (Yh (Zg 1 [] [(5,Zh 57 [] [Zq b 0])] [] (Yl [1,2,3] [3,2,1] Z6 J J J J (Zoe hk hkb hnb hdp hin hcl hpl hd) J (Zg 2 [3] [(2,Zz)] [] (Zv (Yv (Zlu (i:=0) (j:=3) (El:=[(2,Zz),(3,.ptr 1 0)]) (m:=[Zz,Zf]) (.inr J) Z6 Zii J J J (by decide) ⟨J,J,trivial⟩ (by kernel_rfl) (fun _ h=>h.pick (is:=[0,1,2]) (by decide)) ?_)))))))))));exact ⟨J,J,J⟩
theorem Zin {b:Nat} (hk:ins.length=k) (hkb:k<=1000) (hnb:Uq nb) (hdp:Yu dp) (hin:∀ x ∈ ins,Yu (.ofNat x.1)/\Yu x.2) (hcl:Xg ⟨nb,nmB 0,[],[Wk dp (ins.map Ww)]⟩=true) (hpl:Plain ins) (hp0:p0<k) (hd:∀ q,q<=p0->(Yq ins q:Int)<=dp) (hd':¬ (Yq ins (p0+1):Int)<=dp):HF Tryz.prog 56 [.fn 57 [] [.ptr b 0]] N ((b,.cells [Zs nb,Zs (nmB 0),Zl θ.1.fp θ.1.fq,.sl dm 0 1 0])::(Zm dm dc dp θ)) fun u N' H'=>u=.tup [Zz,.ifc 143 (.agg [Zi 0,Zn p0])]/\N'=N/\H'=[]:=by
 refine HF.forget (R:=fun u _ H'=>u=.tup [Zz,.ifc 143 (.agg [Zi 0,Zn p0])]/\H'=[]) [] ?_ (by decide) (fun _ _=>J) (fun u N' H' h=>⟨h.1,fun p hp=>by cases hp⟩);refine hfOf Tryz.func56 J (by rw [Tryz.ntmps56];rfl) fun w0 F B0 G0=>?_;rw [Tryz.ntmps56];refine Yb (Z0 (Z9 2 [] [(2,Zz),(3,Zq N 0)] [] (N+1) [(N,Zc [Zf])] [] (Yn (Z2 (Yb (Z0 (Zg 1 [] [(4,Zh 102 [] [Zq N 0])] [] (Ziz J J J J J (Yn (Z2 (Yb (Z0 (Zg 1 [] [(5,Zh 57 [] [Zq b 0])] [] (Nk [1,2,3] [3,2,1] Z6 J J J J (Zof hk hkb hnb hdp hin hcl hpl hp0 hd hd') (fun _=>?_)))))))))))))));refine Qe (HQ_finR (j:=0) (El:=[(2,Zz),(3,.ptr 0 0)]) (vx:=.ifc 143 (.agg [Zi 0,Zn p0])) (m:=[Zz,.ifc 143 (.agg [Zi 0,Zn p0])]) Z6 (rcBelow _ _) (fun _=>J) J J ⟨J,J,trivial⟩ (by kernel_rfl) (fun _ h=>h.pick (is:=[]) (by decide)) ?_);exact ⟨J,J⟩
theorem Zoz:HF Tryz.prog 59 [Zf] N [] fun u N' H'=>u=.tup [.agg [Zi 0,Zi 0],Zi 0]/\N'=N+1/\H'=[]:=by
 refine hf1 Tryz.func59 J Tryz.ntmps59 fun _ _ _ _=>?_;refine Zu (Z9 2 [] [(2,Zq N 0),(3,Zi 0)] [] (N+1) [(N,Zc [Zi 0,Zi 0])] [] (Yi (Zu (Zg 1 [] [(6,Zf)] [] (Zv (Ye (Zu (Zg 1 [] [(7,Zb true)] [] (Zv (Xr J (Zu (Zg 1 [] [] [] (Yh (Zg 3 [0] [(3,Zi 0)] [] (Zv (Yv (We (Xm ?_))))))))))))))))));refine Qj (i:=0) (El:=[(2,.ptr 0 0),(3,sh (Zi 0))]) (m:=[.agg [Zi 0,Zi 0],Zi 0]) [] (.inr J) Z6 J ⟨J,by rw [Ts (by unfold lim;simp)];rfl,trivial⟩ (by kernel_rfl) (by decide) ?_;exact ⟨J,J,J⟩
theorem Zgo {a b:Int}:HF Tryz.prog 59 [.ifc 143 (.agg [Zi a,Zi b])] N [] fun u N' H'=>u=.tup [.agg [Zi a,Zi b],Zi 2]/\N'=N+2/\H'=[]:=by
 refine hf1 Tryz.func59 J Tryz.ntmps59 fun _ _ _ _=>?_;refine Zu (Z9 2 [] [(2,Zq N 0),(3,Zi 0)] [] (N+1) [(N,Zc [Zi 0,Zi 0])] [] (Yi (Zu (Zg 1 [] [(6,SV.ifc 143 (SV.agg [Zi a,Zi b]))] [] (Zv (Ye (Zu (Zg 1 [] [(7,Zb false)] [] (Zv (Yw J (Zu (Zg 3 [] [(10,Zb true),(11,SV.agg [Zi a,Zi b])] [] (Zv (Xr J (Zu (Z9 2 [0] [(5,Zq (N+1) 0)] [] (N+2) [((N+1),Zc [Zi a,Zi b])] [] (Yh (Z9 3 [0,1] [(3,Zi 2)] [] (N+2) [] [(1,Zc [Zi a,Zi b])] (Zv (Yv (We (Xm ?_))))))))))))))))))))));refine Qj (i:=1) (El:=[(2,.ptr 0 0),(3,sh (Zi 2))]) (m:=[.agg [Zi a,Zi b],Zi 2]) [] (.inr J) Z6 J ⟨J,by rw [Ts (by unfold lim;simp)];rfl,trivial⟩ (by kernel_rfl) (by decide) ?_;exact ⟨J,J,J⟩
theorem Ztw (hk:ins.length=k) (hkb:k<=1000) (hnb:Uq nb) (hdp:Yu dp) (hin:∀ x ∈ ins,Yu (.ofNat x.1)/\Yu x.2) (hcl:Xg ⟨nb,nmB 0,[],[Wk dp (ins.map Ww)]⟩=true) (hpl:Plain ins) (hd:∀ q,q<=k->(Yq ins q:Int)<=dp):HF Tryz.prog 18 [.agg [Zs nb,Zs (nmB 0),Zl θ.1.fp θ.1.fq,.sl dm 0 1 0]] N (Zm dm dc dp θ) fun u N' H'=>u=.tup [Zz,Zi 0,Zi 0,Zi 0]/\N'=N+128/\H'=(Zm dm dc dp θ):=by
 refine hf1 Tryz.func18 J Tryz.ntmps18 fun _ _ _ _=>?_;refine Zu (Z9 5 [] [(1,Zq N 0),(2,Zz),(3,Zi 0),(4,Zi 0),(5,Zi 0)] [] (N+1) [(N,Zc [Zs nb,Zs (nmB 0),Zl θ.1.fp θ.1.fq,Zk dm 0 1 0])] [] (Yh (Zg 1 [] [(11,Zh 57 [] [Zq N 0])] [] (Yl [0,1,2] [2,1,0] Z6 J J J J (Zim hk hkb hnb hdp hin hcl hpl hd) J (Zg 5 [] [(6,Zz),(7,Zf)] [] (Yh (Zg 1 [] [(16,Zf)] [] (Yl [] [] Z6 J J J J (Zoz) J (Z9 6 [0] [(8,Zq (N+127) 0),(9,Zi 0)] [] (N+128) [((N+127),Zc [Zi 0,Zi 0])] [] (Yi (I0 Xy [0,0] [(2,Zz),(3,Zi 0),(4,Zi 0),(5,Zi 0)] [] (Z2 (Yv (Yo [2,3] (.inr J) Z6 J (by decide) ?_))))))))))))));exact ⟨J,J,J⟩
theorem Ztx (hk:ins.length=k) (hkb:k<=1000) (hnb:Uq nb) (hdp:Yu dp) (hin:∀ x ∈ ins,Yu (.ofNat x.1)/\Yu x.2) (hcl:Xg ⟨nb,nmB 0,[],[Wk dp (ins.map Ww)]⟩=true) (hpl:Plain ins) (hp0:p0<k) (hd:∀ q,q<=p0->(Yq ins q:Int)<=dp) (hd':¬ (Yq ins (p0+1):Int)<=dp):HF Tryz.prog 18 [.agg [Zs nb,Zs (nmB 0),Zl θ.1.fp θ.1.fq,.sl dm 0 1 0]] N (Zm dm dc dp θ) fun u N' H'=>u=.tup [Zz,Zi 0,Zn p0,Zi 2]/\N'=N+4/\H'=[]:=by
 refine hf1 Tryz.func18 J Tryz.ntmps18 fun _ _ _ _=>?_;refine Zu (Z9 5 [] [(1,Zq N 0),(2,Zz),(3,Zi 0),(4,Zi 0),(5,Zi 0)] [] (N+1) [(N,Zc [Zs nb,Zs (nmB 0),Zl θ.1.fp θ.1.fq,Zk dm 0 1 0])] [] (Yh (Zg 1 [] [(11,Zh 57 [] [Zq N 0])] [] (Yl [0,1,2] [2,1,0] Z6 J J J J (Zin hk hkb hnb hdp hin hcl hpl hp0 hd hd') J (Zg 5 [] [(6,Zz),(7,SV.ifc 143 (SV.agg [Zi 0,Zn p0]))] [] (Yh (Zg 1 [] [(16,SV.ifc 143 (SV.agg [Zi 0,Zn p0]))] [] (Yl [] [] Z6 J J J J (Zgo) J (Z9 6 [0] [(8,Zq (N+3) 0),(9,Zi 2)] [] (N+4) [((N+3),Zc [Zi 0,Zn p0])] [] (Yi (I0 Xy [0,0] [(2,Zz),(3,Zi 0),(4,Zn p0),(5,Zi 2)] [] (Z2 (Yv (Yo [] (.inr J) Z6 J (by decide) ?_))))))))))))));exact ⟨J,J,J⟩
theorem Zlh (hk:ins.length=k) (hkb:k<=1000) (hnb:Uq nb) (hdp:Yu dp) (hin:∀ x ∈ ins,Yu (.ofNat x.1)/\Yu x.2) (hcl:Xg ⟨nb,nmB 0,[],[Wk dp (ins.map Ww)]⟩=true) (hpl:Plain ins) (hd:∀ q,q<=k->(Yq ins q:Int)<=dp) (θ:Dg k ins) (dm dc N:Nat):HF Tryz.prog 18 [.agg [Zs nb,Zs (nmB 0),Zl θ.1.fp θ.1.fq,.sl dm 0 1 0]] N (Zm dm dc dp θ) fun u N' H'=>u=.tup [Zz,Zi 0,Zi 0,Zi 0]/\N'=N/\H'=(Zm dm dc dp θ) :=
 HF.forget [0,1] (Ztw (N:=N) (dm:=dm) (dc:=dc) (θ:=θ) hk hkb hnb hdp hin hcl hpl hd) (by decide) (fun _ _=>rfl) (fun u N' H' h=>⟨h.1,fun p hp=>by rw [h.2.2];exact hp⟩)
theorem chk_hf (hk:ins.length=k) (hkb:k<=1000) (hnb:Uq nb) (hdp:Yu dp) (hin:∀ x ∈ ins,Yu (.ofNat x.1)/\Yu x.2) (hcl:Xg ⟨nb,nmB 0,[],[Wk dp (ins.map Ww)]⟩=true) (hpl:Plain ins) (hd:∀ q,q<=k->(Yq ins q:Int)<=dp) (θ:Dg k ins) (dm dc N:Nat):HF Tryz.prog 18 [.agg [Zs nb,Zs (nmB 0),Zl θ.1.fp θ.1.fq,.sl dm 0 1 0]] N (Zm dm dc dp θ) fun u N' H'=>∃ κ:Kv,u=.tup [Zl κ.cp κ.cq,Zi κ.a,Zi κ.b,Zi 0]/\N'=N/\H'=(Zm dm dc dp θ) :=
 (Zlh hk hkb hnb hdp hin hcl hpl hd θ dm dc N).mono fun u N' H' h=>⟨⟨none,0,0,0⟩,h.1,h.2.1,h.2.2⟩
theorem chk_hfN (hk:ins.length=k) (hkb:k<=1000) (hnb:Uq nb) (hdp:Yu dp) (hin:∀ x ∈ ins,Yu (.ofNat x.1)/\Yu x.2) (hcl:Xg ⟨nb,nmB 0,[],[Wk dp (ins.map Ww)]⟩=true) (hpl:Plain ins) (hp0:p0<k) (hd:∀ q,q<=p0->(Yq ins q:Int)<=dp) (hd':¬ (Yq ins (p0+1):Int)<=dp) (θ:Dg k ins) (dm dc N:Nat):HF Tryz.prog 18 [.agg [Zs nb,Zs (nmB 0),Zl θ.1.fp θ.1.fq,.sl dm 0 1 0]] N (Zm dm dc dp θ) fun u N' H'=>u=.tup [Zz,Zi 0,Zn p0,Zi 2]/\N'=N/\H'=[] :=
 HF.forget [] (Ztx (N:=N) (dm:=dm) (dc:=dc) (θ:=θ) hk hkb hnb hdp hin hcl hpl hp0 hd hd') (by decide) (fun _ _=>rfl) (fun u N' H' h=>⟨h.1,fun p hp=>by cases hp⟩)
end
end S
namespace S
open Go Go.RowKit E At
def Xw:ByteArray:=⟨#[83,117,109,115]⟩
section
set_option maxRecDepth 10000
variable {N en:Nat} {bs:ByteArray} {U:Ch} {inp:List Int} {vi:SV} {r:List (Nat × Int) × Dk × List Int × Nat}
theorem Ma (h:FinC Xw inp r) {dp:Nat} (hd:dp<=20):Xg ⟨Xw,nmB 0,[],[Wk dp ((Q4 r).map Ww)]⟩=true :=
 Zij (by kernel_rfl) (by kernel_rfl) (by kernel_rfl) h.plain h.zer h.len hd
theorem Zps (h:FinC Xw inp r) (hb:bs.size<=4000000) (hdec:Uy (Qo false true (dl bs))=some ⟨Xw,nmB 0,[],[Wk r.2.2.2 ((Q4 r).map Ww)]⟩) (hio:InpOf vi U inp) (hvi:sOne vi=true) :
  HF Tryz.prog 34 [.agg [.sl en 0 1 0,Zs Xw,vi,Zi 5000,Zi 0,Zi 1]] N ([(en,.row 89 2 1 [Zs Xw,Zs bs])]++U) fun u N' H'=>∃ (ev ek:Nat) (Hz:Ch),u=.tup [.agg [Zi (if r.2.1.wrong then 2 else 1),Zs (if r.2.1.wrong then Xk else ⟨#[]⟩),.sl ev 0 ek 0,Zn (endD r)],Zi 0]/\H'=[(ev,.row 98 3 ek (es0 Xw++Vh r.2.2.1))]++(Hz++U)/\(es0 Xw++Vh r.2.2.1).length=ek*3:=by
 obtain ⟨st,hst,hg⟩:=h.gos;have hl:=h.len;have h0:0<(Q4 r).length:=(List.getElem?_eq_some_iff.1 h.fst).1;exact Zok (dec_hf hb hdec J h0) (chk_hf J (by omega) (Nu J) (Hk _ (Nat.ble_eq_true_of_le (by have:=h.deep;omega))) h.ints (Ma h (by have:=h.deep;omega)) h.plain (fun q hq=>Int.ofNat_le.2 (h.le q hq))) (by omega) rfl hio h.fst hg hst (by intro e;injection e with e;cases e) (fun M=>by kernel_rfl) rfl hvi (by intro e;injection e with e;cases e)
end
end S
namespace S
open Go Go.RowKit E At
theorem Jg (f:Nat->Nat) (s:Nat) (h0:f 0<=s):∀ q,s<f q->∃ p,p<q/\(∀ k,k<=p->f k<=s)/\s<f (p+1)
 | 0,h=>by omega
 | q+1,h=>by
  by_cases hq:∀ k,k<=q->f k<=s
  ·exact ⟨q,by omega,hq,h⟩
  ·have ⟨k,hk⟩:=Classical.not_forall.1 hq;have ⟨hkq,hks⟩:=Classical.not_imp.1 hk;have hs:s<f k:=by omega
   by_cases e:s<f q
   ·obtain ⟨p,hp,h1,h2⟩:=Jg f s h0 q e;exact ⟨p,by omega,h1,h2⟩
   ·have hne:k≠q:=fun e'=>by subst e';exact e hs
    have:∃ p,p<k/\(∀ j,j<=p->f j<=s)/\s<f (p+1):=Jg f s h0 k hs;obtain ⟨p,hp,h1,h2⟩:=this;exact ⟨p,by omega,h1,h2⟩
termination_by q=>q
theorem Zan {inp:List Int} {r:List (Nat × Int) × Dk × List Int × Nat} (h:FinC Xw inp r) {s:Nat} (hs:s<r.2.2.2) :
  ∃ p,p<(Q4 r).length/\(∀ k,k<=p->Yq (Q4 r) k<=s)/\s<Yq (Q4 r) (p+1):=by
 obtain ⟨q,hq,e⟩:=h.at_;obtain ⟨p,hp,h1,h2⟩:=Jg (Yq (Q4 r)) s (Nat.zero_le _) q (by omega);exact ⟨p,by omega,h1,h2⟩
end S
namespace S
open Go Go.RowKit E At
theorem Zbe {P:Program} {E:SE} {o:Oper} {t t':Nat} {p q:Operand} {x y:Int} (ho:o.op=.binOp .lss t p q t') (hx:sev E p=some (Zi x)) (hy:sev E q=some (Zi y)):noD P E bare o=some (.v (.bool (ilt x y))):=by
 unfold noD act;rw [ho];simp only [hx,hy,exBin,Rq];rfl
theorem Zbr {m n:Nat} (h:m<n):ilt (.ofNat m) (.ofNat n)=true:=Wb.2 (by simp only [Int.ofNat_eq_natCast];omega)
theorem Zbs {m n:Nat} (h:¬ m<n):ilt (.ofNat m) (.ofNat n)=false:=Bool.eq_false_iff.2 fun hc=>h (by rw [Wb] at hc;simp only [Int.ofNat_eq_natCast] at hc;omega)
theorem c7_at:∀ {code:List (Nat × Int)} {i op:Nat} {n:Int},code[i]?=some (op,n)->(c7 code)[0+i*7]?=some (Zn op)
 | [],i,op,n,h=>by cases h
 | x::r,0,op,n,h=>by cases h;rfl
 | x::r,i+1,op,n,h=>by
  have:=c7_at (code:=r) (i:=i) h;rw [show 0+(i+1)*7=(0+i*7)+7 by omega];show (Kp x.1 x.2 none 0++c7 r)[_]?=_;rw [List.getElem?_append_right (by simp only [List.length_cons,List.length_nil];omega)];exact this
section
set_option maxRecDepth 10000
variable {N k dm dc s p:Nat} {dp:Int} {nb bs:ByteArray} {code:List (Nat × Int)}
theorem Zeg:HF Tryz.prog 32 [Zs nb,Zi 3,Zi dp,.sl dc 0 k 0] N [] fun u N' H'=>u=.agg [Zs nb,Zs (nmB 0),Zz,.sl (N+1) 0 1 0]/\N'=N+2/\H'=[(N+1,.row 134 10 1 [Zs Xa,Zb true,Zz,Zi 0,Ze,Zi 3,Zi dp,.sl dc 0 k 0,Zz,Zz])]:=by
 refine hf1 Tryz.func32 J Tryz.ntmps32 fun _ _ _ _=>?_;refine Zu (Z9 1 [] [(8,Zq N 0)] [] (N+1) [(N,Zc [Ze,Ze,Zz,Zz])] [] ?_);refine Yh (Z9 8 [1] [] [] (N+2) [((N+1),Zw 134 10 1 [Zs ((ByteArray.mk #[109,97,105,110])),Zb true,Zz,Zi 0,Ze,Zi 3,Zi dp,Zk dc 0 k 0,Zz,Zz])] [(0,Zc [Zs nb,Zs ((ByteArray.mk #[79,98,106,101,99,116])),Zz,Zk (N+1) 0 1 0])] ?_);refine Zv (Yv (Qj (i:=1) (El:=[(8,.ptr 0 0)]) (m:=[.agg [Zs nb,Zs ((ByteArray.mk #[79,98,106,101,99,116])),Zz,.sl (N+1) 0 1 0]]) [0] (.inr J) Z6 J ⟨J,trivial⟩ (by kernel_rfl) (by decide) ?_));exact ⟨J,J,J⟩
theorem As (hE:∀ N,HF Tryz.prog 26 [.agg [Zs nb,Zs (nmB 0),Zz,.sl dm 0 1 0]] N [(dm,.row 134 10 1 [Zs Xa,Zb true,Zz,Zi 0,Ze,Zi 3,Zi dp,.sl dc 0 k 0,Zz,Zz]),(dc,.row 75 7 k (c7 code))] fun u N' H'=>u=.tup [Zs bs,Zi 0]/\N'=N/\H'=[(dm,.row 134 10 1 [Zs Xa,Zb true,Zz,Zi 0,Ze,Zi 3,Zi dp,.sl dc 0 k 0,Zz,Zz]),(dc,.row 75 7 k (c7 code))]) :
  HF Tryz.prog 33 [.agg [Zs nb,Zs (nmB 0),Zz,.sl dm 0 1 0]] N [(dm,.row 134 10 1 [Zs Xa,Zb true,Zz,Zi 0,Ze,Zi 3,Zi dp,.sl dc 0 k 0,Zz,Zz]),(dc,.row 75 7 k (c7 code))] fun u N' H'=>u=.tup [.agg [Zs nb,Zs bs],Zb true]/\N'=N+2/\H'=[(dm,.row 134 10 1 [Zs Xa,Zb true,Zz,Zi 0,Ze,Zi 3,Zi dp,.sl dc 0 k 0,Zz,Zz]),(dc,.row 75 7 k (c7 code))]:=by
 refine hf1 Tryz.func33 J Tryz.ntmps33 fun _ _ _ _=>?_;refine Zu (Z9 3 [] [(1,Zq N 0),(2,Zq (N+1) 0),(3,Zb false)] [] (N+2) [((N+1),Zc [Ze,Ze]),(N,Zc [Zs nb,Zs (nmB 0),Zz,Zk dm 0 1 0])] [] ?_);refine Yh (Zg 1 [1] [(7,SV.agg [Zs nb,Zs (nmB 0),Zz,Zk dm 0 1 0])] [] (Yl [2,3] [3,2] Z6 J J J J (hE _) J (Zg 5 [] [(4,Zs bs),(5,Zi 0)] [] (Yh (Z9 8 [3,2] [(3,Zb true)] [] (N+2) [] [(2,Zc [Zs nb,Zs bs])] (Zv (Yv ?_)))))));refine Qj (i:=2) (El:=[(2,.ptr 0 0),(3,sh (Zb true))]) (m:=[.agg [Zs nb,Zs bs],Zb true]) [0,1] (.inr J) Z6 J ⟨J,by rw [Ts (by unfold lim;simp)];rfl,trivial⟩ (by kernel_rfl) (by decide) ?_;exact ⟨J,J,J⟩
inductive ShS (p k:Nat):Type
 | run (i:Nat) (h:i<=p):ShS p k
 | finA (h:p+1<k):ShS p k
 | finB (h:p+1=k):ShS p k
def ShS.E (code:List (Nat × Int)) (s N:Nat) {p k:Nat}:ShS p k->SE
 | .run i _=>[(1,.v (.int .i64 (.ofNat s))),(2,.ptr N 0),(5,.v (.int .i64 (.ofNat (Yq code i)))),(6,.v (.int .i64 (-1))),(7,.v (.int .i64 (.ofNat i)))]
 | .finA _=>[(1,.v (.int .i64 (.ofNat s))),(2,.ptr N 0),(5,.v (.int .i64 (.ofNat (Yq code (p+1))))),(6,.v (.int .i64 (.ofNat p))),(7,.v (.int .i64 (.ofNat (p+1))))]
 | .finB _=>[(1,.v (.int .i64 (.ofNat s))),(2,.ptr N 0),(5,.v (.int .i64 (.ofNat (Yq code (p+1))))),(6,.v (.int .i64 (.ofNat p))),(7,.v (.int .i64 (.ofNat (p+1))))]
def ShS.mu {p k:Nat}:ShS p k->Nat
 | .run i _=>p+2 - i
 | .finA _=>0
 | .finB _=>0
theorem Au {op d:Nat} {n:Int} (h:op=1\/op=2\/op=28):dpS d (op,n)=d+1:=if_pos h
theorem dp_22 {op d:Nat} {n:Int} (h:op=22):dpS d (op,n)=d:=by subst h;rfl
theorem dp_dn {op d:Nat} {n:Int} (h1:op≠1) (h2:op≠2) (h3:op≠28) (h4:op≠22):dpS d (op,n)=d - 1:=by
 unfold dpS;rw [if_neg (by simp only;omega),if_neg h4]
theorem ok_ge {op d q:Nat} {n:Int} (h:OkAt q d (op,n)) (h1:op≠1) (h2:op≠2) (h3:op≠28) (h4:op≠22):1<=d:=by
 cases h<;>first | omega | exact absurd rfl h1 | exact absurd rfl h2 | exact absurd rfl h3 | exact absurd rfl h4
theorem sh_T {i X:Nat} (hle:∀ q,q<=p->Yq code q<=s) (hi:i<=p) (hnx:Yq code (i+1)=X) (hc:ilt (.ofNat s) (.ofNat X)=true):i=p:=by
 rw [Wb] at hc;simp only [Int.ofNat_eq_natCast] at hc;rcases Nat.lt_or_ge i p with h | h
 ·have:=hle (i+1) h;omega
 ·omega
theorem sh_F {i X:Nat} (hov:s<Yq code (p+1)) (hi:i<=p) (hnx:Yq code (i+1)=X) (hc:ilt (.ofNat s) (.ofNat X)=false):i+1<=p:=by
 rw [Bool.eq_false_iff,ne_eq,Wb] at hc;simp only [Int.ofNat_eq_natCast] at hc;rcases Nat.lt_or_ge i p with h | h
 ·exact h
 ·have:i=p:=by omega
  subst this;omega
theorem Zdg (hk:code.length=k) (hkb:k<=1000) (hpl:Plain code) (hp:p<k) (hle:∀ q,q<=p->Yq code q<=s) (hov:s<Yq code (p+1)) (hs:s<=1000) (hC:∀ N,HF Tryz.prog 18 [.agg [Zs nb,Zs (nmB 0),Zz,.sl dm 0 1 0]] N [(dm,.row 134 10 1 [Zs Xa,Zb true,Zz,Zi 0,Ze,Zi 3,Zn s,.sl dc 0 k 0,Zz,Zz]),(dc,.row 75 7 k (c7 code))] fun u N' H'=>u=.tup [Zz,Zi 0,Zn p,Zi 2]/\N'=N/\H'=[]) :
  HF Tryz.prog 35 [.agg [Zs nb,Zs (nmB 0),Zz,.sl dm 0 1 0],Zn s] N [(dm,.row 134 10 1 [Zs Xa,Zb true,Zz,Zi 0,Ze,Zi 3,Zi dp,.sl dc 0 k 0,Zz,Zz]),(dc,.row 75 7 k (c7 code))] fun u N' H'=>u=Zb true/\N'=N+1/\H'=[]:=by
 refine hf1 Tryz.func35 J Tryz.ntmps35 fun _ _ _ _=>?_;refine Zu (Z9 2 [] [(2,Zq N 0),(4,Zb false)] [] (N+1) [(N,Zc [Zs nb,Zs (nmB 0),Zz,Zk dm 0 1 0])] [] (Yh (Z9 6 [0,1] [] [] (N+1) [] [(1,Zw 134 10 1 [Zs Xa,Zb true,Zz,Zi 0,Ze,Zi 3,Zn s,Zk dc 0 k 0,Zz,Zz])] ?_)));refine Yh (Zg 1 [] [(5,Zi 0)] [] (Yh (Zg 1 [] [(6,Zi (-1))] [] (Yi (Zu (Zg 1 [] [(7,Zi 0)] [] (Zv (Ye (Gm (α:=ShS p k) (st:=(fun x=>x.E code s N)) (nn:=(fun _=>N+1)) (hh:=(fun _=>[(N,Zc [Zs nb,Zs (nmB 0),Zz,.sl dm 0 1 0]),(dm,Zw 134 10 1 [Zs Xa,Zb true,Zz,Zi 0,Ze,Zi 3,Zn s,.sl dc 0 k 0,Zz,Zz]),(dc,Zw 75 7 k (c7 code))])) (.run 0 (Nat.zero_le _)) ⟨J,J,J,J,J,trivial⟩ J J ?_)))))))));refine Iz (α:=ShS p k) (fun x=>x.mu) (fun x=>x.E code s N) (fun _=>N+1) (fun _=>[(N,Zc [Zs nb,Zs (nmB 0),Zz,.sl dm 0 1 0]),(dm,Zw 134 10 1 [Zs Xa,Zb true,Zz,Zi 0,Ze,Zi 3,Zn s,.sl dc 0 k 0,Zz,Zz]),(dc,Zw 75 7 k (c7 code))]) (.run 0 (Nat.zero_le _)) ?_;rintro (⟨i,hi⟩ | hf | hf)
 ·skip
  have hik:i<code.length:=by omega
  obtain ⟨⟨op,nn⟩,hop⟩:∃ x,code[i]?=some x:=⟨_,List.getElem?_eq_getElem hik⟩;have hdi:=hle i hi;have hok:=hpl.ok i _ hop;have hdn:=U0 hop;refine Yb (Zu (Zg 7 [0,1] [(17,Zn i),(23,Zn k)] [] (Ya (v:=Zb true) J (by rw [Zbe J J J,Zbr (by omega)]) J ?_)));refine Zg 4 [] [(28,Zb true)] [] (Zv (Xr J (Yp (Z2 (Yb (Ye (Yb (Zu (Zg 6 [0,1] [(35,Zk dc 0 k 0),(36,Zn i)] [] (Ya (v:=.ptr dc (0+i*7)) J (W0 J J J (by kernel_rfl) (by omega)) J ?_))))))))));refine Zg 1 [] [(38,Zq dc (0+i*7))] [] (Vx (i:=2) (v:=Zn op) J J J J (Qv (by kernel_rfl) (c7_at hop)) J ?_);refine Zv (Ye (Yb (Zu (Zg 2 [] [(42,SV.v (.bool (ieq (.ofNat op) 1)))] [] (Zv (W6 J (fun c2=>?_) (fun c2=>?_)))))))
  ·skip
   refine Yp (Z2 (Ti J (c2) (Z0 (Zg 1 [] [(46,Zn (Yq code i))] [] (Ya (v:=Zn ((Yq code i)+1)) J (X7 J J J (by omega)) J ?_)))));refine Zg 1 [] [(5,Zn ((Yq code i)+1))] [] (Yn (Y1 (Xj (Zg 3 [] [(52,SV.v (.bool (ilt (.ofNat s) (.ofNat ((Yq code i)+1)))))] [] (Zv (W6 J (fun c4=>?_) (fun c4=>?_)))))))
   ·skip
    have hnx:=hdn.trans (Au (.inl (W4 (n:=1) c2)));have heq:=sh_T hle hi hnx c4;refine Z0 (Zg 2 [] [(6,Zn i)] [] (Yn (Y1 (Z2 (Z0 (Zg 1 [] [(29,Zn i)] [] (Ya (v:=Zn (i+1)) J (X7 J J J (by omega)) J ?_)))))));refine Zg 1 [] [(7,Zn (i+1))] [] (Yn ?_);first | exact Xb (.run (i+1) hlt) (by show p+2 - (i+1)<p+2 - i;omega) ⟨rfl,rfl,by show slook _ _=some (Zn (Yq code (i+1)));rw [hnx];rfl,rfl,rfl,trivial⟩ rfl rfl | (subst heq;rcases Nat.lt_or_ge (i+1) k with hf | hf;exact Xb (.finA hf) (by show 0<i+2 - i;omega) ⟨rfl,rfl,by show slook _ _=some (Zn (Yq code (i+1)));rw [hnx];rfl,rfl,rfl,trivial⟩ rfl rfl;exact Xb (.finB (by omega)) (by show 0<i+2 - i;omega) ⟨rfl,rfl,by show slook _ _=some (Zn (Yq code (i+1)));rw [hnx];rfl,rfl,rfl,trivial⟩ rfl rfl)
   ·skip
    have hnx:=hdn.trans (Au (.inl (W4 (n:=1) c2)));have hlt:=sh_F hov hi hnx c4;refine Yp (Y1 (Z2 (Z0 (Zg 1 [] [(29,Zn i)] [] (Ya (v:=Zn (i+1)) J (X7 J J J (by omega)) J ?_)))));refine Zg 1 [] [(7,Zn (i+1))] [] (Yn ?_);first | exact Xb (.run (i+1) hlt) (by show p+2 - (i+1)<p+2 - i;omega) ⟨rfl,rfl,by show slook _ _=some (Zn (Yq code (i+1)));rw [hnx];rfl,rfl,rfl,trivial⟩ rfl rfl | (subst heq;rcases Nat.lt_or_ge (i+1) k with hf | hf;exact Xb (.finA hf) (by show 0<i+2 - i;omega) ⟨rfl,rfl,by show slook _ _=some (Zn (Yq code (i+1)));rw [hnx];rfl,rfl,rfl,trivial⟩ rfl rfl;exact Xb (.finB (by omega)) (by show 0<i+2 - i;omega) ⟨rfl,rfl,by show slook _ _=some (Zn (Yq code (i+1)));rw [hnx];rfl,rfl,rfl,trivial⟩ rfl rfl)
  ·skip
   refine Zu (Zg 2 [] [(42,SV.v (.bool (ieq (.ofNat op) 28)))] [] (Zv (W6 J (fun c5=>?_) (fun c5=>?_))))
   ·skip
    refine Yp (Z2 (Ti J (c5) (Z0 (Zg 1 [] [(46,Zn (Yq code i))] [] (Ya (v:=Zn ((Yq code i)+1)) J (X7 J J J (by omega)) J ?_)))));refine Zg 1 [] [(5,Zn ((Yq code i)+1))] [] (Yn (Y1 (Xj (Zg 3 [] [(52,SV.v (.bool (ilt (.ofNat s) (.ofNat ((Yq code i)+1)))))] [] (Zv (W6 J (fun c7=>?_) (fun c7=>?_)))))))
    ·skip
     have hnx:=hdn.trans (Au (.inr (.inr (W4 (n:=28) c5))));have heq:=sh_T hle hi hnx c7;refine Z0 (Zg 2 [] [(6,Zn i)] [] (Yn (Y1 (Z2 (Z0 (Zg 1 [] [(29,Zn i)] [] (Ya (v:=Zn (i+1)) J (X7 J J J (by omega)) J ?_)))))));refine Zg 1 [] [(7,Zn (i+1))] [] (Yn ?_);first | exact Xb (.run (i+1) hlt) (by show p+2 - (i+1)<p+2 - i;omega) ⟨rfl,rfl,by show slook _ _=some (Zn (Yq code (i+1)));rw [hnx];rfl,rfl,rfl,trivial⟩ rfl rfl | (subst heq;rcases Nat.lt_or_ge (i+1) k with hf | hf;exact Xb (.finA hf) (by show 0<i+2 - i;omega) ⟨rfl,rfl,by show slook _ _=some (Zn (Yq code (i+1)));rw [hnx];rfl,rfl,rfl,trivial⟩ rfl rfl;exact Xb (.finB (by omega)) (by show 0<i+2 - i;omega) ⟨rfl,rfl,by show slook _ _=some (Zn (Yq code (i+1)));rw [hnx];rfl,rfl,rfl,trivial⟩ rfl rfl)
    ·skip
     have hnx:=hdn.trans (Au (.inr (.inr (W4 (n:=28) c5))));have hlt:=sh_F hov hi hnx c7;refine Yp (Y1 (Z2 (Z0 (Zg 1 [] [(29,Zn i)] [] (Ya (v:=Zn (i+1)) J (X7 J J J (by omega)) J ?_)))));refine Zg 1 [] [(7,Zn (i+1))] [] (Yn ?_);first | exact Xb (.run (i+1) hlt) (by show p+2 - (i+1)<p+2 - i;omega) ⟨rfl,rfl,by show slook _ _=some (Zn (Yq code (i+1)));rw [hnx];rfl,rfl,rfl,trivial⟩ rfl rfl | (subst heq;rcases Nat.lt_or_ge (i+1) k with hf | hf;exact Xb (.finA hf) (by show 0<i+2 - i;omega) ⟨rfl,rfl,by show slook _ _=some (Zn (Yq code (i+1)));rw [hnx];rfl,rfl,rfl,trivial⟩ rfl rfl;exact Xb (.finB (by omega)) (by show 0<i+2 - i;omega) ⟨rfl,rfl,by show slook _ _=some (Zn (Yq code (i+1)));rw [hnx];rfl,rfl,rfl,trivial⟩ rfl rfl)
   ·skip
    refine Z0 (Zg 2 [] [(42,SV.v (.bool (ieq (.ofNat op) 2)))] [] (Zv (W6 J (fun c8=>?_) (fun c8=>?_))))
    ·skip
     refine Z0 (Zg 1 [] [(46,Zn (Yq code i))] [] (Ya (v:=Zn ((Yq code i)+1)) J (X7 J J J (by omega)) J ?_));refine Zg 1 [] [(5,Zn ((Yq code i)+1))] [] (Yn (Y1 (Xj (Zg 3 [] [(52,SV.v (.bool (ilt (.ofNat s) (.ofNat ((Yq code i)+1)))))] [] (Zv (W6 J (fun c9=>?_) (fun c9=>?_)))))))
     ·skip
      have hnx:=hdn.trans (Au (.inr (.inl (W4 (n:=2) c8))));have heq:=sh_T hle hi hnx c9;refine Z0 (Zg 2 [] [(6,Zn i)] [] (Yn (Y1 (Z2 (Z0 (Zg 1 [] [(29,Zn i)] [] (Ya (v:=Zn (i+1)) J (X7 J J J (by omega)) J ?_)))))));refine Zg 1 [] [(7,Zn (i+1))] [] (Yn ?_);first | exact Xb (.run (i+1) hlt) (by show p+2 - (i+1)<p+2 - i;omega) ⟨rfl,rfl,by show slook _ _=some (Zn (Yq code (i+1)));rw [hnx];rfl,rfl,rfl,trivial⟩ rfl rfl | (subst heq;rcases Nat.lt_or_ge (i+1) k with hf | hf;exact Xb (.finA hf) (by show 0<i+2 - i;omega) ⟨rfl,rfl,by show slook _ _=some (Zn (Yq code (i+1)));rw [hnx];rfl,rfl,rfl,trivial⟩ rfl rfl;exact Xb (.finB (by omega)) (by show 0<i+2 - i;omega) ⟨rfl,rfl,by show slook _ _=some (Zn (Yq code (i+1)));rw [hnx];rfl,rfl,rfl,trivial⟩ rfl rfl)
     ·skip
      have hnx:=hdn.trans (Au (.inr (.inl (W4 (n:=2) c8))));have hlt:=sh_F hov hi hnx c9;refine Yp (Y1 (Z2 (Z0 (Zg 1 [] [(29,Zn i)] [] (Ya (v:=Zn (i+1)) J (X7 J J J (by omega)) J ?_)))));refine Zg 1 [] [(7,Zn (i+1))] [] (Yn ?_);first | exact Xb (.run (i+1) hlt) (by show p+2 - (i+1)<p+2 - i;omega) ⟨rfl,rfl,by show slook _ _=some (Zn (Yq code (i+1)));rw [hnx];rfl,rfl,rfl,trivial⟩ rfl rfl | (subst heq;rcases Nat.lt_or_ge (i+1) k with hf | hf;exact Xb (.finA hf) (by show 0<i+2 - i;omega) ⟨rfl,rfl,by show slook _ _=some (Zn (Yq code (i+1)));rw [hnx];rfl,rfl,rfl,trivial⟩ rfl rfl;exact Xb (.finB (by omega)) (by show 0<i+2 - i;omega) ⟨rfl,rfl,by show slook _ _=some (Zn (Yq code (i+1)));rw [hnx];rfl,rfl,rfl,trivial⟩ rfl rfl)
    ·skip
     refine Zu (Zg 2 [] [(48,SV.v (.bool (ieq (.ofNat op) 22)))] [] (Zv (W6 J (fun c10=>?_) (fun c10=>?_))))
     ·skip
      refine Yp (Y1 (Xj (Zg 3 [] [(52,SV.v (.bool (ilt (.ofNat s) (.ofNat (Yq code i)))))] [] (Zv (W6 J (fun c11=>?_) (fun c11=>?_))))))
      ·skip
       have hnx:=hdn.trans (dp_22 (W4 (n:=22) c10));have heq:=sh_T hle hi hnx c11;refine Z0 (Zg 2 [] [(6,Zn i)] [] (Yn (Y1 (Z2 (Z0 (Zg 1 [] [(29,Zn i)] [] (Ya (v:=Zn (i+1)) J (X7 J J J (by omega)) J ?_)))))));refine Zg 1 [] [(7,Zn (i+1))] [] (Yn ?_);first | exact Xb (.run (i+1) hlt) (by show p+2 - (i+1)<p+2 - i;omega) ⟨rfl,rfl,by show slook _ _=some (Zn (Yq code (i+1)));rw [hnx];rfl,rfl,rfl,trivial⟩ rfl rfl | (subst heq;rcases Nat.lt_or_ge (i+1) k with hf | hf;exact Xb (.finA hf) (by show 0<i+2 - i;omega) ⟨rfl,rfl,by show slook _ _=some (Zn (Yq code (i+1)));rw [hnx];rfl,rfl,rfl,trivial⟩ rfl rfl;exact Xb (.finB (by omega)) (by show 0<i+2 - i;omega) ⟨rfl,rfl,by show slook _ _=some (Zn (Yq code (i+1)));rw [hnx];rfl,rfl,rfl,trivial⟩ rfl rfl)
      ·skip
       have hnx:=hdn.trans (dp_22 (W4 (n:=22) c10));have hlt:=sh_F hov hi hnx c11;refine Yp (Y1 (Z2 (Z0 (Zg 1 [] [(29,Zn i)] [] (Ya (v:=Zn (i+1)) J (X7 J J J (by omega)) J ?_)))));refine Zg 1 [] [(7,Zn (i+1))] [] (Yn ?_);first | exact Xb (.run (i+1) hlt) (by show p+2 - (i+1)<p+2 - i;omega) ⟨rfl,rfl,by show slook _ _=some (Zn (Yq code (i+1)));rw [hnx];rfl,rfl,rfl,trivial⟩ rfl rfl | (subst heq;rcases Nat.lt_or_ge (i+1) k with hf | hf;exact Xb (.finA hf) (by show 0<i+2 - i;omega) ⟨rfl,rfl,by show slook _ _=some (Zn (Yq code (i+1)));rw [hnx];rfl,rfl,rfl,trivial⟩ rfl rfl;exact Xb (.finB (by omega)) (by show 0<i+2 - i;omega) ⟨rfl,rfl,by show slook _ _=some (Zn (Yq code (i+1)));rw [hnx];rfl,rfl,rfl,trivial⟩ rfl rfl)
     ·skip
      have hge:=ok_ge hok (Vi (n:=1) c2) (Vi (n:=2) c8) (Vi (n:=28) c5) (Vi (n:=22) c10);refine Z0 (Zg 1 [] [(40,Zn (Yq code i))] [] (Ya (v:=Zn ((Yq code i) - 1)) J (R9 J J J (by omega) (by omega)) J ?_));refine Zg 1 [] [(5,Zn ((Yq code i) - 1))] [] (Yn (Y1 (Xj (Zg 3 [] [(52,SV.v (.bool (ilt (.ofNat s) (.ofNat ((Yq code i) - 1)))))] [] (Zv (W6 J (fun c12=>?_) (fun c12=>?_)))))))
      ·skip
       have hnx:=hdn.trans (dp_dn (Vi (n:=1) c2) (Vi (n:=2) c8) (Vi (n:=28) c5) (Vi (n:=22) c10));have heq:=sh_T hle hi hnx c12;refine Z0 (Zg 2 [] [(6,Zn i)] [] (Yn (Y1 (Z2 (Z0 (Zg 1 [] [(29,Zn i)] [] (Ya (v:=Zn (i+1)) J (X7 J J J (by omega)) J ?_)))))));refine Zg 1 [] [(7,Zn (i+1))] [] (Yn ?_);first | exact Xb (.run (i+1) hlt) (by show p+2 - (i+1)<p+2 - i;omega) ⟨rfl,rfl,by show slook _ _=some (Zn (Yq code (i+1)));rw [hnx];rfl,rfl,rfl,trivial⟩ rfl rfl | (subst heq;rcases Nat.lt_or_ge (i+1) k with hf | hf;exact Xb (.finA hf) (by show 0<i+2 - i;omega) ⟨rfl,rfl,by show slook _ _=some (Zn (Yq code (i+1)));rw [hnx];rfl,rfl,rfl,trivial⟩ rfl rfl;exact Xb (.finB (by omega)) (by show 0<i+2 - i;omega) ⟨rfl,rfl,by show slook _ _=some (Zn (Yq code (i+1)));rw [hnx];rfl,rfl,rfl,trivial⟩ rfl rfl)
      ·skip
       have hnx:=hdn.trans (dp_dn (Vi (n:=1) c2) (Vi (n:=2) c8) (Vi (n:=28) c5) (Vi (n:=22) c10));have hlt:=sh_F hov hi hnx c12;refine Yp (Y1 (Z2 (Z0 (Zg 1 [] [(29,Zn i)] [] (Ya (v:=Zn (i+1)) J (X7 J J J (by omega)) J ?_)))));refine Zg 1 [] [(7,Zn (i+1))] [] (Yn ?_);first | exact Xb (.run (i+1) hlt) (by show p+2 - (i+1)<p+2 - i;omega) ⟨rfl,rfl,by show slook _ _=some (Zn (Yq code (i+1)));rw [hnx];rfl,rfl,rfl,trivial⟩ rfl rfl | (subst heq;rcases Nat.lt_or_ge (i+1) k with hf | hf;exact Xb (.finA hf) (by show 0<i+2 - i;omega) ⟨rfl,rfl,by show slook _ _=some (Zn (Yq code (i+1)));rw [hnx];rfl,rfl,rfl,trivial⟩ rfl rfl;exact Xb (.finB (by omega)) (by show 0<i+2 - i;omega) ⟨rfl,rfl,by show slook _ _=some (Zn (Yq code (i+1)));rw [hnx];rfl,rfl,rfl,trivial⟩ rfl rfl)
 ·skip
  refine Yb (Zu (Zg 7 [0,1] [(17,Zn (p+1)),(23,Zn k)] [] (Ya (v:=Zb true) J (by rw [Zbe J J J,Zbr (by omega)]) J ?_)));refine Zg 2 [] [(25,Zb true),(26,Zn p)] [] ?_;refine Ya (v:=Zb false) J (by rw [Zbe J J rfl];exact congrArg (fun b=>some (Zb b)) (Zbs (n:=0) (by omega))) J ?_;refine Zg 1 [] [(28,Zb false)] [] (Zv (Yw J (Uo (Y0 (Y0 (Wj (Xj (Zg 1 [0] [(55,SV.agg [Zs nb,Zs (nmB 0),Zz,Zk dm 0 1 0])] [] (Yl [1,2] [2,1] Z6 J J J J (hC _) J (Zg 9 [] [(9,Zi 0),(10,Zn p),(11,Zi 2)] [] (Yh (Zg 12 [] [(4,SV.v (.bool (ieq (.ofNat p) (.ofNat p))))] [] (Zv (Yv (Yo [] (.inr J) Z6 J (by decide) ?_)))))))))))))));refine ⟨?_,J,J⟩;show SV.v (.bool (ieq (.ofNat p) (.ofNat p)))=_;rw [Q3.2 rfl]
 ·skip
  refine Yb (Zu (Zg 7 [0,1] [(17,Zn (p+1)),(23,Zn k)] [] (Ya (v:=Zb false) J (by rw [Zbe J J J,Zbs (by omega)]) J ?_)));refine Zg 4 [] [(28,Zb false)] [] (Zv (Yw J (Uo (Y0 (Y0 (Wj (Xj (Zg 1 [0] [(55,SV.agg [Zs nb,Zs (nmB 0),Zz,Zk dm 0 1 0])] [] (Yl [1,2] [2,1] Z6 J J J J (hC _) J (Zg 9 [] [(9,Zi 0),(10,Zn p),(11,Zi 2)] [] (Yh (Zg 12 [] [(4,SV.v (.bool (ieq (.ofNat p) (.ofNat p))))] [] (Zv (Yv (Yo [] (.inr J) Z6 J (by decide) ?_)))))))))))))));refine ⟨?_,J,J⟩;show SV.v (.bool (ieq (.ofNat p) (.ofNat p)))=_;rw [Q3.2 rfl]
end
end S

namespace At
open Go
theorem Du:∀ (k u:Nat),leN (Qb u k)=u % 256 ^ k
 | 0,u=>by simp [Qb,leN,Nat.mod_one]
 | k+1,u=>by
  have e:256 ^ (k+1)=256*256 ^ k:=Nat.pow_succ';rw [Qb,leN,Du k,UInt8.toNat_ofNat',e,Nat.mod_mul];omega
theorem Dh:∀ (l:List UInt8),Qb (leN l) l.length=l
 | []=>rfl
 | b::r=>by
  have hb:b.toNat<256:=b.toNat_lt;rw [leN,List.length_cons,Qb];have e1:(b.toNat+256*leN r) % 256=b.toNat:=by omega
  have e2:(b.toNat+256*leN r)/256=leN r:=by omega
  rw [e1,e2,Dh r];congr 1;exact UInt8.toNat.inj (by simp)
theorem Zdu (l r:List UInt8):P6 l.length (l++r)=some (l,r):=by unfold P6;simp
theorem Zdv {n:Nat} {s l r:List UInt8} (h:P6 n s=some (l,r)):s=l++r/\l.length=n:=by
 unfold P6 at h;split at h
 ·rename_i hn
  simp only [Option.some.injEq,Prod.mk.injEq] at h;obtain ⟨rfl,rfl⟩:=h;exact ⟨(List.take_append_drop n s).symm,by rw [List.length_take];omega⟩
 ·cases h
theorem L4 (k u:Nat) (r:List UInt8) (h:u<256 ^ k):M0 k (Qb u k++r)=some (u,r):=by
 have h1:=Zdu (Qb u k) r;rw [Ra] at h1;unfold M0 Y9;rw [h1];simp only [Ug];rw [Du,Nat.mod_eq_of_lt h]
theorem Jw {k u:Nat} {s r:List UInt8} (h:M0 k s=some (u,r)):s=Qb u k++r/\u<256 ^ k:=by
 obtain ⟨l,s',h1,h2⟩:=Z5.1 h;obtain ⟨rfl,hl⟩:=Zdv h1;simp only [Ug,Option.some.injEq,Prod.mk.injEq] at h2;obtain ⟨rfl,rfl⟩:=h2;rw [<- hl];refine ⟨by rw [Dh],?_⟩;have h3:=Du l.length (leN l);rw [Dh] at h3;rw [h3];exact Nat.mod_lt _ (Nat.pow_pos (by omega))
structure Cod {α:Type} (p:Ps α) (w:α->List UInt8) (g:α->Prop):Prop where
 wr:∀ x r,g x->p (w x++r)=some (x,r)
 rd:∀ s x r,p s=some (x,r)->g x->s=w x++r
def Tq (k:Nat) (n:Int):List UInt8:=Qb (u64 n) k
theorem Jn {n:Int} (h:0<=n) (h':n<18446744073709551616):(u64 n:Int)=n:=by rw [<- I3,IntKind.wrap_u64];omega
theorem Zld (k M:Nat) (hM:256 ^ k=M) (hk:M<=65536):Cod (Qm k) (Tq k) (fun n=>0<=n/\n<(M:Int)):=by
 refine ⟨fun n r h=>?_,fun s n r h hg=>?_⟩
 ·have e:=Jn h.1 (by have:=h.2;omega);have hl:u64 n<256 ^ k:=by rw [hM];have:=h.2;omega
  unfold Qm Y9 Tq;rw [L4 k _ r hl];simp only [Ug,toI];rw [if_pos (by omega),e]
 ·obtain ⟨u,s',h1,h2⟩:=Z5.1 h;simp only [Ug,Option.some.injEq,Prod.mk.injEq] at h2;obtain ⟨rfl,rfl⟩:=h2;obtain ⟨rfl,hu⟩:=Jw h1;rw [hM] at hu;have e:toI u=(u:Int):=by unfold toI;rw [if_pos (by omega)]
  rw [e];unfold Tq;have:=Jn (n:=(u:Int)) (by omega) (by omega);rw [show u64 (u:Int)=u by omega]
theorem To:Cod (Qm 1) (Tq 1) (fun n=>0<=n/\n<256):=Zld 1 256 rfl (by omega)
theorem Sy:Cod (Qm 2) (Tq 2) (fun n=>0<=n/\n<65536):=Zld 2 65536 rfl (by omega)
theorem Zfw:Cod (Qm 8) (Tq 8) (fun n => -9223372036854775808<=n/\n<9223372036854775808):=by
 have hM:(256:Nat) ^ 8=18446744073709551616:=rfl;refine ⟨fun n r h=>?_,fun s n r h hg=>?_⟩
 ·have e:(u64 n:Int)=n % 18446744073709551616:=by rw [<- I3,IntKind.wrap_u64]
  have hl:u64 n<256 ^ 8:=by rw [hM];exact u64_lt n
  unfold Qm Y9 Tq;rw [L4 8 _ r hl];simp only [Ug,toI];congr 2;have h1:=h.1;have h2:=h.2;split<;>omega
 ·obtain ⟨u,s',h1,h2⟩:=Z5.1 h;simp only [Ug,Option.some.injEq,Prod.mk.injEq] at h2;obtain ⟨rfl,rfl⟩:=h2;obtain ⟨rfl,hu⟩:=Jw h1;rw [hM] at hu;have e:(u64 (toI u):Int)=toI u % 18446744073709551616:=by rw [<- I3,IntKind.wrap_u64]
  unfold Tq
  have:u64 (toI u)=u:=by
   unfold toI at e ⊢;split at e
   ·rename_i hx;rw [if_pos hx];omega
   ·rename_i hx;rw [if_neg hx];omega
  rw [this]
def Qw (s:ByteArray):List UInt8:=Tq 1 (s.size:Nat)++s.data.toList
theorem Wx:Cod S9 Qw (fun s=>s.size<256):=by
 refine ⟨fun s r h=>?_,fun s x r h hg=>?_⟩
 ·have e:u64 ((s.size:Nat):Int)=s.size:=by have:=Jn (n:=((s.size:Nat):Int)) (by omega) (by omega);omega
  unfold S9 Qw Tq;rw [e,List.append_assoc];refine Z5.2 ⟨s.size,_,L4 1 _ _ (by omega),Z5.2 ⟨s.data.toList,r,?_,?_⟩⟩
  ·have:=Zdu s.data.toList r;rw [Array.length_toList] at this;exact this
  ·simp only [Ug]
 ·obtain ⟨n,s1,h1,h2⟩:=Z5.1 h;obtain ⟨l,s2,h3,h4⟩:=Z5.1 h2;simp only [Ug,Option.some.injEq,Prod.mk.injEq] at h4;obtain ⟨rfl,rfl⟩:=h4;obtain ⟨rfl,hn⟩:=Jw h1;obtain ⟨rfl,hl⟩:=Zdv h3;have hs:(⟨l.toArray⟩:ByteArray).size=n:=by show l.toArray.size=n;rw [List.size_toArray,hl]
  have e:u64 ((n:Nat):Int)=n:=by have:=Jn (n:=((n:Nat):Int)) (by omega) (by omega);omega
  unfold Qw Tq;rw [hs,e,List.append_assoc]
end At
namespace At
open Go
theorem Ls (n:Nat) (h:n<65536):u64 ((n:Nat):Int)=n:=by have:=Jn (n:=((n:Nat):Int)) (by omega) (by omega);omega
def Zjg (b:Bool):List UInt8:=if b then Tq 1 1 else Tq 1 0
theorem Ik:Cod Dd Zjg (fun _=>True):=by
 have e1:Tq 1 1=Qb 1 1:=by unfold Tq;rw [show u64 1=1 from Ls 1 (by omega)]
 have e0:Tq 1 0=Qb 0 1:=by unfold Tq;rw [show u64 0=0 from Ls 0 (by omega)]
 refine ⟨fun b r _=>?_,fun s b r h _=>?_⟩
 ·cases b with
  | true =>
   show Dd (Tq 1 1++r)=_;rw [e1];exact Z5.2 ⟨1,r,L4 1 1 r (by omega),J⟩
  | false =>
   show Dd (Tq 1 0++r)=_;rw [e0];exact Z5.2 ⟨0,r,L4 1 0 r (by omega),J⟩
 ·obtain ⟨n,s1,h1,h2⟩:=Z5.1 h;obtain ⟨rfl, -⟩:=Jw h1;split at h2
  ·cases h2
  ·rename_i hn
   simp only [Ug,Option.some.injEq,Prod.mk.injEq] at h2;obtain ⟨rfl,rfl⟩:=h2;rcases (show n=0\/n=1 by omega) with rfl | rfl
   ·show Qb 0 1++s1=Tq 1 0++s1;rw [e0]
   ·show Qb 1 1++s1=Tq 1 1++s1;rw [e1]
def wTy (t:Ty):List UInt8:=if t.kind=3 then Tq 1 3++Qw t.cls else Tq 1 t.kind
structure TyG (t:Ty):Prop where
 k:0<=t.kind/\t.kind<=5
 c:t.kind=3->t.cls.size<256
 n:¬ t.kind=3->t.cls=mt
theorem N9 (chk:Bool):Cod (pTy chk) wTy TyG:=by
 refine ⟨fun t r h=>?_,fun s t r h hg=>?_⟩
 ·obtain ⟨k,c⟩:=t;have h1:=h.k;have h2:=h.c;have h3:=h.n;dsimp only at h1 h2 h3
  have hno:¬ (chk&&decide (5<k))=true:=by
   intro hx;rw [Bool.and_eq_true,decide_eq_true_eq] at hx;omega
  unfold wTy;dsimp only;by_cases hk:k=3
  ·subst hk;rw [if_pos rfl,List.append_assoc];refine Z5.2 ⟨3,_,To.wr 3 _ ⟨by omega,by omega⟩,?_⟩;rw [if_neg hno,if_pos rfl];exact Z5.2 ⟨c,r,Wx.wr c r (h2 J),J⟩
  ·rw [if_neg hk];refine Z5.2 ⟨k,_,To.wr k _ ⟨by omega,by omega⟩,?_⟩;rw [if_neg hno,if_neg hk,h3 hk];rfl
 ·obtain ⟨k,s1,h1,h2⟩:=Z5.1 h;split at h2
  ·cases h2
  ·split at h2
   ·rename_i hk
    subst hk;obtain ⟨c,s2,h3,h4⟩:=Z5.1 h2;simp only [Ug,Option.some.injEq,Prod.mk.injEq] at h4;obtain ⟨rfl,rfl⟩:=h4;unfold wTy;rw [if_pos rfl,List.append_assoc,<- Wx.rd _ _ _ h3 (hg.c rfl)];exact To.rd _ _ _ h1 ⟨by omega,by omega⟩
   ·rename_i hk
    simp only [Ug,Option.some.injEq,Prod.mk.injEq] at h2;obtain ⟨rfl,rfl⟩:=h2;unfold wTy;rw [if_neg hk];have h9:0<=k/\k<=5:=hg.k;exact To.rd _ _ _ h1 ⟨h9.1,show k<256 by omega⟩
section
variable {α:Type} {p:Ps α} {w:α->List UInt8} {g:α->Prop}
theorem Zkf (hp:Cod p w g):∀ (l:List α) (r:List UInt8),(∀ x ∈ l,g x)->O3 p l.length (l.flatMap w++r)=some (l,r)
 | [],r,_=>rfl
 | x::l,r,h=>by
  rw [List.flatMap_cons,List.append_assoc];exact Z5.2 ⟨x,_,hp.wr x _ (h x List.mem_cons_self),Z5.2 ⟨l,r,Zkf hp l r (fun y hy=>h y (List.mem_cons_of_mem _ hy)),J⟩⟩
theorem Zkg (hp:Cod p w g):∀ (n:Nat) (s:List UInt8) (l:List α) (r:List UInt8),O3 p n s=some (l,r)->(∀ x ∈ l,g x)->s=l.flatMap w++r/\l.length=n
 | 0,s,l,r,h,_=>by
  simp only [O3,Ug,Option.some.injEq,Prod.mk.injEq] at h;obtain ⟨rfl,rfl⟩:=h;exact ⟨J,J⟩
 | n+1,s,l,r,h,hg=>by
  obtain ⟨x,s1,h1,h2⟩:=Z5.1 h;obtain ⟨l',s2,h3,h4⟩:=Z5.1 h2;simp only [Ug,Option.some.injEq,Prod.mk.injEq] at h4;obtain ⟨rfl,rfl⟩:=h4;obtain ⟨e,hn⟩:=Zkg hp n s1 l' s2 h3 (fun y hy=>hg y (List.mem_cons_of_mem _ hy));refine ⟨?_,by rw [List.length_cons,hn]⟩;rw [List.flatMap_cons,List.append_assoc,<- e];exact hp.rd _ _ _ h1 (hg x List.mem_cons_self)
def Sh (k:Nat) (w:α->List UInt8) (l:List α):List UInt8:=Tq k (l.length:Nat)++l.flatMap w
theorem Nh {lim:Bool} {k most M:Nat} (hM:256 ^ k=M) (hk:M<=65536) (hm:most<M) (hp:Cod p w g):Cod (Tl lim k most p) (Sh k w) (fun l=>l.length<=most/\∀ x ∈ l,g x):=by
 refine ⟨fun l r h=>?_,fun s l r h hg=>?_⟩
 ·unfold Sh Tq;rw [Ls _ (by omega),List.append_assoc];refine Z5.2 ⟨l.length,_,L4 k _ _ (by omega),?_⟩;rw [if_neg (by intro hx;rw [Bool.and_eq_true,decide_eq_true_eq] at hx;omega)];exact Zkf hp l r h.2
 ·obtain ⟨n,s1,h1,h2⟩:=Z5.1 h;split at h2
  ·cases h2
  ·obtain ⟨rfl,hn⟩:=Jw h1;obtain ⟨rfl,hl⟩:=Zkg hp n s1 l r h2 hg.2;unfold Sh Tq;rw [hl,Ls _ (by omega),List.append_assoc]
end
end At
end Go.Proofs.YtpofmnfkdkmieaaGreat
