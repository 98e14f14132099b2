/- What is proved here: what Check does with Main's instructions -/
import Derived.Test.YtpofmnfkdkmieaaGreatQ20
import Derived.Test.YtpofmnfkdkmieaaGreatQ21
import Derived.Test.YtpofmnfkdkmieaaGreatQ16
set_option linter.unusedVariables false
set_option linter.unusedSimpArgs false
namespace Go.Proofs.YtpofmnfkdkmieaaGreat
namespace S
open Go Go.RowKit E
theorem Gc {n N:Nat} {G:Nat->Option SB} {all:Array Oper} {o:Oper} {Er:SE} {p:Operand} {a:Int} {s:ByteArray} (hw:wants Er all o.guard=some true) (ho:o.op=.field 71 p 0) (hx:sev Er p=some (.agg [Zi a,Zs s])) :
  Uv Tryz.prog n N G all o ⟨Er,Zi a⟩:=by
 refine .inr ⟨hw,(fun c e=>by rw [ho] at e;cases e),fun w0 F B D w a' hg ha=>⟨_,w,.inl ?_,rfl,hg⟩⟩;have e1:=ha.eval hx;simp only [den,Ym,Option.map_some,Option.some.injEq] at e1;simp only [execOp,ho];rw [<- e1];simp [Instr.field,run_underlying Tryz.underlying71,part,isAgg,asAgg,run_underlying (tint (t:=3) rfl)]
section
set_option maxRecDepth 10000
variable {N w s lp q r b op:Nat} {m:Mi} {κ κ2:Int} {cb cb2 cl nn:ByteArray} {qa:Option Addr} {qb:Nat} {c0 c1 c2 c3 gr m0 m1 m2 m3 m4 m5 m7 m8 m9 lo re:SV} {nu at_:Int}
theorem last_m:HF Tryz.prog 254 [.ptr w 0] N [(w,Zc [c0,c1,c2,c3,gr,Zi nu,m0,m1,m2,m3,m4,m5,Zi 1,m7,m8,m9,Zi at_,lo,.sl s 0 1 0,re]),(s,Zw 71 2 1 [Zi κ,Zs cb])] fun u N' H'=>u=.agg [Zi κ,Zs cb]/\N'=N+1/\H'=[(w,Zc [c0,c1,c2,c3,gr,Zi nu,m0,m1,m2,m3,m4,m5,Zi 1,m7,m8,m9,Zi at_,lo,.sl s 0 1 0,re]),(s,Zw 71 2 1 [Zi κ,Zs cb])]:=by
 refine hf1 Tryz.func254 J Tryz.ntmps254 fun _ _ _ _=>?_;refine Zd (Zy 1 [] [(2,Zq N 0)] [] (N+1) [(N,Zc [Zi 0,Ze])] [] ?_);refine Zx (Za 8 [1] [(3,Zq w 0),(10,Zb true)] [] (Z0 [] [] Zj J J J J (V3) J (Z1 ?_)))
 refine Y0 [.ptr w 0,.ptr w 0,.ptr w 17,.ptr w 18,.sl s 0 1 0,.ptr w 0,.ptr w 0,.ptr w 17,.ptr w 18,.sl s 0 1 0,Zn 1,Zi 0,.ptr s 0,.agg [Zi κ,Zs cb],.tup []] [14] [(_,_)] [1,1,2] [] [] [] Yt
  ⟨fun _ _ _ _ _ _ _ kG=>Zy 1 [0] [] [] (N+1) [] [(0,Zc [Zi κ,Zs cb])] kG,trivial⟩
  trivial rfl ?_
 refine Zr (Yc (X6 (i:=0) (El:=[(2,.ptr 0 0)]) (m:=[.agg [Zi κ,Zs cb]]) [1,2] (.inr J) Zj J ⟨J,trivial⟩ (by kernel_rfl) (by decide) ?_));exact ⟨J,J,J⟩
theorem Lc:HF Tryz.prog 253 [.ptr w 0] N [(w,Zc [c0,c1,c2,c3,gr,Zi nu,m0,m1,m2,m3,m4,m5,Zi 1,m7,m8,m9,Zi at_,lo,.sl s 0 1 0,re]),(s,Zw 71 2 1 [Zi κ,Zs cb])] fun u N' H'=>u=.agg [Zi κ,Zs cb]/\N'=N+3/\H'=[(w,Zc [c0,c1,c2,c3,gr,Zi nu,m0,m1,m2,m3,m4,m5,Zi 1,m7,m8,m9,Zi at_,lo,.sl s 0 0 0,re]),(s,Zw 71 2 1 [Zi κ,Zs cb])]:=by
 refine hf1 Tryz.func253 J Tryz.ntmps253 fun _ _ _ _=>?_;refine Zd (Zy 1 [] [(2,Zq N 0)] [] (N+1) [(N,Zc [Zi 0,Ze])] [] ?_);refine Zx (Za 1 [] [(4,Zq w 0)] [] (Z0 [1,2] [2,1] Zj J J J J (last_m) J (Zy 2 [0] [(3,Zq (N+2) 0)] [] (N+3) [((N+2),Zc [Zi κ,Zs cb])] [] (Z1 ?_))))
 refine Y0 [.ptr w 0,.ptr w 0,.ptr w 0,.ptr w 17,.ptr w 18,.sl s 0 1 0,.ptr w 0,.ptr w 0,.ptr w 17,.ptr w 18,.sl s 0 1 0,Zn 1,Zi 0,.sl s 0 0 0,.ptr w 0,.ptr w 17,.ptr w 18,.tup []] [17] [(_,_)] [1,1] [] [] [13] Yt
  ⟨fun _ _ _ _ _ _ _ kG=>Zy 1 [1] [] [] (N+3) [] [(1,Zc [c0,c1,c2,c3,gr,Zi nu,m0,m1,m2,m3,m4,m5,Zi 1,m7,m8,m9,Zi at_,lo,Zk s 0 0 0,re])] kG,trivial⟩
  ⟨(Ys (fun _ hGG=>Od (e:=71) (sz:=2) (k:=1) (m:=0) rfl rfl (by kernel_rfl) (by kernel_rfl) rfl rfl rfl (hGG.get (i:=2) rfl) (by omega)) (Xn (by kernel_rfl) trivial)),trivial⟩ rfl ?_
 refine Yh (Zy 2 [0,3] [] [] (N+3) [] [(3,Zc [Zi κ,Zs cb])] (Zg (Yc (X6 (i:=3) (El:=[(2,.ptr 0 0)]) (m:=[.agg [Zi κ,Zs cb]]) [1,2] (.inr J) Zj J ⟨J,trivial⟩ (by kernel_rfl) (by decide) ?_))));exact ⟨J,J,J⟩
theorem Ld:HF Tryz.prog 252 [.ptr w 0,.agg [Zi κ,Zs cb]] N [(w,Zc [c0,c1,c2,c3,gr,Zi nu,m0,m1,m2,m3,m4,m5,Zi 1,m7,m8,m9,Zi at_,lo,.sl s 0 0 0,re]),(s,Zw 71 2 1 [Zi κ2,Zs cb2])] fun u N' H'=>u=.tup []/\N'=N+3/\H'=[(w,Zc [c0,c1,c2,c3,gr,Zi nu,m0,m1,m2,m3,m4,m5,Zi 1,m7,m8,m9,Zi at_,lo,.sl (N+2) 0 1 0,re]),((N+2),Zw 71 2 1 [Zi κ,Zs cb])]:=by
 refine hf1 Tryz.func252 J Tryz.ntmps252 fun _ _ _ _=>?_;refine Zd (Zy 1 [] [(3,Zq N 0)] [] (N+1) [(N,Zc [Zi κ,Zs cb])] [] (Z1 ?_))
 refine Y0 [.ptr w 0,.ptr w 0,.ptr w 0,.ptr w 17,.ptr w 18,.sl s 0 0 0,Zn 0,.ptr w 0,.ptr w 0,.ptr w 6,.ptr w 12,Zi 1,Zb true,.tup []] [13] [(_,_)] [1,1] [] [] [] Yt
  ⟨fun _ _ _ _ _ _ _ kG=>Z0 [] [] Zj rfl rfl rfl rfl (V3) rfl kG,trivial⟩
  trivial rfl ?_
 refine Zr ?_
 refine Y0 [.ptr w 0,.ptr w 0,.ptr w 0,.ptr w 17,.ptr w 18,.sl s 0 0 0,.agg [Zi κ,Zs cb],.sl (N+1) 0 1 0,.sl (N+2) 0 1 0,.ptr w 0,.ptr w 17,.ptr w 18,.tup []] [7,8,12] [(_,_),(_,_),(_,_)] [1,2,0] [] [] [] Yt
  ⟨fun _ _ _ _ _ _ _ kG=>Zy 1 [] [(25,Zk (N+1) 0 1 0)] [] (N+2) [((N+1),Zw 71 2 1 [Zi κ,Zs cb])] [] kG,fun _ _ _ _ _ _ _ kG=>Uw (i:=3) (i':=0) (e:=71) (sz:=2) (by_:=24) (js:=[1,2]) (cc:=[Zi κ,Zs cb]) _ (by kernel_rfl) (by kernel_rfl) rfl rfl rfl rfl rfl rfl rfl (by decide) rfl (by omega) rfl rfl (by omega) (by omega) rfl (rfl) rfl kG,fun _ _ _ _ _ _ _ kG=>Zy 1 [2] [] [] (N+3) [] [(2,Zc [c0,c1,c2,c3,gr,Zi nu,m0,m1,m2,m3,m4,m5,Zi 1,m7,m8,m9,Zi at_,lo,Zk (N+2) 0 1 0,re])] kG,trivial⟩
  trivial rfl ?_
 refine Z5 [2,0] (.inl J) Zj J (by decide) ?_;exact ⟨J,J,J⟩
theorem wlay_m0:HF Tryz.prog 252 [.ptr w 0,.agg [Zi κ,Zs cb]] N [(w,Zc [c0,c1,c2,c3,gr,Zi nu,m0,m1,m2,m3,m4,m5,Zi 1,m7,m8,m9,Zi at_,lo,Zz,re])] fun u N' H'=>u=.tup []/\N'=N+3/\H'=[(w,Zc [c0,c1,c2,c3,gr,Zi nu,m0,m1,m2,m3,m4,m5,Zi 1,m7,m8,m9,Zi at_,lo,.sl (N+2) 0 1 0,re]),((N+2),Zw 71 2 1 [Zi κ,Zs cb])]:=by
 refine hf1 Tryz.func252 J Tryz.ntmps252 fun _ _ _ _=>?_;refine Zd (Zy 1 [] [(3,Zq N 0)] [] (N+1) [(N,Zc [Zi κ,Zs cb])] [] (Z1 ?_))
 refine Y0 [.ptr w 0,.ptr w 0,.ptr w 0,.ptr w 17,.ptr w 18,Zz,Zi 0,.ptr w 0,.ptr w 0,.ptr w 6,.ptr w 12,Zi 1,Zb true,.tup []] [13] [(_,_)] [1,1] [] [] [] Yt
  ⟨fun _ _ _ _ _ _ _ kG=>Z0 [] [] Zj rfl rfl rfl rfl (V3) rfl kG,trivial⟩
  trivial rfl ?_
 refine Zr ?_
 refine Y0 [.ptr w 0,.ptr w 0,.ptr w 0,.ptr w 17,.ptr w 18,Zz,.agg [Zi κ,Zs cb],.sl (N+1) 0 1 0,.sl (N+2) 0 1 0,.ptr w 0,.ptr w 17,.ptr w 18,.tup []] [7,8,12] [(_,_),(_,_),(_,_)] [1,2,0] [] [] [] Yt
  ⟨fun _ _ _ _ _ _ _ kG=>Zy 1 [] [(25,Zk (N+1) 0 1 0)] [] (N+2) [((N+1),Zw 71 2 1 [Zi κ,Zs cb])] [] kG,fun _ _ _ _ _ _ _ kG=>Ux (i':=0) (e:=71) (sz:=2) (by_:=24) (cc:=[Zi κ,Zs cb]) [2,3] _ (by kernel_rfl) (by kernel_rfl) rfl rfl rfl rfl rfl rfl rfl rfl (by omega) (by omega) rfl (rfl) (by decide) rfl kG,fun _ _ _ _ _ _ _ kG=>Zy 1 [2] [] [] (N+3) [] [(2,Zc [c0,c1,c2,c3,gr,Zi nu,m0,m1,m2,m3,m4,m5,Zi 1,m7,m8,m9,Zi at_,lo,Zk (N+2) 0 1 0,re])] kG,trivial⟩
  trivial rfl ?_
 refine Z5 [2,0] (.inl J) Zj J (by decide) ?_;exact ⟨J,J,J⟩
theorem Ca:HF Tryz.prog 146 [.ptr w 0,.agg [Zn m.op,Zi 0,Zs m.cl,Zs m.nm,Zl qa qb,Zi m.ty,Ze]] N [(w,Zc [c0,c1,c2,c3,gr,Zi nu,m0,m1,m2,m3,m4,m5,Zi 1,m7,m8,m9,Zi at_,lo,.sl s 0 1 0,re]),(s,Zw 71 2 1 [Zi κ,Zs cb])] fun u N' H'=>u=.tup []/\N'=N+4/\H'=[(w,Zc [c0,c1,c2,c3,gr,Zi nu,m0,m1,m2,m3,m4,m5,Zi 1,m7,m8,m9,Zi at_,lo,.sl s 0 0 0,re]),(s,Zw 71 2 1 [Zi κ,Zs cb])]:=by
 refine hf1 Tryz.func146 J Tryz.ntmps146 fun _ _ _ _=>?_;refine Zd (Zy 1 [] [] [] (N+1) [(N,Zc [Zn m.op,Zi 0,Zs m.cl,Zs m.nm,Zl qa qb,Zi m.ty,Ze])] [] ?_);refine Zg (Zo (Za 1 [] [(4,Zq w 0)] [] (Z0 [1,2] [2,1] Zj J J J J (Lc) J (Z7 (Z5 [0,1] (.inl J) Zj J (by decide) ?_)))));exact ⟨J,J,J⟩
theorem layc_m:HF Tryz.prog 251 [.ptr w 0,.agg [Zn m.op,Zi 0,Zs m.cl,Zs m.nm,Zl qa qb,Zi m.ty,Ze],.ptr b 0] N [(w,Zc [c0,c1,c2,c3,gr,Zi nu,m0,m1,m2,m3,m4,m5,Zi 1,m7,m8,m9,Zi at_,lo,.sl s 0 0 0,re]),(s,Zw 71 2 1 [Zi κ2,Zs cb2]),(b,Zc [Zi 1,Ze])] fun u N' H'=>u=.tup []/\N'=N+4/\H'=[(w,Zc [c0,c1,c2,c3,gr,Zi nu,m0,m1,m2,m3,m4,m5,Zi 1,m7,m8,m9,Zi at_,lo,.sl (N+3) 0 1 0,re]),((N+3),Zw 71 2 1 [Zi 1,Ze]),(b,Zc [Zi 1,Ze])]:=by
 refine hf1 Tryz.func251 J Tryz.ntmps251 fun _ _ _ _=>?_;refine Zd (Zy 1 [] [] [] (N+1) [(N,Zc [Zn m.op,Zi 0,Zs m.cl,Zs m.nm,Zl qa qb,Zi m.ty,Ze])] [] ?_);refine Zg (Zo (Za 2 [3] [(5,Zq w 0),(6,SV.agg [Zi 1,Ze])] [] ?_));refine Z0 [1,2] [2,1] Zj J J J J (Ld) J (Z7 (Z5 [0,1,3] (.inl J) Zj J (by decide) ?_));exact ⟨J,J,J⟩
theorem J5 {s:ByteArray}:HF Tryz.prog 158 [Zs s] N [] fun u N' H'=>u=.agg [Zi 3,Zs s]/\N'=N+1/\H'=[]:=by
 refine hf1 Tryz.func158 J Tryz.ntmps158 fun _ _ _ _=>?_;refine Zd (Zy 1 [] [(2,Zq N 0)] [] (N+1) [(N,Zc [Zi 0,Ze])] [] ?_);refine Zx (Zy 3 [0] [] [] (N+1) [] [(0,Zc [Zi 3,Zs s])] (Zg (Yc (X6 (i:=0) (El:=[(2,.ptr 0 0)]) (m:=[.agg [Zi 3,Zs s]]) [] (.inr J) Zj J ⟨J,trivial⟩ (by kernel_rfl) (by decide) ?_))));exact ⟨J,J,J⟩
theorem layOb_m:HF Tryz.prog 149 [.ptr w 0,.agg [Zn m.op,Zi 0,Zs m.cl,Zs m.nm,Zl qa qb,Zi m.ty,Ze]] N [(w,Zc [c0,c1,c2,c3,gr,Zi nu,m0,m1,m2,m3,m4,m5,Zi 1,m7,m8,m9,Zi at_,lo,.sl s 0 0 0,re]),(s,Zw 71 2 1 [Zi κ2,Zs cb2])] fun u N' H'=>u=.tup []/\N'=N+5/\H'=[(w,Zc [c0,c1,c2,c3,gr,Zi nu,m0,m1,m2,m3,m4,m5,Zi 1,m7,m8,m9,Zi at_,lo,.sl (N+4) 0 1 0,re]),((N+4),Zw 71 2 1 [Zi 3,Zs m.cl])]:=by
 refine hf1 Tryz.func149 J Tryz.ntmps149 fun _ _ _ _=>?_;refine Zd (Zy 1 [] [(3,Zq N 0)] [] (N+1) [(N,Zc [Zn m.op,Zi 0,Zs m.cl,Zs m.nm,Zl qa qb,Zi m.ty,Ze])] [] ?_);refine Zg (Zo (Za 4 [0] [(4,Zq w 0),(7,Zs m.cl)] [] (Z0 [] [] Zj J J J J (J5) J (Z0 [1,2] [2,1] Zj J J J J (Ld) J (Z7 (Z5 [0,1] (.inl J) Zj J (by decide) ?_))))));exact ⟨J,J,J⟩
theorem Zcj:HF Tryz.prog 149 [.ptr w 0,.agg [Zn m.op,Zi 0,Zs m.cl,Zs m.nm,Zl qa qb,Zi m.ty,Ze]] N [(w,Zc [c0,c1,c2,c3,gr,Zi nu,m0,m1,m2,m3,m4,m5,Zi 1,m7,m8,m9,Zi at_,lo,Zz,re])] fun u N' H'=>u=.tup []/\N'=N+5/\H'=[(w,Zc [c0,c1,c2,c3,gr,Zi nu,m0,m1,m2,m3,m4,m5,Zi 1,m7,m8,m9,Zi at_,lo,.sl (N+4) 0 1 0,re]),((N+4),Zw 71 2 1 [Zi 3,Zs m.cl])]:=by
 refine hf1 Tryz.func149 J Tryz.ntmps149 fun _ _ _ _=>?_;refine Zd (Zy 1 [] [(3,Zq N 0)] [] (N+1) [(N,Zc [Zn m.op,Zi 0,Zs m.cl,Zs m.nm,Zl qa qb,Zi m.ty,Ze])] [] ?_);refine Zg (Zo (Za 4 [0] [(4,Zq w 0),(7,Zs m.cl)] [] (Z0 [] [] Zj J J J J (J5) J (Z0 [1] [1] Zj J J J J (wlay_m0) J (Z7 (Z5 [0,1] (.inl J) Zj J (by decide) ?_))))));exact ⟨J,J,J⟩
theorem layTy_m:HF Tryz.prog 151 [.ptr w 0,.agg [Zn op,Zi 0,Zs cl,Zs nn,Zl qa qb,Zi 1,Ze]] N [(w,Zc [c0,c1,c2,c3,gr,Zi nu,m0,m1,m2,m3,m4,m5,Zi 1,m7,m8,m9,Zi at_,lo,.sl s 0 0 0,re]),(s,Zw 71 2 1 [Zi κ2,Zs cb2])] fun u N' H'=>u=.tup []/\N'=N+4/\H'=[(w,Zc [c0,c1,c2,c3,gr,Zi nu,m0,m1,m2,m3,m4,m5,Zi 1,m7,m8,m9,Zi at_,lo,.sl (N+3) 0 1 0,re]),((N+3),Zw 71 2 1 [Zi 1,Ze])]:=by
 refine hf1 Tryz.func151 J Tryz.ntmps151 fun _ _ _ _=>?_;refine Zd (Zy 1 [] [(3,Zq N 0)] [] (N+1) [(N,Zc [Zn op,Zi 0,Zs cl,Zs nn,Zl qa qb,Zi 1,Ze])] [] ?_);refine Zx (Za 5 [0] [(8,Zb true)] [] (Zg (Yj J (Zo (Za 4 [0] [(9,Zq w 0),(12,SV.agg [Zi 1,Ze])] [] ?_)))));refine Z0 [1,2] [2,1] Zj J J J J (Ld) J (Z7 (Z5 [0,1] (.inl J) Zj J (by decide) ?_));exact ⟨J,J,J⟩
theorem layLo_m:HF Tryz.prog 144 [.ptr w 0,.agg [Zn m.op,Zi 0,Zs m.cl,Zs m.nm,Zl qa qb,Zi m.ty,Ze]] N [(w,Zc [c0,c1,c2,c3,gr,Zi nu,m0,m1,m2,m3,m4,m5,Zi 1,m7,m8,m9,Zi at_,.sl lp 0 1 0,.sl s 0 0 0,re]),(s,Zw 71 2 1 [Zi κ2,Zs cb2]),(lp,Zw 71 2 1 [Zi 3,Zs cb])] fun u N' H'=>u=.tup []/\N'=N+5/\H'=[(w,Zc [c0,c1,c2,c3,gr,Zi nu,m0,m1,m2,m3,m4,m5,Zi 1,m7,m8,m9,Zi at_,.sl lp 0 1 0,.sl (N+4) 0 1 0,re]),((N+4),Zw 71 2 1 [Zi 3,Zs cb]),(lp,Zw 71 2 1 [Zi 3,Zs cb])]:=by
 refine hf1 Tryz.func144 J Tryz.ntmps144 fun _ _ _ _=>?_;refine Zd (Zy 1 [] [(3,Zq N 0)] [] (N+1) [(N,Zc [Zn m.op,Zi 0,Zs m.cl,Zs m.nm,Zl qa qb,Zi m.ty,Ze])] [] ?_);refine Z1 ?_
 refine Y0 [.ptr w 0,.ptr w 0,.ptr w 17,.ptr w 17,.sl lp 0 1 0,.ptr N 1,Zi 0,.ptr lp 0,.agg [Zi 3,Zs cb],.ptr (N+1) 0,.tup []] [9,10] [(_,_),(_,_)] [1,2,0,1,3,4] [(4,Zq (N+1) 0)] [] [] Yt
  ⟨fun _ _ _ _ _ _ _ kG=>Zy 1 [] [(4,Zq (N+1) 0)] [] (N+2) [((N+1),Zc [Zi 0,Ze])] [] kG,fun _ _ _ _ _ _ _ kG=>Zy 1 [0] [] [] (N+2) [] [(0,Zc [Zi 3,Zs cb])] kG,trivial⟩
  trivial rfl ?_
 refine Yh (Za 4 [0] [(14,Zq w 0),(17,Zb true)] [] (Z0 [] [] Zj J J J J (V3) J (Zg (Zo (Za 2 [0] [(19,Zq w 0),(20,SV.agg [Zi 3,Zs cb])] [] (Z0 [2,3] [3,2] Zj J J J J (Ld) J (Z7 (Z5 [0,1,4] (.inl J) Zj J (by decide) ?_))))))));exact ⟨J,J,J⟩
theorem Az:HF Tryz.prog 145 [.ptr w 0,.agg [Zn m.op,Zi 0,Zs m.cl,Zs m.nm,Zl qa qb,Zi m.ty,Ze]] N [(w,Zc [c0,c1,c2,c3,gr,Zi nu,m0,m1,m2,m3,m4,m5,Zi 1,m7,m8,m9,Zi at_,.sl lp 0 1 0,.sl s 0 1 0,re]),(s,Zw 71 2 1 [Zi κ,Zs cb]),(lp,Zw 71 2 1 [Zi κ2,Zs cb2])] fun u N' H'=>u=.tup []/\N'=N+4/\H'=[(w,Zc [c0,c1,c2,c3,gr,Zi nu,m0,m1,m2,m3,m4,m5,Zi 1,m7,m8,m9,Zi at_,.sl lp 0 1 0,.sl s 0 0 0,re]),(s,Zw 71 2 1 [Zi κ,Zs cb]),(lp,Zw 71 2 1 [Zi κ,Zs cb])]:=by
 refine hf1 Tryz.func145 J Tryz.ntmps145 fun _ _ _ _=>?_;refine Zd (Zy 1 [] [(3,Zq N 0)] [] (N+1) [(N,Zc [Zn m.op,Zi 0,Zs m.cl,Zs m.nm,Zl qa qb,Zi m.ty,Ze])] [] ?_);refine Zg ?_
 refine Y0 [.ptr w 0,.ptr w 0,.ptr w 17,.ptr w 17,.sl lp 0 1 0,.ptr N 1,Zi 0,.ptr w 0,.agg [Zi κ,Zs cb],.ptr lp 0,.tup []] [8,10] [(_,_),(_,_)] [1,0,0,2] [] [] [] Yt
  ⟨fun _ _ _ _ _ _ _ kG=>Z0 [1,2] [2,1] Zj rfl rfl rfl rfl (Lc) rfl kG,fun _ _ _ _ _ _ _ kG=>Zy 1 [3] [] [] (N+4) [] [(3,Zw 71 2 1 [Zi κ,Zs cb])] kG,trivial⟩
  trivial rfl ?_
 refine Z5 [0,1,3] (.inl J) Zj J (by decide) ?_;exact ⟨J,J,J⟩
theorem has_m:HF Tryz.prog 256 [.sl r 0 2 0,Zi 3] N [(r,.row 3 1 2 [Zi 3,Zi 5])] fun u N' H'=>u=Zb true/\N'=N/\H'=[(r,.row 3 1 2 [Zi 3,Zi 5])] :=
 Xs (N:=N) (bs:=[r]) (Bs:=[.row 3 1 2 [Zi 3,Zi 5]]) (is:=[0]) (f:=256) (args:=[.sl 0 0 2 0,Zi 3]) (v:=Zb true) (n:=N) (H2:=[(r,.row 3 1 2 [Zi 3,Zi 5])]) 1000 (by kernel_rfl) rfl (Nat.le_of_ble_eq_true rfl) (by decide)
theorem A0:HF Tryz.prog 255 [.ptr w 0,.agg [Zn m.op,Zi 0,Zs m.cl,Zs m.nm,Zl qa qb,Zi m.ty,Ze],.ptr q 0] N [(w,Zc [c0,c1,c2,c3,gr,Zi nu,m0,m1,m2,m3,m4,m5,Zi 1,m7,m8,m9,Zi at_,lo,.sl s 0 1 0,re]),(s,Zw 71 2 1 [Zi 3,Zs cb]),(q,Zc [.sl r 0 2 0]),(r,Zw 3 1 2 [Zi 3,Zi 5])] fun u N' H'=>u=.tup []/\N'=N+4/\H'=[(w,Zc [c0,c1,c2,c3,gr,Zi nu,m0,m1,m2,m3,m4,m5,Zi 1,m7,m8,m9,Zi at_,lo,.sl s 0 0 0,re]),(s,Zw 71 2 1 [Zi 3,Zs cb]),(q,Zc [.sl r 0 2 0]),(r,Zw 3 1 2 [Zi 3,Zi 5])]:=by
 refine hf1 Tryz.func255 J Tryz.ntmps255 fun _ _ _ _=>?_;refine Zd (Zy 1 [] [] [] (N+1) [(N,Zc [Zn m.op,Zi 0,Zs m.cl,Zs m.nm,Zl qa qb,Zi m.ty,Ze])] [] ?_);refine Zg ?_
 refine Y0 [.ptr w 0,.sl r 0 2 0,.ptr w 0,.agg [Zi 3,Zs cb],Zi 3,Zb true,.tup []] [3,5,6] [(_,_),(_,_),(_,_)] [3,3] [] [] [4] Yt
  ⟨fun _ _ _ _ _ _ _ kG=>Z0 [1,2] [2,1] Zj rfl rfl rfl rfl (Lc) rfl kG,fun _ _ _ _ _ _ _ kG=>Z0 [4] [4] Zj rfl rfl rfl rfl (has_m) rfl kG,fun _ _ _ _ _ _ _ kG=>Z0 [] [] Zj rfl rfl rfl rfl (V3) rfl kG,trivial⟩
  ⟨(Xn (by kernel_rfl) (Ys (fun _ hGG=>(Gc rfl rfl rfl)) (Xn (by kernel_rfl) (Xn (by kernel_rfl) trivial)))),trivial⟩ rfl ?_
 refine Z5 [1,2,4,0] (.inl J) Zj J (by decide) ?_;exact ⟨J,J,J⟩
theorem give_m {st:SV}:HF Tryz.prog 156 [.ptr w 0,.agg [Zn m.op,Zi 0,Zs m.cl,Zs m.nm,Zl qa qb,Zi m.ty,Ze]] N [(w,Zc [c0,c1,c2,c3,gr,Zi nu,m0,m1,m2,Zi 0,m4,m5,Zi 1,m7,m8,m9,Zi at_,lo,st,re])] fun u N' H'=>u=.tup []/\N'=N+1/\H'=[(w,Zc [c0,c1,c2,c3,gr,Zi nu,m0,m1,m2,Zi 0,m4,m5,Zi 1,m7,m8,m9,Zi at_,lo,st,re])]:=by
 refine hf1 Tryz.func156 J Tryz.ntmps156 fun _ _ _ _=>?_;refine Zd (Zy 1 [] [] [] (N+1) [(N,Zc [Zn m.op,Zi 0,Zs m.cl,Zs m.nm,Zl qa qb,Zi m.ty,Ze])] [] ?_);refine Zg (Zo (Za 8 [1] [(4,Zq w 0),(11,Zb true)] [] (Z0 [] [] Zj J J J J (V3) J (Z7 (Z5 [1] (.inl J) Zj J (by decide) ?_)))));exact ⟨J,J,J⟩
end
end S
namespace S
open Go Go.RowKit E
section
set_option maxRecDepth 100000
variable {N:Nat}
theorem Zbm:HF Tryz.prog 104 [] N [] fun u N' H'=>u=.sl (N+94) 0 33 0/\N'=N+115/\H'=[(N+94,.row 264 4 33 (tabK N)),(N+104,.cells [.sl (N+57) 0 2 0]),(N+57,.row 3 1 2 [Zi 3,Zi 5]),(N+105,.cells nT)]:=by
 have h:=Rj (bs:=[]) (N:=N) (Rk 3000 _ _ (Q0 opsK_ok)) rfl (by decide) (by kernel_rfl) (by kernel_rfl);have hv:ren (rho [] N) (rsV opsK)=.sl (N+94) 0 33 0:=by kernel_rfl
 have hn:N+((rsS opsK).n - ([]:List Nat).length)=N+115:=by kernel_rfl
 rw [show rsV (R1 3000 (.call 104 [] (stOf [])))=rsV opsK from rfl,hv] at h;rw [show rsS (R1 3000 (.call 104 [] (stOf [])))=rsS opsK from rfl,hn] at h;exact HF.less [17,26,11,27] h (by decide) (by kernel_rfl)
theorem Fz:cutAt (tabK N) (0+15*4) 4=oL (.fn 149 [] []):=by kernel_rfl
theorem tabK_18:cutAt (tabK N) (0+18*4) 4=oL (.fn 151 [] []):=by kernel_rfl
theorem tabK_26:cutAt (tabK N) (0+26*4) 4=[.fn 255 [] [.ptr (N+104) 0],.fn 251 [] [.ptr (N+105) 0],Zb false,Zb false]:=by kernel_rfl
end
section
set_option maxRecDepth 10000
variable {N w s lp q r b op:Nat} {m:Mi} {κ κ2:Int} {cb cb2 cl nn:ByteArray} {qa:Option Addr} {qb:Nat} {zp:Option Addr} {zq:Nat} {c0 c1 c2 c3 gr m0 m1 m2 m3 m4 m5 m7 m8 m9 lo nv m6 av st re:SV} {nu at_:Int}
theorem Zds:HF Tryz.prog 162 [.ptr w 0,.agg [.v .nilFunc,.fn 149 [] [],Zb false,Zb false],.agg [Zn m.op,Zi 0,Zs m.cl,Zs m.nm,Zl qa qb,Zi m.ty,Ze]] N [(w,Zc [c0,c1,c2,c3,gr,Zi nu,m0,m1,m2,m3,m4,m5,Zi 1,m7,m8,m9,Zi at_,lo,.sl s 0 0 0,Zb true]),(s,Zw 71 2 1 [Zi κ2,Zs cb2])] fun u N' H'=>u=.tup []/\N'=N+7/\H'=[(w,Zc [c0,c1,c2,c3,gr,Zi nu,m0,m1,m2,m3,m4,m5,Zi 1,m7,m8,m9,Zi at_,lo,.sl (N+6) 0 1 0,Zb true]),((N+6),Zw 71 2 1 [Zi 3,Zs m.cl])]:=by
 refine hf1 Tryz.func162 J Tryz.ntmps162 fun _ _ _ _=>?_;refine Zd (Zy 2 [] [(4,Zq N 0),(5,Zq (N+1) 0)] [] (N+2) [((N+1),Zc [Zn m.op,Zi 0,Zs m.cl,Zs m.nm,Zl qa qb,Zi m.ty,Ze]),(N,Zc [SV.v .nilFunc,Zh 149 [] [],Zb false,Zb false])] [] ?_);refine Z1 (Zd (Za 3 [1] [(8,Zb false)] [] (Zg (Z6 J (Ya (Zr (Z2 (Zd (Za 3 [1] [(16,Zb true)] [] (Zg (Yj J (Zo (Za 4 [1,0] [(18,Zh 149 [] []),(19,Zq w 0),(20,SV.agg [Zn m.op,Zi 0,Zs m.cl,Zs m.nm,Zl qa qb,Zi m.ty,Ze])] [] ?_)))))))))))));refine Z0 [2,3] [3,2] Zj J J J J (layOb_m) J (Z1 (Zd (Za 2 [3] [(23,Zb false)] [] (Zg (Z6 J (Ya (Zr (Zo (Za 7 [3,0] [] [] (Z7 (Z5 [0,1] (.inl J) Zj J (by decide) ?_)))))))))));exact ⟨J,J,J⟩
theorem Bf:HF Tryz.prog 162 [.ptr w 0,.agg [.v .nilFunc,.fn 149 [] [],Zb false,Zb false],.agg [Zn m.op,Zi 0,Zs m.cl,Zs m.nm,Zl qa qb,Zi m.ty,Ze]] N [(w,Zc [c0,c1,c2,c3,gr,Zi nu,m0,m1,m2,m3,m4,m5,Zi 1,m7,m8,m9,Zi at_,lo,Zz,Zb true])] fun u N' H'=>u=.tup []/\N'=N+7/\H'=[(w,Zc [c0,c1,c2,c3,gr,Zi nu,m0,m1,m2,m3,m4,m5,Zi 1,m7,m8,m9,Zi at_,lo,.sl (N+6) 0 1 0,Zb true]),((N+6),Zw 71 2 1 [Zi 3,Zs m.cl])]:=by
 refine hf1 Tryz.func162 J Tryz.ntmps162 fun _ _ _ _=>?_;refine Zd (Zy 2 [] [(4,Zq N 0),(5,Zq (N+1) 0)] [] (N+2) [((N+1),Zc [Zn m.op,Zi 0,Zs m.cl,Zs m.nm,Zl qa qb,Zi m.ty,Ze]),(N,Zc [SV.v .nilFunc,Zh 149 [] [],Zb false,Zb false])] [] ?_);refine Z1 (Zd (Za 3 [1] [(8,Zb false)] [] (Zg (Z6 J (Ya (Zr (Z2 (Zd (Za 3 [1] [(16,Zb true)] [] (Zg (Yj J (Zo (Za 4 [1,0] [(18,Zh 149 [] []),(19,Zq w 0),(20,SV.agg [Zn m.op,Zi 0,Zs m.cl,Zs m.nm,Zl qa qb,Zi m.ty,Ze])] [] ?_)))))))))))));refine Z0 [2] [2] Zj J J J J (Zcj) J (Z1 (Zd (Za 2 [3] [(23,Zb false)] [] (Zg (Z6 J (Ya (Zr (Zo (Za 7 [3,0] [] [] (Z7 (Z5 [0,1] (.inl J) Zj J (by decide) ?_)))))))))));exact ⟨J,J,J⟩
theorem Zdu:HF Tryz.prog 162 [.ptr w 0,.agg [.v .nilFunc,.fn 151 [] [],Zb false,Zb false],.agg [Zn op,Zi 0,Zs cl,Zs nn,Zl qa qb,Zi 1,Ze]] N [(w,Zc [c0,c1,c2,c3,gr,Zi nu,m0,m1,m2,m3,m4,m5,Zi 1,m7,m8,m9,Zi at_,lo,.sl s 0 0 0,Zb true]),(s,Zw 71 2 1 [Zi κ2,Zs cb2])] fun u N' H'=>u=.tup []/\N'=N+6/\H'=[(w,Zc [c0,c1,c2,c3,gr,Zi nu,m0,m1,m2,m3,m4,m5,Zi 1,m7,m8,m9,Zi at_,lo,.sl (N+5) 0 1 0,Zb true]),((N+5),Zw 71 2 1 [Zi 1,Ze])]:=by
 refine hf1 Tryz.func162 J Tryz.ntmps162 fun _ _ _ _=>?_;refine Zd (Zy 2 [] [(4,Zq N 0),(5,Zq (N+1) 0)] [] (N+2) [((N+1),Zc [Zn op,Zi 0,Zs cl,Zs nn,Zl qa qb,Zi 1,Ze]),(N,Zc [SV.v .nilFunc,Zh 151 [] [],Zb false,Zb false])] [] ?_);refine Z1 (Zd (Za 3 [1] [(8,Zb false)] [] (Zg (Z6 J (Ya (Zr (Z2 (Zd (Za 3 [1] [(16,Zb true)] [] (Zg (Yj J (Zo (Za 4 [1,0] [(18,Zh 151 [] []),(19,Zq w 0),(20,SV.agg [Zn op,Zi 0,Zs cl,Zs nn,Zl qa qb,Zi 1,Ze])] [] ?_)))))))))))));refine Z0 [2,3] [3,2] Zj J J J J (layTy_m) J (Z1 (Zd (Za 2 [3] [(23,Zb false)] [] (Zg (Z6 J (Ya (Zr (Zo (Za 7 [3,0] [] [] (Z7 (Z5 [0,1] (.inl J) Zj J (by decide) ?_)))))))))));exact ⟨J,J,J⟩
theorem Bg:HF Tryz.prog 162 [.ptr w 0,.agg [.v .nilFunc,.fn 144 [] [],Zb false,Zb false],.agg [Zn m.op,Zi 0,Zs m.cl,Zs m.nm,Zl qa qb,Zi m.ty,Ze]] N [(w,Zc [c0,c1,c2,c3,gr,Zi nu,m0,m1,m2,m3,m4,m5,Zi 1,m7,m8,m9,Zi at_,.sl lp 0 1 0,.sl s 0 0 0,Zb true]),(s,Zw 71 2 1 [Zi κ2,Zs cb2]),(lp,Zw 71 2 1 [Zi 3,Zs cb])] fun u N' H'=>u=.tup []/\N'=N+7/\H'=[(w,Zc [c0,c1,c2,c3,gr,Zi nu,m0,m1,m2,m3,m4,m5,Zi 1,m7,m8,m9,Zi at_,.sl lp 0 1 0,.sl (N+6) 0 1 0,Zb true]),((N+6),Zw 71 2 1 [Zi 3,Zs cb]),(lp,Zw 71 2 1 [Zi 3,Zs cb])]:=by
 refine hf1 Tryz.func162 J Tryz.ntmps162 fun _ _ _ _=>?_;refine Zd (Zy 2 [] [(4,Zq N 0),(5,Zq (N+1) 0)] [] (N+2) [((N+1),Zc [Zn m.op,Zi 0,Zs m.cl,Zs m.nm,Zl qa qb,Zi m.ty,Ze]),(N,Zc [SV.v .nilFunc,Zh 144 [] [],Zb false,Zb false])] [] ?_);refine Z1 (Zd (Za 3 [1] [(8,Zb false)] [] (Zg (Z6 J (Ya (Zr (Z2 (Zd (Za 3 [1] [(16,Zb true)] [] (Zg (Yj J (Zo (Za 4 [1,0] [(18,Zh 144 [] []),(19,Zq w 0),(20,SV.agg [Zn m.op,Zi 0,Zs m.cl,Zs m.nm,Zl qa qb,Zi m.ty,Ze])] [] ?_)))))))))))));refine Z0 [2,3,4] [4,3,2] Zj J J J J (layLo_m) J (Z1 (Zd (Za 2 [4] [(23,Zb false)] [] (Zg (Z6 J (Ya (Zr (Zo (Za 7 [4,0] [] [] (Z7 (Z5 [0,1,2] (.inl J) Zj J (by decide) ?_)))))))))));exact ⟨J,J,J⟩
theorem G5:HF Tryz.prog 162 [.ptr w 0,.agg [.fn 145 [] [],.v .nilFunc,Zb false,Zb false],.agg [Zn m.op,Zi 0,Zs m.cl,Zs m.nm,Zl qa qb,Zi m.ty,Ze]] N [(w,Zc [c0,c1,c2,c3,gr,Zi nu,m0,m1,m2,m3,m4,m5,Zi 1,m7,m8,m9,Zi at_,.sl lp 0 1 0,.sl s 0 1 0,Zb true]),(s,Zw 71 2 1 [Zi κ,Zs cb]),(lp,Zw 71 2 1 [Zi κ2,Zs cb2])] fun u N' H'=>u=.tup []/\N'=N+6/\H'=[(w,Zc [c0,c1,c2,c3,gr,Zi nu,m0,m1,m2,m3,m4,m5,Zi 1,m7,m8,m9,Zi at_,.sl lp 0 1 0,.sl s 0 0 0,Zb true]),(s,Zw 71 2 1 [Zi κ,Zs cb]),(lp,Zw 71 2 1 [Zi κ,Zs cb])]:=by
 refine hf1 Tryz.func162 J Tryz.ntmps162 fun _ _ _ _=>?_;refine Zd (Zy 2 [] [(4,Zq N 0),(5,Zq (N+1) 0)] [] (N+2) [((N+1),Zc [Zn m.op,Zi 0,Zs m.cl,Zs m.nm,Zl qa qb,Zi m.ty,Ze]),(N,Zc [Zh 145 [] [],SV.v .nilFunc,Zb false,Zb false])] [] ?_);refine Z1 (Zd (Za 3 [1] [(8,Zb true)] [] (Zg (Yj J (Zo (Za 4 [1,0] [(10,Zh 145 [] []),(11,Zq w 0),(12,SV.agg [Zn m.op,Zi 0,Zs m.cl,Zs m.nm,Zl qa qb,Zi m.ty,Ze])] [] ?_))))));refine Z0 [2,3,4] [4,3,2] Zj J J J J (Az) J (Z1 (Zd (Za 3 [4] [(16,Zb false)] [] (Zg (Z6 J (Ya (Zr (Z2 (Zd (Za 2 [4] [(23,Zb false)] [] (Zg (Z6 J (Ya (Zr (Zo (Za 7 [4,0] [] [] (Z7 (Z5 [0,1,2] (.inl J) Zj J (by decide) ?_))))))))))))))))));exact ⟨J,J,J⟩
theorem Zdq:HF Tryz.prog 162 [.ptr w 0,.agg [.fn 146 [] [],.v .nilFunc,Zb false,Zb false],.agg [Zn m.op,Zi 0,Zs m.cl,Zs m.nm,Zl qa qb,Zi m.ty,Ze]] N [(w,Zc [c0,c1,c2,c3,gr,Zi nu,m0,m1,m2,m3,m4,m5,Zi 1,m7,m8,m9,Zi at_,lo,.sl s 0 1 0,Zb true]),(s,Zw 71 2 1 [Zi κ,Zs cb])] fun u N' H'=>u=.tup []/\N'=N+6/\H'=[(w,Zc [c0,c1,c2,c3,gr,Zi nu,m0,m1,m2,m3,m4,m5,Zi 1,m7,m8,m9,Zi at_,lo,.sl s 0 0 0,Zb true]),(s,Zw 71 2 1 [Zi κ,Zs cb])]:=by
 refine hf1 Tryz.func162 J Tryz.ntmps162 fun _ _ _ _=>?_;refine Zd (Zy 2 [] [(4,Zq N 0),(5,Zq (N+1) 0)] [] (N+2) [((N+1),Zc [Zn m.op,Zi 0,Zs m.cl,Zs m.nm,Zl qa qb,Zi m.ty,Ze]),(N,Zc [Zh 146 [] [],SV.v .nilFunc,Zb false,Zb false])] [] ?_);refine Z1 (Zd (Za 3 [1] [(8,Zb true)] [] (Zg (Yj J (Zo (Za 4 [1,0] [(10,Zh 146 [] []),(11,Zq w 0),(12,SV.agg [Zn m.op,Zi 0,Zs m.cl,Zs m.nm,Zl qa qb,Zi m.ty,Ze])] [] ?_))))));refine Z0 [2,3] [3,2] Zj J J J J (Ca) J (Z1 (Zd (Za 3 [3] [(16,Zb false)] [] (Zg (Z6 J (Ya (Zr (Z2 (Zd (Za 2 [3] [(23,Zb false)] [] (Zg (Z6 J (Ya (Zr (Zo (Za 7 [3,0] [] [] (Z7 (Z5 [0,1] (.inl J) Zj J (by decide) ?_))))))))))))))))));exact ⟨J,J,J⟩
theorem do_is_m:HF Tryz.prog 162 [.ptr w 0,.agg [.fn 255 [] [.ptr q 0],.fn 251 [] [.ptr b 0],Zb false,Zb false],.agg [Zn m.op,Zi 0,Zs m.cl,Zs m.nm,Zl qa qb,Zi m.ty,Ze]] N [(w,Zc [c0,c1,c2,c3,gr,Zi nu,m0,m1,m2,m3,m4,m5,Zi 1,m7,m8,m9,Zi at_,lo,.sl s 0 1 0,Zb true]),(s,Zw 71 2 1 [Zi 3,Zs cb]),(q,Zc [.sl r 0 2 0]),(r,Zw 3 1 2 [Zi 3,Zi 5]),(b,Zc [Zi 1,Ze])] fun u N' H'=>u=.tup []/\N'=N+10/\H'=[(w,Zc [c0,c1,c2,c3,gr,Zi nu,m0,m1,m2,m3,m4,m5,Zi 1,m7,m8,m9,Zi at_,lo,.sl (N+9) 0 1 0,Zb true]),((N+9),Zw 71 2 1 [Zi 1,Ze]),(q,Zc [.sl r 0 2 0]),(r,Zw 3 1 2 [Zi 3,Zi 5]),(b,Zc [Zi 1,Ze])]:=by
 refine hf1 Tryz.func162 J Tryz.ntmps162 fun _ _ _ _=>?_;refine Zd (Zy 2 [] [(4,Zq N 0),(5,Zq (N+1) 0)] [] (N+2) [((N+1),Zc [Zn m.op,Zi 0,Zs m.cl,Zs m.nm,Zl qa qb,Zi m.ty,Ze]),(N,Zc [Zh 255 [] [Zq q 0],Zh 251 [] [Zq b 0],Zb false,Zb false])] [] ?_);refine Z1 (Zd (Za 3 [1] [(8,Zb true)] [] (Zg (Yj J (Zo (Za 4 [1,0] [(10,Zh 255 [] [Zq q 0]),(11,Zq w 0),(12,SV.agg [Zn m.op,Zi 0,Zs m.cl,Zs m.nm,Zl qa qb,Zi m.ty,Ze])] [] ?_))))));refine Z0 [2,3,4,5] [5,4,3,2] Zj J J J J (A0) J (Z1 (Zd (Za 3 [5] [(16,Zb true)] [] (Zg (Yj J (Zo (Za 4 [5,4] [(18,Zh 251 [] [Zq b 0]),(19,Zq w 0),(20,SV.agg [Zn m.op,Zi 0,Zs m.cl,Zs m.nm,Zl qa qb,Zi m.ty,Ze])] [] ?_)))))));refine Z0 [0,1,6] [6,1,0] Zj J J J J (layc_m) J (Z1 (Zd (Za 2 [6] [(23,Zb false)] [] (Zg (Z6 J (Ya (Zr (Zo (Za 7 [6,0] [] [] (Z7 (Z5 [0,1,3,4,2] (.inl J) Zj J (by decide) ?_)))))))))));exact ⟨J,J,J⟩
theorem Zdp:HF Tryz.prog 162 [.ptr w 0,.agg [.fn 156 [] [],.v .nilFunc,Zb false,Zb true],.agg [Zn m.op,Zi 0,Zs m.cl,Zs m.nm,Zl qa qb,Zi m.ty,Ze]] N [(w,Zc [c0,c1,c2,c3,gr,Zi nu,m0,m1,m2,Zi 0,m4,m5,Zi 1,m7,m8,m9,Zi at_,lo,st,Zb true])] fun u N' H'=>u=.tup []/\N'=N+3/\H'=[(w,Zc [c0,c1,c2,c3,gr,Zi nu,m0,m1,m2,Zi 0,m4,m5,Zi 1,m7,m8,m9,Zi at_,lo,st,Zb false])]:=by
 refine hf1 Tryz.func162 J Tryz.ntmps162 fun _ _ _ _=>?_;refine Zd (Zy 2 [] [(4,Zq N 0),(5,Zq (N+1) 0)] [] (N+2) [((N+1),Zc [Zn m.op,Zi 0,Zs m.cl,Zs m.nm,Zl qa qb,Zi m.ty,Ze]),(N,Zc [Zh 156 [] [],SV.v .nilFunc,Zb false,Zb true])] [] ?_);refine Z1 (Zd (Za 3 [1] [(8,Zb true)] [] (Zg (Yj J (Zo (Za 4 [1,0] [(10,Zh 156 [] []),(11,Zq w 0),(12,SV.agg [Zn m.op,Zi 0,Zs m.cl,Zs m.nm,Zl qa qb,Zi m.ty,Ze])] [] ?_))))));refine Z0 [2] [2] Zj J J J J (give_m) J (Z1 (Zd (Za 3 [2] [(16,Zb false)] [] (Zg (Z6 J (Ya (Zr (Z2 (Zd (Za 2 [2] [(23,Zb false)] [] (Zg (Z6 J (Ya (Zr (Zo (Zy 7 [2,0] [] [] (N+3) [] [(0,Zc [c0,c1,c2,c3,gr,Zi nu,m0,m1,m2,Zi 0,m4,m5,Zi 1,m7,m8,m9,Zi at_,lo,st,Zb false])] (Z7 (Z5 [0] (.inl J) Zj J (by decide) ?_))))))))))))))))));exact ⟨J,J,J⟩
theorem first_m:HF Tryz.prog 159 [.ptr w 0] N [(w,Zc [c0,c1,c2,c3,gr,nv,m0,Zb true,Zl zp zq,m3,m4,Zi 1,m6,m7,m8,m9,av,lo,st,re])] fun u N' H'=>u=.agg [.sl (N+3) 0 1 0,Zz]/\N'=N+4/\H'=[((N+3),Zw 71 2 1 [Zi 4,Ze]),(w,Zc [c0,c1,c2,c3,gr,nv,m0,Zb true,Zl zp zq,m3,m4,Zi 1,m6,m7,m8,m9,av,lo,st,re])]:=by
 refine hf1 Tryz.func159 J Tryz.ntmps159 fun _ _ _ _=>?_;refine Zd (Zy 1 [] [(2,Zq N 0)] [] (N+1) [(N,Zc [Zz,Zz])] [] (Zx (Zy 7 [1] [(3,Zk (N+1) 0 0 0)] [] (N+2) [((N+1),Zw 71 2 0 [])] [] (Z1 (Zd (Za 6 [2] [(15,Zb false)] [] (Zg (Z6 J (Ya (Yh (Za 6 [2] [(25,Zk (N+1) 0 0 0),(30,Zl zp zq)] [] (HL_ape (i:=0) (e:=71) (sz:=2) (by_:=24) (by kernel_rfl) (by kernel_rfl) J J J J J (by omega) J ?_))))))))))));refine Za 1 [] [(3,Zk (N+1) 0 0 0)] [] (Z1 (Zv (Yv (Yg ?_))));refine Z2 (Zd (Za 8 [2] [(39,Zb true)] [] (Zg (Yj J (Ya (Zr (Zv (Zo (Zy 3 [] [(40,Zk (N+1) 0 0 0),(42,Zk (N+2) 0 1 0)] [] (N+3) [((N+2),Zw 71 2 1 [Zi 4,Ze])] [] ?_)))))))));refine Uw (i:=1) (i':=0) (e:=71) (sz:=2) (by_:=24) (js:=[2,3]) (cc:=[Zi 4,Ze]) _ (by kernel_rfl) (by kernel_rfl) J J J J J J J (by decide) J (by omega) J J (by omega) (by omega) J (J) J ?_;refine Za 1 [] [(3,Zk (N+3) 0 1 0)] [] (Z7 (Yb (Zr (Yg (Z2 (Zd (Za 8 [2] [(39,Zb false)] [] (Zg (Z6 J (Yz (Z8 (Z8 (Xb (z:=.exit _) J (Yi (Yh (Zy 3 [1] [] [] (N+4) [] [(1,Zc [Zk (N+3) 0 1 0,Zz])] (Zg (Yc (X6 (i:=1) (El:=[(2,.ptr 0 0)]) (m:=[.agg [.sl (N+3) 0 1 0,Zz]]) [0,2] (.inr J) Zj J ⟨J,trivial⟩ (by kernel_rfl) (by decide) ?_)))))))))))))))))));exact ⟨J,J,J⟩
end
end S
namespace S
open Go Go.RowKit E
abbrev bxm (T:Nat):Ch:=[(T+104,.cells [.sl (T+57) 0 2 0]),(T+57,.row 3 1 2 [Zi 3,Zi 5]),(T+105,.cells nT)]
structure Wm where
 (w lp T:Nat) (c0 c1 c2 c3 gr m0 m1 m2 m4 m5 m7 m8 m9:SV) (nu:Int)
abbrev Wm.W (x:Wm) (at_:Int) (st:SV) (re:Bool):SB:=.cells [x.c0,x.c1,x.c2,x.c3,x.gr,Zi x.nu,x.m0,x.m1,x.m2,Zi 0,x.m4,x.m5,Zi 1,x.m7,x.m8,x.m9,Zi at_,.sl x.lp 0 1 0,st,Zb re]
abbrev tyR (κ:Int) (cb:ByteArray):SB:=.row 71 2 1 [Zi κ,Zs cb]
abbrev Wm.H (x:Wm) (at_:Int) (re:Bool) (s ln:Nat) (κ:Int) (cb:ByteArray) (κl:Int) (cl:ByteArray):Ch:=[(x.w,x.W at_ (.sl s 0 ln 0) re),(s,tyR κ cb),(x.lp,tyR κl cl)]++bxm x.T
abbrev Wm.H0 (x:Wm) (at_:Int):Ch:=[(x.w,x.W at_ (Zz) true),(x.lp,tyR 4 ⟨#[]⟩)]++bxm x.T
inductive At2:List Mi->Nat->Int->ByteArray->Int->ByteArray->Prop
 | store {r:List Mi} (h:Body r):At2 (.store::r) 1 3 (spL 0) 4 ⟨#[]⟩
 | body {r:List Mi} {κ:Int} {cb:ByteArray} (h:Body r):At2 r 0 κ cb 3 (spL 0)
 | pop {r:List Mi} {κ:Int} {cb:ByteArray} (h:Body r):At2 (.pop::r) 1 κ cb 3 (spL 0)
 | is {k:Nat} {r:List Mi} (hk:k<8) (h:Body r):At2 (.is k::.pop::r) 1 3 (spL 0) 3 (spL 0)
structure TbM (T op:Nat) (t1 t2:SV) (e:Bool):Prop where
 lt:op<33
 o1:sOne t1=true
 o2:sOne t2=true
 row:cutAt (tabK T) (0+op*4) 4=[t1,t2,Zb false,Zb e]
theorem Body.ne {r:List Mi} (h:Body r):r≠[]:=by cases h<;>simp
section
set_option maxRecDepth 10000
variable {x:Wm} {N s ln:Nat} {m:Mi} {r:List Mi} {κ κl at_:Int} {cb cl:ByteArray} {qa:Option Addr} {qb:Nat}
theorem Zcs (h:At2 (m::r) ln κ cb κl cl):∃ t1 t2 e,TbM x.T m.op t1 t2 e/\∃ s' ln' κ' cb' κl' cl' N',(e=true->r=[])/\(e=false->r≠[]/\At2 r ln' κ' cb' κl' cl') /\
   HF Tryz.prog 162 [.ptr x.w 0,.agg [t1,t2,Zb false,Zb e],.agg (mi7 m qa qb)] N (x.H at_ true s ln κ cb κl cl) fun u n' h=>u=.tup []/\n'=N'/\h=x.H at_ (!e) s' ln' κ' cb' κl' cl':=by
 cases h with
 | store h=>exact ⟨_,_,_,⟨Nat.le_of_ble_eq_true rfl,rfl,rfl,tabK_3⟩,s,0,_,_,_,_,_,(fun h=>by cases h),fun _=>⟨h.ne,.body h⟩,HF.pick (k:=6) (k2:=6) [0,1,2] [3,4,5] [0,1,2,3,4,5] (G5 (m:=.store)) rfl (by decide) rfl (by decide) rfl⟩
 | pop h=>exact ⟨_,_,_,⟨Nat.le_of_ble_eq_true rfl,rfl,rfl,tabK_4⟩,s,0,κ,cb,_,_,_,(fun h=>by cases h),fun _=>⟨h.ne,.body h⟩,HF.pick (k:=6) (k2:=6) [0,1] [2,3,4,5] [0,1,2,3,4,5] (Zdq (m:=.pop)) rfl (by decide) rfl (by decide) rfl⟩
 | @is k _ hk h=>exact ⟨_,_,_,⟨Nat.le_of_ble_eq_true rfl,rfl,rfl,tabK_26⟩,_,1,_,_,_,_,_,(fun h=>by cases h),fun _=>⟨by simp,.pop h⟩,HF.pick (k:=6) (k2:=6) [0,1,3,4,5] [2] [0,1,5,2,3,4] (do_is_m (m:=.is k)) rfl (by decide) rfl (by decide) rfl⟩
 | body h =>
  cases h with
  | ret=>exact ⟨_,_,_,⟨Nat.le_of_ble_eq_true rfl,rfl,rfl,tabK_22⟩,s,0,κ,cb,_,_,_,fun _=>rfl,(fun h=>by cases h),HF.pick (k:=6) (k2:=6) [0] [1,2,3,4,5] [0,1,2,3,4,5] (Zdp (m:=.ret)) rfl (by decide) rfl (by decide) rfl⟩
  | @new k _ hk h=>exact ⟨_,_,_,⟨Nat.le_of_ble_eq_true rfl,rfl,rfl,Fz⟩,_,1,_,_,_,_,_,(fun h=>by cases h),fun _=>⟨by simp,.pop h⟩,HF.pick (k:=6) (k2:=6) [0,1] [2,3,4,5] [0,1,2,3,4,5] (Zds (m:=.new k)) rfl (by decide) rfl (by decide) rfl⟩
  | @get k _ hk h=>exact ⟨_,_,_,⟨Nat.le_of_ble_eq_true rfl,rfl,rfl,tabK_18⟩,_,1,_,_,_,_,_,(fun h=>by cases h),fun _=>⟨by simp,.pop h⟩,HF.pick (k:=6) (k2:=6) [0,1] [2,3,4,5] [0,1,2,3,4,5] (Zdu (op:=18) (cl:=nmL k) (nn:=xS)) rfl (by decide) rfl (by decide) rfl⟩
  | @is k _ hk h=>exact ⟨_,_,_,⟨Nat.le_of_ble_eq_true rfl,rfl,rfl,tabK_2⟩,_,1,_,_,_,_,_,(fun h=>by cases h),fun _=>⟨by simp,.is hk h⟩,HF.pick (k:=6) (k2:=6) [0,1,2] [3,4,5] [0,1,2,3,4,5] (Bg (m:=.load)) rfl (by decide) rfl (by decide) rfl⟩
theorem Bd:∃ t1 t2,TbM x.T Mi.newO.op t1 t2 false/\∃ s' N',HF Tryz.prog 162 [.ptr x.w 0,.agg [t1,t2,Zb false,Zb false],.agg (mi7 .newO qa qb)] N (x.H0 at_) fun u n' h=>u=.tup []/\n'=N'/\h=x.H at_ true s' 1 3 (spL 0) 4 ⟨#[]⟩ :=
 ⟨_,_,⟨Nat.le_of_ble_eq_true rfl,rfl,rfl,Fz⟩,_,_,HF.pick (k:=5) (k2:=6) [0] [1,2,3,4] [0,1,2,3,4,5] (Bf (m:=.newO)) rfl (by decide) rfl (by decide) rfl⟩
end
inductive GoM (ins:List Mi):Type
 | first (N:Nat)
 | row (p s ln:Nat) (κ:Int) (cb:ByteArray) (κl:Int) (cl:ByteArray) (N:Nat) (at_:Int) (hp:p<ins.length) (h:At2 (ins.drop p) ln κ cb κl cl)
 | fin (s ln:Nat) (κ:Int) (cb:ByteArray) (κl:Int) (cl:ByteArray) (N:Nat) (at_:Int)
section
variable {ins:List Mi}
def GoM.p:GoM ins->Nat
 | .first _=>0
 | .row p _ _ _ _ _ _ _ _ _ _=>p
 | .fin _ _ _ _ _ _ _ _=>ins.length
def GoM.nn:GoM ins->Nat
 | .first N=>N
 | .row _ _ _ _ _ _ _ N _ _ _=>N
 | .fin _ _ _ _ _ _ N _=>N
def GoM.mu (c:GoM ins):Nat:=ins.length+1 - c.p
noncomputable def GoM.hh (x:Wm) (R:Ch):GoM ins->Ch
 | .first _=>[(x.w,x.W 0 (.v (.slice none 0 0)) true),(x.T+94,.row 264 4 33 (tabK x.T))]++bxm x.T++R++[(x.lp,tyR 4 ⟨#[]⟩)]
 | .row _ s ln κ cb κl cl _ at_ _ _=>[(x.w,x.W at_ (.sl s 0 ln 0) true),(x.T+94,.row 264 4 33 (tabK x.T))]++bxm x.T++R++[(x.lp,tyR κl cl),(s,tyR κ cb)]
 | .fin s ln κ cb κl cl _ at_=>[(x.w,x.W at_ (.sl s 0 ln 0) false),(x.T+94,.row 264 4 33 (tabK x.T))]++bxm x.T++R++[(x.lp,tyR κl cl),(s,tyR κ cb)]
theorem E5 {p:Nat} {m:Mi} {i7:List (List SV)} (h7:∀ y ∈ i7,Is7 y) (hc:∀ (p:Nat) (m:Mi),ins[p]?=some m->∃ a b,i7[p]?=some (mi7 m a b)) (hp:ins[p]?=some m):∃ qa qb,cutAt i7.flatten (0+p*7) 7=mi7 m qa qb:=by
 obtain ⟨a,b,h⟩:=hc p m hp;exact ⟨a,b,cut7 h7 p _ h⟩
theorem drop_at {p:Nat} (hp:p<ins.length):∃ m r,ins.drop p=m::r/\ins[p]?=some m/\ins.drop (p+1)=r :=
 ⟨ins[p],ins.drop (p+1),List.drop_eq_getElem_cons hp,List.getElem?_eq_getElem hp,rfl⟩
theorem drop_lt {p:Nat} {r:List Mi} (h:ins.drop (p+1)=r) (hr:r≠[]):p+1<ins.length:=by
 rcases Nat.lt_or_ge (p+1) ins.length with h' | h'
 ·exact h'
 ·exact absurd (by rw [<- h];exact List.drop_of_length_le h') hr
theorem Iw {p:Nat} {r:List Mi} (hp:p<ins.length) (h:ins.drop (p+1)=r) (hr:r=[]):ins.length=p+1:=by
 have:=congrArg List.length (h.trans hr);rw [List.length_drop,List.length_nil] at this;omega
end
section
set_option maxRecDepth 10000
variable {N w T k dc:Nat} {ins:List Mi} {i7:List (List SV)} {zp hp gp:Option Addr} {zq hq gq:Nat} {c0 c1 c2 c3 gr m0 m4:SV} {nu:Int}
theorem Io (hlen:ins.length=k) (hkb:k<=1000) (h7:∀ y ∈ i7,Is7 y) (hc:∀ (p:Nat) (m:Mi),ins[p]?=some m->∃ a b,i7[p]?=some (mi7 m a b)) {r0:List Mi} (hb:Body r0) (hi:ins=.newO::.store::r0) :
  HF Tryz.prog 105 [.ptr w 0,.sl (T+94) 0 33 0] N ([(w,.cells [c0,c1,c2,c3,gr,Zi nu,m0,Zb true,Zl zp zq,Zi 0,m4,Zi 1,Zi 1,.sl dc 0 k 0,Zl hp hq,Zl gp gq,Zi 0,Zz,Zz,Zb false]),(T+94,.row 264 4 33 (tabK T))]++bxm T++[(dc,.row 75 7 k i7.flatten)]) fun u _ H'=>u=.tup []/\H'=[(dc,.row 75 7 k i7.flatten)]:=by
 refine hf1 Tryz.func105 J Tryz.ntmps105 fun _ _ _ _=>?_;refine Zd (Za 3 [] [(6,Zq w 0),(7,Zq w 0),(8,Zq w 0)] [] (Z0 [0] [0] Zj J J J J (first_m) J (Zy 6 [1,1] [] [] (N+4) [] [(1,Zc [c0,c1,c2,c3,gr,Zi nu,m0,Zb true,Zl zp zq,Zi 0,m4,Zi 1,Zi 1,Zk dc 0 k 0,Zl hp hq,Zl gp gq,Zi 0,Zk (N+3) 0 1 0,Zz,Zb true])] (Z1 (Zd (Za 7 [1] [(18,Zk dc 0 k 0),(19,Zn k),(20,Zi 0)] [] (Zg (Zv (HC_to (α:=GoM ins) (st:=(fun s=>[(0,.ptr w 0),(1,.sl (T+94) 0 33 0),(18,.sl dc 0 k 0),(19,Zn k),(20,Zn s.p)])) (nn:=GoM.nn) (hh:=(GoM.hh (⟨w,N+3,T,c0,c1,c2,c3,gr,m0,Zb true,Zl zp zq,m4,Zi 1,.sl dc 0 k 0,Zl hp hq,Zl gp gq,nu⟩:Wm) [(dc,.row 75 7 k i7.flatten)])) (.first (N+4)) [1,2,3,4,5,6,0] ⟨J,J,J,J,J,trivial⟩ J (by decide) J ?_)))))))));refine T5 (α:=GoM ins) GoM.mu (fun s=>[(0,.ptr w 0),(1,.sl (T+94) 0 33 0),(18,.sl dc 0 k 0),(19,Zn k),(20,Zn s.p)]) GoM.nn (GoM.hh (⟨w,N+3,T,c0,c1,c2,c3,gr,m0,Zb true,Zl zp zq,m4,Zi 1,.sl dc 0 k 0,Zl hp hq,Zl gp gq,nu⟩:Wm) [(dc,.row 75 7 k i7.flatten)]) (.first (N+4)) ?_;rintro (⟨N2⟩ | ⟨p,s,ln,κ,cb,κl,cl,N2,at_,hp2,hat⟩ | ⟨s,ln,κ,cb,κl,cl,N2,at_⟩)
 ·skip
  have hx:ins[0]?=some .newO:=by rw [hi];rfl
  have hlt:1<ins.length:=by rw [hi];simp
  obtain ⟨m,hm⟩:∃ m:Mi,m=.newO:=⟨_,rfl⟩;obtain ⟨qa,qb,hcut⟩:=E5 h7 hc hx;obtain ⟨t1,t2,ht,s1,N1,hst⟩:=Bd (x:=(⟨w,N+3,T,c0,c1,c2,c3,gr,m0,.v (.bool true),.v (.slice zp 0 zq),m4,.v (.int .i64 1),.sl dc 0 k 0,.v (.slice hp 0 hq),.v (.slice gp 0 gq),nu⟩:Wm)) (N:=N2+3) (at_:=.ofNat 0) (qa:=qa) (qb:=qb);rw [<- hm] at hcut ht hst;have hopb:=ht.lt;have hrow:=ht.row;refine Zd (Za 1 [] [(21,SV.v (.bool (ilt (.ofNat 0) (.ofNat k))))] [] (Z1 ?_));refine Jf J (by rw [Xf];simp only [Int.ofNat_eq_natCast];omega) ?_;refine Ya (Zr (Z2 (Zv (Zd (Za 1 [] [(22,Zn 0)] [] (Zu (v:=.ptr dc (0+0*7)) J (Xe J J J (by kernel_rfl) (by omega)) J ?_))))));refine Yp (i:=5) (v:=.agg [Zn m.op,Zi 0,Zs m.cl,Zs m.nm,Zl qa qb,Zi m.ty,Ze]) J J J J (by have:=X5 (P:=Tryz.prog) (t:=75) (m:=7) (off:=0+0*7) (sb:=.row 75 7 k i7.flatten) (c:=i7.flatten) (by kernel_rfl) (by kernel_rfl) J (by rw [hcut];rfl);rw [hcut] at this;exact this) J ?_;refine Zy 3 [0] [(5,Zq N2 0),(4,Zn 0)] [] (N2+1) [(N2,Zc [Zn m.op,Zi 0,Zs m.cl,Zs m.nm,Zl qa qb,Zi m.ty,Ze])] [] ?_;refine Zx (Zy 5 [1] [] [] (N2+1) [] [(1,Zc [c0,c1,c2,c3,gr,Zi nu,m0,Zb true,Zl zp zq,Zi 0,m4,Zi 1,Zi 1,Zk dc 0 k 0,Zl hp hq,Zl gp gq,Zn 0,Zk (N+3) 0 1 0,Zz,Zb true])] (Zx (Za 1 [] [(29,Zq w 0)] [] (Z0 [1] [1] Zj J J J J (Se) J (Zx (Za 1 [] [(31,Zq w 0)] [] (Z0 [0] [0] Zj J J J J (U3) J (Zg ?_))))))))
  refine Y0 [.ptr w 0,.sl (T+94) 0 33 0,.ptr N2 0,Zn m.op,.ptr (T+94) (0+m.op*4),.agg [t1,t2,Zb false,Zb false],.agg [Zn m.op,Zi 0,Zs m.cl,Zs m.nm,Zl qa qb,Zi m.ty,Ze],.tup []] [7] [(_,_)] [1,1] [] [] [4,5] Yt
   ⟨fun _ _ _ _ _ _ _ kG=>Z0 [0,7,3,4,5] [7,5,4,3,0] Zj rfl rfl rfl rfl (hst) rfl kG,trivial⟩
   ⟨Y4 fun _ _=>Yl rfl (Xe rfl rfl rfl (by kernel_rfl) (by omega)),(Ys (fun _ hGG=>Z3 rfl rfl rfl (hGG.get (i:=2) rfl) (by have:=X5 (P:=Tryz.prog) (t:=264) (m:=4) (off:=0+m.op*4) (sb:=.row 264 4 33 (tabK T)) (c:=tabK T) (by kernel_rfl) (by kernel_rfl) rfl (by rw [hrow];rfl);rw [hrow] at this;exact this)) (Xn (by kernel_rfl) trivial)),trivial⟩ J ?_
  refine Yb (Zr (Zo (Za 2 [] [(20,Zi 1)] [] (Z7 ?_))));exact Ti (.row 1 s1 1 3 (spL 0) 4 ⟨#[]⟩ N1 0 hlt (by rw [hi];exact .store hb)) [0,7,3,4,5,8,2,1] (by unfold GoM.mu;show _+1 - 1<_+1 - 0;omega) ⟨rfl,rfl,rfl,rfl,rfl,trivial⟩ rfl (by decide) (by kernel_rfl)
 ·skip
  obtain ⟨m,r,hd,hx,hd1⟩:=drop_at hp2;rw [hd] at hat
  obtain ⟨qa,qb,hcut⟩:=E5 h7 hc hx;obtain ⟨t1,t2,e,ht,s1,ln1,κ1,cb1,κl1,cl1,N1,he1,he2,hst⟩:=Zcs (x:=(⟨w,N+3,T,c0,c1,c2,c3,gr,m0,.v (.bool true),.v (.slice zp 0 zq),m4,.v (.int .i64 1),.sl dc 0 k 0,.v (.slice hp 0 hq),.v (.slice gp 0 gq),nu⟩:Wm)) (N:=N2+3) (s:=s) (at_:=.ofNat p) (qa:=qa) (qb:=qb) hat
  have hopb:=ht.lt;have hrow:=ht.row;refine Zd (Za 1 [] [(21,SV.v (.bool (ilt (.ofNat p) (.ofNat k))))] [] (Z1 ?_));refine Jf J (by rw [Xf];simp only [Int.ofNat_eq_natCast];omega) ?_;refine Ya (Zr (Z2 (Zv (Zd (Za 1 [] [(22,Zn p)] [] (Zu (v:=.ptr dc (0+p*7)) J (Xe J J J (by kernel_rfl) (by omega)) J ?_))))));refine Yp (i:=5) (v:=.agg [Zn m.op,Zi 0,Zs m.cl,Zs m.nm,Zl qa qb,Zi m.ty,Ze]) J J J J (by have:=X5 (P:=Tryz.prog) (t:=75) (m:=7) (off:=0+p*7) (sb:=.row 75 7 k i7.flatten) (c:=i7.flatten) (by kernel_rfl) (by kernel_rfl) J (by rw [hcut];rfl);rw [hcut] at this;exact this) J ?_;refine Zy 3 [0] [(5,Zq N2 0),(4,Zn p)] [] (N2+1) [(N2,Zc [Zn m.op,Zi 0,Zs m.cl,Zs m.nm,Zl qa qb,Zi m.ty,Ze])] [] ?_;refine Zx (Zy 5 [1] [] [] (N2+1) [] [(1,Zc [c0,c1,c2,c3,gr,Zi nu,m0,Zb true,Zl zp zq,Zi 0,m4,Zi 1,Zi 1,Zk dc 0 k 0,Zl hp hq,Zl gp gq,Zn p,Zk (N+3) 0 1 0,Zk s 0 ln 0,Zb true])] (Zx (Za 1 [] [(29,Zq w 0)] [] (Z0 [1] [1] Zj J J J J (Se) J (Zx (Za 1 [] [(31,Zq w 0)] [] (Z0 [0] [0] Zj J J J J (U3) J (Zg ?_))))))))
  refine Y0 [.ptr w 0,.sl (T+94) 0 33 0,.ptr N2 0,Zn m.op,.ptr (T+94) (0+m.op*4),.agg [t1,t2,Zb false,Zb e],.agg [Zn m.op,Zi 0,Zs m.cl,Zs m.nm,Zl qa qb,Zi m.ty,Ze],.tup []] [7] [(_,_)] [1,1] [] [] [4,5] Yt
   ⟨fun _ _ _ _ _ _ _ kG=>Z0 [0,8,7,3,4,5] [8,7,5,4,3,0] Zj rfl rfl rfl rfl (hst) rfl kG,trivial⟩
   ⟨Y4 fun _ _=>Yl rfl (Xe rfl rfl rfl (by kernel_rfl) (by omega)),(Ys (fun _ hGG=>Z3 rfl rfl rfl (hGG.get (i:=2) rfl) (by have:=X5 (P:=Tryz.prog) (t:=264) (m:=4) (off:=0+m.op*4) (sb:=.row 264 4 33 (tabK T)) (c:=tabK T) (by kernel_rfl) (by kernel_rfl) rfl (by rw [hrow];rfl);rw [hrow] at this;exact this)) (Xn (by kernel_rfl) trivial)),trivial⟩ J ?_
  refine Yb (Zr (Zo (Zu (v:=Zn (p+1)) J (Xr J J J (by omega)) J ?_)));refine Za 1 [] [(20,Zn (p+1))] [] (Z7 ?_);have hmu:∀ q,q=p+1->ins.length+1 - q<ins.length+1 - p:=fun q hq=>by omega
  cases e
  ·obtain ⟨e1,e2⟩:=he2 rfl;exact Ti (.row (p+1) s1 ln1 κ1 cb1 κl1 cl1 N1 (.ofNat p) (drop_lt hd1 e1) (by rw [hd1];exact e2)) [0,7,3,4,5,8,2,1] (hmu _ J) ⟨J,J,J,J,J,trivial⟩ J (by decide) (by kernel_rfl)
  ·exact Ti (.fin s1 ln1 κ1 cb1 κl1 cl1 N1 (.ofNat p)) [0,7,3,4,5,8,2,1] (hmu _ (Iw hp2 hd1 (he1 J))) ⟨J,J,J,J,congrArg (fun q:Nat=>some (Zn q)) (Iw hp2 hd1 (he1 J)).symm,trivial⟩ J (by decide) (by kernel_rfl)
 ·skip
  refine Zd (Za 1 [] [(21,SV.v (.bool (ilt (.ofNat (ins.length)) (.ofNat k))))] [] (Z1 ?_));refine Py J (by rw [Bool.eq_false_iff,ne_eq,Xf];simp only [Int.ofNat_eq_natCast];omega) ?_;refine Yz (Z8 (Z8 (Yi (Zr (Zo (Za 6 [0] [(42,Zq w 0),(47,Zb true)] [] (Z0 [] [] Zj J J J J (V3) J (Z7 (Z5 [5] (.inl J) Zj J (by decide) ?_)))))))));exact ⟨J,J⟩
end
end S
end Go.Proofs.YtpofmnfkdkmieaaGreat
