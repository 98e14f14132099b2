/- What is proved here: the table of operations, the meter, the  -/
import Derived.Test.YtpofmnfkdkmieaaGreatQ27
import Derived.Test.YtpofmnfkdkmieaaGreatQ22
import Derived.Test.YtpofmnfkdkmieaaGreatQ25
set_option linter.unusedVariables false
set_option linter.unusedSimpArgs false
namespace Go.Proofs.YtpofmnfkdkmieaaGreat
namespace S
open Go Go.RowKit E
section
set_option maxRecDepth 100000
variable {N:Nat}
noncomputable def opsR:Option Rs:=R1 2000 (.call 127 [] (stOf []))
theorem opsR_ok:isV opsR=true:=by kernel_rfl
noncomputable def tabOf:Option SB->List SV
 | some (.row _ _ _ l)=>l
 | _=>[]
/-- The table of operations, made when N places were taken. -/
noncomputable def tabC (N:Nat):List SV:=Te (rho [] N) (tabOf ((rsS opsR).get 15))
theorem Zgp:TabOk (tabC N) N (N+1) (N+2):=by
 constructor<;>(unfold P9;kernel_rfl)
theorem Zjz:HF Tryz.prog 127 [] N [] fun u N' H'=>u=.sl (N+15) 0 33 0/\N'=N+16/\H'=[(N+15,.row 307 7 33 (tabC N)),(N,.cells [.fn 204 [] []]),(N+1,.cells [.fn 205 [] []]),(N+2,.cells [.fn 206 [] []])]:=by
 have h:=G2 (bs:=[]) (N:=N) (G6 2000 _ _ (Hv opsR_ok)) rfl (by decide) (by kernel_rfl) (by kernel_rfl);have hv:ren (rho [] N) (rsV opsR)=.sl (N+15) 0 33 0:=by kernel_rfl
 have hn:N+((rsS opsR).n - ([]:List Nat).length)=N+16:=by kernel_rfl
 rw [show rsV (R1 2000 (.call 127 [] (stOf [])))=rsV opsR from rfl,hv] at h;rw [show rsS (R1 2000 (.call 127 [] (stOf [])))=rsS opsR from rfl,hn] at h;exact HF.less [15,0,1,2] h (by decide) (by kernel_rfl)
theorem Hn {x:Int} (h:0≠x):HF Tryz.prog 128 [Zi x] N [] fun u N' H'=>u=.ptr (N+1) 0/\N'=N+2/\H'=[(N+1,.cells [Zi x,Zi 0,.ch N]),(N,.chan 1 0)]:=by
 refine hf1 Tryz.func128 J Tryz.ntmps128 fun _ _ _ _=>?_;refine Zu (Zg 1 [] [(2,Zp)] [] (Yh (Z9 5 [] [(3,Zq (N+1) 0)] [] (N+2) [((N+1),Zc [Zi x,Zi 0,SV.ch N]),(N,SB.chan 1 0)] [] (Yh (Zg 1 [] [(8,Zq (N+1) 0)] [] (Yl [0,1] [1,0] Z6 J J J J (Zjn h) J (Yh (Zg 2 [] [(2,Zq (N+1) 0)] [] (Zv (Yv (Yo [0,1] (.inr J) Z6 J (by decide) ?_)))))))))));exact ⟨J,J,J⟩
end
end S
namespace S
open Go Go.RowKit E
def nmsB:List ByteArray:=[⟨#[79,98,106,101,99,116]⟩,⟨#[84,104,114,111,119,97,98,108,101]⟩,⟨#[69,114,114,111,114]⟩,⟨#[78,111,67,108,97,115,115]⟩,⟨#[66,97,100,70,111,114,109]⟩,⟨#[67,105,114,99,117,108,97,114]⟩,⟨#[66,97,100,67,108,97,115,115]⟩,⟨#[78,111,70,105,101,108,100]⟩,⟨#[78,111,77,101,116,104,111,100]⟩,⟨#[66,97,100,73,110,105,116]⟩,⟨#[65,114,105,116,104]⟩,⟨#[78,117,108,108,82,101,102]⟩,⟨#[66,97,100,67,97,115,116]⟩,⟨#[66,111,117,110,100,115]⟩,⟨#[66,97,100,83,105,122,101]⟩,⟨#[72,101,97,112]⟩,⟨#[68,101,101,112]⟩]
def nmB (j:Nat):ByteArray:=nmsB[j]?.getD ⟨#[]⟩
def supI:Nat->Nat
 | 0=>0
 | 1=>0
 | 2=>1
 | _=>2
def supB (j:Nat):ByteArray:=match j with
 | 0=>⟨#[]⟩
 | j=>nmB (supI j)
def clB (nm:ByteArray) (sup:SV):SB:=.cells [Zs nm,sup,Ze,Ze,Zz,Zz,Zi 1,Zz,Zz,Zz,Zz]
def supV (N:Nat):Nat->SV
 | 0=>.v (.pointer none)
 | j+1=>.ptr (N+2*supI (j+1)) 0
noncomputable def esB (N:Nat):Nat->List (ByteArray × SV)
 | 0=>[]
 | j+1=>putM (nmB j) (.ifc 323 (.agg [.ptr (N+2*j) 0])) (esB N j)
def H8 (N:Nat):Nat->Ch
 | 0=>[]
 | j+1=>(N+2*j,clB (nmB j) (supV N j))::H8 N j
def K9:List SV:=nmsB.map fun s=>Zs s
section
set_option maxRecDepth 100000
variable {mc nm N N0:Nat} {m0 m1 m2 m3 m4 m5 m6 m7 m8 m10 m11 m12 m13 m14 m15 m16:SV}
noncomputable def namR:Option Rs:=R1 200 (.call 237 [] (stOf []))
theorem namR_ok:isV namR=true:=by kernel_rfl
theorem Znn:HF Tryz.prog 237 [] N [] fun u N' H'=>u=.sl N 0 17 0/\N'=N+1/\H'=[(N,.row 9 1 17 K9)]:=by
 have h:=G2 (bs:=[]) (N:=N) (G6 200 _ _ (Hv namR_ok)) rfl (by decide) (by kernel_rfl) (by kernel_rfl);have hv:ren (rho [] N) (rsV namR)=.sl N 0 17 0:=by kernel_rfl
 have hn:N+((rsS namR).n - ([]:List Nat).length)=N+1:=by kernel_rfl
 have ho:outH [] N (rsS namR)=[(N,.row 9 1 17 K9)]:=by kernel_rfl
 unfold namR at hv hn ho;rw [hv,hn,ho] at h;exact h
noncomputable def supR (j:Nat):Option Rs:=R1 400 (.call 238 [Zs (nmB j)] (stOf []))
theorem T0 {j:Nat} {s:ByteArray} (h:R1 400 (.call 238 [Zs (nmB j)] (stOf []))=some (.val (.tup [Zs s,Zb true]) (stOf []))):HF Tryz.prog 238 [Zs (nmB j)] N [] fun u N' H'=>u=.tup [Zs s,Zb true]/\N'=N/\H'=[] :=
 G2 (bs:=[]) (N:=N) (G6 400 _ _ h) rfl (by decide) (by kernel_rfl) (by kernel_rfl)
theorem Zjj:∀ {j:Nat},j<17->HF Tryz.prog 238 [Zs (nmB j)] N [] fun u N' H'=>u=.tup [Zs (supB j),Zb true]/\N'=N/\H'=[]
 | 0,_=>T0 (by kernel_rfl)
 | 1,_=>T0 (by kernel_rfl)
 | 2,_=>T0 (by kernel_rfl)
 | 3,_=>T0 (by kernel_rfl)
 | 4,_=>T0 (by kernel_rfl)
 | 5,_=>T0 (by kernel_rfl)
 | 6,_=>T0 (by kernel_rfl)
 | 7,_=>T0 (by kernel_rfl)
 | 8,_=>T0 (by kernel_rfl)
 | 9,_=>T0 (by kernel_rfl)
 | 10,_=>T0 (by kernel_rfl)
 | 11,_=>T0 (by kernel_rfl)
 | 12,_=>T0 (by kernel_rfl)
 | 13,_=>T0 (by kernel_rfl)
 | 14,_=>T0 (by kernel_rfl)
 | 15,_=>T0 (by kernel_rfl)
 | 16,_=>T0 (by kernel_rfl)
 | j+17,h=>absurd h (by omega)
theorem es_sup:∀ {j:Nat},j<16->findS (supB (j+1)) (esB N (j+1))=some (.ifc 323 (.agg [.ptr (N+2*supI (j+1)) 0]))
 | 0,_=>by kernel_rfl
 | 1,_=>by kernel_rfl
 | 2,_=>by kernel_rfl
 | 3,_=>by kernel_rfl
 | 4,_=>by kernel_rfl
 | 5,_=>by kernel_rfl
 | 6,_=>by kernel_rfl
 | 7,_=>by kernel_rfl
 | 8,_=>by kernel_rfl
 | 9,_=>by kernel_rfl
 | 10,_=>by kernel_rfl
 | 11,_=>by kernel_rfl
 | 12,_=>by kernel_rfl
 | 13,_=>by kernel_rfl
 | 14,_=>by kernel_rfl
 | 15,_=>by kernel_rfl
 | j+16,h=>absurd h (by omega)
theorem nms_at {j:Nat} (h:j<17):K9[0+j*1]?=some (Zs (nmB j)):=by
 rw [Nat.zero_add,Nat.mul_one];unfold K9 nmB;rw [List.getElem?_map,List.getElem?_eq_getElem (by exact h)];rfl
theorem Zpa {nb:ByteArray} {es:List (ByteArray × SV)} (hf:findS nb es=none) :
  HF Tryz.prog 239 [.ptr mc 0,Zs nb] N [(mc,.cells [m0,m1,m2,m3,m4,m5,m6,m7,m8,.mp nm,m10,m11,m12,m13,m14,m15,m16]),(nm,.map es)] fun u N' H'=>u=Zp/\N'=N/\H'=[(mc,.cells [m0,m1,m2,m3,m4,m5,m6,m7,m8,.mp nm,m10,m11,m12,m13,m14,m15,m16]),(nm,.map es)]:=by
 refine hf1 Tryz.func239 J Tryz.ntmps239 fun _ _ _ _=>?_;refine Zu (Zg 1 [] [(4,Zp)] [] (Yi (Zu (Zg 5 [0] [(9,SV.mp nm),(10,Zs nb)] [] ?_))));refine Zcn (i:=1) (e:=325) (z:=.nilIface) (v:=Zf) J J (by kernel_rfl) (by kernel_rfl) J J J (fun _ h=>by cases h<;>rfl) J (by rw [hf];rfl) rfl ?_;refine Zv (Ye (Zu (Zg 3 [] [(13,Zb false),(14,SV.v (.agg #[.pointer none]))] [] (Zv (Yw J (Yp (Y1 (Xj (Zg 1 [] [(4,Zp)] [] (Zv (Yv (Yo [0,1] (.inr J) Z6 J (by decide) ?_))))))))))));exact ⟨J,J,J⟩
theorem Zug:HF Tryz.prog 129 [.ptr mc 0] N ([(mc,.cells [m0,m1,m2,m3,m4,m5,m6,m7,m8,.mp nm,m10,m11,m12,m13,m14,m15,m16]),(nm,.map [])]++[]) fun u N' H'=>u=.tup []/\N'=N+1+33/\H'=[(mc,.cells [m0,m1,m2,m3,m4,m5,m6,m7,m8,.mp nm,m10,m11,m12,m13,m14,m15,m16]),(nm,.map (esB (N+1) 17))]++H8 (N+1) 17:=by
 refine hf1 Tryz.func129 J Tryz.ntmps129 fun _ _ _ _=>?_;refine Zu (Yl [] [] Z6 J J J J (Znn) J (Zg 2 [] [(7,Zn 17),(8,Zi 0)] [] (Zv (Ye (U7 (W1 ?_))))));refine Zu (Zg 1 [] [(9,Zb true)] [] (Yi (Xr J (Yp (Z2 (Yb (Ye (Zu (Zg 1 [] [(10,Zq N 0)] [] (Vx (i:=0) (v:=Zs (nmB 0)) J J J J (Qv (by kernel_rfl) J) J ?_))))))))));refine Zg 1 [] [(3,Zs (nmB 0))] [] (Yh (Zg 1 [] [(13,Zs (nmB 0))] [] (Yl [] [] Z6 J J J J (Zjj (j:=0) (by omega)) J ?_)));refine Zg 5 [] [(4,Zs (supB 0))] [] (Zv ?_)
 refine W3 [.ptr mc 0,.ptr mc 0,.ptr mc 9,.mp nm,Zs (nmB 0),Zs (nmB 0),.ptr mc 0,Zs (supB 0),Zp,.agg [Zs (nmB 0),Zp,Ze,Ze,Zz,Zz,Zi 1,Zz,Zz,Zz,Zz],.ptr (N+1) 0,.agg [.ptr (N+1) 0],.ifc 323 (.agg [.ptr (N+1) 0]),.tup []] [8,10,13] [(_,_),(_,_),(_,_)] [1,0,1] [] [] [] Xy
  ⟨fun _ _ _ _ _ _ _ kG=>Yl [1,2] [2,1] Z6 rfl rfl rfl rfl (Zpa rfl) rfl kG,fun _ _ _ _ _ _ _ kG=>Z9 1 [] [(27,Zq (N+1) 0)] [] (N+2) [((N+1),Zc [Zs (nmB 0),Zp,Ze,Ze,Zz,Zz,Zi 1,Zz,Zz,Zz,Zz])] [] kG,fun _ _ _ _ _ _ _ kG=>Zcm (i:=2) (e:=325) ([((N+1),Zc [Zs (nmB 0),Zp,Ze,Ze,Zz,Zz,Zi 1,Zz,Zz,Zz,Zz]),(mc,Zc [m0,m1,m2,m3,m4,m5,m6,m7,m8,SV.mp nm,m10,m11,m12,m13,m14,m15,m16]),(nm,SB.map (esB (N+1) 1)),(N,Zw 9 1 17 K9)]++(H8 (N+1) 0)) rfl rfl rfl (by kernel_rfl) rfl rfl rfl rfl rfl rfl rfl (rfl) kG,trivial⟩
  trivial rfl ?_
 refine HQ_tl (A:=[(mc,.cells [m0,m1,m2,m3,m4,m5,m6,m7,m8,SV.mp nm,m10,m11,m12,m13,m14,m15,m16]),(nm,.map (esB (N+1) 1)),(N,.row 9 1 17 K9)]) (U:=(H8 (N+1) 0)) (p:=((N+1),.cells [Zs (nmB 0),Zp,Ze,Ze,Zz,Zz,Zi 1,Zz,Zz,Zz,Zz])) ([((N+1),Zc [Zs (nmB 0),Zp,Ze,Ze,Zz,Zz,Zi 1,Zz,Zz,Zz,Zz]),(mc,Zc [m0,m1,m2,m3,m4,m5,m6,m7,m8,SV.mp nm,m10,m11,m12,m13,m14,m15,m16]),(nm,SB.map (esB (N+1) 1)),(N,Zw 9 1 17 K9)]++(H8 (N+1) 0)) (List.Perm.refl _) ?_;show HQ _ _ _ _ _ _ _ _ _ _ _ _ ([(mc,Zc [m0,m1,m2,m3,m4,m5,m6,m7,m8,SV.mp nm,m10,m11,m12,m13,m14,m15,m16]),(nm,SB.map (esB (N+1) 1)),(N,Zw 9 1 17 K9)]++(H8 (N+1) 1));refine Y1 (Z2 (Z0 (Zg 2 [] [(8,Zi 1)] [] (Zv (Gm (α:={ i:Nat // i<=16 }) (st:=(fun s=>[(0,.ptr mc 0),(6,.sl N 0 17 0),(7,Zn 17),(8,Zn (s.1+1))])) (nn:=(fun s=>N+1+2*s.1+1)) (hh:=(fun s=>[(mc,Zc [m0,m1,m2,m3,m4,m5,m6,m7,m8,.mp nm,m10,m11,m12,m13,m14,m15,m16]),(nm,SB.map (esB (N+1) (s.1+1))),(N,Zw 9 1 17 K9)]++H8 (N+1) (s.1+1))) ⟨0,by omega⟩ ⟨J,J,J,J,trivial⟩ J J ?_)))));refine Iz (α:={ i:Nat // i<=16 }) (fun s=>16 - s.1) (fun s=>[(0,.ptr mc 0),(6,.sl N 0 17 0),(7,Zn 17),(8,Zn (s.1+1))]) (fun s=>N+1+2*s.1+1) (fun s=>[(mc,Zc [m0,m1,m2,m3,m4,m5,m6,m7,m8,.mp nm,m10,m11,m12,m13,m14,m15,m16]),(nm,SB.map (esB (N+1) (s.1+1))),(N,Zw 9 1 17 K9)]++H8 (N+1) (s.1+1)) ⟨0,by omega⟩ ?_;rintro (⟨i,hi⟩)
 ·skip
  refine Zu (Zg 1 [] [(9,SV.v (.bool (ilt (.ofNat (i+1)) (.ofNat 17))))] [] (Yi (W6 J (fun c2=>?_) (fun c2=>?_))))
  ·skip
   have hj:i+1<17:=by have:=Wb.1 c2;simp at this;omega
   refine Yp (Z2 (Yb (Ye (Zu (Ya (v:=.ptr N (0+(i+1)*1)) J (W0 J J J (by kernel_rfl) (by omega)) J ?_)))));refine Vx (i:=2) (v:=Zs (nmB (i+1))) J J J J (Qv (by kernel_rfl) (nms_at hj)) J ?_;refine Zg 1 [] [(3,Zs (nmB (i+1)))] [] (Yh (Zg 1 [] [(13,Zs (nmB (i+1)))] [] (Yl [] [] Z6 J J J J (Zjj hj) J (Zg 5 [] [(4,Zs (supB (i+1)))] [] (Zv ?_)))))
   refine W3 [.ptr mc 0,.ptr mc 0,.ptr mc 9,.mp nm,Zs (nmB (i+1)),Zs (nmB (i+1)),.ptr mc 0,Zs (supB (i+1)),.ptr (N+1+2*supI (i+1)) 0,.agg [Zs (nmB (i+1)),.ptr (N+1+2*supI (i+1)) 0,Ze,Ze,Zz,Zz,Zi 1,Zz,Zz,Zz,Zz],.ptr ((N+1+2*i+1)+1) 0,.agg [.ptr ((N+1+2*i+1)+1) 0],.ifc 323 (.agg [.ptr ((N+1+2*i+1)+1) 0]),.tup []] [8,10,13] [(_,_),(_,_),(_,_)] [0,0,1] [] [] [] Xy
    ⟨fun _ _ _ _ _ _ _ kG=>Yl [0,1] [1,0] Z6 rfl rfl rfl rfl (Bm (es_sup (by omega))) rfl kG,fun _ _ _ _ _ _ _ kG=>Z9 1 [] [(27,Zq ((N+1+2*i+1)+1) 0)] [] (((N+1+2*i+1)+1)+1) [(((N+1+2*i+1)+1),Zc [Zs (nmB (i+1)),Zq (N+1+2*supI (i+1)) 0,Ze,Ze,Zz,Zz,Zi 1,Zz,Zz,Zz,Zz])] [] kG,fun _ _ _ _ _ _ _ kG=>Zcm (i:=2) (e:=325) ([(((N+1+2*i+1)+1),Zc [Zs (nmB (i+1)),Zq (N+1+2*supI (i+1)) 0,Ze,Ze,Zz,Zz,Zi 1,Zz,Zz,Zz,Zz]),(mc,Zc [m0,m1,m2,m3,m4,m5,m6,m7,m8,SV.mp nm,m10,m11,m12,m13,m14,m15,m16]),(nm,SB.map (esB (N+1) (i+1+1))),(N,Zw 9 1 17 K9)]++(H8 (N+1) (i+1))) rfl rfl rfl (by kernel_rfl) rfl rfl rfl rfl rfl rfl rfl (rfl) kG,trivial⟩
    trivial rfl ?_
   refine HQ_tl (A:=[(mc,.cells [m0,m1,m2,m3,m4,m5,m6,m7,m8,SV.mp nm,m10,m11,m12,m13,m14,m15,m16]),(nm,.map (esB (N+1) (i+1+1))),(N,.row 9 1 17 K9)]) (U:=(H8 (N+1) (i+1))) (p:=(((N+1+2*i+1)+1),.cells [Zs (nmB (i+1)),Zq (N+1+2*supI (i+1)) 0,Ze,Ze,Zz,Zz,Zi 1,Zz,Zz,Zz,Zz])) ([(((N+1+2*i+1)+1),Zc [Zs (nmB (i+1)),Zq (N+1+2*supI (i+1)) 0,Ze,Ze,Zz,Zz,Zi 1,Zz,Zz,Zz,Zz]),(mc,Zc [m0,m1,m2,m3,m4,m5,m6,m7,m8,SV.mp nm,m10,m11,m12,m13,m14,m15,m16]),(nm,SB.map (esB (N+1) (i+1+1))),(N,Zw 9 1 17 K9)]++(H8 (N+1) (i+1))) (List.Perm.refl _) ?_;show HQ _ _ _ _ _ _ _ _ _ _ _ _ ([(mc,Zc [m0,m1,m2,m3,m4,m5,m6,m7,m8,SV.mp nm,m10,m11,m12,m13,m14,m15,m16]),(nm,SB.map (esB (N+1) (i+1+1))),(N,Zw 9 1 17 K9)]++(H8 (N+1) (i+1+1)));refine Y1 (Z2 (Z0 (Ya (v:=Zn ((i+1)+1)) J (X7 J J J (by omega)) J ?_)));refine Zg 1 [] [(8,Zn ((i+1)+1))] [] (Yn ?_);show HQ _ _ _ _ _ _ _ _ _ _ _ _ ([(mc,Zc [m0,m1,m2,m3,m4,m5,m6,m7,m8,SV.mp nm,m10,m11,m12,m13,m14,m15,m16]),(nm,SB.map (esB (N+1) (i+1+1))),(N,Zw 9 1 17 K9)]++(H8 (N+1) (i+1+1)));exact Xb ⟨i+1,by omega⟩ (by simp only [];omega) ⟨rfl,rfl,rfl,rfl,trivial⟩ rfl rfl
  ·skip
   have hj:i=16:=by have:¬ ((i:Int)+1<17):=fun h=>(Bool.eq_false_iff.1 c2) (Wb.2 (by simpa using h));omega
   refine Uo (Y0 (Y0 (Re (z:=.exit _) J (Wj (V3 3 [0,1] (.inl J) Z6 J ?_)))));subst hj;exact ⟨J,J,J⟩
end
end S
namespace S
open Go Go.RowKit E
abbrev unsV:SV:=.ifc 485 (.agg [])
def Oi (ins:List (List SV)):Nat->List SV
 | 0=>[]
 | i+1=>Oi ins i++((ins[i]?.getD [])++[unsV])
def Is7 (x:List SV):Prop:=∃ c0 c1 c2 c3 c4 c5 c6:SV,x=[c0,c1,c2,c3,c4,c5,c6]/\x.all sOne=true
theorem Zcg {ins:List (List SV)} (h:∀ x ∈ ins,Is7 x):∀ i,i<=ins.length->(Oi ins i).length=i*8
 | 0,_=>rfl
 | i+1,hi=>by
  have hx:=List.getElem?_eq_getElem (show i<ins.length by omega);obtain ⟨c0,c1,c2,c3,c4,c5,c6,he,_⟩:=h _ (List.mem_of_getElem? hx);unfold Oi;rw [hx,List.length_append,Zcg h i (by omega),Option.getD_some,he];simp only [List.length_append,List.length_cons,List.length_nil];omega
theorem cut7 {ins:List (List SV)} (h:∀ x ∈ ins,Is7 x):∀ (i:Nat) (x:List SV),ins[i]?=some x->cutAt ins.flatten (0+i*7) 7=x:=by
 induction ins with
 | nil=>intro i x hx;simp at hx
 | cons y r ih =>
  intro i x hx;obtain ⟨c0,c1,c2,c3,c4,c5,c6,he,_⟩:=h y (List.mem_cons_self ..);subst he;cases i with
  | zero =>
   simp at hx;subst hx;rfl
  | succ i =>
   have:=ih (fun z hz=>h z (List.mem_cons_of_mem _ hz)) i x (by simpa using hx);rw [<- this];unfold cutAt;rw [show 0+(i+1)*7=(0+i*7)+7 by omega];rfl
section
set_option maxRecDepth 10000
variable {N cs k:Nat} {e0 e1 e2 e3 e4 e5 e6 e8 e9:SV} {ins:List (List SV)}
theorem C9 (hk:ins.length=k) (hkb:k<=1000) (h7:∀ x ∈ ins,Is7 x) :
  HF Tryz.prog 394 [.agg [e0,e1,e2,e3,e4,e5,e6,.sl cs 0 k 0,e8,e9]] N [(cs,.row 75 7 k ins.flatten)] fun u N' H'=>u=.ptr (N+1+3*k+1) 0/\N'=N+1+3*k+2/\H'=[(N+1+3*k+1,.cells [e0,e1,e2,e3,e4,e5,e6,.sl cs 0 k 0,e8,e9,.sl (N+1+3*k) 0 k 0]),(N+1+3*k,.row 475 8 k (Oi ins k)),(cs,.row 75 7 k ins.flatten)]:=by
 refine hf1 Tryz.func394 J Tryz.ntmps394 fun _ _ _ _=>?_;refine Zu (Z9 2 [] [(1,Zq N 0),(2,Zp)] [] (N+1) [(N,Zc [e0,e1,e2,e3,e4,e5,e6,Zk cs 0 k 0,e8,e9])] [] (Yh (Zg 3 [0] [(8,Zn k)] [] (Qf (v:=.sl (N+1) 0 0 0) (sb:=.row 475 8 0 []) J (al_make (e2:=475) (sz:=8) (by_:=112) (z:=[Zi 0,Zi 0,Ze,Ze,Zz,Zi 0,Ze,Zf]) J J J (by kernel_rfl) (by omega) (by omega)) J ?_))));refine Zg 1 [] [(3,Zk (N+1) 0 0 0)] [] (Yi (Zu (Zg 4 [1] [(11,Zk cs 0 k 0),(12,Zn k),(13,Zi 0)] [] (Zv (Ye (Gm (α:={ i:Nat // i<=k }) (st:=(fun s=>[(1,.ptr N 0),(3,.sl (N+1+3*s.1) 0 s.1 0),(11,.sl cs 0 k 0),(12,Zn k),(13,Zn s.1)])) (nn:=(fun s=>N+1+3*s.1+1)) (hh:=(fun s=>[(N+1+3*s.1,Zw 475 8 s.1 (Oi ins s.1)),(N,Zc [e0,e1,e2,e3,e4,e5,e6,.sl cs 0 k 0,e8,e9]),(cs,Zw 75 7 k ins.flatten)])) ⟨0,by omega⟩ ⟨J,J,J,J,J,trivial⟩ J J ?_))))));refine Iz (α:={ i:Nat // i<=k }) (fun s=>k - s.1) (fun s=>[(1,.ptr N 0),(3,.sl (N+1+3*s.1) 0 s.1 0),(11,.sl cs 0 k 0),(12,Zn k),(13,Zn s.1)]) (fun s=>N+1+3*s.1+1) (fun s=>[(N+1+3*s.1,Zw 475 8 s.1 (Oi ins s.1)),(N,Zc [e0,e1,e2,e3,e4,e5,e6,.sl cs 0 k 0,e8,e9]),(cs,Zw 75 7 k ins.flatten)]) ⟨0,by omega⟩ ?_;rintro (⟨i,hi⟩)
 ·skip
  refine Zu (Zg 1 [] [(14,SV.v (.bool (ilt (.ofNat i) (.ofNat k))))] [] (Yi (W6 J (fun c1=>?_) (fun c1=>?_))))
  ·skip
   have hj:i<k:=by have:=Wb.1 c1;simp at this;omega
   have hx:=List.getElem?_eq_getElem (show i<ins.length by omega);obtain ⟨c0,c1,c2,c3,c4,c5,c6,he,ho⟩:=h7 _ (List.mem_of_getElem? hx);rw [he] at hx ho;have hcut:=cut7 h7 i _ hx;have ho8:(cutAt [c0,c1,c2,c3,c4,c5,c6,SV.ifc 485 (SV.agg [])] 0 (1*8)).all sOne=true:=by rw [show cutAt [c0,c1,c2,c3,c4,c5,c6,SV.ifc 485 (SV.agg [])] 0 (1*8)=[c0,c1,c2,c3,c4,c5,c6]++[SV.ifc 485 (SV.agg [])] from rfl,List.all_append,ho];rfl
   have hacc:Oi ins (i+1)=Oi ins i++[c0,c1,c2,c3,c4,c5,c6,SV.ifc 485 (SV.agg [])]:=by show Oi ins i++((ins[i]?.getD [])++[unsV])=_;rw [hx];rfl
   refine Yp (Z2 (Yb (Ye (Zu (Ya (v:=.ptr cs (0+i*7)) J (W0 J J J (by kernel_rfl) (by omega)) J ?_)))));refine Vx (i:=2) (v:=.agg [c0,c1,c2,c3,c4,c5,c6]) J J J J (by have:=Ut (P:=Tryz.prog) (t:=75) (m:=7) (off:=0+i*7) (sb:=.row 75 7 k ins.flatten) (c:=ins.flatten) (by kernel_rfl) (by kernel_rfl) J (by rw [hcut];rfl);rw [hcut] at this;exact this) J ?_;refine Z9 1 [] [(5,Zq (N+1+3*i+1) 0)] [] ((N+1+3*i+1)+1) [((N+1+3*i+1),Zc [Zi 0,Zi 0,Ze,Ze,Zz,Zi 0,Ze])] [] ?_;refine Mh (i:=0) (m:=7) (c:=[c0,c1,c2,c3,c4,c5,c6]) [((N+1+3*i+1),.cells [c0,c1,c2,c3,c4,c5,c6]),((N+1+3*i),.row 475 8 i (Oi ins i)),(N,.cells [e0,e1,e2,e3,e4,e5,e6,Zk cs 0 k 0,e8,e9]),(cs,.row 75 7 k ins.flatten)] J J J J J J (by kernel_rfl) J J ho (Nat.le_of_ble_eq_true J) J ?_;refine Zv (Z0 (Z9 6 [0] [(17,Zk (N+1+3*i) 0 i 0),(22,Zk ((N+1+3*i+1)+1) 0 1 0)] [] ((N+1+3*i+1)+2) [(((N+1+3*i+1)+1),Zw 475 8 1 [c0,c1,c2,c3,c4,c5,c6,SV.ifc 485 (SV.agg [])])] [] (Ln (i:=2) (i':=0) (e:=475) (sz:=8) (by_:=112) (js:=[1,3,4]) (cc:=(Oi ins i++[c0,c1,c2,c3,c4,c5,c6,SV.ifc 485 (SV.agg [])])) _ (by kernel_rfl) (by kernel_rfl) J J J J J J J (by decide) J (by omega) J ho8 (by omega) (by omega) J (Zll (m:=1) (Zcg h7 i (by omega)) J) J ?_)));refine Zg 1 [] [(3,Zk ((N+1+3*i+1)+2) 0 (i+1) 0)] [] (Yn (Y1 (Z2 (Z0 (Ya (v:=Zn (i+1)) J (X7 J J J (by omega)) J ?_)))));refine Zg 1 [] [(13,Zn (i+1))] [] (Yn ?_);exact Qq ⟨i+1,by omega⟩ [0,2,3] (by simp only [];omega) ⟨rfl,rfl,rfl,rfl,rfl,trivial⟩ rfl (by decide) (by show [(N+1+3*(i+1),Zw 475 8 (i+1) (Oi ins (i+1))),_,_]=_;rw [hacc];rfl)
  ·skip
   have hj:i=k:=by have:¬ ((i:Int)<k):=fun h=>(Bool.eq_false_iff.1 c1) (Wb.2 (by simpa using h));omega
   refine Uo (Y0 (Y0 (Wj (Xj (Z9 5 [1] [(2,Zq (N+1+3*i+1) 0)] [] ((N+1+3*i+1)+1) [((N+1+3*i+1),Zc [e0,e1,e2,e3,e4,e5,e6,Zk cs 0 k 0,e8,e9,Zk (N+1+3*i) 0 i 0])] [] (Zv (Yv (Yo [0,1,3] (.inr J) Z6 J (by decide) ?_))))))));subst hj;exact ⟨J,J,J⟩
end
end S
namespace S
open Go Go.RowKit E
section
set_option maxRecDepth 10000
variable {mc me c mr N un:Nat} {zp yp:Option Addr} {zq yq:Nat} {m0 m1 m2 m3 m4 m5 m6 m7 m8 m9 m10 m11 m12 m13 m14 m15 m16:SV} {k0 k1 k2 k3 k4 k5 k6 k7 k9 k10 e5 e6 e7 e8 e9 e10:SV} {nb sb:ByteArray}
theorem Zod:HF Tryz.prog 297 [Zz] N [] fun u N' H'=>u=Zz/\N'=N/\H'=[]:=by
 refine hf1 Tryz.func297 J Tryz.ntmps297 fun _ _ _ _=>?_;refine Zu (Zg 1 [] [(2,Zz)] [] (Yi (Zu (Zg 2 [] [(4,Zb true)] [] (Zv (Xr J (Zu (Zg 1 [] [(2,Zz)] [] (Zv (Yv (Xm (Yo [] (.inr J) Z6 J (by decide) ?_))))))))))));exact ⟨J,J,J⟩
theorem Zid:HF Tryz.prog 324 [Zl zp zq,Zl yp yq] N [] fun u N' H'=>u=Zb true/\N'=N/\H'=[]:=by
 refine hf1 Tryz.func324 J Tryz.ntmps324 fun _ _ _ _=>?_;refine Zu (Zg 1 [] [(4,Zb false)] [] (Yi (Zu (Zg 5 [] [(10,Zb false)] [] (Zv (Yw J (Yp (Z2 (Yb (Zu (Zg 3 [] [(12,Zi 0),(13,Zi 0)] [] (Zv (Ye (U7 (W1 ?_)))))))))))))));refine Zu (Zg 1 [] [(14,Zb false)] [] (Yi (Yw J (Uo (Y0 (Y0 (Re (z:=.exit _) J (Wj (Xj (Zg 1 [] [(4,Zb true)] [] (Zv (Yv (Yo [] (.inr J) Z6 J (by decide) ?_)))))))))))));exact ⟨J,J,J⟩
def Xa:ByteArray:=⟨#[109,97,105,110]⟩
def Kz:ByteArray:=⟨#[115,116,97,114,116]⟩
abbrev sigV (s:ByteArray):SV:=.agg [Zs s,Zb false,Zz,Zi 0,Ze,Zi 0,Zi 0,Zz,Zz,Zz]
abbrev mainM (zp:Option Addr) (zq:Nat) (e5 e6 e7 e8 e9:SV):List SV:=[Zs Xa,Zb true,Zl zp zq,Zi 0,Ze,e5,e6,e7,e8,e9]
theorem Zpk (h5:sOne e5=true) (h6:sOne e6=true) (h7:sOne e7=true) (h8:sOne e8=true) (h9:sOne e9=true):HF Tryz.prog 248 [.agg (mainM zp zq e5 e6 e7 e8 e9),sigV Xa] N [] fun u N' H'=>u=Zb true/\N'=N+2/\H'=[]:=by
 refine hf1 Tryz.func248 J Tryz.ntmps248 fun _ _ _ _=>?_;refine Zu (Z9 3 [] [(2,Zq N 0),(3,Zq (N+1) 0),(4,Zb false)] [] (N+2) [((N+1),Zc [Zs Xa,Zb false,Zz,Zi 0,Ze,Zi 0,Zi 0,Zz,Zz,Zz]),(N,Zc [Zs Xa,Zb true,Zl zp zq,Zi 0,Ze,e5,e6,e7,e8,e9])] [] ?_);refine Yh (Zg 17 [1,0,1,0,1,0] [(17,Zb true),(19,Zl zp zq),(21,Zz)] [] (Yl [] [] Z6 J J J J (Zid) J (Zg 2 [] [(4,Zb true)] [] (Zv (Yv (Yo [] (.inr J) Z6 J (by decide) ?_))))));exact ⟨J,J,J⟩
theorem Zms (h5:sOne e5=true) (h6:sOne e6=true) (h7:sOne e7=true) (h8:sOne e8=true) (h9:sOne e9=true):HF Tryz.prog 248 [.agg (mainM zp zq e5 e6 e7 e8 e9),sigV Kz] N [] fun u N' H'=>u=Zb false/\N'=N+2/\H'=[]:=by
 refine hf1 Tryz.func248 J Tryz.ntmps248 fun _ _ _ _=>?_;refine Zu (Z9 3 [] [(2,Zq N 0),(3,Zq (N+1) 0),(4,Zb false)] [] (N+2) [((N+1),Zc [Zs Kz,Zb false,Zz,Zi 0,Ze,Zi 0,Zi 0,Zz,Zz,Zz]),(N,Zc [Zs Xa,Zb true,Zl zp zq,Zi 0,Ze,e5,e6,e7,e8,e9])] [] ?_);refine Yh (Zg 20 [1,0] [(4,Zb false)] [] (Zv (Yv (Yo [] (.inr J) Z6 J (by decide) ?_))));exact ⟨J,J,J⟩
theorem Zqo (h5:sOne e5=true) (h6:sOne e6=true) (h7:sOne e7=true) (h8:sOne e8=true) (h9:sOne e9=true):HF Tryz.prog 348 [.ptr c 0,sigV Xa] N [(c,.cells [k0,k1,k2,k3,k4,k5,k6,k7,.sl mr 0 1 0,k9,k10]),(mr,.row 329 1 1 [.ptr me 0]),(me,.cells [Zs Xa,Zb true,Zl zp zq,Zi 0,Ze,e5,e6,e7,e8,e9,e10])] fun u N' H'=>u=.ptr me 0/\N'=N+3/\H'=[(c,.cells [k0,k1,k2,k3,k4,k5,k6,k7,.sl mr 0 1 0,k9,k10]),(mr,.row 329 1 1 [.ptr me 0]),(me,.cells [Zs Xa,Zb true,Zl zp zq,Zi 0,Ze,e5,e6,e7,e8,e9,e10])]:=by
 refine hf1 Tryz.func348 J Tryz.ntmps348 fun _ _ _ _=>?_;refine Zu (Z9 2 [] [(3,Zq N 0),(4,Zp)] [] (N+1) [(N,Zc [Zs Xa,Zb false,Zz,Zi 0,Ze,Zi 0,Zi 0,Zz,Zz,Zz])] [] ?_);refine Yi (Zu (Zg 6 [1] [(10,Zk mr 0 1 0),(11,Zn 1),(12,Zi 0)] [] (Zv (Ye (U7 (W1 ?_))))));refine Zu (Zg 1 [] [(13,Zb true)] [] (Yi (Xr J (Yp (Z2 (Yb (Ye (Zu (Zg 3 [2] [(6,Zq me 0)] [] (Yi ?_))))))))))
 refine W3 [.ptr me 0,.ptr me 0,.ptr me 0,.agg [Zs Xa,Zb true,Zl zp zq,Zi 0,Ze,e5,e6,e7,e8,e9],.agg [Zs Xa,Zb false,Zz,Zi 0,Ze,Zi 0,Zi 0,Zz,Zz,Zz],Zb true] [5] [(_,_)] [3,0] [(21,Zb true)] [] [] Xy
  ⟨fun _ _ _ _ _ _ _ kG=>Yl [] [] Z6 rfl rfl rfl rfl (Zpk h5 h6 h7 h8 h9) rfl kG,trivial⟩
  trivial rfl ?_
 refine Z2 (Xr J (Zu (Zg 2 [] [(4,Zq me 0)] [] (Zv (Yv (We (Xm (Xm (Re (z:=.ret) J (We (Xm (Yo [1,2,3] (.inr J) Z6 J (by decide) ?_))))))))))));exact ⟨J,J,J⟩
theorem Zhi (h5:sOne e5=true) (h6:sOne e6=true) (h7:sOne e7=true) (h8:sOne e8=true) (h9:sOne e9=true):HF Tryz.prog 315 [.ptr c 0,Zs Xa] N [(c,.cells [k0,k1,k2,k3,k4,k5,k6,k7,.sl mr 0 1 0,k9,k10]),(mr,.row 329 1 1 [.ptr me 0]),(me,.cells [Zs Xa,Zb true,Zl zp zq,Zi 0,Ze,e5,e6,e7,e8,e9,e10])] fun u N' H'=>u=.ptr me 0/\N'=N+3/\H'=[(c,.cells [k0,k1,k2,k3,k4,k5,k6,k7,.sl mr 0 1 0,k9,k10]),(mr,.row 329 1 1 [.ptr me 0]),(me,.cells [Zs Xa,Zb true,Zl zp zq,Zi 0,Ze,e5,e6,e7,e8,e9,e10])]:=by
 refine hf1 Tryz.func315 J Tryz.ntmps315 fun _ _ _ _=>?_;refine Zu (Zg 1 [] [(4,Zp)] [] (Yh (Zg 3 [] [(6,Zq c 0),(8,SV.agg [Zs Xa,Zb false,Zz,Zi 0,Ze,Zi 0,Zi 0,Zz,Zz,Zz])] [] ?_)));refine Yl [0,1,2] [2,1,0] Z6 J J J J (Zqo h5 h6 h7 h8 h9) J (Zg 1 [] [(5,Zq me 0)] [] (Yi (Zu (Zg 10 [2] [(19,Zb false)] [] (Zv (Yw J (Yp (Xj (Zg 2 [] [(4,Zq me 0)] [] (Zv (Yv (Yo [0,1,2] (.inr J) Z6 J (by decide) ?_))))))))))));exact ⟨J,J,J⟩
theorem Znc (h5:sOne e5=true) (h6:sOne e6=true) (h7:sOne e7=true) (h8:sOne e8=true) (h9:sOne e9=true):HF Tryz.prog 348 [.ptr c 0,sigV Kz] N [(c,.cells [k0,k1,k2,k3,k4,k5,k6,k7,.sl mr 0 1 0,k9,k10]),(mr,.row 329 1 1 [.ptr me 0]),(me,.cells [Zs Xa,Zb true,Zl zp zq,Zi 0,Ze,e5,e6,e7,e8,e9,e10])] fun u N' H'=>u=Zp/\N'=N+3/\H'=[(c,.cells [k0,k1,k2,k3,k4,k5,k6,k7,.sl mr 0 1 0,k9,k10]),(mr,.row 329 1 1 [.ptr me 0]),(me,.cells [Zs Xa,Zb true,Zl zp zq,Zi 0,Ze,e5,e6,e7,e8,e9,e10])]:=by
 refine hf1 Tryz.func348 J Tryz.ntmps348 fun _ _ _ _=>?_;refine Zu (Z9 2 [] [(3,Zq N 0),(4,Zp)] [] (N+1) [(N,Zc [Zs Kz,Zb false,Zz,Zi 0,Ze,Zi 0,Zi 0,Zz,Zz,Zz])] [] ?_);refine Yi (Zu (Zg 6 [1] [(10,Zk mr 0 1 0),(11,Zn 1),(12,Zi 0)] [] (Zv (Ye (U7 (W1 ?_))))));refine Zu (Zg 1 [] [(13,Zb true)] [] (Yi (Xr J (Yp (Z2 (Yb (Ye (Zu (Zg 3 [2] [(6,Zq me 0)] [] (Yi ?_))))))))))
 refine W3 [.ptr me 0,.ptr me 0,.ptr me 0,.agg [Zs Xa,Zb true,Zl zp zq,Zi 0,Ze,e5,e6,e7,e8,e9],.agg [Zs Kz,Zb false,Zz,Zi 0,Ze,Zi 0,Zi 0,Zz,Zz,Zz],Zb false] [5] [(_,_)] [3,0] [(21,Zb false)] [] [] Xy
  ⟨fun _ _ _ _ _ _ _ kG=>Yl [] [] Z6 rfl rfl rfl rfl (Zms h5 h6 h7 h8 h9) rfl kG,trivial⟩
  trivial rfl ?_
 refine Z2 (Yw J (Yp (Y1 (Z2 (Z0 (Zg 2 [] [(12,Zi 1)] [] (Zv (W1 (Zu (Zg 1 [] [(13,Zb false)] [] (Yi (Yw J (Uo (Y0 (Y0 (Re (z:=.exit _) J (Wj (Xj (Zg 1 [] [(4,Zp)] [] (Zv (Yv (Yo [1,2,3] (.inr J) Z6 J (by decide) ?_))))))))))))))))))))));exact ⟨J,J,J⟩
theorem Zdt (h5:sOne e5=true) (h6:sOne e6=true) (h7:sOne e7=true) (h8:sOne e8=true) (h9:sOne e9=true):HF Tryz.prog 315 [.ptr c 0,Zs Kz] N [(c,.cells [k0,k1,k2,k3,k4,k5,k6,k7,.sl mr 0 1 0,k9,k10]),(mr,.row 329 1 1 [.ptr me 0]),(me,.cells [Zs Xa,Zb true,Zl zp zq,Zi 0,Ze,e5,e6,e7,e8,e9,e10])] fun u N' H'=>u=Zp/\N'=N+3/\H'=[(c,.cells [k0,k1,k2,k3,k4,k5,k6,k7,.sl mr 0 1 0,k9,k10]),(mr,.row 329 1 1 [.ptr me 0]),(me,.cells [Zs Xa,Zb true,Zl zp zq,Zi 0,Ze,e5,e6,e7,e8,e9,e10])]:=by
 refine hf1 Tryz.func315 J Tryz.ntmps315 fun _ _ _ _=>?_;refine Zu (Zg 1 [] [(4,Zp)] [] (Yh (Zg 3 [] [(6,Zq c 0),(8,SV.agg [Zs Kz,Zb false,Zz,Zi 0,Ze,Zi 0,Zi 0,Zz,Zz,Zz])] [] ?_)));refine Yl [0,1,2] [2,1,0] Z6 J J J J (Znc h5 h6 h7 h8 h9) J (Zg 1 [] [(5,Zp)] [] (Yi (Zu (Zg 10 [] [(19,Zb true)] [] (Zv (Xr J (Zu (Zg 1 [] [(4,Zp)] [] (Zv (Yv (Xm (Yo [0,1,2] (.inr J) Z6 J (by decide) ?_))))))))))));exact ⟨J,J,J⟩
theorem Zoj {f0 f1 f2 f3 f4 f6 f7 f8 f9 f10:SV}:HF Tryz.prog 306 [.ptr mc 0,.ptr me 0,Zz] N [(mc,.cells [m0,m1,m2,m3,m4,m5,m6,m7,m8,m9,m10,Zz,m12,m13,m14,m15,m16]),(me,.cells [f0,f1,f2,f3,f4,Zi 3,f6,f7,f8,f9,f10])] fun u N' H'=>u=.ptr (N+1) 0/\N'=N+4/\H'=[(mc,.cells [m0,m1,m2,m3,m4,m5,m6,m7,m8,m9,m10,.sl (N+3) 0 1 0,m12,m13,m14,m15,m16]),(me,.cells [f0,f1,f2,f3,f4,Zi 3,f6,f7,f8,f9,f10]),(N+3,.row 364 1 1 [.ptr (N+1) 0]),(N+1,.cells [.ptr me 0,Zi 0,Zi 0,.sl N 0 3 0,Zz,Zp,Zp]),(N,.row 366 1 3 [Zf,Zf,Zf])]:=by
 refine hf1 Tryz.func306 J Tryz.ntmps306 fun _ _ _ _=>?_;refine Zu (Zg 1 [] [(6,Zp)] [] (Yh (Z9 10 [1] [(7,Zq (N+1) 0)] [] (N+2) [((N+1),Zc [Zq me 0,Zi 0,Zi 0,Zk N 0 3 0,Zz,Zp,Zp]),(N,Zw 366 1 3 [Zf,Zf,Zf])] [] (Yh (Zg 6 [0] [] [] (Yh (Z9 7 [2] [(23,Zq mc 0),(27,Zz),(29,Zk (N+2) 0 1 0)] [] (N+3) [((N+2),Zw 364 1 1 [Zq (N+1) 0])] [] (Gl (i':=0) (e:=364) (sz:=1) (by_:=8) (cc:=[Zq (N+1) 0]) [2,3,4,5] _ (by kernel_rfl) (by kernel_rfl) J J J J J J J J (by omega) (by omega) J (J) (by decide) J ?_))))))));refine Z9 3 [3] [] [] (N+4) [] [(3,Zc [m0,m1,m2,m3,m4,m5,m6,m7,m8,m9,m10,Zk (N+3) 0 1 0,m12,m13,m14,m15,m16])] (Yh (Zg 2 [] [(6,Zq (N+1) 0)] [] (Zv (Yv (Yo [3,4,0,1,2] (.inr J) Z6 J (by decide) ?_)))));exact ⟨J,J,J⟩
end
end S
namespace S
open Go Go.RowKit E
abbrev obB:SB:=clB (nmB 0) (Zp)
section
set_option maxRecDepth 100000
variable {c mr me ob N:Nat} {k0 k2 k3 k4 k5 k7 k8 k9 k10 f0 f1 f2 f3 f4 f5 f6 f7 f8 f9 f10:SV}
noncomputable def conR (k0 k2 k3 k4 k5 k7 k9 k10 f0 f1 f2 f3 f4 f5 f6 f7 f8 f9 f10:SV):Option Rs:=R1 2000 (.call 391 [.sl 1 0 1 0,.fn 392 [.ptr 0 0] []] (stOf [.cells [sh k0,.ptr 3 0,sh k2,sh k3,sh k4,sh k5,Zi 0,sh k7,.sl 1 0 1 0,sh k9,sh k10],.row 329 1 1 [.ptr 2 0],.cells [sh f0,sh f1,sh f2,sh f3,sh f4,sh f5,sh f6,sh f7,sh f8,sh f9,sh f10],obB]))
theorem con_no:HF Tryz.prog 391 [.sl mr 0 1 0,.fn 392 [.ptr c 0] []] N [(c,.cells [k0,.ptr ob 0,k2,k3,k4,k5,Zi 0,k7,.sl mr 0 1 0,k9,k10]),(mr,.row 329 1 1 [.ptr me 0]),(me,.cells [f0,f1,f2,f3,f4,f5,f6,f7,f8,f9,f10]),(ob,obB)] fun u N' H'=>u=Zb false/\N'=N+21/\H'=[(c,.cells [k0,.ptr ob 0,k2,k3,k4,k5,Zi 0,k7,.sl mr 0 1 0,k9,k10]),(mr,.row 329 1 1 [.ptr me 0]),(me,.cells [f0,f1,f2,f3,f4,f5,f6,f7,f8,f9,f10]),(ob,obB)]:=by
 have h:=G2 (bs:=[c,mr,me,ob]) (N:=N) (G6 2000 _ _ (Hv (show isV (conR k0 k2 k3 k4 k5 k7 k9 k10 f0 f1 f2 f3 f4 f5 f6 f7 f8 f9 f10)=true by kernel_rfl))) rfl (Nat.le_of_ble_eq_true rfl) (by kernel_rfl) (by kernel_rfl);have hv:ren (rho [c,mr,me,ob] N) (rsV (conR k0 k2 k3 k4 k5 k7 k9 k10 f0 f1 f2 f3 f4 f5 f6 f7 f8 f9 f10))=Zb false:=by kernel_rfl
 have hn:N+((rsS (conR k0 k2 k3 k4 k5 k7 k9 k10 f0 f1 f2 f3 f4 f5 f6 f7 f8 f9 f10)).n - [c,mr,me,ob].length)=N+21:=by kernel_rfl
 unfold conR at hv hn;rw [hv,hn] at h;have h':=HF.less (H2:=[(c,.cells [ren (rho [c,mr,me,ob] N) (sh k0),.ptr ob 0,ren (rho [c,mr,me,ob] N) (sh k2),ren (rho [c,mr,me,ob] N) (sh k3),ren (rho [c,mr,me,ob] N) (sh k4),ren (rho [c,mr,me,ob] N) (sh k5),Zi 0,ren (rho [c,mr,me,ob] N) (sh k7),.sl mr 0 1 0,ren (rho [c,mr,me,ob] N) (sh k9),ren (rho [c,mr,me,ob] N) (sh k10)]),(mr,.row 329 1 1 [.ptr me 0]),(me,.cells [ren (rho [c,mr,me,ob] N) (sh f0),ren (rho [c,mr,me,ob] N) (sh f1),ren (rho [c,mr,me,ob] N) (sh f2),ren (rho [c,mr,me,ob] N) (sh f3),ren (rho [c,mr,me,ob] N) (sh f4),ren (rho [c,mr,me,ob] N) (sh f5),ren (rho [c,mr,me,ob] N) (sh f6),ren (rho [c,mr,me,ob] N) (sh f7),ren (rho [c,mr,me,ob] N) (sh f8),ren (rho [c,mr,me,ob] N) (sh f9),ren (rho [c,mr,me,ob] N) (sh f10)]),(ob,obB)]) [0,1,2,3] h (by decide) (by kernel_rfl);have h2:HF Tryz.prog 391 [.sl mr 0 1 0,.fn 392 [.ptr c 0] []] N [(c,.cells [ren (rho [c,mr,me,ob] N) (sh k0),.ptr ob 0,ren (rho [c,mr,me,ob] N) (sh k2),ren (rho [c,mr,me,ob] N) (sh k3),ren (rho [c,mr,me,ob] N) (sh k4),ren (rho [c,mr,me,ob] N) (sh k5),Zi 0,ren (rho [c,mr,me,ob] N) (sh k7),.sl mr 0 1 0,ren (rho [c,mr,me,ob] N) (sh k9),ren (rho [c,mr,me,ob] N) (sh k10)]),(mr,.row 329 1 1 [.ptr me 0]),(me,.cells [ren (rho [c,mr,me,ob] N) (sh f0),ren (rho [c,mr,me,ob] N) (sh f1),ren (rho [c,mr,me,ob] N) (sh f2),ren (rho [c,mr,me,ob] N) (sh f3),ren (rho [c,mr,me,ob] N) (sh f4),ren (rho [c,mr,me,ob] N) (sh f5),ren (rho [c,mr,me,ob] N) (sh f6),ren (rho [c,mr,me,ob] N) (sh f7),ren (rho [c,mr,me,ob] N) (sh f8),ren (rho [c,mr,me,ob] N) (sh f9),ren (rho [c,mr,me,ob] N) (sh f10)]),(ob,obB)] _:=h';simp only [Ts (show [c,mr,me,ob].length<=lim by unfold lim;simp)] at h2;exact h2
noncomputable def nxtR (k0 k2 k3 k4 k5 k7 k8 k9 k10:SV):Option Rs:=R1 2000 (.call 349 [.ptr 0 0] (stOf [.cells [sh k0,.ptr 1 0,sh k2,sh k3,sh k4,sh k5,Zi 0,sh k7,sh k8,sh k9,sh k10],obB]))
theorem Znm:HF Tryz.prog 349 [.ptr c 0] N [(c,.cells [k0,.ptr ob 0,k2,k3,k4,k5,Zi 0,k7,k8,k9,k10]),(ob,obB)] fun u N' H'=>u=.ptr c 0/\N'=N+4/\H'=[(c,.cells [k0,.ptr ob 0,k2,k3,k4,k5,Zi 0,k7,k8,k9,k10]),(ob,obB)]:=by
 have h:=G2 (bs:=[c,ob]) (N:=N) (G6 2000 _ _ (Hv (show isV (nxtR k0 k2 k3 k4 k5 k7 k8 k9 k10)=true by kernel_rfl))) rfl (Nat.le_of_ble_eq_true rfl) (by kernel_rfl) (by kernel_rfl);have hv:ren (rho [c,ob] N) (rsV (nxtR k0 k2 k3 k4 k5 k7 k8 k9 k10))=.ptr c 0:=by kernel_rfl
 have hn:N+((rsS (nxtR k0 k2 k3 k4 k5 k7 k8 k9 k10)).n - [c,ob].length)=N+4:=by kernel_rfl
 unfold nxtR at hv hn;rw [hv,hn] at h;have h':=HF.less (H2:=[(c,.cells [ren (rho [c,ob] N) (sh k0),.ptr ob 0,ren (rho [c,ob] N) (sh k2),ren (rho [c,ob] N) (sh k3),ren (rho [c,ob] N) (sh k4),ren (rho [c,ob] N) (sh k5),Zi 0,ren (rho [c,ob] N) (sh k7),ren (rho [c,ob] N) (sh k8),ren (rho [c,ob] N) (sh k9),ren (rho [c,ob] N) (sh k10)]),(ob,obB)]) [0,1] h (by decide) (by kernel_rfl);have h2:HF Tryz.prog 349 [.ptr c 0] N [(c,.cells [ren (rho [c,ob] N) (sh k0),.ptr ob 0,ren (rho [c,ob] N) (sh k2),ren (rho [c,ob] N) (sh k3),ren (rho [c,ob] N) (sh k4),ren (rho [c,ob] N) (sh k5),Zi 0,ren (rho [c,ob] N) (sh k7),ren (rho [c,ob] N) (sh k8),ren (rho [c,ob] N) (sh k9),ren (rho [c,ob] N) (sh k10)]),(ob,obB)] _:=h';simp only [Ts (show [c,ob].length<=lim by unfold lim;simp)] at h2;exact h2
end
end S
namespace S
open Go Go.RowKit E
section
set_option maxRecDepth 10000
variable {N mc nm ob dm dc k c mr me cd:Nat} {nb sb:ByteArray} {fp zp hp gp:Option Addr} {fq zq hq gq:Nat} {dp:Int} {ins:List (List SV)} {m0 m1 m2 m3 m4 m5 m6 m7 m8 m9 m10 m11 m12 m13 m14 m15 m16:SV}
theorem Zbg (hk:ins.length=k) (hkb:k<=1000) (h7:∀ x ∈ ins,Is7 x):HF Tryz.prog 380 [.agg [Zs nb,Zs sb,Zl fp fq,.sl dm 0 1 0],.ptr ob 0] N [(dm,.row 134 10 1 [Zs Xa,Zb true,Zl zp zq,Zi 0,Ze,Zi 3,Zi dp,.sl dc 0 k 0,Zl hp hq,Zl gp gq]),(dc,.row 75 7 k ins.flatten),(ob,obB)] fun u N' H'=>∃ c mr me cd,u=.ptr c 0/\H'=[(c,.cells [Zs nb,.ptr ob 0,Zs nb,Zs sb,Zl fp fq,.sl dm 0 1 0,Zi 0,Zz,.sl mr 0 1 0,Zz,Zz]),(mr,.row 329 1 1 [.ptr me 0]),(me,.cells [Zs Xa,Zb true,Zl zp zq,Zi 0,Ze,Zi 3,Zi dp,.sl dc 0 k 0,Zl hp hq,Zl gp gq,.sl cd 0 k 0]),(cd,.row 475 8 k (Oi ins k)),(dm,.row 134 10 1 [Zs Xa,Zb true,Zl zp zq,Zi 0,Ze,Zi 3,Zi dp,.sl dc 0 k 0,Zl hp hq,Zl gp gq]),(dc,.row 75 7 k ins.flatten),(ob,obB)]:=by
 refine hf1 Tryz.func380 J Tryz.ntmps380 fun _ _ _ _=>?_;refine Zu (Z9 2 [] [(2,Zq N 0),(4,Zp)] [] (N+1) [(N,Zc [Zs nb,Zs sb,Zl fp fq,Zk dm 0 1 0])] [] (Yi ?_))
 refine W3 [.ptr N 0,Zs nb,.ptr ob 0,.agg [Zs nb,Zs sb,Zl fp fq,.sl dm 0 1 0],.ptr ob 0,.ptr ob 0,.ptr ob 10,Zz,Zz,.agg [Zs nb,.ptr ob 0,Zs nb,Zs sb,Zl fp fq,.sl dm 0 1 0,Zi 0,Zz,Zz,Zz,Zz],.ptr (N+1) 0,.ptr (N+1) 0] [8,10] [(_,_),(_,_)] [0,0,0,0,3] [(5,Zq (N+1) 0)] [] [] Xy
  ⟨fun _ _ _ _ _ _ _ kG=>Yl [] [] Z6 rfl rfl rfl rfl (Zod) rfl kG,fun _ _ _ _ _ _ _ kG=>Z9 1 [] [(20,Zq (N+1) 0)] [] (N+2) [((N+1),Zc [Zs nb,Zq ob 0,Zs nb,Zs sb,Zl fp fq,Zk dm 0 1 0,Zi 0,Zz,Zz,Zz,Zz])] [] kG,trivial⟩
  trivial rfl ?_
 refine Z2 (Yb (Zu (Zg 4 [1] [(22,Zl fp fq),(23,Zi 0),(24,Zi 0)] [] (Zv (Ye (U7 (W1 ?_)))))));refine Zu (Zg 1 [] [(25,Zb false)] [] (Yi (Yw J (Uo (Y0 (Y0 (Re (z:=.exit _) J (Wj (Z2 (Yb (Zu (Zg 4 [1] [(33,Zk dm 0 1 0),(34,Zn 1),(35,Zi 0)] [] (Zv (Ye (U7 (W1 ?_))))))))))))))));refine Zu (Zg 1 [] [(36,Zb true)] [] (Yi (Xr J (Yp (Z2 (Yb (Ye (Zu (Z9 4 [2,0] [(9,Zq (N+2) 0)] [] (N+3) [((N+2),Zc [Zs Xa,Zb true,Zl zp zq,Zi 0,Ze,Zi 3,Zi dp,Zk dc 0 k 0,Zl hp hq,Zl gp gq])] [] ?_)))))))));refine Zv ?_
 refine W3 [.ptr (N+1) 0,.ptr (N+1) 0,.ptr (N+1) 0,.ptr (N+1) 8,Zz,.agg [Zs Xa,Zb true,Zl zp zq,Zi 0,Ze,Zi 3,Zi dp,.sl dc 0 k 0,Zl hp hq,Zl gp gq],.ptr (N+3+1+3*k+1) 0,.sl (N+3+1+3*k+2) 0 1 0,.sl ((N+3+1+3*k+2)+1) 0 1 0,.ptr (N+1) 0,.ptr (N+1) 8,.tup []] [6,7,8,11] [(_,_),(_,_),(_,_),(_,_)] [1,4,5,0] [] [] [] Xy
  ⟨fun _ _ _ _ _ _ _ kG=>Yl [4] [4] Z6 rfl rfl rfl rfl (C9 hk hkb h7) rfl kG,fun _ _ _ _ _ _ _ kG=>Z9 1 [] [(46,Zk (N+3+1+3*k+2) 0 1 0)] [] ((N+3+1+3*k+2)+1) [((N+3+1+3*k+2),Zw 329 1 1 [Zq (N+3+1+3*k+1) 0])] [] kG,fun _ _ _ _ _ _ _ kG=>Gl (i':=0) (e:=329) (sz:=1) (by_:=8) (cc:=[Zq (N+3+1+3*k+1) 0]) [2,3,4,5,6,7,8,9] _ (by kernel_rfl) (by kernel_rfl) rfl rfl rfl rfl rfl rfl rfl rfl (by omega) (by omega) rfl (rfl) (by decide) rfl kG,fun _ _ _ _ _ _ _ kG=>Z9 1 [5] [] [] ((N+3+1+3*k+2)+2) [] [(5,Zc [Zs nb,Zq ob 0,Zs nb,Zs sb,Zl fp fq,Zk dm 0 1 0,Zi 0,Zz,Zk ((N+3+1+3*k+2)+1) 0 1 0,Zz,Zz])] kG,trivial⟩
  trivial rfl ?_
 refine Y1 (Z2 (Z0 (Zg 2 [] [(35,Zi 1)] [] (Zv (W1 (Zu (Zg 1 [] [(36,Zb false)] [] (Yi (Yw J (Uo (Y0 (Y0 (Re (z:=.exit _) J (Wj (Xj (Zg 2 [] [(4,Zq (N+1) 0)] [] (Zv (Yv (Yo [5,0,1,2,7,3,8] (.inr J) Z6 J (by decide) ?_)))))))))))))))))));exact ⟨_,_,_,_,J,J⟩
theorem Zon:HF Tryz.prog 379 [.ptr mc 0,.ptr c 0] N [(mc,.cells [m0,m1,m2,m3,m4,m5,m6,m7,m8,m9,Zz,m11,m12,m13,m14,m15,m16]),(c,.cells [Zs nb,.ptr ob 0,Zs nb,Zs sb,Zl fp fq,.sl dm 0 1 0,Zi 0,Zz,.sl mr 0 1 0,Zz,Zz]),(mr,.row 329 1 1 [.ptr me 0]),(me,.cells [Zs Xa,Zb true,Zl zp zq,Zi 0,Ze,Zi 3,Zi dp,.sl dc 0 k 0,Zl hp hq,Zl gp gq,.sl cd 0 k 0]),(ob,obB)] fun u N' H'=>u=.ifc 323 (.agg [.ptr c 0])/\N'=N+21/\H'=[(mc,.cells [m0,m1,m2,m3,m4,m5,m6,m7,m8,m9,Zz,m11,m12,m13,m14,m15,m16]),(c,.cells [Zs nb,.ptr ob 0,Zs nb,Zs sb,Zl fp fq,.sl dm 0 1 0,Zi 0,Zz,.sl mr 0 1 0,Zz,Zz]),(mr,.row 329 1 1 [.ptr me 0]),(me,.cells [Zs Xa,Zb true,Zl zp zq,Zi 0,Ze,Zi 3,Zi dp,.sl dc 0 k 0,Zl hp hq,Zl gp gq,.sl cd 0 k 0]),(ob,obB)]:=by
 refine hf1 Tryz.func379 J Tryz.ntmps379 fun _ _ _ _=>?_;refine Zu (Zg 1 [] [(4,Zf)] [] (Yi (Zu (Zg 6 [1] [(10,Zk mr 0 1 0),(12,Zh 392 [Zq c 0] [])] [] (Yl [1,2,3,4] [4,3,2,1] Z6 J J J J (con_no) J (Zv (Yw J (Yp (Z2 (Yb (Zu (Zg 6 [4] [(19,Zz),(20,Zi 0),(21,Zi 0)] [] (Zv (Ye (U7 (W1 ?_))))))))))))))));refine Zu (Zg 1 [] [(22,Zb false)] [] (Yi (Yw J (Uo (Y0 (Y0 (Re (z:=.exit _) J (Wj (Xj (Zg 4 [] [(4,SV.ifc 323 (SV.agg [Zq c 0]))] [] (Zv (Yv (Yo [4,0,1,2,3] (.inr J) Z6 J (by decide) ?_)))))))))))));exact ⟨J,J,J⟩
end
end S
end Go.Proofs.YtpofmnfkdkmieaaGreat
