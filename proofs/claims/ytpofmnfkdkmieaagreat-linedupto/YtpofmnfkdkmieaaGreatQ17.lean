/- What is proved here: the classes that are there from the begi -/
import Derived.Test.YtpofmnfkdkmieaaGreatQ15
import Derived.Test.YtpofmnfkdkmieaaGreatQ13
import Derived.Test.YtpofmnfkdkmieaaGreatQ16
import Derived.Test.YtpofmnfkdkmieaaGreatQ14
set_option linter.unusedVariables false
set_option linter.unusedSimpArgs false
namespace Go.Proofs.YtpofmnfkdkmieaaGreat
namespace S
open Go Go.RowKit E
def nmsB:List ByteArray:=[⟨#[79,98,106,101,99,116]⟩,⟨#[84,104,114,111,119,97,98,108,101]⟩,⟨#[69,114,114,111,114]⟩,⟨#[78,111,67,108,97,115,115]⟩,⟨#[66,97,100,70,111,114,109]⟩,⟨#[67,105,114,99,117,108,97,114]⟩,⟨#[66,97,100,67,108,97,115,115]⟩,⟨#[78,111,70,105,101,108,100]⟩,⟨#[78,111,77,101,116,104,111,100]⟩,⟨#[66,97,100,73,110,105,116]⟩,⟨#[65,114,105,116,104]⟩,⟨#[78,117,108,108,82,101,102]⟩,⟨#[66,97,100,67,97,115,116]⟩,⟨#[66,111,117,110,100,115]⟩,⟨#[66,97,100,83,105,122,101]⟩,⟨#[72,101,97,112]⟩,⟨#[68,101,101,112]⟩]
def nmB (j:Nat):ByteArray:=nmsB[j]?.getD ⟨#[]⟩
def Lr:Nat->Nat
 | 0=>0
 | 1=>0
 | 2=>1
 | _=>2
def Cb (j:Nat):ByteArray:=match j with
 | 0=>⟨#[]⟩
 | j=>nmB (Lr j)
def clB (nm:ByteArray) (sup:SV):SB:=.cells [Zs nm,sup,Ze,Ze,Zz,Zz,Zi 1,Zz,Zz,Zz,Zz]
def supV (N:Nat):Nat->SV
 | 0=>.v (.pointer none)
 | j+1=>.ptr (N+2*Lr (j+1)) 0
noncomputable def esB (N:Nat):Nat->List (ByteArray × SV)
 | 0=>[]
 | j+1=>putM (nmB j) (.ifc 323 (.agg [.ptr (N+2*j) 0])) (esB N j)
def Q4 (N:Nat):Nat->Ch
 | 0=>[]
 | j+1=>(N+2*j,clB (nmB j) (supV N j))::Q4 N j
def Rv:List SV:=nmsB.map fun s=>Zs s
section
set_option maxRecDepth 100000
variable {mc nm N N0:Nat} {m0 m1 m2 m3 m4 m5 m6 m7 m8 m10 m11 m12 m13 m14 m15 m16:SV}
noncomputable def namR:Option Rs:=R1 200 (.call 237 [] (stOf []))
theorem namR_ok:isV namR=true:=by kernel_rfl
theorem Cy:HF Tryz.prog 237 [] N [] fun u N' H'=>u=.sl N 0 17 0/\N'=N+1/\H'=[(N,.row 9 1 17 Rv)]:=by
 have h:=Rj (bs:=[]) (N:=N) (Rk 200 _ _ (Q0 namR_ok)) rfl (by decide) (by kernel_rfl) (by kernel_rfl);have hv:ren (rho [] N) (rsV namR)=.sl N 0 17 0:=by kernel_rfl
 have hn:N+((rsS namR).n - ([]:List Nat).length)=N+1:=by kernel_rfl
 have ho:outH [] N (rsS namR)=[(N,.row 9 1 17 Rv)]:=by kernel_rfl
 unfold namR at hv hn ho;rw [hv,hn,ho] at h;exact h
theorem W0 {j:Nat} {s:ByteArray} (h:R1 400 (.call 238 [Zs (nmB j)] (stOf []))=some (.val (.tup [Zs s,Zb true]) (stOf []))):HF Tryz.prog 238 [Zs (nmB j)] N [] fun u N' H'=>u=.tup [Zs s,Zb true]/\N'=N/\H'=[] :=
 Rj (bs:=[]) (N:=N) (Rk 400 _ _ h) rfl (by decide) (by kernel_rfl) (by kernel_rfl)
theorem F3:∀ {j:Nat},j<17->HF Tryz.prog 238 [Zs (nmB j)] N [] fun u N' H'=>u=.tup [Zs (Cb j),Zb true]/\N'=N/\H'=[]
 | 0,_=>W0 (by kernel_rfl)
 | 1,_=>W0 (by kernel_rfl)
 | 2,_=>W0 (by kernel_rfl)
 | 3,_=>W0 (by kernel_rfl)
 | 4,_=>W0 (by kernel_rfl)
 | 5,_=>W0 (by kernel_rfl)
 | 6,_=>W0 (by kernel_rfl)
 | 7,_=>W0 (by kernel_rfl)
 | 8,_=>W0 (by kernel_rfl)
 | 9,_=>W0 (by kernel_rfl)
 | 10,_=>W0 (by kernel_rfl)
 | 11,_=>W0 (by kernel_rfl)
 | 12,_=>W0 (by kernel_rfl)
 | 13,_=>W0 (by kernel_rfl)
 | 14,_=>W0 (by kernel_rfl)
 | 15,_=>W0 (by kernel_rfl)
 | 16,_=>W0 (by kernel_rfl)
 | j+17,h=>absurd h (by omega)
theorem es_sup:∀ {j:Nat},j<16->findS (Cb (j+1)) (esB N (j+1))=some (.ifc 323 (.agg [.ptr (N+2*Lr (j+1)) 0]))
 | 0,_=>by kernel_rfl
 | 1,_=>by kernel_rfl
 | 2,_=>by kernel_rfl
 | 3,_=>by kernel_rfl
 | 4,_=>by kernel_rfl
 | 5,_=>by kernel_rfl
 | 6,_=>by kernel_rfl
 | 7,_=>by kernel_rfl
 | 8,_=>by kernel_rfl
 | 9,_=>by kernel_rfl
 | 10,_=>by kernel_rfl
 | 11,_=>by kernel_rfl
 | 12,_=>by kernel_rfl
 | 13,_=>by kernel_rfl
 | 14,_=>by kernel_rfl
 | 15,_=>by kernel_rfl
 | j+16,h=>absurd h (by omega)
theorem nms_at {j:Nat} (h:j<17):Rv[0+j*1]?=some (Zs (nmB j)):=by
 rw [Nat.zero_add,Nat.mul_one];unfold Rv nmB;rw [List.getElem?_map,List.getElem?_eq_getElem (by exact h)];rfl
theorem Aw {nb:ByteArray} {es:List (ByteArray × SV)} (hf:findS nb es=none) :
  HF Tryz.prog 239 [.ptr mc 0,Zs nb] N [(mc,.cells [m0,m1,m2,m3,m4,m5,m6,m7,m8,.mp nm,m10,m11,m12,m13,m14,m15,m16]),(nm,.map es)] fun u N' H'=>u=Zp/\N'=N/\H'=[(mc,.cells [m0,m1,m2,m3,m4,m5,m6,m7,m8,.mp nm,m10,m11,m12,m13,m14,m15,m16]),(nm,.map es)]:=by
 refine hf1 Tryz.func239 J Tryz.ntmps239 fun _ _ _ _=>?_;refine Zd (Za 1 [] [(4,Zp)] [] (Z1 (Zd (Za 5 [0] [(9,SV.mp nm),(10,Zs nb)] [] ?_))));refine Nd (i:=1) (e:=325) (z:=.nilIface) (v:=Zf) J J (by kernel_rfl) (by kernel_rfl) J J J (fun _ h=>by cases h<;>rfl) J (by rw [hf];rfl) rfl ?_;refine Zg (Zv (Zd (Za 3 [] [(13,Zb false),(14,SV.v (.agg #[.pointer none]))] [] (Zg (Z6 J (Ya (Yb (Yh (Za 1 [] [(4,Zp)] [] (Zg (Yc (Z5 [0,1] (.inr J) Zj J (by decide) ?_))))))))))));exact ⟨J,J,J⟩
theorem Zen:HF Tryz.prog 129 [.ptr mc 0] N ([(mc,.cells [m0,m1,m2,m3,m4,m5,m6,m7,m8,.mp nm,m10,m11,m12,m13,m14,m15,m16]),(nm,.map [])]++[]) fun u N' H'=>u=.tup []/\N'=N+1+33/\H'=[(mc,.cells [m0,m1,m2,m3,m4,m5,m6,m7,m8,.mp nm,m10,m11,m12,m13,m14,m15,m16]),(nm,.map (esB (N+1) 17))]++Q4 (N+1) 17:=by
 refine hf1 Tryz.func129 J Tryz.ntmps129 fun _ _ _ _=>?_;refine Zd (Z0 [] [] Zj J J J J (Cy) J (Za 2 [] [(7,Zn 17),(8,Zi 0)] [] (Zg (Zv (Yv (Yg ?_))))));refine Zd (Za 1 [] [(9,Zb true)] [] (Z1 (Yj J (Ya (Zr (Z2 (Zv (Zd (Za 1 [] [(10,Zq N 0)] [] (Yp (i:=0) (v:=Zs (nmB 0)) J J J J (Xd (by kernel_rfl) J) J ?_))))))))));refine Za 1 [] [(3,Zs (nmB 0))] [] (Zx (Za 1 [] [(13,Zs (nmB 0))] [] (Z0 [] [] Zj J J J J (F3 (j:=0) (by omega)) J ?_)));refine Za 5 [] [(4,Zs (Cb 0))] [] (Zg ?_)
 refine Y0 [.ptr mc 0,.ptr mc 0,.ptr mc 9,.mp nm,Zs (nmB 0),Zs (nmB 0),.ptr mc 0,Zs (Cb 0),Zp,.agg [Zs (nmB 0),Zp,Ze,Ze,Zz,Zz,Zi 1,Zz,Zz,Zz,Zz],.ptr (N+1) 0,.agg [.ptr (N+1) 0],.ifc 323 (.agg [.ptr (N+1) 0]),.tup []] [8,10,13] [(_,_),(_,_),(_,_)] [1,0,1] [] [] [] Yt
  ⟨fun _ _ _ _ _ _ _ kG=>Z0 [1,2] [2,1] Zj rfl rfl rfl rfl (Aw rfl) rfl kG,fun _ _ _ _ _ _ _ kG=>Zy 1 [] [(27,Zq (N+1) 0)] [] (N+2) [((N+1),Zc [Zs (nmB 0),Zp,Ze,Ze,Zz,Zz,Zi 1,Zz,Zz,Zz,Zz])] [] kG,fun _ _ _ _ _ _ _ kG=>Q9 (i:=2) (e:=325) ([((N+1),Zc [Zs (nmB 0),Zp,Ze,Ze,Zz,Zz,Zi 1,Zz,Zz,Zz,Zz]),(mc,Zc [m0,m1,m2,m3,m4,m5,m6,m7,m8,SV.mp nm,m10,m11,m12,m13,m14,m15,m16]),(nm,SB.map (esB (N+1) 1)),(N,Zw 9 1 17 Rv)]++(Q4 (N+1) 0)) rfl rfl rfl (by kernel_rfl) rfl rfl rfl rfl rfl rfl rfl (rfl) kG,trivial⟩
  trivial rfl ?_
 refine HQ_tl (A:=[(mc,.cells [m0,m1,m2,m3,m4,m5,m6,m7,m8,SV.mp nm,m10,m11,m12,m13,m14,m15,m16]),(nm,.map (esB (N+1) 1)),(N,.row 9 1 17 Rv)]) (U:=(Q4 (N+1) 0)) (p:=((N+1),.cells [Zs (nmB 0),Zp,Ze,Ze,Zz,Zz,Zi 1,Zz,Zz,Zz,Zz])) ([((N+1),Zc [Zs (nmB 0),Zp,Ze,Ze,Zz,Zz,Zi 1,Zz,Zz,Zz,Zz]),(mc,Zc [m0,m1,m2,m3,m4,m5,m6,m7,m8,SV.mp nm,m10,m11,m12,m13,m14,m15,m16]),(nm,SB.map (esB (N+1) 1)),(N,Zw 9 1 17 Rv)]++(Q4 (N+1) 0)) (List.Perm.refl _) ?_;show HQ _ _ _ _ _ _ _ _ _ _ _ _ ([(mc,Zc [m0,m1,m2,m3,m4,m5,m6,m7,m8,SV.mp nm,m10,m11,m12,m13,m14,m15,m16]),(nm,SB.map (esB (N+1) 1)),(N,Zw 9 1 17 Rv)]++(Q4 (N+1) 1));refine Yb (Zr (Zo (Za 2 [] [(8,Zi 1)] [] (Zg (Uy (α:={ i:Nat // i<=16 }) (st:=(fun s=>[(0,.ptr mc 0),(6,.sl N 0 17 0),(7,Zn 17),(8,Zn (s.1+1))])) (nn:=(fun s=>N+1+2*s.1+1)) (hh:=(fun s=>[(mc,Zc [m0,m1,m2,m3,m4,m5,m6,m7,m8,.mp nm,m10,m11,m12,m13,m14,m15,m16]),(nm,SB.map (esB (N+1) (s.1+1))),(N,Zw 9 1 17 Rv)]++Q4 (N+1) (s.1+1))) ⟨0,by omega⟩ ⟨J,J,J,J,trivial⟩ J J ?_)))));refine T5 (α:={ i:Nat // i<=16 }) (fun s=>16 - s.1) (fun s=>[(0,.ptr mc 0),(6,.sl N 0 17 0),(7,Zn 17),(8,Zn (s.1+1))]) (fun s=>N+1+2*s.1+1) (fun s=>[(mc,Zc [m0,m1,m2,m3,m4,m5,m6,m7,m8,.mp nm,m10,m11,m12,m13,m14,m15,m16]),(nm,SB.map (esB (N+1) (s.1+1))),(N,Zw 9 1 17 Rv)]++Q4 (N+1) (s.1+1)) ⟨0,by omega⟩ ?_;rintro (⟨i,hi⟩)
 ·skip
  refine Zd (Za 1 [] [(9,SV.v (.bool (ilt (.ofNat (i+1)) (.ofNat 17))))] [] (Z1 (V9 J (fun c2=>?_) (fun c2=>?_))))
  ·skip
   have hj:i+1<17:=by have:=Xf.1 c2;simp at this;omega
   refine Ya (Zr (Z2 (Zv (Zd (Zu (v:=.ptr N (0+(i+1)*1)) J (Xe J J J (by kernel_rfl) (by omega)) J ?_)))));refine Yp (i:=2) (v:=Zs (nmB (i+1))) J J J J (Xd (by kernel_rfl) (nms_at hj)) J ?_;refine Za 1 [] [(3,Zs (nmB (i+1)))] [] (Zx (Za 1 [] [(13,Zs (nmB (i+1)))] [] (Z0 [] [] Zj J J J J (F3 hj) J (Za 5 [] [(4,Zs (Cb (i+1)))] [] (Zg ?_)))))
   refine Y0 [.ptr mc 0,.ptr mc 0,.ptr mc 9,.mp nm,Zs (nmB (i+1)),Zs (nmB (i+1)),.ptr mc 0,Zs (Cb (i+1)),.ptr (N+1+2*Lr (i+1)) 0,.agg [Zs (nmB (i+1)),.ptr (N+1+2*Lr (i+1)) 0,Ze,Ze,Zz,Zz,Zi 1,Zz,Zz,Zz,Zz],.ptr ((N+1+2*i+1)+1) 0,.agg [.ptr ((N+1+2*i+1)+1) 0],.ifc 323 (.agg [.ptr ((N+1+2*i+1)+1) 0]),.tup []] [8,10,13] [(_,_),(_,_),(_,_)] [0,0,1] [] [] [] Yt
    ⟨fun _ _ _ _ _ _ _ kG=>Z0 [0,1] [1,0] Zj rfl rfl rfl rfl (D9 (es_sup (by omega))) rfl kG,fun _ _ _ _ _ _ _ kG=>Zy 1 [] [(27,Zq ((N+1+2*i+1)+1) 0)] [] (((N+1+2*i+1)+1)+1) [(((N+1+2*i+1)+1),Zc [Zs (nmB (i+1)),Zq (N+1+2*Lr (i+1)) 0,Ze,Ze,Zz,Zz,Zi 1,Zz,Zz,Zz,Zz])] [] kG,fun _ _ _ _ _ _ _ kG=>Q9 (i:=2) (e:=325) ([(((N+1+2*i+1)+1),Zc [Zs (nmB (i+1)),Zq (N+1+2*Lr (i+1)) 0,Ze,Ze,Zz,Zz,Zi 1,Zz,Zz,Zz,Zz]),(mc,Zc [m0,m1,m2,m3,m4,m5,m6,m7,m8,SV.mp nm,m10,m11,m12,m13,m14,m15,m16]),(nm,SB.map (esB (N+1) (i+1+1))),(N,Zw 9 1 17 Rv)]++(Q4 (N+1) (i+1))) rfl rfl rfl (by kernel_rfl) rfl rfl rfl rfl rfl rfl rfl (rfl) kG,trivial⟩
    trivial rfl ?_
   refine HQ_tl (A:=[(mc,.cells [m0,m1,m2,m3,m4,m5,m6,m7,m8,SV.mp nm,m10,m11,m12,m13,m14,m15,m16]),(nm,.map (esB (N+1) (i+1+1))),(N,.row 9 1 17 Rv)]) (U:=(Q4 (N+1) (i+1))) (p:=(((N+1+2*i+1)+1),.cells [Zs (nmB (i+1)),Zq (N+1+2*Lr (i+1)) 0,Ze,Ze,Zz,Zz,Zi 1,Zz,Zz,Zz,Zz])) ([(((N+1+2*i+1)+1),Zc [Zs (nmB (i+1)),Zq (N+1+2*Lr (i+1)) 0,Ze,Ze,Zz,Zz,Zi 1,Zz,Zz,Zz,Zz]),(mc,Zc [m0,m1,m2,m3,m4,m5,m6,m7,m8,SV.mp nm,m10,m11,m12,m13,m14,m15,m16]),(nm,SB.map (esB (N+1) (i+1+1))),(N,Zw 9 1 17 Rv)]++(Q4 (N+1) (i+1))) (List.Perm.refl _) ?_;show HQ _ _ _ _ _ _ _ _ _ _ _ _ ([(mc,Zc [m0,m1,m2,m3,m4,m5,m6,m7,m8,SV.mp nm,m10,m11,m12,m13,m14,m15,m16]),(nm,SB.map (esB (N+1) (i+1+1))),(N,Zw 9 1 17 Rv)]++(Q4 (N+1) (i+1+1)));refine Yb (Zr (Zo (Zu (v:=Zn ((i+1)+1)) J (Xr J J J (by omega)) J ?_)));refine Za 1 [] [(8,Zn ((i+1)+1))] [] (Z7 ?_);show HQ _ _ _ _ _ _ _ _ _ _ _ _ ([(mc,Zc [m0,m1,m2,m3,m4,m5,m6,m7,m8,SV.mp nm,m10,m11,m12,m13,m14,m15,m16]),(nm,SB.map (esB (N+1) (i+1+1))),(N,Zw 9 1 17 Rv)]++(Q4 (N+1) (i+1+1)));exact X1 ⟨i+1,by omega⟩ (by simp only [];omega) ⟨rfl,rfl,rfl,rfl,trivial⟩ rfl rfl
  ·skip
   have hj:i=16:=by have:¬ ((i:Int)+1<17):=fun h=>(Bool.eq_false_iff.1 c2) (Xf.2 (by simpa using h));omega
   refine Yz (Z8 (Z8 (Xb (z:=.exit _) J (Yi (Wk 3 [0,1] (.inl J) Zj J ?_)))));subst hj;exact ⟨J,J,J⟩
end
end S
namespace S
open Go Go.RowKit E
abbrev As:SV:=.ifc 485 (.agg [])
def Wd (ins:List (List SV)):Nat->List SV
 | 0=>[]
 | i+1=>Wd ins i++((ins[i]?.getD [])++[As])
def Is7 (x:List SV):Prop:=∃ c0 c1 c2 c3 c4 c5 c6:SV,x=[c0,c1,c2,c3,c4,c5,c6]/\x.all sOne=true
theorem Pw {ins:List (List SV)} (h:∀ x ∈ ins,Is7 x):∀ i,i<=ins.length->(Wd ins i).length=i*8
 | 0,_=>rfl
 | i+1,hi=>by
  have hx:=List.getElem?_eq_getElem (show i<ins.length by omega);obtain ⟨c0,c1,c2,c3,c4,c5,c6,he,_⟩:=h _ (List.mem_of_getElem? hx);unfold Wd;rw [hx,List.length_append,Pw h i (by omega),Option.getD_some,he];simp only [List.length_append,List.length_cons,List.length_nil];omega
theorem cut7 {ins:List (List SV)} (h:∀ x ∈ ins,Is7 x):∀ (i:Nat) (x:List SV),ins[i]?=some x->cutAt ins.flatten (0+i*7) 7=x:=by
 induction ins with
 | nil=>intro i x hx;simp at hx
 | cons y r ih =>
  intro i x hx;obtain ⟨c0,c1,c2,c3,c4,c5,c6,he,_⟩:=h y (List.mem_cons_self ..);subst he;cases i with
  | zero =>
   simp at hx;subst hx;rfl
  | succ i =>
   have:=ih (fun z hz=>h z (List.mem_cons_of_mem _ hz)) i x (by simpa using hx);rw [<- this];unfold cutAt;rw [show 0+(i+1)*7=(0+i*7)+7 by omega];rfl
section
set_option maxRecDepth 10000
variable {N cs k:Nat} {e0 e1 e2 e3 e4 e5 e6 e8 e9:SV} {ins:List (List SV)}
theorem Ri (hk:ins.length=k) (hkb:k<=1000) (h7:∀ x ∈ ins,Is7 x) :
  HF Tryz.prog 394 [.agg [e0,e1,e2,e3,e4,e5,e6,.sl cs 0 k 0,e8,e9]] N [(cs,.row 75 7 k ins.flatten)] fun u N' H'=>u=.ptr (N+1+3*k+1) 0/\N'=N+1+3*k+2/\H'=[(N+1+3*k+1,.cells [e0,e1,e2,e3,e4,e5,e6,.sl cs 0 k 0,e8,e9,.sl (N+1+3*k) 0 k 0]),(N+1+3*k,.row 475 8 k (Wd ins k)),(cs,.row 75 7 k ins.flatten)]:=by
 refine hf1 Tryz.func394 J Tryz.ntmps394 fun _ _ _ _=>?_;refine Zd (Zy 2 [] [(1,Zq N 0),(2,Zp)] [] (N+1) [(N,Zc [e0,e1,e2,e3,e4,e5,e6,Zk cs 0 k 0,e8,e9])] [] (Zx (Za 3 [0] [(8,Zn k)] [] (Wv (v:=.sl (N+1) 0 0 0) (sb:=.row 475 8 0 []) J (al_make (e2:=475) (sz:=8) (by_:=112) (z:=[Zi 0,Zi 0,Ze,Ze,Zz,Zi 0,Ze,Zf]) J J J (by kernel_rfl) (by omega) (by omega)) J ?_))));refine Za 1 [] [(3,Zk (N+1) 0 0 0)] [] (Z1 (Zd (Za 4 [1] [(11,Zk cs 0 k 0),(12,Zn k),(13,Zi 0)] [] (Zg (Zv (Uy (α:={ i:Nat // i<=k }) (st:=(fun s=>[(1,.ptr N 0),(3,.sl (N+1+3*s.1) 0 s.1 0),(11,.sl cs 0 k 0),(12,Zn k),(13,Zn s.1)])) (nn:=(fun s=>N+1+3*s.1+1)) (hh:=(fun s=>[(N+1+3*s.1,Zw 475 8 s.1 (Wd ins s.1)),(N,Zc [e0,e1,e2,e3,e4,e5,e6,.sl cs 0 k 0,e8,e9]),(cs,Zw 75 7 k ins.flatten)])) ⟨0,by omega⟩ ⟨J,J,J,J,J,trivial⟩ J J ?_))))));refine T5 (α:={ i:Nat // i<=k }) (fun s=>k - s.1) (fun s=>[(1,.ptr N 0),(3,.sl (N+1+3*s.1) 0 s.1 0),(11,.sl cs 0 k 0),(12,Zn k),(13,Zn s.1)]) (fun s=>N+1+3*s.1+1) (fun s=>[(N+1+3*s.1,Zw 475 8 s.1 (Wd ins s.1)),(N,Zc [e0,e1,e2,e3,e4,e5,e6,.sl cs 0 k 0,e8,e9]),(cs,Zw 75 7 k ins.flatten)]) ⟨0,by omega⟩ ?_;rintro (⟨i,hi⟩)
 ·skip
  refine Zd (Za 1 [] [(14,SV.v (.bool (ilt (.ofNat i) (.ofNat k))))] [] (Z1 (V9 J (fun c1=>?_) (fun c1=>?_))))
  ·skip
   have hj:i<k:=by have:=Xf.1 c1;simp at this;omega
   have hx:=List.getElem?_eq_getElem (show i<ins.length by omega);obtain ⟨c0,c1,c2,c3,c4,c5,c6,he,ho⟩:=h7 _ (List.mem_of_getElem? hx);rw [he] at hx ho;have hcut:=cut7 h7 i _ hx;have ho8:(cutAt [c0,c1,c2,c3,c4,c5,c6,SV.ifc 485 (SV.agg [])] 0 (1*8)).all sOne=true:=by rw [show cutAt [c0,c1,c2,c3,c4,c5,c6,SV.ifc 485 (SV.agg [])] 0 (1*8)=[c0,c1,c2,c3,c4,c5,c6]++[SV.ifc 485 (SV.agg [])] from rfl,List.all_append,ho];rfl
   have hacc:Wd ins (i+1)=Wd ins i++[c0,c1,c2,c3,c4,c5,c6,SV.ifc 485 (SV.agg [])]:=by show Wd ins i++((ins[i]?.getD [])++[As])=_;rw [hx];rfl
   refine Ya (Zr (Z2 (Zv (Zd (Zu (v:=.ptr cs (0+i*7)) J (Xe J J J (by kernel_rfl) (by omega)) J ?_)))));refine Yp (i:=2) (v:=.agg [c0,c1,c2,c3,c4,c5,c6]) J J J J (by have:=X5 (P:=Tryz.prog) (t:=75) (m:=7) (off:=0+i*7) (sb:=.row 75 7 k ins.flatten) (c:=ins.flatten) (by kernel_rfl) (by kernel_rfl) J (by rw [hcut];rfl);rw [hcut] at this;exact this) J ?_;refine Zy 1 [] [(5,Zq (N+1+3*i+1) 0)] [] ((N+1+3*i+1)+1) [((N+1+3*i+1),Zc [Zi 0,Zi 0,Ze,Ze,Zz,Zi 0,Ze])] [] ?_;refine Wl (i:=0) (m:=7) (c:=[c0,c1,c2,c3,c4,c5,c6]) [((N+1+3*i+1),.cells [c0,c1,c2,c3,c4,c5,c6]),((N+1+3*i),.row 475 8 i (Wd ins i)),(N,.cells [e0,e1,e2,e3,e4,e5,e6,Zk cs 0 k 0,e8,e9]),(cs,.row 75 7 k ins.flatten)] J J J J J J (by kernel_rfl) J J ho (Nat.le_of_ble_eq_true J) J ?_;refine Zg (Zo (Zy 6 [0] [(17,Zk (N+1+3*i) 0 i 0),(22,Zk ((N+1+3*i+1)+1) 0 1 0)] [] ((N+1+3*i+1)+2) [(((N+1+3*i+1)+1),Zw 475 8 1 [c0,c1,c2,c3,c4,c5,c6,SV.ifc 485 (SV.agg [])])] [] (Uw (i:=2) (i':=0) (e:=475) (sz:=8) (by_:=112) (js:=[1,3,4]) (cc:=(Wd ins i++[c0,c1,c2,c3,c4,c5,c6,SV.ifc 485 (SV.agg [])])) _ (by kernel_rfl) (by kernel_rfl) J J J J J J J (by decide) J (by omega) J ho8 (by omega) (by omega) J (Zes (m:=1) (Pw h7 i (by omega)) J) J ?_)));refine Za 1 [] [(3,Zk ((N+1+3*i+1)+2) 0 (i+1) 0)] [] (Z7 (Yb (Zr (Zo (Zu (v:=Zn (i+1)) J (Xr J J J (by omega)) J ?_)))));refine Za 1 [] [(13,Zn (i+1))] [] (Z7 ?_);exact Ti ⟨i+1,by omega⟩ [0,2,3] (by simp only [];omega) ⟨rfl,rfl,rfl,rfl,rfl,trivial⟩ rfl (by decide) (by show [(N+1+3*(i+1),Zw 475 8 (i+1) (Wd ins (i+1))),_,_]=_;rw [hacc];rfl)
  ·skip
   have hj:i=k:=by have:¬ ((i:Int)<k):=fun h=>(Bool.eq_false_iff.1 c1) (Xf.2 (by simpa using h));omega
   refine Yz (Z8 (Z8 (Yi (Yh (Zy 5 [1] [(2,Zq (N+1+3*i+1) 0)] [] ((N+1+3*i+1)+1) [((N+1+3*i+1),Zc [e0,e1,e2,e3,e4,e5,e6,Zk cs 0 k 0,e8,e9,Zk (N+1+3*i) 0 i 0])] [] (Zg (Yc (Z5 [0,1,3] (.inr J) Zj J (by decide) ?_))))))));subst hj;exact ⟨J,J,J⟩
end
end S
namespace S
open Go Go.RowKit E
section
set_option maxRecDepth 10000
variable {mc me c mr N un:Nat} {zp yp:Option Addr} {zq yq:Nat} {m0 m1 m2 m3 m4 m5 m6 m7 m8 m9 m10 m11 m12 m13 m14 m15 m16:SV} {k0 k1 k2 k3 k4 k5 k6 k7 k9 k10 e5 e6 e7 e8 e9 e10:SV} {nb sb:ByteArray}
theorem Tf:HF Tryz.prog 297 [Zz] N [] fun u N' H'=>u=Zz/\N'=N/\H'=[]:=by
 refine hf1 Tryz.func297 J Tryz.ntmps297 fun _ _ _ _=>?_;refine Zd (Za 1 [] [(2,Zz)] [] (Z1 (Zd (Za 2 [] [(4,Zb true)] [] (Zg (Yj J (Zd (Za 1 [] [(2,Zz)] [] (Zg (Yc (Xg (Z5 [] (.inr J) Zj J (by decide) ?_))))))))))));exact ⟨J,J,J⟩
theorem G4:HF Tryz.prog 324 [Zl zp zq,Zl yp yq] N [] fun u N' H'=>u=Zb true/\N'=N/\H'=[]:=by
 refine hf1 Tryz.func324 J Tryz.ntmps324 fun _ _ _ _=>?_;refine Zd (Za 1 [] [(4,Zb false)] [] (Z1 (Zd (Za 5 [] [(10,Zb false)] [] (Zg (Z6 J (Ya (Zr (Z2 (Zd (Za 3 [] [(12,Zi 0),(13,Zi 0)] [] (Zg (Zv (Yv (Yg ?_)))))))))))))));refine Zd (Za 1 [] [(14,Zb false)] [] (Z1 (Z6 J (Yz (Z8 (Z8 (Xb (z:=.exit _) J (Yi (Yh (Za 1 [] [(4,Zb true)] [] (Zg (Yc (Z5 [] (.inr J) Zj J (by decide) ?_)))))))))))));exact ⟨J,J,J⟩
def Z4:ByteArray:=⟨#[109,97,105,110]⟩
def Rn:ByteArray:=⟨#[115,116,97,114,116]⟩
abbrev sigV (s:ByteArray):SV:=.agg [Zs s,Zb false,Zz,Zi 0,Ze,Zi 0,Zi 0,Zz,Zz,Zz]
abbrev mainM (zp:Option Addr) (zq:Nat) (e5 e6 e7 e8 e9:SV):List SV:=[Zs Z4,Zb true,Zl zp zq,Zi 0,Ze,e5,e6,e7,e8,e9]
theorem Zaf (h5:sOne e5=true) (h6:sOne e6=true) (h7:sOne e7=true) (h8:sOne e8=true) (h9:sOne e9=true):HF Tryz.prog 248 [.agg (mainM zp zq e5 e6 e7 e8 e9),sigV Z4] N [] fun u N' H'=>u=Zb true/\N'=N+2/\H'=[]:=by
 refine hf1 Tryz.func248 J Tryz.ntmps248 fun _ _ _ _=>?_;refine Zd (Zy 3 [] [(2,Zq N 0),(3,Zq (N+1) 0),(4,Zb false)] [] (N+2) [((N+1),Zc [Zs Z4,Zb false,Zz,Zi 0,Ze,Zi 0,Zi 0,Zz,Zz,Zz]),(N,Zc [Zs Z4,Zb true,Zl zp zq,Zi 0,Ze,e5,e6,e7,e8,e9])] [] ?_);refine Zx (Za 17 [1,0,1,0,1,0] [(17,Zb true),(19,Zl zp zq),(21,Zz)] [] (Z0 [] [] Zj J J J J (G4) J (Za 2 [] [(4,Zb true)] [] (Zg (Yc (Z5 [] (.inr J) Zj J (by decide) ?_))))));exact ⟨J,J,J⟩
theorem Ci (h5:sOne e5=true) (h6:sOne e6=true) (h7:sOne e7=true) (h8:sOne e8=true) (h9:sOne e9=true):HF Tryz.prog 248 [.agg (mainM zp zq e5 e6 e7 e8 e9),sigV Rn] N [] fun u N' H'=>u=Zb false/\N'=N+2/\H'=[]:=by
 refine hf1 Tryz.func248 J Tryz.ntmps248 fun _ _ _ _=>?_;refine Zd (Zy 3 [] [(2,Zq N 0),(3,Zq (N+1) 0),(4,Zb false)] [] (N+2) [((N+1),Zc [Zs Rn,Zb false,Zz,Zi 0,Ze,Zi 0,Zi 0,Zz,Zz,Zz]),(N,Zc [Zs Z4,Zb true,Zl zp zq,Zi 0,Ze,e5,e6,e7,e8,e9])] [] ?_);refine Zx (Za 20 [1,0] [(4,Zb false)] [] (Zg (Yc (Z5 [] (.inr J) Zj J (by decide) ?_))));exact ⟨J,J,J⟩
theorem Zbj (h5:sOne e5=true) (h6:sOne e6=true) (h7:sOne e7=true) (h8:sOne e8=true) (h9:sOne e9=true):HF Tryz.prog 348 [.ptr c 0,sigV Z4] N [(c,.cells [k0,k1,k2,k3,k4,k5,k6,k7,.sl mr 0 1 0,k9,k10]),(mr,.row 329 1 1 [.ptr me 0]),(me,.cells [Zs Z4,Zb true,Zl zp zq,Zi 0,Ze,e5,e6,e7,e8,e9,e10])] fun u N' H'=>u=.ptr me 0/\N'=N+3/\H'=[(c,.cells [k0,k1,k2,k3,k4,k5,k6,k7,.sl mr 0 1 0,k9,k10]),(mr,.row 329 1 1 [.ptr me 0]),(me,.cells [Zs Z4,Zb true,Zl zp zq,Zi 0,Ze,e5,e6,e7,e8,e9,e10])]:=by
 refine hf1 Tryz.func348 J Tryz.ntmps348 fun _ _ _ _=>?_;refine Zd (Zy 2 [] [(3,Zq N 0),(4,Zp)] [] (N+1) [(N,Zc [Zs Z4,Zb false,Zz,Zi 0,Ze,Zi 0,Zi 0,Zz,Zz,Zz])] [] ?_);refine Z1 (Zd (Za 6 [1] [(10,Zk mr 0 1 0),(11,Zn 1),(12,Zi 0)] [] (Zg (Zv (Yv (Yg ?_))))));refine Zd (Za 1 [] [(13,Zb true)] [] (Z1 (Yj J (Ya (Zr (Z2 (Zv (Zd (Za 3 [2] [(6,Zq me 0)] [] (Z1 ?_))))))))))
 refine Y0 [.ptr me 0,.ptr me 0,.ptr me 0,.agg [Zs Z4,Zb true,Zl zp zq,Zi 0,Ze,e5,e6,e7,e8,e9],.agg [Zs Z4,Zb false,Zz,Zi 0,Ze,Zi 0,Zi 0,Zz,Zz,Zz],Zb true] [5] [(_,_)] [3,0] [(21,Zb true)] [] [] Yt
  ⟨fun _ _ _ _ _ _ _ kG=>Z0 [] [] Zj rfl rfl rfl rfl (Zaf h5 h6 h7 h8 h9) rfl kG,trivial⟩
  trivial rfl ?_
 refine Zr (Yj J (Zd (Za 2 [] [(4,Zq me 0)] [] (Zg (Yc (Wu (Xg (Xg (Xb (z:=.ret) J (Wu (Xg (Z5 [1,2,3] (.inr J) Zj J (by decide) ?_))))))))))));exact ⟨J,J,J⟩
theorem Gd (h5:sOne e5=true) (h6:sOne e6=true) (h7:sOne e7=true) (h8:sOne e8=true) (h9:sOne e9=true):HF Tryz.prog 315 [.ptr c 0,Zs Z4] N [(c,.cells [k0,k1,k2,k3,k4,k5,k6,k7,.sl mr 0 1 0,k9,k10]),(mr,.row 329 1 1 [.ptr me 0]),(me,.cells [Zs Z4,Zb true,Zl zp zq,Zi 0,Ze,e5,e6,e7,e8,e9,e10])] fun u N' H'=>u=.ptr me 0/\N'=N+3/\H'=[(c,.cells [k0,k1,k2,k3,k4,k5,k6,k7,.sl mr 0 1 0,k9,k10]),(mr,.row 329 1 1 [.ptr me 0]),(me,.cells [Zs Z4,Zb true,Zl zp zq,Zi 0,Ze,e5,e6,e7,e8,e9,e10])]:=by
 refine hf1 Tryz.func315 J Tryz.ntmps315 fun _ _ _ _=>?_;refine Zd (Za 1 [] [(4,Zp)] [] (Zx (Za 3 [] [(6,Zq c 0),(8,SV.agg [Zs Z4,Zb false,Zz,Zi 0,Ze,Zi 0,Zi 0,Zz,Zz,Zz])] [] ?_)));refine Z0 [0,1,2] [2,1,0] Zj J J J J (Zbj h5 h6 h7 h8 h9) J (Za 1 [] [(5,Zq me 0)] [] (Z1 (Zd (Za 10 [2] [(19,Zb false)] [] (Zg (Z6 J (Ya (Yh (Za 2 [] [(4,Zq me 0)] [] (Zg (Yc (Z5 [0,1,2] (.inr J) Zj J (by decide) ?_))))))))))));exact ⟨J,J,J⟩
theorem Cr (h5:sOne e5=true) (h6:sOne e6=true) (h7:sOne e7=true) (h8:sOne e8=true) (h9:sOne e9=true):HF Tryz.prog 348 [.ptr c 0,sigV Rn] N [(c,.cells [k0,k1,k2,k3,k4,k5,k6,k7,.sl mr 0 1 0,k9,k10]),(mr,.row 329 1 1 [.ptr me 0]),(me,.cells [Zs Z4,Zb true,Zl zp zq,Zi 0,Ze,e5,e6,e7,e8,e9,e10])] fun u N' H'=>u=Zp/\N'=N+3/\H'=[(c,.cells [k0,k1,k2,k3,k4,k5,k6,k7,.sl mr 0 1 0,k9,k10]),(mr,.row 329 1 1 [.ptr me 0]),(me,.cells [Zs Z4,Zb true,Zl zp zq,Zi 0,Ze,e5,e6,e7,e8,e9,e10])]:=by
 refine hf1 Tryz.func348 J Tryz.ntmps348 fun _ _ _ _=>?_;refine Zd (Zy 2 [] [(3,Zq N 0),(4,Zp)] [] (N+1) [(N,Zc [Zs Rn,Zb false,Zz,Zi 0,Ze,Zi 0,Zi 0,Zz,Zz,Zz])] [] ?_);refine Z1 (Zd (Za 6 [1] [(10,Zk mr 0 1 0),(11,Zn 1),(12,Zi 0)] [] (Zg (Zv (Yv (Yg ?_))))));refine Zd (Za 1 [] [(13,Zb true)] [] (Z1 (Yj J (Ya (Zr (Z2 (Zv (Zd (Za 3 [2] [(6,Zq me 0)] [] (Z1 ?_))))))))))
 refine Y0 [.ptr me 0,.ptr me 0,.ptr me 0,.agg [Zs Z4,Zb true,Zl zp zq,Zi 0,Ze,e5,e6,e7,e8,e9],.agg [Zs Rn,Zb false,Zz,Zi 0,Ze,Zi 0,Zi 0,Zz,Zz,Zz],Zb false] [5] [(_,_)] [3,0] [(21,Zb false)] [] [] Yt
  ⟨fun _ _ _ _ _ _ _ kG=>Z0 [] [] Zj rfl rfl rfl rfl (Ci h5 h6 h7 h8 h9) rfl kG,trivial⟩
  trivial rfl ?_
 refine Zr (Z6 J (Ya (Yb (Zr (Zo (Za 2 [] [(12,Zi 1)] [] (Zg (Yg (Zd (Za 1 [] [(13,Zb false)] [] (Z1 (Z6 J (Yz (Z8 (Z8 (Xb (z:=.exit _) J (Yi (Yh (Za 1 [] [(4,Zp)] [] (Zg (Yc (Z5 [1,2,3] (.inr J) Zj J (by decide) ?_))))))))))))))))))))));exact ⟨J,J,J⟩
theorem J0 (h5:sOne e5=true) (h6:sOne e6=true) (h7:sOne e7=true) (h8:sOne e8=true) (h9:sOne e9=true):HF Tryz.prog 315 [.ptr c 0,Zs Rn] N [(c,.cells [k0,k1,k2,k3,k4,k5,k6,k7,.sl mr 0 1 0,k9,k10]),(mr,.row 329 1 1 [.ptr me 0]),(me,.cells [Zs Z4,Zb true,Zl zp zq,Zi 0,Ze,e5,e6,e7,e8,e9,e10])] fun u N' H'=>u=Zp/\N'=N+3/\H'=[(c,.cells [k0,k1,k2,k3,k4,k5,k6,k7,.sl mr 0 1 0,k9,k10]),(mr,.row 329 1 1 [.ptr me 0]),(me,.cells [Zs Z4,Zb true,Zl zp zq,Zi 0,Ze,e5,e6,e7,e8,e9,e10])]:=by
 refine hf1 Tryz.func315 J Tryz.ntmps315 fun _ _ _ _=>?_;refine Zd (Za 1 [] [(4,Zp)] [] (Zx (Za 3 [] [(6,Zq c 0),(8,SV.agg [Zs Rn,Zb false,Zz,Zi 0,Ze,Zi 0,Zi 0,Zz,Zz,Zz])] [] ?_)));refine Z0 [0,1,2] [2,1,0] Zj J J J J (Cr h5 h6 h7 h8 h9) J (Za 1 [] [(5,Zp)] [] (Z1 (Zd (Za 10 [] [(19,Zb true)] [] (Zg (Yj J (Zd (Za 1 [] [(4,Zp)] [] (Zg (Yc (Xg (Z5 [0,1,2] (.inr J) Zj J (by decide) ?_))))))))))));exact ⟨J,J,J⟩
end
end S
namespace S
open Go Go.RowKit E
abbrev obB:SB:=clB (nmB 0) (Zp)
section
set_option maxRecDepth 100000
variable {c mr me ob N:Nat} {k0 k2 k3 k4 k5 k7 k8 k9 k10 f0 f1 f2 f3 f4 f5 f6 f7 f8 f9 f10:SV}
noncomputable def conR (k0 k2 k3 k4 k5 k7 k9 k10 f0 f1 f2 f3 f4 f5 f6 f7 f8 f9 f10:SV):Option Rs:=R1 2000 (.call 391 [.sl 1 0 1 0,.fn 392 [.ptr 0 0] []] (stOf [.cells [sh k0,.ptr 3 0,sh k2,sh k3,sh k4,sh k5,Zi 0,sh k7,.sl 1 0 1 0,sh k9,sh k10],.row 329 1 1 [.ptr 2 0],.cells [sh f0,sh f1,sh f2,sh f3,sh f4,sh f5,sh f6,sh f7,sh f8,sh f9,sh f10],obB]))
theorem con_no:HF Tryz.prog 391 [.sl mr 0 1 0,.fn 392 [.ptr c 0] []] N [(c,.cells [k0,.ptr ob 0,k2,k3,k4,k5,Zi 0,k7,.sl mr 0 1 0,k9,k10]),(mr,.row 329 1 1 [.ptr me 0]),(me,.cells [f0,f1,f2,f3,f4,f5,f6,f7,f8,f9,f10]),(ob,obB)] fun u N' H'=>u=Zb false/\N'=N+21/\H'=[(c,.cells [k0,.ptr ob 0,k2,k3,k4,k5,Zi 0,k7,.sl mr 0 1 0,k9,k10]),(mr,.row 329 1 1 [.ptr me 0]),(me,.cells [f0,f1,f2,f3,f4,f5,f6,f7,f8,f9,f10]),(ob,obB)]:=by
 have h:=Rj (bs:=[c,mr,me,ob]) (N:=N) (Rk 2000 _ _ (Q0 (show isV (conR k0 k2 k3 k4 k5 k7 k9 k10 f0 f1 f2 f3 f4 f5 f6 f7 f8 f9 f10)=true by kernel_rfl))) rfl (Nat.le_of_ble_eq_true rfl) (by kernel_rfl) (by kernel_rfl);have hv:ren (rho [c,mr,me,ob] N) (rsV (conR k0 k2 k3 k4 k5 k7 k9 k10 f0 f1 f2 f3 f4 f5 f6 f7 f8 f9 f10))=Zb false:=by kernel_rfl
 have hn:N+((rsS (conR k0 k2 k3 k4 k5 k7 k9 k10 f0 f1 f2 f3 f4 f5 f6 f7 f8 f9 f10)).n - [c,mr,me,ob].length)=N+21:=by kernel_rfl
 unfold conR at hv hn;rw [hv,hn] at h;have h':=HF.less (H2:=[(c,.cells [ren (rho [c,mr,me,ob] N) (sh k0),.ptr ob 0,ren (rho [c,mr,me,ob] N) (sh k2),ren (rho [c,mr,me,ob] N) (sh k3),ren (rho [c,mr,me,ob] N) (sh k4),ren (rho [c,mr,me,ob] N) (sh k5),Zi 0,ren (rho [c,mr,me,ob] N) (sh k7),.sl mr 0 1 0,ren (rho [c,mr,me,ob] N) (sh k9),ren (rho [c,mr,me,ob] N) (sh k10)]),(mr,.row 329 1 1 [.ptr me 0]),(me,.cells [ren (rho [c,mr,me,ob] N) (sh f0),ren (rho [c,mr,me,ob] N) (sh f1),ren (rho [c,mr,me,ob] N) (sh f2),ren (rho [c,mr,me,ob] N) (sh f3),ren (rho [c,mr,me,ob] N) (sh f4),ren (rho [c,mr,me,ob] N) (sh f5),ren (rho [c,mr,me,ob] N) (sh f6),ren (rho [c,mr,me,ob] N) (sh f7),ren (rho [c,mr,me,ob] N) (sh f8),ren (rho [c,mr,me,ob] N) (sh f9),ren (rho [c,mr,me,ob] N) (sh f10)]),(ob,obB)]) [0,1,2,3] h (by decide) (by kernel_rfl);have h2:HF Tryz.prog 391 [.sl mr 0 1 0,.fn 392 [.ptr c 0] []] N [(c,.cells [ren (rho [c,mr,me,ob] N) (sh k0),.ptr ob 0,ren (rho [c,mr,me,ob] N) (sh k2),ren (rho [c,mr,me,ob] N) (sh k3),ren (rho [c,mr,me,ob] N) (sh k4),ren (rho [c,mr,me,ob] N) (sh k5),Zi 0,ren (rho [c,mr,me,ob] N) (sh k7),.sl mr 0 1 0,ren (rho [c,mr,me,ob] N) (sh k9),ren (rho [c,mr,me,ob] N) (sh k10)]),(mr,.row 329 1 1 [.ptr me 0]),(me,.cells [ren (rho [c,mr,me,ob] N) (sh f0),ren (rho [c,mr,me,ob] N) (sh f1),ren (rho [c,mr,me,ob] N) (sh f2),ren (rho [c,mr,me,ob] N) (sh f3),ren (rho [c,mr,me,ob] N) (sh f4),ren (rho [c,mr,me,ob] N) (sh f5),ren (rho [c,mr,me,ob] N) (sh f6),ren (rho [c,mr,me,ob] N) (sh f7),ren (rho [c,mr,me,ob] N) (sh f8),ren (rho [c,mr,me,ob] N) (sh f9),ren (rho [c,mr,me,ob] N) (sh f10)]),(ob,obB)] _:=h';simp only [X7 (show [c,mr,me,ob].length<=lim by unfold lim;simp)] at h2;exact h2
noncomputable def nxtR (k0 k2 k3 k4 k5 k7 k8 k9 k10:SV):Option Rs:=R1 2000 (.call 349 [.ptr 0 0] (stOf [.cells [sh k0,.ptr 1 0,sh k2,sh k3,sh k4,sh k5,Zi 0,sh k7,sh k8,sh k9,sh k10],obB]))
theorem Cx:HF Tryz.prog 349 [.ptr c 0] N [(c,.cells [k0,.ptr ob 0,k2,k3,k4,k5,Zi 0,k7,k8,k9,k10]),(ob,obB)] fun u N' H'=>u=.ptr c 0/\N'=N+4/\H'=[(c,.cells [k0,.ptr ob 0,k2,k3,k4,k5,Zi 0,k7,k8,k9,k10]),(ob,obB)]:=by
 have h:=Rj (bs:=[c,ob]) (N:=N) (Rk 2000 _ _ (Q0 (show isV (nxtR k0 k2 k3 k4 k5 k7 k8 k9 k10)=true by kernel_rfl))) rfl (Nat.le_of_ble_eq_true rfl) (by kernel_rfl) (by kernel_rfl);have hv:ren (rho [c,ob] N) (rsV (nxtR k0 k2 k3 k4 k5 k7 k8 k9 k10))=.ptr c 0:=by kernel_rfl
 have hn:N+((rsS (nxtR k0 k2 k3 k4 k5 k7 k8 k9 k10)).n - [c,ob].length)=N+4:=by kernel_rfl
 unfold nxtR at hv hn;rw [hv,hn] at h;have h':=HF.less (H2:=[(c,.cells [ren (rho [c,ob] N) (sh k0),.ptr ob 0,ren (rho [c,ob] N) (sh k2),ren (rho [c,ob] N) (sh k3),ren (rho [c,ob] N) (sh k4),ren (rho [c,ob] N) (sh k5),Zi 0,ren (rho [c,ob] N) (sh k7),ren (rho [c,ob] N) (sh k8),ren (rho [c,ob] N) (sh k9),ren (rho [c,ob] N) (sh k10)]),(ob,obB)]) [0,1] h (by decide) (by kernel_rfl);have h2:HF Tryz.prog 349 [.ptr c 0] N [(c,.cells [ren (rho [c,ob] N) (sh k0),.ptr ob 0,ren (rho [c,ob] N) (sh k2),ren (rho [c,ob] N) (sh k3),ren (rho [c,ob] N) (sh k4),ren (rho [c,ob] N) (sh k5),Zi 0,ren (rho [c,ob] N) (sh k7),ren (rho [c,ob] N) (sh k8),ren (rho [c,ob] N) (sh k9),ren (rho [c,ob] N) (sh k10)]),(ob,obB)] _:=h';simp only [X7 (show [c,ob].length<=lim by unfold lim;simp)] at h2;exact h2
end
end S

namespace S
open Go Go.RowKit E
structure Dv where
 (fp zp hp gp:Option Addr)
 (fq zq hq gq:Nat)
 (i7:List (List SV))
end S
namespace S
open Go Go.RowKit E
theorem Xw {s t:ByteArray} {v:SV} (h:s≠t):∀ es:List (ByteArray × SV),findS s (putM t v es)=findS s es
 | []=>by show (bif eqS s t then _ else _)=_;rw [show eqS s t=false by simp [eqS,h]];rfl
 | (j,u)::r=>by
  simp only [putM];cases hb:eqS t j with
  | true =>
   have hj:t=j:=by simpa [eqS] using hb
   subst hj;show (bif eqS s t then _ else _)=(bif eqS s t then _ else _);rw [show eqS s t=false by simp [eqS,h]];rfl
  | false =>
   show (bif eqS s j then _ else findS s (putM t v r))=(bif eqS s j then _ else findS s r);rw [Xw h r]
theorem Mp {t:ByteArray} {v:SV}:∀ es:List (ByteArray × SV),findS t (putM t v es)=some v
 | []=>by show (bif eqS t t then _ else _)=_;rw [show eqS t t=true by simp [eqS]];rfl
 | (j,u)::r=>by
  simp only [putM];cases hb:eqS t j with
  | true=>show (bif eqS t t then _ else _)=_;rw [show eqS t t=true by simp [eqS]];rfl
  | false =>
   show (bif eqS t j then _ else findS t (putM t v r))=_;rw [hb];exact Mp r
section
set_option maxRecDepth 10000
variable {N mc en nm ob k:Nat} {nb sb bs:ByteArray} {dp:Int} {os:List (Nat × Int)} {g:FuncId} {m0 m1 m2 m3 m4 m5 m6 m7 m8 m10 m11 m12 m13 m14 m15 m16:SV} {es:List (ByteArray × SV)}
theorem Ut {v:SV} (hf:findS nb es=some v):HF Tryz.prog 295 [.ptr mc 0,Zs nb] N [(mc,.cells [m0,m1,m2,m3,m4,m5,m6,m7,m8,.mp nm,m10,m11,m12,m13,m14,m15,m16]),(nm,.map es)] fun u N' H'=>u=v/\N'=N/\H'=[(mc,.cells [m0,m1,m2,m3,m4,m5,m6,m7,m8,.mp nm,m10,m11,m12,m13,m14,m15,m16]),(nm,.map es)]:=by
 refine hf1 Tryz.func295 J Tryz.ntmps295 fun _ _ _ _=>?_;refine Zd (Za 1 [] [(4,Zf)] [] (Z1 (Zd (Za 5 [0] [(12,SV.mp nm),(13,Zs nb)] [] ?_))));refine Nd (i:=1) (e:=325) (z:=.nilIface) (v:=.tup [v,Zb true]) J J (by kernel_rfl) (by kernel_rfl) J J J (fun _ h=>by cases h<;>rfl) J (by rw [hf];rfl) rfl ?_;refine Za 5 [] [(5,v),(6,Zb true)] [] (Zx (Za 1 [] [(17,Zb true)] [] (Zg (Yj J (Zd (Za 2 [] [(4,v)] [] (Zg (Yc (Xg (Z5 [0,1] (.inr J) Zj J (by decide) ?_))))))))));exact ⟨J,J,J⟩
end
end S
namespace S
open Go Go.RowKit E
structure Kv where
 (cp:Option Addr) (cq:Nat) (a b:Int)
def kv0:Kv:=⟨none,0,0,0⟩
section
set_option maxRecDepth 10000
variable {N mc ob k c mr me cd dm dc ev:Nat} {nb sb:ByteArray} {fp zp hp gp:Option Addr} {fq zq hq gq:Nat} {dp:Int} {cod:List SV} {h:FuncId} {m0 m1 m2 m3 m4 m5 m6 m8 m9 m11 m12 m13 m14 m15 m16:SV}
theorem P2 {k0 k1 k2 k3 k4 k5 k7 k8 k9 k10:SV}:HF Tryz.prog 316 [.ptr mc 0,.ptr c 0] N [(c,.cells [k0,k1,k2,k3,k4,k5,Zi 1,k7,k8,k9,k10])] fun u N' H'=>u=.tup [Zp,Zb true]/\N'=N/\H'=[(c,.cells [k0,k1,k2,k3,k4,k5,Zi 1,k7,k8,k9,k10])]:=by
 refine hf1 Tryz.func316 J Tryz.ntmps316 fun _ _ _ _=>?_;refine Zd (Za 2 [] [(4,Zp),(5,Zb false)] [] (Z1 (Zd (Za 5 [0] [(11,Zb true)] [] (Zg (Yj J (Zd (Za 2 [] [(4,Zp),(5,Zb true)] [] (Zg (Yc (Xg (Z5 [0] (.inr J) Zj J (by decide) ?_))))))))))));exact ⟨J,J,J⟩
theorem Pe:HF Tryz.prog 317 [.ptr mc 0] N [(mc,.cells [m0,m1,m2,m3,m4,m5,m6,.fn h [] [],m8,m9,Zz,Zz,m12,m13,m14,m15,Zp])] fun u N' H'=>u=.tup [Zi 1,Ze]/\N'=N/\H'=[(mc,.cells [m0,m1,m2,m3,m4,m5,m6,.fn h [] [],m8,m9,Zz,Zz,m12,m13,m14,m15,Zp])]:=by
 refine hf1 Tryz.func317 J Tryz.ntmps317 fun _ _ _ _=>?_;refine Zd (Za 2 [] [(2,Zi 0),(3,Zs ((ByteArray.mk #[])))] [] (Z1 (Zv (Yv (Yg ?_)))));refine Z2 (Zd (Za 6 [0] [(9,Zb false)] [] (Zg (Z6 J (Yz (Z8 (Z8 (Xb (z:=.exit _) J (Yi (Zr (Z2 (Zd (Za 5 [0] [(21,Zb false)] [] (Zg (Z6 J (Ya (Yh (Za 2 [] [(2,Zi 1),(3,Zs ((ByteArray.mk #[])))] [] (Zg (Yc (Z5 [0] (.inr J) Zj J (by decide) ?_)))))))))))))))))))));exact ⟨J,J,J⟩
end
end S



namespace S
open Go Go.RowKit E
section
set_option maxRecDepth 100000
variable {N mc nm:Nat} {m0 m1 m2 m3 m4 m5 m6 m7 m8 m10 m11 m12 m13 m14 m15 m16:SV}
theorem Zem:HF Tryz.prog 129 [.ptr mc 0] N [(mc,.cells [m0,m1,m2,m3,m4,m5,m6,m7,m8,.mp nm,m10,m11,m12,m13,m14,m15,m16]),(nm,.map [])] fun u N' H'=>u=.tup []/\N'=N+34/\H'=[(mc,.cells [m0,m1,m2,m3,m4,m5,m6,m7,m8,.mp nm,m10,m11,m12,m13,m14,m15,m16]),(nm,.map (esB (N+1) 17)),(N+1,obB),(N+21,clB (nmB 10) (.ptr (N+5) 0))] :=
 HF.less [0,1,18,8] Zen (by decide) (by kernel_rfl)
theorem Zdl (M:Nat):findS (nmB 0) (esB M 17)=some (.ifc 323 (.agg [.ptr M 0])):=by kernel_rfl
theorem Uk {s:ByteArray} (h:Nat.ble s.size 4000000=true):HF Tryz.prog 131 [Zs s] N [] fun u N' H'=>u=Zs s/\N'=N/\H'=[] :=
 Rj (bs:=[]) (N:=N) (args:=[Zs s]) (I5 (σ:=stOf []) (σ':=stOf []) (v:=Zs s) (by show (bif Nat.ble s.size 4000000 then some (Zs s,stOf []) else none)=_;rw [h];rfl)) rfl (by decide) (by kernel_rfl) (by kernel_rfl)
end
end S

namespace S
open Go Go.RowKit E
section
set_option maxRecDepth 10000
variable {N en k fd:Nat} {nb bs:ByteArray} {dp:Int} {fe:List SV} {U:Ch} {inp:List Int} {ins:List (Nat × Int)} {bad:Bool} {vi:SV}
theorem Sn:HF Tryz.prog 59 [Zf] N [] fun u N' H'=>u=.tup [.agg [Zi 0,Zi 0],Zi 0]/\N'=N+1/\H'=[]:=by
 refine hf1 Tryz.func59 J Tryz.ntmps59 fun _ _ _ _=>?_;refine Zd (Zy 2 [] [(2,Zq N 0),(3,Zi 0)] [] (N+1) [(N,Zc [Zi 0,Zi 0])] [] (Z1 (Zd (Za 1 [] [(6,Zf)] [] (Zg (Zv (Zd (Za 1 [] [(7,Zb true)] [] (Zg (Yj J (Zd (Za 1 [] [] [] (Zx (Za 3 [0] [(3,Zi 0)] [] (Zg (Yc (Wu (Xg ?_))))))))))))))))));refine X6 (i:=0) (El:=[(2,.ptr 0 0),(3,sh (Zi 0))]) (m:=[.agg [Zi 0,Zi 0],Zi 0]) [] (.inr J) Zj J ⟨J,by rw [X7 (by unfold lim;simp)];rfl,trivial⟩ (by kernel_rfl) (by decide) ?_;exact ⟨J,J,J⟩
end
end S
namespace S
open Go Go.RowKit E
theorem HF.two {P:Program} {f:FuncId} {args:List SV} {N:Nat} {v:Nat->SV} {C:SB} {D:Nat->SB} (h:HF P f args N [] fun u _ H'=>∃ b d,u=v d/\H'=[(d,D b),(b,C)])
  (hv:∀ (B B':Nm) d d',B d=B' d'->den B (v d)=den B' (v d')) (hD:∀ (B B':Nm) b b' p o,B b=B' b'->Blk B p (D b) o->Blk B' p (D b') o) (hC:∀ (B B':Nm) p o,Blk B p C o->Blk B' p C o) :
  HF P f args N [] fun u N' H'=>u=v (N+1)/\N'=N+2/\H'=[(N+1,D N),(N,C)]:=by
 refine ⟨h.1,fun G hs hfr=>⟨h.1,fun w0 F B w vs hg hd=>((h.2 G hs hfr).2 w0 F B w vs hg hd).mono ?_⟩⟩;rintro e w' ⟨u,N',G',x,B',⟨H',⟨b,d,rfl,rfl⟩,hx⟩,rfl,hsi,hdx,hg'⟩;have hGd:=hx.hs.get (i:=0) rfl;have hGb:=hx.hs.get (i:=1) rfl;have hdN:N<=d:=(hx.mine (d,D b) (by simp)).elim (fun h=>by cases h) id;have hbN:N<=b:=(hx.mine (b,C) (by simp)).elim (fun h=>by cases h) id;have hdb:d≠b:=hx.hs.ne (i:=0) (j:=1) rfl rfl (by decide);obtain ⟨pd,hpd,hbd,hod⟩:=hg'.own d _ hGd;obtain ⟨pb,hpb,hbb,hob⟩:=hg'.own b _ hGb;have hold:∀ i sb,G i=some sb->i<N/\G' i=some sb:=fun i sb hi=>⟨hg.lt hi,hx.old i sb hi (by simp)⟩;have hB0:B N=none:=(hg.new N (Nat.le_refl _)).1;have hB1:upd B N pb (N+1)=none:=by simp only [upd,if_neg (show N+1≠N by omega)];exact (hg.new (N+1) (by omega)).1
 have hP:Pre B (upd (upd B N pb) (N+1) pd):=(Pre.upd hB0 _).trans (Pre.upd hB1 _);have e0:upd (upd B N pb) (N+1) pd N=some pb:=by simp only [upd,if_neg (show N≠N+1 by omega),if_pos]
 have e1:upd (upd B N pb) (N+1) pd (N+1)=some pd:=by simp only [upd,if_pos]
 have eo:∀ i,i<N->upd (upd B N pb) (N+1) pd i=B i:=fun i hi=>by simp only [upd,if_neg (show i≠N+1 by omega),if_neg (show i≠N by omega)]
 have g0:Vb (Vb G N C) (N+1) (D N) N=some C:=by rw [Xm _ _ (by omega),Uf]
 have g1:Vb (Vb G N C) (N+1) (D N) (N+1)=some (D N):=Uf ..;have go:∀ i,i≠N->i≠N+1->Vb (Vb G N C) (N+1) (D N) i=G i:=fun i h1 h2=>by rw [Xm _ _ h2,Xm _ _ h1]
 have to:∀ i sb p,Vb (Vb G N C) (N+1) (D N) i=some sb->upd (upd B N pb) (N+1) pd i=some p->∃ j sb',(i=N/\j=b\/i=N+1/\j=d\/i<N/\j=i)/\G' j=some sb'/\B' j=some p:=by
  intro i sb p hi hp;by_cases h0:i=N
  ·subst h0;rw [e0] at hp;cases hp;exact ⟨b,_,.inl ⟨J,J⟩,hGb,hpb⟩
  ·by_cases h1:i=N+1
   ·subst h1;rw [e1] at hp;cases hp;exact ⟨d,_,.inr (.inl ⟨J,J⟩),hGd,hpd⟩
   ·rw [go i h0 h1] at hi;obtain ⟨hl,hi'⟩:=hold i sb hi;rw [eo i hl] at hp;exact ⟨i,sb,.inr (.inr ⟨hl,J⟩),hi',hsi.pre i p hp⟩
 refine ⟨_,N+2,Vb (Vb G N C) (N+1) (D N),x,upd (upd B N pb) (N+1) pd,⟨_,⟨J,J,J⟩,⟨⟨fun p hp=>?_,by simp⟩,fun q sb hq _=>?_,fun p hp=>?_,hfr⟩⟩,J,⟨hP,by omega,eo⟩,?_,⟨hg'.low,fun i hi=>⟨?_,?_⟩,fun i sb hi=>?_,fun i j x y p q hi hj hp hq e=>?_⟩⟩
 ·simp only [List.mem_cons,List.not_mem_nil,or_false] at hp;rcases hp with rfl | rfl
  ·exact g1
  ·exact g0
 ·have:=(hold q sb hq).1;rw [go q (by omega) (by omega)];exact hq
 ·simp only [List.mem_cons,List.not_mem_nil,or_false] at hp;rcases hp with rfl | rfl
  ·right;simp only;omega
  ·right;simp only;omega
 ·rw [<- hdx];exact hv _ _ _ _ (by rw [e1,hpd])
 ·simp only [upd,if_neg (show i≠N+1 by omega),if_neg (show i≠N by omega)];exact (hg.new i (by omega)).1
 ·rw [go i (by omega) (by omega)];exact (hg.new i (by omega)).2
 ·by_cases h0:i=N
  ·subst h0;rw [g0] at hi;cases hi;exact ⟨pb,e0,hC _ _ _ _ hbb,hob⟩
  ·by_cases h1:i=N+1
   ·subst h1;rw [g1] at hi;cases hi;exact ⟨pd,e1,hD _ _ _ _ _ _ (by rw [hpb,e0]) hbd,hod⟩
   ·rw [go i h0 h1] at hi;obtain ⟨hl,hi'⟩:=hold i sb hi;obtain ⟨p0,hp0,hb0,_⟩:=hg.own i sb hi;obtain ⟨p,hp,hk,ho⟩:=hg'.own i sb hi';have:p0=p:=by have:=hsi.pre i p0 hp0;rw [hp] at this;exact (Option.some.inj this).symm
    subst this;exact ⟨p0,by rw [eo i hl];exact hp0,(hb0.back hsi.pre hk).mono hP,ho⟩
 ·obtain ⟨i',x',hi1,hi2,hi3⟩:=to i x p hi hp;obtain ⟨j',y',hj1,hj2,hj3⟩:=to j y q hj hq;have:=hg'.apart i' j' x' y' p q hi2 hj2 hi3 hj3 e;omega
theorem Ry {m n:Nat} (h:m<n):ilt (.ofNat m) (.ofNat n)=true:=Xf.2 (by simp only [Int.ofNat_eq_natCast];omega)
theorem Gs {m n:Nat} (h:¬ m<n):ilt (.ofNat m) (.ofNat n)=false:=Bool.eq_false_iff.2 fun hc=>h (by rw [Xf] at hc;simp only [Int.ofNat_eq_natCast] at hc;omega)
end S
namespace S
open Go Go.RowKit E
def Mi.cl:Mi->ByteArray
 | .newO=>spL 0
 | .new k=>nmL k
 | .get k=>nmL k
 | .is k=>nmL k
 | _=>⟨#[]⟩
def Mi.nm:Mi->ByteArray
 | .get _=>xS
 | _=>⟨#[]⟩
def Mi.ty:Mi->Int
 | .get _=>1
 | _=>0
def Mi.ok:Mi->Prop
 | .new k=>k<8
 | .get k=>k<8
 | .is k=>k<8
 | _=>True
abbrev mi7 (m:Mi) (a:Option Addr) (b:Nat):List SV:=[Zn m.op,Zi 0,Zs m.cl,Zs m.nm,Zl a b,Zi m.ty,Ze]
def c7M (l:List Mi):List SV:=(l.map fun m=>mi7 m none 0).flatten
theorem Dq (a b:List Mi):c7M (a++b)=c7M a++c7M b:=by unfold c7M;rw [List.map_append,List.flatten_append]
theorem Ky:∀ l:List Mi,(c7M l).length=l.length*7
 | []=>rfl
 | x::r=>by
  have:=Ky r;show (mi7 x none 0++c7M r).length=_;simp only [List.length_append,List.length_cons,List.length_nil,this];omega
theorem cat7M (a b:List Mi):(c7M a).take (a.length*7)++c7M b=c7M (a++b):=by rw [List.take_of_length_le (by rw [Ky];omega),Dq]
def Dol (k:Nat) (os:List Mi) (θ:Dv):Prop:=θ.i7.length=k/\(∀ x ∈ θ.i7,Is7 x)/\(∀ (p:Nat) (m:Mi),os[p]?=some m->∃ a b,θ.i7[p]?=some (mi7 m a b))/\θ=⟨none,none,none,none,0,0,0,0,os.map fun x=>mi7 x none 0⟩
abbrev Dl (k:Nat) (os:List Mi):={ θ:Dv // Dol k os θ }
def dl0 {k:Nat} {os:List Mi} (h:os.length=k):Dl k os:=⟨⟨none,none,none,none,0,0,0,0,os.map fun x=>mi7 x none 0⟩,by
 refine ⟨by rw [<- h];simp,fun x hx=>?_,fun p m hp=>⟨none,0,by rw [List.getElem?_map,hp];rfl⟩,rfl⟩;obtain ⟨y,_,rfl⟩:=List.mem_map.1 hx;exact ⟨_,_,_,_,_,_,_,J,J⟩⟩
theorem Df (B B':Nm):∀ l:List Mi,Ym B (c7M l)=Ym B' (c7M l)
 | []=>rfl
 | x::r=>by
  show Ym B (mi7 x none 0++c7M r)=Ym B' (mi7 x none 0++c7M r);simp only [List.cons_append,List.nil_append,Ym,den,Df B B' r]
end S
namespace S
open Go Go.RowKit E
section
variable {P:Program} {l:Option Nat} {n:Nat} {all:Array Oper} {w0:World} {F:List Nat} {B0:Nm} {N0 N:Nat} {G0:Nat->Option SB} {T:List Nat} {Q:Exit->Act->World->Prop} {L:List Oper} {E E':SE} {D:List SD} {H:Ch} {o:Oper}
theorem Zey {b off t tx:Nat} {sb:SB} {v:SV} (hw:wants E all o.guard=some true) (ho:o.op=.load t (.tmp tx)) (hx:slook E tx=some (.ptr b off)) (hm:(b,sb) ∈ H) (h:ldAt P (one (shB sb)) t (some (.ptr 0 off))=some (sh v)) (hp:putD n E o.dst v=some E')
  (k:HL P l n all w0 F B0 N0 T G0 Q L E' D N H):HL P l n all w0 F B0 N0 T G0 Q (o::L) E D N H:=by
 obtain ⟨i,hi⟩:=List.mem_iff_getElem?.1 hm;exact Yp hw ho hx hi h hp k
end
end S
end Go.Proofs.YtpofmnfkdkmieaaGreat
