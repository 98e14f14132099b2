/- What is proved here: Tree.code, Tree.deepest, over blocks of  -/
import Derived.Test.YtpofmnfkdkmieaaGreatQ31
import Derived.Test.YtpofmnfkdkmieaaGreatQ29
import Derived.Test.YtpofmnfkdkmieaaGreatQ23
import Derived.Test.YtpofmnfkdkmieaaGreatQ30
import Derived.Test.YtpofmnfkdkmieaaGreatQ11
set_option linter.unusedVariables false
set_option linter.unusedSimpArgs false
namespace Go.Proofs.YtpofmnfkdkmieaaGreat
namespace S
open Go Go.RowKit E At
def c7 (l:List (Nat × Int)):List SV:=(l.map fun x=>Kp x.1 x.2 none 0).flatten
theorem c7_app (a b:List (Nat × Int)):c7 (a++b)=c7 a++c7 b:=by unfold c7;rw [List.map_append,List.flatten_append]
theorem Gb:∀ l:List (Nat × Int),(c7 l).length=l.length*7
 | []=>rfl
 | x::r=>by
  have:=Gb r;show (Kp x.1 x.2 none 0++c7 r).length=_;rw [List.length_append,this];show 7+_=(r.length+1)*7;omega
theorem Zuc:∀ l:List (Nat × Int),(c7 l).all sOne=true
 | []=>rfl
 | x::r=>by
  have:=Zuc r;show (Kp x.1 x.2 none 0++c7 r).all sOne=true;rw [List.all_append,this];rfl
theorem Zlb {c:List SV} {m:Nat} (h:c.length=m):cutAt c 0 m=c:=by
 unfold cutAt;rw [List.drop_zero,List.take_of_length_le (by omega)]
theorem Ck (l:List (Nat × Int)):(cutAt (c7 l) 0 (l.length*7)).length=l.length*7:=by rw [Zlb (Gb l)];exact Gb l
theorem Cj (l:List (Nat × Int)):(cutAt (c7 l) 0 (l.length*7)).all sOne=true:=by rw [Zlb (Gb l)];exact Zuc l
theorem Fp (a b:List (Nat × Int)):(c7 a).take (a.length*7)++cutAt (c7 b) 0 (b.length*7)=c7 (a++b):=by rw [Zll (Gb a) (Gb b),c7_app]
theorem Ke:∀ x:Xp,0<(Z4 x).length
 | .num _=>Nat.one_pos
 | .inp=>Nat.one_pos
 | .loc _=>Nat.one_pos
 | .two _ _ _=>by simp only [Z4,List.length_append,List.length_cons,List.length_nil];omega
section
variable {P:Program} {f:FuncId} {args:List SV} {N:Nat} {Hc K U:Ch}
theorem HF.wide {S:SV->Nat->Nat->SB->Prop} (h:HF P f args N Hc fun u N' H'=>∃ c b,S u N' c b/\H'=[(c,b)]++Hc) (hp:U.Perm (Hc++K)):HF P f args N U fun u N' H'=>∃ c b,S u N' c b/\H'=[(c,b)]++U:=by
 refine (h.conv hp).permR ?_;rintro u N' H1 ⟨H0,⟨c,b,hS,rfl⟩,hq⟩;exact ⟨[(c,b)]++U,hq.symm.trans (hp.symm.cons _),c,b,hS,J⟩
theorem HF.wide0 {v:SV} {N1:Nat} (h:HF P f args N Hc fun u N' H'=>u=v/\N'=N1/\H'=Hc) (hp:U.Perm (Hc++K)):HF P f args N U fun u N' H'=>u=v/\N'=N1/\H'=U:=h.to hp hp.symm
end
section
set_option maxRecDepth 10000
variable {N p o pa pb j:Nat} {n:Int} {HA HB U:Ch} {xa xb:Xp}
def CoR (x:Xp) (HT:Ch):SV->Nat->Ch->Prop:=fun u _ H'=>∃ c b,(u=.sl c 0 (Z4 x).length 0/\b=.row 75 7 (Z4 x).length (c7 (Z4 x)))/\H'=[(c,b)]++HT
theorem Ztm:HF Tryz.prog 29 [.ptr p 0] N [(p,.cells [Zi 0,Zi n,Zp,Zp])] (CoR (.num n) [(p,.cells [Zi 0,Zi n,Zp,Zp])]):=by
 refine hf1 Tryz.func29 J Tryz.ntmps29 fun _ _ _ _=>?_;refine Zu (Zg 1 [] [(2,Zz)] [] (Yi (Zu (Zg 4 [0] [(7,Zi 0)] [] (Zv (Ye (Zu (Zg 2 [] [(8,Zb true)] [] (Zv (Xr J (Zu (Z9 7 [0] [(2,Zk N 0 1 0)] [] (N+1) [(N,Zw 75 7 1 [Zi 1,Zi n,Ze,Ze,Zz,Zi 0,Ze])] [] ?_))))))))))));refine Zv (Yv (We (Xm (Yo [0,1] (.inr J) Z6 J (by decide) ?_))));exact ⟨_,_,⟨J,J⟩,J⟩
theorem Zto:HF Tryz.prog 29 [.ptr p 0] N [(p,.cells [Zi 1,Zi 0,Zp,Zp])] (CoR .inp [(p,.cells [Zi 1,Zi 0,Zp,Zp])]):=by
 refine hf1 Tryz.func29 J Tryz.ntmps29 fun _ _ _ _=>?_;refine Zu (Zg 1 [] [(2,Zz)] [] (Yi (Zu (Zg 4 [0] [(7,Zi 1)] [] (Zv (Ye (Zu (Zg 2 [] [(8,Zb false)] [] (Zv (Yw J (Zu (Zg 2 [] [(16,Zb true)] [] (Zv (Xr J (Zu (Z9 3 [] [(2,Zk N 0 1 0)] [] (N+1) [(N,Zw 75 7 1 [Zi 28,Zi 0,Ze,Ze,Zz,Zi 0,Ze])] [] ?_))))))))))))))));refine Zv (Yv (We (Xm (Yo [0,1] (.inr J) Z6 J (by decide) ?_))));exact ⟨_,_,⟨J,J⟩,J⟩
theorem Ztn:HF Tryz.prog 29 [.ptr p 0] N [(p,.cells [Zi 2,Zn j,Zp,Zp])] (CoR (.loc j) [(p,.cells [Zi 2,Zn j,Zp,Zp])]):=by
 refine hf1 Tryz.func29 J Tryz.ntmps29 fun _ _ _ _=>?_;refine Zu (Zg 1 [] [(2,Zz)] [] (Yi (Zu (Zg 4 [0] [(7,Zi 2)] [] (Zv (Ye (Zu (Zg 2 [] [(8,Zb false)] [] (Zv (Yw J (Zu (Zg 2 [] [(16,Zb false)] [] (Zv (Yw J (Zu (Zg 2 [] [(20,Zb true)] [] (Zv (Xr J (Zu (Z9 7 [0] [(2,Zk N 0 1 0)] [] (N+1) [(N,Zw 75 7 1 [Zi 2,Zn j,Ze,Ze,Zz,Zi 0,Ze])] [] ?_))))))))))))))))))));refine Zv (Yv (We (Xm (Yo [0,1] (.inr J) Z6 J (by decide) ?_))));exact ⟨_,_,⟨J,J⟩,J⟩
theorem Ztl (ho:6<=o/\o<=9) (hl:(Z4 xa).length+(Z4 xb).length<=5000) (hA:∀ N,HF Tryz.prog 29 [.ptr pa 0] N U (CoR xa U)) (hB:∀ N,HF Tryz.prog 29 [.ptr pb 0] N U (CoR xb U)) :
  HF Tryz.prog 29 [.ptr p 0] N ([(p,.cells [Zn o,Zi 0,.ptr pa 0,.ptr pb 0])]++U) (CoR (.two o xa xb) ([(p,.cells [Zn o,Zi 0,.ptr pa 0,.ptr pb 0])]++U)):=by
 have h1:=Ke xb;refine hf1 Tryz.func29 J Tryz.ntmps29 fun _ _ _ _=>?_;refine Zu (Zg 1 [] [(2,Zz)] [] (Yi (Zu (Zg 4 [0] [(7,Zn o)] [] (Zv (Ye (Zu (Zg 2 [] [(8,SV.v (.bool (ieq (.ofNat o) 0)))] [] (Zv ?_)))))))));refine Tx J (Bool.eq_false_iff.2 fun h=>by have:=W4 (n:=0) h;omega) ?_;refine Zu (Zg 2 [] [(16,SV.v (.bool (ieq (.ofNat o) 1)))] [] (Zv ?_));refine Tx J (Bool.eq_false_iff.2 fun h=>by have:=W4 (n:=1) h;omega) ?_;refine Zu (Zg 2 [] [(20,SV.v (.bool (ieq (.ofNat o) 2)))] [] (Zv ?_));refine Tx J (Bool.eq_false_iff.2 fun h=>by have:=W4 (n:=2) h;omega) ?_;refine Yp (Y1 (Xj (Zg 4 [0] [(31,Zq pa 0)] [] (Sj 1 [] [0] Z6 J J J J (hA _) ?_))));rintro _ N1 _ ⟨ca,_,⟨rfl,rfl⟩,rfl⟩;refine ⟨_,([(ca,Zw 75 7 ((Z4 xa).length) (c7 (Z4 xa))),(p,Zc [Zn o,Zi 0,Zq pa 0,Zq pb 0])]++U),J,Wv (A:=[(ca,.row 75 7 ((Z4 xa).length) (c7 (Z4 xa)))]) (R:=[(p,.cells [Zn o,Zi 0,Zq pa 0,Zq pb 0])]) (T:=U),?_⟩;refine Zg 1 [] [(3,Zk ca 0 ((Z4 xa).length) 0)] [] (Yh (Zg 5 [1] [(33,Zk ca 0 ((Z4 xa).length) 0),(37,Zq pb 0)] [] (Sj 2 [] [0,1] Z6 J J J J (hB _) ?_)));rintro _ N2 _ ⟨cb,_,⟨rfl,rfl⟩,rfl⟩;refine ⟨_,([(cb,Zw 75 7 ((Z4 xb).length) (c7 (Z4 xb))),(ca,Zw 75 7 ((Z4 xa).length) (c7 (Z4 xa))),(p,Zc [Zn o,Zi 0,Zq pa 0,Zq pb 0])]++U),J,Wv (A:=[(cb,.row 75 7 ((Z4 xb).length) (c7 (Z4 xb)))]) (R:=[(ca,.row 75 7 ((Z4 xa).length) (c7 (Z4 xa))),(p,.cells [Zn o,Zi 0,Zq pa 0,Zq pb 0])]) (T:=U),?_⟩;refine Nl (i:=1) (i':=0) (e:=75) (sz:=7) (by_:=96) (js:=[2]) (cc:=(c7 (Z4 xa++Z4 xb))) 3 (by kernel_rfl) (by kernel_rfl) J J J J J J J (by decide) J J (by omega) (Ck _) (Cj _) (by omega) (by omega) J (Fp _ _) ?_;refine Zg 1 [] [(3,Zk N2 0 ((Z4 xa).length+(Z4 xb).length) 0)] [] (Yh (Z9 7 [1] [(40,Zk N2 0 ((Z4 xa).length+(Z4 xb).length) 0),(46,Zk (N2+1) 0 1 0)] [] (N2+2) [((N2+1),Zw 75 7 1 [Zn o,Zi 0,Ze,Ze,Zz,Zi 0,Ze])] [] ?_));refine Nl (i:=1) (i':=0) (e:=75) (sz:=7) (by_:=96) (js:=[2]) (cc:=(c7 (Z4 xa++Z4 xb++[(o,0)]))) 3 (by kernel_rfl) (by kernel_rfl) J J J J J J J (by decide) J J (by omega) J J (by omega) (by omega) J (by rw [<- List.length_append];exact Fp (Z4 xa++Z4 xb) [(o,0)]) ?_;refine Zg 1 [] [(2,Zk (N2+2) 0 (((Z4 xa).length+(Z4 xb).length)+1) 0)] [] (Zv (Yv (V3 2 [0,1] (.inr J) Z6 J ?_)));refine ⟨_,_,⟨?_,?_⟩,J⟩;all_goals simp only [Z4,List.length_append,List.length_cons,List.length_nil]
 all_goals rfl
theorem TreeIn.code:∀ {x:Xp} {p:Nat} {HT:Ch},TreeIn p HT x->(Z4 x).length<=5000->∀ N,HF Tryz.prog 29 [.ptr p 0] N HT (CoR x HT)
 | _,_,_,.num p n,_,N=>Ztm
 | _,_,_,.inp p,_,N=>Zto
 | _,_,_,.loc p j _,_,N=>Ztn
 | _,_,_,.two p o pa pb HA HB a b ho ha hb,hl,N=>by
  have hl':(Z4 a).length+(Z4 b).length+1<=5000:=by simpa [Z4,Nat.add_assoc] using hl
  exact Ztl ho (by omega) (fun M=>(ha.code (by omega) M).wide List.perm_append_comm) (fun M=>(hb.code (by omega) M).wide (List.Perm.refl _))
def DeR (x:Xp) (N:Nat) (HT:Ch):SV->Nat->Ch->Prop:=fun u N' H'=>u=Zn (X4 x)/\N'=N/\H'=HT
theorem H7 {i m:Nat} {e:Int} {v w:SV} (hi:i<=2) (x:Xp) (hx:X4 x=1):HF Tryz.prog 31 [.ptr p 0] N [(p,.cells [Zn i,Zi e,v,w])] (DeR x N [(p,.cells [Zn i,Zi e,v,w])]):=by
 refine hf1 Tryz.func31 J Tryz.ntmps31 fun _ _ _ _=>?_;refine Zu (Zg 1 [] [(2,Zi 0)] [] (Yi (Zu (Zg 5 [0] [(9,SV.v (.bool (!(ilt 2 (.ofNat i)))))] [] (Zv ?_)))));refine Ti J (by rw [Bool.not_eq_true',Bool.eq_false_iff];intro h;rw [Wb] at h;simp only [Int.ofNat_eq_natCast] at h;omega) ?_;refine Zu (Zg 1 [] [(2,Zi 1)] [] (Zv (Yv (Xm (Yo [0] (.inr J) Z6 J (by decide) ?_)))));exact ⟨by rw [hx];rfl,rfl,rfl⟩
theorem Zth (ho:6<=o/\o<=9) (hl:X4 xa+X4 xb<=5000) (hA:∀ N,HF Tryz.prog 31 [.ptr pa 0] N U (DeR xa N U)) (hB:∀ N,HF Tryz.prog 31 [.ptr pb 0] N U (DeR xb N U)) :
  HF Tryz.prog 31 [.ptr p 0] N ([(p,.cells [Zn o,Zi 0,.ptr pa 0,.ptr pb 0])]++U) (DeR (.two o xa xb) N ([(p,.cells [Zn o,Zi 0,.ptr pa 0,.ptr pb 0])]++U)):=by
 refine hf1 Tryz.func31 J Tryz.ntmps31 fun _ _ _ _=>?_;refine Zu (Zg 1 [] [(2,Zi 0)] [] (Yi (Zu (Zg 5 [0] [(9,SV.v (.bool (!(ilt 2 (.ofNat o)))))] [] (Zv ?_)))));refine Tx J (by rw [Bool.not_eq_false',Wb];simp only [Int.ofNat_eq_natCast];omega) ?_;refine Yp (Xj (Zg 4 [0] [(13,Zq pa 0)] [] (Sz 1 0 [] [0] Z6 J J J J (hA _) J (Zg 1 [] [(3,Zn (X4 xa))] [] (Yh (Zg 4 [0] [(18,Zq pb 0)] [] (Sz 1 0 [] [0] Z6 J J J J (hB _) J (Ya (v:=Zn (1+(X4 xb))) J (X7 J J J (by omega)) J ?_))))))));refine Zg 1 [] [(4,Zn (1+(X4 xb)))] [] (Yi (Zu (Zg 3 [] [(23,SV.v (.bool (ilt (.ofNat (1+(X4 xb))) (.ofNat (X4 xa)))))] [] (Zv (W6 J (fun c2=>?_) (fun c2=>?_))))))
 ·skip
  refine Zu (Zg 2 [] [(2,Zn (X4 xa))] [] (Zv (Yv (Xm (V3 1 [0] (.inr J) Z6 J ?_)))));rw [Wb] at c2;simp only [Int.ofNat_eq_natCast] at c2;refine ⟨?_,J,J⟩;show Zn (X4 xa)=_;rw [X4,Nat.max_eq_left (by omega)]
 ·skip
  refine Yp (Xj (Zg 2 [] [(2,Zn (1+(X4 xb)))] [] (Zv (Yv (V3 1 [0] (.inr J) Z6 J ?_)))));rw [Bool.eq_false_iff,ne_eq,Wb] at c2;simp only [Int.ofNat_eq_natCast] at c2;refine ⟨?_,J,J⟩;show Zn (1+X4 xb)=_;rw [X4,Nat.max_eq_right (by omega)]
theorem TreeIn.deepest:∀ {x:Xp} {p:Nat} {HT:Ch},TreeIn p HT x->X4 x<=5000->(Z4 x).length<=2000->∀ N,HF Tryz.prog 31 [.ptr p 0] N HT (DeR x N HT)
 | _,_,_,.num p n,_,_,N=>H7 (i:=0) (m:=0) (by omega) _ rfl
 | _,_,_,.inp p,_,_,N=>H7 (i:=1) (m:=0) (e:=0) (by omega) _ rfl
 | _,_,_,.loc p j _,_,_,N=>H7 (i:=2) (m:=0) (by omega) _ rfl
 | _,_,_,.two p o pa pb HA HB a b ho ha hb,hd,hl,N=>by
  have hl':(Z4 a).length+(Z4 b).length+1<=2000:=by simpa [Z4,Nat.add_assoc] using hl
  have hd':max (X4 a) (1+X4 b)<=5000:=hd;have e1:=deep_le a;have e2:=deep_le b;exact Zth ho (by omega) (fun M=>(ha.deepest (by omega) (by omega) M).wide0 List.perm_append_comm) (fun M=>(hb.deepest (by omega) (by omega) M).wide0 (List.Perm.refl _))
where deep_le:∀ x:Xp,X4 x<=(Z4 x).length
 | .num _=>Nat.le_refl _
 | .inp=>Nat.le_refl _
 | .loc _=>Nat.le_refl _
 | .two o a b=>by
  have h1:=deep_le a;have h2:=deep_le b;have h3:=Ke a;simp only [X4,Z4,List.length_append,List.length_cons,List.length_nil];omega
end
end S
namespace S
open Go Go.RowKit E At
theorem Zhp {P:Program} {E:SE} {o:Oper} {t b k i:Nat} {x y:Operand} {q:Nat × Nat} (ho:o.op=.indexAddr t x y) (hx:sev E x=some (.ptr b k)) (hy:natOf (sev E y)=some i) (hs:arrOf P t=some q) (hlt:i<q.1):noD P E bare o=some (.ptr b (k+i*q.2)):=by
 unfold noD act;rw [ho];have:Nat.blt i q.1=true:=by simpa using hlt
 simp only [hx,hy,exIdxA,hs,Option.bind_some,this,cond_true,same,Ar.of]
abbrev DkC (x0 x1 x2:Int) (vi:SV) (dn:Nat) (wr:Bool):SB:=.cells [Zi x0,Zi x1,Zi x2,vi,Zn dn,Zb wr]
section
set_option maxRecDepth 10000
variable {N k p o pa pb j dn:Nat} {n x0 x1 x2:Int} {vi:SV} {v:SV} {U V K:Ch} {xa xb:Xp} {a0 a1 a2 a3:SV}
theorem Zmg:HF Tryz.prog 30 [.ptr k 0,v] N [(k,DkC x0 x1 x2 vi dn true)] fun u N' H'=>u=Zi 0/\N'=N/\H'=[(k,DkC x0 x1 x2 vi dn true)]:=by
 refine hf1 Tryz.func30 J Tryz.ntmps30 fun _ _ _ _=>?_;refine Zu (Zg 1 [] [(4,Zi 0)] [] (Yi (Zu (Zg 4 [0] [(11,Zb true)] [] (Zv (Xr J (Zu (Zg 1 [] [(4,Zi 0)] [] (Zv (Yv (Xm (Yo [0] (.inr J) Z6 J (by decide) ?_))))))))))));exact ⟨J,J,J⟩
theorem Zme (hd:dn<=4000000):HF Tryz.prog 30 [.ptr k 0,.ptr p 0] N [(k,DkC x0 x1 x2 vi dn false),(p,.cells [Zi 0,Zi n,a2,a3])] fun u N' H'=>u=Zi n/\N'=N/\H'=[(k,DkC x0 x1 x2 vi (dn+1) false),(p,.cells [Zi 0,Zi n,a2,a3])]:=by
 refine hf1 Tryz.func30 J Tryz.ntmps30 fun _ _ _ _=>?_;refine Zu (Zg 1 [] [(4,Zi 0)] [] (Yi (Zu (Zg 4 [0] [(11,Zb false)] [] (Zv (Yw J (Yp (Xj (Zg 1 [] [(5,Zi 0)] [] (Yh (Zg 1 [] [(6,Zi 0)] [] (Yi (Zu (Zg 5 [1] [(16,Zb false)] [] (Zv (Yw J (Yp (Z2 (Yb (Zu (Zg 4 [0] [(32,Zb false)] [] (Zv (Yw J (Yp (Xj (Zg 4 [0] [(33,Zq k 0),(36,Zn dn)] [] (Ya (v:=Zn (dn+1)) J (X7 J J J (by omega)) J ?_)))))))))))))))))))))))))));refine Z9 3 [0] [] [] N [] [(0,Zc [Zi x0,Zi x1,Zi x2,vi,Zn (dn+1),Zb false])] (Yi (Zu (Zg 4 [1] [(43,Zi 0)] [] (Zv (Ye (Zu (Zg 2 [] [(44,Zb true)] [] (Zv (Xr J (Zu (Zg 5 [1] [(4,Zi n)] [] (Zv (Yv (We (Xm (Yo [0,1] (.inr J) Z6 J (by decide) ?_))))))))))))))));exact ⟨J,J,J⟩
theorem Zmf {y:Int} (hd:dn<=4000000) (hj:j<3) (hy:([Zi x0,Zi x1,Zi x2,vi,Zn (dn+1),Zb false]:List SV)[0+j*1]?=some (Zi y)):HF Tryz.prog 30 [.ptr k 0,.ptr p 0] N [(k,DkC x0 x1 x2 vi dn false),(p,.cells [Zi 2,Zn j,a2,a3])] fun u N' H'=>u=Zi y/\N'=N/\H'=[(k,DkC x0 x1 x2 vi (dn+1) false),(p,.cells [Zi 2,Zn j,a2,a3])]:=by
 refine hf1 Tryz.func30 J Tryz.ntmps30 fun _ _ _ _=>?_;refine Zu (Zg 1 [] [(4,Zi 0)] [] (Yi (Zu (Zg 4 [0] [(11,Zb false)] [] (Zv (Yw J (Yp (Xj (Zg 1 [] [(5,Zi 0)] [] (Yh (Zg 1 [] [(6,Zi 0)] [] (Yi (Zu (Zg 5 [1] [(16,Zb false)] [] (Zv (Yw J (Yp (Z2 (Yb (Zu (Zg 4 [0] [(32,Zb false)] [] (Zv (Yw J (Yp (Xj (Zg 4 [0] [(33,Zq k 0),(36,Zn dn)] [] (Ya (v:=Zn (dn+1)) J (X7 J J J (by omega)) J ?_)))))))))))))))))))))))))));refine Z9 3 [0] [] [] N [] [(0,Zc [Zi x0,Zi x1,Zi x2,vi,Zn (dn+1),Zb false])] (Yi (Zu (Zg 4 [1] [(43,Zi 2)] [] (Zv (Ye (Zu (Zg 2 [] [(44,Zb false)] [] (Zv (Yw J (Zu (Zg 2 [] [(50,Zb false)] [] (Zv (Yw J (Zu (Zg 2 [] [(73,Zb true)] [] (Zv (Xr J (Yb ?_))))))))))))))))))
 refine W3 [.ptr k 0,.ptr p 0,.ptr p 0,.ptr p 1,Zn j,.ptr k 0,.ptr k 0,.ptr k (0+j*1),Zi y,Zi y] [] [] [1] [(4,Zi y)] [] [7,8] Xy
  trivial
  ⟨X6 fun _ _=>Y4 rfl (Zhp (q:=(3,1)) rfl rfl rfl (by kernel_rfl) hj),(Ws (fun _ hGG=>Yg rfl rfl rfl (hGG.get (i:=0) rfl) (Zrp (by kernel_rfl) hy)) trivial),trivial⟩ rfl ?_
 refine Z2 (Yv (We (Xm (Yo [0,1] (.inr J) Z6 J (by decide) ?_))));exact ⟨J,J,J⟩
theorem Zgn {ip:Option Addr} {iq:Nat} (hd:dn<=4000000):HF Tryz.prog 30 [.ptr k 0,.ptr p 0] N [(k,DkC x0 x1 x2 (Zl ip iq) dn false),(p,.cells [Zi 1,a1,a2,a3])] fun u N' H'=>u=Zi 0/\N'=N/\H'=[(k,DkC x0 x1 x2 (Zl ip iq) (dn+1) false),(p,.cells [Zi 1,a1,a2,a3])]:=by
 refine hf1 Tryz.func30 J Tryz.ntmps30 fun _ _ _ _=>?_;refine Zu (Zg 1 [] [(4,Zi 0)] [] (Yi (Zu (Zg 4 [0] [(11,Zb false)] [] (Zv (Yw J (Yp (Xj (Zg 1 [] [(5,Zi 0)] [] (Yh (Zg 1 [] [(6,Zi 0)] [] (Yi (Zu (Zg 5 [1] [(16,Zb false)] [] (Zv (Yw J (Yp (Z2 (Yb (Zu (Zg 4 [0] [(32,Zb false)] [] (Zv (Yw J (Yp (Xj (Zg 4 [0] [(33,Zq k 0),(36,Zn dn)] [] (Ya (v:=Zn (dn+1)) J (X7 J J J (by omega)) J ?_)))))))))))))))))))))))))));refine Z9 3 [0] [] [] N [] [(0,Zc [Zi x0,Zi x1,Zi x2,Zl ip iq,Zn (dn+1),Zb false])] (Yi (Zu (Zg 4 [1] [(43,Zi 1)] [] (Zv (Ye (Zu (Zg 2 [] [(44,Zb false)] [] (Zv (Yw J (Zu (Zg 2 [] [(50,Zb true)] [] (Zv (Xr J (Yb (Zu (Zg 6 [0] [(57,Zb true)] [] (Zv (Xr J (Zu (Zg 1 [] [(4,Zi 0)] [] (Zv (Yv (Xm (We (Xm (Yo [0,1] (.inr J) Z6 J (by decide) ?_))))))))))))))))))))))))));exact ⟨J,J,J⟩
theorem Zgm {b io ij:Nat} (hd:dn<=4000000):HF Tryz.prog 30 [.ptr k 0,.ptr p 0] N [(k,DkC x0 x1 x2 (.sl b io 0 ij) dn false),(p,.cells [Zi 1,a1,a2,a3])] fun u N' H'=>u=Zi 0/\N'=N/\H'=[(k,DkC x0 x1 x2 (.sl b io 0 ij) (dn+1) false),(p,.cells [Zi 1,a1,a2,a3])]:=by
 refine hf1 Tryz.func30 J Tryz.ntmps30 fun _ _ _ _=>?_;refine Zu (Zg 1 [] [(4,Zi 0)] [] (Yi (Zu (Zg 4 [0] [(11,Zb false)] [] (Zv (Yw J (Yp (Xj (Zg 1 [] [(5,Zi 0)] [] (Yh (Zg 1 [] [(6,Zi 0)] [] (Yi (Zu (Zg 5 [1] [(16,Zb false)] [] (Zv (Yw J (Yp (Z2 (Yb (Zu (Zg 4 [0] [(32,Zb false)] [] (Zv (Yw J (Yp (Xj (Zg 4 [0] [(33,Zq k 0),(36,Zn dn)] [] (Ya (v:=Zn (dn+1)) J (X7 J J J (by omega)) J ?_)))))))))))))))))))))))))));refine Z9 3 [0] [] [] N [] [(0,Zc [Zi x0,Zi x1,Zi x2,Zk b io 0 ij,Zn (dn+1),Zb false])] (Yi (Zu (Zg 4 [1] [(43,Zi 1)] [] (Zv (Ye (Zu (Zg 2 [] [(44,Zb false)] [] (Zv (Yw J (Zu (Zg 2 [] [(50,Zb true)] [] (Zv (Xr J (Yb (Zu (Zg 6 [0] [(57,Zb true)] [] (Zv (Xr J (Zu (Zg 1 [] [(4,Zi 0)] [] (Zv (Yv (Xm (We (Xm (Yo [0,1] (.inr J) Z6 J (by decide) ?_))))))))))))))))))))))))));exact ⟨J,J,J⟩
theorem Zgl {b io ij st m:Nat} {sf:Nat × Nat} {ins:List SV} {y:Int} (hd:dn<=4000000) (hy:ins[io+0*1]?=some (Zi y)) (hl:ij+(m+2)<=ins.length):HF Tryz.prog 30 [.ptr k 0,.ptr p 0] N [(k,DkC x0 x1 x2 (.sl b io (m+2) ij) dn false),(p,.cells [Zi 1,a1,a2,a3]),(b,.seen ins st sf)] fun u N' H'=>u=Zi y/\N'=N/\H'=[(k,DkC x0 x1 x2 (.sl b (io+1) (m+1) (ij+1)) (dn+1) false),(p,.cells [Zi 1,a1,a2,a3]),(b,.seen ins st sf)]:=by
 refine hf1 Tryz.func30 J Tryz.ntmps30 fun _ _ _ _=>?_;refine Zu (Zg 1 [] [(4,Zi 0)] [] (Yi (Zu (Zg 4 [0] [(11,Zb false)] [] (Zv (Yw J (Yp (Xj (Zg 1 [] [(5,Zi 0)] [] (Yh (Zg 1 [] [(6,Zi 0)] [] (Yi (Zu (Zg 5 [1] [(16,Zb false)] [] (Zv (Yw J (Yp (Z2 (Yb (Zu (Zg 4 [0] [(32,Zb false)] [] (Zv (Yw J (Yp (Xj (Zg 4 [0] [(33,Zq k 0),(36,Zn dn)] [] (Ya (v:=Zn (dn+1)) J (X7 J J J (by omega)) J ?_)))))))))))))))))))))))))));refine Z9 3 [0] [] [] N [] [(0,Zc [Zi x0,Zi x1,Zi x2,Zk b io (m+2) ij,Zn (dn+1),Zb false])] (Yi (Zu (Zg 4 [1] [(43,Zi 1)] [] (Zv (Ye (Zu (Zg 2 [] [(44,Zb false)] [] (Zv (Yw J (Zu (Zg 2 [] [(50,Zb true)] [] (Zv (Xr J (Yb (Zu (Zg 6 [0] [(57,SV.v (.bool (ieq (.ofNat (m+2)) 0)))] [] (Zv ?_)))))))))))))))));refine Tx J (Bool.eq_false_iff.2 fun h=>by have:=W4 (n:=0) h;omega) ?_;refine Yp (Xj (Zg 4 [0] [(61,Zk b io (m+2) ij)] [] (Ya (v:=.ptr b (io+0*1)) J (W0 J J J (by kernel_rfl) (by omega)) J ?_)));refine Vx (i:=2) (v:=Zi y) J J J J (F6 (by kernel_rfl) hy) J ?_;refine Zg 1 [] [(7,Zi y)] [] (Yh (Zg 5 [0] [(64,Zq k 0),(68,Zk b io (m+2) ij)] [] (HL_froS (i:=2) (e:=3) (sz:=1) (m:=1) J J (by kernel_rfl) (by kernel_rfl) J J J (by omega) (by omega) J ?_)));refine Z9 3 [0] [] [] N [] [(0,Zc [Zi x0,Zi x1,Zi x2,Zk b (io+1*1) ((m+2) - 1) (ij+1),Zn (dn+1),Zb false])] (Yh (Zg 2 [] [(4,Zi y)] [] (Zv (Yv (We (Xm (Yo [0,1,2] (.inr J) Z6 J (by decide) ?_)))))));exact ⟨J,J,J⟩
theorem Zgk {b io ij st:Nat} {sf:Nat × Nat} {ins:List SV} {y:Int} (hd:dn<=4000000) (hy:ins[io+0*1]?=some (Zi y)):HF Tryz.prog 30 [.ptr k 0,.ptr p 0] N [(k,DkC x0 x1 x2 (.sl b io 1 ij) dn false),(p,.cells [Zi 1,a1,a2,a3]),(b,.seen ins st sf)] fun u N' H'=>∃ s:Option Addr × Nat,u=Zi y/\N'=N/\H'=[(k,DkC x0 x1 x2 (Zl s.1 s.2) (dn+1) false),(p,.cells [Zi 1,a1,a2,a3]),(b,.seen ins st sf)]:=by
 refine hf1 Tryz.func30 J Tryz.ntmps30 fun _ _ _ _=>?_;refine Zu (Zg 1 [] [(4,Zi 0)] [] (Yi (Zu (Zg 4 [0] [(11,Zb false)] [] (Zv (Yw J (Yp (Xj (Zg 1 [] [(5,Zi 0)] [] (Yh (Zg 1 [] [(6,Zi 0)] [] (Yi (Zu (Zg 5 [1] [(16,Zb false)] [] (Zv (Yw J (Yp (Z2 (Yb (Zu (Zg 4 [0] [(32,Zb false)] [] (Zv (Yw J (Yp (Xj (Zg 4 [0] [(33,Zq k 0),(36,Zn dn)] [] (Ya (v:=Zn (dn+1)) J (X7 J J J (by omega)) J ?_)))))))))))))))))))))))))));refine Z9 3 [0] [] [] N [] [(0,Zc [Zi x0,Zi x1,Zi x2,Zk b io 1 ij,Zn (dn+1),Zb false])] (Yi (Zu (Zg 4 [1] [(43,Zi 1)] [] (Zv (Ye (Zu (Zg 2 [] [(44,Zb false)] [] (Zv (Yw J (Zu (Zg 2 [] [(50,Zb true)] [] (Zv (Xr J (Yb (Zu (Zg 6 [0] [(57,Zb false)] [] (Zv (Yw J (Yp (Xj (Zg 4 [0] [(61,Zk b io 1 ij)] [] (Ya (v:=.ptr b (io+0*1)) J (W0 J J J (by kernel_rfl) (by omega)) J ?_))))))))))))))))))))));refine Vx (i:=2) (v:=Zi y) J J J J (F6 (by kernel_rfl) hy) J ?_;refine Zg 1 [] [(7,Zi y)] [] (Yh (Zg 5 [0] [(64,Zq k 0),(68,Zk b io 1 ij)] [] (HL_fro0 (e:=3) (sz:=1) J J (by kernel_rfl) (by kernel_rfl) J J (fun _=>J) ?_)));intro s;refine Z9 3 [0] [] [] N [] [(0,Zc [Zi x0,Zi x1,Zi x2,Zl s.1 s.2,Zn (dn+1),Zb false])] (Yh (Zg 2 [] [(4,Zi y)] [] (Zv (Yv (We (Xm (Yo [0,1,2] (.inr J) Z6 J (by decide) ?_)))))));exact ⟨s,J,J,J⟩
def WoS (y:Int) (d:Dk) (k:Nat) (x0 x1 x2:Int) (V U:Ch):SV->Nat->Ch->Prop:=fun u _ H'=>∃ vi',u=Zi y/\H'=[(k,DkC x0 x1 x2 vi' d.done d.wrong)]++V/\Wi vi' U d.inp
theorem WoS.wide {f:FuncId} {args:List SV} {y:Int} {d:Dk} {c:Nat × SB} {U':Ch} (h:HF Tryz.prog f args N ([c]++V) (WoS y d k x0 x1 x2 V U)) (hp:U'.Perm (V++K)):HF Tryz.prog f args N ([c]++U') (WoS y d k x0 x1 x2 U' U):=by
 refine (h.conv (K:=K) (hp.cons c)).permR ?_;rintro u N' H1 ⟨H0,⟨vi',rfl,rfl,hw⟩,hq⟩;exact ⟨_,hq.symm.trans (hp.symm.cons _),vi',J,J,hw⟩
theorem Wi.one {vi:SV} {U:Ch} {l:List Int} (h:Wi vi U l):sOne vi=true:=by
 obtain ⟨_,_,h,_⟩:=h;cases h<;>rfl
theorem Tc:∀ (x:Xp) (d:Dk),(Yc x d).2.done<=d.done+(Z4 x).length
 | .num _,d=>by unfold Yc;split<;>simp [Z4]
 | .inp,d=>by unfold Yc;split<;>simp [Z4]
 | .loc _,d=>by unfold Yc;split<;>simp [Z4]
 | .two o a b,d=>by
  have h1:=Tc a d;have h2:=Tc b (Yc a d).2
  have h3:(Ms o (Yc a d).1 (Yc b (Yc a d).2).1 (Yc b (Yc a d).2).2).2.done=(Yc b (Yc a d).2).2.done+1:=by
   unfold Ms;split
   ·rfl
   split
   ·rfl
   split
   ·rfl
   split<;>rfl
  simp only [Z4,List.length_append,List.length_cons,List.length_nil];have e:Yc (.two o a b) d=if d.wrong then (0,d) else if (Yc b (Yc a d).2).2.wrong then (0,(Yc b (Yc a d).2).2) else Ms o (Yc a d).1 (Yc b (Yc a d).2).1 (Yc b (Yc a d).2).2:=by rw [Yc]
  rw [e];split
  ·show d.done<=_;omega
  ·split
   ·show (Yc b (Yc a d).2).2.done<=_;omega
   ·rw [h3];omega
theorem Zmd {d d1 d2:Dk} {y z:Int} {T:Ch} (ho:6<=o/\o<=9) (hd:d2.done<=4000000) (hdw:d.wrong=false) (hA:∀ N,HF Tryz.prog 30 [.ptr k 0,.ptr pa 0] N ([(k,DkC x0 x1 x2 vi d.done d.wrong)]++T) (WoS y d1 k x0 x1 x2 T U)) (hB:∀ N vi1,Wi vi1 U d1.inp->HF Tryz.prog 30 [.ptr k 0,.ptr pb 0] N ([(k,DkC x0 x1 x2 vi1 d1.done d1.wrong)]++T) (WoS z d2 k x0 x1 x2 T U)) :
  HF Tryz.prog 30 [.ptr k 0,.ptr p 0] N ([(k,DkC x0 x1 x2 vi d.done d.wrong),(p,.cells [Zn o,Zi 0,.ptr pa 0,.ptr pb 0])]++T) (WoS (if d2.wrong then (0,d2) else Ms o y z d2).1 (if d2.wrong then (0,d2) else Ms o y z d2).2 k x0 x1 x2 ([(p,.cells [Zn o,Zi 0,.ptr pa 0,.ptr pb 0])]++T) U):=by
 obtain ⟨lo,inp,dn,wr⟩:=d;cases hdw;obtain ⟨lo2,inp2,dn2,wr2⟩:=d2;simp only at hd;refine hf1 Tryz.func30 J Tryz.ntmps30 fun _ _ _ _=>?_;refine Zu (Zg 1 [] [(4,Zi 0)] [] (Yi (Zu (Zg 4 [0] [(11,Zb false)] [] (Zv (Yw J (Yp (Xj (Zg 1 [] [(5,Zi 0)] [] (Yh (Zg 1 [] [(6,Zi 0)] [] (Yi (Zu (Zg 5 [1] [(16,SV.v (.bool (ilt 2 (.ofNat o))))] [] (Zv ?_)))))))))))))));refine Ti J (Wb.2 (by simp only [Int.ofNat_eq_natCast];omega)) ?_;refine Zu (Zg 5 [1] [(17,Zq k 0),(21,Zq pa 0)] [] (Sj 2 [0] [1] Z6 J J J J (hA _) ?_));rintro _ N1 _ ⟨vi1,rfl,rfl,hw1⟩;refine ⟨_,([(k,Zc [Zi x0,Zi x1,Zi x2,vi1,Zn d1.done,SV.v (.bool d1.wrong)]),(p,Zc [Zn o,Zi 0,Zq pa 0,Zq pb 0])]++T),J,Wv (A:=[(k,.cells [Zi x0,Zi x1,Zi x2,vi1,Zn d1.done,SV.v (.bool d1.wrong)])]) (R:=[(p,.cells [Zn o,Zi 0,Zq pa 0,Zq pb 0])]) (T:=T),?_⟩;refine Zg 1 [] [(5,Zi y)] [] (Zv (Z0 (Zg 5 [1] [(23,Zq k 0),(27,Zq pb 0)] [] (Sj 2 [0] [1] Z6 J J J J (hB _ _ hw1) ?_))));rintro _ N2 _ ⟨vi2,rfl,rfl,hw2⟩;refine ⟨_,([(k,Zc [Zi x0,Zi x1,Zi x2,vi2,Zn dn2,Zb wr2]),(p,Zc [Zn o,Zi 0,Zq pa 0,Zq pb 0])]++T),J,Wv (A:=[(k,.cells [Zi x0,Zi x1,Zi x2,vi2,Zn dn2,Zb wr2])]) (R:=[(p,.cells [Zn o,Zi 0,Zq pa 0,Zq pb 0])]) (T:=T),?_⟩;refine Zg 1 [] [(6,Zi z)] [] (Yi (Zu (Zg 4 [0] [(32,Zb wr2)] [] (Zv (W6 J (fun c3=>?_) (fun c3=>?_))))))
 ·skip
  refine Zu (Zg 1 [] [(4,Zi 0)] [] (Zv (Yv (Xm (V3 2 [0,1] (.inr J) Z6 J ?_)))));cases c3;exact ⟨_,J,J,hw2⟩
 ·skip
  refine Yp (Xj (Zg 4 [0] [(33,Zq k 0),(36,Zn dn2)] [] (Ya (v:=Zn (dn2+1)) J (X7 J J J (by omega)) J ?_)));refine Z9 3 [0] [] [] N2 [] [(0,Zc [Zi x0,Zi x1,Zi x2,vi2,Zn (dn2+1),Zb wr2])] (Yi (Zu (Zg 4 [1] [(43,Zn o)] [] (Zv (Ye (Zu (Zg 2 [] [(44,SV.v (.bool (ieq (.ofNat o) 0)))] [] (Zv ?_))))))));refine Tx J (Bool.eq_false_iff.2 fun h=>by have:=W4 (n:=0) h;omega) ?_;refine Zu (Zg 2 [] [(50,SV.v (.bool (ieq (.ofNat o) 1)))] [] (Zv ?_));refine Tx J (Bool.eq_false_iff.2 fun h=>by have:=W4 (n:=1) h;omega) ?_;refine Zu (Zg 2 [] [(73,SV.v (.bool (ieq (.ofNat o) 2)))] [] (Zv ?_));refine Tx J (Bool.eq_false_iff.2 fun h=>by have:=W4 (n:=2) h;omega) ?_;refine Zu (Zg 2 [] [(84,SV.v (.bool (ieq (.ofNat o) 6)))] [] (Zv (W6 J (fun c7=>?_) (fun c7=>?_))))
  ·skip
   refine Zu (Zg 4 [] [(4,Zi (Jd .i64 y z))] [] (Zv (Yv (We (Xm (V3 2 [0,1] (.inr J) Z6 J ?_))))));cases c3;have e:=W4 (n:=6) c7;subst e;exact ⟨_,J,J,hw2⟩
  ·skip
   refine Zu (Zg 2 [] [(89,SV.v (.bool (ieq (.ofNat o) 7)))] [] (Zv (W6 J (fun c8=>?_) (fun c8=>?_))))
   ·skip
    refine Zu (Zg 4 [] [(4,Zi (Jc .i64 y z))] [] (Zv (Yv (We (Xm (V3 2 [0,1] (.inr J) Z6 J ?_))))));cases c3;have e:=W4 (n:=7) c8;subst e;exact ⟨_,J,J,hw2⟩
   ·skip
    refine Zu (Zg 2 [] [(94,SV.v (.bool (ieq (.ofNat o) 8)))] [] (Zv (W6 J (fun c9=>?_) (fun c9=>?_))))
    ·skip
     refine Zu (Zg 4 [] [(4,Zi (IntKind.i64.wrap (y*z)))] [] (Zv (Yv (We (Xm (V3 2 [0,1] (.inr J) Z6 J ?_))))));cases c3;have e:=W4 (n:=8) c9;subst e;exact ⟨_,J,J,hw2⟩
    ·skip
     refine Yp (Y1 (Z2 (Yb (Zu (Zg 2 [] [(100,SV.v (.bool (ieq z 0)))] [] (Zv (W6 J (fun c10=>?_) (fun c10=>?_))))))))
     ·skip
      refine Zu (Z9 4 [0] [] [] N2 [] [(0,Zc [Zi x0,Zi x1,Zi x2,vi2,Zn (dn2+1),Zb true])] (Yh (Zg 1 [] [(4,Zi 0)] [] (Zv (Yv (Xm (V3 2 [0,1] (.inr J) Z6 J ?_)))))));cases c3;have e:o=9:=by have h1:=Vi (n:=6) c7;have h2:=Vi (n:=7) c8;have h3:=Vi (n:=8) c9;omega
      subst e;have e2:z=0:=Zsi c10;subst e2;exact ⟨_,J,J,hw2⟩
     ·skip
      refine Yp (Xj (Zg 2 [] [(104,Zi y),(105,Zi z)] [] (Ya (v:=Zi (IntKind.i64.wrap (y.tdiv z))) J (Zrd J J J (Zkm c10)) J (Zg 1 [] [(4,Zi (IntKind.i64.wrap (y.tdiv z)))] [] (Zv (Yv (V3 2 [0,1] (.inr J) Z6 J ?_)))))));cases c3;have e:o=9:=by have h1:=Vi (n:=6) c7;have h2:=Vi (n:=7) c8;have h3:=Vi (n:=8) c9;omega
      subst e;have e2:z≠0:=Zkm c10;rw [show (if (false=true) then ((0:Int),(⟨lo2,inp2,dn2,false⟩:Dk)) else Ms 9 y z ⟨lo2,inp2,dn2,false⟩)=(IntKind.i64.wrap (y.tdiv z),⟨lo2,inp2,dn2+1,false⟩) by rw [if_neg (by decide)];unfold Ms;rw [if_neg (by decide),if_neg (by decide),if_neg (by decide),if_neg e2]];exact ⟨_,J,J,hw2⟩
theorem No:∀ {x:Xp} {p:Nat} {HT:Ch},TreeIn p HT x->∀ (N:Nat) (d:Dk) (vi:SV),d.lo=[x0,x1,x2]->d.done+(Z4 x).length<=4000000->Wi vi U d.inp->HF Tryz.prog 30 [.ptr k 0,.ptr p 0] N ([(k,DkC x0 x1 x2 vi d.done d.wrong)]++(HT++U)) (WoS (Yc x d).1 (Yc x d).2 k x0 x1 x2 (HT++U) U)
 | x,p,HT,ht,N,⟨lo,inp,dn,true⟩,vi,hlo,hdn,hw=>by
  rw [Gp x _ rfl];exact (Zmg.fr (HT++U)).mono fun u N' H' ⟨h1,h2,h3⟩=>⟨vi,h1,h3,hw⟩
 | _,_,_,.num p n,N,⟨lo,inp,dn,false⟩,vi,hlo,hdn,hw =>
  ((Zme (show dn<=4000000 by simp only at hdn;omega)).fr U).mono fun u N' H' ⟨h1,h2,h3⟩=>⟨vi,h1,h3,hw⟩
 | _,_,_,.loc p j hj,N,⟨lo,inp,dn,false⟩,vi,hlo,hdn,hw=>by
  simp only at hlo hdn;subst hlo;refine ((Zmf (y:=(([x0,x1,x2]:List Int)[j]?.getD 0)) (show dn<=4000000 by omega) hj ?_).fr U).mono fun u N' H' ⟨h1,h2,h3⟩=>⟨vi,h1,h3,hw⟩
  match j,hj with
  | 0,_=>rfl
  | 1,_=>rfl
  | 2,_=>rfl
 | _,_,_,.inp p,N,⟨lo,inp,dn,false⟩,vi,hlo,hdn,hw=>by
  simp only at hdn hw;have hw0:=hw;obtain ⟨Ui,Ur,hi,hp⟩:=hw;cases hi with
  | nil ip iq=>exact ((Zgn (show dn<=4000000 by omega)).fr U).mono fun u N' H' ⟨h1,h2,h3⟩=>⟨_,h1,h3,hw0⟩
  | row b io ij st sf ins l h hb hj =>
   match inp,h,hb,hj,hw0 with
   | [],h,hb,hj,hw0=>exact ((Zgm (show dn<=4000000 by omega)).fr U).mono fun u N' H' ⟨h1,h2,h3⟩=>⟨_,h1,h3,hw0⟩
   | [y],h,hb,hj,hw0 =>
    have hy:=h 0 y rfl;refine ((Zgk (N:=N) (k:=k) (p:=p) (x0:=x0) (x1:=x1) (x2:=x2) (b:=b) (ij:=ij) (st:=st) (sf:=sf) (by omega) hy).conv (H:=[(k,DkC x0 x1 x2 (.sl b io [y].length ij) dn false),(p,.cells [Zi 1,Zi 0,Zp,Zp])]++U) (K:=Ur) ((hp.cons _).cons _)).permR ?_;rintro u N' H1 ⟨H0,⟨s,rfl,rfl,rfl⟩,hq⟩;exact ⟨_,hq.symm.trans ((hp.symm.cons _).cons _),_,J,J,⟨[],U,.nil _ _,List.Perm.refl _⟩⟩
   | y::z::r,h,hb,hj,hw0 =>
    have hy:=h 0 y rfl;simp only [List.length_cons] at hb hj;refine ((Zgl (N:=N) (k:=k) (p:=p) (m:=r.length) (x0:=x0) (x1:=x1) (x2:=x2) (b:=b) (st:=st) (sf:=sf) (by omega) hy hj).conv (H:=[(k,DkC x0 x1 x2 (.sl b io (y::z::r).length ij) dn false),(p,.cells [Zi 1,Zi 0,Zp,Zp])]++U) (K:=Ur) ((hp.cons _).cons _)).permR ?_;rintro u N' H1 ⟨H0,⟨rfl,rfl,rfl⟩,hq⟩;refine ⟨_,hq.symm.trans ((hp.symm.cons _).cons _),_,J,J,⟨_,Ur,.row b (io+1) (ij+1) st sf ins (z::r) (fun i x hx=>?_) (by simp only [List.length_cons];omega) (by simp only [List.length_cons];omega),hp⟩⟩;have:=h (i+1) x hx;rw [show io+1+i*1=io+(i+1)*1 by omega];exact this
 | _,_,_,.two p o pa pb HA HB a b ho ha hb,N,⟨lo,inp,dn,false⟩,vi,hlo,hdn,hw=>by
  simp only [Z4,List.length_append,List.length_cons,List.length_nil] at hdn;have e1:=Tc a ⟨lo,inp,dn,false⟩;have e2:=Tc b (Yc a ⟨lo,inp,dn,false⟩).2
  have:=Zmd (N:=N) (k:=k) (p:=p) (pa:=pa) (pb:=pb) (x0:=x0) (x1:=x1) (x2:=x2) (vi:=vi) (U:=U) (T:=HB++HA++U) (d:=⟨lo,inp,dn,false⟩) (d1:=(Yc a ⟨lo,inp,dn,false⟩).2) (d2:=(Yc b (Yc a ⟨lo,inp,dn,false⟩).2).2) ho (by simp only at e1;omega) rfl
   (fun M=>WoS.wide (K:=HB) (No ha M ⟨lo,inp,dn,false⟩ vi hlo (by simp only;omega) hw) ?_) (fun M v1 h1=>WoS.wide (K:=HA) (No hb M _ v1 (by rw [Sn];exact hlo) (by simp only at e1;omega) h1) ?_)
  ·have e3:Yc (.two o a b) ⟨lo,inp,dn,false⟩=if (Yc b (Yc a ⟨lo,inp,dn,false⟩).2).2.wrong then (0,(Yc b (Yc a ⟨lo,inp,dn,false⟩).2).2) else Ms o (Yc a ⟨lo,inp,dn,false⟩).1 (Yc b (Yc a ⟨lo,inp,dn,false⟩).2).1 (Yc b (Yc a ⟨lo,inp,dn,false⟩).2).2:=by
    rw [Yc,if_neg (show ¬ (false=true) by decide)]
   rw [e3];exact this
  ·rw [List.append_assoc];exact List.perm_append_comm
  ·rw [List.append_assoc,List.append_assoc];exact List.perm_append_comm.append_left _
end
end S
namespace S
open Go Go.RowKit E At
theorem Stat.back {code:List (Nat × Int)} {deep:Nat} (h:Stat code deep):(∀ q,q<=(code++[((22:Nat),(0:Int))]).length->Yq (code++[(22,0)]) q<=deep)/\∃ q,q<=(code++[((22:Nat),(0:Int))]).length/\Yq (code++[(22,0)]) q=deep:=by
 have hlen:(code++[((22:Nat),(0:Int))]).length=code.length+1:=by simp only [List.length_append,List.length_cons,List.length_nil]
 have hl:(code++[((22:Nat),(0:Int))])[code.length]?=some (22,0):=by rw [List.getElem?_append_right (Nat.le_refl _),Nat.sub_self];rfl
 refine ⟨fun q hq=>?_,?_⟩
 ·by_cases h1:q<=code.length
  ·rw [Pe h1];exact h.le q h1
  ·have:q=code.length+1:=by omega
   subst this;rw [U0 hl,Pe (Nat.le_refl _),h.zero];exact Nat.zero_le _
 ·obtain ⟨q,hq,e⟩:=h.at_;exact ⟨q,by omega,by rw [Pe hq];exact e⟩
def T6:Nat->List Int->List (Nat × Int)->Dk->List Int->Nat->List (Nat × Int) × Dk × List Int × Nat
 | 0,_,code,d,want,deep=>(code,d,want,deep)
 | n+1,raw,code,d,want,deep =>
  if (Yc (X5 3 raw).1 d).2.wrong then (code++Z4 (X5 3 raw).1,(Yc (X5 3 raw).1 d).2,want,max deep (X4 (X5 3 raw).1))
  else if (n+1) % 2=0 then T6 n (X5 3 raw).2 (code++Z4 (X5 3 raw).1++[(27,0)]) { (Yc (X5 3 raw).1 d).2 with done:=(Yc (X5 3 raw).1 d).2.done+1 } (want++[(Yc (X5 3 raw).1 d).1]) (max deep (X4 (X5 3 raw).1))
  else T6 n (Xf 3 (X5 3 raw).2).2 (code++Z4 (X5 3 raw).1++[(3,.ofNat (Xf 3 (X5 3 raw).2).1)]) { (Yc (X5 3 raw).1 d).2 with done:=(Yc (X5 3 raw).1 d).2.done+1,lo:=(Yc (X5 3 raw).1 d).2.lo.set (Xf 3 (X5 3 raw).2).1 (Yc (X5 3 raw).1 d).1 } want (max deep (X4 (X5 3 raw).1))
def Q4 (r:List (Nat × Int) × Dk × List Int × Nat):List (Nat × Int):=(if r.2.1.wrong then r.1++[(4,0)] else r.1)++[(22,0)]
def endD (r:List (Nat × Int) × Dk × List Int × Nat):Nat:=if r.2.1.wrong then r.2.1.done else r.2.1.done+1
structure FinC (nb:ByteArray) (inp:List Int) (r:List (Nat × Int) × Dk × List Int × Nat):Prop where
 plain:Plain (Q4 r)
 zer:∀ x ∈ Q4 r,Zer x
 ints:∀ x ∈ Q4 r,Yu (.ofNat x.1)/\Yu x.2
 len:(Q4 r).length<=200
 deep:r.2.2.2<=4
 le:∀ q,q<=(Q4 r).length->Yq (Q4 r) q<=r.2.2.2
 at_:∃ q,q<=(Q4 r).length/\Yq (Q4 r) q=r.2.2.2
 fst:(Q4 r)[0]?=some (1,0)
 gos:∃ st,1+st<5000/\Gos (Q4 r) inp (endD r) (es0 nb++Vh r.2.2.1) r.2.1.wrong st 1 [0] nil3 0 (es0 nb) 1
theorem int4 (a:Nat) (h:Nat.ble a 100=true):Yu (.ofNat a):=by have:=Nat.le_of_ble_eq_true h;unfold Yu;simp only [Int.ofNat_eq_natCast];omega
theorem J5 {a b:List (Nat × Int)} {x:Nat × Int} (ha:∀ x ∈ a,Yu (.ofNat x.1)/\Yu x.2) (hb:∀ x ∈ b,Yu (.ofNat x.1)/\Yu x.2) (hx:Yu (.ofNat x.1)/\Yu x.2):∀ y ∈ a++b++[x],Yu (.ofNat y.1)/\Yu y.2:=fun y hy=>by
 simp only [List.mem_append,List.mem_singleton] at hy;rcases hy with (hy | hy) | rfl
 ·exact ha y hy
 ·exact hb y hy
 ·exact hx
theorem Zjd {a b:List (Nat × Int)} {x:Nat × Int} (ha:∀ x ∈ a,Zer x) (hb:∀ x ∈ b,Zer x) (hx:Zer x):∀ y ∈ a++b++[x],Zer y:=fun y hy=>by
 simp only [List.mem_append,List.mem_singleton] at hy;rcases hy with (hy | hy) | rfl
 ·exact ha y hy
 ·exact hb y hy
 ·exact hx
theorem Zsv {nb:ByteArray} {inp:List Int} {r:List (Nat × Int) × Dk × List Int × Nat} {code:List (Nat × Int)} (he:Q4 r=code++[(22,0)]) (hs:Stat code r.2.2.2) (hz:∀ x ∈ code,Zer x) (hi:∀ x ∈ code,Yu (.ofNat x.1)/\Yu x.2) (hl:code.length<=199) (hd:r.2.2.2<=4)
  (hg:∃ st,1+st<5000/\Gos (Q4 r) inp (endD r) (es0 nb++Vh r.2.2.1) r.2.1.wrong st 1 [0] nil3 0 (es0 nb) 1):FinC nb inp r:=by
 refine ⟨by rw [he];exact hs.plain,?_,?_,by rw [he];simp only [List.length_append,List.length_cons,List.length_nil];omega,hd,by rw [he];exact hs.back.1,by rw [he];exact hs.back.2,?_,hg⟩
 ·rw [he];have:=Zjd (b:=[]) (x:=(22,0)) hz (fun _ h=>by cases h) (.inr (.inr (.inr rfl)));rw [List.append_nil] at this;exact this
 ·rw [he];have:=J5 (b:=[]) (x:=(22,0)) hi (fun _ h=>by cases h) ⟨int4 22 rfl,int4 0 rfl⟩;rw [List.append_nil] at this;exact this
 ·rw [he];have h0:=hs.six 0 (1,0) rfl;rw [Nat.zero_add] at h0;rw [List.getElem?_append_left (List.getElem?_eq_some_iff.1 h0).1];exact h0
theorem Zbj (nb:ByteArray) (inp:List Int):∀ (n:Nat) (raw:List Int) (code:List (Nat × Int)) (d:Dk) (want:List Int) (deep:Nat),Ways inp code d want deep->(∀ x ∈ code,Yu (.ofNat x.1)/\Yu x.2)->code.length+16*n<=150->deep<=4->FinC nb inp (T6 n raw code d want deep)
 | 0,raw,code,d,want,deep,hw,hi,hl,hd=>by
  obtain ⟨hs,hz,i,hdy⟩:=Zjf nb hw;have hf:=hdy.wrong;refine Zsv (code:=code) (by simp [T6,Q4,hf]) hs hz hi (by omega) hd ⟨1+(code.length - 1),by omega,?_⟩;have:=hdy.halt;simp only [T6,Q4,endD,hf];exact this
 | n+1,raw,code,d,want,deep,hw,hi,hl,hd=>by
  obtain ⟨hs,hz,i,hdy⟩:=Zjf nb hw;have hT:=Qk 3 raw;have hlen:(Z4 (X5 3 raw).1).length<=15:=by have:=hT.len;omega
  have hdp:max deep (X4 (X5 3 raw).1)<=4:=by have:=hT.deep;omega
  have hlo:=Sn (X5 3 raw).1 d;unfold T6;split
  ·rename_i hb
   obtain ⟨st,hst,hg⟩:=hdy.bad hT.ok hb ([(4,0)]++[(22,0)]);refine Zsv (code:=code++Z4 (X5 3 raw).1++[(4,0)]) (by simp [Q4,hb]) (hs.tree hT.ok (fun p=>.pop (Nat.le_refl _)) J (by decide)) (Zjd hz (Ng _) (.inr (.inr (.inr J)))) (J5 hi hT.ints ⟨int4 4 J,int4 0 J⟩) (by simp only [List.length_append,List.length_cons,List.length_nil];omega) hdp ⟨st,by omega,?_⟩;simp only [Q4,endD,hb,if_pos];rw [List.append_assoc (code++Z4 (X5 3 raw).1)];exact hg
  ·rename_i hb
   have hb':(Yc (X5 3 raw).1 d).2.wrong=false:=by simpa using hb
   split
   ·refine Zbj nb inp n _ _ _ _ _ ?_ (J5 hi hT.ints ⟨int4 27 J,int4 0 J⟩) (by simp only [List.length_append,List.length_cons,List.length_nil];omega) hdp;have:=hw.print hT.ok hb';rw [<- hlo] at this;exact this
   ·have hj:=U4 (n:=3) (by omega) (X5 3 raw).2;refine Zbj nb inp n _ _ _ _ _ ?_ (J5 hi hT.ints ⟨int4 3 J,int4 _ (Nat.ble_eq_true_of_le (by omega))⟩) (by simp only [List.length_append,List.length_cons,List.length_nil];omega) hdp;have:=hw.store hT.ok hb' hj;rw [<- hlo] at this;exact this
end S
namespace S
open Go Go.RowKit E At
theorem Pt {α:Type} {k:Nat} {El:World->List Value->α->Prop} {w:World} (p:Option Addr) (q:Nat):ListAt k El w (.slice p 0 q) [] :=
 ⟨p,q,rfl,⟨by simp,by simp⟩,fun i x hi=>by simp at hi⟩
theorem i7_cs:∀ (ins:List (Nat × Int)) (i7:List (List SV)),i7.length=ins.length->(∀ (p op:Nat) (n:Int),ins[p]?=some (op,n)->∃ a b,i7[p]?=some (Kp op n a b)) ->
  ∃ cs:List (Ins × Value),cs.map (·.1)=ins.map Ww/\i7=cs.map svI/\∀ p ∈ cs,∃ a b,p.2=.slice a 0 b
 | [],[],_,_=>⟨[],rfl,rfl,fun p hp=>by cases hp⟩
 | [],_::_,h,_=>by cases h
 | _::_,[],h,_=>by cases h
 | (op,n)::r,x::s,h,hx=>by
  obtain ⟨a,b,h0⟩:=hx 0 op n rfl;cases h0;obtain ⟨cs,h1,h2,h3⟩:=i7_cs r s (by simpa using h) (fun p op n hp=>hx (p+1) op n (by simpa using hp));refine ⟨(Ww (op,n),.slice a 0 b)::cs,by rw [List.map_cons,List.map_cons,h1],by rw [List.map_cons,<- h2];rfl,fun p hp=>?_⟩;rcases List.mem_cons.1 hp with rfl | hp
  ·exact ⟨a,b,J⟩
  ·exact h3 p hp
theorem Hk (n:Nat) (h:Nat.ble n 1000=true):Yu n:=by have:=Nat.le_of_ble_eq_true h;unfold Yu;omega
theorem Nu {s:ByteArray} (h:Nat.ble s.size 1048576=true):Uq s:=Nat.le_of_ble_eq_true h
theorem Zqs:Jo ⟨0,⟨#[]⟩⟩:=⟨Hk 0 rfl,Nu rfl⟩
theorem ok_main {dp:Int} (h:Yu dp) (code:List Ins):meOk (Wk dp code):=⟨Nu rfl,Zqs,Hk 3 rfl,h⟩
theorem Zts {nb:ByteArray} {k:Nat} {ins:List (Nat × Int)} {dp:Int} (hk:ins.length=k) (hkb:k<=1000) (hnb:Uq nb) (hdp:Yu dp) (hin:∀ x ∈ ins,Yu (.ofNat x.1)/\Yu x.2) (θ:Dg k ins) {dm dc N:Nat} {w0 w:World} {F:List Nat} {B:Nm} {G:Nat->Option SB} {vs:List Value} (hsG:Hs (Zm dm dc dp θ) G) (hg:Gx w0 F B N G w) (hd:Xh B [.agg [Zs nb,Zs (nmB 0),Zl θ.1.fp θ.1.fq,.sl dm 0 1 0]]=some vs) :
  ∃ fv mv,vs=[.agg (clV ⟨nb,nmB 0,[],[Wk dp (ins.map Ww)]⟩ fv mv).toArray]/\ClAt w ⟨nb,nmB 0,[],[Wk dp (ins.map Ww)]⟩ fv mv:=by
 obtain ⟨⟨fp,zp,hp,gp,fq,zq,hq,gq,i7⟩,hl7,h7,hc7⟩:=θ;simp only at hl7 hc7 hsG hd;obtain ⟨cs,hcs,rfl,hem⟩:=i7_cs ins i7 (by rw [hl7,hk]) hc7;obtain ⟨pm,hBm,⟨vm,cm,hm0,hm1,hm2,hm3,hm4,hm5,hm6⟩, -⟩:=hg.own dm _ (hsG.get (i:=0) rfl);obtain ⟨pc,hBc,⟨vc,cc,hc0,hc1,hc2,hc3,hc4,hc5,hc6⟩, -⟩:=hg.own dc _ (hsG.get (i:=1) rfl);rw [List.length_map] at hl7;subst hl7;simp only [Xh,den,hBc,Option.map_some,Option.some.injEq] at hm0;rw [Zfj,Cg] at hc0;cases hc0
 have hvs:vs=[.agg (clV ⟨nb,nmB 0,[],[Wk dp (ins.map Ww)]⟩ (.slice fp 0 fq) (.slice (some ⟨pm.1,0,none⟩) 1 pm.2)).toArray]:=by
  simp only [Xh,den,hBm,Option.map_some,Option.some.injEq] at hd;exact hd.symm
 subst hvs
 have hi:Gi w (.slice (some ⟨pc.1,0,none⟩) cs.length pc.2) (ins.map Ww):=by
  rw [<- hcs];refine ListAt.of_own (e:=75) (El:=Zaa) (·.1) Fk cs ⟨hc1,.inr ⟨pc.1,pc.2,cc,J,Nat.zero_le _,hc2,hc3,hc4,hc5,hc6⟩⟩ (fun _ _=>J) (by omega) (fun p hp=>?_);obtain ⟨a,b,he⟩:=hem p hp;have hpi:p.1 ∈ ins.map Ww:=by rw [<- hcs];exact List.mem_map_of_mem hp
  obtain ⟨x,hx,hx1⟩:=List.mem_map.1 hpi;refine ⟨p.2,J,?_,?_⟩
  ·rw [he,<- hx1];exact Pt a b
  ·rw [<- hx1];exact ⟨(hin x hx).1,(hin x hx).2,⟨Nu J,Nu J,Zqs⟩⟩
 have hcl:ClAt w ⟨nb,nmB 0,[],[Wk dp (ins.map Ww)]⟩ (.slice fp 0 fq) (.slice (some ⟨pm.1,0,none⟩) 1 pm.2):=by
  refine ⟨Pt _ _,?_,hnb,Nu J⟩
  have:=ListAt.of_own (e:=134) (El:=MeEl) (w:=w) (v:=.slice (some ⟨pm.1,0,none⟩) 1 pm.2) (·.1) meC [(Wk dp (ins.map Ww),⟨.slice zp 0 zq,.slice (some ⟨pc.1,0,none⟩) cs.length pc.2,.slice hp 0 hq,.slice gp 0 gq,cs,[]⟩)] ⟨rfl,.inr ⟨pm.1,pm.2,cm,rfl,Nat.zero_le _,hm2,hm3,hm4,hm5,(hm6.trans hm0.symm:_)⟩⟩ (fun _ _=>rfl) (by show 1<=1048576;omega) (fun p hpp=>by
   cases List.mem_singleton.1 hpp;exact ⟨_,_,_,_,J,⟨Pt _ _,hi,Pt _ _,Pt _ _,ok_main hdp _⟩⟩)
  exact this
 exact ⟨_,_,J,hcl⟩
theorem J0 {nb:ByteArray} {k:Nat} {ins:List (Nat × Int)} {dp:Int} (hk:ins.length=k) (hkb:k<=1000) (hnb:Uq nb) (hdp:Yu dp) (hin:∀ x ∈ ins,Yu (.ofNat x.1)/\Yu x.2) (hcl:Xg ⟨nb,nmB 0,[],[Wk dp (ins.map Ww)]⟩=true) :
  ∀ (θ:Dg k ins) (dm dc N:Nat),HF Tryz.prog 103 [.agg [Zs nb,Zs (nmB 0),Zl θ.1.fp θ.1.fq,.sl dm 0 1 0]] N (Zm dm dc dp θ) fun u N' H'=>u=.tup []/\N'=N/\H'=(Zm dm dc dp θ):=by
 intro θ dm dc N;refine ⟨⟨_,Tryz.func103,J⟩,fun G hsG hfr=>⟨⟨_,Tryz.func103,J⟩,fun w0 F B w vs hg hd=>?_⟩⟩;obtain ⟨fv,mv,rfl,hc⟩:=Zts hk hkb hnb hdp hin θ hsG hg hd;refine CallsIn.mono (callsIn_wide.2 (Qu _ _ _ w hc)) ?_;rintro e w' ⟨(⟨_,rfl⟩ | ⟨h,_⟩),hbel⟩
 ·exact ⟨.tup [],_,G,_,B,⟨_,⟨J,J,J⟩,⟨hsG,fun _ _ h _=>h,fun p hp=>.inl (List.mem_map_of_mem hp),hfr⟩⟩,J,Since.refl _ _,J,hg.keep hbel⟩
 ·rw [hcl] at h;cases h
end S
namespace S
open Go Go.RowKit E At
theorem enc_hf {nb:ByteArray} {k:Nat} {ins:List (Nat × Int)} {dp:Int} (hk:ins.length=k) (hkb:k<=1000) (hnb:Uq nb) (hdp:Yu dp) (hin:∀ x ∈ ins,Yu (.ofNat x.1)/\Yu x.2) (hcl:Xg ⟨nb,nmB 0,[],[Wk dp (ins.map Ww)]⟩=true) :
  ∀ (θ:Dg k ins) (dm dc N:Nat),HF Tryz.prog 26 [.agg [Zs nb,Zs (nmB 0),Zl θ.1.fp θ.1.fq,.sl dm 0 1 0]] N (Zm dm dc dp θ) fun u N' H'=>u=.tup [Zs (Tt ⟨nb,nmB 0,[],[Wk dp (ins.map Ww)]⟩),Zi 0]/\N'=N/\H'=(Zm dm dc dp θ):=by
 intro θ dm dc N;refine ⟨⟨_,Tryz.func26,J⟩,fun G hsG hfr=>⟨⟨_,Tryz.func26,J⟩,fun w0 F B w vs hg hd=>?_⟩⟩;obtain ⟨fv,mv,rfl,hcl'⟩:=Zts hk hkb hnb hdp hin θ hsG hg hd;refine CallsIn.mono (callsIn_wide.2 (Zie _ _ _ w hcl')) ?_;rintro e w' ⟨rfl,hb⟩;rw [hcl];exact ⟨_,_,G,_,B,⟨_,⟨J,J,J⟩,⟨hsG,fun _ _ h _=>h,fun p hp=>.inl (List.mem_map_of_mem hp),hfr⟩⟩,J,Since.refl _ _,J,hg.keep hb⟩
end S
end Go.Proofs.YtpofmnfkdkmieaaGreat
