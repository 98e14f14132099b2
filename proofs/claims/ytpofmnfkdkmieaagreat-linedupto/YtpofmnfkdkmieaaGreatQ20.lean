/- What is proved here: lists of nothing are read. -/
import Derived.Test.YtpofmnfkdkmieaaGreatQ19
import Derived.Test.YtpofmnfkdkmieaaGreatQ17
import Derived.Test.YtpofmnfkdkmieaaGreatQ14
import Derived.Test.YtpofmnfkdkmieaaGreatQ16
set_option linter.unusedVariables false
set_option linter.unusedSimpArgs false
namespace Go.Proofs.YtpofmnfkdkmieaaGreat
namespace S
open Go Go.RowKit E
section
set_option maxRecDepth 10000
variable {N r q:Nat} {l:List UInt8} {f:FuncId}
theorem Zbz:HF Tryz.prog 114 [Zi 0,Zn q,.fn f [.ptr r 0] []] N [] fun u N' H'=>u=Zz/\N'=N/\H'=[]:=by
 refine hf1 Tryz.func114 J Tryz.ntmps114 fun _ _ _ _=>?_;refine Zd (Za 1 [] [(6,Zz)] [] (Zx (Za 2 [] [(8,Zi 0),(9,Zn q)] [] ?_)));refine Zu (v:=Zb true) J (Tp J J J (by simp only [Int.ofNat_eq_natCast];omega)) rfl ?_;refine Z0 [] [] Zj J J J J (Xq) J (Zx (Za 1 [] [(7,Zz)] [] (Z1 (Zd (Za 2 [] [(12,Zi 0),(13,Zi 0)] [] (Zg (Zv (Yv (Yg ?_)))))))));refine Zd (Za 1 [] [(14,Zb false)] [] (Z1 (Z6 J (Yz (Z8 (Z8 (Xb (z:=.exit _) J (Yi (Yh (Za 2 [] [(6,Zz)] [] (Zg (Yc (Z5 [] (.inr J) Zj J (by decide) ?_)))))))))))));exact ⟨J,J,J⟩
theorem no_Type:HF Tryz.prog 283 [Zi 0,Zn q,.fn f [.ptr r 0] []] N [] fun u N' H'=>u=Zz/\N'=N/\H'=[]:=by
 refine hf1 Tryz.func283 J Tryz.ntmps283 fun _ _ _ _=>?_;refine Zd (Za 1 [] [(6,Zz)] [] (Zx (Za 2 [] [(8,Zi 0),(9,Zn q)] [] ?_)));refine Zu (v:=Zb true) J (Tp J J J (by simp only [Int.ofNat_eq_natCast];omega)) rfl ?_;refine Z0 [] [] Zj J J J J (Xq) J (Zx (Za 1 [] [(7,Zz)] [] (Z1 (Zd (Za 2 [] [(12,Zi 0),(13,Zi 0)] [] (Zg (Zv (Yv (Yg ?_)))))))));refine Zd (Za 1 [] [(14,Zb false)] [] (Z1 (Z6 J (Yz (Z8 (Z8 (Xb (z:=.exit _) J (Yi (Yh (Za 2 [] [(6,Zz)] [] (Zg (Yc (Z5 [] (.inr J) Zj J (by decide) ?_)))))))))))));exact ⟨J,J,J⟩
theorem Gi:HF Tryz.prog 187 [Zi 0,Zn q,.fn f [.ptr r 0] []] N [] fun u N' H'=>u=Zz/\N'=N/\H'=[]:=by
 refine hf1 Tryz.func187 J Tryz.ntmps187 fun _ _ _ _=>?_;refine Zd (Za 1 [] [(6,Zz)] [] (Zx (Za 2 [] [(8,Zi 0),(9,Zn q)] [] ?_)));refine Zu (v:=Zb true) J (Tp J J J (by simp only [Int.ofNat_eq_natCast];omega)) rfl ?_;refine Z0 [] [] Zj J J J J (Xq) J (Zx (Za 1 [] [(7,Zz)] [] (Z1 (Zd (Za 2 [] [(12,Zi 0),(13,Zi 0)] [] (Zg (Zv (Yv (Yg ?_)))))))));refine Zd (Za 1 [] [(14,Zb false)] [] (Z1 (Z6 J (Yz (Z8 (Z8 (Xb (z:=.exit _) J (Yi (Yh (Za 2 [] [(6,Zz)] [] (Zg (Yc (Z5 [] (.inr J) Zj J (by decide) ?_)))))))))))));exact ⟨J,J,J⟩
theorem Zby:HF Tryz.prog 189 [Zi 0,Zn q,.fn f [.ptr r 0] []] N [] fun u N' H'=>u=Zz/\N'=N/\H'=[]:=by
 refine hf1 Tryz.func189 J Tryz.ntmps189 fun _ _ _ _=>?_;refine Zd (Za 1 [] [(6,Zz)] [] (Zx (Za 2 [] [(8,Zi 0),(9,Zn q)] [] ?_)));refine Zu (v:=Zb true) J (Tp J J J (by simp only [Int.ofNat_eq_natCast];omega)) rfl ?_;refine Z0 [] [] Zj J J J J (Xq) J (Zx (Za 1 [] [(7,Zz)] [] (Z1 (Zd (Za 2 [] [(12,Zi 0),(13,Zi 0)] [] (Zg (Zv (Yv (Yg ?_)))))))));refine Zd (Za 1 [] [(14,Zb false)] [] (Z1 (Z6 J (Yz (Z8 (Z8 (Xb (z:=.exit _) J (Yi (Yh (Za 2 [] [(6,Zz)] [] (Zg (Yc (Z5 [] (.inr J) Zj J (by decide) ?_)))))))))))));exact ⟨J,J,J⟩
theorem Co (hl:l.length<=4000):HF Tryz.prog 183 [.ptr r 0,Zn q] N (Rt r (0::l)) fun u N' H'=>u=Zz/\N'=N/\H'=Rt r l:=by
 refine hf1 Tryz.func183 J Tryz.ntmps183 fun _ _ _ _=>?_;refine Zd (Za 1 [] [(4,Zz)] [] (Zx (Za 1 [] [(5,Zq r 0)] [] (Z0 [0] [0] Zj J J J J (Wp (c:=0) hl) J (Za 3 [] [(7,Zn q),(9,Zh 182 [Zq r 0] [])] [] (Z0 [] [] Zj J J J J (no_Type) J (Za 1 [] [(4,Zz)] [] (Zg (Yc (Z5 [0] (.inr J) Zj J (by decide) ?_))))))))));exact ⟨J,J,J⟩
end
end S
namespace S
open Go Go.RowKit E
inductive LI (k:Nat):Type
 | nil (M:Nat)
 | row (p M b:Nat) (h1:1<=p) (hp:p<=k)
def LI.E (r k:Nat):LI k->SE
 | .nil _=>[(2,.fn 186 [.ptr r 0] []),(7,.v (.slice none 0 0)),(12,.v (.int .i64 (.ofNat k))),(13,.v (.int .i64 (.ofNat 0)))]
 | .row p _ b _ _=>[(2,.fn 186 [.ptr r 0] []),(7,.sl b 0 p 0),(12,.v (.int .i64 (.ofNat k))),(13,.v (.int .i64 (.ofNat p)))]
def LI.nn {k:Nat}:LI k->Nat
 | .nil M=>M
 | .row _ M _ _ _=>M
noncomputable def LI.H (r:Nat) (ins:List Mi) (l:List UInt8) {k:Nat}:LI k->Ch
 | .nil _=>[(r,.cells [.v (.string ⟨(ins.flatMap iB++l).toArray⟩)])]
 | .row p _ b _ _=>[(b,.row 75 7 p (c7M (ins.take p))),(r,.cells [.v (.string ⟨((ins.drop p).flatMap iB++l).toArray⟩)])]
def LI.mu {k:Nat}:LI k->Nat
 | .nil _=>k+1
 | .row p _ _ _ _=>k - p
theorem Da {ins:List Mi} {p:Nat} {m:Mi} (h:ins[p]?=some m) (l:List UInt8):(ins.drop p).flatMap iB++l=iB m++((ins.drop (p+1)).flatMap iB++l):=by
 have hp:=(List.getElem?_eq_some_iff.1 h);rw [List.drop_eq_getElem_cons hp.1,hp.2,List.flatMap_cons,List.append_assoc]
theorem Dn {ins:List Mi} {p:Nat} {m:Mi} (h:ins[p]?=some m):(c7M (ins.take p)).take (p*7)++c7M [m]=c7M (ins.take (p+1)):=by
 have hp:=(List.getElem?_eq_some_iff.1 h).1;rw [List.take_of_length_le (by rw [Ky,List.length_take];omega),<- Dq,List.take_add_one,h];rfl
section
set_option maxRecDepth 10000
variable {N r k:Nat} {l:List UInt8} {ins:List Mi}
theorem li_ins (hk:ins.length=k) (h0:0<k) (hkb:k<=100) (hl:l.length<=100):HF Tryz.prog 184 [Zn k,Zi 200,.fn 186 [.ptr r 0] []] N (Rt r (ins.flatMap iB++l)) fun u _ H'=>∃ b,u=.sl b 0 k 0/\H'=(b,.row 75 7 k (c7M ins))::Rt r l:=by
 have hlen:∀ p,((ins.drop p).flatMap iB++l).length<=1900:=fun p=>by
  have:=R3 (ins.drop p);rw [List.length_append];rw [List.length_drop] at this;omega
 refine hf1 Tryz.func184 J Tryz.ntmps184 fun _ _ _ _=>?_;refine Zd (Za 1 [] [(6,Zz)] [] (Zx (Za 2 [] [(8,Zn k),(9,Zi 200)] [] ?_)));refine Zu (v:=Zb true) J (Tp J J J (by simp only [Int.ofNat_eq_natCast];omega)) rfl ?_;refine Z0 [] [] Zj J J J J (Xq) J (Zx (Za 1 [] [(7,Zz)] [] (Z1 (Zd (Za 2 [] [(12,Zn k),(13,Zi 0)] [] (Zg (Zv (Uy (α:=LI k) (st:=(LI.E r k)) (nn:=LI.nn) (hh:=(LI.H r ins l)) (.nil N) ⟨J,J,J,J,trivial⟩ J J ?_))))))));refine T5 (α:=LI k) LI.mu (LI.E r k) LI.nn (LI.H r ins l) (.nil N) ?_;rintro (⟨M⟩ | ⟨p,M,b,h1,hp⟩)
 ·skip
  obtain ⟨m,hm⟩:∃ m,ins[0]?=some m:=⟨_,List.getElem?_eq_getElem (by omega)⟩;have hrd:=fun N=>Zay (N:=N) (r:=r) (l:=(ins.drop 1).flatMap iB++l) m (by rw [<- Da hm l];exact hlen 0);rw [<- Da hm l,List.drop_zero] at hrd;refine Zd (Zu (v:=Zb true) J (U5 J J J (Ry (m:=0) h0)) J (Z1 (Yj J (Ya (Zr (Z2 (Zv (Zo (Za 2 [] [(15,Zz),(16,Zh 186 [Zq r 0] [])] [] (Yn [0] [0] Zj J J J J (hrd _) ?_))))))))));rintro _ N1 _ ⟨rfl,rfl⟩;refine ⟨_,J,?_⟩;refine Zy 1 [] [(18,Zk N1 0 1 0)] [] (N1+1) [(N1,Zw 75 7 1 [Zn m.op,Zi 0,Zs m.cl,Zs m.nm,Zz,Zi m.ty,Ze])] [] ?_;refine Ux (i':=0) (e:=75) (sz:=7) (by_:=96) (cc:=(c7M (ins.take 1))) [2] _ (by kernel_rfl) (by kernel_rfl) J J J J J J J J (by omega) (by omega) J (by have:=Dn hm;exact this) (by decide) J ?_;refine Za 1 [] [(7,Zk (N1+1) 0 1 0)] [] (Z7 (Yb (Zr (Zo (Za 2 [] [(13,Zn 1)] [] (Z7 ?_))))));exact X1 (.row 1 _ _ (Nat.le_refl _) (by omega)) (by show k - 1<k+1;omega) ⟨rfl,rfl,rfl,rfl,trivial⟩ rfl rfl
 ·skip
  refine Zd (Za 1 [] [(14,SV.v (.bool (ilt (.ofNat p) (.ofNat k))))] [] (Z1 (V9 J (fun c2=>?_) (fun c2=>?_))))
  ·skip
   have hpl:p<k:=(by rw [Xf] at c2;simp only [Int.ofNat_eq_natCast] at c2;omega);obtain ⟨m,hm⟩:∃ m,ins[p]?=some m:=⟨_,List.getElem?_eq_getElem (by omega)⟩;have hrd:=fun N=>Zay (N:=N) (r:=r) (l:=(ins.drop (p+1)).flatMap iB++l) m (by rw [<- Da hm l];exact hlen p);rw [<- Da hm l] at hrd;refine Ya (Zr (Z2 (Zv (Zo (Za 2 [] [(15,Zk b 0 p 0),(16,Zh 186 [Zq r 0] [])] [] (Yn [1] [1] Zj J J J J (hrd _) ?_))))));rintro _ N1 _ ⟨rfl,rfl⟩;refine ⟨_,J,?_⟩;refine Zy 1 [] [(18,Zk N1 0 1 0)] [] (N1+1) [(N1,Zw 75 7 1 [Zn m.op,Zi 0,Zs m.cl,Zs m.nm,Zz,Zi m.ty,Ze])] [] ?_;refine Uw (i:=2) (i':=0) (e:=75) (sz:=7) (by_:=96) (js:=[1]) (cc:=(c7M (ins.take (p+1)))) _ (by kernel_rfl) (by kernel_rfl) J J J J J J J (by decide) J (by omega) J J (by omega) (by omega) J (Dn hm) J ?_;refine Za 1 [] [(7,Zk (N1+1) 0 (p+1) 0)] [] (Z7 (Yb (Zr (Zo (Zu (v:=Zn (p+1)) J (Xr J J J (by omega)) J ?_)))));refine Za 1 [] [(13,Zn (p+1))] [] (Z7 ?_);exact X1 (.row (p+1) _ _ (by omega) (by omega)) (by show k - (p+1)<k - p;omega) ⟨rfl,rfl,rfl,rfl,trivial⟩ rfl rfl
  ·skip
   have hpe:p=k:=(by rw [Bool.eq_false_iff,ne_eq,Xf] at c2;simp only [Int.ofNat_eq_natCast] at c2;omega);refine Yz (Z8 (Z8 (Yi (Yh (Za 2 [] [(6,Zk b 0 p 0)] [] (Zg (Yc (Z5 [0,1] (.inr J) Zj J (by decide) ?_))))))));subst hpe;refine ⟨b,J,?_⟩;show [(b,Zw 75 7 p (c7M (ins.take p))),(r,Zc [.v (.string ⟨((ins.drop p).flatMap iB++l).toArray⟩)])]=_;rw [List.take_of_length_le (by omega),List.drop_of_length_le (by omega)];rfl
end
end S
namespace S
open Go Go.RowKit E
section
set_option maxRecDepth 10000
variable {N r k:Nat} {l:List UInt8} {ins:List Mi}
theorem rd_meth (hk:ins.length=k) (h0:0<k) (hkb:k<=100) (hl:l.length<=50):HF Tryz.prog 118 [.ptr r 0] N (Rt r (nmY X4++(1::0::0::1::1::UInt8.ofNat k::0::(ins.flatMap iB++(0::0::l))))) fun u _ H'=>∃ b,u=.agg [Zs Z4,Zb true,Zz,Zi 0,Ze,Zi 1,Zi 1,.sl b 0 k 0,Zz,Zz]/\H'=(b,.row 75 7 k (c7M ins))::Rt r l:=by
 have hfl:=R3 ins;have he:(UInt8.ofNat k).toNat=k:=by rw [UInt8.toNat_ofNat'];omega
 have ht:=fun N=>rd_two (N:=N) (r:=r) (c:=UInt8.ofNat k) (l:=ins.flatMap iB++(0::0::l)) (by simp only [List.length_append,List.length_cons,List.length_nil,nmY,X4] at *;omega);rw [he] at ht;refine hf1 Tryz.func118 J Tryz.ntmps118 fun _ _ _ _=>?_;refine Zd (Zy 1 [] [(2,Zq N 0)] [] (N+1) [(N,Zc [Ze,Zb false,Zz,Zi 0,Ze,Zi 0,Zi 0,Zz,Zz,Zz])] [] ?_);refine Zx (Za 1 [] [(3,Zq r 0)] [] ?_);refine Z0 [1] [1] Zj J J J J (Sz (s:=X4) (by decide) (by simp only [List.length_append,List.length_cons,List.length_nil,nmY,X4] at *;omega)) rfl ?_;refine Za 1 [] [(5,Zq r 0)] [] ?_;refine Z0 [0] [0] Zj J J J J (rd_flag (by simp only [List.length_append,List.length_cons,List.length_nil,nmY,X4] at *;omega)) rfl ?_;refine Za 1 [] [(7,Zq r 0)] [] ?_;refine Z0 [0] [0] Zj J J J J (Co (q:=6) (by simp only [List.length_append,List.length_cons,List.length_nil,nmY,X4] at *;omega)) rfl ?_;refine Za 1 [] [(9,Zq r 0)] [] ?_;refine Yn [0] [0] Zj J J J J (Zaw (c:=0) (by decide) (by simp only [List.length_append,List.length_cons,List.length_nil,nmY,X4] at *;omega)) ?_;rintro _ N1 _ ⟨rfl,rfl⟩;refine ⟨_,J,?_⟩;refine Za 1 [] [(11,Zq r 0)] [] ?_;refine Z0 [0] [0] Zj J J J J (Wp (c:=1) (by simp only [List.length_append,List.length_cons,List.length_nil,nmY,X4] at *;omega)) rfl ?_;refine Za 1 [] [(13,Zq r 0)] [] ?_;refine Z0 [0] [0] Zj J J J J (Wp (c:=1) (by simp only [List.length_append,List.length_cons,List.length_nil,nmY,X4] at *;omega)) rfl ?_;refine Za 1 [] [(15,Zq r 0)] [] (Z0 [0] [0] Zj J J J J (ht _) J (Za 2 [] [(18,Zh 186 [Zq r 0] [])] [] ?_));refine Yn [0] [0] Zj J J J J (li_ins hk h0 hkb (by simp only [List.length_append,List.length_cons,List.length_nil,nmY,X4] at *;omega)) ?_;rintro _ N2 _ ⟨b,rfl,rfl⟩;refine ⟨_,J,?_⟩;refine Za 1 [] [(20,Zq r 0)] [] ?_;refine Z0 [1] [1] Zj J J J J (Wp (c:=0) (by simp only [List.length_append,List.length_cons,List.length_nil,nmY,X4] at *;omega)) rfl ?_;refine Za 2 [] [(23,Zh 188 [Zq r 0] [])] [] (Z0 [] [] Zj J J J J (Gi (q:=10)) J (Za 1 [] [(25,Zq r 0)] [] (Z0 [0] [0] Zj J J J J (Wp (c:=0) (by omega)) J ?_)));refine Za 2 [] [(28,Zh 190 [Zq r 0] [])] [] (Z0 [] [] Zj J J J J (Zby (q:=60)) J (Zy 2 [2] [] [] N2 [] [(2,Zc [Zs Z4,Zb true,Zz,Zi 0,Ze,Zi 1,Zi 1,Zk b 0 k 0,Zz,Zz])] ?_));refine Zg (Yc (X6 (i:=2) (El:=[(2,.ptr 0 0)]) (m:=[.agg [Zs Z4,Zb true,Zz,Zi 0,Ze,Zi 1,Zi 1,.sl b 0 k 0,Zz,Zz]]) [1,0] (.inr J) Zj J ⟨J,trivial⟩ (by kernel_rfl) (by decide) ?_));exact ⟨b,J,J⟩
end
end S
namespace S
open Go Go.RowKit E
section
set_option maxRecDepth 10000
variable {N r k:Nat} {l:List UInt8} {ins:List Mi}
theorem li_meth (hk:ins.length=k) (h0:0<k) (hkb:k<=100) (hl:l.length<=50):HF Tryz.prog 117 [Zi 1,Zi 20,.fn 118 [.ptr r 0] []] N (Rt r (nmY X4++(1::0::0::1::1::UInt8.ofNat k::0::(ins.flatMap iB++(0::0::l))))) fun u _ H'=>∃ b d,u=.sl d 0 1 0/\H'=[(d,.row 134 10 1 [Zs Z4,Zb true,Zz,Zi 0,Ze,Zi 1,Zi 1,.sl b 0 k 0,Zz,Zz]),(b,.row 75 7 k (c7M ins)),(r,.cells [.v (.string ⟨l.toArray⟩)])]:=by
 refine hf1 Tryz.func117 J Tryz.ntmps117 fun _ _ _ _=>?_;refine Zd (Za 1 [] [(6,Zz)] [] (Zx (Za 3 [] [(10,Zb true)] [] (Z0 [] [] Zj J J J J (Xq) J (Zx (Za 1 [] [(7,Zz)] [] (Z1 (Zd (Za 2 [] [(12,Zi 1),(13,Zi 0)] [] (Zg (Zv (Yv (Yg ?_)))))))))))));refine Zd (Za 1 [] [(14,Zb true)] [] (Z1 (Yj J (Ya (Zr (Z2 (Zv (Zo (Za 2 [] [(15,Zz),(16,Zh 118 [Zq r 0] [])] [] (Yn [0] [0] Zj J J J J (rd_meth hk h0 hkb hl) ?_))))))))));rintro _ N1 _ ⟨b,rfl,rfl⟩;refine ⟨_,J,?_⟩;refine Zy 1 [] [(18,Zk N1 0 1 0)] [] (N1+1) [(N1,Zw 134 10 1 [Zs Z4,Zb true,Zz,Zi 0,Ze,Zi 1,Zi 1,Zk b 0 k 0,Zz,Zz])] [] ?_;refine Ux (i':=0) (e:=134) (sz:=10) (by_:=160) (cc:=[Zs Z4,Zb true,Zz,Zi 0,Ze,Zi 1,Zi 1,Zk b 0 k 0,Zz,Zz]) [2,3] _ (by kernel_rfl) (by kernel_rfl) J J J J J J J J (by omega) (by omega) J (J) (by decide) J ?_;refine Za 1 [] [(7,Zk (N1+1) 0 1 0)] [] (Z7 (Yb (Zr (Zo (Za 2 [] [(13,Zi 1)] [] (Zg (Yg (Zd (Za 1 [] [(14,Zb false)] [] (Z1 (Z6 J (Yz (Z8 (Z8 (Xb (z:=.exit _) J (Yi (Yh (Za 2 [] [(6,Zk (N1+1) 0 1 0)] [] (Zg (Yc (Z5 [0,1,2] (.inr J) Zj J (by decide) ?_)))))))))))))))))))));exact ⟨b,_,J,J⟩
end
end S
namespace S
open Go Go.RowKit E
section
set_option maxRecDepth 10000
variable {N k:Nat} {ins:List Mi}
theorem Read_m (hk:ins.length=k) (h0:0<k) (hkb:k<=100) (h8:∀ m ∈ ins,m.ok):HF Tryz.prog 68 [.v (.string ⟨([67,76,65,83]++(nmY maY++(nmY obY++(0::1::(nmY X4++(1::0::0::1::1::UInt8.ofNat k::0::(ins.flatMap iB++(0::0::[])))))))).toArray⟩)] N [] fun u _ H'=>∃ b d,u=.agg [Zs Zt,Zs (nmB 0),Zz,.sl d 0 1 0]/\H'=[(d,.row 134 10 1 [Zs Z4,Zb true,Zz,Zi 0,Ze,Zi 1,Zi 1,.sl b 0 k 0,Zz,Zz]),(b,.row 75 7 k (c7M ins))]:=by
 have hfl:=R3 ins;refine hf1 Tryz.func68 J Tryz.ntmps68 fun _ _ _ _=>?_;refine Zd (Zy 1 [] [(2,Zq N 0)] [] (N+1) [(N,Zc [Ze,Ze,Zz,Zz])] [] ?_);refine Zx (Zy 4 [] [(3,Zq (N+1) 0)] [] (N+2) [((N+1),Zc [SV.v (.string ⟨([67,76,65,83]++(nmY maY++(nmY obY++(0::1::(nmY X4++(1::0::0::1::1::UInt8.ofNat k::0::(ins.flatMap iB++(0::0::[])))))))).toArray⟩)])] [] ?_);refine Zx (Za 1 [] [(8,Zq (N+1) 0)] [] ?_);refine Z0 [0] [0] Zj J J J J (Pm (a:=[67,76,65,83]) (by simp only [List.length_append,List.length_cons,List.length_nil,nmY,X4,maY,obY] at *;omega)) rfl ?_;refine Za 1 [] [(10,Zb true)] [] (Z0 [] [] Zj J J J J (Xq) J (Zx (Za 1 [] [(12,Zq (N+1) 0)] [] ?_)));refine Z0 [0] [0] Zj J J J J (Sz (s:=maY) (by decide) (by simp only [List.length_append,List.length_cons,List.length_nil,nmY,X4,maY,obY] at *;omega)) rfl ?_;refine Za 1 [] [(14,Zq (N+1) 0)] [] ?_;refine Z0 [0] [0] Zj J J J J (Sz (s:=obY) (by decide) (by simp only [List.length_append,List.length_cons,List.length_nil,nmY,X4,maY,obY] at *;omega)) rfl ?_;refine Za 1 [] [(16,Zq (N+1) 0)] [] ?_;refine Z0 [0] [0] Zj J J J J (Wp (c:=0) (by simp only [List.length_append,List.length_cons,List.length_nil,nmY,X4] at *;omega)) rfl ?_;refine Za 2 [] [(19,Zh 116 [Zq (N+1) 0] [])] [] (Z0 [] [] Zj J J J J (Zbz (q:=20)) J (Za 1 [] [(21,Zq (N+1) 0)] [] ?_));refine Z0 [0] [0] Zj J J J J (Wp (c:=1) (by simp only [List.length_append,List.length_cons,List.length_nil,nmY,X4] at *;omega)) rfl ?_;refine Za 2 [] [(24,Zh 118 [Zq (N+1) 0] [])] [] (Yn [0] [0] Zj J J J J (li_meth (l:=[]) hk h0 hkb (by decide)) ?_);rintro _ N1 _ ⟨b,d,rfl,rfl⟩;refine ⟨_,J,?_⟩;refine Zy 3 [0] [(4,Zq N1 0)] [] (N1+1) [(N1,Zc [Zs Zt,Zs (nmB 0),Zz,Zk d 0 1 0])] [] (Zx (Za 5 [3] [(31,Zb true)] [] (Z0 [] [] Zj J J J J (Xq) J (Zx (Za 1 [0] [(33,SV.agg [Zs Zt,Zs (nmB 0),Zz,Zk d 0 1 0])] [] (Z0 [1,2] [2,1] Zj J J J J (Kb hk h0 hkb h8) J (Zx (Zy 2 [2,4] [] [] (N1+1) [] [(4,Zc [Zs Zt,Zs (nmB 0),Zz,Zk d 0 1 0])] (Zg (Yc (X6 (i:=4) (El:=[(2,.ptr 0 0)]) (m:=[.agg [Zs Zt,Zs (nmB 0),Zz,.sl d 0 1 0]]) [0,1] (.inr J) Zj J ⟨J,trivial⟩ (by kernel_rfl) (by decide) ?_)))))))))));exact ⟨b,d,J,J⟩
end
end S
namespace S
open Go Go.RowKit E
theorem byY_is {ins:List Mi} {k:Nat} (hk:ins.length=k):byY ins=[67,76,65,83]++(nmY maY++(nmY obY++(0::1::(nmY X4++(1::0::0::1::1::UInt8.ofNat k::0::(ins.flatMap iB++(0::0::[]))))))):=by
 subst hk;simp [byY,frY,meY]
section
set_option maxRecDepth 10000
variable {N k bx:Nat} {ins:List Mi}
theorem Dec1_m (hk:ins.length=k) (h0:0<k) (hkb:k<=100) (h8:∀ m ∈ ins,m.ok):HF Tryz.prog 67 [.ptr bx 0] N [(bx,.cells [.v (.string ⟨(byY ins).toArray⟩)])] fun u _ H'=>∃ b d,u=.agg [Zs Zt,Zs (nmB 0),Zz,.sl d 0 1 0]/\H'=(bx,.cells [.v (.string ⟨(byY ins).toArray⟩)])::[(d,.row 134 10 1 [Zs Z4,Zb true,Zz,Zi 0,Ze,Zi 1,Zi 1,.sl b 0 k 0,Zz,Zz]),(b,.row 75 7 k (c7M ins))]:=by
 have hR:=fun N=>Read_m (N:=N) hk h0 hkb h8;rw [<- byY_is hk] at hR;refine hf1 Tryz.func67 J Tryz.ntmps67 fun _ _ _ _=>?_;refine Zd (Zy 1 [] [(1,Zq N 0)] [] (N+1) [(N,Zc [Ze,Ze,Zz,Zz])] [] ?_);refine Zx (Za 1 [1] [(2,SV.v (.string ⟨(byY ins).toArray⟩))] [] ?_);refine Yn [] [] Zj J J J J (hR _) ?_;rintro _ N1 _ ⟨b,d,rfl,rfl⟩;refine ⟨_,J,?_⟩;refine Zy 1 [2] [] [] N1 [] [(2,Zc [Zs Zt,Zs (nmB 0),Zz,Zk d 0 1 0])] (Zg (Yc (X6 (i:=2) (El:=[(1,.ptr 0 0)]) (m:=[.agg [Zs Zt,Zs (nmB 0),Zz,.sl d 0 1 0]]) [3,0,1] (.inr J) Zj J ⟨J,trivial⟩ (by kernel_rfl) (by decide) ?_)));exact ⟨b,d,J,J⟩
theorem cauC_m (hk:ins.length=k) (h0:0<k) (hkb:k<=100) (h8:∀ m ∈ ins,m.ok):HF Tryz.prog 66 [.fn 67 [] [.ptr bx 0]] N [(bx,.cells [.v (.string ⟨(byY ins).toArray⟩)])] fun u _ H'=>∃ b d,u=.tup [.agg [Zs Zt,Zs (nmB 0),Zz,.sl d 0 1 0],Zf]/\H'=(bx,.cells [.v (.string ⟨(byY ins).toArray⟩)])::[(d,.row 134 10 1 [Zs Z4,Zb true,Zz,Zi 0,Ze,Zi 1,Zi 1,.sl b 0 k 0,Zz,Zz]),(b,.row 75 7 k (c7M ins))]:=by
 refine hf1 Tryz.func66 J Tryz.ntmps66 fun _ _ _ _=>?_;refine Zd (Zy 2 [] [(2,Zq N 0),(3,Zq (N+1) 0)] [] (N+2) [((N+1),Zc [Zf]),(N,Zc [Ze,Ze,Zz,Zz])] [] ?_);refine Zx (Za 1 [] [(4,Zh 110 [] [Zq (N+1) 0])] [] (Je J J J J J (Zx (Za 1 [] [(5,Zh 67 [] [Zq bx 0])] [] (Yn [2] [2] Zj J J J J (Dec1_m hk h0 hkb h8) ?_)))));rintro _ N1 _ ⟨b,d,rfl,rfl⟩;refine ⟨_,J,?_⟩;refine Zy 2 [4,3] [] [] N1 [] [(4,Zc [Zs Zt,Zs (nmB 0),Zz,Zk d 0 1 0])] (Zg (Yc (Px (i:=4) (j:=3) (El:=[(2,.ptr 0 0),(3,.ptr 1 0)]) (m:=[.agg [Zs Zt,Zs (nmB 0),Zz,.sl d 0 1 0],Zf]) (.inr J) Zj O6 J J J (by decide) ⟨J,J,trivial⟩ (by kernel_rfl) (fun _ h=>h.pick (is:=[0,1,2]) (by decide)) ?_)));exact ⟨b,d,J,J⟩
theorem Dec_m (hk:ins.length=k) (h0:0<k) (hkb:k<=100) (h8:∀ m ∈ ins,m.ok):HF Tryz.prog 25 [.v (.string ⟨(byY ins).toArray⟩)] N [] fun u _ H'=>∃ b d,u=.tup [.agg [Zs Zt,Zs (nmB 0),Zz,.sl d 0 1 0],Zi 0]/\H'=[(d,.row 134 10 1 [Zs Z4,Zb true,Zz,Zi 0,Ze,Zi 1,Zi 1,.sl b 0 k 0,Zz,Zz]),(b,.row 75 7 k (c7M ins))]:=by
 refine hf1 Tryz.func25 J Tryz.ntmps25 fun _ _ _ _=>?_;refine Zd (Zy 3 [] [(1,Zq N 0),(2,Zq (N+1) 0),(3,Zi 0)] [] (N+2) [((N+1),Zc [Ze,Ze,Zz,Zz]),(N,Zc [SV.v (.string ⟨(byY ins).toArray⟩)])] [] ?_);refine Zx (Za 1 [] [(9,Zh 67 [] [Zq N 0])] [] (Yn [1] [1] Zj J J J J (cauC_m hk h0 hkb h8) ?_));rintro _ N1 _ ⟨b,d,rfl,rfl⟩;refine ⟨_,J,?_⟩;refine Zy 6 [0] [(4,Zq N1 0),(5,Zf)] [] (N1+1) [(N1,Zc [Zs Zt,Zs (nmB 0),Zz,Zk d 0 1 0])] [] (Zx (Za 1 [] [(14,Zf)] [] (Z0 [] [] Zj J J J J (Sn) J (Zy 6 [0] [(7,Zi 0)] [] (N1+3) [((N1+2),Zc [Zi 0,Zi 0])] [] (Zx (Zy 4 [1,5] [(3,Zi 0)] [] (N1+3) [] [(5,Zc [Zs Zt,Zs (nmB 0),Zz,Zk d 0 1 0])] (Zg (Yc ?_))))))));refine X6 (i:=5) (El:=[(2,.ptr 0 0),(3,sh (Zi 0))]) (m:=[.agg [Zs Zt,Zs (nmB 0),Zz,.sl d 0 1 0],Zi 0]) [3,4] (.inr J) Zj J ⟨J,by rw [X7 (by unfold lim;simp)];rfl,trivial⟩ (by kernel_rfl) (by decide) ?_;exact ⟨b,d,J,J⟩
end
end S
namespace S
open Go Go.RowKit E
theorem dec_m {k:Nat} {ins:List Mi} (hk:ins.length=k) (h0:0<k) (hkb:k<=100) (h8:∀ m ∈ ins,m.ok) :
  ∀ N,HF Tryz.prog 25 [.v (.string ⟨(byY ins).toArray⟩)] N [] fun u N' H'=>∃ θ:Dl k ins,u=.tup [.agg [Zs Zt,Zs (nmB 0),Zl θ.1.fp θ.1.fq,.sl (N+1) 0 1 0],Zi 0]/\N'=N+2/\H'=[(N+1,.row 134 10 1 [Zs Z4,Zb true,Zl θ.1.zp θ.1.zq,Zi 0,Ze,Zi 1,Zi 1,.sl N 0 k 0,Zl θ.1.hp θ.1.hq,Zl θ.1.gp θ.1.gq]),(N,.row 75 7 k θ.1.i7.flatten)]:=by
 intro N;refine (HF.two (v:=fun d=>.tup [.agg [Zs Zt,Zs (nmB 0),Zz,.sl d 0 1 0],Zi 0]) (C:=.row 75 7 k (c7M ins)) (D:=fun b=>.row 134 10 1 [Zs Z4,Zb true,Zz,Zi 0,Ze,Zi 1,Zi 1,.sl b 0 k 0,Zz,Zz]) (Dec_m hk h0 hkb h8) (fun B B' d d' e=>?_) (fun B B' b b' p o e h=>?_) (fun B B' p o h=>?_)).mono fun u N' H' h=>⟨dl0 hk,h⟩
 ·simp only [den,Ym,e]
 ·obtain ⟨vs,cur,h1,h2⟩:=h;exact ⟨vs,cur,by rw [<- h1];simp only [den,Ym,e],h2⟩
 ·obtain ⟨vs,cur,h1,h2⟩:=h;exact ⟨vs,cur,by rw [<- h1];exact Df _ _ _,h2⟩
theorem Ib {nb:ByteArray} {k:Nat} {ins:List Mi} (hk:ins.length=k) (h0:0<k) (hkb:k<=100) (hnb:nb=Zt) (h8:∀ m ∈ ins,m.ok) :
  ∀ (θ:Dl k ins) (dm dc N:Nat),HF Tryz.prog 103 [.agg [Zs nb,Zs (nmB 0),Zl θ.1.fp θ.1.fq,.sl dm 0 1 0]] N [(dm,.row 134 10 1 [Zs Z4,Zb true,Zl θ.1.zp θ.1.zq,Zi 0,Ze,Zi 1,Zi 1,.sl dc 0 k 0,Zl θ.1.hp θ.1.hq,Zl θ.1.gp θ.1.gq]),(dc,.row 75 7 k θ.1.i7.flatten)] fun u N' H'=>u=.tup []/\N'=N/\H'=[(dm,.row 134 10 1 [Zs Z4,Zb true,Zl θ.1.zp θ.1.zq,Zi 0,Ze,Zi 1,Zi 1,.sl dc 0 k 0,Zl θ.1.hp θ.1.hq,Zl θ.1.gp θ.1.gq]),(dc,.row 75 7 k θ.1.i7.flatten)]:=by
 rintro ⟨θ,h1,h2,h3,rfl⟩ dm dc N;subst hnb;exact Kb hk h0 hkb h8
theorem enc_m {nb:ByteArray} {k:Nat} {ins:List Mi} (hk:ins.length=k) (h0:0<k) (hkb:k<=100) (hnb:nb=Zt) (h8:∀ m ∈ ins,m.ok) :
  ∀ (θ:Dl k ins) (dm dc N:Nat),HF Tryz.prog 26 [.agg [Zs nb,Zs (nmB 0),Zl θ.1.fp θ.1.fq,.sl dm 0 1 0]] N [(dm,.row 134 10 1 [Zs Z4,Zb true,Zl θ.1.zp θ.1.zq,Zi 0,Ze,Zi 1,Zi 1,.sl dc 0 k 0,Zl θ.1.hp θ.1.hq,Zl θ.1.gp θ.1.gq]),(dc,.row 75 7 k θ.1.i7.flatten)] fun u N' H'=>u=.tup [.v (.string ⟨(byY ins).toArray⟩),Zi 0]/\N'=N/\H'=[(dm,.row 134 10 1 [Zs Z4,Zb true,Zl θ.1.zp θ.1.zq,Zi 0,Ze,Zi 1,Zi 1,.sl dc 0 k 0,Zl θ.1.hp θ.1.hq,Zl θ.1.gp θ.1.gq]),(dc,.row 75 7 k θ.1.i7.flatten)]:=by
 rintro ⟨θ,h1,h2,h3,rfl⟩ dm dc N;subst hnb;exact HF.forget [0,1] (Enc_m hk hkb fun N=>Kb hk h0 hkb h8) (by decide) (fun _ _=>J) (fun u N' H' h=>⟨h.1,fun p hp=>by rw [h.2];exact hp⟩)
end S
namespace S
open Go Go.RowKit E
section
set_option maxRecDepth 10000
variable {N w f:Nat} {hp gp:Option Addr} {hq gq:Nat} {c0 c1 c2 c3 gr nv m0 m1 m2 m3 m4 m5 m6 m7 lo st re:SV} {at_ x:Int}
theorem Ju {a:Int}:HF Tryz.prog 328 [Zl gp gq,Zi a,.fn f [] []] N [] fun u N' H'=>u=.tup [Zi 0,Zb false]/\N'=N/\H'=[]:=by
 refine hf1 Tryz.func328 J Tryz.ntmps328 fun _ _ _ _=>?_;refine Zd (Za 2 [] [(6,Zi 0),(7,Zb false)] [] (Zx (Za 3 [] [(8,Zi 0)] [] (Zx (Za 3 [] [(9,Zi 0),(10,Zi 0)] [] (Z1 (Zv (Yv (Yg ?_)))))))));refine Z2 (Zd (Za 3 [] [(17,Zb false)] [] (Zg (Z6 J (Yz (Z8 (Z8 (Xb (z:=.exit _) J (Yi (Yh (Za 16 [] [(6,Zi 0),(7,Zb false)] [] (Zg (Yc (Z5 [] (.inr J) Zj J (by decide) ?_))))))))))))));exact ⟨J,J,J⟩
theorem Gv {a:Int}:HF Tryz.prog 258 [.ptr w 0,Zi a] N [(w,.cells [c0,c1,c2,c3,gr,nv,m0,m1,m2,m3,m4,m5,m6,m7,Zl hp hq,Zl gp gq,Zi at_,lo,st,re])] fun u N' H'=>u=.tup [.agg [Zi 0,Zz,Zz],Zb false]/\N'=N+1/\H'=[(w,.cells [c0,c1,c2,c3,gr,nv,m0,m1,m2,m3,m4,m5,m6,m7,Zl hp hq,Zl gp gq,Zi at_,lo,st,re])]:=by
 refine hf1 Tryz.func258 J Tryz.ntmps258 fun _ _ _ _=>?_;refine Zd (Zy 2 [] [(4,Zq N 0),(5,Zb false)] [] (N+1) [(N,Zc [Zi 0,Zz,Zz])] [] (Zx (Za 6 [1] [(12,Zl gp gq),(13,Zi a)] [] (Z0 [] [] Zj J J J J (Ju) J (Za 5 [] [(6,Zi 0),(5,Zb false)] [] (Z1 (Zd (Za 2 [] [(18,Zb true)] [] (Zg (Yj J (Zd (Za 3 [0] [(5,Zb false)] [] (Zg (Yc (Xg ?_)))))))))))))));refine X6 (i:=0) (El:=[(4,.ptr 0 0),(5,sh (Zb false))]) (m:=[.agg [Zi 0,Zz,Zz],Zb false]) [1] (.inr J) Zj J ⟨J,by rw [X7 (by unfold lim;simp)];rfl,trivial⟩ (by kernel_rfl) (by decide) ?_;exact ⟨J,J,J⟩
theorem U3:HF Tryz.prog 161 [.ptr w 0] N [(w,.cells [c0,c1,c2,c3,gr,nv,m0,m1,m2,m3,m4,m5,m6,m7,Zl hp hq,Zl gp gq,Zi at_,lo,st,re])] fun u N' H'=>u=.tup []/\N'=N/\H'=[(w,.cells [c0,c1,c2,c3,gr,nv,m0,m1,m2,m3,m4,m5,m6,m7,Zl hp hq,Zl gp gq,Zi at_,lo,st,re])]:=by
 refine hf1 Tryz.func161 J Tryz.ntmps161 fun _ _ _ _=>?_;refine Zd (Za 7 [0] [(8,Zl hp hq),(9,Zi 0),(10,Zi 0)] [] (Zg (Zv (Yv (Yg ?_)))));refine Zd (Za 1 [] [(11,Zb false)] [] (Z1 (Z6 J (Yz (Z8 (Z8 (Xb (z:=.exit _) J (Yi (Z5 [0] (.inl J) Zj J (by decide) ?_)))))))));exact ⟨J,J,J⟩
theorem Se:HF Tryz.prog 160 [.ptr w 0] N [(w,.cells [c0,c1,c2,c3,gr,nv,m0,m1,m2,m3,m4,m5,m6,m7,Zl hp hq,Zl gp gq,Zi at_,lo,st,Zb true])] fun u N' H'=>u=.tup []/\N'=N+2/\H'=[(w,.cells [c0,c1,c2,c3,gr,nv,m0,m1,m2,m3,m4,m5,m6,m7,Zl hp hq,Zl gp gq,Zi at_,lo,st,Zb true])]:=by
 refine hf1 Tryz.func160 J Tryz.ntmps160 fun _ _ _ _=>?_;refine Zd (Za 5 [0] [(5,Zq w 0),(9,Zi at_)] [] (Z0 [0] [0] Zj J J J J (Gv) J (Zy 6 [0] [(2,Zq (N+1) 0),(3,Zb false)] [] (N+2) [((N+1),Zc [Zi 0,Zz,Zz])] [] (Z1 (Zd (Za 2 [] [(14,Zb true)] [] (Zg (Yj J (Zd (Za 5 [1] [(15,Zq w 0),(19,Zb true)] [] (Z0 [] [] Zj J J J J (V3) J (Zg (Yc (Xg (Z5 [1] (.inr J) Zj J (by decide) ?_)))))))))))))));exact ⟨J,J,J⟩
end
end S

end Go.Proofs.YtpofmnfkdkmieaaGreat
