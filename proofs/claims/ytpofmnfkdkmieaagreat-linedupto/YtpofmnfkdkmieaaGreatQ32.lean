/- What is proved here: a step, whose instruction is done or wai -/
import Derived.Test.YtpofmnfkdkmieaaGreatQ31
import Derived.Test.YtpofmnfkdkmieaaGreatQ17
set_option linter.unusedVariables false
set_option linter.unusedSimpArgs false
namespace Go.Proofs.YtpofmnfkdkmieaaGreat
namespace S
open Go Go.RowKit E
section
set_option maxRecDepth 10000
variable {N mc f me p q un mt ch dn fu cp kc:Nat} {us:List SV} {a1 a3 a4 a5 m0 m1 m2 m3 m4 m5 m6 m7 m8 m9 m10 m13 m14 m15 m16:SV} {U:Ch}
theorem Sq {Θ:Type} {MC1:Θ->SB} {U1:Θ->Ch} (hq:us.length=q) (hqb:q<=1000) (hp:p<=1000)
  (hD:∀ N,HF Tryz.prog 383 [.ptr mc 0,.ptr f 0] N ([(mc,.cells [m0,m1,m2,m3,m4,m5,m6,m7,m8,m9,m10,.sl un 0 (q+1) 0,.ptr mt 0,m13,m14,m15,m16]),(f,.cells [.ptr me 0,Zn p,Zn (p+1),a3,a4,a5,Zp]),(un,.row 364 1 (q+1) (us++[.ptr f 0]))]++U) fun u N' H'=>∃ ω:Θ,u=.tup [Zp,Zb false]/\H'=[(mc,MC1 ω),(f,.cells [.ptr me 0,Zn p,Zn (p+1),a3,a4,a5,Zp])]++U1 ω) :
  HF Tryz.prog 353 [.ptr mc 0] N ([(mc,.cells [m0,m1,m2,m3,m4,m5,m6,m7,m8,m9,m10,.sl un 0 (q+1) 0,.ptr mt 0,m13,m14,m15,m16]),(f,.cells [.ptr me 0,a1,Zn p,a3,a4,a5,Zp]),(un,.row 364 1 (q+1) (us++[.ptr f 0]))]++U) fun u N' H'=>∃ ω:Θ,u=.tup []/\H'=[(mc,MC1 ω),(f,.cells [.ptr me 0,Zn p,Zn p,a3,a4,a5,Zp])]++U1 ω:=by
 refine hf1 Tryz.func353 J Tryz.ntmps353 fun _ _ _ _=>?_;refine Zd (Za 1 [] [(5,Zq mc 0)] [] (Z0 [0,2] [2,0] Zj J J J J (Ll hq hqb) J (Za 1 [] [(2,Zq f 0)] [] (Z1 ?_))))
 refine Y0 [.ptr f 0,.ptr f 0,.ptr f 0,.ptr f 0,.ptr f 2,Zn p,.ptr f 0,.ptr f 0,.ptr f 2,Zn p,Zn (p+1),.ptr f 0,.ptr f 1,.tup [],.ptr f 0,.ptr f 2,.tup []] [13,16] [(_,_),(_,_)] [2,2] [] [] [10] Yt
  ⟨fun _ _ _ _ _ _ _ kG=>Zy 1 [2] [] [] N [] [(2,Zc [Zq me 0,Zn p,Zn p,a3,a4,a5,Zp])] kG,fun _ _ _ _ _ _ _ kG=>Zy 1 [2] [] [] N [] [(2,Zc [Zq me 0,Zn p,Zn (p+1),a3,a4,a5,Zp])] kG,trivial⟩
  ⟨Y4 fun _ _=>Yl rfl (Xr rfl rfl rfl (by omega)),trivial⟩ rfl ?_
 refine Yh (Za 2 [] [(23,Zq mc 0),(24,Zq f 0)] [] (Xo 3 [0,2,1] [] Zj J J J J (hD _) ?_));rintro _ N1 _ ⟨ω,rfl,rfl⟩;refine ⟨_,([(mc,MC1 ω),(f,Zc [Zq me 0,Zn p,Zn (p+1),a3,a4,a5,Zp])]++(U1 ω)),J,Yo (A:=[(mc,MC1 ω),(f,.cells [Zq me 0,Zn p,Zn (p+1),a3,a4,a5,Zp])]) (R:=[]) (T:=(U1 ω)),?_⟩;refine Za 5 [] [(3,Zp),(4,Zb false)] [] (Z1 (Zd (Za 2 [] [(29,Zb true)] [] (Zg (Yj J (Zd (Zy 8 [1,1] [] [] N1 [] [(1,Zc [Zq me 0,Zn p,Zn p,a3,a4,a5,Zp])] (Zg (Yc (Xg (Wk 2 [0,1] (.inr J) Zj J ?_)))))))))));exact ⟨ω,J,J⟩
theorem Sr {Θ:Type} {r0 r1 r2 r3 r4 r5 r6 r7 r8 r9 r10 r11 r13 r14 r15 r16:Θ->SV} {FR1:Θ->SB} {U1:Θ->Ch} (hq:us.length=q) (hqb:q<=1000) (hp:p<=1000) (hd:(dn:Int)+1≠fu) (hdb:dn<=100000)
  (hD:∀ N,HF Tryz.prog 383 [.ptr mc 0,.ptr f 0] N ([(mc,.cells [m0,m1,m2,m3,m4,m5,m6,m7,m8,m9,m10,.sl un 0 (q+1) 0,.ptr mt 0,m13,m14,m15,m16]),(f,.cells [.ptr me 0,Zn p,Zn (p+1),a3,a4,a5,Zp]),(un,.row 364 1 (q+1) (us++[.ptr f 0]))]++U) fun u N' H'=>∃ ω:Θ,u=.tup [Zp,Zb true]/\H'=[(mc,.cells [(r0 ω),(r1 ω),(r2 ω),(r3 ω),(r4 ω),(r5 ω),(r6 ω),(r7 ω),(r8 ω),(r9 ω),(r10 ω),(r11 ω),.ptr mt 0,(r13 ω),(r14 ω),(r15 ω),(r16 ω)]),(f,FR1 ω)]++U1 ω) :
  HF Tryz.prog 353 [.ptr mc 0] N ([(mc,.cells [m0,m1,m2,m3,m4,m5,m6,m7,m8,m9,m10,.sl un 0 (q+1) 0,.ptr mt 0,m13,m14,m15,m16]),(f,.cells [.ptr me 0,a1,Zn p,a3,a4,a5,Zp]),(un,.row 364 1 (q+1) (us++[.ptr f 0])),(mt,.cells [Zi fu,Zn dn,.ch ch]),(ch,.chan cp kc)]++U) fun u N' H'=>∃ ω:Θ,u=.tup []/\H'=[(mc,.cells [(r0 ω),(r1 ω),(r2 ω),(r3 ω),(r4 ω),(r5 ω),(r6 ω),(r7 ω),(r8 ω),(r9 ω),(r10 ω),(r11 ω),.ptr mt 0,(r13 ω),(r14 ω),(r15 ω),(r16 ω)]),(f,FR1 ω),(mt,.cells [Zi fu,Zn (dn+1),.ch ch]),(ch,.chan cp kc)]++U1 ω:=by
 refine hf1 Tryz.func353 J Tryz.ntmps353 fun _ _ _ _=>?_;refine Zd (Za 1 [] [(5,Zq mc 0)] [] (Z0 [0,2] [2,0] Zj J J J J (Ll hq hqb) J (Za 1 [] [(2,Zq f 0)] [] (Z1 ?_))))
 refine Y0 [.ptr f 0,.ptr f 0,.ptr f 0,.ptr f 0,.ptr f 2,Zn p,.ptr f 0,.ptr f 0,.ptr f 2,Zn p,Zn (p+1),.ptr f 0,.ptr f 1,.tup [],.ptr f 0,.ptr f 2,.tup []] [13,16] [(_,_),(_,_)] [2,2] [] [] [10] Yt
  ⟨fun _ _ _ _ _ _ _ kG=>Zy 1 [2] [] [] N [] [(2,Zc [Zq me 0,Zn p,Zn p,a3,a4,a5,Zp])] kG,fun _ _ _ _ _ _ _ kG=>Zy 1 [2] [] [] N [] [(2,Zc [Zq me 0,Zn p,Zn (p+1),a3,a4,a5,Zp])] kG,trivial⟩
  ⟨Y4 fun _ _=>Yl rfl (Xr rfl rfl rfl (by omega)),trivial⟩ rfl ?_
 refine Yh (Za 2 [] [(23,Zq mc 0),(24,Zq f 0)] [] (Xo 5 [0,2,1] [3,4] Zj J J J J (hD _) ?_));rintro _ N1 _ ⟨ω,rfl,rfl⟩;refine ⟨_,([(mc,Zc [r0 ω,r1 ω,r2 ω,r3 ω,r4 ω,r5 ω,r6 ω,r7 ω,r8 ω,r9 ω,r10 ω,r11 ω,Zq mt 0,r13 ω,r14 ω,r15 ω,r16 ω]),(f,FR1 ω),(mt,Zc [Zi fu,Zn dn,SV.ch ch]),(ch,SB.chan cp kc)]++(U1 ω)),J,Yo (A:=[(mc,.cells [r0 ω,r1 ω,r2 ω,r3 ω,r4 ω,r5 ω,r6 ω,r7 ω,r8 ω,r9 ω,r10 ω,r11 ω,Zq mt 0,r13 ω,r14 ω,r15 ω,r16 ω]),(f,FR1 ω)]) (R:=[(mt,.cells [Zi fu,Zn dn,SV.ch ch]),(ch,.chan cp kc)]) (T:=(U1 ω)),?_⟩;refine Za 5 [] [(3,Zp),(4,Zb true)] [] (Z1 (Zd (Za 2 [] [(29,Zb false)] [] (Zg (Z6 J (Ya (Yh (Za 4 [0] [(40,Zq mt 0)] [] (Z0 [2,3] [3,2] Zj J J J J (I4 hd hdb) J (Zx (Za 2 [] [(43,Zb false)] [] (Zg (Z6 J (Ya (Wk 4 [2,3,0,1] (.inl J) Zj J ?_)))))))))))))));exact ⟨ω,J,J⟩
end
end S
namespace S
open Go Go.RowKit E
section
set_option maxRecDepth 10000
variable {N mc f c un ev k q bx:Nat} {us es:List SV} {nb:ByteArray} {g:FuncId} {cap:List SV} {v w a0 a1 a2 a3 a4 a6 m0 m1 m2 m3 m4 m5 m6 m7 m8 m9 m10 m12 m13 m14 m16 k1 k2 k3 k4 k5 k6 k7 k8 k9 k10:SV}
theorem Fb (hl:us.length=q) (hq:q<=1000) (he:es.length=k*3) (hk:k<=20000) :
  HF Tryz.prog 223 [.ptr mc 0,.ptr f 0,v] N [(mc,.cells [m0,m1,m2,m3,m4,m5,m6,m7,m8,m9,m10,.sl un 0 (q+1) 0,m12,m13,m14,.sl ev 0 (k) 0,m16]),(f,.cells [a0,a1,a2,a3,a4,.ptr c 0,a6]),(un,.row 364 1 (q+1) (us++[w])),(ev,.row 98 3 k es),(c,.cells [Zs nb,k1,k2,k3,k4,k5,k6,k7,k8,k9,k10])] fun u N' H'=>u=Zp/\N'=N+2/\H'=[(mc,.cells [m0,m1,m2,m3,m4,m5,m6,m7,m8,m9,m10,.sl un 0 (q) 0,m12,m13,m14,.sl (N+1) 0 (k+1) 0,m16]),(f,.cells [a0,a1,a2,a3,a4,.ptr c 0,a6]),(un,.row 364 1 q us),(N+1,.row 98 3 (k+1) (es++[Zi 4,Zi 0,Zs nb])),(c,.cells [Zs nb,k1,k2,k3,k4,k5,k6,k7,k8,k9,k10])]:=by
 refine hf1 Tryz.func223 J Tryz.ntmps223 fun _ _ _ _=>?_;refine Zd (Za 1 [] [(6,Zp)] [] (Zx (Za 1 [] [(7,Zq mc 0)] [] (Z0 [0,2] [2,0] Zj J J J J (Mh hl hq) J (Z1 (Zd (Za 5 [2] [(13,Zb true)] [] (Zg (Yj J (Zo (Za 8 [2,4] [(14,Zq mc 0),(21,Zs nb)] [] (Z0 [0,3] [3,0] Zj J J J J (Va he hk) J (Zx (Za 1 [] [(6,Zp)] [] (Zg (Yc (Z5 [0,3,2,1,4] (.inr J) Zj J (by decide) ?_)))))))))))))))));exact ⟨J,J,J⟩
end
section
set_option maxRecDepth 100000
variable {N:Nat}
structure TabL (tab:List SV) (N:Nat):Prop where
 new:cutAt tab (0+15*7) 7=[.fn 213 [] [],.v .nilFunc,Zb true,.v .nilFunc,.fn 214 [] [],.v .nilFunc,.v .nilFunc]
 get:cutAt tab (0+18*7) 7=[.fn 346 [] [.ptr (N+8) 0],.v .nilFunc,Zb true,.v .nilFunc,.v .nilFunc,.fn 218 [] [],.v .nilFunc]
 is:cutAt tab (0+26*7) 7=[.fn 213 [] [],.fn 226 [] [],Zb false,.fn 228 [] [],.fn 229 [] [],.v .nilFunc,.v .nilFunc]
theorem Lq:TabL (tabC N) N:=by constructor<;>kernel_rfl
theorem J3:HF Tryz.prog 127 [] N [] fun u N' H'=>u=.sl (N+15) 0 33 0/\N'=N+16/\H'=[(N+15,.row 307 7 33 (tabC N)),(N,.cells [.fn 204 [] []]),(N+1,.cells [.fn 205 [] []]),(N+2,.cells [.fn 206 [] []]),(N+7,.cells [Zb true]),(N+8,.cells [.fn 299 [] [.ptr (N+7) 0]])]:=by
 have h:=Rj (bs:=[]) (N:=N) (Rk 2000 _ _ (Q0 opsR_ok)) rfl (by decide) (by kernel_rfl) (by kernel_rfl);have hv:ren (rho [] N) (rsV opsR)=.sl (N+15) 0 33 0:=by kernel_rfl
 have hn:N+((rsS opsR).n - ([]:List Nat).length)=N+16:=by kernel_rfl
 rw [show rsV (R1 2000 (.call 127 [] (stOf [])))=rsV opsR from rfl,hv] at h;rw [show rsS (R1 2000 (.call 127 [] (stOf [])))=rsS opsR from rfl,hn] at h;exact HF.less [15,0,1,2,7,8] h (by decide) (by kernel_rfl)
end
section
set_option maxRecDepth 10000
variable {N mc c bx by':Nat} {nb:ByteArray} {r1 r2 r3 r4:SV} {U:Ch} {g:FuncId} {cap:List SV}
theorem Hh {Θ Z:Type} {c:Θ->Nat} {U1:Θ->Ch} {tt:Θ->Z->Nat} {tx:Θ->Z->SV} {U2:Θ->Z->Ch} (h1:sOne r1=true) (h2:sOne r2=true) (h3:sOne r3=true) (h4:sOne r4=true)
  (hH:∀ N,HF Tryz.prog 295 [.ptr mc 0,Zs nb] N ([]++U) fun u N' H'=>∃ ω:Θ,u=.ifc 323 (.agg [.ptr (c ω) 0])/\H'=[]++U1 ω)
  (hG:∀ ω N,HF Tryz.prog g ([.ptr (c ω) 0,.agg [Zs nb,r1,r2,r3,r4]]++cap) N ([]++U1 ω) fun u N' H'=>∃ ζ:Z,u=.ifc (tt ω ζ) (tx ω ζ)/\H'=[]++U2 ω ζ) :
  HF Tryz.prog 346 [.ptr mc 0,.agg [Zs nb,r1,r2,r3,r4],.ptr bx 0] N ([(bx,.cells [.fn g [] cap])]++U) fun u N' H'=>∃ (ω:Θ) (ζ:Z),u=.ifc (tt ω ζ) (tx ω ζ)/\H'=[(bx,.cells [.fn g [] cap])]++U2 ω ζ:=by
 refine hf1 Tryz.func346 J Tryz.ntmps346 fun _ _ _ _=>?_;refine Zd (Zy 2 [] [(4,Zq N 0),(5,Zf)] [] (N+1) [(N,Zc [Zs nb,r1,r2,r3,r4])] [] (Zx (Za 3 [0] [(8,Zq mc 0),(10,Zs nb)] [] (Xo 2 [] [0,1] Zj J J J J (hH _) ?_))));rintro _ N1 _ ⟨ω,rfl,rfl⟩;refine ⟨_,([(N,Zc [Zs nb,r1,r2,r3,r4]),(bx,Zc [Zh g [] cap])]++(U1 ω)),J,Yo (A:=[]) (R:=[(N,.cells [Zs nb,r1,r2,r3,r4]),(bx,.cells [Zh g [] cap])]) (T:=(U1 ω)),?_⟩;refine Za 1 [] [(6,SV.ifc 323 (SV.agg [Zq (c ω) 0]))] [] (Z1 (Zd (Za 1 [] [(12,SV.ifc 323 (SV.agg [Zq (c ω) 0]))] [] (Zg (Zv (Zd (Za 3 [] [(14,Zb true),(15,SV.agg [Zq (c ω) 0])] [] (Zg (Yj J (Zd (Zy 2 [0] [(7,Zq N1 0)] [] (N1+1) [(N1,Zc [Zq (c ω) 0])] [] (Zx (Za 4 [2,0,1] [(16,Zh g [] cap),(18,Zq (c ω) 0),(19,SV.agg [Zs nb,r1,r2,r3,r4])] [] (Xo 3 [] [0,1,2] Zj J J J J (hG ω _) ?_))))))))))))));rintro _ N2 _ ⟨ζ,rfl,rfl⟩;refine ⟨_,([(N1,Zc [Zq (c ω) 0]),(N,Zc [Zs nb,r1,r2,r3,r4]),(bx,Zc [Zh g [] cap])]++(U2 ω ζ)),J,Yo (A:=[]) (R:=[(N1,.cells [Zq (c ω) 0]),(N,.cells [Zs nb,r1,r2,r3,r4]),(bx,.cells [Zh g [] cap])]) (T:=(U2 ω ζ)),?_⟩;refine Za 1 [] [(5,SV.ifc (tt ω ζ) (tx ω ζ))] [] (Zg (Yc (Wu (Xg (Wk 3 [2] (.inr J) Zj J ?_)))));exact ⟨ω,ζ,J,J⟩
end
end S
namespace S
open Go Go.RowKit E
section
variable {bt:Nat->Bool} {ob:Nat}
theorem Zcr:∀ (k:Nat),k<8->∀ (ls:List LP) (es:List (ByteArray × SV)),Wf bt ls->NmOk ob es ls->∃ ls' es',Grown bt ob k ls es ls' es':=by
 have found:∀ (k:Nat) (ls:List LP) (es:List (ByteArray × SV)),Wf bt ls->NmOk ob es ls->k<ls.length->∃ ls' es',Grown bt ob k ls es ls' es' :=
  fun k ls es hw hok h=>⟨ls,es,⟨by omega,hw,hok,fun _ _=>rfl,[],rfl,fun p hp=>by cases hp⟩⟩
 have more:∀ (k:Nat),k<8->∀ (ls ls1:List LP) (es es1:List (ByteArray × SV)),ls.length<=k->ls1.length=k->Wf bt ls1->NmOk ob es1 ls1->(∀ key,(∀ j,j<=k->key≠nmL j)->findS key es1=findS key es)->(∃ new,ls1=new++ls/\∀ p ∈ new,p.up=false)->∃ ls' es',Grown bt ob k ls es ls' es':=by
  intro k hk ls ls1 es es1 hl hl1 hw hok hold ⟨new,hnew,hz⟩;let p:LP:=⟨bt k,false,k,0,0,0,0,0,0,0,0,0⟩;have hm:=hok.more (p:=p) (by omega);rw [hl1] at hm;refine ⟨p::ls1,_,⟨by simp only [List.length_cons];omega,⟨hl1.symm,rfl,hw⟩,hm,fun key hkey=>?_,p::new,by rw [hnew];rfl,fun z hz'=>?_⟩⟩
  ·rw [Xw (hkey k (by omega)),hold key hkey]
  ·rcases List.mem_cons.1 hz' with rfl | h
   ·rfl
   ·exact hz z h
 intro k;induction k with
 | zero =>
  intro hk ls es hw hok;by_cases hl:0<ls.length
  ·exact found 0 ls es hw hok hl
  ·exact more 0 hk ls ls es es (by omega) (by omega) hw hok (fun _ _=>J) ⟨[],J,fun p hp=>by cases hp⟩
 | succ k ih =>
  intro hk ls es hw hok;by_cases hl:k+1<ls.length
  ·exact found (k+1) ls es hw hok hl
  ·obtain ⟨ls1,es1,h⟩:=ih (by omega) ls es hw hok;exact more (k+1) hk ls ls1 es es1 (by omega) (by have:=h.len;omega) h.wf h.ok (fun key hkey=>h.old key fun j hj=>hkey j (by omega)) h.ext
structure Hv (bt:Nat->Bool) (ob k:Nat) (ls:List LP) (es:List (ByteArray × SV)) where
 (n ev:Nat) (ls':List LP) (es':List (ByteArray × SV)) (g:Grown bt ob k ls es ls' es')
end
section
set_option maxRecDepth 10000
variable {bt:Nat->Bool} {ob N cd p q ev ek k:Nat} {code:List SV} {evs:List SV} {ls:List LP} {es:List (ByteArray × SV)} {t1 t2 t3 t4 t5 t6 r1 r2 r3 r4:SV}
theorem hv_ex (hk:k<8) (hw:Wf bt ls) (hok:NmOk ob es ls):Nonempty (Hv bt ob k ls es) :=
 let ⟨ls',es',h⟩:=Zcr k hk ls es hw hok
 ⟨⟨0,0,ls',es',h⟩⟩
theorem findL (x:Ml) (hk:k<8) (hw:Wf bt ls) (hok:NmOk ob es ls) (hno:∀ j,ls.length<=j->j<=k->findS (nmL j) es=none) (he:evs.length=ek*3) (hek:ek+k<=20000) (h1:sOne r1=true) (h2:sOne r2=true) (h3:sOne r3=true) (h4:sOne r4=true) :
  HF Tryz.prog 213 [.ptr x.mc 0,.agg [Zs (nmL k),r1,r2,r3,r4]] N (x.H bt ev ek evs es (lnB ob ls)) fun u N' H'=>∃ θ:Hv bt ob k ls es,u=.ifc 323 (.agg [.ptr (cAt θ.ls' k) 0])/\N'=θ.n/\H'=x.H bt θ.ev (ek+(k+1 - ls.length)) (evs++Ye (k+1 - ls.length) k) θ.es' (lnB ob θ.ls'):=by
 refine (O0 (R:=fun u N' H'=>∃ θ:Hv bt ob k ls es,u=.ifc 323 (.agg [.ptr (cAt θ.ls' k) 0])/\N'=θ.n/\H'=x.H bt θ.ev (ek+(k+1 - ls.length)) (evs++Ye (k+1 - ls.length) k) θ.es' (lnB ob θ.ls')) h1 h2 h3 h4 fun N=>(haveL x k hk ls es hw hok hno N ev ek evs he hek).mono ?_).mono ?_
 ·rintro u N' H' ⟨ls',es',ev',rfl,rfl,h⟩;exact ⟨_,_,J,⟨N',ev',ls',es',h⟩,J,J,J⟩
 ·rintro u N' H' ⟨t,y,rfl,h⟩;exact h
theorem lookL (x:Ml) (hk:k<8) (hw:Wf bt ls) (hok:NmOk ob es ls) (hno:∀ j,ls.length<=j->j<=k->findS (nmL j) es=none) (he:evs.length=ek*3) (hek:ek+k<=20000) (hp:p<q) (hq:q<=1000) (h1:sOne t1=true) (h2:sOne t2=true) (h3:sOne t3=true) (h4:sOne t4=true) (h5:sOne t5=true) (h6:sOne t6=true) (hl:code.length=q*8) (hc:code[0+p*8+7]?=some (.ifc 485 (.agg []))) (hr:cutAt code (0+p*8+2) 5=[Zs (nmL k),r1,r2,r3,r4]) (g1:sOne r1=true) (g2:sOne r2=true) (g3:sOne r3=true) (g4:sOne r4=true) :
  HF Tryz.prog 395 [.ptr x.mc 0,.agg [.fn 213 [] [],t1,t2,t3,t4,t5,t6],.ptr cd (0+p*8)] N ([(cd,.row 475 8 q code)]++x.H bt ev ek evs es (lnB ob ls)) fun u N' H'=>∃ θ:Hv bt ob k ls es,u=.tup []/\N'=θ.n/\H'=[(cd,.row 475 8 q (sput code (0+p*8+7) [.ifc 323 (.agg [.ptr (cAt θ.ls' k) 0])]))]++x.H bt θ.ev (ek+(k+1 - ls.length)) (evs++Ye (k+1 - ls.length) k) θ.es' (lnB ob θ.ls'):=by
 obtain ⟨θ0⟩:=hv_ex hk hw hok;exact P6 (Θ:=Hv bt ob k ls es) θ0 (U:=x.H bt ev ek evs es (lnB ob ls)) (U1:=fun θ=>x.H bt θ.ev (ek+(k+1 - ls.length)) (evs++Ye (k+1 - ls.length) k) θ.es' (lnB ob θ.ls')) (tt:=fun _=>323) (tx:=fun θ=>.agg [.ptr (cAt θ.ls' k) 0]) (nn:=fun θ=>θ.n) hp hq h1 h2 h3 h4 h5 h6 hl hc hr fun N=>findL x hk hw hok hno he hek g1 g2 g3 g4
end
end S
namespace S
open Go Go.RowKit E
section
variable {bt:Nat->Bool} {ob k:Nat}
theorem Zbw:∀ r:List LP,∃ K,(lnB ob r).Perm ((ob,obB)::K)
 | []=>⟨[],List.Perm.refl _⟩
 | p::r=>by
  obtain ⟨K,h⟩:=Zbw r;refine ⟨(p.c,p.cB (Xh ob r))::(p.tB++(p.xB++K)),?_⟩;show ((p.c,p.cB (Xh ob r))::(p.tB++(p.xB++lnB ob r))).Perm _
  have h1:((p.c,p.cB (Xh ob r))::(p.tB++(p.xB++lnB ob r))).Perm (((p.c,p.cB (Xh ob r))::(p.tB++p.xB))++((ob,obB)::K)):=by
   rw [<- List.append_assoc,List.cons_append];exact List.Perm.cons _ (List.Perm.append_left _ h)
  refine h1.trans (List.perm_middle.trans ?_);rw [List.cons_append,List.append_assoc]
abbrev srB:SB:=.row 366 1 1 [.ifc 3 (Zi 0)]
theorem Qf {ls:List LP} (hw:Wf bt ls) (hk:k<ls.length):∃ (p:LP) (sp:Nat) (K:Ch),p ∈ ls/\p.c=cAt ls k/\p.j=k/\(lnB ob ls).Perm ([(p.c,p.cB sp),(p.fr,.row 380 5 1 Vf),(p.sr,srB),(ob,obB)]++K):=by
 obtain ⟨pre,p,r,rfl,hr,hj,hb,hc⟩:=Vp hw hk;obtain ⟨K0,h0⟩:=Zbw (ob:=ob) r
 have key:∃ K1,((p.c,p.cB (Xh ob r))::(p.tB++(p.xB++lnB ob r))).Perm ([(p.c,p.cB (Xh ob r)),(p.fr,.row 380 5 1 Vf),(p.sr,srB),(ob,obB)]++K1):=by
  obtain ⟨pb,pu,pj,c,fr,sr,mr,me,cd,rf,rc,rm⟩:=p;cases pb with
  | true =>
   refine ⟨[(mr,.row 329 1 1 [.ptr me 0]),(me,stB rc cd),(rf,.row 128 4 1 Yk),(rc,.row 75 7 3 (Xx (.ofNat pj)).flatten),(rm,Yy rc),(cd,.row 475 8 3 (Wd (Xx (.ofNat pj)) 3))]++K0,?_⟩;have h1:((c,LP.cB ⟨true,pu,pj,c,fr,sr,mr,me,cd,rf,rc,rm⟩ (Xh ob r))::(LP.tB ⟨true,pu,pj,c,fr,sr,mr,me,cd,rf,rc,rm⟩++(LP.xB ⟨true,pu,pj,c,fr,sr,mr,me,cd,rf,rc,rm⟩++lnB ob r))).Perm ([(c,LP.cB ⟨true,pu,pj,c,fr,sr,mr,me,cd,rf,rc,rm⟩ (Xh ob r)),(mr,.row 329 1 1 [.ptr me 0]),(me,stB rc cd),(rf,.row 128 4 1 Yk),(rc,.row 75 7 3 (Xx (.ofNat pj)).flatten),(rm,Yy rc),(fr,.row 380 5 1 Vf),(sr,srB),(cd,.row 475 8 3 (Wd (Xx (.ofNat pj)) 3)),(ob,obB)]++K0):=List.Perm.append_left [(c,LP.cB ⟨true,pu,pj,c,fr,sr,mr,me,cd,rf,rc,rm⟩ (Xh ob r)),(mr,.row 329 1 1 [.ptr me 0]),(me,stB rc cd),(rf,.row 128 4 1 Yk),(rc,.row 75 7 3 (Xx (.ofNat pj)).flatten),(rm,Yy rc),(fr,.row 380 5 1 Vf),(sr,srB),(cd,.row 475 8 3 (Wd (Xx (.ofNat pj)) 3))] h0;refine h1.trans ?_;have h2:=Xz (H:=[(c,LP.cB ⟨true,pu,pj,c,fr,sr,mr,me,cd,rf,rc,rm⟩ (Xh ob r)),(mr,.row 329 1 1 [.ptr me 0]),(me,stB rc cd),(rf,.row 128 4 1 Yk),(rc,.row 75 7 3 (Xx (.ofNat pj)).flatten),(rm,Yy rc),(fr,.row 380 5 1 Vf),(sr,srB),(cd,.row 475 8 3 (Wd (Xx (.ofNat pj)) 3)),(ob,obB)]) (ds:=[0,1,2,3,4,5,6,7,8,9]) (is:=[0,6,7,9,1,2,3,4,5,8]) (by decide);exact h2.append_right K0
  | false =>
   refine ⟨[(rf,.row 128 4 1 Yk)]++K0,?_⟩;have h1:((c,LP.cB ⟨false,pu,pj,c,fr,sr,mr,me,cd,rf,rc,rm⟩ (Xh ob r))::(LP.tB ⟨false,pu,pj,c,fr,sr,mr,me,cd,rf,rc,rm⟩++(LP.xB ⟨false,pu,pj,c,fr,sr,mr,me,cd,rf,rc,rm⟩++lnB ob r))).Perm ([(c,LP.cB ⟨false,pu,pj,c,fr,sr,mr,me,cd,rf,rc,rm⟩ (Xh ob r)),(rf,.row 128 4 1 Yk),(fr,.row 380 5 1 Vf),(sr,srB),(ob,obB)]++K0):=List.Perm.append_left [(c,LP.cB ⟨false,pu,pj,c,fr,sr,mr,me,cd,rf,rc,rm⟩ (Xh ob r)),(rf,.row 128 4 1 Yk),(fr,.row 380 5 1 Vf),(sr,srB)] h0;refine h1.trans ?_;have h2:=Xz (H:=[(c,LP.cB ⟨false,pu,pj,c,fr,sr,mr,me,cd,rf,rc,rm⟩ (Xh ob r)),(rf,.row 128 4 1 Yk),(fr,.row 380 5 1 Vf),(sr,srB),(ob,obB)]) (ds:=[0,1,2,3,4]) (is:=[0,2,3,4,1]) (by decide);exact h2.append_right K0
 obtain ⟨K1,h1⟩:=key;refine ⟨p,Xh ob r,K1++prB (Xh ob (p::r)) pre,List.mem_append_right _ List.mem_cons_self,hc,hj,?_⟩;rw [Wg];refine List.perm_append_comm.trans ?_;rw [<- List.append_assoc];exact h1.append_right _
end
section
set_option maxRecDepth 10000
variable {bt:Nat->Bool} {ob k N bx:Nat} {ls:List LP} {nb:ByteArray} {qa:Option Addr} {qb:Nat} {U K:Ch}
theorem fieldL (hw:Wf bt ls) (hk:k<ls.length) (hp:U.Perm ((bx,.cells [Zb true])::(lnB ob ls++K))):HF Tryz.prog 299 [.ptr (cAt ls k) 0,refX nb qa qb,.ptr bx 0] N U fun u _ H'=>u=.ifc 384 (.agg [.ptr (cAt ls k) 0,Zi 0])/\H'=U:=by
 obtain ⟨p,sp,K1,_,hc,_,hl⟩:=Qf (ob:=ob) hw hk;rw [<- hc];refine HF.stay (K:=(p.sr,srB)::(ob,obB)::(K1++K)) (field_x (x:=⟨Zs (nmL p.j),.ptr sp 0,Zs (nmL p.j),Zs (spL p.j),.sl p.rf 0 1 0,p.mR,Zi (upI p.up),p.mM,.sl p.sr 0 1 0,Zz⟩) (fr:=p.fr)) ?_;refine hp.trans ((List.Perm.cons _ (hl.append_right K)).trans ?_);have h2:=Xz (H:=[(bx,.cells [Zb true]),(p.c,p.cB sp),(p.fr,.row 380 5 1 Vf),(p.sr,srB),(ob,obB)]) (ds:=[0,1,2,3,4]) (is:=[1,2,0,3,4]) (by decide);have h3:=h2.append_right (K1++K);rw [List.append_assoc];exact h3
theorem upL {s mc:Nat} (hw:Wf bt ls) (hs:Stt s ls) (hk:k<ls.length) (hks:k<s) (hp:U.Perm (lnB ob ls++K)):HF Tryz.prog 316 [.ptr mc 0,.ptr (cAt ls k) 0] N U fun u _ H'=>u=.tup [Zp,Zb true]/\H'=U:=by
 obtain ⟨p,sp,K1,hm,hc,hj,hl⟩:=Qf (ob:=ob) hw hk;have hu:=hs p hm;rw [hj,decide_eq_true hks] at hu;rw [<- hc];refine HF.stay (K:=(p.fr,.row 380 5 1 Vf)::(p.sr,srB)::(ob,obB)::(K1++K)) ((P2 (mc:=mc) (c:=p.c) (k0:=Zs (nmL p.j)) (k1:=.ptr sp 0) (k2:=Zs (nmL p.j)) (k3:=Zs (spL p.j)) (k4:=.sl p.rf 0 1 0) (k5:=p.mR) (k7:=.sl p.fr 0 1 0) (k8:=p.mM) (k9:=.sl p.sr 0 1 0) (k10:=Zz)).mono fun u N' H' h=>⟨h.1,h.2.2⟩) ?_;refine hp.trans ((hl.append_right K).trans ?_);rw [List.append_assoc];have e:p.cB sp=.cells [Zs (nmL p.j),.ptr sp 0,Zs (nmL p.j),Zs (spL p.j),.sl p.rf 0 1 0,p.mR,Zi 1,.sl p.fr 0 1 0,p.mM,.sl p.sr 0 1 0,Zz]:=by unfold LP.cB;rw [hu];rfl
 rw [e];exact List.Perm.refl _
end
end S
namespace S
open Go Go.RowKit E
theorem HF.first {P:Program} {f:FuncId} {args:List SV} {N:Nat} {H:Ch} {R:SV->Nat->Ch->Prop} (q:Nat × SB) (h:HF P f args N H R):HF P f args N (q::H) fun u N' H'=>∃ H1,R u N' H1/\H'=q::H1 :=
 HF.permR (HF.conv (K:=[q]) h (List.perm_append_comm (l₁:=[q]) (l₂:=H))) fun v N' H1 ⟨H0,hR,hp⟩=>⟨q::H0,hp.symm.trans (List.perm_append_comm (l₁:=H0) (l₂:=[q])),H0,hR,rfl⟩
section
set_option maxRecDepth 10000
variable {bt:Nat->Bool} {ob N cd p q ev ek k b7 b8:Nat} {code:List SV} {evs:List SV} {ls:List LP} {es:List (ByteArray × SV)} {t1 t2 t3 t4 t5 t6:SV} {qa:Option Addr} {qb:Nat}
abbrev bx2 (b7 b8:Nat):Ch:=[(b8,.cells [.fn 299 [] [.ptr b7 0]]),(b7,.cells [Zb true])]
theorem findS_L (x:Ml) (hk:k<8) (hw:Wf bt ls) (hok:NmOk ob es ls) (hno:∀ j,ls.length<=j->j<=k->findS (nmL j) es=none) (he:evs.length=ek*3) (hek:ek+k<=20000) :
  HF Tryz.prog 346 [.ptr x.mc 0,refX (nmL k) qa qb,.ptr b8 0] N (bx2 b7 b8++x.H bt ev ek evs es (lnB ob ls)) fun u N' H'=>∃ θ:Hv bt ob k ls es,u=.ifc 384 (.agg [.ptr (cAt θ.ls' k) 0,Zi 0])/\N'=θ.n/\H'=bx2 b7 b8++x.H bt θ.ev (ek+(k+1 - ls.length)) (evs++Ye (k+1 - ls.length) k) θ.es' (lnB ob θ.ls'):=by
 refine (Hh (Θ:=Hv bt ob k ls es) (Z:=Unit) (c:=fun θ=>cAt θ.ls' k) (U:=(b7,.cells [Zb true])::x.H bt ev ek evs es (lnB ob ls)) (U1:=fun θ=>(b7,.cells [Zb true])::x.H bt θ.ev (ek+(k+1 - ls.length)) (evs++Ye (k+1 - ls.length) k) θ.es' (lnB ob θ.ls')) (tt:=fun _ _=>384) (tx:=fun θ _=>.agg [.ptr (cAt θ.ls' k) 0,Zi 0]) (U2:=fun θ _=>(b7,.cells [Zb true])::x.H bt θ.ev (ek+(k+1 - ls.length)) (evs++Ye (k+1 - ls.length) k) θ.es' (lnB ob θ.ls')) J J J J (fun N=>?_) (fun ω N=>?_)).mono ?_
 ·refine ((haveL x k hk ls es hw hok hno N ev ek evs he hek).first _).mono ?_;rintro u N' H' ⟨H1,⟨ls',es',ev',rfl,rfl,h⟩,rfl⟩;exact ⟨⟨N',ev',ls',es',h⟩,J,J⟩
 ·have hl:k<ω.ls'.length:=by have:=ω.g.len;omega
  refine (fieldL (ob:=ob) (bt:=bt) (bx:=b7) (ls:=ω.ls') (k:=k) (K:=x.H bt ω.ev (ek+(k+1 - ls.length)) (evs++Ye (k+1 - ls.length) k) ω.es' []) ω.g.wf hl ?_).mono ?_
  ·exact List.Perm.cons _ List.perm_append_comm
  ·rintro u N' H' ⟨rfl,rfl⟩;exact ⟨(),J,J⟩
 ·rintro u N' H' ⟨ω,_,rfl,rfl⟩;exact ⟨⟨N',ω.ev,ω.ls',ω.es',ω.g⟩,J,J,J⟩
theorem Zcf (x:Ml) (hk:k<8) (hw:Wf bt ls) (hok:NmOk ob es ls) (hno:∀ j,ls.length<=j->j<=k->findS (nmL j) es=none) (he:evs.length=ek*3) (hek:ek+k<=20000) (hp:p<q) (hq:q<=1000) (h1:sOne t1=true) (h2:sOne t2=true) (h3:sOne t3=true) (h4:sOne t4=true) (h5:sOne t5=true) (h6:sOne t6=true) (hl:code.length=q*8) (hc:code[0+p*8+7]?=some (.ifc 485 (.agg []))) (hr:cutAt code (0+p*8+2) 5=[Zs (nmL k),Zs xS,Zl qa qb,Zi 1,Ze]) :
  HF Tryz.prog 395 [.ptr x.mc 0,.agg [.fn 346 [] [.ptr b8 0],t1,t2,t3,t4,t5,t6],.ptr cd (0+p*8)] N ([(cd,.row 475 8 q code)]++(bx2 b7 b8++x.H bt ev ek evs es (lnB ob ls))) fun u N' H'=>∃ θ:Hv bt ob k ls es,u=.tup []/\N'=θ.n/\H'=[(cd,.row 475 8 q (sput code (0+p*8+7) [.ifc 384 (.agg [.ptr (cAt θ.ls' k) 0,Zi 0])]))]++(bx2 b7 b8++x.H bt θ.ev (ek+(k+1 - ls.length)) (evs++Ye (k+1 - ls.length) k) θ.es' (lnB ob θ.ls')):=by
 obtain ⟨θ0⟩:=hv_ex hk hw hok;exact P6 (Θ:=Hv bt ob k ls es) θ0 (U:=bx2 b7 b8++x.H bt ev ek evs es (lnB ob ls)) (U1:=fun θ=>bx2 b7 b8++x.H bt θ.ev (ek+(k+1 - ls.length)) (evs++Ye (k+1 - ls.length) k) θ.es' (lnB ob θ.ls')) (tt:=fun _=>384) (tx:=fun θ=>.agg [.ptr (cAt θ.ls' k) 0,Zi 0]) (nn:=fun θ=>θ.n) hp hq h1 h2 h3 h4 h5 h6 hl hc hr fun N=>findS_L x hk hw hok hno he hek
end
end S
namespace S
open Go Go.RowKit E
section
set_option maxRecDepth 10000
variable {mc f me cd tb N un mt ch cp kc dn fu c rc ev ek s wa ws wm:Nat} {a1 lo v0 m0 m1 m2 m3 m4 m5 m6 m7 m9 m10 m13 m14 m16 k1 k2 k3 k4 k5 k6 k7 k8 k9 k10:SV} {tab evs:List SV} {j:Int} {nb:ByteArray} {K:Ch}
theorem st_push (ht:TabOk tab wa ws wm) (hd:(dn:Int)+1≠fu) (hdb:dn<=100000) :
  HF Tryz.prog 353 [.ptr mc 0] N ([(mc,.cells [m0,m1,m2,m3,m4,m5,m6,m7,.sl tb 0 33 0,m9,m10,.sl un 0 2 0,.ptr mt 0,m13,m14,.sl ev 0 ek 0,m16]),(f,.cells [.ptr me 0,a1,Zn 0,lo,Zz,.ptr c 0,Zp]),(me,stB rc cd),(cd,.row 475 8 3 (Wd (Xx j) 3)),(tb,.row 307 7 33 tab),(un,.row 364 1 2 [v0,.ptr f 0]),(mt,.cells [Zi fu,Zn (dn),.ch ch]),(ch,.chan cp kc)]++((ev,.row 98 3 ek evs)::(c,.cells [Zs nb,k1,k2,k3,k4,k5,k6,k7,k8,k9,k10])::K)) fun u N' H'=>∃ s,u=.tup []/\H'=[(mc,.cells [m0,m1,m2,m3,m4,m5,m6,m7,.sl tb 0 33 0,m9,m10,.sl un 0 2 0,.ptr mt 0,m13,m14,.sl ev 0 ek 0,m16]),(f,.cells [.ptr me 0,Zn 0,Zn 1,lo,.sl s 0 1 0,.ptr c 0,Zp]),(me,stB rc cd),(cd,.row 475 8 3 (Wd (Xx j) 3)),(tb,.row 307 7 33 tab),(un,.row 364 1 2 [v0,.ptr f 0]),(mt,.cells [Zi fu,Zn (dn+1),.ch ch]),(ch,.chan cp kc)]++((ev,.row 98 3 ek evs)::(c,.cells [Zs nb,k1,k2,k3,k4,k5,k6,k7,k8,k9,k10])::(s,.row 366 1 1 [.ifc 3 (Zi j)])::K):=by
 refine (HF.permR (Un (us:=[v0]) (q:=1) (p:=0) (k:=3) (op:=1) (n:=j) (g:=198) (cap:=[]) (code:=Wd (Xx j) 3) J (by omega) (by omega) (by omega) J J (by omega) J J J J J ht.push hd hdb (HF.pickT (k:=3) (k2:=4) (A:=[(mc,.cells [m0,m1,m2,m3,m4,m5,m6,m7,.sl tb 0 33 0,m9,m10,.sl un 0 2 0,.ptr mt 0,m13,m14,.sl ev 0 ek 0,m16]),(f,.cells [.ptr me 0,Zn 0,Zn (0+1),lo,Zz,.ptr c 0,Zp]),(un,.row 364 1 2 [v0,.ptr f 0])]) (U:=(ev,.row 98 3 ek evs)::(c,.cells [Zs nb,k1,k2,k3,k4,k5,k6,k7,k8,k9,k10])::K) [1] [0,2] [2,0,3,1] (Zbf (mc:=mc) (f:=f) (n:=j)) J (by decide) J (by decide) J)) (R':=fun u N' H'=>∃ s,u=.tup []/\H'=[(mc,.cells [m0,m1,m2,m3,m4,m5,m6,m7,.sl tb 0 33 0,m9,m10,.sl un 0 2 0,.ptr mt 0,m13,m14,.sl ev 0 ek 0,m16]),(f,.cells [.ptr me 0,Zn 0,Zn 1,lo,.sl s 0 1 0,.ptr c 0,Zp]),(me,stB rc cd),(cd,.row 475 8 3 (Wd (Xx j) 3)),(tb,.row 307 7 33 tab),(un,.row 364 1 2 [v0,.ptr f 0]),(mt,.cells [Zi fu,Zn (dn+1),.ch ch]),(ch,.chan cp kc)]++((ev,.row 98 3 ek evs)::(c,.cells [Zs nb,k1,k2,k3,k4,k5,k6,k7,k8,k9,k10])::(s,.row 366 1 1 [.ifc 3 (Zi j)])::K)) ?_);rintro u N' H' ⟨rfl,rfl,rfl⟩;exact ⟨_,List.Perm.append_left _ ((List.Perm.swap _ _ _).trans (List.Perm.cons _ (List.Perm.swap _ _ _))),_,J,J⟩
theorem Zab (ht:TabOk tab wa ws wm) (hd:(dn:Int)+1≠fu) (hdb:dn<=100000) (he:evs.length=ek*3) (hek:ek<=20000) :
  HF Tryz.prog 353 [.ptr mc 0] N ([(mc,.cells [m0,m1,m2,m3,m4,m5,m6,m7,.sl tb 0 33 0,m9,m10,.sl un 0 2 0,.ptr mt 0,m13,m14,.sl ev 0 ek 0,m16]),(f,.cells [.ptr me 0,a1,Zn 1,lo,.sl s 0 1 0,.ptr c 0,Zp]),(me,stB rc cd),(cd,.row 475 8 3 (Wd (Xx j) 3)),(tb,.row 307 7 33 tab),(un,.row 364 1 2 [v0,.ptr f 0]),(mt,.cells [Zi fu,Zn (dn),.ch ch]),(ch,.chan cp kc)]++((ev,.row 98 3 ek evs)::(c,.cells [Zs nb,k1,k2,k3,k4,k5,k6,k7,k8,k9,k10])::(s,.row 366 1 1 [.ifc 3 (Zi j)])::K)) fun u N' H'=>∃ ev1,u=.tup []/\H'=[(mc,.cells [m0,m1,m2,m3,m4,m5,m6,m7,.sl tb 0 33 0,m9,m10,.sl un 0 2 0,.ptr mt 0,m13,m14,.sl ev1 0 (ek+1) 0,m16]),(f,.cells [.ptr me 0,Zn 1,Zn 2,lo,.sl s 0 0 0,.ptr c 0,Zp]),(me,stB rc cd),(cd,.row 475 8 3 (Wd (Xx j) 3)),(tb,.row 307 7 33 tab),(un,.row 364 1 2 [v0,.ptr f 0]),(mt,.cells [Zi fu,Zn (dn+1),.ch ch]),(ch,.chan cp kc)]++((ev1,.row 98 3 (ek+1) (evs++[Zi 1,Zi j,Ze]))::(c,.cells [Zs nb,k1,k2,k3,k4,k5,k6,k7,k8,k9,k10])::(s,.row 366 1 0 [])::K):=by
 refine (HF.permR (Un (us:=[v0]) (q:=1) (p:=1) (k:=3) (op:=27) (n:=0) (g:=230) (cap:=[]) (code:=Wd (Xx j) 3) (Ho:=(ev,.row 98 3 ek evs)::(c,.cells [Zs nb,k1,k2,k3,k4,k5,k6,k7,k8,k9,k10])::(s,.row 366 1 1 [.ifc 3 (Zi j)])::K) J (by omega) (by omega) (by omega) J J (by omega) J J J J J ht.print hd hdb (HF.pickT (k:=6) (k2:=6) (A:=[(mc,.cells [m0,m1,m2,m3,m4,m5,m6,m7,.sl tb 0 33 0,m9,m10,.sl un 0 2 0,.ptr mt 0,m13,m14,.sl ev 0 ek 0,m16]),(f,.cells [.ptr me 0,Zn 1,Zn (1+1),lo,.sl s 0 1 0,.ptr c 0,Zp]),(un,.row 364 1 2 [v0,.ptr f 0]),(ev,.row 98 3 ek evs),(c,.cells [Zs nb,k1,k2,k3,k4,k5,k6,k7,k8,k9,k10]),(s,.row 366 1 1 [.ifc 3 (Zi j)])]) (U:=K) [0,3,1,5] [2,4] [0,2,4,1,5,3] (Zag (mc:=mc) (f:=f) (v:=Zi 0) (ln:=0) (c:=[]) (k:=ek) (es:=evs) J (by omega) he hek) J (by decide) J (by decide) J)) (R':=fun u N' H'=>∃ ev1,u=.tup []/\H'=[(mc,.cells [m0,m1,m2,m3,m4,m5,m6,m7,.sl tb 0 33 0,m9,m10,.sl un 0 2 0,.ptr mt 0,m13,m14,.sl ev1 0 (ek+1) 0,m16]),(f,.cells [.ptr me 0,Zn 1,Zn 2,lo,.sl s 0 0 0,.ptr c 0,Zp]),(me,stB rc cd),(cd,.row 475 8 3 (Wd (Xx j) 3)),(tb,.row 307 7 33 tab),(un,.row 364 1 2 [v0,.ptr f 0]),(mt,.cells [Zi fu,Zn (dn+1),.ch ch]),(ch,.chan cp kc)]++((ev1,.row 98 3 (ek+1) (evs++[Zi 1,Zi j,Ze]))::(c,.cells [Zs nb,k1,k2,k3,k4,k5,k6,k7,k8,k9,k10])::(s,.row 366 1 0 [])::K)) ?_);rintro u N' H' ⟨rfl,rfl,rfl⟩;exact ⟨_,List.Perm.refl _,_,J,J⟩
theorem st_back (ht:TabOk tab wa ws wm) (hd:(dn:Int)+1≠fu) (hdb:dn<=100000) (he:evs.length=ek*3) (hek:ek<=20000) :
  HF Tryz.prog 353 [.ptr mc 0] N ([(mc,.cells [m0,m1,m2,m3,m4,m5,m6,m7,.sl tb 0 33 0,m9,m10,.sl un 0 2 0,.ptr mt 0,m13,m14,.sl ev 0 ek 0,m16]),(f,.cells [.ptr me 0,a1,Zn 2,lo,.sl s 0 0 0,.ptr c 0,Zp]),(me,stB rc cd),(cd,.row 475 8 3 (Wd (Xx j) 3)),(tb,.row 307 7 33 tab),(un,.row 364 1 2 [v0,.ptr f 0]),(mt,.cells [Zi fu,Zn (dn),.ch ch]),(ch,.chan cp kc)]++((ev,.row 98 3 ek evs)::(c,.cells [Zs nb,k1,k2,k3,k4,k5,k6,k7,k8,k9,k10])::K)) fun u N' H'=>∃ ev1,u=.tup []/\H'=[(mc,.cells [m0,m1,m2,m3,m4,m5,m6,m7,.sl tb 0 33 0,m9,m10,.sl un 0 1 0,.ptr mt 0,m13,m14,.sl ev1 0 (ek+1) 0,m16]),(f,.cells [.ptr me 0,Zn 2,Zn 3,lo,.sl s 0 0 0,.ptr c 0,Zp]),(me,stB rc cd),(cd,.row 475 8 3 (Wd (Xx j) 3)),(tb,.row 307 7 33 tab),(un,.row 364 1 1 [v0]),(mt,.cells [Zi fu,Zn (dn+1),.ch ch]),(ch,.chan cp kc)]++((ev1,.row 98 3 (ek+1) (evs++[Zi 4,Zi 0,Zs nb]))::(c,.cells [Zs nb,k1,k2,k3,k4,k5,k6,k7,k8,k9,k10])::K):=by
 refine (HF.permR (Un (us:=[v0]) (q:=1) (p:=2) (k:=3) (op:=22) (n:=0) (g:=223) (cap:=[]) (code:=Wd (Xx j) 3) (Ho:=(ev,.row 98 3 ek evs)::(c,.cells [Zs nb,k1,k2,k3,k4,k5,k6,k7,k8,k9,k10])::K) J (by omega) (by omega) (by omega) J J (by omega) J J J J J ht.back hd hdb (HF.pickT (k:=5) (k2:=5) (A:=[(mc,.cells [m0,m1,m2,m3,m4,m5,m6,m7,.sl tb 0 33 0,m9,m10,.sl un 0 2 0,.ptr mt 0,m13,m14,.sl ev 0 ek 0,m16]),(f,.cells [.ptr me 0,Zn 2,Zn (2+1),lo,.sl s 0 0 0,.ptr c 0,Zp]),(un,.row 364 1 2 [v0,.ptr f 0]),(ev,.row 98 3 ek evs),(c,.cells [Zs nb,k1,k2,k3,k4,k5,k6,k7,k8,k9,k10])]) (U:=K) [0,1,2,3,4] [] [0,1,2,3,4] (Fb (mc:=mc) (f:=f) (v:=Zi 0) (us:=[v0]) (q:=1) (w:=.ptr f 0) (k:=ek) (es:=evs) J (by omega) he hek) J (by decide) J (by decide) J)) (R':=fun u N' H'=>∃ ev1,u=.tup []/\H'=[(mc,.cells [m0,m1,m2,m3,m4,m5,m6,m7,.sl tb 0 33 0,m9,m10,.sl un 0 1 0,.ptr mt 0,m13,m14,.sl ev1 0 (ek+1) 0,m16]),(f,.cells [.ptr me 0,Zn 2,Zn 3,lo,.sl s 0 0 0,.ptr c 0,Zp]),(me,stB rc cd),(cd,.row 475 8 3 (Wd (Xx j) 3)),(tb,.row 307 7 33 tab),(un,.row 364 1 1 [v0]),(mt,.cells [Zi fu,Zn (dn+1),.ch ch]),(ch,.chan cp kc)]++((ev1,.row 98 3 (ek+1) (evs++[Zi 4,Zi 0,Zs nb]))::(c,.cells [Zs nb,k1,k2,k3,k4,k5,k6,k7,k8,k9,k10])::K)) ?_);rintro u N' H' ⟨rfl,rfl,rfl⟩;exact ⟨_,List.Perm.refl _,_,J,J⟩
end
end S
end Go.Proofs.YtpofmnfkdkmieaaGreat
