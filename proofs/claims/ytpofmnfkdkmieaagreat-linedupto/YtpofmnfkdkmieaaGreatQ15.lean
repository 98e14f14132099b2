/- What is proved here: the operations that use a frame's own va -/
import Derived.Test.YtpofmnfkdkmieaaGreatQ14
import Derived.Test.YtpofmnfkdkmieaaGreatQ01
import Derived.Test.YtpofmnfkdkmieaaGreatQ12
set_option linter.unusedVariables false
set_option linter.unusedSimpArgs false
namespace Go.Proofs.YtpofmnfkdkmieaaGreat
namespace S
open Go Go.RowKit E
section
set_option maxRecDepth 10000
variable {mc f s N ln lo:Nat} {a0 a1 a2 a3 a5 a6 v:SV} {c d:List SV} {x y n:Int}
theorem Zbf :
  HF Tryz.prog 198 [.ptr mc 0,.ptr f 0,Zi n] N [(f,.cells [a0,a1,a2,a3,Zz,a5,a6])] fun u N' H'=>u=Zp/\N'=N+2/\H'=[(f,.cells [a0,a1,a2,a3,.sl (N+1) 0 1 0,a5,a6]),(N+1,.row 366 1 1 [.ifc 3 (Zi n)])]:=by
 refine hf1 Tryz.func198 J Tryz.ntmps198 fun _ _ _ _=>?_;refine Zd (Za 1 [] [(6,Zp)] [] (Zx (Za 3 [] [(7,Zq f 0),(9,SV.ifc 3 (Zi n))] [] (Z0 [0] [0] Zj J J J J (Ey) J (Zx (Za 1 [] [(6,Zp)] [] (Zg (Yc (Z5 [0,1] (.inr J) Zj J (by decide) ?_)))))))));exact ⟨J,J,J⟩
theorem nat_at {i:Nat} (h:d[i]?=some v):d[0+i*1]?=some v:=by rw [Nat.zero_add,Nat.mul_one];exact h
theorem Zcg {i t:Nat} {w:SV} {ld:Nat} (hl:c.length=ln) (hbd:ln<=50000) (hi:d[i]?=some (.ifc t w)) (hld:i<ld) :
  HF Tryz.prog 199 [.ptr mc 0,.ptr f 0,Zn i] N [(f,.cells [a0,a1,a2,.sl lo 0 ld 0,.sl s 0 ln 0,a5,a6]),(lo,.row 366 1 ld d),(s,.row 366 1 ln c)] fun u N' H'=>u=Zp/\N'=N+2/\H'=[(f,.cells [a0,a1,a2,.sl lo 0 ld 0,.sl (N+1) 0 (ln+1) 0,a5,a6]),(lo,.row 366 1 ld d),(N+1,.row 366 1 (ln+1) (c++[.ifc t w]))]:=by
 refine hf1 Tryz.func199 J Tryz.ntmps199 fun _ _ _ _=>?_;refine Zd (Za 1 [] [(6,Zp)] [] (Zx (Za 6 [0] [(7,Zq f 0),(11,Zk lo 0 ld 0),(12,Zn i)] [] (Zu (v:=.ptr lo (0+i*1)) J (Xe J J J (by kernel_rfl) (by omega)) J ?_))));refine Yp (i:=1) (v:=.ifc t (w)) J J J J (Xd (by kernel_rfl) (nat_at hi)) J ?_;refine Z0 [0,2] [2,0] Zj J J J J (Pp hl hbd) J (Zx (Za 1 [] [(6,Zp)] [] (Zg (Yc (Z5 [0,2,1] (.inr J) Zj J (by decide) ?_)))));exact ⟨J,J,J⟩
theorem Cd {i t ld:Nat} {w:SV} (hl:c.length=ln) (hbd:ln+1<=50000) (hd:d.length=ld) (hld:i<ld) :
  HF Tryz.prog 200 [.ptr mc 0,.ptr f 0,Zn i] N [(f,.cells [a0,a1,a2,.sl lo 0 ld 0,.sl s 0 (ln+1) 0,a5,a6]),(lo,.row 366 1 ld d),(s,.row 366 1 (ln+1) (c++[.ifc t w]))] fun u N' H'=>u=Zp/\N'=N/\H'=[(f,.cells [a0,a1,a2,.sl lo 0 ld 0,.sl s 0 ln 0,a5,a6]),(lo,.row 366 1 ld (sput d (0+i*1) [.ifc t w])),(s,.row 366 1 ln c)]:=by
 refine hf1 Tryz.func200 J Tryz.ntmps200 fun _ _ _ _=>?_;refine Zd (Za 1 [] [(6,Zp)] [] (Z1 ?_))
 refine Y0 [.ptr f 0,.ptr f 0,.ptr f 3,.sl lo 0 ld 0,Zn i,.ptr f 0,.ifc t (w),.ptr lo (0+i*1),.tup []] [6,8] [(_,_),(_,_)] [0,0] [] [] [7] Yt
  ⟨fun _ _ _ _ _ _ _ kG=>Z0 [0,2] [2,0] Zj rfl rfl rfl rfl (R7 hl hbd) rfl kG,fun _ _ _ _ _ _ _ kG=>Wl (i:=2) (m:=1) (c:=[.ifc t (w)]) [(f,.cells [a0,a1,a2,Zk lo 0 ld 0,Zk s 0 ln 0,a5,a6]),(s,.row 366 1 ln c),(lo,.row 366 1 ld (sput d (0+i*1) [SV.ifc t (w)]))] rfl rfl rfl rfl rfl rfl (by kernel_rfl) rfl rfl rfl (by simp only [Nu];omega) rfl kG,trivial⟩
  ⟨Y4 fun _ _=>Yl rfl (Xe rfl rfl rfl (by kernel_rfl) (by omega)),trivial⟩ rfl ?_
 refine Yh (Za 1 [] [(6,Zp)] [] (Zg (Yc (Z5 [0,2,1] (.inr J) Zj J (by decide) ?_))));exact ⟨J,J,J⟩
theorem pop_row {d0:SV} (hl:c.length=ln) (hbd:ln+1<=50000) :
  HF Tryz.prog 201 [.ptr mc 0,.ptr f 0,v] N [(f,.cells [a0,a1,a2,a3,.sl s 0 (ln+1) 0,a5,a6]),(s,.row 366 1 (ln+1) (c++[d0]))] fun u N' H'=>u=Zp/\N'=N/\H'=[(f,.cells [a0,a1,a2,a3,.sl s 0 ln 0,a5,a6]),(s,.row 366 1 ln c)]:=by
 refine hf1 Tryz.func201 J Tryz.ntmps201 fun _ _ _ _=>?_;refine Zd (Za 1 [] [(6,Zp)] [] (Zx (Za 1 [] [(7,Zq f 0)] [] (Z0 [0,1] [1,0] Zj J J J J (R7 hl hbd) J (Zx (Za 1 [] [(6,Zp)] [] (Zg (Yc (Z5 [0,1] (.inr J) Zj J (by decide) ?_)))))))));exact ⟨J,J,J⟩
end
end S
namespace S
open Go Go.RowKit E
section
set_option maxRecDepth 10000
variable {mc f s N ln lo wb nm cl:Nat} {a0 a1 a2 a3 a5 a6 v m0 m1 m2 m3 m4 m5 m6 m7 m8 m9 m10 m11 m12 m13 m14 m15 m16:SV} {c d:List SV} {x y n:Int} {nb:ByteArray} {es:List (ByteArray × SV)}
theorem D9 (hf:findS nb es=some (.ifc 323 (.agg [.ptr cl 0]))) :
  HF Tryz.prog 239 [.ptr mc 0,Zs nb] N [(mc,.cells [m0,m1,m2,m3,m4,m5,m6,m7,m8,.mp nm,m10,m11,m12,m13,m14,m15,m16]),(nm,.map es)] fun u N' H'=>u=.ptr cl 0/\N'=N+1/\H'=[(mc,.cells [m0,m1,m2,m3,m4,m5,m6,m7,m8,.mp nm,m10,m11,m12,m13,m14,m15,m16]),(nm,.map es)]:=by
 refine hf1 Tryz.func239 J Tryz.ntmps239 fun _ _ _ _=>?_;refine Zd (Za 1 [] [(4,Zp)] [] (Z1 (Zd (Za 5 [0] [(9,SV.mp nm),(10,Zs nb)] [] ?_))));refine Nd (i:=1) (e:=325) (z:=.nilIface) (v:=.ifc 323 (.agg [.ptr cl 0])) J J (by kernel_rfl) (by kernel_rfl) J J J (fun _ h=>by cases h<;>rfl) J (by rw [hf];rfl) rfl ?_;refine Zg (Zv (Zd (Za 3 [] [(13,Zb true),(14,SV.agg [Zq cl 0])] [] (Zg (Yj J (Zd (Zy 2 [0] [(5,Zq N 0)] [] (N+1) [(N,Zc [Zq cl 0])] [] (Zx (Za 3 [0] [(4,Zq cl 0)] [] (Zg (Yc (Wu (Xg (Z5 [1,2] (.inr J) Zj J (by decide) ?_))))))))))))));exact ⟨J,J,J⟩
end
end S
namespace S
open Go Go.RowKit E
section
variable {P:Program} {ops:Array Oper} {i n:Nat} {rest:List Nat} {o:Oper} {a:Act} {w0 w w':World} {F:List Nat} {B:Nm} {E:SE} {D:List SD} {σ:St}
theorem to_skip (ho:ops[i]?=some o) (hw:Region.wanted o (yielded ops a.tmps)=true) (hr:(execOp a.eval o).run P w=.ok .skip w'):T4 P ops (i::rest) a w rest (a.put o.dst undef) w':=by
 intro b k cs hro;have hg:=stepGR_op (P:=P) (b:=b) (k:=k) (cs:=cs) (w:=w) (rest:=rest) ho hw;rw [hro] at hg;have hfin:(b.atR a (.inRegion ops (i::rest)::k)).finish undef=b.atR (a.put o.dst undef) (.inRegion ops rest::k):=by rw [Frame.finish_atR,ho];rfl
 refine .one (fw P _) (step_lone_go ?_);rw [hg,<- hfin,Oper.semAt_none];simp [stepG.apply,hr]
noncomputable def stpV (n:Nat) (E:SE) (o:Oper):Option (SV × St)->Option (SE × St)
 | some (v,τ)=>(putD n E o.dst v).map fun E'=>(E',τ)
 | none=>none
noncomputable def stp1 (n:Nat) (E:SE) (σ:St) (o:Oper):Option Ar->Option (SE × St)
 | some (.val r)=>stpV n E o (lodge σ.n r)
 | _=>none
noncomputable def stpL (P:Program) (n:Nat):List Oper->SE->St->Option (SE × St)
 | [],E,σ=>some (E,σ)
 | o::L,E,σ=>(stp1 n E σ o (act P E σ o)).bind fun q=>stpL P n L q.1 q.2
def Fits (ops:Array Oper):List Nat->List Oper->Prop
 | [],[]=>True
 | i::is,o::L=>(ops[i]?=some o/\o.guard=none)/\Fits ops is L
 | _,_=>False
theorem Ln:∀ (L:List Oper) (is:List Nat) {E:SE} {σ:St} {B:Nm} {a:Act} {w:World} {E':SE} {σ':St},Fits ops is L->stpL P n L E σ=some (E',σ')->Sx w0 F B σ w->Ags n a E D B ->
  ∃ a' w' B',T4 P ops (is++rest) a w rest a' w'/\Gr σ.n σ'.n B B'/\Sx w0 F B' σ' w'/\Ags n a' E' D B'
 | [],[],E,σ,B,a,w,E',σ',_,h,hs,ha=>by
  cases h;exact ⟨a,w,B,.refl _,Gr.refl _ _,hs,ha⟩
 | o::L,[],E,σ,B,a,w,E',σ',hf,h,hs,ha=>by cases hf
 | [],i::is,E,σ,B,a,w,E',σ',hf,h,hs,ha=>by cases hf
 | o::L,i::is,E,σ,B,a,w,E',σ',hf,h,hs,ha=>by
  obtain ⟨h1,hf⟩:=hf
  ·simp only [stpL] at h;cases hac:act P E σ o with
   | none=>rw [hac] at h;cases h
   | some r =>
    rw [hac] at h;cases r with
    | val r =>
     simp only [stp1] at h;cases hl:lodge σ.n r with
     | none=>rw [hl] at h;cases h
     | some q =>
      obtain ⟨v,τ⟩:=q;rw [hl] at h;simp only [stpV] at h;cases hp:putD n E o.dst v with
      | none=>rw [hp] at h;cases h
      | some E1 =>
       rw [hp] at h;simp only [Option.map_some,Option.bind_some] at h;obtain ⟨x,w1,B1,hr,hpre,hd,hs1⟩:=Oq (U7 hs ha hac) hl;obtain ⟨a',w',B',ht,hg,hs',ha'⟩:=Ln L is hf h hs1 (W5 (ha.mono hpre.1) hd hp);have hw:Region.wanted o (yielded ops a.tmps)=true:=by unfold Region.wanted;rw [h1.2]
       refine ⟨a',w',B',?_,hpre.trans hg,hs',ha'⟩;rcases hr with hr | ⟨rfl,hr⟩
       ·exact (to_val h1.1 hw hr).trans ht
       ·exact (to_skip h1.1 hw hr).trans ht
    | call g m=>simp only [stp1] at h;cases h
    | dfr x=>simp only [stp1] at h;cases h
def eOf:Option Rs->SE
 | some (.code _ E _ _)=>E
 | _=>[]
def dOf:Option Rs->List SD
 | some (.code _ _ D _)=>D
 | _=>[]
def sOf:Option Rs->St
 | some (.code _ _ _ σ)=>σ
 | some (.val _ σ)=>σ
 | _=>⟨0,.nil⟩
def vOf:Option Rs->SV
 | some (.val v _)=>v
 | _=>.tup []
def nrm:Option Rs->Bool
 | some (.code .normal _ _ _)=>true
 | _=>false
def rtd:Option Rs->Bool
 | some (.code .ret _ _ _)=>true
 | _=>false
def vld:Option Rs->Bool
 | some (.val _ _)=>true
 | _=>false
theorem nrm_ok {q:Option Rs} (h:nrm q=true):q=some (.code .normal (eOf q) (dOf q) (sOf q)):=by
 unfold nrm at h;split at h
 ·rfl
 ·cases h
theorem rtd_ok {q:Option Rs} (h:rtd q=true):q=some (.code .ret (eOf q) (dOf q) (sOf q)):=by
 unfold rtd at h;split at h
 ·rfl
 ·cases h
theorem vld_ok {q:Option Rs} (h:vld q=true):q=some (.val (vOf q) (sOf q)):=by
 unfold vld at h;split at h
 ·rfl
 ·cases h
theorem out0 {hdc:Fu P (fun _=>false)} (hng:Vh P) {fn:Func} {tmps:Array Value} {σ1:St} {n0:Nat} {v:SV} {x:Value} {ds:List Deferred} (hs:Sx w0 F B σ1 w) (hd:ds=[]) (hx:den B v=some x) (hn:n0=σ1.n) (hr:∀ w',(results fn tmps).run P w'=.ok x w') :
  LeavesInM (Wz none) 0 P fn tmps (fun e w'=>∃ x B',e=.returned x/\Gr n0 σ1.n B B'/\den B' v=some x/\Sx w0 F B' σ1 w') ds .returning w:=by
 subst hd;subst hn;exact Uh hng hdc [] (σ':=σ1) J hs J fun w2 hs2=>⟨x,hr w2,x,B,J,Gr.refl _ _,hx,hs2⟩
end
/-! ### The three -/
noncomputable def xClone:List SV->St->Option (SV × St)
 | [.v (.string s)],σ=>bif Nat.ble s.size 4000000 then some (.v (.string s),σ) else none
 | _,_=>none
noncomputable def xSend:List SV->St->Option (SV × St)
 | [.ptr b 0],σ=>(match σ.get b with
   | some (.cells [.v (.int .i64 x),.v (.int .i64 y),.ch c])=>(match σ.get c with
    | some (.chan cap k)=>bif ieq y x then (bif Nat.blt k cap then some (.tup [],σ.set c (some (.chan cap (k+1)))) else none) else some (.tup [],σ)
    | _=>none)
   | _=>none)
 | _,_=>none
noncomputable def xOut:List SV->St->Option (SV × St)
 | [.ptr b 0],σ=>(match σ.get b with
   | some (.cells [.v (.int .i64 _),.v (.int .i64 _),.ch c])=>(match σ.get c with
    | some (.chan _ 0)=>some (.v (.bool false),σ)
    | _=>none)
   | _=>none)
 | _,_=>none
noncomputable def X0:Ext:=fun f=>bif Nat.beq f 131 then some xClone else bif Nat.beq f 236 then some xSend
 else bif Nat.beq f 352 then some xOut else none
theorem I5 {args:List SV} {σ σ':St} {v:SV} (h:xClone args σ=some (v,σ')):Ok Tryz.prog (.call 131 args σ) (.val v σ'):=by
 unfold xClone at h;split at h
 ·rename_i s
  cases hb:Nat.ble s.size 4000000 with
  | false=>rw [hb] at h;cases h
  | true =>
   rw [hb] at h;cases h;refine ⟨⟨_,Tryz.func131,by kernel_rfl⟩,fun w0 F B w vs hs hd=>?_⟩;obtain ⟨x,xs,hx,hxs,rfl⟩:=Y5.1 hd;have:=Xk hx;subst this;cases hxs;refine (callsIn_wide.2 (Uk s w (Nat.le_of_ble_eq_true hb))).mono ?_;rintro e w' ⟨rfl,hb'⟩;exact ⟨_,B,J,Gr.refl _ _,J,hs.keep hb'⟩
 ·cases h
end S
namespace S
open Go Go.RowKit E
noncomputable def R0 (k:Nat):Rec:=run Tryz.prog (fun _=>none) (fun _=>false) (drawF Tryz.prog) k
theorem R0_ok (k:Nat):T3 Tryz.prog (R0 k):=H6 Zj (none_ok _) (Pn _) (fun _ h=>Dd Yt Zj h) k
/-- What the two blocks hold. -/
theorem duo {w0 w:World} {F:List Nat} {B:Nm} {σ:St} (hs:Sx w0 F B σ w) {b c:Nat} {x y:Int} {cap k:Nat} {vs:List Value} (hb:σ.get b=some (.cells [.v (.int .i64 x),.v (.int .i64 y),.ch c])) (hc:σ.get c=some (.chan cap k)) (hd:Ym B [.ptr b 0]=some vs) :
  ∃ p q buf s r,B b=some p/\B c=some q/\vs=[.pointer (some ⟨p.1,0,none⟩)]/\w.heap[q.1]?=some (.chan cap buf false s r false)/\buf.size=k/\Sx w [p.1,q.1] (Lj p q) (two (.cells [.v (.int .i64 x),.v (.int .i64 y),.ch 1]) (.chan cap k)) w:=by
 obtain ⟨v,us,hv,hus,rfl⟩:=Y5.1 hd;cases hus;obtain ⟨p,hp,rfl⟩:=Wr hv;obtain ⟨p',hp',hbl,_⟩:=hs.own b _ hb;rw [hp] at hp';cases hp';obtain ⟨q,hq,hcl,_⟩:=hs.own c _ hc;obtain ⟨buf,s,r,hob,hsz⟩:=hcl;obtain ⟨us,t,hus,hobb⟩:=hbl;have hbc:b≠c:=fun e=>by subst e;rw [hb] at hc;cases hc
 refine ⟨p,q,buf,s,r,hp,hq,J,hob,hsz,hs.two hb hc hbc hp hq ?_ ⟨buf,s,r,hob,hsz⟩⟩;refine ⟨us,t,?_,hobb⟩;simp only [Ym,den,hq,Option.map_some] at hus ⊢;exact hus
theorem ags1 {n:Nat} {B:Nm} {p:Nat × Nat} (hn:1<=n) (hp:B 0=some p):Ags n { tmps:=[Value.pointer (some ⟨p.1,0,none⟩)].toArray++Array.replicate (n - [Value.pointer (some ⟨p.1,0,none⟩)].toArray.size) undef,defers:=[] } [(0,.ptr 0 0)] [] B:=by
 refine ⟨⟨by simp only [Array.size_append,Array.size_replicate];omega,fun i v hv=>?_⟩,rfl⟩;rw [Z9] at hv;cases h:Nat.beq i 0 with
 | false=>rw [h] at hv;cases hv
 | true =>
  rw [h] at hv;cases hv;have:=Nat.eq_of_beq_eq_true h;subst this;exact ⟨.pointer (some ⟨p.1,0,none⟩),by simp only [den,hp,Option.map_some],by rw [Array.getElem?_append_left (by simp)];rfl⟩
def M8 (E:SE):SE->Prop
 | []=>True
 | p::r=>slook E p.1=some p.2/\M8 E r
theorem M8.get {E:SE}:∀ {E2:SE},M8 E E2->∀ i v,slook E2 i=some v->slook E i=some v
 | [],_,i,v,h=>by cases h
 | (j,u)::r,ht,i,v,h=>by
  rw [Z9] at h;cases hb:Nat.beq i j with
  | true=>rw [hb] at h;cases h;have:=Nat.eq_of_beq_eq_true hb;subst this;exact ht.1
  | false=>rw [hb] at h;exact ht.2.get i v h
theorem Ags.tells {n:Nat} {a:Act} {E E2:SE} {D:List SD} {B:Nm} (h:Ags n a E D B) (ht:M8 E E2):Ags n a E2 D B:=⟨⟨h.tm.1,fun i v hv=>h.tm.2 i v (ht.get i v hv)⟩,h.df⟩
theorem H5 {c:Code} {n:Nat} {E E2:SE} {τ:St} {w0 w:World} {F:List Nat} {B:Nm} {a:Act} (hs:Sx w0 F B τ w) (ha:Ags n a E [] B) (k:Nat) (hn:nrm (R0 k (.code false n c E [] τ))=true) (hd:dOf (R0 k (.code false n c E [] τ))=[]) (ht:M8 (eOf (R0 k (.code false n c E [] τ))) E2) :
  c.wpIn (Wz none) 0 Tryz.prog (fun e a' w'=>e=.normal/\∃ B',Gr τ.n (sOf (R0 k (.code false n c E [] τ))).n B B'/\Sx w0 F B' (sOf (R0 k (.code false n c E [] τ))) w'/\Ags n a' E2 [] B') a w:=by
 have h:=R0_ok k _ _ (nrm_ok hn);rw [hd] at h;refine wpIn_mono (h none w0 F B w a J hs ha) ?_;rintro e a' w' ⟨rfl,B',hg,hs',ha'⟩;exact ⟨J,B',hg,hs',ha'.tells ht⟩
theorem run_rt {c:Code} {n:Nat} {E E2:SE} {τ:St} {w0 w:World} {F:List Nat} {B:Nm} {a:Act} (hs:Sx w0 F B τ w) (ha:Ags n a E [] B) (k:Nat) (hn:rtd (R0 k (.code false n c E [] τ))=true) (hd:dOf (R0 k (.code false n c E [] τ))=[]) (ht:M8 (eOf (R0 k (.code false n c E [] τ))) E2) :
  c.wpIn (Wz none) 0 Tryz.prog (fun e a' w'=>e=.ret/\∃ B',Gr τ.n (sOf (R0 k (.code false n c E [] τ))).n B B'/\Sx w0 F B' (sOf (R0 k (.code false n c E [] τ))) w'/\Ags n a' E2 [] B') a w:=by
 have h:=R0_ok k _ _ (rtd_ok hn);rw [hd] at h;refine wpIn_mono (h none w0 F B w a J hs ha) ?_;rintro e a' w' ⟨rfl,B',hg,hs',ha'⟩;exact ⟨J,B',hg,hs',ha'.tells ht⟩
theorem nods {n:Nat} {a:Act} {E:SE} {B:Nm} (h:Ags n a E [] B):a.defers=[]:=by have:=h.df;simp only [W8,Option.some.injEq] at this;exact this.symm
/-- Back to all the places. -/
theorem Zep {w0 w w3:World} {F:List Nat} {B B3:Nm} {σ τ3 σ':St} {p q:Nat × Nat} {b c:Nat} {u v:Value} {cap k k':Nat} (hs:Sx w0 F B σ w) (hb:σ.get b=some (.cells [.v u,.v v,.ch c])) (hc:σ.get c=some (.chan cap k)) (hp:B b=some p) (hq:B c=some q)
  (hs3:Sx w [p.1,q.1] B3 τ3 w3) (g0:τ3.get 0=some (.cells [.v u,.v v,.ch 1])) (g1:τ3.get 1=some (.chan cap k')) (b0:B3 0=some p) (b1:B3 1=some q) (hn:σ'.n=σ.n) (hg:∀ i,σ'.get i=if i=c then some (.chan cap k') else σ.get i):Sx w0 F B σ' w3:=by
 obtain ⟨p',hp',⟨us,t,hus,hob⟩,_⟩:=hs3.own 0 _ g0;rw [b0] at hp';cases hp';obtain ⟨q',hq',hcl,_⟩:=hs3.own 1 _ g1;rw [b1] at hq';cases hq';obtain ⟨_,hp2,_,hpF⟩:=hs.own b _ hb;rw [hp] at hp2;cases hp2;obtain ⟨_,hq2,_,hqF⟩:=hs.own c _ hc;rw [hq] at hq2;cases hq2
 have key:∀ (k:Nat) (z:SB),σ'.get k=some z->∃ z',σ.get k=some z':=by
  intro k z hk;rw [hg] at hk;by_cases e:k=c
  ·subst e;exact ⟨_,hc⟩
  ·rw [if_neg e] at hk;exact ⟨z,hk⟩
 refine ⟨hs.low.trans hs3.low (fun x hx=>?_),by rw [hn];exact hs.bd,fun i hi=>?_,fun i sb hi=>?_,fun i j x1 y1 r s hi hj hr hs' e=>?_⟩
 ·simp only [List.mem_cons,List.not_mem_nil,or_false] at hx;rcases hx with rfl | rfl
  ·exact hpF
  ·exact hqF
 ·rw [hn] at hi;refine ⟨(hs.new i hi).1,?_⟩;rw [hg,if_neg (fun e=>by have:=hs.idx hc;omega)];exact (hs.new i hi).2
 ·rw [hg] at hi;by_cases e:i=c
  ·subst e;rw [if_pos rfl] at hi;cases hi;exact ⟨q,hq,hcl,hqF⟩
  ·rw [if_neg e] at hi;by_cases e2:i=b
   ·subst e2;rw [hb] at hi;cases hi;refine ⟨p,hp,⟨us,t,?_,hob⟩,hpF⟩;simp only [Ym,den,b1,hq,Option.map_some] at hus ⊢;exact hus
   ·obtain ⟨r,hr,hk,hF'⟩:=hs.own i sb hi;refine ⟨r,hr,?_,hF'⟩;rw [hs3.low.block r.1 (hs.lt hi hr) (fun hm=>?_)]
    ·exact hk
    ·simp only [List.mem_cons,List.not_mem_nil,or_false] at hm;rcases hm with hm | hm
     ·exact e2 (hs.apart i b _ _ r p hi hb hr hp hm)
     ·exact e (hs.apart i c _ _ r q hi hc hr hq hm)
 ·obtain ⟨z1,hz1⟩:=key i x1 hi;obtain ⟨z2,hz2⟩:=key j y1 hj;exact hs.apart i j z1 z2 r s hz1 hz2 hr hs' e
theorem Js {σ:St} {c:Nat} {x:SB} (h:σ.get c=some x) (i:Nat):σ.get i=if i=c then some x else σ.get i:=by
 by_cases e:i=c
 ·subst e;rw [if_pos rfl,h]
 ·rw [if_neg e]
def isS:Option (SE × St)->Bool
 | some _=>true
 | none=>false
def stE:Option (SE × St)->SE
 | some q=>q.1
 | none=>[]
def stS:Option (SE × St)->St
 | some q=>q.2
 | none=>⟨0,.nil⟩
theorem A5 {q:Option (SE × St)} (h:isS q=true):q=some (stE q,stS q):=by
 cases q with
 | none=>cases h
 | some q=>rfl
section
variable {P:Program} {ops:Array Oper} {id n i m:Nat} {rest is:List Nat} {o:Oper} {a:Act} {w0 w:World} {F:List Nat} {B:Nm} {E:SE} {D:List SD} {τ:St} {Q:Exit->Act->World->Prop}
theorem Jx {ch x:Operand} {c cap k:Nat} (m:Nat) (hr:List.range ops.size=is++[m]) (hf:Fits ops is (ops.toList.take m)) (ho:ops[m]?=some o) (hg:o.guard=none) (hdst:o.dst=none) (hop:o.op=.send ch x)
  (hst:isS (stpL P n (ops.toList.take m) E τ)=true) (hch:sev (stE (stpL P n (ops.toList.take m) E τ)) ch=some (.ch c)) (hc:(stS (stpL P n (ops.toList.take m) E τ)).get c=some (.chan cap k)) (hk:k<cap) (hs:Sx w0 F B τ w) (ha:Ags n a E D B)
  (hQ:∀ a' w' B',Gr τ.n (stS (stpL P n (ops.toList.take m) E τ)).n B B'->Sx w0 F B' ((stS (stpL P n (ops.toList.take m) E τ)).set c (some (.chan cap (k+1)))) w'->Ags n a' (stE (stpL P n (ops.toList.take m) E τ)) D B'->Q .normal a' w'):(Code.region id ops false).wpIn (Wz none) 0 P Q a w:=by
 obtain ⟨a2,w2,B2,ht2,hg2,hs2,ha2⟩:=Ln (rest:=[m]) _ is hf (A5 hst) hs ha;obtain ⟨q,hq,⟨buf,s,r,hob,hsz⟩,_⟩:=hs2.own c _ hc;have hev:=ha2.eval hch;simp only [den,hq,Option.map_some,Option.some.injEq] at hev;have hw:Region.wanted o (yielded ops a2.tmps)=true:=by unfold Region.wanted;rw [hg]
 have h3:=to_send (P:=P) (rest:=[]) ho hw hop hev.symm hob (by omega);rw [hdst] at h3;refine Nv (by rw [hr];exact ht2.trans h3) (hQ a2 _ B2 hg2 ?_ ha2);exact hs2.putObj hc hq _ _ ⟨_,_,_,J,by rw [Array.size_push,hsz]⟩
theorem Nl {ch:Operand} {c cap e d:Nat} {z:Value} (hr:List.range ops.size=0::is) (hf:Fits ops is (ops.toList.drop 1)) (ho:ops[0]?=some o) (hg:o.guard=none) (hdst:o.dst=some d) (hd:Nat.blt d n=true) (hop:o.op=.select #[⟨ch,none,e⟩] false) (hz:tZero P e=some z)
  (hch:sev E ch=some (.ch c)) (hc:τ.get c=some (.chan cap 0))
  (hst:isS (stpL P n (ops.toList.drop 1) ((d,.tup [.v (goInt (-1)),.v (.bool false),.v z])::E) τ)=true) (hs:Sx w0 F B τ w) (ha:Ags n a E D B)
  (hQ:∀ a' w' B',Gr τ.n (stS (stpL P n (ops.toList.drop 1) ((d,.tup [.v (goInt (-1)),.v (.bool false),.v z])::E) τ)).n B B'->Sx w0 F B' (stS (stpL P n (ops.toList.drop 1) ((d,.tup [.v (goInt (-1)),.v (.bool false),.v z])::E) τ)) w'->Ags n a' (stE (stpL P n (ops.toList.drop 1) ((d,.tup [.v (goInt (-1)),.v (.bool false),.v z])::E) τ)) D B'->Q .normal a' w'):(Code.region id ops false).wpIn (Wz none) 0 P Q a w:=by
 obtain ⟨q,hq,⟨buf,s,r,hob,hsz⟩,_⟩:=hs.own c _ hc;have hbuf:buf=#[]:=Array.eq_empty_of_size_eq_zero hsz;subst hbuf;have hev:=ha.eval hch;simp only [den,hq,Option.map_some,Option.some.injEq] at hev;have hw:Region.wanted o (yielded ops a.tmps)=true:=by unfold Region.wanted;rw [hg]
 have h3:=D8 (P:=P) (rest:=is) ho hw hop hz hev.symm hob;rw [hdst] at h3;obtain ⟨a2,w2,B2,ht2,hg2,hs2,ha2⟩:=Ln (rest:=[]) _ is hf (A5 hst) hs (ha.put hd (v:=.tup [.v (goInt (-1)),.v (.bool false),.v z]) (x:=.tuple #[goInt (-1),.bool false,z]) rfl);rw [List.append_nil] at ht2;exact Nv (by rw [hr];exact h3.trans ht2) (hQ a2 w2 B2 hg2 hs2 ha2)
end
section
set_option maxRecDepth 10000
theorem F8 {args:List SV} {σ σ':St} {v:SV} (h:xSend args σ=some (v,σ')):Ok Tryz.prog (.call 236 args σ) (.val v σ'):=by
 unfold xSend at h;split at h
 ·rename_i b
  split at h
  ·rename_i x y c hb
   split at h
   ·rename_i cap k hc
    refine ⟨⟨_,Tryz.func236,by kernel_rfl⟩,fun w0 F B w vs hs hd=>?_⟩;obtain ⟨p,q,buf,s,r,hp,hq,rfl,hob,hsz,hs2⟩:=duo hs hb hc hd;refine callsIn_of_wp_marks Tryz.func236 J trivial ?_;have hag:=ags1 (n:=16) (B:=Lj p q) (p:=p) (by omega) rfl;rw [Tryz.ntmps236];refine wpIn_seq ?_;refine wpIn_mono (H5 (E2:=[(0,.ptr 0 0),(10,.v (.bool (ieq y x)))]) hs2 hag 20 (by kernel_rfl) (by kernel_rfl) ⟨by kernel_rfl,by kernel_rfl,trivial⟩) ?_;rintro e a1 w1 ⟨rfl,B1,hg1,hs1,ha1⟩;show Code.wpIn _ _ _ _ _ _ _;have hev:=(Xk (ha1.eval (x:=.tmp 10) rfl));refine wpIn_cond_split hev (fun ht=>?_) (fun ht=>?_)
    ·rw [ht] at h;simp only [cond_true] at h;cases hk:Nat.blt k cap with
     | false=>rw [hk] at h;cases h
     | true =>
      rw [hk] at h;cases h;refine Jx (is:=[0,1,2,3,4]) (c:=1) (cap:=cap) (k:=k) 5 J ⟨⟨J,J⟩,⟨J,J⟩,⟨J,J⟩,⟨J,J⟩,⟨J,J⟩,trivial⟩ J J J J (by kernel_rfl) (by kernel_rfl) (by kernel_rfl) (by simpa using hk) hs1 ha1 ?_;intro a2 w2 B2 hg2 hs3 ha2;show LeavesInM _ _ _ _ _ _ _ _ _;have hb0:B2 0=some p:=(hg1.trans hg2).2.2 0 (.inl (by show 0<2;omega));have hb1:B2 1=some q:=(hg1.trans hg2).2.2 1 (.inl (by show 1<2;omega));exact out0 (hdc:=Pn _) Zj (Zep hs hb hc hp hq hs3 (by kernel_rfl) (by kernel_rfl) hb0 hb1 J (fun i=>σ.get_set (hs.idl hc) i _)) (nods ha2) (x:=.tuple #[]) J J (fun w'=>by kernel_rfl)
    ·rw [ht] at h;cases h;refine wpIn_skip ?_;show LeavesInM _ _ _ _ _ _ _ _ _;have hb0:B1 0=some p:=hg1.2.2 0 (.inl (by show 0<2;omega));have hb1:B1 1=some q:=hg1.2.2 1 (.inl (by show 1<2;omega));exact out0 (hdc:=Pn _) Zj (Zep hs hb hc hp hq hs1 (by kernel_rfl) (by kernel_rfl) hb0 hb1 J (Js hc)) (nods ha1) (x:=.tuple #[]) J J (fun w'=>by kernel_rfl)
   ·cases h
  ·cases h
 ·cases h
end
end S
namespace S
open Go Go.RowKit E
section
set_option maxRecDepth 10000
theorem Zbk {args:List SV} {σ σ':St} {v:SV} (h:xOut args σ=some (v,σ')):Ok Tryz.prog (.call 352 args σ) (.val v σ'):=by
 unfold xOut at h;split at h
 ·rename_i b
  split at h
  ·rename_i x y c hb
   split at h
   ·rename_i cap hc
    cases h;refine ⟨⟨_,Tryz.func352,by kernel_rfl⟩,fun w0 F B w vs hs hd=>?_⟩;obtain ⟨p,q,buf,s,r,hp,hq,rfl,hob,hsz,hs2⟩:=duo hs hb hc hd;refine callsIn_of_wp_marks Tryz.func352 J trivial ?_;have hag:=ags1 (n:=10) (B:=Lj p q) (p:=p) (by omega) rfl;rw [Tryz.ntmps352];refine wpIn_seq ?_;refine wpIn_mono (H5 (E2:=[(0,.ptr 0 0)]) hs2 hag 20 (by kernel_rfl) (by kernel_rfl) ⟨by kernel_rfl,trivial⟩) ?_;rintro e a1 w1 ⟨rfl,B1,hg1,hs1,ha1⟩;show Code.wpIn _ _ _ _ _ _ _;refine wpIn_seq ?_;refine wpIn_mono (H5 (E2:=[(6,.ch 1)]) hs1 ha1 20 (by kernel_rfl) (by kernel_rfl) ⟨by kernel_rfl,trivial⟩) ?_;rintro e a2 w2 ⟨rfl,B2,hg2,hs3,ha2⟩;show Code.wpIn _ _ _ _ _ _ _;refine wpIn_seq ?_;refine Nl (is:=[1,2]) (c:=1) (cap:=cap) (d:=7) J ⟨⟨J,J⟩,⟨J,J⟩,trivial⟩ J J J J J (z:=.agg #[]) (by kernel_rfl) J (by kernel_rfl) (by kernel_rfl) hs3 ha2 ?_;intro a3 w3 B3 hg3 hs4 ha3;show Code.wpIn _ _ _ _ _ _ _;refine wpIn_mono (run_rt (E2:=[(2,.v (.bool false))]) hs4 ha3 20 (by kernel_rfl) (by kernel_rfl) ⟨by kernel_rfl,trivial⟩) ?_;rintro e a4 w4 ⟨rfl,B4,hg4,hs5,ha4⟩;show LeavesInM _ _ _ _ _ _ _ _ _;have hg:=(hg1.trans hg2).trans (hg3.trans hg4);have hb0:B4 0=some p:=hg.2.2 0 (.inl (by show 0<2;omega));have hb1:B4 1=some q:=hg.2.2 1 (.inl (by show 1<2;omega));have hs6:Sx w0 F B σ w4:=Zep hs hb hc hp hq hs5 (by kernel_rfl) (by kernel_rfl) hb0 hb1 rfl (Js hc);refine Uh Zj (Pn _) [] (σ':=σ) J hs6 (by rw [nods ha4];rfl) fun w5 hs7=>?_
    obtain ⟨x,hx,hr⟩:=L2 (P:=Tryz.prog) (fn:=Tryz.f352) (l:=[.v (.bool false)]) (n:=10) (E:=[(2,.v (.bool false))]) (a:=a4) hs7 ⟨ha4.tm.1,fun i v hv=>by
     obtain ⟨x,hx,ht⟩:=ha4.tm.2 i v hv;rw [Z9] at hv;cases hbq:Nat.beq i 2 with
     | false=>rw [hbq] at hv;cases hv
     | true=>rw [hbq] at hv;cases hv;exact ⟨x,hx,ht⟩⟩ (by kernel_rfl)
    exact ⟨x,hr,x,B,J,Gr.refl _ _,hx,hs7⟩
   ·cases h
  ·cases h
 ·cases h
end
theorem X0_ok:XOk Tryz.prog X0:=by
 intro f g args σ v σ' hf hg;unfold X0 at hf;cases h1:Nat.beq f 131 with
 | true=>rw [h1] at hf;cases hf;have:=Nat.eq_of_beq_eq_true h1;subst this;exact I5 hg
 | false =>
  rw [h1] at hf;cases h2:Nat.beq f 236 with
  | true=>rw [h2] at hf;cases hf;have:=Nat.eq_of_beq_eq_true h2;subst this;exact F8 hg
  | false =>
   rw [h2] at hf;cases h3:Nat.beq f 352 with
   | true=>rw [h3] at hf;cases hf;have:=Nat.eq_of_beq_eq_true h3;subst this;exact Zbk hg
   | false=>rw [h3] at hf;cases hf
noncomputable def R1 (k:Nat):Rec:=run Tryz.prog X0 dc0 (drawF Tryz.prog) k
theorem Rk (k:Nat):T3 Tryz.prog (R1 k):=H6 Zj X0_ok O6 (fun _ h=>Dd Yt Zj h) k
end S
namespace S
open Go Go.RowKit E
section
set_option maxRecDepth 10000
variable {N mt ch k cap:Nat} {x y:Int}
theorem Fj {bs:List Nat} {G:Nat->Option SB} {σ:St} (hf:Few bs N G σ) (hfr:∀ i,N<=i->G i=none):after bs N G σ=G:=by
 funext g
 unfold after;by_cases hm:g ∈ bs
 ·rw [if_pos hm];have hlt:=List.idxOf_lt_length_of_mem hm;have hi:bs[bs.idxOf g]?=some g:=by rw [List.getElem?_eq_getElem hlt,List.getElem_idxOf]
  obtain ⟨sb,hs⟩:=hf.all _ g hi;obtain ⟨g',hg',hG⟩:=hf.own _ sb hs;rw [hi] at hg';cases hg';rw [hs,hG];rfl
 ·rw [if_neg hm];by_cases hN:g<N
  ·rw [if_pos hN]
  ·rw [if_neg hN,if_neg (by rw [hf.n];omega),hfr g (by omega)]
theorem E8 {P:Program} {f:FuncId} {X Y:SB} {b c:Nat} {args:List SV} {v:SV} (h:Ok P (.call f args (pair X Y)) (.val v (pair X Y))):HF P f (X3 (rho [b,c] N) args) N [(b,W4 (rho [b,c] N) X),(c,W4 (rho [b,c] N) Y)] fun u N' H'=>u=ren (rho [b,c] N) v/\N'=N/\H'=[(b,W4 (rho [b,c] N) X),(c,W4 (rho [b,c] N) Y)]:=by
 refine ⟨h.1,fun G hs hfr=>?_⟩;have hne:b≠c:=hs.ne (i:=0) (j:=1) rfl rfl (by omega)
 have hf:Few [b,c] N G (pair X Y):=by
  refine ⟨J,by unfold lim;simp,by simp [hne],fun i z hi=>?_,fun i g hi=>?_⟩
  ·rw [W1] at hi;by_cases e:i=1
   ·subst e;rw [if_pos rfl] at hi;cases hi;exact ⟨c,J,hs.get (i:=1) J⟩
   ·rw [if_neg e] at hi;by_cases e0:i=0
    ·subst e0;rw [if_pos rfl] at hi;cases hi;exact ⟨b,J,hs.get (i:=0) J⟩
    ·rw [if_neg e0] at hi;cases hi
  ·match i,hi with
   | 0,_=>exact ⟨X,by rw [W1];rfl⟩
   | 1,_=>exact ⟨Y,by rw [W1];rfl⟩
 refine (gfRun h hf).mono ?_;rintro u N' G' ⟨rfl,rfl,rfl⟩;rw [Fj hf hfr];exact ⟨_,⟨J,J,J⟩,Hx.start hs hfr⟩
theorem Zbl:HF Tryz.prog 352 [.ptr mt 0] N [(mt,.cells [Zi x,Zi y,.ch ch]),(ch,.chan cap 0)] fun u N' H'=>u=Zb false/\N'=N/\H'=[(mt,.cells [Zi x,Zi y,.ch ch]),(ch,.chan cap 0)] :=
 E8 (X:=.cells [Zi x,Zi y,.ch 1]) (Y:=.chan cap 0) (args:=[.ptr 0 0]) (v:=Zb false) (Zbk (by kernel_rfl))
theorem F9 (h:y≠x):HF Tryz.prog 236 [.ptr mt 0] N [(mt,.cells [Zi x,Zi y,.ch ch]),(ch,.chan cap k)] fun u N' H'=>u=.tup []/\N'=N/\H'=[(mt,.cells [Zi x,Zi y,.ch ch]),(ch,.chan cap k)]:=by
 have he:ieq y x=false:=Bool.eq_false_iff.2 fun e=>h (S5.1 e);refine E8 (X:=.cells [Zi x,Zi y,.ch 1]) (Y:=.chan cap k) (args:=[.ptr 0 0]) (v:=.tup []) (F8 ?_);show (bif ieq y x then _ else _)=_;rw [he];rfl
theorem I4 {n:Nat} (h:(n:Int)+1≠x) (hn:n<=100000):HF Tryz.prog 384 [.ptr mt 0] N [(mt,.cells [Zi x,Zn n,.ch ch]),(ch,.chan cap k)] fun u N' H'=>u=.tup []/\N'=N/\H'=[(mt,.cells [Zi x,Zn (n+1),.ch ch]),(ch,.chan cap k)]:=by
 refine hf1 Tryz.func384 J Tryz.ntmps384 fun _ _ _ _=>?_;refine Zd (Za 4 [0] [(2,Zq mt 0),(5,Zn n)] [] (Zu (v:=Zn (n+1)) J (Xr J J J (by omega)) J ?_));refine Zy 3 [0] [] [] N [] [(0,Zc [Zi x,Zn (n+1),SV.ch ch])] (Zg (Zo (Za 1 [] [(9,Zq mt 0)] [] (Z0 [0,1] [1,0] Zj J J J J (F9 h) J (Z7 (Z5 [0,1] (.inl J) Zj J (by decide) ?_))))));exact ⟨J,J,J⟩
end
end S
namespace S
open Go Go.RowKit E
section
set_option maxRecDepth 10000
variable {mc f s N ln lo wb nm cl un ev inp:Nat} {a0 a1 a2 a3 a4 a5 a6 v m0 m1 m2 m3 m4 m5 m6 m7 m8 m9 m10 m11 m12 m13 m14 m15 m16:SV} {c d us es:List SV} {x y n:Int} {nb:ByteArray}
theorem Ll {k:Nat} (hl:us.length=k) (hk:k<=1000):HF Tryz.prog 311 [.ptr mc 0] N [(mc,.cells [m0,m1,m2,m3,m4,m5,m6,m7,m8,m9,m10,.sl un 0 (k+1) 0,m12,m13,m14,m15,m16]),(un,.row 364 1 (k+1) (us++[v]))] fun u N' H'=>u=v/\N'=N/\H'=[(mc,.cells [m0,m1,m2,m3,m4,m5,m6,m7,m8,m9,m10,.sl un 0 (k+1) 0,m12,m13,m14,m15,m16]),(un,.row 364 1 (k+1) (us++[v]))]:=by
 refine hf1 Tryz.func311 J Tryz.ntmps311 fun _ _ _ _=>?_;refine Zd (Za 1 [] [(2,Zp)] [] (Z1 ?_))
 refine Y0 [.ptr mc 0,.ptr mc 0,.ptr mc 11,.sl un 0 (k+1) 0,.ptr mc 0,.ptr mc 0,.ptr mc 11,.sl un 0 (k+1) 0,Zn (k+1),Zn ((k+1) - 1),.ptr un (0+((k+1) - 1)*1),v,v] [] [] [0,0] [(2,v)] [] [9,10,11] Yt
  trivial
  ⟨Y4 fun _ _=>Yl rfl (Qw rfl rfl rfl (by omega) (by omega)),Y4 fun _ _=>Yl rfl (Xe rfl rfl rfl (by kernel_rfl) (by omega)),(Ys (fun _ hGG=>Z3 rfl rfl rfl (hGG.get (i:=1) rfl) (Xd (by kernel_rfl) (by subst hl;simp))) trivial),trivial⟩ rfl ?_
 refine Zr (Yc (Z5 [0,1] (.inr J) Zj J (by decide) ?_));exact ⟨J,J,J⟩
theorem Mh {k:Nat} (hl:us.length=k) (hk:k<=1000):HF Tryz.prog 309 [.ptr mc 0] N [(mc,.cells [m0,m1,m2,m3,m4,m5,m6,m7,m8,m9,m10,.sl un 0 (k+1) 0,m12,m13,m14,m15,m16]),(un,.row 364 1 (k+1) (us++[v]))] fun u N' H'=>u=.tup []/\N'=N/\H'=[(mc,.cells [m0,m1,m2,m3,m4,m5,m6,m7,m8,m9,m10,.sl un 0 k 0,m12,m13,m14,m15,m16]),(un,.row 364 1 k us)]:=by
 refine hf1 Tryz.func309 J Tryz.ntmps309 fun _ _ _ _=>?_
 refine Y0 [.ptr mc 0,.ptr mc 0,.ptr mc 0,.ptr mc 11,.sl un 0 (k+1) 0,.ptr mc 0,.ptr mc 0,.ptr mc 11,.sl un 0 (k+1) 0,Zn (k+1),Zn ((k+1) - 1),.sl un 0 ((k+1) - 1) 0,.ptr mc 0,.ptr mc 11,.tup []] [14] [(_,_)] [0,0] [] [] [10,11] Yt
  ⟨fun _ _ _ _ _ _ _ kG=>Zy 1 [0] [] [] N [] [(0,Zc [m0,m1,m2,m3,m4,m5,m6,m7,m8,m9,m10,Zk un 0 ((k+1) - 1) 0,m12,m13,m14,m15,m16])] kG,trivial⟩
  ⟨Y4 fun _ _=>Yl rfl (Qw rfl rfl rfl (by omega) (by omega)),(Ys (fun _ hGG=>Od (e:=364) (sz:=1) (k:=(k+1)) (m:=((k+1) - 1)) rfl rfl (by kernel_rfl) (by kernel_rfl) rfl rfl rfl (hGG.get (i:=1) rfl) (by omega)) (Xn (by kernel_rfl) trivial)),trivial⟩ rfl ?_
 refine M9 (i:=1) (k':=k) (c2:=us) [(mc,.cells [m0,m1,m2,m3,m4,m5,m6,m7,m8,m9,m10,Zk un 0 ((k+1) - 1) 0,m12,m13,m14,m15,m16]),(un,.row 364 1 k us)] J (by omega) (Nq hl _) J ?_;refine Z5 [0,1] (.inl J) Zj J (by decide) ?_;exact ⟨J,J,J⟩
theorem Va {k:Nat} {kd:Int} (hl:es.length=k*3) (hk:k<=20000):HF Tryz.prog 310 [.ptr mc 0,Zi kd,Zs nb] N [(mc,.cells [m0,m1,m2,m3,m4,m5,m6,m7,m8,m9,m10,m11,m12,m13,m14,.sl ev 0 k 0,m16]),(ev,.row 98 3 k es)] fun u N' H'=>u=.tup []/\N'=N+2/\H'=[(mc,.cells [m0,m1,m2,m3,m4,m5,m6,m7,m8,m9,m10,m11,m12,m13,m14,.sl (N+1) 0 (k+1) 0,m16]),(N+1,.row 98 3 (k+1) (es++[Zi kd,Zi 0,Zs nb]))]:=by
 refine hf1 Tryz.func310 J Tryz.ntmps310 fun _ _ _ _=>?_;refine Zo (Zy 9 [0] [(6,Zq mc 0),(10,Zk ev 0 k 0),(14,Zk N 0 1 0)] [] (N+1) [(N,Zw 98 3 1 [Zi kd,Zi 0,Zs nb])] [] (Uw (i:=2) (i':=0) (e:=98) (sz:=3) (by_:=32) (js:=[1]) (cc:=(es++[Zi kd,Zi 0,Zs nb])) _ (by kernel_rfl) (by kernel_rfl) J J J J J J J (by decide) J (by omega) J J (by omega) (by omega) J (Zes (m:=1) hl J) J ?_));refine Zy 3 [1] [] [] (N+2) [] [(1,Zc [m0,m1,m2,m3,m4,m5,m6,m7,m8,m9,m10,m11,m12,m13,m14,Zk (N+1) 0 (k+1) 0,m16])] (Z7 (Z5 [1,0] (.inl J) Zj J (by decide) ?_));exact ⟨J,J,J⟩
theorem Ay {kd:Int}:HF Tryz.prog 310 [.ptr mc 0,Zi kd,Zs nb] N [(mc,.cells [m0,m1,m2,m3,m4,m5,m6,m7,m8,m9,m10,m11,m12,m13,m14,Zz,m16])] fun u N' H'=>u=.tup []/\N'=N+2/\H'=[(mc,.cells [m0,m1,m2,m3,m4,m5,m6,m7,m8,m9,m10,m11,m12,m13,m14,.sl (N+1) 0 1 0,m16]),(N+1,.row 98 3 1 [Zi kd,Zi 0,Zs nb])]:=by
 refine hf1 Tryz.func310 J Tryz.ntmps310 fun _ _ _ _=>?_;refine Zo (Zy 9 [0] [(6,Zq mc 0),(10,Zz),(14,Zk N 0 1 0)] [] (N+1) [(N,Zw 98 3 1 [Zi kd,Zi 0,Zs nb])] [] (Ux (i':=0) (e:=98) (sz:=3) (by_:=32) (cc:=[Zi kd,Zi 0,Zs nb]) [2] _ (by kernel_rfl) (by kernel_rfl) J J J J J J J J (by omega) (by omega) J (J) (by decide) J ?_));refine Zy 3 [1] [] [] (N+2) [] [(1,Zc [m0,m1,m2,m3,m4,m5,m6,m7,m8,m9,m10,m11,m12,m13,m14,Zk (N+1) 0 1 0,m16])] (Z7 (Z5 [1,0] (.inl J) Zj J (by decide) ?_));exact ⟨J,J,J⟩
theorem Zag {k:Nat} (hl:c.length=ln) (hbd:ln+1<=50000) (he:es.length=k*3) (hk:k<=20000):HF Tryz.prog 230 [.ptr mc 0,.ptr f 0,v] N [(mc,.cells [m0,m1,m2,m3,m4,m5,m6,m7,m8,m9,m10,m11,m12,m13,m14,.sl ev 0 k 0,m16]),(ev,.row 98 3 k es),(f,.cells [a0,a1,a2,a3,.sl s 0 (ln+1) 0,a5,a6]),(s,.row 366 1 (ln+1) (c++[.ifc 3 (Zi x)]))] fun u N' H'=>u=Zp/\N'=N+2/\H'=[(mc,.cells [m0,m1,m2,m3,m4,m5,m6,m7,m8,m9,m10,m11,m12,m13,m14,.sl (N+1) 0 (k+1) 0,m16]),(N+1,.row 98 3 (k+1) (es++[Zi 1,Zi x,Ze])),(f,.cells [a0,a1,a2,a3,.sl s 0 ln 0,a5,a6]),(s,.row 366 1 ln c)]:=by
 refine hf1 Tryz.func230 J Tryz.ntmps230 fun _ _ _ _=>?_;refine Zd (Za 1 [] [(6,Zp)] [] (Z1 ?_))
 refine Y0 [.ptr mc 0,.ptr mc 0,.ptr mc 0,.ptr mc 15,.sl ev 0 k 0,.ptr f 0,Zi x,.agg [Zi 1,Zi x,Ze],.sl N 0 1 0,.sl (N+1) 0 (k+1) 0,.ptr mc 0,.ptr mc 15,.tup []] [6,8,9,12] [(_,_),(_,_),(_,_),(_,_)] [0,2,3] [] [] [] Yt
  ⟨fun _ _ _ _ _ _ _ kG=>Z0 [2,3] [3,2] Zj rfl rfl rfl rfl (Jl hl hbd) rfl kG,fun _ _ _ _ _ _ _ kG=>Zy 1 [] [(15,Zk N 0 1 0)] [] (N+1) [(N,Zw 98 3 1 [Zi 1,Zi x,Ze])] [] kG,fun _ _ _ _ _ _ _ kG=>Uw (i:=4) (i':=0) (e:=98) (sz:=3) (by_:=32) (js:=[1,2,3]) (cc:=(es++[Zi 1,Zi x,Ze])) _ (by kernel_rfl) (by kernel_rfl) rfl rfl rfl rfl rfl rfl rfl (by decide) rfl (by omega) rfl rfl (by omega) (by omega) rfl (Zes (m:=1) he rfl) rfl kG,fun _ _ _ _ _ _ _ kG=>Zy 1 [3] [] [] (N+2) [] [(3,Zc [m0,m1,m2,m3,m4,m5,m6,m7,m8,m9,m10,m11,m12,m13,m14,Zk (N+1) 0 (k+1) 0,m16])] kG,trivial⟩
  trivial rfl ?_
 refine Yh (Za 1 [] [(6,Zp)] [] (Zg (Yc (Z5 [3,0,1,2] (.inr J) Zj J (by decide) ?_))));exact ⟨J,J,J⟩
end
end S
namespace S
open Go Go.RowKit E
section
set_option maxRecDepth 10000
variable {mc f me cd tb N N1 lo un mt ch p k op:Nat} {a1 a3 a4 a5 v u m0 m1 m2 m3 m4 m5 m6 m7 m9 m10 m11 m12 m13 m14 m15 m16:SV} {e0 e1 e2 e3 e4 e5 e6 e7 e8 e9:SV} {c d us es code tab:List SV} {x y n:Int} {Ho H1:Ch} {t1 t2 t4 t5 t6:SV} {g:FuncId} {cap:List SV} {M1 F1:SB}
theorem off0 {i:Nat} {v:SV} (h:code[8*p+i]?=some v):code[0+p*8+i]?=some v:=by rw [show 0+p*8+i=8*p+i by omega];exact h
theorem Zdr (hp:p<k) (hk:k<=1000) (hop:code[8*p]?=some (Zn op)) (hn:code[8*p+1]?=some (Zi n)) (hopb:op<33) (h1:sOne t1=true) (h2:sOne t2=true) (h4:sOne t4=true) (h5:sOne t5=true) (h6:sOne t6=true) (ht:cutAt tab (0+op*7) 7=[.v .nilFunc,t1,t2,.fn g [] cap,t4,t5,t6])
  (hg:HF Tryz.prog g ([.ptr mc 0,.ptr f 0,Zi n]++cap) (N+1) ([(mc,.cells [m0,m1,m2,m3,m4,m5,m6,m7,.sl tb 0 33 0,m9,m10,m11,m12,m13,m14,m15,m16]),(f,.cells [.ptr me 0,Zn p,a1,a3,a4,a5,Zp])]++Ho) (fun a b c=>a=u/\b=N1/\c=[(mc,M1),(f,F1)]++H1)) :
  HF Tryz.prog 383 [.ptr mc 0,.ptr f 0] N ([(mc,.cells [m0,m1,m2,m3,m4,m5,m6,m7,.sl tb 0 33 0,m9,m10,m11,m12,m13,m14,m15,m16]),(f,.cells [.ptr me 0,Zn p,a1,a3,a4,a5,Zp]),(me,.cells [e0,e1,e2,e3,e4,e5,e6,e7,e8,e9,.sl cd 0 k 0]),(cd,.row 475 8 k code),(tb,.row 307 7 33 tab)]++Ho)
   fun a b c=>a=.tup [u,Zb true]/\b=N1/\c=[(mc,M1),(f,F1),(me,.cells [e0,e1,e2,e3,e4,e5,e6,e7,e8,e9,.sl cd 0 k 0]),(cd,.row 475 8 k code),(tb,.row 307 7 33 tab)]++H1:=by
 refine hf1 Tryz.func383 J Tryz.ntmps383 fun _ _ _ _=>?_;refine Zd (Za 2 [] [(4,Zp),(5,Zb false)] [] (Z1 (Zd (Za 5 [1] [(13,Zb false)] [] (Zg (Z6 J (Ya (Zr (Z2 ?_)))))))))
 refine Y0 [.ptr f 0,.ptr f 0,.ptr f 0,.ptr me 0,.ptr me 0,.ptr me 10,.sl cd 0 k 0,.ptr f 0,.ptr f 0,.ptr f 1,Zn p,.ptr cd (0+p*8),.ptr cd (0+p*8)] [] [] [1,2,1] [(6,Zq cd (0+p*8))] [] [11] Yt
  trivial
  ⟨Y4 fun _ _=>Yl rfl (Xe rfl rfl rfl (by kernel_rfl) (by omega)),trivial⟩ rfl ?_
 refine Zr (Z2 ?_)
 refine Y0 [.ptr mc 0,.ptr mc 0,.ptr mc 8,.sl tb 0 33 0,.ptr cd (0+p*8),.ptr cd (0+p*8),.ptr cd (0+p*8),.ptr cd (0+p*8),Zn op,.ptr tb (0+op*7),.agg [.v .nilFunc,t1,t2,.fn g [] cap,t4,t5,t6],.ptr N 0,.tup []] [11,12] [(_,_),(_,_)] [0,1] [(7,Zq N 0)] [] [8,9,10] Yt
  ⟨fun _ _ _ _ _ _ _ kG=>Zy 1 [] [(7,Zq N 0)] [] (N+1) [(N,Zc [SV.v .nilFunc,SV.v .nilFunc,Zb false,SV.v .nilFunc,SV.v .nilFunc,SV.v .nilFunc,SV.v .nilFunc])] [] kG,fun _ _ _ _ _ _ _ kG=>Wl (i:=0) (m:=7) (c:=[.v .nilFunc,t1,t2,.fn g [] cap,t4,t5,t6]) ([(N,Zc [SV.v .nilFunc,t1,t2,Zh g [] cap,t4,t5,t6]),(mc,Zc [m0,m1,m2,m3,m4,m5,m6,m7,Zk tb 0 33 0,m9,m10,m11,m12,m13,m14,m15,m16]),(f,Zc [Zq me 0,Zn p,a1,a3,a4,a5,Zp]),(me,Zc [e0,e1,e2,e3,e4,e5,e6,e7,e8,e9,Zk cd 0 k 0]),(cd,Zw 475 8 k code),(tb,Zw 307 7 33 tab)]++Ho) rfl rfl rfl rfl rfl rfl (by kernel_rfl) rfl rfl (by simp [List.all_cons,h1,h2,h4,h5,h6];exact ⟨J,J⟩) (Nat.le_of_ble_eq_true J) J kG,trivial⟩
  ⟨(Ys (fun _ hGG=>Z3 rfl rfl rfl (hGG.get (i:=3) rfl) (Xd (by kernel_rfl) (off0 (i:=0) hop))) (Ys (fun _ hGG=>Z3 rfl rfl rfl (hGG.get (i:=4) rfl) (Xd (by kernel_rfl) (off0 (i:=0) hop))) (Xn (by kernel_rfl) trivial))),Y4 fun _ _=>Yl rfl (Xe rfl rfl rfl (by kernel_rfl) (by omega)),(Ys (fun _ hGG=>Z3 rfl rfl rfl (hGG.get (i:=4) rfl) (by have:=X5 (P:=Tryz.prog) (t:=307) (m:=7) (off:=0+op*7) (sb:=.row 307 7 33 tab) (c:=tab) (by kernel_rfl) (by kernel_rfl) rfl (by rw [ht];rfl);rw [ht] at this;exact this)) (Ys (fun _ hGG=>Z3 J J J (hGG.get (i:=5) J) (by have:=X5 (P:=Tryz.prog) (t:=307) (m:=7) (off:=0+op*7) (sb:=.row 307 7 33 tab) (c:=tab) (by kernel_rfl) (by kernel_rfl) J (by rw [ht];rfl);rw [ht] at this;exact this)) (Xn (by kernel_rfl) trivial))),trivial⟩ J ?_
 refine Zr (Z2 (Zd (Za 14 [0] [(58,Zb true)] [] (Zg (Yj J (Z2 ?_))))))
 refine Y0 [.ptr N 3,.fn g [] cap,.ptr mc 0,.ptr f 0,.ptr cd (0+p*8),.ptr cd (0+p*8),.ptr cd (0+p*8),.ptr cd ((0+p*8)+1),Zi n,u,u,Zb true] [9] [(_,_)] [0] [(4,u),(5,Zb true)] [] [8] Yt
  ⟨fun _ _ _ _ _ _ _ kG=>Qm 6 2 [1,2] [0,3,4,5] Zj rfl rfl rfl rfl (hg) rfl kG,trivial⟩
  ⟨(Ys (fun _ hGG=>Z3 rfl rfl rfl (hGG.get (i:=4) rfl) (Xd (by kernel_rfl) (off0 (i:=1) hn))) (Xn (by kernel_rfl) trivial)),trivial⟩ rfl ?_
 refine Zr (Yc (Xg (Wk 6 [0,1,3,4,5] (.inr J) Zj J ?_)));exact ⟨J,J,J⟩
theorem Un {q dn fu:Nat} {r11 r13 r14 r15 r16:SV} {cp kc:Nat} {U1:SB} (hq:us.length=q) (hqb:q<=1000) (hp:p<k) (hk:k<=1000) (hop:code[8*p]?=some (Zn op)) (hn:code[8*p+1]?=some (Zi n)) (hopb:op<33) (h1:sOne t1=true) (h2:sOne t2=true) (h4:sOne t4=true) (h5:sOne t5=true) (h6:sOne t6=true) (ht:cutAt tab (0+op*7) 7=[.v .nilFunc,t1,t2,.fn g [] cap,t4,t5,t6])
  (hd:(dn:Int)+1≠fu) (hdb:dn<=100000)
  (hg:HF Tryz.prog g ([.ptr mc 0,.ptr f 0,Zi n]++cap) (N+1) ([(mc,.cells [m0,m1,m2,m3,m4,m5,m6,m7,.sl tb 0 33 0,m9,m10,.sl un 0 (q+1) 0,.ptr mt 0,m13,m14,m15,m16]),(f,.cells [.ptr me 0,Zn p,Zn (p+1),a3,a4,a5,Zp])]++((un,.row 364 1 (q+1) (us++[.ptr f 0]))::Ho)) (fun a b c=>a=Zp/\b=N1/\c=[(mc,.cells [m0,m1,m2,m3,m4,m5,m6,m7,.sl tb 0 33 0,m9,m10,r11,.ptr mt 0,r13,r14,r15,r16]),(f,F1)]++((un,U1)::H1))) :
  HF Tryz.prog 353 [.ptr mc 0] N ([(mc,.cells [m0,m1,m2,m3,m4,m5,m6,m7,.sl tb 0 33 0,m9,m10,.sl un 0 (q+1) 0,.ptr mt 0,m13,m14,m15,m16]),(f,.cells [.ptr me 0,a1,Zn p,a3,a4,a5,Zp]),(me,.cells [e0,e1,e2,e3,e4,e5,e6,e7,e8,e9,.sl cd 0 k 0]),(cd,.row 475 8 k code),(tb,.row 307 7 33 tab),(un,.row 364 1 (q+1) (us++[.ptr f 0])),(mt,.cells [Zi fu,Zn dn,.ch ch]),(ch,.chan cp kc)]++Ho)
   fun a b c=>a=.tup []/\b=N1/\c=[(mc,.cells [m0,m1,m2,m3,m4,m5,m6,m7,.sl tb 0 33 0,m9,m10,r11,.ptr mt 0,r13,r14,r15,r16]),(f,F1),(me,.cells [e0,e1,e2,e3,e4,e5,e6,e7,e8,e9,.sl cd 0 k 0]),(cd,.row 475 8 k code),(tb,.row 307 7 33 tab),(un,U1),(mt,.cells [Zi fu,Zn (dn+1),.ch ch]),(ch,.chan cp kc)]++H1:=by
 refine hf1 Tryz.func353 J Tryz.ntmps353 fun _ _ _ _=>?_;refine Zd (Za 1 [] [(5,Zq mc 0)] [] (Z0 [0,5] [5,0] Zj J J J J (Ll hq hqb) J (Za 1 [] [(2,Zq f 0)] [] (Z1 ?_))))
 refine Y0 [.ptr f 0,.ptr f 0,.ptr f 0,.ptr f 0,.ptr f 2,Zn p,.ptr f 0,.ptr f 0,.ptr f 2,Zn p,Zn (p+1),.ptr f 0,.ptr f 1,.tup [],.ptr f 0,.ptr f 2,.tup []] [13,16] [(_,_),(_,_)] [2,2] [] [] [10] Yt
  ⟨fun _ _ _ _ _ _ _ kG=>Zy 1 [2] [] [] N [] [(2,Zc [Zq me 0,Zn p,Zn p,a3,a4,a5,Zp])] kG,fun _ _ _ _ _ _ _ kG=>Zy 1 [2] [] [] N [] [(2,Zc [Zq me 0,Zn p,Zn (p+1),a3,a4,a5,Zp])] kG,trivial⟩
  ⟨Y4 fun _ _=>Yl rfl (Xr rfl rfl rfl (by omega)),trivial⟩ rfl ?_
 refine Yh (Za 2 [] [(23,Zq mc 0),(24,Zq f 0)] [] (Qm 8 6 [0,2,3,4,5,1] [6,7] Zj J J J J (Zdr hp hk hop hn hopb h1 h2 h4 h5 h6 ht hg) J (Za 5 [] [(3,Zp),(4,Zb true)] [] (Z1 (Zd (Za 2 [] [(29,Zb false)] [] (Zg (Z6 J (Ya (Yh (Za 4 [0] [(40,Zq mt 0)] [] (Z0 [6,7] [7,6] Zj J J J J (I4 hd hdb) J (Zx (Za 2 [] [(43,Zb false)] [] (Zg (Z6 J (Ya (Wk 8 [2,3,4,5,6,7,0,1] (.inl J) Zj J ?_))))))))))))))))));exact ⟨J,J,J⟩
end
end S
namespace S
open Go Go.RowKit E
section
set_option maxRecDepth 10000
variable {mc f me cd tb N N1 lo un mt ch p k s ln nm inp ev:Nat} {a0 a1 a2 a3 a4 a5 a6 v u m0 m1 m2 m3 m4 m5 m6 m7 m8 m9 m10 m11 m12 m13 m14 m15 m16:SV} {e0 e1 e2 e3 e4 e5 e6 e7 e8 e9:SV} {zp:Option Addr} {zq:Nat} {c d us es code:List SV} {x y n:Int}
theorem Zeo {q:Nat} {w:SV} (hl:us.length=q) (hk:q<=1000) :
  HF Tryz.prog 223 [.ptr mc 0,.ptr f 0,v] N [(mc,.cells [m0,m1,m2,m3,m4,m5,m6,m7,m8,m9,m10,.sl un 0 (q+1) 0,m12,m13,m14,m15,m16]),(f,.cells [a0,a1,a2,a3,a4,Zp,a6]),(un,.row 364 1 (q+1) (us++[w]))] fun u N' H'=>u=Zp/\N'=N/\H'=[(mc,.cells [m0,m1,m2,m3,m4,m5,m6,m7,m8,m9,m10,.sl un 0 q 0,m12,m13,m14,m15,m16]),(f,.cells [a0,a1,a2,a3,a4,Zp,a6]),(un,.row 364 1 q us)]:=by
 refine hf1 Tryz.func223 J Tryz.ntmps223 fun _ _ _ _=>?_;refine Zd (Za 1 [] [(6,Zp)] [] (Zx (Za 1 [] [(7,Zq mc 0)] [] (Z0 [0,2] [2,0] Zj J J J J (Mh hl hk) J (Z1 (Zd (Za 5 [2] [(13,Zb false)] [] (Zg (Z6 J (Ya (Yh (Za 1 [] [(6,Zp)] [] (Zg (Yc (Z5 [0,2,1] (.inr J) Zj J (by decide) ?_)))))))))))))));exact ⟨J,J,J⟩
end
end S

namespace S
open Go Go.RowKit E
def Th (tab:List SV) (op:Nat) (g:FuncId) (cap:List SV):Prop:=cutAt tab (0+op*7) 7=[.v .nilFunc,.v .nilFunc,Zb false,.fn g [] cap,.v .nilFunc,.v .nilFunc,.v .nilFunc]
structure TabOk (tab:List SV) (wa ws wm:Nat):Prop where
 push:Th tab 1 198 []
 load:Th tab 2 199 []
 store:Th tab 3 200 []
 pop:Th tab 4 201 []
 add:Th tab 6 290 [.ptr wa 0]
 sub:Th tab 7 290 [.ptr ws 0]
 mul:Th tab 8 290 [.ptr wm 0]
 div:Th tab 9 207 []
 back:Th tab 22 223 []
 print:Th tab 27 230 []
 read:Th tab 28 231 []
inductive InpOf:SV->Ch->List Int->Prop
 | nil (p:Option Addr) (q:Nat):InpOf (.v (.slice p 0 q)) [] []
 | row (b io ij st:Nat) (sf:Nat × Nat) (ins:List SV) (l:List Int) (h:∀ (i:Nat) (x:Int),l[i]?=some x->ins[io+i*1]?=some (.v (.int .i64 x))) (hb:l.length<=4000000) (hj:ij+l.length<=ins.length):InpOf (.sl b io l.length ij) [(b,.seen ins st sf)] l
section
set_option maxRecDepth 10000
variable {p op dn s ln ev ek i N N1:Nat} {n a b:Int} {a1 st v r11:SV} {c d es:List SV} {Ho Ho1:Ch} {g:FuncId} {cap:List SV} {F1 U1:SB} {i' ev' ek':Nat}
theorem Zad:∀ {d:List SV} {j:Nat},j<d.length->∀ v,sput d (0+j*1) [v]=d.set j v:=by
 intro d j h v;unfold sput;rw [Nat.zero_add,Nat.mul_one];simp only [List.length_cons,List.length_nil,Nat.zero_add];rw [List.set_eq_take_append_cons_drop,if_pos h];simp
end
end S

namespace S
open Go Go.RowKit E
section
set_option maxRecDepth 100000
variable {N:Nat}
noncomputable def opsR:Option Rs:=R1 2000 (.call 127 [] (stOf []))
theorem opsR_ok:isV opsR=true:=by kernel_rfl
noncomputable def tabOf:Option SB->List SV
 | some (.row _ _ _ l)=>l
 | _=>[]
noncomputable def tabC (N:Nat):List SV:=X3 (rho [] N) (tabOf ((rsS opsR).get 15))
theorem Hk:TabOk (tabC N) N (N+1) (N+2):=by
 constructor<;>(unfold Th;kernel_rfl)
theorem Qx {x:Int} (h:0≠x):HF Tryz.prog 128 [Zi x] N [] fun u N' H'=>u=.ptr (N+1) 0/\N'=N+2/\H'=[(N+1,.cells [Zi x,Zi 0,.ch N]),(N,.chan 1 0)]:=by
 refine hf1 Tryz.func128 J Tryz.ntmps128 fun _ _ _ _=>?_;refine Zd (Za 1 [] [(2,Zp)] [] (Zx (Zy 5 [] [(3,Zq (N+1) 0)] [] (N+2) [((N+1),Zc [Zi x,Zi 0,SV.ch N]),(N,SB.chan 1 0)] [] (Zx (Za 1 [] [(8,Zq (N+1) 0)] [] (Z0 [0,1] [1,0] Zj J J J J (F9 h) J (Zx (Za 2 [] [(2,Zq (N+1) 0)] [] (Zg (Yc (Z5 [0,1] (.inr J) Zj J (by decide) ?_)))))))))));exact ⟨J,J,J⟩
end
end S
namespace S
open Go Go.RowKit E
section
set_option maxRecDepth 100000
variable {N g:Nat}
noncomputable def inoR:Option Rs:=R1 2000 (.call 106 [.mp 0] (stOf [.map []]))
theorem inoR_ok:isV inoR=true:=by kernel_rfl
theorem Kl:HF Tryz.prog 106 [.mp g] N [(g,.map [])] fun u N' H'=>u=Zz/\N'=N+5/\H'=[(g,.map [])]:=by
 have h:=Rj (bs:=[g]) (N:=N) (Rk 2000 _ _ (Q0 inoR_ok)) rfl (by simp) (by kernel_rfl) (by kernel_rfl);have hv:ren (rho [g] N) (rsV inoR)=Zz:=by kernel_rfl
 have hn:N+((rsS inoR).n - [g].length)=N+5:=by kernel_rfl
 rw [show rsV (R1 2000 (.call 106 [.mp 0] (stOf [.map []])))=rsV inoR from rfl,hv] at h;rw [show rsS (R1 2000 (.call 106 [.mp 0] (stOf [.map []])))=rsS inoR from rfl,hn] at h;exact HF.less [0] h (by decide) (by kernel_rfl)
end
end S
end Go.Proofs.YtpofmnfkdkmieaaGreat
