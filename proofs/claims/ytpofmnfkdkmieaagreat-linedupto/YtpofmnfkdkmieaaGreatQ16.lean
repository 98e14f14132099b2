/- What is proved here: nothing is appended to a row of one's ow -/
import Derived.Test.YtpofmnfkdkmieaaGreatQ14
import Derived.Test.YtpofmnfkdkmieaaGreatQ15
set_option linter.unusedVariables false
set_option linter.unusedSimpArgs false
namespace Go.Proofs.YtpofmnfkdkmieaaGreat
namespace S
open Go Go.RowKit E
section
variable {P:Program} {l:Option Nat} {n:Nat} {all:Array Oper} {w0 w w':World} {F:List Nat} {B B0:Nm} {N N0:Nat} {T:List Nat} {G0 G:Nat->Option SB} {H:Ch} {E E':SE} {D:List SD} {o:Oper} {L:List Oper} {Q:Exit->Act->World->Prop}
theorem HL_ape {i t e sz by_ x y b ln k yq:Nat} {yp:Option Addr} {c:List SV} (hq:apInfo P e=some (sz,by_)) (ht:slOf P t=some e) (hw:wants E all o.guard=some true) (ho:o.op=.call ⟨.builtin .append,#[.tmp x,.tmp y],#[t,t]⟩)
  (hx:slook E x=some (.sl b 0 ln 0)) (hy:slook E y=some (Zl yp yq)) (hi:H[i]?=some (b,.row e sz k c)) (hl:ln<=k) (hp:putD n E o.dst (.sl b 0 ln 0)=some E') (kk:HL P l n all w0 F B0 N0 T G0 Q L E' D N H):HL P l n all w0 F B0 N0 T G0 Q (o::L) E D N H:=fun G hG B w a hs hg ha=>by
 simp only [wpListIn,Y6 ha hw];refine ⟨fun _ _=>trivial,?_⟩;rw [Oper.semAt_eq _ _ _ (fun c e=>by rw [ho] at e;cases e)];have ex:=ha.eval (x:=.tmp x) hx;have ey:=ha.eval (x:=.tmp y) hy;obtain ⟨p,hpb,hv⟩:=V6 ex;have hyv:=Xk ey;obtain ⟨q,hq',hk,_⟩:=hg.own b _ (hG.hs.get hi);rw [hpb] at hq';cases hq';obtain ⟨vs,cur,hvs,hlen,hob,hkc,hcm,hcs,htk⟩:=hk;have hle:ln<=p.2:=Nat.le_trans hl hkc;unfold slOf at ht;split at ht
 ·rename_i e' hu
  cases ht;unfold apInfo at hq;split at hq
  ·rename_i inf hinf
   have hr:(execOp a.eval o).run P w=.ok (.value (a.eval (.tmp x))) w:=by
    refine Vv ho J ?_;rw [hv,hyv];cases yp<;>simp [Builtin.append_,run_underlying hu,sizeOf,typeInfo,hinf,Builtin.lenOf,Builtin.firstCells,storeCells,loadCells,loadCellsFrom,hle]
   rw [hr];exact kk G hG B w (a.put o.dst (a.eval (.tmp x))) hs hg (W5 ha ex hp)
  ·cases hq
 ·cases ht
end
end S
namespace S
open Go Go.RowKit E
theorem Mv {B B':Nm} (h:Pre B B'):∀ (l:List (ByteArray × SV)) (e0 es:List MapEntry),Qi B l e0->Qi B' l es->Qi B l es
 | [],_,[],_,_=>trivial
 | [],_,_::_,_,hx=>hx
 | _::_,_,[],_,hx=>hx
 | (k,v)::r,[],_::_,h0,_=>h0.elim
 | (k,v)::r,e0::l0,e::l,h0,hx=>⟨hx.1,by rw [h0.2.1,<- Xl h v _ h0.2.1,hx.2.1],Mv h r l0 l h0.2.2 hx.2.2⟩
theorem Blk.back {B B':Nm} (h:Pre B B') {p:Nat × Nat} {o0 o:Option Obj}:∀ {sb:SB},Blk B p sb o0->Blk B' p sb o->Blk B p sb o
 | .cells l,⟨v0,t0,h0,_⟩,⟨vs,t,hl,ho⟩=>⟨vs,t,by rw [h0,<- Y9 h l v0 h0,hl],ho⟩
 | .row e sz k l,⟨v0,c0,h0,_⟩,⟨vs,cur,hl,r⟩=>⟨vs,cur,by rw [h0,<- Y9 h l v0 h0,hl],r⟩
 | .map es,⟨l0,c0,_,h0⟩,⟨l,c,ho,hd⟩=>⟨l,c,ho,Mv h es _ _ h0 hd⟩
 | .chan _ _,_,hx=>hx
 | .loop _ _ _ _ _ _ _,⟨r0,_,_,_,h04,_⟩,⟨r,h1,h2,h3,h4,h5⟩=>⟨r,h1,h2,h3,⟨h4.1,fun i v hv=>by
   obtain ⟨x0,hx0,_⟩:=h04.2 i v hv;obtain ⟨x,hx,ht⟩:=h4.2 i v hv;exact ⟨x,by rw [hx0,<- Xl h v x0 hx0,hx],ht⟩⟩,h5⟩
 | .defd,_,hx=>hx
 | .iter m,⟨q0,c0,hq0,_⟩,⟨q,c,hq,ho⟩=>⟨q,c,by rw [hq0,<- h m q0 hq0,hq],ho⟩
 | .seen l t fr,⟨v0,h0,_⟩,⟨vs,hl,r⟩=>⟨vs,by rw [h0,<- Y9 h l v0 h0,hl],r⟩
section
variable {P:Program} {f:FuncId} {args:List SV} {N:Nat} {H:Ch}
theorem HF.forget {R:SV->Nat->Ch->Prop} {v:SV} (is:List Nat) (h:HF P f args N H R) (hn:is.Nodup) (hv:∀ B B',den B v=den B' v) (hR:∀ u N' H',R u N' H'->u=v/\∀ p ∈ Yd H is,p ∈ H') :
  HF P f args N H fun u N' H'=>u=v/\N'=N/\H'=Yd H is:=by
 refine ⟨h.1,fun G hs hfr=>⟨h.1,fun w0 F B w vs hg hd=>((h.2 G hs hfr).2 w0 F B w vs hg hd).mono ?_⟩⟩;rintro e w' ⟨u,N',G',x,B',⟨H',hR',hx⟩,rfl,hsi,hdx,hg'⟩;obtain ⟨rfl,hH⟩:=hR _ _ _ hR'
 have key:∀ i sb,(if i ∈ H.map (·.1)/\i ∉ (Yd H is).map (·.1) then none else G i)=some sb->G i=some sb/\G' i=some sb:=by
  intro i sb hi;split at hi
  ·cases hi
  ·rename_i hc
   refine ⟨hi,?_⟩;by_cases hT:i ∈ H.map (·.1)
   ·have hp:i ∈ (Yd H is).map (·.1):=Classical.byContradiction fun h=>hc ⟨hT,h⟩;obtain ⟨q,hq,rfl⟩:=List.mem_map.1 hp;have h1:=(hs.pick hn).at_ q hq;rw [hi] at h1;cases h1;exact hx.hs.at_ q (hH q hq)
   ·exact hx.old i sb hi hT
 refine ⟨u,N,fun i=>if i ∈ H.map (·.1)/\i ∉ (Yd H is).map (·.1) then none else G i,x,B,⟨Yd H is,⟨J,J,J⟩,⟨⟨fun p hp=>?_,(hs.pick hn).nd⟩,fun q sb hq hT=>?_,fun p hp=>.inl (List.mem_map_of_mem (Yq hp)),hfr⟩⟩,J,Since.refl _ _,(hv B B').trans hdx,⟨hg'.low,fun i hi=>⟨(hg.new i hi).1,?_⟩,fun i sb hi=>?_,fun i j x y p q hi hj hp hq e=>?_⟩⟩
 ·show (if _ then _ else _)=_;rw [if_neg (fun hc=>hc.2 (List.mem_map_of_mem hp))];exact (hs.pick hn).at_ p hp
 ·show (if _ then _ else _)=_;rw [if_neg (fun hc=>hT hc.1)];exact hq
 ·show (if _ then _ else _)=_;split
  ·rfl
  ·exact hfr i hi
 ·obtain ⟨h1,h2⟩:=key i sb hi;obtain ⟨p,hp,hb,ho⟩:=hg'.own i sb h2;obtain ⟨p0,hp0,hb0,_⟩:=hg.own i sb h1;have:p0=p:=by have:=hsi.pre i p0 hp0;rw [hp] at this;exact (Option.some.inj this).symm
  subst this;exact ⟨p0,hp0,hb0.back hsi.pre hb,ho⟩
 ·exact hg'.apart i j x y p q (key i x hi).2 (key j y hj).2 (hsi.pre i p hp) (hsi.pre j q hq) e
end
end S
namespace S
open Go Go.RowKit E
def nmL (k:Nat):ByteArray:=⟨#[UInt8.ofNat (97+k)]⟩
def spL:Nat->ByteArray
 | 0=>⟨#[79,98,106,101,99,116]⟩
 | k+1=>nmL k
abbrev xS:ByteArray:=⟨#[120]⟩
abbrev Ws:ByteArray:=⟨#[115,116,97,114,116]⟩
def spBy:Nat->List UInt8
 | 0=>[6,79,98,106,101,99,116]
 | k+1=>[1,.ofNat (97+k)]
def stBy (k:Nat):Bool->List UInt8
 | true=>[1,5,115,116,97,114,116,1,0,0,0,1,3,0,1,.ofNat k,0,0,0,0,0,0,0,27,22,0,0]
 | false=>[0]
def lbL (k:Nat) (b:Bool):ByteArray:=⟨([67,76,65,83,1,UInt8.ofNat (97+k)]++(spBy k++([1,1,120,1,1]++stBy k b))).toArray⟩
abbrev e7 (op n:Int):List SV:=[Zi op,Zi n,Ze,Ze,Zz,Zi 0,Ze]
def lnV (k N:Nat):Bool->SV
 | true=>.agg [.v (.string (nmL k)),.v (.string (spL k)),.sl (N+1) 0 1 0,.sl (N+4) 0 1 0]
 | false=>.agg [.v (.string (nmL k)),.v (.string (spL k)),.sl (N+1) 0 1 0,.v (.slice none 0 0)]
def lnN (N:Nat):Bool->Nat
 | true=>N+5
 | false=>N+3
def Yk:List SV:=[Zs xS,Zb true,Zi 1,Ze]
def lnH (k N:Nat):Bool->Ch
 | true=>[(N+1,.row 128 4 1 Yk),(N+3,.row 75 7 3 (e7 1 (.ofNat k)++(e7 27 0++e7 22 0))),(N+4,.row 134 10 1 [.v (.string Ws),.v (.bool true),.v (.slice none 0 0),.v (.int .i64 0),.v (.string ⟨#[]⟩),.v (.int .i64 0),.v (.int .i64 1),.sl (N+3) 0 3 0,.v (.slice none 0 0),.v (.slice none 0 0)])]
 | false=>[(N+1,.row 128 4 1 Yk)]
section
set_option maxRecDepth 100000
variable {N:Nat}
noncomputable def outV (r:Option Rs) (bs:List Nat) (N:Nat) (is:List Nat) (m:Nat):Option (SV × Nat × Ch):=match r with
 | some (.val v σ)=>(bif Nat.ble σ.n 15000&&Nat.ble m σ.n then some (ren (rho bs N) v,N+(σ.n - bs.length),Yd (outH bs N σ) is) else none)
 | _=>none
theorem Xs {f:FuncId} {args:List SV} {bs is:List Nat} {Bs:List SB} {v:SV} {n:Nat} {H2:Ch} (k:Nat) (h:outV (R1 k (.call f args (stOf Bs))) bs N is Bs.length=some (v,n,H2)) (hl:bs.length=Bs.length) (hlim:Bs.length<=1000) (hnd:is.Nodup) :
  HF Tryz.prog f (X3 (rho bs N) args) N (inH bs N Bs) fun u N' H'=>u=v/\N'=n/\H'=H2:=by
 cases hr:R1 k (.call f args (stOf Bs)) with
 | none=>rw [hr] at h;cases h
 | some r =>
  cases r with
  | val w σ =>
   rw [hr] at h;unfold outV at h;simp only at h;cases hb:(Nat.ble σ.n 15000&&Nat.ble Bs.length σ.n) with
   | false=>rw [hb] at h;cases h
   | true =>
    rw [hb] at h;simp only [cond_true,Option.some.injEq,Prod.mk.injEq] at h;rw [Bool.and_eq_true] at hb;have:=HF.less is (Rj (N:=N) (Rk k _ _ hr) hl hlim hb.1 hb.2) hnd h.2.2;rw [h.1,h.2.1] at this;exact this
  | _=>rw [hr] at h;cases h
theorem Wq {f:FuncId} {args:List SV} {bs:List Nat} {Bs:List SB} {v:SV} (k:Nat) (h:(outV (R1 k (.call f args (stOf Bs))) bs N [] Bs.length).map (·.1)=some v) (hl:bs.length=Bs.length) (hlim:Bs.length<=1000) (hv:∀ B B',den B v=den B' v) :
  HF Tryz.prog f (X3 (rho bs N) args) N (inH bs N Bs) fun u N' H'=>u=v/\N'=N/\H'=[]:=by
 cases hr:outV (R1 k (.call f args (stOf Bs))) bs N [] Bs.length with
 | none=>rw [hr] at h;cases h
 | some x =>
  obtain ⟨v',n,H2⟩:=x;rw [hr] at h;simp only [Option.map_some,Option.some.injEq] at h;subst h;exact HF.forget [] (Xs k hr hl hlim (by decide)) (by decide) hv (fun u N' H' h=>⟨h.1,fun p hp=>by cases hp⟩)
theorem line_t0:HF Tryz.prog 37 [Zn 0,Zb true] N [] fun u N' H'=>u=lnV 0 N true/\N'=lnN N true/\H'=lnH 0 N true :=
 Xs (bs:=[]) (Bs:=[]) (is:=[1,3,4]) (args:=[Zn 0,Zb true]) 3000 (by kernel_rfl) rfl (by decide) (by decide)
theorem line_f0:HF Tryz.prog 37 [Zn 0,Zb false] N [] fun u N' H'=>u=lnV 0 N false/\N'=lnN N false/\H'=lnH 0 N false :=
 Xs (bs:=[]) (Bs:=[]) (is:=[1]) (args:=[Zn 0,Zb false]) 3000 (by kernel_rfl) rfl (by decide) (by decide)
theorem line_t1:HF Tryz.prog 37 [Zn 1,Zb true] N [] fun u N' H'=>u=lnV 1 N true/\N'=lnN N true/\H'=lnH 1 N true :=
 Xs (bs:=[]) (Bs:=[]) (is:=[1,3,4]) (args:=[Zn 1,Zb true]) 3000 (by kernel_rfl) rfl (by decide) (by decide)
theorem line_f1:HF Tryz.prog 37 [Zn 1,Zb false] N [] fun u N' H'=>u=lnV 1 N false/\N'=lnN N false/\H'=lnH 1 N false :=
 Xs (bs:=[]) (Bs:=[]) (is:=[1]) (args:=[Zn 1,Zb false]) 3000 (by kernel_rfl) rfl (by decide) (by decide)
theorem line_t2:HF Tryz.prog 37 [Zn 2,Zb true] N [] fun u N' H'=>u=lnV 2 N true/\N'=lnN N true/\H'=lnH 2 N true :=
 Xs (bs:=[]) (Bs:=[]) (is:=[1,3,4]) (args:=[Zn 2,Zb true]) 3000 (by kernel_rfl) rfl (by decide) (by decide)
theorem line_f2:HF Tryz.prog 37 [Zn 2,Zb false] N [] fun u N' H'=>u=lnV 2 N false/\N'=lnN N false/\H'=lnH 2 N false :=
 Xs (bs:=[]) (Bs:=[]) (is:=[1]) (args:=[Zn 2,Zb false]) 3000 (by kernel_rfl) rfl (by decide) (by decide)
theorem line_t3:HF Tryz.prog 37 [Zn 3,Zb true] N [] fun u N' H'=>u=lnV 3 N true/\N'=lnN N true/\H'=lnH 3 N true :=
 Xs (bs:=[]) (Bs:=[]) (is:=[1,3,4]) (args:=[Zn 3,Zb true]) 3000 (by kernel_rfl) rfl (by decide) (by decide)
theorem line_f3:HF Tryz.prog 37 [Zn 3,Zb false] N [] fun u N' H'=>u=lnV 3 N false/\N'=lnN N false/\H'=lnH 3 N false :=
 Xs (bs:=[]) (Bs:=[]) (is:=[1]) (args:=[Zn 3,Zb false]) 3000 (by kernel_rfl) rfl (by decide) (by decide)
theorem line_t4:HF Tryz.prog 37 [Zn 4,Zb true] N [] fun u N' H'=>u=lnV 4 N true/\N'=lnN N true/\H'=lnH 4 N true :=
 Xs (bs:=[]) (Bs:=[]) (is:=[1,3,4]) (args:=[Zn 4,Zb true]) 3000 (by kernel_rfl) rfl (by decide) (by decide)
theorem line_f4:HF Tryz.prog 37 [Zn 4,Zb false] N [] fun u N' H'=>u=lnV 4 N false/\N'=lnN N false/\H'=lnH 4 N false :=
 Xs (bs:=[]) (Bs:=[]) (is:=[1]) (args:=[Zn 4,Zb false]) 3000 (by kernel_rfl) rfl (by decide) (by decide)
theorem line_t5:HF Tryz.prog 37 [Zn 5,Zb true] N [] fun u N' H'=>u=lnV 5 N true/\N'=lnN N true/\H'=lnH 5 N true :=
 Xs (bs:=[]) (Bs:=[]) (is:=[1,3,4]) (args:=[Zn 5,Zb true]) 3000 (by kernel_rfl) rfl (by decide) (by decide)
theorem line_f5:HF Tryz.prog 37 [Zn 5,Zb false] N [] fun u N' H'=>u=lnV 5 N false/\N'=lnN N false/\H'=lnH 5 N false :=
 Xs (bs:=[]) (Bs:=[]) (is:=[1]) (args:=[Zn 5,Zb false]) 3000 (by kernel_rfl) rfl (by decide) (by decide)
theorem line_t6:HF Tryz.prog 37 [Zn 6,Zb true] N [] fun u N' H'=>u=lnV 6 N true/\N'=lnN N true/\H'=lnH 6 N true :=
 Xs (bs:=[]) (Bs:=[]) (is:=[1,3,4]) (args:=[Zn 6,Zb true]) 3000 (by kernel_rfl) rfl (by decide) (by decide)
theorem line_f6:HF Tryz.prog 37 [Zn 6,Zb false] N [] fun u N' H'=>u=lnV 6 N false/\N'=lnN N false/\H'=lnH 6 N false :=
 Xs (bs:=[]) (Bs:=[]) (is:=[1]) (args:=[Zn 6,Zb false]) 3000 (by kernel_rfl) rfl (by decide) (by decide)
theorem line_t7:HF Tryz.prog 37 [Zn 7,Zb true] N [] fun u N' H'=>u=lnV 7 N true/\N'=lnN N true/\H'=lnH 7 N true :=
 Xs (bs:=[]) (Bs:=[]) (is:=[1,3,4]) (args:=[Zn 7,Zb true]) 3000 (by kernel_rfl) rfl (by decide) (by decide)
theorem line_f7:HF Tryz.prog 37 [Zn 7,Zb false] N [] fun u N' H'=>u=lnV 7 N false/\N'=lnN N false/\H'=lnH 7 N false :=
 Xs (bs:=[]) (Bs:=[]) (is:=[1]) (args:=[Zn 7,Zb false]) 3000 (by kernel_rfl) rfl (by decide) (by decide)
theorem Ii:∀ (k:Nat) (b:Bool),k<8->HF Tryz.prog 37 [Zn k,Zb b] N [] fun u N' H'=>u=lnV k N b/\N'=lnN N b/\H'=lnH k N b
 | 0,true,_=>line_t0
 | 1,true,_=>line_t1
 | 2,true,_=>line_t2
 | 3,true,_=>line_t3
 | 4,true,_=>line_t4
 | 5,true,_=>line_t5
 | 6,true,_=>line_t6
 | 7,true,_=>line_t7
 | 0,false,_=>line_f0
 | 1,false,_=>line_f1
 | 2,false,_=>line_f2
 | 3,false,_=>line_f3
 | 4,false,_=>line_f4
 | 5,false,_=>line_f5
 | 6,false,_=>line_f6
 | 7,false,_=>line_f7
 | k+8,_,h=>by omega
theorem ent_t0 {M:Nat}:HF Tryz.prog 33 [lnV 0 M true] N (lnH 0 M true) fun u N' H'=>u=.tup [.agg [Zs (nmL 0),Zs (lbL 0 true)],Zb true]/\N'=N/\H'=[] :=
 Wq (bs:=[M+1,M+3,M+4]) (Bs:=[.row 128 4 1 Yk,.row 75 7 3 (e7 1 (.ofNat 0)++(e7 27 0++e7 22 0)),.row 134 10 1 [Zs Ws,Zb true,Zz,Zi 0,Ze,Zi 0,Zi 1,.sl 1 0 3 0,Zz,Zz]]) (args:=[.agg [Zs (nmL 0),Zs (spL 0),.sl 0 0 1 0,.sl 2 0 1 0]]) 20000 (by kernel_rfl) rfl (by decide) (fun _ _=>rfl)
theorem ent_f0 {M:Nat}:HF Tryz.prog 33 [lnV 0 M false] N (lnH 0 M false) fun u N' H'=>u=.tup [.agg [Zs (nmL 0),Zs (lbL 0 false)],Zb true]/\N'=N/\H'=[] :=
 Wq (bs:=[M+1]) (Bs:=[.row 128 4 1 Yk]) (args:=[.agg [Zs (nmL 0),Zs (spL 0),.sl 0 0 1 0,Zz]]) 20000 (by kernel_rfl) rfl (by decide) (fun _ _=>rfl)
theorem ent_t1 {M:Nat}:HF Tryz.prog 33 [lnV 1 M true] N (lnH 1 M true) fun u N' H'=>u=.tup [.agg [Zs (nmL 1),Zs (lbL 1 true)],Zb true]/\N'=N/\H'=[] :=
 Wq (bs:=[M+1,M+3,M+4]) (Bs:=[.row 128 4 1 Yk,.row 75 7 3 (e7 1 (.ofNat 1)++(e7 27 0++e7 22 0)),.row 134 10 1 [Zs Ws,Zb true,Zz,Zi 0,Ze,Zi 0,Zi 1,.sl 1 0 3 0,Zz,Zz]]) (args:=[.agg [Zs (nmL 1),Zs (spL 1),.sl 0 0 1 0,.sl 2 0 1 0]]) 20000 (by kernel_rfl) rfl (by decide) (fun _ _=>rfl)
theorem ent_f1 {M:Nat}:HF Tryz.prog 33 [lnV 1 M false] N (lnH 1 M false) fun u N' H'=>u=.tup [.agg [Zs (nmL 1),Zs (lbL 1 false)],Zb true]/\N'=N/\H'=[] :=
 Wq (bs:=[M+1]) (Bs:=[.row 128 4 1 Yk]) (args:=[.agg [Zs (nmL 1),Zs (spL 1),.sl 0 0 1 0,Zz]]) 20000 (by kernel_rfl) rfl (by decide) (fun _ _=>rfl)
theorem ent_t2 {M:Nat}:HF Tryz.prog 33 [lnV 2 M true] N (lnH 2 M true) fun u N' H'=>u=.tup [.agg [Zs (nmL 2),Zs (lbL 2 true)],Zb true]/\N'=N/\H'=[] :=
 Wq (bs:=[M+1,M+3,M+4]) (Bs:=[.row 128 4 1 Yk,.row 75 7 3 (e7 1 (.ofNat 2)++(e7 27 0++e7 22 0)),.row 134 10 1 [Zs Ws,Zb true,Zz,Zi 0,Ze,Zi 0,Zi 1,.sl 1 0 3 0,Zz,Zz]]) (args:=[.agg [Zs (nmL 2),Zs (spL 2),.sl 0 0 1 0,.sl 2 0 1 0]]) 20000 (by kernel_rfl) rfl (by decide) (fun _ _=>rfl)
theorem ent_f2 {M:Nat}:HF Tryz.prog 33 [lnV 2 M false] N (lnH 2 M false) fun u N' H'=>u=.tup [.agg [Zs (nmL 2),Zs (lbL 2 false)],Zb true]/\N'=N/\H'=[] :=
 Wq (bs:=[M+1]) (Bs:=[.row 128 4 1 Yk]) (args:=[.agg [Zs (nmL 2),Zs (spL 2),.sl 0 0 1 0,Zz]]) 20000 (by kernel_rfl) rfl (by decide) (fun _ _=>rfl)
theorem ent_t3 {M:Nat}:HF Tryz.prog 33 [lnV 3 M true] N (lnH 3 M true) fun u N' H'=>u=.tup [.agg [Zs (nmL 3),Zs (lbL 3 true)],Zb true]/\N'=N/\H'=[] :=
 Wq (bs:=[M+1,M+3,M+4]) (Bs:=[.row 128 4 1 Yk,.row 75 7 3 (e7 1 (.ofNat 3)++(e7 27 0++e7 22 0)),.row 134 10 1 [Zs Ws,Zb true,Zz,Zi 0,Ze,Zi 0,Zi 1,.sl 1 0 3 0,Zz,Zz]]) (args:=[.agg [Zs (nmL 3),Zs (spL 3),.sl 0 0 1 0,.sl 2 0 1 0]]) 20000 (by kernel_rfl) rfl (by decide) (fun _ _=>rfl)
theorem ent_f3 {M:Nat}:HF Tryz.prog 33 [lnV 3 M false] N (lnH 3 M false) fun u N' H'=>u=.tup [.agg [Zs (nmL 3),Zs (lbL 3 false)],Zb true]/\N'=N/\H'=[] :=
 Wq (bs:=[M+1]) (Bs:=[.row 128 4 1 Yk]) (args:=[.agg [Zs (nmL 3),Zs (spL 3),.sl 0 0 1 0,Zz]]) 20000 (by kernel_rfl) rfl (by decide) (fun _ _=>rfl)
theorem ent_t4 {M:Nat}:HF Tryz.prog 33 [lnV 4 M true] N (lnH 4 M true) fun u N' H'=>u=.tup [.agg [Zs (nmL 4),Zs (lbL 4 true)],Zb true]/\N'=N/\H'=[] :=
 Wq (bs:=[M+1,M+3,M+4]) (Bs:=[.row 128 4 1 Yk,.row 75 7 3 (e7 1 (.ofNat 4)++(e7 27 0++e7 22 0)),.row 134 10 1 [Zs Ws,Zb true,Zz,Zi 0,Ze,Zi 0,Zi 1,.sl 1 0 3 0,Zz,Zz]]) (args:=[.agg [Zs (nmL 4),Zs (spL 4),.sl 0 0 1 0,.sl 2 0 1 0]]) 20000 (by kernel_rfl) rfl (by decide) (fun _ _=>rfl)
theorem ent_f4 {M:Nat}:HF Tryz.prog 33 [lnV 4 M false] N (lnH 4 M false) fun u N' H'=>u=.tup [.agg [Zs (nmL 4),Zs (lbL 4 false)],Zb true]/\N'=N/\H'=[] :=
 Wq (bs:=[M+1]) (Bs:=[.row 128 4 1 Yk]) (args:=[.agg [Zs (nmL 4),Zs (spL 4),.sl 0 0 1 0,Zz]]) 20000 (by kernel_rfl) rfl (by decide) (fun _ _=>rfl)
theorem ent_t5 {M:Nat}:HF Tryz.prog 33 [lnV 5 M true] N (lnH 5 M true) fun u N' H'=>u=.tup [.agg [Zs (nmL 5),Zs (lbL 5 true)],Zb true]/\N'=N/\H'=[] :=
 Wq (bs:=[M+1,M+3,M+4]) (Bs:=[.row 128 4 1 Yk,.row 75 7 3 (e7 1 (.ofNat 5)++(e7 27 0++e7 22 0)),.row 134 10 1 [Zs Ws,Zb true,Zz,Zi 0,Ze,Zi 0,Zi 1,.sl 1 0 3 0,Zz,Zz]]) (args:=[.agg [Zs (nmL 5),Zs (spL 5),.sl 0 0 1 0,.sl 2 0 1 0]]) 20000 (by kernel_rfl) rfl (by decide) (fun _ _=>rfl)
theorem ent_f5 {M:Nat}:HF Tryz.prog 33 [lnV 5 M false] N (lnH 5 M false) fun u N' H'=>u=.tup [.agg [Zs (nmL 5),Zs (lbL 5 false)],Zb true]/\N'=N/\H'=[] :=
 Wq (bs:=[M+1]) (Bs:=[.row 128 4 1 Yk]) (args:=[.agg [Zs (nmL 5),Zs (spL 5),.sl 0 0 1 0,Zz]]) 20000 (by kernel_rfl) rfl (by decide) (fun _ _=>rfl)
theorem ent_t6 {M:Nat}:HF Tryz.prog 33 [lnV 6 M true] N (lnH 6 M true) fun u N' H'=>u=.tup [.agg [Zs (nmL 6),Zs (lbL 6 true)],Zb true]/\N'=N/\H'=[] :=
 Wq (bs:=[M+1,M+3,M+4]) (Bs:=[.row 128 4 1 Yk,.row 75 7 3 (e7 1 (.ofNat 6)++(e7 27 0++e7 22 0)),.row 134 10 1 [Zs Ws,Zb true,Zz,Zi 0,Ze,Zi 0,Zi 1,.sl 1 0 3 0,Zz,Zz]]) (args:=[.agg [Zs (nmL 6),Zs (spL 6),.sl 0 0 1 0,.sl 2 0 1 0]]) 20000 (by kernel_rfl) rfl (by decide) (fun _ _=>rfl)
theorem ent_f6 {M:Nat}:HF Tryz.prog 33 [lnV 6 M false] N (lnH 6 M false) fun u N' H'=>u=.tup [.agg [Zs (nmL 6),Zs (lbL 6 false)],Zb true]/\N'=N/\H'=[] :=
 Wq (bs:=[M+1]) (Bs:=[.row 128 4 1 Yk]) (args:=[.agg [Zs (nmL 6),Zs (spL 6),.sl 0 0 1 0,Zz]]) 20000 (by kernel_rfl) rfl (by decide) (fun _ _=>rfl)
theorem ent_t7 {M:Nat}:HF Tryz.prog 33 [lnV 7 M true] N (lnH 7 M true) fun u N' H'=>u=.tup [.agg [Zs (nmL 7),Zs (lbL 7 true)],Zb true]/\N'=N/\H'=[] :=
 Wq (bs:=[M+1,M+3,M+4]) (Bs:=[.row 128 4 1 Yk,.row 75 7 3 (e7 1 (.ofNat 7)++(e7 27 0++e7 22 0)),.row 134 10 1 [Zs Ws,Zb true,Zz,Zi 0,Ze,Zi 0,Zi 1,.sl 1 0 3 0,Zz,Zz]]) (args:=[.agg [Zs (nmL 7),Zs (spL 7),.sl 0 0 1 0,.sl 2 0 1 0]]) 20000 (by kernel_rfl) rfl (by decide) (fun _ _=>rfl)
theorem ent_f7 {M:Nat}:HF Tryz.prog 33 [lnV 7 M false] N (lnH 7 M false) fun u N' H'=>u=.tup [.agg [Zs (nmL 7),Zs (lbL 7 false)],Zb true]/\N'=N/\H'=[] :=
 Wq (bs:=[M+1]) (Bs:=[.row 128 4 1 Yk]) (args:=[.agg [Zs (nmL 7),Zs (spL 7),.sl 0 0 1 0,Zz]]) 20000 (by kernel_rfl) rfl (by decide) (fun _ _=>rfl)
theorem Db {M:Nat}:∀ (k:Nat) (b:Bool),k<8->HF Tryz.prog 33 [lnV k M b] N (lnH k M b) fun u N' H'=>u=.tup [.agg [Zs (nmL k),Zs (lbL k b)],Zb true]/\N'=N/\H'=[]
 | 0,true,_=>ent_t0
 | 1,true,_=>ent_t1
 | 2,true,_=>ent_t2
 | 3,true,_=>ent_t3
 | 4,true,_=>ent_t4
 | 5,true,_=>ent_t5
 | 6,true,_=>ent_t6
 | 7,true,_=>ent_t7
 | 0,false,_=>ent_f0
 | 1,false,_=>ent_f1
 | 2,false,_=>ent_f2
 | 3,false,_=>ent_f3
 | 4,false,_=>ent_f4
 | 5,false,_=>ent_f5
 | 6,false,_=>ent_f6
 | 7,false,_=>ent_f7
 | k+8,_,h=>by omega
end
end S
namespace S
open Go Go.RowKit E
inductive Mi where
 | newO | store | new (k:Nat) | get (k:Nat) | load | is (k:Nat) | pop | ret
def Mi.op:Mi->Nat
 | .newO=>15
 | .store=>3
 | .new _=>15
 | .get _=>18
 | .load=>2
 | .is _=>26
 | .pop=>4
 | .ret=>22
inductive Body:List Mi->Prop
 | ret:Body [.ret]
 | new {k:Nat} {r:List Mi} (hk:k<8) (h:Body r):Body (.new k::.pop::r)
 | get {k:Nat} {r:List Mi} (hk:k<8) (h:Body r):Body (.get k::.pop::r)
 | is {k:Nat} {r:List Mi} (hk:k<8) (h:Body r):Body (.load::.is k::.pop::r)
end S
namespace S
open Go Go.RowKit E
abbrev Zt:ByteArray:=⟨#[77,97,105,110]⟩
structure Mfx where
 (m1 m2 m3 m4 m5 m7 m8 m9 m10 m11 m12 m13 m14 m15 m16:SV)
def Mfx.c (x:Mfx) (en:Nat) (f:SV->SV):List SV:=[.sl en 0 9 0,f x.m1,f x.m2,f x.m3,f x.m4,f x.m5,.fn 25 [] [],f x.m7,f x.m8,f x.m9,f x.m10,f x.m11,f x.m12,f x.m13,f x.m14,f x.m15,f x.m16]
def enC (bt:Nat->Bool) (bm:ByteArray):List SV:=(List.range 8).flatMap (fun j=>[Zs (nmL j),Zs (lbL j (bt j))])++[Zs Zt,Zs bm]
def Yx (bt:Nat->Bool) (k:Nat) (b:Bool) (j:Nat):Bool:=bif Nat.beq j k then b else bt j
theorem Wh {bt:Nat->Bool} {k:Nat} {b:Bool} (h:bt k=b):Yx bt k b=bt:=by
 funext j
 unfold Yx;cases hb:Nat.beq j k with
 | true=>rw [Nat.eq_of_beq_eq_true hb,h];rfl
 | false=>rfl
def rdV (k N:Nat):Bool->SV
 | true=>.agg [.v (.string (nmL k)),.v (.string (spL k)),.sl (N+38) 0 1 0,.sl (N+55) 0 1 0]
 | false=>.agg [.v (.string (nmL k)),.v (.string (spL k)),.sl (N+38) 0 1 0,.v (.slice none 0 0)]
def rdP (N:Nat):Bool->Nat
 | true=>N+96
 | false=>N+46
abbrev Yy (dc:Nat):SB:=.row 134 10 1 [Zs Ws,Zb true,Zz,Zi 0,Ze,Zi 0,Zi 1,.sl dc 0 3 0,Zz,Zz]
abbrev Yr (k:Nat):SB:=.row 75 7 3 (e7 1 (.ofNat k)++(e7 27 0++e7 22 0))
def rdH (k N:Nat):Bool->Ch
 | true=>[(N+38,.row 128 4 1 Yk),(N+53,Yr k),(N+55,Yy (N+53))]
 | false=>[(N+38,.row 128 4 1 Yk)]
section
set_option maxRecDepth 100000
variable {N mc en:Nat} {x:Mfx} {bt:Nat->Bool} {bm:ByteArray}
theorem Vq {bs:List Nat} (h:bs.length<=10):(fun y=>ren (rho bs N) (sh y))=id:=funext fun y=>X7 (by unfold lim;omega) y
theorem Zdb:HF Tryz.prog 378 [.ptr mc 0,Zs (nmL 0)] N [(mc,.cells (x.c en id)),(en,.row 89 2 9 (enC (Yx bt 0 true) bm))] fun u N' H'=>u=.tup [rdV 0 N true,Ze]/\N'=rdP N true/\H'=[(mc,.cells (x.c en id)),(en,.row 89 2 9 (enC (Yx bt 0 true) bm))]++rdH 0 N true:=by
 have h:=Xs (N:=N) (bs:=[mc,en]) (Bs:=[.cells (x.c 1 sh),.row 89 2 9 (enC (Yx bt 0 true) bm)]) (is:=[0,1,25,38,40]) (f:=378) (args:=[.ptr 0 0,Zs (nmL 0)]) (v:=.tup [rdV 0 N true,Ze]) (n:=rdP N true) (H2:=[(mc,.cells (x.c en fun y=>ren (rho [mc,en] N) (sh y))),(en,.row 89 2 9 (enC (Yx bt 0 true) bm))]++rdH 0 N true) 20000 (by kernel_rfl) rfl (Nat.le_of_ble_eq_true rfl) (by decide);have h2:HF Tryz.prog 378 [.ptr mc 0,Zs (nmL 0)] N [(mc,.cells (x.c en fun y=>ren (rho [mc,en] N) (sh y))),(en,.row 89 2 9 (enC (Yx bt 0 true) bm))] _:=h;rw [Vq (Nat.le_of_ble_eq_true rfl)] at h2;exact h2
theorem Zdj:HF Tryz.prog 378 [.ptr mc 0,Zs (nmL 0)] N [(mc,.cells (x.c en id)),(en,.row 89 2 9 (enC (Yx bt 0 false) bm))] fun u N' H'=>u=.tup [rdV 0 N false,Ze]/\N'=rdP N false/\H'=[(mc,.cells (x.c en id)),(en,.row 89 2 9 (enC (Yx bt 0 false) bm))]++rdH 0 N false:=by
 have h:=Xs (N:=N) (bs:=[mc,en]) (Bs:=[.cells (x.c 1 sh),.row 89 2 9 (enC (Yx bt 0 false) bm)]) (is:=[0,1,25]) (f:=378) (args:=[.ptr 0 0,Zs (nmL 0)]) (v:=.tup [rdV 0 N false,Ze]) (n:=rdP N false) (H2:=[(mc,.cells (x.c en fun y=>ren (rho [mc,en] N) (sh y))),(en,.row 89 2 9 (enC (Yx bt 0 false) bm))]++rdH 0 N false) 20000 (by kernel_rfl) rfl (Nat.le_of_ble_eq_true rfl) (by decide);have h2:HF Tryz.prog 378 [.ptr mc 0,Zs (nmL 0)] N [(mc,.cells (x.c en fun y=>ren (rho [mc,en] N) (sh y))),(en,.row 89 2 9 (enC (Yx bt 0 false) bm))] _:=h;rw [Vq (Nat.le_of_ble_eq_true rfl)] at h2;exact h2
theorem Zda:HF Tryz.prog 378 [.ptr mc 0,Zs (nmL 1)] N [(mc,.cells (x.c en id)),(en,.row 89 2 9 (enC (Yx bt 1 true) bm))] fun u N' H'=>u=.tup [rdV 1 N true,Ze]/\N'=rdP N true/\H'=[(mc,.cells (x.c en id)),(en,.row 89 2 9 (enC (Yx bt 1 true) bm))]++rdH 1 N true:=by
 have h:=Xs (N:=N) (bs:=[mc,en]) (Bs:=[.cells (x.c 1 sh),.row 89 2 9 (enC (Yx bt 1 true) bm)]) (is:=[0,1,25,38,40]) (f:=378) (args:=[.ptr 0 0,Zs (nmL 1)]) (v:=.tup [rdV 1 N true,Ze]) (n:=rdP N true) (H2:=[(mc,.cells (x.c en fun y=>ren (rho [mc,en] N) (sh y))),(en,.row 89 2 9 (enC (Yx bt 1 true) bm))]++rdH 1 N true) 20000 (by kernel_rfl) rfl (Nat.le_of_ble_eq_true rfl) (by decide);have h2:HF Tryz.prog 378 [.ptr mc 0,Zs (nmL 1)] N [(mc,.cells (x.c en fun y=>ren (rho [mc,en] N) (sh y))),(en,.row 89 2 9 (enC (Yx bt 1 true) bm))] _:=h;rw [Vq (Nat.le_of_ble_eq_true rfl)] at h2;exact h2
theorem Zdi:HF Tryz.prog 378 [.ptr mc 0,Zs (nmL 1)] N [(mc,.cells (x.c en id)),(en,.row 89 2 9 (enC (Yx bt 1 false) bm))] fun u N' H'=>u=.tup [rdV 1 N false,Ze]/\N'=rdP N false/\H'=[(mc,.cells (x.c en id)),(en,.row 89 2 9 (enC (Yx bt 1 false) bm))]++rdH 1 N false:=by
 have h:=Xs (N:=N) (bs:=[mc,en]) (Bs:=[.cells (x.c 1 sh),.row 89 2 9 (enC (Yx bt 1 false) bm)]) (is:=[0,1,25]) (f:=378) (args:=[.ptr 0 0,Zs (nmL 1)]) (v:=.tup [rdV 1 N false,Ze]) (n:=rdP N false) (H2:=[(mc,.cells (x.c en fun y=>ren (rho [mc,en] N) (sh y))),(en,.row 89 2 9 (enC (Yx bt 1 false) bm))]++rdH 1 N false) 20000 (by kernel_rfl) rfl (Nat.le_of_ble_eq_true rfl) (by decide);have h2:HF Tryz.prog 378 [.ptr mc 0,Zs (nmL 1)] N [(mc,.cells (x.c en fun y=>ren (rho [mc,en] N) (sh y))),(en,.row 89 2 9 (enC (Yx bt 1 false) bm))] _:=h;rw [Vq (Nat.le_of_ble_eq_true rfl)] at h2;exact h2
theorem Zcz:HF Tryz.prog 378 [.ptr mc 0,Zs (nmL 2)] N [(mc,.cells (x.c en id)),(en,.row 89 2 9 (enC (Yx bt 2 true) bm))] fun u N' H'=>u=.tup [rdV 2 N true,Ze]/\N'=rdP N true/\H'=[(mc,.cells (x.c en id)),(en,.row 89 2 9 (enC (Yx bt 2 true) bm))]++rdH 2 N true:=by
 have h:=Xs (N:=N) (bs:=[mc,en]) (Bs:=[.cells (x.c 1 sh),.row 89 2 9 (enC (Yx bt 2 true) bm)]) (is:=[0,1,25,38,40]) (f:=378) (args:=[.ptr 0 0,Zs (nmL 2)]) (v:=.tup [rdV 2 N true,Ze]) (n:=rdP N true) (H2:=[(mc,.cells (x.c en fun y=>ren (rho [mc,en] N) (sh y))),(en,.row 89 2 9 (enC (Yx bt 2 true) bm))]++rdH 2 N true) 20000 (by kernel_rfl) rfl (Nat.le_of_ble_eq_true rfl) (by decide);have h2:HF Tryz.prog 378 [.ptr mc 0,Zs (nmL 2)] N [(mc,.cells (x.c en fun y=>ren (rho [mc,en] N) (sh y))),(en,.row 89 2 9 (enC (Yx bt 2 true) bm))] _:=h;rw [Vq (Nat.le_of_ble_eq_true rfl)] at h2;exact h2
theorem Zdh:HF Tryz.prog 378 [.ptr mc 0,Zs (nmL 2)] N [(mc,.cells (x.c en id)),(en,.row 89 2 9 (enC (Yx bt 2 false) bm))] fun u N' H'=>u=.tup [rdV 2 N false,Ze]/\N'=rdP N false/\H'=[(mc,.cells (x.c en id)),(en,.row 89 2 9 (enC (Yx bt 2 false) bm))]++rdH 2 N false:=by
 have h:=Xs (N:=N) (bs:=[mc,en]) (Bs:=[.cells (x.c 1 sh),.row 89 2 9 (enC (Yx bt 2 false) bm)]) (is:=[0,1,25]) (f:=378) (args:=[.ptr 0 0,Zs (nmL 2)]) (v:=.tup [rdV 2 N false,Ze]) (n:=rdP N false) (H2:=[(mc,.cells (x.c en fun y=>ren (rho [mc,en] N) (sh y))),(en,.row 89 2 9 (enC (Yx bt 2 false) bm))]++rdH 2 N false) 20000 (by kernel_rfl) rfl (Nat.le_of_ble_eq_true rfl) (by decide);have h2:HF Tryz.prog 378 [.ptr mc 0,Zs (nmL 2)] N [(mc,.cells (x.c en fun y=>ren (rho [mc,en] N) (sh y))),(en,.row 89 2 9 (enC (Yx bt 2 false) bm))] _:=h;rw [Vq (Nat.le_of_ble_eq_true rfl)] at h2;exact h2
theorem Zcy:HF Tryz.prog 378 [.ptr mc 0,Zs (nmL 3)] N [(mc,.cells (x.c en id)),(en,.row 89 2 9 (enC (Yx bt 3 true) bm))] fun u N' H'=>u=.tup [rdV 3 N true,Ze]/\N'=rdP N true/\H'=[(mc,.cells (x.c en id)),(en,.row 89 2 9 (enC (Yx bt 3 true) bm))]++rdH 3 N true:=by
 have h:=Xs (N:=N) (bs:=[mc,en]) (Bs:=[.cells (x.c 1 sh),.row 89 2 9 (enC (Yx bt 3 true) bm)]) (is:=[0,1,25,38,40]) (f:=378) (args:=[.ptr 0 0,Zs (nmL 3)]) (v:=.tup [rdV 3 N true,Ze]) (n:=rdP N true) (H2:=[(mc,.cells (x.c en fun y=>ren (rho [mc,en] N) (sh y))),(en,.row 89 2 9 (enC (Yx bt 3 true) bm))]++rdH 3 N true) 20000 (by kernel_rfl) rfl (Nat.le_of_ble_eq_true rfl) (by decide);have h2:HF Tryz.prog 378 [.ptr mc 0,Zs (nmL 3)] N [(mc,.cells (x.c en fun y=>ren (rho [mc,en] N) (sh y))),(en,.row 89 2 9 (enC (Yx bt 3 true) bm))] _:=h;rw [Vq (Nat.le_of_ble_eq_true rfl)] at h2;exact h2
theorem Zdg:HF Tryz.prog 378 [.ptr mc 0,Zs (nmL 3)] N [(mc,.cells (x.c en id)),(en,.row 89 2 9 (enC (Yx bt 3 false) bm))] fun u N' H'=>u=.tup [rdV 3 N false,Ze]/\N'=rdP N false/\H'=[(mc,.cells (x.c en id)),(en,.row 89 2 9 (enC (Yx bt 3 false) bm))]++rdH 3 N false:=by
 have h:=Xs (N:=N) (bs:=[mc,en]) (Bs:=[.cells (x.c 1 sh),.row 89 2 9 (enC (Yx bt 3 false) bm)]) (is:=[0,1,25]) (f:=378) (args:=[.ptr 0 0,Zs (nmL 3)]) (v:=.tup [rdV 3 N false,Ze]) (n:=rdP N false) (H2:=[(mc,.cells (x.c en fun y=>ren (rho [mc,en] N) (sh y))),(en,.row 89 2 9 (enC (Yx bt 3 false) bm))]++rdH 3 N false) 20000 (by kernel_rfl) rfl (Nat.le_of_ble_eq_true rfl) (by decide);have h2:HF Tryz.prog 378 [.ptr mc 0,Zs (nmL 3)] N [(mc,.cells (x.c en fun y=>ren (rho [mc,en] N) (sh y))),(en,.row 89 2 9 (enC (Yx bt 3 false) bm))] _:=h;rw [Vq (Nat.le_of_ble_eq_true rfl)] at h2;exact h2
theorem Zcx:HF Tryz.prog 378 [.ptr mc 0,Zs (nmL 4)] N [(mc,.cells (x.c en id)),(en,.row 89 2 9 (enC (Yx bt 4 true) bm))] fun u N' H'=>u=.tup [rdV 4 N true,Ze]/\N'=rdP N true/\H'=[(mc,.cells (x.c en id)),(en,.row 89 2 9 (enC (Yx bt 4 true) bm))]++rdH 4 N true:=by
 have h:=Xs (N:=N) (bs:=[mc,en]) (Bs:=[.cells (x.c 1 sh),.row 89 2 9 (enC (Yx bt 4 true) bm)]) (is:=[0,1,25,38,40]) (f:=378) (args:=[.ptr 0 0,Zs (nmL 4)]) (v:=.tup [rdV 4 N true,Ze]) (n:=rdP N true) (H2:=[(mc,.cells (x.c en fun y=>ren (rho [mc,en] N) (sh y))),(en,.row 89 2 9 (enC (Yx bt 4 true) bm))]++rdH 4 N true) 20000 (by kernel_rfl) rfl (Nat.le_of_ble_eq_true rfl) (by decide);have h2:HF Tryz.prog 378 [.ptr mc 0,Zs (nmL 4)] N [(mc,.cells (x.c en fun y=>ren (rho [mc,en] N) (sh y))),(en,.row 89 2 9 (enC (Yx bt 4 true) bm))] _:=h;rw [Vq (Nat.le_of_ble_eq_true rfl)] at h2;exact h2
theorem Zdf:HF Tryz.prog 378 [.ptr mc 0,Zs (nmL 4)] N [(mc,.cells (x.c en id)),(en,.row 89 2 9 (enC (Yx bt 4 false) bm))] fun u N' H'=>u=.tup [rdV 4 N false,Ze]/\N'=rdP N false/\H'=[(mc,.cells (x.c en id)),(en,.row 89 2 9 (enC (Yx bt 4 false) bm))]++rdH 4 N false:=by
 have h:=Xs (N:=N) (bs:=[mc,en]) (Bs:=[.cells (x.c 1 sh),.row 89 2 9 (enC (Yx bt 4 false) bm)]) (is:=[0,1,25]) (f:=378) (args:=[.ptr 0 0,Zs (nmL 4)]) (v:=.tup [rdV 4 N false,Ze]) (n:=rdP N false) (H2:=[(mc,.cells (x.c en fun y=>ren (rho [mc,en] N) (sh y))),(en,.row 89 2 9 (enC (Yx bt 4 false) bm))]++rdH 4 N false) 20000 (by kernel_rfl) rfl (Nat.le_of_ble_eq_true rfl) (by decide);have h2:HF Tryz.prog 378 [.ptr mc 0,Zs (nmL 4)] N [(mc,.cells (x.c en fun y=>ren (rho [mc,en] N) (sh y))),(en,.row 89 2 9 (enC (Yx bt 4 false) bm))] _:=h;rw [Vq (Nat.le_of_ble_eq_true rfl)] at h2;exact h2
theorem Zcw:HF Tryz.prog 378 [.ptr mc 0,Zs (nmL 5)] N [(mc,.cells (x.c en id)),(en,.row 89 2 9 (enC (Yx bt 5 true) bm))] fun u N' H'=>u=.tup [rdV 5 N true,Ze]/\N'=rdP N true/\H'=[(mc,.cells (x.c en id)),(en,.row 89 2 9 (enC (Yx bt 5 true) bm))]++rdH 5 N true:=by
 have h:=Xs (N:=N) (bs:=[mc,en]) (Bs:=[.cells (x.c 1 sh),.row 89 2 9 (enC (Yx bt 5 true) bm)]) (is:=[0,1,25,38,40]) (f:=378) (args:=[.ptr 0 0,Zs (nmL 5)]) (v:=.tup [rdV 5 N true,Ze]) (n:=rdP N true) (H2:=[(mc,.cells (x.c en fun y=>ren (rho [mc,en] N) (sh y))),(en,.row 89 2 9 (enC (Yx bt 5 true) bm))]++rdH 5 N true) 20000 (by kernel_rfl) rfl (Nat.le_of_ble_eq_true rfl) (by decide);have h2:HF Tryz.prog 378 [.ptr mc 0,Zs (nmL 5)] N [(mc,.cells (x.c en fun y=>ren (rho [mc,en] N) (sh y))),(en,.row 89 2 9 (enC (Yx bt 5 true) bm))] _:=h;rw [Vq (Nat.le_of_ble_eq_true rfl)] at h2;exact h2
theorem Zde:HF Tryz.prog 378 [.ptr mc 0,Zs (nmL 5)] N [(mc,.cells (x.c en id)),(en,.row 89 2 9 (enC (Yx bt 5 false) bm))] fun u N' H'=>u=.tup [rdV 5 N false,Ze]/\N'=rdP N false/\H'=[(mc,.cells (x.c en id)),(en,.row 89 2 9 (enC (Yx bt 5 false) bm))]++rdH 5 N false:=by
 have h:=Xs (N:=N) (bs:=[mc,en]) (Bs:=[.cells (x.c 1 sh),.row 89 2 9 (enC (Yx bt 5 false) bm)]) (is:=[0,1,25]) (f:=378) (args:=[.ptr 0 0,Zs (nmL 5)]) (v:=.tup [rdV 5 N false,Ze]) (n:=rdP N false) (H2:=[(mc,.cells (x.c en fun y=>ren (rho [mc,en] N) (sh y))),(en,.row 89 2 9 (enC (Yx bt 5 false) bm))]++rdH 5 N false) 20000 (by kernel_rfl) rfl (Nat.le_of_ble_eq_true rfl) (by decide);have h2:HF Tryz.prog 378 [.ptr mc 0,Zs (nmL 5)] N [(mc,.cells (x.c en fun y=>ren (rho [mc,en] N) (sh y))),(en,.row 89 2 9 (enC (Yx bt 5 false) bm))] _:=h;rw [Vq (Nat.le_of_ble_eq_true rfl)] at h2;exact h2
theorem Zcv:HF Tryz.prog 378 [.ptr mc 0,Zs (nmL 6)] N [(mc,.cells (x.c en id)),(en,.row 89 2 9 (enC (Yx bt 6 true) bm))] fun u N' H'=>u=.tup [rdV 6 N true,Ze]/\N'=rdP N true/\H'=[(mc,.cells (x.c en id)),(en,.row 89 2 9 (enC (Yx bt 6 true) bm))]++rdH 6 N true:=by
 have h:=Xs (N:=N) (bs:=[mc,en]) (Bs:=[.cells (x.c 1 sh),.row 89 2 9 (enC (Yx bt 6 true) bm)]) (is:=[0,1,25,38,40]) (f:=378) (args:=[.ptr 0 0,Zs (nmL 6)]) (v:=.tup [rdV 6 N true,Ze]) (n:=rdP N true) (H2:=[(mc,.cells (x.c en fun y=>ren (rho [mc,en] N) (sh y))),(en,.row 89 2 9 (enC (Yx bt 6 true) bm))]++rdH 6 N true) 20000 (by kernel_rfl) rfl (Nat.le_of_ble_eq_true rfl) (by decide);have h2:HF Tryz.prog 378 [.ptr mc 0,Zs (nmL 6)] N [(mc,.cells (x.c en fun y=>ren (rho [mc,en] N) (sh y))),(en,.row 89 2 9 (enC (Yx bt 6 true) bm))] _:=h;rw [Vq (Nat.le_of_ble_eq_true rfl)] at h2;exact h2
theorem Zdd:HF Tryz.prog 378 [.ptr mc 0,Zs (nmL 6)] N [(mc,.cells (x.c en id)),(en,.row 89 2 9 (enC (Yx bt 6 false) bm))] fun u N' H'=>u=.tup [rdV 6 N false,Ze]/\N'=rdP N false/\H'=[(mc,.cells (x.c en id)),(en,.row 89 2 9 (enC (Yx bt 6 false) bm))]++rdH 6 N false:=by
 have h:=Xs (N:=N) (bs:=[mc,en]) (Bs:=[.cells (x.c 1 sh),.row 89 2 9 (enC (Yx bt 6 false) bm)]) (is:=[0,1,25]) (f:=378) (args:=[.ptr 0 0,Zs (nmL 6)]) (v:=.tup [rdV 6 N false,Ze]) (n:=rdP N false) (H2:=[(mc,.cells (x.c en fun y=>ren (rho [mc,en] N) (sh y))),(en,.row 89 2 9 (enC (Yx bt 6 false) bm))]++rdH 6 N false) 20000 (by kernel_rfl) rfl (Nat.le_of_ble_eq_true rfl) (by decide);have h2:HF Tryz.prog 378 [.ptr mc 0,Zs (nmL 6)] N [(mc,.cells (x.c en fun y=>ren (rho [mc,en] N) (sh y))),(en,.row 89 2 9 (enC (Yx bt 6 false) bm))] _:=h;rw [Vq (Nat.le_of_ble_eq_true rfl)] at h2;exact h2
theorem Zcu:HF Tryz.prog 378 [.ptr mc 0,Zs (nmL 7)] N [(mc,.cells (x.c en id)),(en,.row 89 2 9 (enC (Yx bt 7 true) bm))] fun u N' H'=>u=.tup [rdV 7 N true,Ze]/\N'=rdP N true/\H'=[(mc,.cells (x.c en id)),(en,.row 89 2 9 (enC (Yx bt 7 true) bm))]++rdH 7 N true:=by
 have h:=Xs (N:=N) (bs:=[mc,en]) (Bs:=[.cells (x.c 1 sh),.row 89 2 9 (enC (Yx bt 7 true) bm)]) (is:=[0,1,25,38,40]) (f:=378) (args:=[.ptr 0 0,Zs (nmL 7)]) (v:=.tup [rdV 7 N true,Ze]) (n:=rdP N true) (H2:=[(mc,.cells (x.c en fun y=>ren (rho [mc,en] N) (sh y))),(en,.row 89 2 9 (enC (Yx bt 7 true) bm))]++rdH 7 N true) 20000 (by kernel_rfl) rfl (Nat.le_of_ble_eq_true rfl) (by decide);have h2:HF Tryz.prog 378 [.ptr mc 0,Zs (nmL 7)] N [(mc,.cells (x.c en fun y=>ren (rho [mc,en] N) (sh y))),(en,.row 89 2 9 (enC (Yx bt 7 true) bm))] _:=h;rw [Vq (Nat.le_of_ble_eq_true rfl)] at h2;exact h2
theorem Zdc:HF Tryz.prog 378 [.ptr mc 0,Zs (nmL 7)] N [(mc,.cells (x.c en id)),(en,.row 89 2 9 (enC (Yx bt 7 false) bm))] fun u N' H'=>u=.tup [rdV 7 N false,Ze]/\N'=rdP N false/\H'=[(mc,.cells (x.c en id)),(en,.row 89 2 9 (enC (Yx bt 7 false) bm))]++rdH 7 N false:=by
 have h:=Xs (N:=N) (bs:=[mc,en]) (Bs:=[.cells (x.c 1 sh),.row 89 2 9 (enC (Yx bt 7 false) bm)]) (is:=[0,1,25]) (f:=378) (args:=[.ptr 0 0,Zs (nmL 7)]) (v:=.tup [rdV 7 N false,Ze]) (n:=rdP N false) (H2:=[(mc,.cells (x.c en fun y=>ren (rho [mc,en] N) (sh y))),(en,.row 89 2 9 (enC (Yx bt 7 false) bm))]++rdH 7 N false) 20000 (by kernel_rfl) rfl (Nat.le_of_ble_eq_true rfl) (by decide);have h2:HF Tryz.prog 378 [.ptr mc 0,Zs (nmL 7)] N [(mc,.cells (x.c en fun y=>ren (rho [mc,en] N) (sh y))),(en,.row 89 2 9 (enC (Yx bt 7 false) bm))] _:=h;rw [Vq (Nat.le_of_ble_eq_true rfl)] at h2;exact h2
theorem S6:∀ (k:Nat) (b:Bool),k<8->bt k=b->HF Tryz.prog 378 [.ptr mc 0,Zs (nmL k)] N [(mc,.cells (x.c en id)),(en,.row 89 2 9 (enC bt bm))] fun u N' H'=>u=.tup [rdV k N b,Ze]/\N'=rdP N b/\H'=[(mc,.cells (x.c en id)),(en,.row 89 2 9 (enC bt bm))]++rdH k N b
 | 0,true,_,h=>by rw [<- Wh h];exact Zdb
 | 1,true,_,h=>by rw [<- Wh h];exact Zda
 | 2,true,_,h=>by rw [<- Wh h];exact Zcz
 | 3,true,_,h=>by rw [<- Wh h];exact Zcy
 | 4,true,_,h=>by rw [<- Wh h];exact Zcx
 | 5,true,_,h=>by rw [<- Wh h];exact Zcw
 | 6,true,_,h=>by rw [<- Wh h];exact Zcv
 | 7,true,_,h=>by rw [<- Wh h];exact Zcu
 | 0,false,_,h=>by rw [<- Wh h];exact Zdj
 | 1,false,_,h=>by rw [<- Wh h];exact Zdi
 | 2,false,_,h=>by rw [<- Wh h];exact Zdh
 | 3,false,_,h=>by rw [<- Wh h];exact Zdg
 | 4,false,_,h=>by rw [<- Wh h];exact Zdf
 | 5,false,_,h=>by rw [<- Wh h];exact Zde
 | 6,false,_,h=>by rw [<- Wh h];exact Zdd
 | 7,false,_,h=>by rw [<- Wh h];exact Zdc
 | k+8,_,h,_=>by omega
end
end S
end Go.Proofs.YtpofmnfkdkmieaaGreat
