/- What is proved here: code that gives up by a panic, over bloc -/
import Derived.Test.YtpofmnfkdkmieaaGreatQ24
import Derived.Test.YtpofmnfkdkmieaaGreatQ25
set_option linter.unusedVariables false
set_option linter.unusedSimpArgs false
namespace Go.Proofs.YtpofmnfkdkmieaaGreat
namespace S
open Go Go.RowKit E
def Dc (v:Value):List PanicEntry:=[{ v:=v,recovered:=false }]
def HP (P:Program) (f:FuncId) (args:List SV) (N:Nat) (H:Ch) (pv:Value):Prop :=
 (∃ fn,P.funcs[f]?=some fn/\fn.body.isNone=false)/\∀ G,Hs H G->(∀ i,N<=i->G i=none)->∀ (w0:World) (F:List Nat) (B:Nm) (w:World) (vs:List Value),Gx w0 F B N G w->Xh B args=some vs ->
  CallsIn (Wz none) 0 P f vs.toArray w fun e w'=>∃ N' G' B',e=.panicked (Dc pv)/\Since B N B' N'/\Hx (H.map (·.1)) N G [] G'/\Gx w0 F B' N' G' w'
def FinP (B0:Nm) (N0:Nat) (w0:World) (F:List Nat) (T:List Nat) (G0:Nat->Option SB) (pv:Value) (e:Ending) (w':World):Prop:=∃ N' G' B',e=.panicked (Dc pv)/\Since B0 N0 B' N'/\Hx T N0 G0 [] G'/\Gx w0 F B' N' G' w'
section
variable {P:Program} {l:Option Nat} {n:Nat} {all:Array Oper} {w0 w w':World} {F:List Nat} {B B0:Nm} {N N0:Nat} {T:List Nat} {G0 G:Nat->Option SB} {A U V H H2:Ch} {E El E' Er:SE} {D:List SD} {a:Act} {o:Oper} {L:List Oper} {Q:Exit->Act->World->Prop} {x y:Code} {e:Exit} {pv:Value} {pc:List PanicEntry}
theorem Qe (h:HQ n w0 F B0 N0 T G0 Q (.panic pc) E D N H):HQ n w0 F B0 N0 T G0 (Exit.then (y.wpIn (Wz l) 0 P Q) Q) (.panic pc) E D N H:=h
theorem Ziy {K:Act->World->Prop} (h:HQ n w0 F B0 N0 T G0 Q (.panic pc) E D N H):HQ n w0 F B0 N0 T G0 (Exit.then K Q) (.panic pc) E D N H:=h
theorem Gk {id:Nat} (h:HQ n w0 F B0 N0 T G0 Q (.panic pc) E D N H):HQ n w0 F B0 N0 T G0 (Exit.inBlock id Q) (.panic pc) E D N H:=h
theorem Nk {f:FuncId} {xx:Operand} {xs:Array Operand} {ts:Array TypeId} {u c m:List SV} (is ds:List Nat) (hng:Sm P) (hw:wants E all o.guard=some true) (ho:o.op=.call ⟨.value xx,xs,ts⟩) (hx:sev E xx=some (.fn f u c)) (hxs:sargs E xs.toList=some m)
  (hF:HP P f (u++m++c) N (Yr H is) pv) (k:∀ N',HQ n w0 F B0 N0 T G0 Q (.panic (Dc pv)) E D N' (Ry H ds)) (hd:ds.Perm is/\ds.Pairwise (·>·)/\is.Nodup:=by decide):HL P l n all w0 F B0 N0 T G0 Q (o::L) E D N H:=fun G hG B w a hs hg ha=>by
 have hfr:∀ i,N<=i->G i=none:=fun i hi=>(hg.new i hi).2;have hpm:H.Perm (Yr H is++Ry H ds):=(Oz ds H hd.2.1).trans ((O2 hd.1).append_right _);have hnd:((Yr H is++Ry H ds).map (·.1)).Nodup:=(hpm.map _).nodup_iff.1 hG.hs.nd;simp only [wpListIn,Wg ha hw];refine ⟨fun _ _=>trivial,?_⟩;rw [Oper.semAt_eq _ _ _ (fun c e=>by rw [ho] at e;cases e)];have he:=ha.eval hx;have hm:=S6 ha hxs;obtain ⟨us,vs,hus,hvs,hfe⟩:=Qc he;rw [Lw hng hF.1 ho hfe];refine ⟨fun h=>(by cases h),?_⟩;refine CallsIn.mono (hF.2 G (hG.hs.pick hd.2.2) hfr w0 F B w _ hg (Wf (Wf hus hm) hvs)) ?_;rintro e w1 ⟨N',G',B1,rfl,hsi,hx',hg1⟩;exact k N' a w1 ⟨G',B1,Hx.callS hG hs.le hfr (fun p hp=>Xs hp) (fun p hp=>hpm.mem_iff.2 (List.mem_append_right _ hp)) hnd hx',hs.trans hsi,hg1,ha.mono hsi.pre⟩
theorem HL_pn {x:Operand} {v:SV} (hw:wants E all o.guard=some true) (ho:o.op=.panic x) (hx:sev E x=some v) (hv:∀ B,den B v=some pv) (hi:∃ t u,pv=.iface t u) (k:HQ n w0 F B0 N0 T G0 Q (.panic (Dc pv)) E D N H):HL P l n all w0 F B0 N0 T G0 Q (o::L) E D N H:=fun G hG B w a hs hg ha=>by
 simp only [wpListIn,Wg ha hw];refine ⟨fun _ _=>trivial,?_⟩;rw [Oper.semAt_eq _ _ _ (fun c e=>by rw [ho] at e;cases e)];have he:=ha.eval hx;rw [hv B] at he;cases he;obtain ⟨t,u,hu⟩:=hi
 have hr:(execOp a.eval o).run P w=.halt (.panic (a.eval x)) w:=by
  simp only [execOp,ho];rw [hu];rfl
 rw [hr];exact k a w ⟨G,B,hG,hs,hg,ha⟩
theorem hpOf {f:FuncId} {fn:Func} {c:Code} {args:List SV} (hf:P.funcs[f]?=some fn) (hb:fn.body=some c) (hl:Nat.ble args.length fn.ntmps=true)
  (h:∀ w0 F B0 G0,HC P none fn.ntmps w0 F B0 N (H.map (·.1)) G0 (bodyPostM (Wz none) 0 P fn (FinP B0 N w0 F (H.map (·.1)) G0 pv)) c (snumber 0 args) [] N H):HP P f args N H pv:=by
 refine ⟨⟨fn,hf,by rw [hb];rfl⟩,fun G hs hfr w0 F B w vs hg hd=>?_⟩;refine callsIn_of_wp_marks hf hb trivial ?_;refine h w0 F B G G ⟨hs,fun _ _ hq _=>hq,fun p hp=>.inl (List.mem_map.2 ⟨p,hp,J⟩),hfr⟩ B w _ (Since.refl B N) hg ⟨⟨by simp only [Array.size_append,Array.size_replicate];omega,fun i v hv=>?_⟩,rfl⟩;obtain ⟨_,hv⟩:=Q2 args 0 i v hv;rw [Nat.sub_zero] at hv;obtain ⟨x,hx,hdx⟩:=Sw hd hv;refine ⟨x,hdx,?_⟩;have hlt:i<vs.length:=(List.getElem?_eq_some_iff.1 hx).1;rw [Array.getElem?_append_left (by simpa using hlt)]
 simpa using hx
theorem Sg {fn:Func}:HQ n w0 F B0 N0 T G0 (bodyPostM (Wz none) 0 P fn (FinP B0 N0 w0 F T G0 pv)) (.panic (Dc pv)) E [] N H:=fun a w ⟨G,B,hG,hs,hg,ha⟩=>by
 have hd:a.defers=[]:=by have:=ha.df;simp only [Tb,Option.some.injEq] at this;exact this.symm
 show LeavesInM (Wz none) 0 P fn a.tmps _ a.defers (.panicking (Dc pv)) w;rw [hd];exact (show LeavesIn (Wz none) 0 P fn a.tmps (FinP B0 N0 w0 F T G0 pv) [] (.panicking (Dc pv)) w from ⟨N,G,B,J,hs,⟨⟨(fun p hp=>by cases hp),List.nodup_nil⟩,hG.old,(fun p hp=>by cases hp),hG.fr0⟩,hg⟩)
theorem hp1 {f:FuncId} {fn:Func} {c:Code} {args:List SV} (hf:P.funcs[f]?=some fn) (hb:fn.body=some c) (hn:fn.ntmps=n)
  (h:∀ w0 F B0 G0,HC P none n w0 F B0 N (H.map (·.1)) G0 (bodyPostM (Wz none) 0 P fn (FinP B0 N w0 F (H.map (·.1)) G0 pv)) c (snumber 0 args) [] N H) (hl:Nat.ble args.length n=true:=by rfl):HP P f args N H pv:=by
 subst hn;exact hpOf hf hb hl h
end
end S
namespace S
open Go Go.RowKit E
section
variable {P:Program} {l:Option Nat} {n:Nat} {all:Array Oper} {w0 w w':World} {F:List Nat} {B B0:Nm} {N N0:Nat} {T:List Nat} {G0 G:Nat->Option SB} {A U V H H2:Ch} {E El E' Er:SE} {D:List SD} {a:Act} {o:Oper} {L:List Oper} {Q:Exit->Act->World->Prop} {x y:Code} {e:Exit}
theorem Gx.putObj (h:Gx w0 F B N G w) {b:Nat} {sb:SB} {p:Nat × Nat} (hb:G b=some sb) (hp:B b=some p) (ob:Obj) (new:SB) (hn:Blk B p new (some ob)):Gx w0 F B N (Sb G b new) (w.putObj p.1 ob) :=
 h.turn (w':=w.putObj p.1 ob) hb hp ⟨rfl,rfl,rfl⟩ World.putObj_size (fun _ hk=>World.putObj_heap_other hk) new (by rw [World.putObj_heap_same (h.inw hb hp)];exact hn)
theorem Gx.loopAt (hg:Gx w0 F B N G w) {b:Nat} {st:LoopState} {pd:Option Code} {E0:SE} {n0:Nat} {ps:Array Tmp} {x y:Code} {p:Nat × Nat} (hb:G b=some (.loop st pd E0 n0 ps x y)) (hp:B b=some p) :
  ∃ r:Loop,w.heap[p.1]?=some (.loop r)/\r.state=st/\r.pending=pd/\Tm B E0 n0 r.tmps/\r.params=ps/\r.assign=x/\r.body=y:=by
 obtain ⟨q,hq,hk,_⟩:=hg.own b _ hb;rw [hp] at hq;cases hq;exact hk
def HY (P:Program) (b:Nat) (args:List SV) (N:Nat) (H:Ch) (R:SV->Nat->Ch->Prop):Prop :=
 ∀ G,Hs H G->(∀ i,N<=i->G i=none)->∀ (w0:World) (F:List Nat) (B:Nm) (w:World) (vs:List Value) (p:Nat × Nat),Gx w0 F B N G w->Xh B args=some vs->B b=some p ->
  ∃ f tmps x y,(Instr.yield p.1 vs.toArray).run P w=.ok (.round p.1 f tmps x y) w/\RoundIn (Wz none) 0 P p.1 f tmps x y w (Fin B N w0 F fun v N' G'=>∃ H',R v N' H'/\Hx (H.map (·.1)) N G H' G')
theorem HL_yd {xx:Operand} {xs:Array Operand} {ts:Array TypeId} {b:Nat} {m:List SV} {Rp:SV->Nat->Ch->Prop} (is ds:List Nat) (hw:wants E all o.guard=some true) (ho:o.op=.call ⟨.value xx,xs,ts⟩) (hx:sev E xx=some (.yd b)) (hxs:sargs E xs.toList=some m)
  (hF:HY P b m N (Yr H is) Rp) (k:∀ v N' H',Rp v N' H'->∃ E',putD n E o.dst v=some E'/\HL P l n all w0 F B0 N0 T G0 Q L E' D N' (H'++Ry H ds)) (hd:ds.Perm is/\ds.Pairwise (·>·)/\is.Nodup:=by decide):HL P l n all w0 F B0 N0 T G0 Q (o::L) E D N H:=fun G hG B w a hs hg ha=>by
 have hfr:∀ i,N<=i->G i=none:=fun i hi=>(hg.new i hi).2;have hpm:H.Perm (Yr H is++Ry H ds):=(Oz ds H hd.2.1).trans ((O2 hd.1).append_right _);have hnd:((Yr H is++Ry H ds).map (·.1)).Nodup:=(hpm.map _).nodup_iff.1 hG.hs.nd;simp only [wpListIn,Wg ha hw];refine ⟨fun _ _=>trivial,?_⟩;rw [Oper.semAt_eq _ _ _ (fun c e=>by rw [ho] at e;cases e)];have he:=ha.eval hx;have hm:=S6 ha hxs;simp only [den,Option.map_eq_some_iff] at he;obtain ⟨p,hp',hfe⟩:=he;obtain ⟨f,tmps,cx,cy,hy,hround⟩:=hF G (hG.hs.pick hd.2.2) hfr w0 F B w _ p hg hm hp'
 have hrun:(execOp a.eval o).run P w=(Instr.yield p.1 (xs.map a.eval)).run P w:=by
  simp [execOp,ho,resolve,Deferred.ofValue,<- hfe,invoke]
 rw [hrun,<- mapA,hy];refine ⟨fun h=>(by cases h),?_⟩;refine RoundIn.mono (show RoundIn (Wz l) (0 - 1) P p.1 f tmps cx cy w _ from hround) ?_;rintro e w1 ⟨v,N',G',y,B1,⟨H',hR,hc⟩,rfl,hsi,hdy,hg1⟩;obtain ⟨E',hpd,kk⟩:=k v N' H' hR;exact kk G' (Hx.callS hG hs.le hfr (fun p hp=>Xs hp) (fun p hp=>hpm.mem_iff.2 (List.mem_append_right _ hp)) hnd hc) B1 w1 _ (hs.trans hsi) hg1 (Sc (ha.mono hsi.pre) hdy hpd)
def rndQ (w0:World) (F:List Nat) (B0:Nm) (N0:Nat) (T:List Nat) (G0:Nat->Option SB) (b:Nat) (pd:Option Code) (E0:SE) (n0:Nat) (ps:Array Tmp) (x y:Code) (R:SV->Nat->Ch->Prop):Exit->Act->World->Prop:=fun e a w =>
 ∃ (j:Option Code) (E3:SE) (N3:Nat) (H3:Ch),(e=.normal/\j=none\/e=.ret/\j=some .ret\/∃ id,e=.exit id/\j=some (.exit id))/\HA n0 w0 F B0 N0 T G0 E3 [] N3 ((b,.loop .busy pd E0 n0 ps x y)::H3) a w/\R (.v (.bool j.isNone)) N3 ((b,.loop (if j.isNone then .ready else .done) j E0 n0 ps x y)::H3)
theorem Hx.put {p:Nat} {sb:SB} (h:Hx T N0 G0 ((p,sb)::H) G) (sb':SB):Hx T N0 G0 ((p,sb')::H) (Sb G p sb'):=by
 have:=h.set (i:=0) rfl sb';exact this
theorem hyOf {b:Nat} {pd:Option Code} {E0:SE} {n0:Nat} {ps:Array Tmp} {args:List SV} {H0 H2:Ch} {R:SV->Nat->Ch->Prop} {E1 E2:SE} {N2:Nat} (hE1:putPs n0 ps.toList args E0=some E1)
  (hx:∀ q w0 F B0 G0,HC P (some q) n0 w0 F B0 N (((b,SB.loop .ready pd E0 n0 ps x y)::H0).map (·.1)) G0 (fun e a w=>e=.normal/\HA n0 w0 F B0 N (((b,SB.loop .ready pd E0 n0 ps x y)::H0).map (·.1)) G0 E2 [] N2 ((b,.loop .ready pd E0 n0 ps x y)::H2) a w) x E1 [] N ((b,.loop .ready pd E0 n0 ps x y)::H0))
  (hy:∀ q w0 F B0 G0,HC P (some q) n0 w0 F B0 N (((b,SB.loop .ready pd E0 n0 ps x y)::H0).map (·.1)) G0 (rndQ w0 F B0 N (((b,SB.loop .ready pd E0 n0 ps x y)::H0).map (·.1)) G0 b pd E0 n0 ps x y R) y E2 [] N2 ((b,.loop .busy pd E0 n0 ps x y)::H2)):HY P b args N ((b,.loop .ready pd E0 n0 ps x y)::H0) R:=by
 intro G hsG hfr w0 F B w vs p hg hd hp;have hb:G b=some (.loop .ready pd E0 n0 ps x y):=hsG.get (i:=0) rfl;obtain ⟨rl,hr,hst0,_,htm,hps,hx',hy'⟩:=hg.loopAt hb hp;obtain ⟨hlen,htm1⟩:=E6 hE1 hd htm;subst hx';subst hy';subst hps;have hsz:vs.toArray.size=rl.params.size:=by simpa using hlen
 refine ⟨_,_,_,_,run_yield hr hsz,?_⟩;refine roundIn_of_wpIn trivial ?_
 have htm2:Tm B E1 n0 ((rl.params.zip vs.toArray).foldl (fun tmps (t,a)=>tmps.setIfInBounds t a) rl.tmps):=by
  rw [<- Array.foldl_toList]
  simpa using htm1
 refine wpIn_mono (hx p.1 w0 F B G G ⟨hsG,fun _ _ hq _=>hq,fun q hq=>.inl (List.mem_map.2 ⟨q,hq,J⟩),hfr⟩ B w { tmps:=_,defers:=[] } (Since.refl B N) hg ⟨htm2,J⟩) ?_;rintro e1 a1 w1 ⟨rfl,G1,B1,hG1,hs1,hg1,ha1⟩;have hpb1:=hs1.pre b p hp;have hb1:=hG1.hs.get (i:=0) rfl;obtain ⟨r1,hr1,hst1,hpd1,htm1',hps1,hx1,hy1⟩:=hg1.loopAt hb1 hpb1;refine ⟨_,run_beginRound hr1 hst1,?_⟩;have hg2:=hg1.putObj hb1 hpb1 (.loop { r1 with state:=.busy }) (.loop .busy pd E0 n0 rl.params rl.assign rl.body) ⟨_,rfl,rfl,hpd1,htm1',hps1,hx1,hy1⟩;refine wpIn_mono (hy p.1 w0 F B G _ (hG1.put _) B1 _ a1 hs1 hg2 ha1) ?_;rintro e2 a2 w2 ⟨j,E3,N3,H3,hej,⟨G3,B3,hG3,hs3,hg3,ha3⟩,hR⟩;have hb3:=hG3.hs.get (i:=0) rfl;obtain ⟨r3,hr3,hst3,hpd3,htm3,hps3,hx3,hy3⟩:=hg3.loopAt hb3 (hs3.pre b p hp);have hg4:=hg3.putObj hb3 (hs3.pre b p hp) (.loop { r3 with state:=if j.isNone then .ready else .done,pending:=j }) (.loop (if j.isNone then .ready else .done) j E0 n0 rl.params rl.assign rl.body) ⟨_,rfl,rfl,rfl,htm3,hps3,hx3,hy3⟩
 have hfin:∃ v w',(Instr.endRound p.1 j).run P w2=.ok v w'/\Fin B N w0 F (fun v N' G'=>∃ H',R v N' H'/\Hx (((b,SB.loop .ready pd E0 n0 rl.params rl.assign rl.body)::H0).map (·.1)) N G H' G') (.returned v) w' :=
  ⟨_,_,run_endRound j hr3,_,N3,_,_,B3,⟨_,hR,hG3.put _⟩,rfl,hs3,rfl,hg4⟩
 rcases hej with ⟨rfl,rfl⟩ | ⟨rfl,rfl⟩ | ⟨id,rfl,rfl⟩<;>exact hfin
theorem Zgf {g:Operand} {ps:Array Tmp} {f:FuncId} {u c:List SV} {Rp:SV->Nat->Ch->Prop} (is ds:List Nat) (hng:Sm P) (hg:sev E g=some (.fn f u c)) (hF:HF P f (u++[.yd (N+1)]++c) (N+2) ((N+1,.loop .ready none E n ps x y)::Yr H is) Rp)
  (k:∀ v N' H',Rp v N' H'->∃ st pd E0 n0 ps0 x0 y0 H1,H'=(N+1,SB.loop st pd E0 n0 ps0 x0 y0)::H1/\st≠.busy/\(match pd with
   | none=>HQ n w0 F B0 N0 T G0 Q .normal E (.mark N::D) N' ((N,.defd)::(H1++Ry H ds))
   | some cc=>HC P none n w0 F B0 N0 T G0 Q cc E (.mark N::D) N' ((N,.defd)::(H1++Ry H ds)))) (hd:ds.Perm is/\ds.Pairwise (·>·)/\is.Nodup:=by decide):HC P none n w0 F B0 N0 T G0 Q (.rangeFunc g ps x y) E D N H:=fun G hG B w a hs hgx ha=>by
 have hfr:∀ i,N<=i->G i=none:=fun i hi=>(hgx.new i hi).2;have hpm:H.Perm (Yr H is++Ry H ds):=(Oz ds H hd.2.1).trans ((O2 hd.1).append_right _);obtain ⟨us,vs,hus,hvs,hfe⟩:=Qc (ha.eval hg);refine wpIn_rangeFunc fun fn _=>?_;have hB0:B N=none:=(hgx.new N (Nat.le_refl _)).1;have hw1:Below w.heap.size w (w.alloc (.deferred (some []))):=(Below.refl _ _).alloc (Nat.le_refl _) _;have hsz1:(w.alloc (.deferred (some []))).heap.size=w.heap.size+1:=World.size_alloc ..;have s1:Gx w0 F (upd B N (w.heap.size,0)) (N+1) (Sb G N .defd) (w.alloc (.deferred (some []))):=(hgx.keep hw1).lay (p:=(w.heap.size,0)) (sb:=.defd) (by show (w.alloc _).heap[w.heap.size]?=_;exact heap_alloc_new _ _) hgx.low.size (fun i z q hi hq e=>by have:=hgx.inw hi hq;simp only at e;omega);have hB1:upd B N (w.heap.size,0) (N+1)=none:=(s1.new (N+1) (Nat.le_refl _)).1;have hpre1:Pre B (upd B N (w.heap.size,0)):=Pre.upd hB0 _;have hpre2:Pre B (upd (upd B N (w.heap.size,0)) (N+1) (w.heap.size+1,0)):=hpre1.trans (Pre.upd hB1 _);have hen:=run_enterLoop_outer (P:=P) (w:=w) fn a.tmps ps x y;have hw2:Below (w.alloc (.deferred (some []))).heap.size (w.alloc (.deferred (some []))) ((w.alloc (.deferred (some []))).alloc (.loop { state:=.ready,pending:=none,fn,tmps:=a.tmps,params:=ps,assign:=x,body:=y,defers:=w.heap.size })):=(Below.refl _ _).alloc (Nat.le_refl _) _
 have s2:=(s1.keep hw2).lay (p:=(w.heap.size+1,0)) (sb:=.loop .ready none E n ps x y) (by
   show Blk _ _ _ ((w.alloc _).alloc _).heap[w.heap.size+1]?;have hn:=heap_alloc_new (w.alloc (.deferred (some []))) (.loop { state:=.ready,pending:=none,fn,tmps:=a.tmps,params:=ps,assign:=x,body:=y,defers:=w.heap.size });rw [hsz1] at hn;rw [hn];exact ⟨_,J,J,J,ha.tm.mono hpre2,J,J,J⟩) (by have:=hgx.low.size;simp only;omega) (fun i z q hi hq e=>by have:=s1.inw hi hq;rw [hsz1] at this;simp only at e;omega)
 generalize (w.alloc (.deferred (some []))).alloc (.loop { state:=.ready,pending:=none,fn,tmps:=a.tmps,params:=ps,assign:=x,body:=y,defers:=w.heap.size })=W at s2 hen hw2;refine ⟨w.heap.size+1,[{ target:=.collected w.heap.size,args:=#[] }],W,{ target:=.fn (.func f) vs.toArray,args:=(us++[Value.func (.yield (w.heap.size+1)) #[] #[]]).toArray },W,f,(us++[Value.func (.yield (w.heap.size+1)) #[] #[]]++vs).toArray,W,hen,?_,fun _ _=>trivial,?_,fun h=>(by cases h),?_⟩
 ·simp only [resolve,rangeCall,hfe,Deferred.ofValue];simp;rfl
 ·obtain ⟨fn',hfn,hbody⟩:=hF.1;have hn:=hng f fn' hfn;have hp:(program:Sem Program).run P W=.ok P W:=rfl;simp only [invoke,callFunc,Sem.run_bind];rw [hp];simp only [Result.andThen_ok,hfn,hn,hbody,Bool.false_eq_true,if_false,Sem.run_pure];simp
 ·have hG1:Hx T N0 G0 ((N,.defd)::H) (Sb G N .defd):=hG.new hs.le (hfr N (Nat.le_refl _)) _;have hG2:Hx T N0 G0 ((N+1,.loop .ready none E n ps x y)::(N,.defd)::H) (Sb (Sb G N .defd) (N+1) (.loop .ready none E n ps x y)):=hG1.new (by have:=hs.le;omega) (s1.new (N+1) (Nat.le_refl _)).2 _
  have hpm2:((N+1,SB.loop .ready none E n ps x y)::(N,SB.defd)::H).Perm (((N+1,SB.loop .ready none E n ps x y)::Yr H is)++((N,.defd)::Ry H ds)):=by
   refine List.Perm.cons _ ?_;exact (hpm.cons _).trans List.perm_middle.symm
  have hnd:=(hpm2.map (·.1)).nodup_iff.1 hG2.hs.nd;have hsc:Hs ((N+1,SB.loop .ready none E n ps x y)::Yr H is) (Sb (Sb G N .defd) (N+1) (.loop .ready none E n ps x y)):=hG2.hs.sub (fun p hp=>hpm2.mem_iff.2 (List.mem_append_left _ hp)) (by rw [List.map_append] at hnd;exact (List.nodup_append.1 hnd).1);have hfr2:∀ i,N+2<=i->Sb (Sb G N .defd) (N+1) (.loop .ready none E n ps x y) i=none:=fun i hi=>(s2.new i hi).2
  have hargs:Xh (upd (upd B N (w.heap.size,0)) (N+1) (w.heap.size+1,0)) (u++[.yd (N+1)]++c)=some (us++[Value.func (.yield (w.heap.size+1)) #[] #[]]++vs) :=
   Wf (Wf (Wq hpre2 _ _ hus) (by simp [Xh,den,Vn])) (Wq hpre2 _ _ hvs)
  refine CallsIn.mono ((hF.2 _ hsc hfr2).2 w0 F _ W _ s2 hargs) ?_;rintro e' w3 ⟨v,N',G',z,B3,⟨H',hR,hc⟩,rfl,hsi,hdz,hg3⟩;obtain ⟨st,pd,E0,n0,ps0,x0,y0,H1,rfl,hst,hk⟩:=k v N' H' hR;have hpl:B3 (N+1)=some (w.heap.size+1,0):=hsi.pre _ _ (Vn ..);have hpmk:B3 N=some (w.heap.size,0):=hsi.pre _ _ (by unfold upd;rw [if_neg (by omega),if_pos rfl]);have hG3:=Hx.callS hG2 (by have:=hs.le;omega) hfr2 (fun p hp=>hpm2.mem_iff.2 (List.mem_append_left _ hp)) (fun p hp=>hpm2.mem_iff.2 (List.mem_append_right _ hp)) hnd hc;have hl3:=hG3.hs.get (i:=0) rfl;obtain ⟨rl,hrl,hst1,hpd1,htm1,hps1,hx1,hy1⟩:=hg3.loopAt hl3 hpl;refine ⟨_,_,run_endLoop hrl (by rw [hst1];exact hst),?_⟩;have hg4:=hg3.putObj hl3 hpl (.loop { rl with state:=.exhausted }) (.loop .exhausted pd E0 n0 ps0 x0 y0) ⟨_,rfl,rfl,hpd1,htm1,hps1,hx1,hy1⟩
  have hG4:Hx T N0 G0 ((N,.defd)::(H1++Ry H ds)) (Sb G' (N+1) (.loop .exhausted pd E0 n0 ps0 x0 y0)):=by
   have h1:=hG3.put (.loop .exhausted pd E0 n0 ps0 x0 y0);have h2:((N+1,SB.loop .exhausted pd E0 n0 ps0 x0 y0)::H1++(N,.defd)::Ry H ds).Perm ((N+1,SB.loop .exhausted pd E0 n0 ps0 x0 y0)::(N,.defd)::(H1++Ry H ds)):=List.Perm.cons _ List.perm_middle;have h3:=h1.perm h2;have h4:=h3.pick (is:=List.range' 1 (H1++Ry H ds).length.succ) List.nodup_range';have h5:=Nt [(N+1,SB.loop .exhausted pd E0 n0 ps0 x0 y0)] ((N,.defd)::(H1++Ry H ds));rw [List.length_cons] at h5;have h6:Yr ((N+1,SB.loop .exhausted pd E0 n0 ps0 x0 y0)::(N,.defd)::(H1++Ry H ds)) (List.range' 1 (H1++Ry H ds).length.succ)=(N,.defd)::(H1++Ry H ds):=h5;rw [h6] at h4;exact h4
  have hsi3:Since B0 N0 B3 N':=hs.trans ⟨hpre2.trans hsi.pre,by have:=hsi.le;omega,fun i hi=>by rw [hsi.old i (by omega)];unfold upd;rw [if_neg (by omega),if_neg (by omega)]⟩;have hpre3:Pre B B3:=hpre2.trans hsi.pre;have ha3:Ags n { a with defers:=[{ target:=.collected w.heap.size,args:=#[] }]++a.defers } E (.mark N::D) B3:=⟨ha.tm.mono hpre3,T8.2 ⟨_,_,by simp [N7,hpmk],Pv hpre3 _ _ ha.df,rfl⟩⟩;rw [hpd1] at hg4 ⊢;cases pd with
  | none=>exact hk _ _ ⟨_,B3,hG4,hsi3,hg4,ha3⟩
  | some cc=>exact hk _ hG4 B3 _ _ hsi3 hg4 ha3
end
end S
namespace S
open Go Go.RowKit E
def Ab (G:Nat->Option SB) (b:Nat):Nat->Option SB:=fun i=>if i=b then none else G i
theorem Jb {G:Nat->Option SB} {b i:Nat} {z:SB} (h:Ab G b i=some z):i≠b/\G i=some z:=by
 unfold Ab at h;by_cases e:i=b
 ·rw [if_pos e] at h;cases h
 ·rw [if_neg e] at h;exact ⟨e,h⟩
theorem Gy {G:Nat->Option SB} {b i:Nat} (h:i≠b):Ab G b i=G i:=if_neg h
section
variable {P:Program} {l:Option Nat} {n:Nat} {all:Array Oper} {w0 w w':World} {F:List Nat} {B B0:Nm} {N N0:Nat} {T:List Nat} {G0 G:Nat->Option SB} {A U V H H2:Ch} {E El E' Er:SE} {D:List SD} {a:Act} {o:Oper} {L:List Oper} {Q:Exit->Act->World->Prop} {x y:Code} {e:Exit}
theorem Gx.loose (h:Gx w0 F B N G w) {b:Nat} {sb:SB} {p:Nat × Nat} (hb:G b=some sb) (hp:B b=some p) (ob:Obj):Gx w0 F B N (Ab G b) (w.putObj p.1 ob):=by
 obtain ⟨q,hq,_,hF⟩:=h.own b _ hb;rw [hp] at hq;cases hq;refine ⟨h.low.trans (G:=[p.1]) ⟨J,J,J,by rw [World.putObj_size];exact Nat.le_refl _,fun k _ hk=>World.putObj_heap_other (fun e=>hk (by rw [e];exact List.mem_singleton.2 J))⟩ (fun x hx=>by cases List.mem_singleton.1 hx;exact hF),fun i hi=>⟨(h.new i hi).1,?_⟩,fun i z hi=>?_,fun i j z z' q r hi hj hq hr e=>?_⟩
 ·unfold Ab;split
  ·rfl
  ·exact (h.new i hi).2
 ·obtain ⟨h1,h2⟩:=Jb hi;obtain ⟨q,hq,hk,hF'⟩:=h.own i z h2;refine ⟨q,hq,?_,hF'⟩;rw [World.putObj_heap_other (fun e=>h1 (h.apart i b z sb q p h2 hb hq hp e))];exact hk
 ·exact h.apart i j z z' q r (Jb hi).2 (Jb hj).2 hq hr e
theorem Hx.kill (h:Hx T N0 G0 H G) {i b:Nat} {sb:SB} (hi:H[i]?=some (b,sb)) {is:List Nat} (hn:(i::is).Nodup):Hx T N0 G0 (Yr H is) (Ab G b):=by
 have hnb:∀ p ∈ Yr H is,p.1≠b:=by
  intro p hp;obtain ⟨j,hj,hjp⟩:=List.mem_filterMap.1 hp;exact h.hs.ne (b:=p.1) (x:=p.2) hjp hi (fun e=>(List.nodup_cons.1 hn).1 (e ▸ hj))
 refine ⟨⟨fun p hp=>?_,Pq h.hs (List.nodup_cons.1 hn).2⟩,fun q z hq hT=>?_,fun p hp=>h.mine p (Xs hp),h.fr0⟩
 ·rw [Gy (hnb p hp)];exact h.hs.at_ p (Xs hp)
 ·rw [Gy (h.not (List.mem_of_getElem? hi) hq hT)];exact h.old q z hq hT
theorem Zlt {fn:Func} {m:List SV} {R:SV->Nat->Ch->Prop} {T:List Nat} {i b:Nat} (is:List Nat) (he:e=.normal\/e=.ret) (hng:Sm P) (hi:H[i]?=some (b,.defd)) (hr:resT E fn.results.toList=some m) (hn:(i::is).Nodup) (hR:R (resV m) N (Yr H is)) :
  HQ n w0 F B0 N0 T G0 (bodyPostM (Wz none) 0 P fn (Fin B0 N0 w0 F fun v N' G'=>∃ H',R v N' H'/\Hx T N0 G0 H' G')) e E [.mark b] N H:=fun a w ⟨G,B,hG,hs,hg,ha⟩=>by
 have hb:=hG.hs.get hi;obtain ⟨p,hp,hk,_⟩:=hg.own b _ hb
 have hd:a.defers=[{ target:=.collected p.1,args:=#[] }]:=by
  have:=ha.df;simp only [Tb,N7,hp] at this
  simpa using this.symm
 have key:LeavesInM (Wz none) 0 P fn a.tmps (Fin B0 N0 w0 F fun v N' G'=>∃ H',R v N' H'/\Hx T N0 G0 H' G') a.defers .returning w:=by
  rw [hd];refine ⟨(by intro h;cases h),.inl ⟨p.1,_,rfl,run_takeDeferred hk,?_⟩⟩;obtain ⟨El,h1,h2⟩:=Fy (P:=P) N _ m hr;have hg':=hg.loose hb hp (.deferred none);have ha':Ags n { a with defers:=[] } E [] B:=⟨ha.tm,rfl⟩;exact H4 (bs:=[]) (σ:=⟨0,.nil⟩) hng ⟨J,by simp,by simp,(fun i sb h=>by cases h),(fun i g h=>by cases h)⟩ h1 h2 (R:=fun v N' G'=>∃ H',R v N' H'/\Hx T N0 G0 H' G') (by rw [Pm (by simp)];exact ⟨_,hR,hG.kill hi hn⟩) hs hg' ha'
 rcases he with rfl | rfl
 ·exact key
 ·exact key
theorem Zvb {E2:SE} (hE:Lk E E2):HQ n w0 F B0 N0 T G0 (fun e a w=>e=.normal/\HA n w0 F B0 N0 T G0 E2 D N H a w) .normal E D N H:=fun a w ⟨G,B,hG,hs,hg,ha⟩=>⟨rfl,G,B,hG,hs,hg,⟨⟨ha.tm.1,fun i v hv=>ha.tm.2 i v (hE.get i v hv)⟩,ha.df⟩⟩
theorem Zuy {b:Nat} {pd:Option Code} {E0:SE} {ps:Array Tmp} {R:SV->Nat->Ch->Prop} {H3:Ch} (is:List Nat) (hn:is.Nodup) (hH:Yr H is=(b,.loop .busy pd E0 n ps x y)::H3) (hR:R (Zb true) N ((b,.loop .ready none E0 n ps x y)::H3)) :
  HQ n w0 F B0 N0 T G0 (rndQ w0 F B0 N0 T G0 b pd E0 n ps x y R) .normal E [] N H:=fun a w ⟨G,B,hG,hs,hg,ha⟩=>⟨none,E,N,H3,.inl ⟨rfl,rfl⟩,⟨G,B,by rw [<- hH];exact hG.pick hn,hs,hg,ha⟩,hR⟩
end
end S
namespace S
open Go Go.RowKit E
def RcOk (P:Program) (f:FuncId) (pv:Value):Prop:=(∃ fn,P.funcs[f]?=some fn/\fn.body.isNone=false)/\∀ (w:World) (b:Nat) (t:TypeId) (x:Value),w.heap[b]?=some (.cells #[x] t (0,0)) ->
 CallsDIn (Wz none) 0 P f #[pt b] (.panicking (Dc pv)) w fun e u w'=>(∃ v,e=.returned v)/\u=.panicking [{ v:=pv,recovered:=true }]/\w'=w.setRow b #[pv]
section
set_option maxRecDepth 4000
theorem rcBelow (u:TypeId) (pv:Value):RcOk Tryz.prog 102 (.iface u pv):=by
 refine ⟨⟨_,Tryz.func102,J⟩,fun w b t x hob=>?_⟩;have hc:w.cell? ⟨b,0,none⟩=some x:=by simp [World.cell?,hob]
 have hz:w.frozen? ⟨b,0,none⟩=false:=by simp [World.frozen?,hob]
 have hset:w.setCell ⟨b,0,none⟩ (.iface u pv)=w.setRow b #[.iface u pv]:=Gu (cs:=[x]) (k:=0) hob (by simp);rw [<- hset];refine Im Tryz.func102 J fun c₀ cs hu=>?_;apply wpS_region;simp [wpOpsS,go_sem,recoverD,hu,Dc,Tryz.ntmps102,hc,hz,bodyPostS,results,Tryz.results102]
end
section
variable {P:Program} {l:Option Nat} {n:Nat} {all:Array Oper} {w0 w w':World} {F:List Nat} {B B0:Nm} {N N0:Nat} {T:List Nat} {G0 G:Nat->Option SB} {A U V H H2:Ch} {E El E' Er:SE} {D:List SD} {a:Act} {o:Oper} {L:List Oper} {Q:Exit->Act->World->Prop} {x y:Code} {e:Exit}
theorem HQ_finR {fn:Func} {m:List SV} {R:SV->Nat->Ch->Prop} {f:FuncId} {b j:Nat} {vx v0:SV} {pv:Value} {H2:Ch} (hng:Sm P) (hrc:RcOk P f pv) (hv:∀ B,den B vx=some pv) (hvc:sOne v0=true) (hj:H[j]?=some (b,.cells [v0])) (hE:Qp (rho [b] N) E El)
  (hr:resL P El (one (shB (.cells [vx]))) fn.results.toList=some (shL m)) (hH2:∀ G,Hx T N0 G0 (H.set j (b,.cells [vx])) G->Hx T N0 G0 H2 G) (hR:R (resV m) N H2) :
  HQ n w0 F B0 N0 T G0 (bodyPostM (Wz none) 0 P fn (Fin B0 N0 w0 F fun v N' G'=>∃ H',R v N' H'/\Hx T N0 G0 H' G')) (.panic (Dc pv)) E [.clo f [.ptr b 0]] N H:=fun a w ⟨G,B,hG,hs,hg,ha⟩=>by
 have hb:=hG.hs.get hj;obtain ⟨p,hp,⟨us,t,hus,hob⟩,_⟩:=hg.own b _ hb;obtain ⟨u0,us',hu0,hus',rfl⟩:=Wr.1 hus;simp only [Xh] at hus';cases hus'
 have hd:a.defers=[{ target:=.fn (.func f) #[.pointer (some ⟨p.1,0,none⟩)],args:=#[] }]:=by
  have:=ha.df;simp only [Tb,N7,Xh,den,hp,Option.map_some] at this
  simpa using this.symm
 show LeavesInM (Wz none) 0 P fn a.tmps _ a.defers (.panicking (Dc pv)) w;rw [hd];obtain ⟨⟨fn',hfn,hbody⟩,hcall⟩:=hrc;have hn:=hng f fn' hfn;refine ⟨(by intro h;cases h),.inr ⟨(fun h=>by cases h),_,_,f,#[.pointer (some ⟨p.1,0,none⟩)],rfl,?_,fun _ _=>trivial,?_⟩⟩
 ·have hpr:(program:Sem Program).run P w=.ok P w:=rfl;simp only [invoke,callFunc,Sem.run_bind];rw [hpr];simp only [Result.andThen_ok,hfn,hn,hbody,Bool.false_eq_true,if_false,Sem.run_pure];simp
 ·refine CallsDIn.mono (hcall w p.1 t u0 hob) ?_;rintro e' u' w' ⟨⟨v,rfl⟩,rfl,rfl⟩
  have hg2:Gx w0 F B N (Sb G b (.cells [vx])) (w.setRow p.1 #[pv]):=by
   refine hg.turn (w':=w.setRow p.1 #[pv]) hb hp ⟨J,J,J⟩ (by unfold World.setRow;simp) (fun k hk=>?_) (.cells [vx]) ?_
   ·unfold World.setRow;rw [Array.getElem?_modify,if_neg (fun e=>hk e.symm)]
   ·refine ⟨[pv],t,by simp only [Xh,hv B],?_⟩;unfold World.setRow;rw [Array.getElem?_modify,if_pos rfl,hob];rfl
  have hG2:Hx T N0 G0 (H.set j (b,.cells [vx])) (Sb G b (.cells [vx])):=hG.set hj _;have hfew:Few [b] N (Sb G b (.cells [vx])) (one (shB (.cells [vx]))):=few1 (sb:=.cells [vx]) (R4 ..);show LeavesInM (Wz none) 0 P fn a.tmps _ [] .returning _;have ha':Ags n { a with defers:=[] } E [] B:=⟨ha.tm,rfl⟩;exact H4 (bs:=[b]) hng hfew hE hr (R:=fun v N' G'=>∃ H',R v N' H'/\Hx T N0 G0 H' G') (by rw [Pm (by unfold lim;simp)];exact ⟨_,hR,hH2 _ hG2⟩) hs hg2 ha'
end
end S
namespace S
open Go Go.RowKit E
section
variable {P:Program} {l:Option Nat} {n:Nat} {all:Array Oper} {w0 w w':World} {F:List Nat} {B B0:Nm} {N N0:Nat} {T:List Nat} {G0 G:Nat->Option SB} {A U V H H':Ch} {E El E' Er:SE} {D:List SD} {a:Act} {o:Oper} {L:List Oper} {Q:Exit->Act->World->Prop} {x y:Code} {e:Exit} {pc:List PanicEntry}
theorem Zor {Fn:Fence} {m:Nat} {K K2:Act->World->Prop} {Q':Exit->Act->World->Prop} (hK:∀ a w,¬ K a w) (hQ:∀ e a w,Q' e a w->Q e a w) (h:o.wpIn Fn m P a w K Q'):o.wpIn Fn m P a w K2 Q:=by
 unfold Oper.wpIn at *;refine ⟨h.1,?_⟩;have h:=h.2;have hlo:LetsOut Q'->LetsOut Q:=fun ⟨a,w,q⟩=>⟨a,w,hQ _ _ _ q⟩;generalize (o.semAt Fn.round a.eval).run P w=r at *;cases r with
 | ok x w' =>
  cases x<;>simp only [Oper.uponIn] at h ⊢
  ·exact absurd h (hK _ _)
  ·exact absurd h (hK _ _)
  ·exact ⟨h.1,CallsIn.mono h.2 (fun e w'' he=>by cases e<;>first | exact absurd he (hK _ _) | exact hlo he | exact hQ _ _ _ he)⟩
  ·exact ⟨h.1,RoundIn.mono h.2 (fun e w'' he=>by cases e<;>first | exact absurd he (hK _ _) | exact hlo he | exact hQ _ _ _ he)⟩
  ·exact absurd h (hK _ _)
  ·exact ⟨h.1,RowsIn.mono h.2 (fun v _ he=>absurd he (hK _ _))⟩
 | halt x w'=>cases x<;>simp only [Oper.uponIn] at h ⊢<;>first | exact hQ _ _ _ h | exact h
structure InvP (L:List Oper) (vs:List SV) (n:Nat) (E:SE) (D:List SD) (w0:World) (F:List Nat) (B:Nm) (N:Nat) (G:Nat->Option SB) (d:Nat) (ls:Array Bool) (a:Act) (w:World):Prop where
 sz:ls.size=L.length
 no:ls.getD d false=false
 gx:Gx w0 F B N G w
 tm:n<=a.tmps.size
 df:Tb B D=some a.defers
 done:∀ (i:Nat) (o:Oper) (d:Nat) (v:SV),L[i]?=some o->vs[i]?=some v->ls.getD i false=true->o.dst=some d->∃ x,den B v=some x/\a.tmps[d]?=some x
 old:∀ (t:Nat) (v:SV),slook E t=some v->(∀ (i:Nat) (o:Oper),L[i]?=some o->o.dst≠some t)->∃ x,den B v=some x/\a.tmps[t]?=some x
theorem HC_dp {id:Nat} (vs:List SV) (d:Nat) (od:Oper) (hm:P.follows .mixedOrders=true) (h1:Ky L=true) (h2:Oc L=true) (h3:ckRd L.toArray L=true) (h4:ckN n L=true) (hlen:L.length=vs.length) (hd:L[d]?=some od)
  (hqs:∀ i o v,i≠d->L[i]?=some o->vs[i]?=some v->∀ G,Hs H G->P0 P n N G L.toArray o ⟨erOf L.toArray (Ua L vs E i) o,v⟩)
  (hdie:∀ w0 F B0 N0 T G0 Q',(∀ N',HQ n w0 F B0 N0 T G0 Q' (.panic pc) [] D N' H')->HL P l n L.toArray w0 F B0 N0 T G0 Q' [od] (erOf L.toArray (Ua L vs E d) od) D N H)
  (k:∀ N',HQ n w0 F B0 N0 T G0 Q (.panic pc) [] D N' H'):HC P l n w0 F B0 N0 T G0 Q (.region id L.toArray true) E D N H:=by
 intro G hG B w a hs hg ha;have hto:∀ (i:Nat) (o:Oper),L.toArray[i]?=some o->L[i]?=some o:=fun i o h=>by simpa using h
 have hedge:∀ (i:Nat) (o:Oper) (e:Edge),L[i]?=some o->e ∈ o.after->Region.binds .any e=true->e.on<i:=by
  intro i o e ho he hb;have c:=Ue h2 ho;have c2:=List.all_eq_true.1 c e (by simpa using he);rw [hb] at c2
  simpa using c2
 have hdst:∀ (i j:Nat) (o q:Oper) (d:Nat),L[i]?=some o->L[j]?=some q->i≠j->o.dst=some d->q.dst≠some d:=by
  intro i j o q d ho hqj hij hd hd';have c:=Ue h1 ho;rw [hd] at c;simp only at c;have c2:=Ue c hqj;rw [hd',Tu hij] at c2;simp at c2
 have hdn:∀ (i:Nat) (o:Oper) (d:Nat),L[i]?=some o->o.dst=some d->d<n:=by
  intro i o d ho hd;have c:=List.all_eq_true.1 h4 o (List.mem_of_getElem? ho);rw [hd] at c
  simpa using c
 have hagsR:∀ {ls a w},InvP L vs n E D w0 F B N G d ls a w->∀ i o,L[i]?=some o->(∀ e ∈ o.after,Region.binds .any e=true->ls.getD e.on false=true)->Ags n a (erOf L.toArray (Ua L vs E i) o) D B:=by
  intro ls a w hI i o ho hafter;refine ⟨⟨hI.tm,fun t v ht=>?_⟩,hI.df⟩
  have hread:∀ (j:Nat) (q:Oper),L[j]?=some q->q.dst=some t->∃ e,e ∈ o.after/\Region.binds .any e=true/\e.on=j:=by
   intro j q hj hd;have c:=List.all_eq_true.1 h3 o (List.mem_of_getElem? ho);have c2:=List.all_eq_true.1 c t (Jt (Ot ht));have c3:=Ue c2 hj;rw [hd] at c3;simp only [Nat.beq_refl,Bool.not_true,Bool.false_or,List.any_eq_true,Bool.and_eq_true] at c3;obtain ⟨e,he,hb,hon⟩:=c3;exact ⟨e,by simpa using he,hb,Nat.eq_of_beq_eq_true hon⟩
  have hi:i<L.length:=(List.getElem?_eq_some_iff.1 ho).1;rcases Rb L vs E i t v (by omega) hlen (S3 ht) with ⟨j,q,hji,hj,hvj,hd⟩ | ⟨h5,h6⟩
  ·obtain ⟨e,he,hb,rfl⟩:=hread j q hj hd;exact hI.done e.on q t v hj hvj (hafter e he hb) hd
  ·refine hI.old t v h5 (fun j q hj hd=>?_);obtain ⟨e,he,hb,rfl⟩:=hread j q hj hd;exact h6 e.on q (hedge i o e ho he hb) hj hd
 refine wpIn_region_any hm ?_;refine Cp (I:=InvP L vs n E D w0 F B N G d) (fun _ _ _ h=>by rw [h.sz];simp) (fun i o e ho=>hedge i o e (hto i o ho)) ?_ ?_ _ _ _ _ ?_ ?_
 ·intro ls a w i hI hi;obtain ⟨hil,o,ho',hafter⟩:=mem_ready.1 hi;have ho:=hto i o ho';have hiL:i<L.length:=(List.getElem?_eq_some_iff.1 ho).1;have hv:vs[i]?=some vs[i]:=List.getElem?_eq_getElem (by omega);have hags:=hagsR hI i o ho hafter;unfold wpOpIn;rw [ho'];simp only;by_cases hid:i=d
  ·subst hid;rw [hd] at ho;cases ho;have hl:=hdie w0 F B0 N0 T G0 (fun e a w=>e=.panic pc/\Q e a w) (fun N' a w hA=>⟨rfl,k N' a w hA⟩) G hG B w a hs hI.gx hags;simp only [wpListIn] at hl;cases hw:Region.wanted od (yielded L.toArray a.tmps) with
   | true =>
    rw [hw] at hl;simp only [if_true] at hl ⊢;exact Zor (fun a w h=>by cases h.1) (fun e a w h=>h.2) hl
   | false =>
    rw [hw] at hl;simp only [Bool.false_eq_true,if_false] at hl;cases hl.2.1
  ·have hset:∀ j,(ls.setIfInBounds i true).getD j false=true↔(if i=j then True else ls.getD j false=true):=by
    intro j;rw [La];by_cases e:i=j
    ·rw [if_pos e,if_pos e,if_pos (by rw [hI.sz];exact hiL)];simp
    ·rw [if_neg e,if_neg e]
   have hstep:∀ {w1:World} {x:Value},(∀ d,o.dst=some d->den B vs[i]=some x)->Gx w0 F B N G w1->InvP L vs n E D w0 F B N G d (ls.setIfInBounds i true) (a.put o.dst x) w1:=by
    intro w1 x hx hgx;refine ⟨by rw [Array.size_setIfInBounds];exact hI.sz,by rw [La,if_neg hid];exact hI.no,hgx,?_,by rw [show (a.put o.dst x).defers=a.defers by cases o.dst<;>rfl];exact hI.df,fun j q d v hj hvj hl hd=>?_,fun t v ht hn=>?_⟩
    ·cases hod:o.dst with
     | none=>exact hI.tm
     | some d=>show n<=(a.tmps.setIfInBounds d x).size;rw [Array.size_setIfInBounds];exact hI.tm
    ·by_cases e2:i=j
     ·subst e2;rw [ho] at hj;cases hj;rw [hv] at hvj;cases hvj;refine ⟨x,hx d hd,?_⟩;rw [hd];show (a.tmps.setIfInBounds d x)[d]?=_;rw [Array.getElem?_setIfInBounds,if_pos rfl,if_pos (Nat.lt_of_lt_of_le (hdn i o d ho hd) hI.tm)]
     ·rw [hset,if_neg e2] at hl;obtain ⟨y,hy,hty⟩:=hI.done j q d v hj hvj hl hd;exact ⟨y,hy,by rw [Sq (fun e'=>hdst i j o q d ho hj e2 e' hd)];exact hty⟩
    ·obtain ⟨y,hy,hty⟩:=hI.old t v ht hn;exact ⟨y,hy,by rw [Sq (hn i o ho)];exact hty⟩
   rcases hqs i o _ hid ho hv G hG.hs with ⟨hw,hv'⟩ | ⟨hw,hnd,hrun⟩
   ·rw [Wg hags hw];simp only [Bool.false_eq_true,if_false];exact ⟨fun _ _=>trivial,hstep (x:=undef) (fun _ _=>by rw [show vs[i]=.tup [] from hv'];rfl) hI.gx⟩
   ·rw [Wg hags hw];simp only [if_true];obtain ⟨x,w1,hx,hdx,hg1⟩:=hrun w0 F B D w a hI.gx hags;have hst:=hstep (x:=x) (fun _ _=>hdx) hg1;refine ⟨fun _ _=>trivial,?_⟩;rw [Oper.semAt_eq _ _ _ hnd];rcases hx with hx | ⟨rfl,hx⟩
    ·rw [hx];exact hst
    ·rw [hx];exact hst
 ·intro ls a w hI hall;have:=hall d (by have:=(List.getElem?_eq_some_iff.1 hd).1;simpa using this);rw [hI.no] at this;cases this
 ·refine ⟨by simp,?_,⟨⟨hg.low.os,hg.low.tape,hg.low.output,hg.low.size,hg.low.block⟩,hg.new,hg.own,hg.apart⟩,ha.tm.1,ha.df,fun i o d r _ _ hl _=>?_,fun t v ht _=>ha.tm.2 t v ht⟩
  ·rw [Array.getD_eq_getD_getElem?,Array.getElem?_replicate];split<;>simp
  ·rw [Array.getD_eq_getD_getElem?,Array.getElem?_replicate] at hl;split at hl<;>cases hl
 ·simp
theorem Lf:∀ {L1:List Oper} {vs1:List SV} {E:SE} {L2:List Oper} {vs2:List SV} {i:Nat},L1.length=vs1.length->i<=L1.length->Ua (L1++L2) (vs1++vs2) E i=Ua L1 vs1 E i
 | [],[],E,L2,vs2,i,_,hi=>by
  have:i=0:=by simpa using hi
  subst this;show Ua L2 vs2 E 0=E;cases L2<;>cases vs2<;>rfl
 | [],_::_,E,L2,vs2,i,h,_=>by cases h
 | _::_,[],E,L2,vs2,i,h,_=>by cases h
 | o::r,v::vs,E,L2,vs2,0,_,_=>rfl
 | o::r,v::vs,E,L2,vs2,i+1,h,hi=>Lf (L1:=r) (vs1:=vs) (by simpa using h) (by simpa using hi)
theorem He {E:SE} {t:Nat} {v:SV} (hv:slook E t=some v):∀ {l:List Nat},t ∈ l->slook (restr E l) t=some v
 | [],h=>by cases h
 | x::l,h=>by
  unfold restr;rw [List.filterMap_cons];by_cases e:t=x
  ·subst e;rw [hv];simp only [Option.map_some];rw [Yj,Nat.beq_refl];rfl
  ·have ih:=He hv (List.mem_of_ne_of_mem e h);unfold restr at ih;cases hx:slook E x with
   | none=>simp only [Option.map_none];exact ih
   | some u =>
    simp only [Option.map_some];rw [Yj,Tu e];exact ih
theorem Zuz (h:HQ n w0 F B0 N0 T G0 Q e [] D N H):HQ n w0 F B0 N0 T G0 Q e E D N H:=fun a w ⟨G,B,c1,c2,c3,c4⟩=>h a w ⟨G,B,c1,c2,c3,⟨⟨c4.tm.1,fun i v hv=>by cases hv⟩,c4.df⟩⟩
theorem HC_dl {id:Nat} {L1:List Oper} {od:Oper} (hm:P.follows .mixedOrders=true) (is:List Nat) (Er:SE) (hdie:∀ w0 F B0 N0 T G0 Q' all,(∀ N',HQ n w0 F B0 N0 T G0 Q' (.panic pc) Er D N' H')->HL P l n all w0 F B0 N0 T G0 Q' [od] Er D N H) (k:∀ N',HQ n w0 F B0 N0 T G0 Q (.panic pc) [] D N' H') (h1:Ky (L1++[od])=true:=by kernel_rfl) (h2:Oc (L1++[od])=true:=by kernel_rfl) (h3:ckRd (L1++[od]).toArray (L1++[od])=true:=by kernel_rfl) (h4:ckN n (L1++[od])=true:=by kernel_rfl)
  (h:outQ (quR P H (L1++[od]).toArray L1 E is) L1 E (Er.map (·.1))=some (Er.map (fun p=>some p.2),sndQ (quR P H (L1++[od]).toArray L1 E is)):=by kernel_rfl) (hE:(Er.all fun p=>(Ek od.op.operands.toList).any fun j=>Nat.beq p.1 j)=true:=by kernel_rfl):HC P l n w0 F B0 N0 T G0 Q (.region id (L1++[od]).toArray true) E D N H:=by
 cases hr:quR P H (L1++[od]).toArray L1 E is with
 | none=>rw [hr] at h;cases h
 | some s =>
  obtain ⟨vs,ls⟩:=s;rw [hr] at h;simp only [outQ,sndQ,Option.map_some,Option.some.injEq,Prod.mk.injEq] at h;have hq:=Zhg (l:=l) (n:=n) (D:=D) (N:=N) (i:=0) hr (Eo h.2);obtain ⟨hlen,hqs⟩:=Ct hq;refine HC_dp (vs++[.tup []]) L1.length od hm h1 h2 h3 h4 (by simp [hlen]) (by simp) (fun i o v hid hi hv G hG=>?_) (fun w0 F B0 N0 T G0 Q' hQ=>?_) k
  ·have hi':i<L1.length:=by
    have:=(List.getElem?_eq_some_iff.1 hi).1;simp only [List.length_append,List.length_cons,List.length_nil] at this;omega
   rw [List.getElem?_append_left hi'] at hi;rw [List.getElem?_append_left (by omega)] at hv;rw [Lf hlen (by omega)];have hQE:=hqs i o v hi hv;rw [Nat.zero_add] at hQE;rcases hQE with ⟨_,hq2⟩ | ⟨j,_,_,_,_,hp,_⟩
   ·exact hq2.1 (by unfold Ff;rfl) G hG
   ·cases hp
  ·rw [Lf hlen (Nat.le_refl _)];refine Zge (fun i v hi=>?_) (hdie w0 F B0 N0 T G0 Q' _ (fun N'=>Zuz (hQ N')));have hm:=List.all_eq_true.1 hE _ (Rm hi);obtain ⟨j,hj,hb⟩:=List.any_eq_true.1 hm;have e:=Nat.eq_of_beq_eq_true hb;simp only at e;subst e;exact He (M6 h.1 i v hi) (List.mem_append_left _ hj)
theorem Zvj {id:Nat} {od:Oper} (kk:Nat) (is:List Nat) (Er:SE) (hm:P.follows .mixedOrders=true) (hdr:L.drop kk=[od]) (hdie:∀ w0 F B0 N0 T G0 Q' all,(∀ N',HQ n w0 F B0 N0 T G0 Q' (.panic pc) Er D N' H')->HL P l n all w0 F B0 N0 T G0 Q' [od] Er D N H) (k:∀ N',HQ n w0 F B0 N0 T G0 Q (.panic pc) [] D N' H') (h1:Ky L=true:=by kernel_rfl) (h2:Oc L=true:=by kernel_rfl) (h3:ckRd L.toArray L=true:=by kernel_rfl) (h4:ckN n L=true:=by kernel_rfl)
  (h:outQ (quR P H L.toArray (L.take kk) E is) (L.take kk) E (Er.map (·.1))=some (Er.map (fun p=>some p.2),sndQ (quR P H L.toArray (L.take kk) E is)):=by kernel_rfl) (hE:(Er.all fun p=>(Ek od.op.operands.toList).any fun j=>Nat.beq p.1 j)=true:=by kernel_rfl):HC P l n w0 F B0 N0 T G0 Q (.region id L.toArray true) E D N H:=by
 have e:L.take kk++[od]=L:=by rw [<- hdr,List.take_append_drop]
 have:=HC_dl (P:=P) (l:=l) (n:=n) (w0:=w0) (F:=F) (B0:=B0) (N0:=N0) (T:=T) (G0:=G0) (Q:=Q) (E:=E) (D:=D) (N:=N) (H:=H) (H':=H') (pc:=pc) (id:=id) (L1:=L.take kk) (od:=od) hm is Er hdie k (by rw [e];exact h1) (by rw [e];exact h2) (by rw [e];exact h3) (by rw [e];exact h4) (by rw [e];exact h) hE;rw [e] at this;exact this
end
end S
namespace S
open Go Go.RowKit E
section
variable {P:Program} {l:Option Nat} {n:Nat} {all:Array Oper} {w0 w w':World} {F:List Nat} {B B0:Nm} {N N0:Nat} {T:List Nat} {G0 G:Nat->Option SB} {H:Ch} {E E':SE} {D:List SD} {o:Oper} {L:List Oper} {Q:Exit->Act->World->Prop}
theorem HL_ape {i t e sz by_ x y b ln k yq:Nat} {yp:Option Addr} {c:List SV} (hq:apInfo P e=some (sz,by_)) (ht:slOf P t=some e) (hw:wants E all o.guard=some true) (ho:o.op=.call ⟨.builtin .append,#[.tmp x,.tmp y],#[t,t]⟩)
  (hx:slook E x=some (.sl b 0 ln 0)) (hy:slook E y=some (Zl yp yq)) (hi:H[i]?=some (b,.row e sz k c)) (hl:ln<=k) (hp:putD n E o.dst (.sl b 0 ln 0)=some E') (kk:HL P l n all w0 F B0 N0 T G0 Q L E' D N H):HL P l n all w0 F B0 N0 T G0 Q (o::L) E D N H:=fun G hG B w a hs hg ha=>by
 simp only [wpListIn,Wg ha hw];refine ⟨fun _ _=>trivial,?_⟩;rw [Oper.semAt_eq _ _ _ (fun c e=>by rw [ho] at e;cases e)];have ex:=ha.eval (x:=.tmp x) hx;have ey:=ha.eval (x:=.tmp y) hy;obtain ⟨p,hpb,hv⟩:=Rr ex;have hyv:=Vj ey;obtain ⟨q,hq',hk,_⟩:=hg.own b _ (hG.hs.get hi);rw [hpb] at hq';cases hq';obtain ⟨vs,cur,hvs,hlen,hob,hkc,hcm,hcs,htk⟩:=hk;have hle:ln<=p.2:=Nat.le_trans hl hkc;unfold slOf at ht;split at ht
 ·rename_i e' hu
  cases ht;unfold apInfo at hq;split at hq
  ·rename_i inf hinf
   have hr:(execOp a.eval o).run P w=.ok (.value (a.eval (.tmp x))) w:=by
    refine R5 ho J ?_;rw [hv,hyv];cases yp<;>simp [Builtin.append_,run_underlying hu,sizeOf,typeInfo,hinf,Builtin.lenOf,Builtin.firstCells,storeCells,loadCells,loadCellsFrom,hle]
   rw [hr];exact kk G hG B w (a.put o.dst (a.eval (.tmp x))) hs hg (Sc ha ex hp)
  ·cases hq
 ·cases ht
theorem Zvc {xx:Operand} {xs:Array Operand} {ts:Array TypeId} {b:Nat} {m:List SV} {v:SV} {N1:Nat} {H1:Ch} (is ds:List Nat) (hw:wants E all o.guard=some true) (ho:o.op=.call ⟨.value xx,xs,ts⟩) (hx:sev E xx=some (.yd b)) (hxs:sargs E xs.toList=some m)
  (hF:HY P b m N (Yr H is) (fun a b c=>a=v/\b=N1/\c=H1)) (hp:putD n E o.dst v=some E') (k:HL P l n all w0 F B0 N0 T G0 Q L E' D N1 (H1++Ry H ds)) (hd:ds.Perm is/\ds.Pairwise (·>·)/\is.Nodup:=by decide):HL P l n all w0 F B0 N0 T G0 Q (o::L) E D N H :=
 HL_yd is ds hw ho hx hxs hF (by rintro _ _ _ ⟨rfl,rfl,rfl⟩;exact ⟨_,hp,k⟩) hd
end
end S
end Go.Proofs.YtpofmnfkdkmieaaGreat
