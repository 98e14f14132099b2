/- What is proved here: the closures that lay what was recovered -/
import Derived.Test.YtpofmnfkdkmieaaGreatQ24
import Derived.Test.YtpofmnfkdkmieaaGreatQ11
import Derived.Recover
import Derived.Test.YtpofmnfkdkmieaaGreatQ07
set_option linter.unusedVariables false
set_option linter.unusedSimpArgs false
namespace Go.Proofs.YtpofmnfkdkmieaaGreat
namespace S
open Go Go.RowKit E
theorem Im {P:Program} {f:FuncId} {fn:Func} {c:Code} {args:Array Value} {u:FrameMode} {w:World} {R:Ending->FrameMode->World->Prop} (hf:P.funcs[f]?=some fn) (hb:fn.body=some c)
  (h:∀ (c₀:Frame) (cs:List Frame),c₀.mode=u->c.wpS P (bodyPostS P fn c₀ cs R) { tmps:=args++Array.replicate (fn.ntmps - args.size) undef,defers:=[] } (c₀::cs) w):CallsDIn (Wz none) 0 P f args u w R:=by
 refine ⟨trivial,fun c₀ cs hu _=>?_⟩;let b:Frame:={ (default:Frame) with fn:=f,kind:=.deferred }
 have henter:Frame.enter P f args .deferred=b.at { tmps:=args++Array.replicate (fn.ntmps - args.size) undef,defers:=[] } [.code c]:=by
  simp [Frame.enter,Frame.at,hf,hb,b]
 obtain ⟨e,a',cs',w',hq,harr⟩:=h c₀ cs hu b [] rfl rfl;rw [<- henter] at harr;cases e with
 | normal =>
  obtain ⟨hd,u',rfl,v,hr,hR⟩:=hq;exact ⟨.returned v,u',w',_,hR,comesIn_wide.2 (show Comes P _ _ (.returned v) from Steps.trans harr (.one step_end)),J,J,J,hd,fn,hf,hr⟩
 | ret =>
  obtain ⟨hd,u',rfl,v,hr,hR⟩:=hq;obtain ⟨todo,hs⟩:=harr;exact ⟨.returned v,u',w',_,hR,comesIn_wide.2 (show Comes P _ _ (.returned v) from hs),J,J,J,hd,fn,hf,hr⟩
 | panic chain =>
  obtain ⟨hd,u',rfl,hR⟩:=hq;obtain ⟨todo,hs⟩:=harr;exact ⟨.panicked chain,u',w',_,hR,comesIn_wide.2 (show Comes P _ _ (.panicked chain) from hs),J,J,J,hd,fn,hf⟩
 | exit id=>exact hq.elim
 | goto l=>exact hq.elim
 | outgrown =>
  obtain ⟨u',hR⟩:=hq;exact ⟨.outgrown,u',w',b,hR,comesIn_wide.2 (show Comes P _ _ .outgrown from harr.resolve_left (by simp [b])),J,J,trivial⟩
theorem Gu {w:World} {b k:Nat} {cs:List Value} {t:TypeId} {v:Value} (h:w.heap[b]?=some (.cells cs.toArray t (0,0))) (hk:k<cs.length):w.setCell ⟨b,k,none⟩ v=w.setRow b (put cs k [v]).toArray:=by
 unfold World.setCell World.setRow;congr 1;apply Array.ext_getElem?;intro i;rw [Array.getElem?_modify,Array.getElem?_modify];split
 ·rename_i e;subst e;rw [h]
  simp only [Option.map_some,Option.isSome_none,Bool.false_eq_true,if_false]
  have:cs.toArray.setIfInBounds k v=(put cs k [v]).toArray:=by
   simp only [List.setIfInBounds_toArray,put];congr 1;rw [List.set_eq_take_append_cons_drop];simp [hk]
  rw [this]
 ·rfl
def dc0 (f:FuncId):Bool:=Nat.beq f 119 || Nat.beq f 110 || Nat.beq f 102 || Nat.beq f 126
section
set_option maxRecDepth 4000
theorem idleS (p:Addr) (x:Value) (w:World) (hc:w.cell? p=some x) (hz:w.frozen? p=false) :
  CallsDIn (Wz none) 0 Tryz.prog 119 #[.pointer (some p)] .returning w fun e u' w'=>e=.returned (.tuple #[])/\u'=.returning/\w'=w.setCell p .nilIface:=by
 refine Im Tryz.func119 J fun c₀ cs hu=>?_;apply wpS_region;simp [wpOpsS,go_sem,recoverD,hu,Tryz.ntmps119,hc,hz,bodyPostS,results,Tryz.results119];cases c₀;simp_all
theorem idleC (p:Addr) (x:Value) (w:World) (hc:w.cell? p=some x) (hz:w.frozen? p=false) :
  CallsDIn (Wz none) 0 Tryz.prog 110 #[.pointer (some p)] .returning w fun e u' w'=>e=.returned (.tuple #[])/\u'=.returning/\w'=w.setCell p .nilIface:=by
 refine Im Tryz.func110 J fun c₀ cs hu=>?_;apply wpS_region;simp [wpOpsS,go_sem,recoverD,hu,Tryz.ntmps110,hc,hz,bodyPostS,results,Tryz.results110];cases c₀;simp_all
theorem idleB (p:Addr) (x:Value) (w:World) (hc:w.cell? p=some x) (hz:w.frozen? p=false) :
  CallsDIn (Wz none) 0 Tryz.prog 102 #[.pointer (some p)] .returning w fun e u' w'=>e=.returned (.tuple #[])/\u'=.returning/\w'=w.setCell p .nilIface:=by
 refine Im Tryz.func102 J fun c₀ cs hu=>?_;apply wpS_region;simp [wpOpsS,go_sem,recoverD,hu,Tryz.ntmps102,hc,hz,bodyPostS,results,Tryz.results102];cases c₀;simp_all
theorem idleR (p:Addr) (x:Value) (w:World) (hc:w.cell? p=some x) (hz:w.frozen? p=false) :
  CallsDIn (Wz none) 0 Tryz.prog 126 #[.pointer (some p)] .returning w fun e u' w'=>e=.returned (.tuple #[])/\u'=.returning/\w'=w.setCell p .nilIface:=by
 refine Im Tryz.func126 J fun c₀ cs hu=>?_;apply wpS_region;simp [wpOpsS,go_sem,recoverD,hu,Tryz.ntmps126,hc,hz,bodyPostS,results,Tryz.results126];cases c₀;simp_all
end
theorem F7 {f:FuncId} {fn:Func} (hf:Tryz.prog.funcs[f]?=some fn) (hb:fn.body.isNone=false) (h:∀ (p:Addr) (x:Value) (w:World),w.cell? p=some x->w.frozen? p=false->CallsDIn (Wz none) 0 Tryz.prog f #[.pointer (some p)] .returning w fun e u' w'=>e=.returned (.tuple #[])/\u'=.returning/\w'=w.setCell p .nilIface) :
  (∃ fn,Tryz.prog.funcs[f]?=some fn/\fn.body.isNone=false)/\∀ (w:World) (b k:Nat) (cs:List Value) (t:TypeId),w.heap[b]?=some (.cells cs.toArray t (0,0))->k<cs.length ->
   CallsDIn (Wz none) 0 Tryz.prog f #[.pointer (some ⟨b,k,none⟩)] .returning w fun e u w'=>(∃ v,e=.returned v)/\u=.returning/\w'=w.setRow b (put cs k [.nilIface]).toArray :=
 ⟨⟨fn,hf,hb⟩,fun w b k cs t hw hk=>by
  refine (h ⟨b,k,none⟩ (cs[k]) w ?_ ?_).mono ?_
  ·unfold World.cell?;simp only;rw [hw];simp [hk]
  ·unfold World.frozen?;simp only;rw [hw];simp
  ·rintro e u w' ⟨rfl,rfl,rfl⟩;exact ⟨⟨_,J⟩,J,Gu hw hk⟩⟩
theorem Zii:DcOk Tryz.prog dc0:=by
 intro f hf;unfold dc0 at hf;simp only [Bool.or_eq_true] at hf;rcases hf with ((hf | hf) | hf) | hf<;>(have:=Nat.eq_of_beq_eq_true hf;subst this)
 ·exact F7 Tryz.func119 (by kernel_rfl) idleS
 ·exact F7 Tryz.func110 (by kernel_rfl) idleC
 ·exact F7 Tryz.func102 (by kernel_rfl) idleB
 ·exact F7 Tryz.func126 (by kernel_rfl) idleR
theorem Xy:Tryz.prog.follows .mixedOrders=true:=by kernel_rfl
theorem Z6:Sm Tryz.prog:=by
 have h:Tryz.prog.funcs.toList.all (fun fn => !(fn.name=="runtime.NumGoroutine"))=true:=by kernel_rfl
 intro f fn hf;have:=List.all_eq_true.1 h fn (List.mem_of_getElem? (by rw [<- Array.getElem?_toList] at hf;exact hf))
 simpa using this
end S
namespace S
open Go Go.RowKit E
abbrev iV (n:Int):SV:=.ifc 3 (Zi n)
section
set_option maxRecDepth 10000
variable {f s N ln:Nat} {a0 a1 a2 a3 a5 a6 v:SV} {c:List SV}
theorem Nw {tt:Nat} {x:SV} (hl:c.length=ln) (hbd:ln<=50000) :
  HF Tryz.prog 287 [.ptr f 0,.ifc tt x] N [(f,.cells [a0,a1,a2,a3,.sl s 0 ln 0,a5,a6]),(s,.row 366 1 ln c)] fun u N' H'=>u=.tup []/\N'=N+2/\H'=[(f,.cells [a0,a1,a2,a3,.sl (N+1) 0 (ln+1) 0,a5,a6]),(N+1,.row 366 1 (ln+1) (c++[.ifc tt x]))]:=by
 refine hf1 Tryz.func287 J Tryz.ntmps287 fun _ _ _ _=>?_;refine Z0 (Z9 7 [0] [(4,Zq f 0),(8,Zk s 0 ln 0),(10,Zk N 0 1 0)] [] (N+1) [(N,Zw 366 1 1 [SV.ifc tt (x)])] [] (Ln (i:=2) (i':=0) (e:=366) (sz:=1) (by_:=16) (js:=[1]) (cc:=(c++[SV.ifc tt x])) _ (by kernel_rfl) (by kernel_rfl) J J J J J J J (by decide) J (by omega) J J (by omega) (by omega) J (Zul hl _) J ?_));refine Z9 3 [1] [] [] (N+2) [] [(1,Zc [a0,a1,a2,a3,Zk (N+1) 0 (ln+1) 0,a5,a6])] (Yn (Yo [1,0] (.inl J) Z6 J (by decide) ?_));exact ⟨J,J,J⟩
theorem lay_nil {tt:Nat} {x:SV} :
  HF Tryz.prog 287 [.ptr f 0,.ifc tt x] N [(f,.cells [a0,a1,a2,a3,Zz,a5,a6])] fun u N' H'=>u=.tup []/\N'=N+2/\H'=[(f,.cells [a0,a1,a2,a3,.sl (N+1) 0 1 0,a5,a6]),(N+1,.row 366 1 1 [.ifc tt x])]:=by
 refine hf1 Tryz.func287 J Tryz.ntmps287 fun _ _ _ _=>?_;refine Z0 (Z9 7 [0] [(4,Zq f 0),(8,Zz),(10,Zk N 0 1 0)] [] (N+1) [(N,Zw 366 1 1 [SV.ifc tt (x)])] [] (Gl (i':=0) (e:=366) (sz:=1) (by_:=16) (cc:=[SV.ifc tt (x)]) [2] _ (by kernel_rfl) (by kernel_rfl) J J J J J J J J (by omega) (by omega) J (J) (by decide) J ?_));refine Z9 3 [1] [] [] (N+2) [] [(1,Zc [a0,a1,a2,a3,Zk (N+1) 0 1 0,a5,a6])] (Yn (Yo [1,0] (.inl J) Z6 J (by decide) ?_));exact ⟨J,J,J⟩
theorem Jq {m k:Nat} (hl:ln<=k) (hbd:ln<=50000) (hm:m<=ln) (hm0:0<m) :
  HF Tryz.prog 307 [.ptr f 0,Zn m] N [(f,.cells [a0,a1,a2,a3,.sl s 0 ln 0,a5,a6]),(s,.row 366 1 k c)] fun u N' H'=>u=.sl s (ln - m) m (ln - m)/\N'=N/\H'=[(f,.cells [a0,a1,a2,a3,.sl s 0 (ln - m) 0,a5,a6]),(s,.row 366 1 k c)]:=by
 refine hf1 Tryz.func307 J Tryz.ntmps307 fun _ _ _ _=>?_;refine Zu (Zg 1 [] [(4,Zz)] [] (Yh (Zg 6 [0] [(11,Zn ln),(12,Zn m)] [] (Ya (v:=Zn (ln - m)) J (R9 J J J (by omega) (by omega)) J ?_))));refine Zg 1 [] [(5,Zn (ln - m))] [] (Yh (Zg 5 [0] [(17,Zk s 0 ln 0),(18,Zn (ln - m))] [] (HL_from (i:=1) (e:=366) (sz:=1) (k:=k) (m:=(ln - m)) J J (by kernel_rfl) (by kernel_rfl) J J J J (by omega) (by omega) (by omega) J ?_)));refine Zg 1 [] [(6,Zk s (0+(ln - m)*1) (ln - (ln - m)) (0+(ln - m)))] [] (Yh (Zg 6 [0] [(20,Zq f 0),(24,Zk s 0 ln 0),(25,Zn (ln - m))] [] (HL_upto (i:=1) (e:=366) (sz:=1) (k:=k) (m:=(ln - m)) J J (by kernel_rfl) (by kernel_rfl) J J J J (by omega) J ?_)));refine Z9 3 [0] [] [] N [] [(0,Zc [a0,a1,a2,a3,Zk s 0 (ln - m) 0,a5,a6])] (Yh (Zg 2 [] [(4,Zk s (0+(ln - m)*1) (ln - (ln - m)) (0+(ln - m)))] [] (Zv (Yv (Yo [0,1] (.inr J) Z6 J (by decide) ?_)))));refine ⟨?_,J,J⟩;show Zk _ _ _ _=_;rw [Nat.zero_add,Nat.zero_add,Nat.mul_one,Nat.sub_sub_self hm]
theorem at_end (hl:c.length=ln) (v:SV):(c++[v])[ln+0*1]?=some v:=by subst hl;simp
theorem I4 (hl:c.length=ln) (d:List SV):(c++d).take (ln*1)=c:=by subst hl;simp
theorem Em (hl:c.length=ln) (hbd:ln+1<=50000) :
  HF Tryz.prog 288 [.ptr f 0] N [(f,.cells [a0,a1,a2,a3,.sl s 0 (ln+1) 0,a5,a6]),(s,.row 366 1 (ln+1) (c++[v]))] fun u N' H'=>u=v/\N'=N/\H'=[(f,.cells [a0,a1,a2,a3,.sl s 0 ln 0,a5,a6]),(s,.row 366 1 ln c)]:=by
 refine hf1 Tryz.func288 J Tryz.ntmps288 fun _ _ _ _=>?_;refine Zu (Zg 1 [] [(2,Zf)] [] (Yh (Zg 1 [] [(3,Zq f 0)] [] (Yl [0,1] [1,0] Z6 J J J J (Jq (m:=1) (Nat.le_refl _) hbd (by omega) (by omega)) J ?_))));refine Ya (v:=.ptr s (ln+0*1)) J (W0 J J J (by kernel_rfl) (by omega)) J ?_;refine Vx (i:=1) (v:=v) J J J J (Qv (by kernel_rfl) (at_end hl v)) J ?_;refine Zg 1 [] [(2,v)] [] (Zv (Yv (Gj (i:=1) (k':=ln) (c2:=c) [(f,.cells [a0,a1,a2,a3,Zk s 0 ln 0,a5,a6]),(s,.row 366 1 ln c)] J (by omega) (I4 hl _) J ?_)));refine Yo [0,1] (.inr J) Z6 J (by decide) ?_;exact ⟨J,J,J⟩
theorem Zcy {x:Int} (hl:c.length=ln) (hbd:ln+1<=50000) :
  HF Tryz.prog 294 [.ptr f 0] N [(f,.cells [a0,a1,a2,a3,.sl s 0 (ln+1) 0,a5,a6]),(s,.row 366 1 (ln+1) (c++[.ifc 3 (Zi x)]))] fun u N' H'=>u=Zi x/\N'=N/\H'=[(f,.cells [a0,a1,a2,a3,.sl s 0 ln 0,a5,a6]),(s,.row 366 1 ln c)]:=by
 refine hf1 Tryz.func294 J Tryz.ntmps294 fun _ _ _ _=>?_;refine Zu (Zg 1 [] [(2,Zi 0)] [] (Yh (Zg 1 [] [(3,Zq f 0)] [] (Yl [0,1] [1,0] Z6 J J J J (Em hl hbd) J (Zg 2 [] [(2,Zi x)] [] (Zv (Yv (Yo [0,1] (.inr J) Z6 J (by decide) ?_))))))));exact ⟨J,J,J⟩
theorem at_end2 (hl:c.length=ln) (v u:SV):(c++[v,u])[ln+0*1]?=some v:=by subst hl;simp
theorem at_end3 (hl:c.length=ln) (v u:SV):(c++[v,u])[ln+1*1]?=some u:=by subst hl;simp
theorem Nq {x y:Int} (hl:c.length=ln) (hbd:ln+2<=50000) :
  HF Tryz.prog 291 [.ptr f 0] N [(f,.cells [a0,a1,a2,a3,.sl s 0 (ln+2) 0,a5,a6]),(s,.row 366 1 (ln+2) (c++[.ifc 3 (Zi x),.ifc 3 (Zi y)]))] fun u N' H'=>u=.tup [Zi x,Zi y]/\N'=N/\H'=[(f,.cells [a0,a1,a2,a3,.sl s 0 ln 0,a5,a6]),(s,.row 366 1 ln c)]:=by
 refine hf1 Tryz.func291 J Tryz.ntmps291 fun _ _ _ _=>?_;refine Zu (Zg 2 [] [(2,Zi 0),(3,Zi 0)] [] (Yh (Zg 1 [] [(5,Zq f 0)] [] (Yl [0,1] [1,0] Z6 J J J J (Jq (m:=2) (Nat.le_refl _) hbd (by omega) (by omega)) J ?_))));refine Zg 1 [] [(4,Zk s ln 2 ln)] [] (Yi ?_)
 refine W3 [.sl s ln 2 ln,.ptr s (ln+0*1),.ifc 3 (Zi x),Zi x,.sl s ln 2 ln,.ptr s (ln+1*1),.ifc 3 (Zi y),Zi y,Zi x,Zi y] [] [] [] [(2,Zi x),(3,Zi y)] [] [1,2,5,6] Xy
  trivial
  ⟨X6 fun _ _=>Y4 rfl (W0 rfl rfl rfl (by kernel_rfl) (by omega)),(Ws (fun _ hGG=>Yg rfl rfl rfl (hGG.get (i:=1) rfl) (Qv (by kernel_rfl) (at_end2 hl _ _))) trivial),X6 fun _ _=>Y4 rfl (W0 rfl rfl rfl (by kernel_rfl) (by omega)),(Ws (fun _ hGG=>Yg rfl rfl rfl (hGG.get (i:=1) rfl) (Qv (by kernel_rfl) (at_end3 hl _ _))) trivial),trivial⟩ rfl ?_
 refine Z2 (Yv (Gj (i:=1) (k':=ln) (c2:=c) [(f,.cells [a0,a1,a2,a3,Zk s 0 ln 0,a5,a6]),(s,.row 366 1 ln c)] J (by omega) (I4 hl _) J ?_));refine Yo [0,1] (.inr J) Z6 J (by decide) ?_;exact ⟨J,J,J⟩
end
end S
namespace S
open Go Go.RowKit E
section
set_option maxRecDepth 10000
variable {mc f s N ln lo:Nat} {a0 a1 a2 a3 a5 a6 v:SV} {c d:List SV} {x y n:Int}
theorem op_add:HF Tryz.prog 204 [Zi x,Zi y] N [] fun u N' H'=>u=Zi (Jd .i64 x y)/\N'=N/\H'=[]:=by
 refine hf1 Tryz.func204 J Tryz.ntmps204 fun _ _ _ _=>?_;refine Zu (Zg 1 [] [(4,Zi 0)] [] (Yh (Zg 4 [] [(4,Zi (Jd .i64 x y))] [] (Zv (Yv (Yo [] (.inr J) Z6 J (by decide) ?_))))));exact ⟨J,J,J⟩
theorem op_sub:HF Tryz.prog 205 [Zi x,Zi y] N [] fun u N' H'=>u=Zi (Jc .i64 x y)/\N'=N/\H'=[]:=by
 refine hf1 Tryz.func205 J Tryz.ntmps205 fun _ _ _ _=>?_;refine Zu (Zg 1 [] [(4,Zi 0)] [] (Yh (Zg 4 [] [(4,Zi (Jc .i64 x y))] [] (Zv (Yv (Yo [] (.inr J) Z6 J (by decide) ?_))))));exact ⟨J,J,J⟩
theorem op_mul:HF Tryz.prog 206 [Zi x,Zi y] N [] fun u N' H'=>u=Zi (IntKind.i64.wrap (x*y))/\N'=N/\H'=[]:=by
 refine hf1 Tryz.func206 J Tryz.ntmps206 fun _ _ _ _=>?_;refine Zu (Zg 1 [] [(4,Zi 0)] [] (Yh (Zg 4 [] [(4,Zi (IntKind.i64.wrap (x*y)))] [] (Zv (Yv (Yo [] (.inr J) Z6 J (by decide) ?_))))));exact ⟨J,J,J⟩
theorem Zqj (hl:c.length=ln) (hbd:ln<=50000) :
  HF Tryz.prog 198 [.ptr mc 0,.ptr f 0,Zi n] N [(f,.cells [a0,a1,a2,a3,.sl s 0 ln 0,a5,a6]),(s,.row 366 1 ln c)] fun u N' H'=>u=Zp/\N'=N+2/\H'=[(f,.cells [a0,a1,a2,a3,.sl (N+1) 0 (ln+1) 0,a5,a6]),(N+1,.row 366 1 (ln+1) (c++[.ifc 3 (Zi n)]))]:=by
 refine hf1 Tryz.func198 J Tryz.ntmps198 fun _ _ _ _=>?_;refine Zu (Zg 1 [] [(6,Zp)] [] (Yh (Zg 3 [] [(7,Zq f 0),(9,SV.ifc 3 (Zi n))] [] (Yl [0,1] [1,0] Z6 J J J J (Nw hl hbd) J (Yh (Zg 1 [] [(6,Zp)] [] (Zv (Yv (Yo [0,1] (.inr J) Z6 J (by decide) ?_)))))))));exact ⟨J,J,J⟩
theorem Zqk :
  HF Tryz.prog 198 [.ptr mc 0,.ptr f 0,Zi n] N [(f,.cells [a0,a1,a2,a3,Zz,a5,a6])] fun u N' H'=>u=Zp/\N'=N+2/\H'=[(f,.cells [a0,a1,a2,a3,.sl (N+1) 0 1 0,a5,a6]),(N+1,.row 366 1 1 [.ifc 3 (Zi n)])]:=by
 refine hf1 Tryz.func198 J Tryz.ntmps198 fun _ _ _ _=>?_;refine Zu (Zg 1 [] [(6,Zp)] [] (Yh (Zg 3 [] [(7,Zq f 0),(9,SV.ifc 3 (Zi n))] [] (Yl [0] [0] Z6 J J J J (lay_nil) J (Yh (Zg 1 [] [(6,Zp)] [] (Zv (Yv (Yo [0,1] (.inr J) Z6 J (by decide) ?_)))))))));exact ⟨J,J,J⟩
theorem nat_at {i:Nat} (h:d[i]?=some v):d[0+i*1]?=some v:=by rw [Nat.zero_add,Nat.mul_one];exact h
theorem Zrn {i t:Nat} {w:SV} {ld:Nat} (hl:c.length=ln) (hbd:ln<=50000) (hi:d[i]?=some (.ifc t w)) (hld:i<ld) :
  HF Tryz.prog 199 [.ptr mc 0,.ptr f 0,Zn i] N [(f,.cells [a0,a1,a2,.sl lo 0 ld 0,.sl s 0 ln 0,a5,a6]),(lo,.row 366 1 ld d),(s,.row 366 1 ln c)] fun u N' H'=>u=Zp/\N'=N+2/\H'=[(f,.cells [a0,a1,a2,.sl lo 0 ld 0,.sl (N+1) 0 (ln+1) 0,a5,a6]),(lo,.row 366 1 ld d),(N+1,.row 366 1 (ln+1) (c++[.ifc t w]))]:=by
 refine hf1 Tryz.func199 J Tryz.ntmps199 fun _ _ _ _=>?_;refine Zu (Zg 1 [] [(6,Zp)] [] (Yh (Zg 6 [0] [(7,Zq f 0),(11,Zk lo 0 ld 0),(12,Zn i)] [] (Ya (v:=.ptr lo (0+i*1)) J (W0 J J J (by kernel_rfl) (by omega)) J ?_))));refine Vx (i:=1) (v:=.ifc t (w)) J J J J (Qv (by kernel_rfl) (nat_at hi)) J ?_;refine Yl [0,2] [2,0] Z6 J J J J (Nw hl hbd) J (Yh (Zg 1 [] [(6,Zp)] [] (Zv (Yv (Yo [0,2,1] (.inr J) Z6 J (by decide) ?_)))));exact ⟨J,J,J⟩
theorem Zmp {i t ld:Nat} {w:SV} (hl:c.length=ln) (hbd:ln+1<=50000) (hd:d.length=ld) (hld:i<ld) :
  HF Tryz.prog 200 [.ptr mc 0,.ptr f 0,Zn i] N [(f,.cells [a0,a1,a2,.sl lo 0 ld 0,.sl s 0 (ln+1) 0,a5,a6]),(lo,.row 366 1 ld d),(s,.row 366 1 (ln+1) (c++[.ifc t w]))] fun u N' H'=>u=Zp/\N'=N/\H'=[(f,.cells [a0,a1,a2,.sl lo 0 ld 0,.sl s 0 ln 0,a5,a6]),(lo,.row 366 1 ld (sput d (0+i*1) [.ifc t w])),(s,.row 366 1 ln c)]:=by
 refine hf1 Tryz.func200 J Tryz.ntmps200 fun _ _ _ _=>?_;refine Zu (Zg 1 [] [(6,Zp)] [] (Yi ?_))
 refine W3 [.ptr f 0,.ptr f 0,.ptr f 3,.sl lo 0 ld 0,Zn i,.ptr f 0,.ifc t (w),.ptr lo (0+i*1),.tup []] [6,8] [(_,_),(_,_)] [0,0] [] [] [7] Xy
  ⟨fun _ _ _ _ _ _ _ kG=>Yl [0,2] [2,0] Z6 rfl rfl rfl rfl (Em hl hbd) rfl kG,fun _ _ _ _ _ _ _ kG=>Mh (i:=2) (m:=1) (c:=[.ifc t (w)]) [(f,.cells [a0,a1,a2,Zk lo 0 ld 0,Zk s 0 ln 0,a5,a6]),(s,.row 366 1 ln c),(lo,.row 366 1 ld (sput d (0+i*1) [SV.ifc t (w)]))] rfl rfl rfl rfl rfl rfl (by kernel_rfl) rfl rfl rfl (by simp only [Br];omega) rfl kG,trivial⟩
  ⟨X6 fun _ _=>Y4 rfl (W0 rfl rfl rfl (by kernel_rfl) (by omega)),trivial⟩ rfl ?_
 refine Xj (Zg 1 [] [(6,Zp)] [] (Zv (Yv (Yo [0,2,1] (.inr J) Z6 J (by decide) ?_))));exact ⟨J,J,J⟩
theorem pop_row {d0:SV} (hl:c.length=ln) (hbd:ln+1<=50000) :
  HF Tryz.prog 201 [.ptr mc 0,.ptr f 0,v] N [(f,.cells [a0,a1,a2,a3,.sl s 0 (ln+1) 0,a5,a6]),(s,.row 366 1 (ln+1) (c++[d0]))] fun u N' H'=>u=Zp/\N'=N/\H'=[(f,.cells [a0,a1,a2,a3,.sl s 0 ln 0,a5,a6]),(s,.row 366 1 ln c)]:=by
 refine hf1 Tryz.func201 J Tryz.ntmps201 fun _ _ _ _=>?_;refine Zu (Zg 1 [] [(6,Zp)] [] (Yh (Zg 1 [] [(7,Zq f 0)] [] (Yl [0,1] [1,0] Z6 J J J J (Em hl hbd) J (Yh (Zg 1 [] [(6,Zp)] [] (Zv (Yv (Yo [0,1] (.inr J) Z6 J (by decide) ?_)))))))));exact ⟨J,J,J⟩
end
end S
namespace S
open Go Go.RowKit E
section
set_option maxRecDepth 10000
variable {mc f s N ln lo wb nm cl:Nat} {a0 a1 a2 a3 a5 a6 v m0 m1 m2 m3 m4 m5 m6 m7 m8 m9 m10 m11 m12 m13 m14 m15 m16:SV} {c d:List SV} {x y n:Int} {nb:ByteArray} {es:List (ByteArray × SV)}
theorem K3 {g:FuncId} {z:Int} (hl:c.length=ln) (hbd:ln+2<=50000) (hg:∀ N,HF Tryz.prog g [Zi x,Zi y] N [] fun u N' H'=>u=Zi z/\N'=N/\H'=[]) :
  HF Tryz.prog 290 [.ptr mc 0,.ptr f 0,v,.ptr wb 0] N [(wb,.cells [.fn g [] []]),(f,.cells [a0,a1,a2,a3,.sl s 0 (ln+2) 0,a5,a6]),(s,.row 366 1 (ln+2) (c++[.ifc 3 (Zi x),.ifc 3 (Zi y)]))] fun u N' H'=>u=Zp/\N'=N+2/\H'=[(wb,.cells [.fn g [] []]),(f,.cells [a0,a1,a2,a3,.sl (N+1) 0 (ln+1) 0,a5,a6]),(N+1,.row 366 1 (ln+1) (c++[.ifc 3 (Zi z)]))]:=by
 refine hf1 Tryz.func290 J Tryz.ntmps290 fun _ _ _ _=>?_;refine Zu (Zg 1 [] [(7,Zp)] [] (Yi ?_))
 refine W3 [.ptr f 0,.fn g [] [],.ptr f 0,.tup [Zi x,Zi y],Zi x,Zi y,Zi z,.ifc 3 (Zi z),.tup []] [3,6,8] [(_,_),(_,_),(_,_)] [0,2] [] [] [] Xy
  ⟨fun _ _ _ _ _ _ _ kG=>Yl [1,2] [2,1] Z6 rfl rfl rfl rfl (Nq hl hbd) rfl kG,fun _ _ _ _ _ _ _ kG=>Yl [] [] Z6 rfl rfl rfl rfl (hg _) rfl kG,fun _ _ _ _ _ _ _ kG=>Yl [0,1] [1,0] Z6 rfl rfl rfl rfl (Nw hl (by omega)) rfl kG,trivial⟩
  trivial rfl ?_
 refine Xj (Zg 1 [] [(7,Zp)] [] (Zv (Yv (Yo [2,0,1] (.inr J) Z6 J (by decide) ?_))));exact ⟨J,J,J⟩
theorem Bm (hf:findS nb es=some (.ifc 323 (.agg [.ptr cl 0]))) :
  HF Tryz.prog 239 [.ptr mc 0,Zs nb] N [(mc,.cells [m0,m1,m2,m3,m4,m5,m6,m7,m8,.mp nm,m10,m11,m12,m13,m14,m15,m16]),(nm,.map es)] fun u N' H'=>u=.ptr cl 0/\N'=N+1/\H'=[(mc,.cells [m0,m1,m2,m3,m4,m5,m6,m7,m8,.mp nm,m10,m11,m12,m13,m14,m15,m16]),(nm,.map es)]:=by
 refine hf1 Tryz.func239 J Tryz.ntmps239 fun _ _ _ _=>?_;refine Zu (Zg 1 [] [(4,Zp)] [] (Yi (Zu (Zg 5 [0] [(9,SV.mp nm),(10,Zs nb)] [] ?_))));refine Zcn (i:=1) (e:=325) (z:=.nilIface) (v:=.ifc 323 (.agg [.ptr cl 0])) J J (by kernel_rfl) (by kernel_rfl) J J J (fun _ h=>by cases h<;>rfl) J (by rw [hf];rfl) rfl ?_;refine Zv (Ye (Zu (Zg 3 [] [(13,Zb true),(14,SV.agg [Zq cl 0])] [] (Zv (Xr J (Zu (Z9 2 [0] [(5,Zq N 0)] [] (N+1) [(N,Zc [Zq cl 0])] [] (Yh (Zg 3 [0] [(4,Zq cl 0)] [] (Zv (Yv (We (Xm (Yo [1,2] (.inr J) Z6 J (by decide) ?_))))))))))))));exact ⟨J,J,J⟩
theorem Znu (hf:findS nb es=some (.ifc 323 (.agg [.ptr cl 0]))) :
  HF Tryz.prog 292 [.ptr mc 0,Zs nb] N [(mc,.cells [m0,m1,m2,m3,m4,m5,m6,m7,m8,.mp nm,m10,m11,m12,m13,m14,m15,m16]),(nm,.map es)] fun u N' H'=>u=.ptr (N+1) 0/\N'=N+2/\H'=[(mc,.cells [m0,m1,m2,m3,m4,m5,m6,m7,m8,.mp nm,m10,m11,m12,m13,m14,m15,m16]),(nm,.map es),(N+1,.cells [.ptr cl 0,Zz])]:=by
 refine hf1 Tryz.func292 J Tryz.ntmps292 fun _ _ _ _=>?_;refine Zu (Zg 1 [] [(4,Zp)] [] (Yh (Zg 2 [] [(5,Zq mc 0),(6,Zs nb)] [] (Yl [0,1] [1,0] Z6 J J J J (Bm hf) J (Z9 3 [] [(4,Zq (N+1) 0)] [] (N+2) [((N+1),Zc [Zq cl 0,Zz])] [] (Zv (Yv (Yo [1,2,0] (.inr J) Z6 J (by decide) ?_))))))));exact ⟨J,J,J⟩
theorem Zrd {E:SE} {o:Oper} {t t':Nat} {p q:Operand} (ho:o.op=.binOp .quo t p q t') (hx:sev E p=some (Zi x)) (hy:sev E q=some (Zi y)) (h:y≠0):noD Tryz.prog E bare o=some (Zi (IntKind.i64.wrap (x.tdiv y))):=by
 have e1:clov E p=some (.int .i64 x):=by unfold clov;rw [hx];rfl
 have e2:clov E q=some (.int .i64 y):=by unfold clov;rw [hy];rfl
 unfold noD act;rw [ho];simp only [hx,hy,exBin,Rq,exPlain];have hop:o.op.operands.toList=[p,q]:=by rw [ho];rfl
 rw [hop,ho];simp only [List.all_cons,List.all_nil,e1,e2,Option.isSome_some,Bool.and_self,noSel,cond_true]
 have:plain Tryz.prog (execOp (fun x=>(clov E x).getD undef) o)=some (.value (.int .i64 (IntKind.i64.wrap (x.tdiv y)))):=by
  simp only [execOp,ho];rw [e1,e2]
  show plain Tryz.prog (do
   eqGuard BinOp.quo t p q (Value.int IntKind.i64 x) (Value.int IntKind.i64 y)
   Next.value <$> binOp BinOp.quo t (Value.int IntKind.i64 x) (Value.int IntKind.i64 y))=_
  have hb:binOp BinOp.quo t (Value.int IntKind.i64 x) (Value.int IntKind.i64 y)=pure (.int .i64 (IntKind.i64.wrap (x.tdiv y))):=by simp [binOp,Op.intDiv,h]
  rw [hb];rfl
 rw [this];rfl
theorem Zig (hl:c.length=ln) (hbd:ln+2<=50000) (hy:y≠0) :
  HF Tryz.prog 207 [.ptr mc 0,.ptr f 0,v] N [(f,.cells [a0,a1,a2,a3,.sl s 0 (ln+2) 0,a5,a6]),(s,.row 366 1 (ln+2) (c++[.ifc 3 (Zi x),.ifc 3 (Zi y)]))] fun u N' H'=>u=Zp/\N'=N+2/\H'=[(f,.cells [a0,a1,a2,a3,.sl (N+1) 0 (ln+1) 0,a5,a6]),(N+1,.row 366 1 (ln+1) (c++[.ifc 3 (Zi (IntKind.i64.wrap (x.tdiv y)))]))]:=by
 refine hf1 Tryz.func207 J Tryz.ntmps207 fun _ _ _ _=>?_;refine Zu (Zg 1 [] [(6,Zp)] [] (Yh (Zg 1 [] [(10,Zq f 0)] [] (Yl [0,1] [1,0] Z6 J J J J (Nq hl hbd) J (Zg 5 [] [(7,Zi x),(8,Zi y)] [] (Yi (Zu (Zg 2 [] [(15,SV.v (.bool (ieq y 0)))] [] (Zv (Tx J (Bool.eq_false_iff.2 fun h=>hy (Q3.1 h)) ?_))))))))));refine Yp (Xj (Zg 3 [] [(18,Zq f 0),(19,Zi x),(20,Zi y)] [] (Ya (v:=Zi (IntKind.i64.wrap (x.tdiv y))) J (Zrd J J J hy) J (Zg 1 [] [(22,SV.ifc 3 (Zi (IntKind.i64.wrap (x.tdiv y))))] [] (Yl [0,1] [1,0] Z6 J J J J (Nw hl (by omega)) J ?_)))));refine Yh (Zg 1 [] [(6,Zp)] [] (Zv (Yv (Yo [0,1] (.inr J) Z6 J (by decide) ?_))));exact ⟨J,J,J⟩
def Xk:ByteArray:=⟨#[65,114,105,116,104]⟩
theorem Zfq (hl:c.length=ln) (hbd:ln+2<=50000) (hf:findS Xk es=some (.ifc 323 (.agg [.ptr cl 0]))) :
  HF Tryz.prog 207 [.ptr mc 0,.ptr f 0,v] N [(mc,.cells [m0,m1,m2,m3,m4,m5,m6,m7,m8,.mp nm,m10,m11,m12,m13,m14,m15,m16]),(nm,.map es),(f,.cells [a0,a1,a2,a3,.sl s 0 (ln+2) 0,a5,a6]),(s,.row 366 1 (ln+2) (c++[.ifc 3 (Zi x),.ifc 3 (Zi 0)]))] fun u N' H'=>u=.ptr (N+1) 0/\N'=N+2/\H'=[(mc,.cells [m0,m1,m2,m3,m4,m5,m6,m7,m8,.mp nm,m10,m11,m12,m13,m14,m15,m16]),(nm,.map es),(f,.cells [a0,a1,a2,a3,.sl s 0 ln 0,a5,a6]),(s,.row 366 1 ln c),(N+1,.cells [.ptr cl 0,Zz])]:=by
 refine hf1 Tryz.func207 J Tryz.ntmps207 fun _ _ _ _=>?_;refine Zu (Zg 1 [] [(6,Zp)] [] (Yh (Zg 1 [] [(10,Zq f 0)] [] (Yl [2,3] [3,2] Z6 J J J J (Nq hl hbd) J (Zg 5 [] [(7,Zi x),(8,Zi 0)] [] (Yi (Zu (Zg 2 [] [(15,Zb true)] [] (Zv (Xr J (Zu (Zg 1 [] [(16,Zq mc 0)] [] (Yl [2,3] [3,2] Z6 J J J J (Znu hf) J (Zg 1 [] [(6,Zq (N+1) 0)] [] (Zv (Yv (Xm (Yo [0,1,3,4,2] (.inr J) Z6 J (by decide) ?_))))))))))))))))));exact ⟨J,J,J⟩
end
end S
namespace S
open Go Go.RowKit E
section
variable {P:Program} {ops:Array Oper} {i n:Nat} {rest:List Nat} {o:Oper} {a:Act} {w0 w w':World} {F:List Nat} {B:Nm} {E:SE} {D:List SD} {σ:St}
theorem to_skip (ho:ops[i]?=some o) (hw:Region.wanted o (yielded ops a.tmps)=true) (hr:(execOp a.eval o).run P w=.ok .skip w'):Mp P ops (i::rest) a w rest (a.put o.dst undef) w':=by
 intro b k cs hro;have hg:=stepGR_op (P:=P) (b:=b) (k:=k) (cs:=cs) (w:=w) (rest:=rest) ho hw;rw [hro] at hg;have hfin:(b.atR a (.inRegion ops (i::rest)::k)).finish undef=b.atR (a.put o.dst undef) (.inRegion ops rest::k):=by rw [Frame.finish_atR,ho];rfl
 refine .one (fw P _) (step_lone_go ?_);rw [hg,<- hfin,Oper.semAt_none];simp [stepG.apply,hr]
noncomputable def stpV (n:Nat) (E:SE) (o:Oper):Option (SV × St)->Option (SE × St)
 | some (v,τ)=>(putD n E o.dst v).map fun E'=>(E',τ)
 | none=>none
noncomputable def stp1 (n:Nat) (E:SE) (σ:St) (o:Oper):Option Ar->Option (SE × St)
 | some (.val r)=>stpV n E o (lodge σ.n r)
 | _=>none
noncomputable def stpL (P:Program) (n:Nat):List Oper->SE->St->Option (SE × St)
 | [],E,σ=>some (E,σ)
 | o::L,E,σ=>(stp1 n E σ o (act P E σ o)).bind fun q=>stpL P n L q.1 q.2
def Fits (ops:Array Oper):List Nat->List Oper->Prop
 | [],[]=>True
 | i::is,o::L=>(ops[i]?=some o/\o.guard=none)/\Fits ops is L
 | _,_=>False
theorem Zaj:∀ (L:List Oper) (is:List Nat) {E:SE} {σ:St} {B:Nm} {a:Act} {w:World} {E':SE} {σ':St},Fits ops is L->stpL P n L E σ=some (E',σ')->Sx w0 F B σ w->Ags n a E D B ->
  ∃ a' w' B',Mp P ops (is++rest) a w rest a' w'/\Gr σ.n σ'.n B B'/\Sx w0 F B' σ' w'/\Ags n a' E' D B'
 | [],[],E,σ,B,a,w,E',σ',_,h,hs,ha=>by
  cases h;exact ⟨a,w,B,.refl _,Gr.refl _ _,hs,ha⟩
 | o::L,[],E,σ,B,a,w,E',σ',hf,h,hs,ha=>by cases hf
 | [],i::is,E,σ,B,a,w,E',σ',hf,h,hs,ha=>by cases hf
 | o::L,i::is,E,σ,B,a,w,E',σ',hf,h,hs,ha=>by
  obtain ⟨h1,hf⟩:=hf
  ·simp only [stpL] at h;cases hac:act P E σ o with
   | none=>rw [hac] at h;cases h
   | some r =>
    rw [hac] at h;cases r with
    | val r =>
     simp only [stp1] at h;cases hl:lodge σ.n r with
     | none=>rw [hl] at h;cases h
     | some q =>
      obtain ⟨v,τ⟩:=q;rw [hl] at h;simp only [stpV] at h;cases hp:putD n E o.dst v with
      | none=>rw [hp] at h;cases h
      | some E1 =>
       rw [hp] at h;simp only [Option.map_some,Option.bind_some] at h;obtain ⟨x,w1,B1,hr,hpre,hd,hs1⟩:=Dm (Oh hs ha hac) hl;obtain ⟨a',w',B',ht,hg,hs',ha'⟩:=Zaj L is hf h hs1 (Sc (ha.mono hpre.1) hd hp);have hw:Region.wanted o (yielded ops a.tmps)=true:=by unfold Region.wanted;rw [h1.2]
       refine ⟨a',w',B',?_,hpre.trans hg,hs',ha'⟩;rcases hr with hr | ⟨rfl,hr⟩
       ·exact (to_val h1.1 hw hr).trans ht
       ·exact (to_skip h1.1 hw hr).trans ht
    | call g m=>simp only [stp1] at h;cases h
    | dfr x=>simp only [stp1] at h;cases h
def eOf:Option Rs->SE
 | some (.code _ E _ _)=>E
 | _=>[]
def dOf:Option Rs->List SD
 | some (.code _ _ D _)=>D
 | _=>[]
def sOf:Option Rs->St
 | some (.code _ _ _ σ)=>σ
 | some (.val _ σ)=>σ
 | _=>⟨0,.nil⟩
def vOf:Option Rs->SV
 | some (.val v _)=>v
 | _=>.tup []
def nrm:Option Rs->Bool
 | some (.code .normal _ _ _)=>true
 | _=>false
def rtd:Option Rs->Bool
 | some (.code .ret _ _ _)=>true
 | _=>false
def vld:Option Rs->Bool
 | some (.val _ _)=>true
 | _=>false
theorem nrm_ok {q:Option Rs} (h:nrm q=true):q=some (.code .normal (eOf q) (dOf q) (sOf q)):=by
 unfold nrm at h;split at h
 ·rfl
 ·cases h
theorem rtd_ok {q:Option Rs} (h:rtd q=true):q=some (.code .ret (eOf q) (dOf q) (sOf q)):=by
 unfold rtd at h;split at h
 ·rfl
 ·cases h
theorem vld_ok {q:Option Rs} (h:vld q=true):q=some (.val (vOf q) (sOf q)):=by
 unfold vld at h;split at h
 ·rfl
 ·cases h
theorem out0 {hdc:DcOk P (fun _=>false)} (hng:Sm P) {fn:Func} {tmps:Array Value} {σ1:St} {n0:Nat} {v:SV} {x:Value} {ds:List Deferred} (hs:Sx w0 F B σ1 w) (hd:ds=[]) (hx:den B v=some x) (hn:n0=σ1.n) (hr:∀ w',(results fn tmps).run P w'=.ok x w') :
  LeavesInM (Wz none) 0 P fn tmps (fun e w'=>∃ x B',e=.returned x/\Gr n0 σ1.n B B'/\den B' v=some x/\Sx w0 F B' σ1 w') ds .returning w:=by
 subst hd;subst hn;exact Pa hng hdc [] (σ':=σ1) J hs J fun w2 hs2=>⟨x,hr w2,x,B,J,Gr.refl _ _,hx,hs2⟩
end
/-! ### The three -/
noncomputable def xClone:List SV->St->Option (SV × St)
 | [.v (.string s)],σ=>bif Nat.ble s.size 4000000 then some (.v (.string s),σ) else none
 | _,_=>none
noncomputable def xSend:List SV->St->Option (SV × St)
 | [.ptr b 0],σ=>(match σ.get b with
   | some (.cells [.v (.int .i64 x),.v (.int .i64 y),.ch c])=>(match σ.get c with
    | some (.chan cap k)=>bif ieq y x then (bif Nat.blt k cap then some (.tup [],σ.set c (some (.chan cap (k+1)))) else none) else some (.tup [],σ)
    | _=>none)
   | _=>none)
 | _,_=>none
noncomputable def xOut:List SV->St->Option (SV × St)
 | [.ptr b 0],σ=>(match σ.get b with
   | some (.cells [.v (.int .i64 _),.v (.int .i64 _),.ch c])=>(match σ.get c with
    | some (.chan _ 0)=>some (.v (.bool false),σ)
    | _=>none)
   | _=>none)
 | _,_=>none
noncomputable def X0:Ext:=fun f=>bif Nat.beq f 131 then some xClone else bif Nat.beq f 236 then some xSend
 else bif Nat.beq f 352 then some xOut else none
theorem Zfx {args:List SV} {σ σ':St} {v:SV} (h:xClone args σ=some (v,σ')):Ok Tryz.prog (.call 131 args σ) (.val v σ'):=by
 unfold xClone at h;split at h
 ·rename_i s
  cases hb:Nat.ble s.size 4000000 with
  | false=>rw [hb] at h;cases h
  | true =>
   rw [hb] at h;cases h;refine ⟨⟨_,Tryz.func131,by kernel_rfl⟩,fun w0 F B w vs hs hd=>?_⟩;obtain ⟨x,xs,hx,hxs,rfl⟩:=Wr.1 hd;have:=Vj hx;subst this;cases hxs;refine (callsIn_wide.2 (Pf s w (Nat.le_of_ble_eq_true hb))).mono ?_;rintro e w' ⟨rfl,hb'⟩;exact ⟨_,B,J,Gr.refl _ _,J,hs.keep hb'⟩
 ·cases h
end S
namespace S
open Go Go.RowKit E
noncomputable def R0 (k:Nat):Rec:=run Tryz.prog (fun _=>none) (fun _=>false) (drawF Tryz.prog) k
theorem R0_ok (k:Nat):Mo Tryz.prog (R0 k):=Zgw Z6 (none_ok _) (F3 _) (fun _ h=>Zkw Xy Z6 h) k
/-- What the two blocks hold. -/
theorem duo {w0 w:World} {F:List Nat} {B:Nm} {σ:St} (hs:Sx w0 F B σ w) {b c:Nat} {x y:Int} {cap k:Nat} {vs:List Value} (hb:σ.get b=some (.cells [.v (.int .i64 x),.v (.int .i64 y),.ch c])) (hc:σ.get c=some (.chan cap k)) (hd:Xh B [.ptr b 0]=some vs) :
  ∃ p q buf s r,B b=some p/\B c=some q/\vs=[.pointer (some ⟨p.1,0,none⟩)]/\w.heap[q.1]?=some (.chan cap buf false s r false)/\buf.size=k/\Sx w [p.1,q.1] (twoB p q) (two (.cells [.v (.int .i64 x),.v (.int .i64 y),.ch 1]) (.chan cap k)) w:=by
 obtain ⟨v,us,hv,hus,rfl⟩:=Wr.1 hd;cases hus;obtain ⟨p,hp,rfl⟩:=Th hv;obtain ⟨p',hp',hbl,_⟩:=hs.own b _ hb;rw [hp] at hp';cases hp';obtain ⟨q,hq,hcl,_⟩:=hs.own c _ hc;obtain ⟨buf,s,r,hob,hsz⟩:=hcl;obtain ⟨us,t,hus,hobb⟩:=hbl;have hbc:b≠c:=fun e=>by subst e;rw [hb] at hc;cases hc
 refine ⟨p,q,buf,s,r,hp,hq,J,hob,hsz,hs.two hb hc hbc hp hq ?_ ⟨buf,s,r,hob,hsz⟩⟩;refine ⟨us,t,?_,hobb⟩;simp only [Xh,den,hq,Option.map_some] at hus ⊢;exact hus
theorem ags1 {n:Nat} {B:Nm} {p:Nat × Nat} (hn:1<=n) (hp:B 0=some p):Ags n { tmps:=[Value.pointer (some ⟨p.1,0,none⟩)].toArray++Array.replicate (n - [Value.pointer (some ⟨p.1,0,none⟩)].toArray.size) undef,defers:=[] } [(0,.ptr 0 0)] [] B:=by
 refine ⟨⟨by simp only [Array.size_append,Array.size_replicate];omega,fun i v hv=>?_⟩,rfl⟩;rw [Yj] at hv;cases h:Nat.beq i 0 with
 | false=>rw [h] at hv;cases hv
 | true =>
  rw [h] at hv;cases hv;have:=Nat.eq_of_beq_eq_true h;subst this;exact ⟨.pointer (some ⟨p.1,0,none⟩),by simp only [den,hp,Option.map_some],by rw [Array.getElem?_append_left (by simp)];rfl⟩
def A9 (E:SE):SE->Prop
 | []=>True
 | p::r=>slook E p.1=some p.2/\A9 E r
theorem A9.get {E:SE}:∀ {E2:SE},A9 E E2->∀ i v,slook E2 i=some v->slook E i=some v
 | [],_,i,v,h=>by cases h
 | (j,u)::r,ht,i,v,h=>by
  rw [Yj] at h;cases hb:Nat.beq i j with
  | true=>rw [hb] at h;cases h;have:=Nat.eq_of_beq_eq_true hb;subst this;exact ht.1
  | false=>rw [hb] at h;exact ht.2.get i v h
theorem Ags.tells {n:Nat} {a:Act} {E E2:SE} {D:List SD} {B:Nm} (h:Ags n a E D B) (ht:A9 E E2):Ags n a E2 D B:=⟨⟨h.tm.1,fun i v hv=>h.tm.2 i v (ht.get i v hv)⟩,h.df⟩
theorem Zgv {c:Code} {n:Nat} {E E2:SE} {τ:St} {w0 w:World} {F:List Nat} {B:Nm} {a:Act} (hs:Sx w0 F B τ w) (ha:Ags n a E [] B) (k:Nat) (hn:nrm (R0 k (.code false n c E [] τ))=true) (hd:dOf (R0 k (.code false n c E [] τ))=[]) (ht:A9 (eOf (R0 k (.code false n c E [] τ))) E2) :
  c.wpIn (Wz none) 0 Tryz.prog (fun e a' w'=>e=.normal/\∃ B',Gr τ.n (sOf (R0 k (.code false n c E [] τ))).n B B'/\Sx w0 F B' (sOf (R0 k (.code false n c E [] τ))) w'/\Ags n a' E2 [] B') a w:=by
 have h:=R0_ok k _ _ (nrm_ok hn);rw [hd] at h;refine wpIn_mono (h none w0 F B w a J hs ha) ?_;rintro e a' w' ⟨rfl,B',hg,hs',ha'⟩;exact ⟨J,B',hg,hs',ha'.tells ht⟩
theorem run_rt {c:Code} {n:Nat} {E E2:SE} {τ:St} {w0 w:World} {F:List Nat} {B:Nm} {a:Act} (hs:Sx w0 F B τ w) (ha:Ags n a E [] B) (k:Nat) (hn:rtd (R0 k (.code false n c E [] τ))=true) (hd:dOf (R0 k (.code false n c E [] τ))=[]) (ht:A9 (eOf (R0 k (.code false n c E [] τ))) E2) :
  c.wpIn (Wz none) 0 Tryz.prog (fun e a' w'=>e=.ret/\∃ B',Gr τ.n (sOf (R0 k (.code false n c E [] τ))).n B B'/\Sx w0 F B' (sOf (R0 k (.code false n c E [] τ))) w'/\Ags n a' E2 [] B') a w:=by
 have h:=R0_ok k _ _ (rtd_ok hn);rw [hd] at h;refine wpIn_mono (h none w0 F B w a J hs ha) ?_;rintro e a' w' ⟨rfl,B',hg,hs',ha'⟩;exact ⟨J,B',hg,hs',ha'.tells ht⟩
theorem nods {n:Nat} {a:Act} {E:SE} {B:Nm} (h:Ags n a E [] B):a.defers=[]:=by have:=h.df;simp only [Tb,Option.some.injEq] at this;exact this.symm
/-- Back to all the places. -/
theorem Zuk {w0 w w3:World} {F:List Nat} {B B3:Nm} {σ τ3 σ':St} {p q:Nat × Nat} {b c:Nat} {u v:Value} {cap k k':Nat} (hs:Sx w0 F B σ w) (hb:σ.get b=some (.cells [.v u,.v v,.ch c])) (hc:σ.get c=some (.chan cap k)) (hp:B b=some p) (hq:B c=some q)
  (hs3:Sx w [p.1,q.1] B3 τ3 w3) (g0:τ3.get 0=some (.cells [.v u,.v v,.ch 1])) (g1:τ3.get 1=some (.chan cap k')) (b0:B3 0=some p) (b1:B3 1=some q) (hn:σ'.n=σ.n) (hg:∀ i,σ'.get i=if i=c then some (.chan cap k') else σ.get i):Sx w0 F B σ' w3:=by
 obtain ⟨p',hp',⟨us,t,hus,hob⟩,_⟩:=hs3.own 0 _ g0;rw [b0] at hp';cases hp';obtain ⟨q',hq',hcl,_⟩:=hs3.own 1 _ g1;rw [b1] at hq';cases hq';obtain ⟨_,hp2,_,hpF⟩:=hs.own b _ hb;rw [hp] at hp2;cases hp2;obtain ⟨_,hq2,_,hqF⟩:=hs.own c _ hc;rw [hq] at hq2;cases hq2
 have key:∀ (k:Nat) (z:SB),σ'.get k=some z->∃ z',σ.get k=some z':=by
  intro k z hk;rw [hg] at hk;by_cases e:k=c
  ·subst e;exact ⟨_,hc⟩
  ·rw [if_neg e] at hk;exact ⟨z,hk⟩
 refine ⟨hs.low.trans hs3.low (fun x hx=>?_),by rw [hn];exact hs.bd,fun i hi=>?_,fun i sb hi=>?_,fun i j x1 y1 r s hi hj hr hs' e=>?_⟩
 ·simp only [List.mem_cons,List.not_mem_nil,or_false] at hx;rcases hx with rfl | rfl
  ·exact hpF
  ·exact hqF
 ·rw [hn] at hi;refine ⟨(hs.new i hi).1,?_⟩;rw [hg,if_neg (fun e=>by have:=hs.idx hc;omega)];exact (hs.new i hi).2
 ·rw [hg] at hi;by_cases e:i=c
  ·subst e;rw [if_pos rfl] at hi;cases hi;exact ⟨q,hq,hcl,hqF⟩
  ·rw [if_neg e] at hi;by_cases e2:i=b
   ·subst e2;rw [hb] at hi;cases hi;refine ⟨p,hp,⟨us,t,?_,hob⟩,hpF⟩;simp only [Xh,den,b1,hq,Option.map_some] at hus ⊢;exact hus
   ·obtain ⟨r,hr,hk,hF'⟩:=hs.own i sb hi;refine ⟨r,hr,?_,hF'⟩;rw [hs3.low.block r.1 (hs.lt hi hr) (fun hm=>?_)]
    ·exact hk
    ·simp only [List.mem_cons,List.not_mem_nil,or_false] at hm;rcases hm with hm | hm
     ·exact e2 (hs.apart i b _ _ r p hi hb hr hp hm)
     ·exact e (hs.apart i c _ _ r q hi hc hr hq hm)
 ·obtain ⟨z1,hz1⟩:=key i x1 hi;obtain ⟨z2,hz2⟩:=key j y1 hj;exact hs.apart i j z1 z2 r s hz1 hz2 hr hs' e
theorem Ou {σ:St} {c:Nat} {x:SB} (h:σ.get c=some x) (i:Nat):σ.get i=if i=c then some x else σ.get i:=by
 by_cases e:i=c
 ·subst e;rw [if_pos rfl,h]
 ·rw [if_neg e]
def isS:Option (SE × St)->Bool
 | some _=>true
 | none=>false
def stE:Option (SE × St)->SE
 | some q=>q.1
 | none=>[]
def stS:Option (SE × St)->St
 | some q=>q.2
 | none=>⟨0,.nil⟩
theorem Zpf {q:Option (SE × St)} (h:isS q=true):q=some (stE q,stS q):=by
 cases q with
 | none=>cases h
 | some q=>rfl
section
variable {P:Program} {ops:Array Oper} {id n i m:Nat} {rest is:List Nat} {o:Oper} {a:Act} {w0 w:World} {F:List Nat} {B:Nm} {E:SE} {D:List SD} {τ:St} {Q:Exit->Act->World->Prop}
theorem Zdm {ch x:Operand} {c cap k:Nat} (m:Nat) (hr:List.range ops.size=is++[m]) (hf:Fits ops is (ops.toList.take m)) (ho:ops[m]?=some o) (hg:o.guard=none) (hdst:o.dst=none) (hop:o.op=.send ch x)
  (hst:isS (stpL P n (ops.toList.take m) E τ)=true) (hch:sev (stE (stpL P n (ops.toList.take m) E τ)) ch=some (.ch c)) (hc:(stS (stpL P n (ops.toList.take m) E τ)).get c=some (.chan cap k)) (hk:k<cap) (hs:Sx w0 F B τ w) (ha:Ags n a E D B)
  (hQ:∀ a' w' B',Gr τ.n (stS (stpL P n (ops.toList.take m) E τ)).n B B'->Sx w0 F B' ((stS (stpL P n (ops.toList.take m) E τ)).set c (some (.chan cap (k+1)))) w'->Ags n a' (stE (stpL P n (ops.toList.take m) E τ)) D B'->Q .normal a' w'):(Code.region id ops false).wpIn (Wz none) 0 P Q a w:=by
 obtain ⟨a2,w2,B2,ht2,hg2,hs2,ha2⟩:=Zaj (rest:=[m]) _ is hf (Zpf hst) hs ha;obtain ⟨q,hq,⟨buf,s,r,hob,hsz⟩,_⟩:=hs2.own c _ hc;have hev:=ha2.eval hch;simp only [den,hq,Option.map_some,Option.some.injEq] at hev;have hw:Region.wanted o (yielded ops a2.tmps)=true:=by unfold Region.wanted;rw [hg]
 have h3:=to_send (P:=P) (rest:=[]) ho hw hop hev.symm hob (by omega);rw [hdst] at h3;refine Bt (by rw [hr];exact ht2.trans h3) (hQ a2 _ B2 hg2 ?_ ha2);exact hs2.putObj hc hq _ _ ⟨_,_,_,J,by rw [Array.size_push,hsz]⟩
theorem C6 {ch:Operand} {c cap e d:Nat} {z:Value} (hr:List.range ops.size=0::is) (hf:Fits ops is (ops.toList.drop 1)) (ho:ops[0]?=some o) (hg:o.guard=none) (hdst:o.dst=some d) (hd:Nat.blt d n=true) (hop:o.op=.select #[⟨ch,none,e⟩] false) (hz:tZero P e=some z)
  (hch:sev E ch=some (.ch c)) (hc:τ.get c=some (.chan cap 0))
  (hst:isS (stpL P n (ops.toList.drop 1) ((d,.tup [.v (goInt (-1)),.v (.bool false),.v z])::E) τ)=true) (hs:Sx w0 F B τ w) (ha:Ags n a E D B)
  (hQ:∀ a' w' B',Gr τ.n (stS (stpL P n (ops.toList.drop 1) ((d,.tup [.v (goInt (-1)),.v (.bool false),.v z])::E) τ)).n B B'->Sx w0 F B' (stS (stpL P n (ops.toList.drop 1) ((d,.tup [.v (goInt (-1)),.v (.bool false),.v z])::E) τ)) w'->Ags n a' (stE (stpL P n (ops.toList.drop 1) ((d,.tup [.v (goInt (-1)),.v (.bool false),.v z])::E) τ)) D B'->Q .normal a' w'):(Code.region id ops false).wpIn (Wz none) 0 P Q a w:=by
 obtain ⟨q,hq,⟨buf,s,r,hob,hsz⟩,_⟩:=hs.own c _ hc;have hbuf:buf=#[]:=Array.eq_empty_of_size_eq_zero hsz;subst hbuf;have hev:=ha.eval hch;simp only [den,hq,Option.map_some,Option.some.injEq] at hev;have hw:Region.wanted o (yielded ops a.tmps)=true:=by unfold Region.wanted;rw [hg]
 have h3:=Zmk (P:=P) (rest:=is) ho hw hop hz hev.symm hob;rw [hdst] at h3;obtain ⟨a2,w2,B2,ht2,hg2,hs2,ha2⟩:=Zaj (rest:=[]) _ is hf (Zpf hst) hs (ha.put hd (v:=.tup [.v (goInt (-1)),.v (.bool false),.v z]) (x:=.tuple #[goInt (-1),.bool false,z]) rfl);rw [List.append_nil] at ht2;exact Bt (by rw [hr];exact h3.trans ht2) (hQ a2 w2 B2 hg2 hs2 ha2)
end
section
set_option maxRecDepth 10000
theorem Zjm {args:List SV} {σ σ':St} {v:SV} (h:xSend args σ=some (v,σ')):Ok Tryz.prog (.call 236 args σ) (.val v σ'):=by
 unfold xSend at h;split at h
 ·rename_i b
  split at h
  ·rename_i x y c hb
   split at h
   ·rename_i cap k hc
    refine ⟨⟨_,Tryz.func236,by kernel_rfl⟩,fun w0 F B w vs hs hd=>?_⟩;obtain ⟨p,q,buf,s,r,hp,hq,rfl,hob,hsz,hs2⟩:=duo hs hb hc hd;refine callsIn_of_wp_marks Tryz.func236 J trivial ?_;have hag:=ags1 (n:=16) (B:=twoB p q) (p:=p) (by omega) rfl;rw [Tryz.ntmps236];refine wpIn_seq ?_;refine wpIn_mono (Zgv (E2:=[(0,.ptr 0 0),(10,.v (.bool (ieq y x)))]) hs2 hag 20 (by kernel_rfl) (by kernel_rfl) ⟨by kernel_rfl,by kernel_rfl,trivial⟩) ?_;rintro e a1 w1 ⟨rfl,B1,hg1,hs1,ha1⟩;show Code.wpIn _ _ _ _ _ _ _;have hev:=(Vj (ha1.eval (x:=.tmp 10) rfl));refine wpIn_cond_split hev (fun ht=>?_) (fun ht=>?_)
    ·rw [ht] at h;simp only [cond_true] at h;cases hk:Nat.blt k cap with
     | false=>rw [hk] at h;cases h
     | true =>
      rw [hk] at h;cases h;refine Zdm (is:=[0,1,2,3,4]) (c:=1) (cap:=cap) (k:=k) 5 J ⟨⟨J,J⟩,⟨J,J⟩,⟨J,J⟩,⟨J,J⟩,⟨J,J⟩,trivial⟩ J J J J (by kernel_rfl) (by kernel_rfl) (by kernel_rfl) (by simpa using hk) hs1 ha1 ?_;intro a2 w2 B2 hg2 hs3 ha2;show LeavesInM _ _ _ _ _ _ _ _ _;have hb0:B2 0=some p:=(hg1.trans hg2).2.2 0 (.inl (by show 0<2;omega));have hb1:B2 1=some q:=(hg1.trans hg2).2.2 1 (.inl (by show 1<2;omega));exact out0 (hdc:=F3 _) Z6 (Zuk hs hb hc hp hq hs3 (by kernel_rfl) (by kernel_rfl) hb0 hb1 J (fun i=>σ.get_set (hs.idl hc) i _)) (nods ha2) (x:=.tuple #[]) J J (fun w'=>by kernel_rfl)
    ·rw [ht] at h;cases h;refine wpIn_skip ?_;show LeavesInM _ _ _ _ _ _ _ _ _;have hb0:B1 0=some p:=hg1.2.2 0 (.inl (by show 0<2;omega));have hb1:B1 1=some q:=hg1.2.2 1 (.inl (by show 1<2;omega));exact out0 (hdc:=F3 _) Z6 (Zuk hs hb hc hp hq hs1 (by kernel_rfl) (by kernel_rfl) hb0 hb1 J (Ou hc)) (nods ha1) (x:=.tuple #[]) J J (fun w'=>by kernel_rfl)
   ·cases h
  ·cases h
 ·cases h
end
end S
namespace S
open Go Go.RowKit E
section
set_option maxRecDepth 10000
theorem Zqp {args:List SV} {σ σ':St} {v:SV} (h:xOut args σ=some (v,σ')):Ok Tryz.prog (.call 352 args σ) (.val v σ'):=by
 unfold xOut at h;split at h
 ·rename_i b
  split at h
  ·rename_i x y c hb
   split at h
   ·rename_i cap hc
    cases h;refine ⟨⟨_,Tryz.func352,by kernel_rfl⟩,fun w0 F B w vs hs hd=>?_⟩;obtain ⟨p,q,buf,s,r,hp,hq,rfl,hob,hsz,hs2⟩:=duo hs hb hc hd;refine callsIn_of_wp_marks Tryz.func352 J trivial ?_;have hag:=ags1 (n:=10) (B:=twoB p q) (p:=p) (by omega) rfl;rw [Tryz.ntmps352];refine wpIn_seq ?_;refine wpIn_mono (Zgv (E2:=[(0,.ptr 0 0)]) hs2 hag 20 (by kernel_rfl) (by kernel_rfl) ⟨by kernel_rfl,trivial⟩) ?_;rintro e a1 w1 ⟨rfl,B1,hg1,hs1,ha1⟩;show Code.wpIn _ _ _ _ _ _ _;refine wpIn_seq ?_;refine wpIn_mono (Zgv (E2:=[(6,.ch 1)]) hs1 ha1 20 (by kernel_rfl) (by kernel_rfl) ⟨by kernel_rfl,trivial⟩) ?_;rintro e a2 w2 ⟨rfl,B2,hg2,hs3,ha2⟩;show Code.wpIn _ _ _ _ _ _ _;refine wpIn_seq ?_;refine C6 (is:=[1,2]) (c:=1) (cap:=cap) (d:=7) J ⟨⟨J,J⟩,⟨J,J⟩,trivial⟩ J J J J J (z:=.agg #[]) (by kernel_rfl) J (by kernel_rfl) (by kernel_rfl) hs3 ha2 ?_;intro a3 w3 B3 hg3 hs4 ha3;show Code.wpIn _ _ _ _ _ _ _;refine wpIn_mono (run_rt (E2:=[(2,.v (.bool false))]) hs4 ha3 20 (by kernel_rfl) (by kernel_rfl) ⟨by kernel_rfl,trivial⟩) ?_;rintro e a4 w4 ⟨rfl,B4,hg4,hs5,ha4⟩;show LeavesInM _ _ _ _ _ _ _ _ _;have hg:=(hg1.trans hg2).trans (hg3.trans hg4);have hb0:B4 0=some p:=hg.2.2 0 (.inl (by show 0<2;omega));have hb1:B4 1=some q:=hg.2.2 1 (.inl (by show 1<2;omega));have hs6:Sx w0 F B σ w4:=Zuk hs hb hc hp hq hs5 (by kernel_rfl) (by kernel_rfl) hb0 hb1 rfl (Ou hc);refine Pa Z6 (F3 _) [] (σ':=σ) J hs6 (by rw [nods ha4];rfl) fun w5 hs7=>?_
    obtain ⟨x,hx,hr⟩:=Zau (P:=Tryz.prog) (fn:=Tryz.f352) (l:=[.v (.bool false)]) (n:=10) (E:=[(2,.v (.bool false))]) (a:=a4) hs7 ⟨ha4.tm.1,fun i v hv=>by
     obtain ⟨x,hx,ht⟩:=ha4.tm.2 i v hv;rw [Yj] at hv;cases hbq:Nat.beq i 2 with
     | false=>rw [hbq] at hv;cases hv
     | true=>rw [hbq] at hv;cases hv;exact ⟨x,hx,ht⟩⟩ (by kernel_rfl)
    exact ⟨x,hr,x,B,J,Gr.refl _ _,hx,hs7⟩
   ·cases h
  ·cases h
 ·cases h
end
theorem X0_ok:XOk Tryz.prog X0:=by
 intro f g args σ v σ' hf hg;unfold X0 at hf;cases h1:Nat.beq f 131 with
 | true=>rw [h1] at hf;cases hf;have:=Nat.eq_of_beq_eq_true h1;subst this;exact Zfx hg
 | false =>
  rw [h1] at hf;cases h2:Nat.beq f 236 with
  | true=>rw [h2] at hf;cases hf;have:=Nat.eq_of_beq_eq_true h2;subst this;exact Zjm hg
  | false =>
   rw [h2] at hf;cases h3:Nat.beq f 352 with
   | true=>rw [h3] at hf;cases hf;have:=Nat.eq_of_beq_eq_true h3;subst this;exact Zqp hg
   | false=>rw [h3] at hf;cases hf
noncomputable def R1 (k:Nat):Rec:=run Tryz.prog X0 dc0 (drawF Tryz.prog) k
theorem G6 (k:Nat):Mo Tryz.prog (R1 k):=Zgw Z6 X0_ok Zii (fun _ h=>Zkw Xy Z6 h) k
end S
end Go.Proofs.YtpofmnfkdkmieaaGreat
