/- What is proved here: package check: the state ahead of a meth -/
import Derived.Test.YtpofmnfkdkmieaaGreatQ38
import Derived.Laws.MakeOwn
import Derived.Orders
set_option linter.unusedVariables false
set_option linter.unusedSimpArgs false
namespace Go.Proofs.YtpofmnfkdkmieaaGreat
section
open Go Go.RowKit At E
theorem blk_ls {b k:Nat} {M:List Value} (hM:M.length=k*2) (hk:k≤2000000):(blkA b M 71).Imp (lsA (.slice (some ⟨b,0,none⟩) 0 k) []):=by
 refine Asr.Imp.trans ⟨fun x hx=>?_,fun w h=>?_⟩ (Mr _ _)
 ·have:x=b:=by simpa [T4,Y0,Value.ownBlock] using hx
  subst this;exact List.mem_cons_self
 ·exact ⟨by simp,.inr ⟨b,k,M.toArray,J,Nat.zero_le _,h,Nat.zero_le _,by simp [maxLen];omega,by simpa using hM,by simp⟩⟩
set_option maxRecDepth 4000 in
theorem WL_mkT {n:Nat} {E:Env} {w0:World} {F:List Nat} {H:Hp} {R:Asr} {fn:Func} {Z:Ending→World→Prop} {κ:List Kf} {all:Array Oper} {l:List Oper} {d:Nat} {x y:Operand} {ty:TypeId} {p:String} {g:Array Edge} {k bytes:Nat} {z:Value} (hd:Nat.blt d n=true) (ht:TA Tryz.prog 69 71 2 bytes z) (hby:bytes≤100) (hx:ev E x=some (.int .i64 0)) (hy:ev E y=some (iN k)) (hk:k≤2000000)
  (h:∀ v',WL Tryz.prog n all l ((d,v')::E) w0 F H ((lsA v' []).and R) fn Z κ):WL Tryz.prog n all (⟨some d,.makeSlice 69 x y,ty,p,g,none⟩::l) E w0 F H R fn Z κ :=
 ⟨fun w hs a ha=>wpList_plain rfl fun K hK=>by
  obtain ⟨i,hi,hz,hsz,hb⟩:=info_parts ht.inf;have hb1:bytes*k≤100*2000000:=Nat.mul_le_mul hby hk;have hb2:(i.bytes:Int)*(k:Int)≤281474976710656:=by rw [hb,← Int.natCast_mul];omega
  have hk3:(k:Int)≤9223372036854775807:=by omega
  have hr:=run_make (P:=Tryz.prog) w 69 71 i z ht.sl hi hz .i64 .i64 0 (k:Int) (Int.le_refl 0) (Int.natCast_nonneg k) hb2 hk3
  have he:(execOp a.eval ⟨some d,.makeSlice 69 x y,ty,p,g,none⟩).run Tryz.prog w=.ok (.value (.slice (some ⟨w.heap.size,0,none⟩) 0 k)) (w.alloc (.cells (madeCells z.cells (k*2)).toList.toArray 71)):=by
   simp only [execOp];rw [ha.eval hx,ha.eval hy];rw [hsz] at hr;simp only [Int.toNat_natCast,Int.toNat_zero] at hr;simp [hr]
  unfold Oper.wp;rw [he];exact hK _ _ ((h _).go (w.alloc _) ((hs.allocR _ 71).leads (Asr.Imp.left (blk_ls (by rw [Array.length_toList,size_madeCells]) hk))) _ (ha.put hd _))⟩
theorem Pn {n:Nat} {E:Env} {w0:World} {F:List Nat} {H:Hp} {R:Asr} {fn:Func} {Z:Ending→World→Prop} {κ:List Kf} {all:Array Oper} {l:List Oper} {d:Nat} {ty:TypeId} {v:Value} {q:Option Addr} {x y:Operand} {ps:String} {g:Array Edge} {c:Nat} {xs tl:List Ty} {bytes:Nat} {z:Value} (hd:Nat.blt d n=true) (ht:TA Tryz.prog 69 71 2 bytes z) (hby:bytes≤100) (hx:ev E x=some v)
  (hy:ev E y=some (.slice q tl.length c)) (hc:0<tl.length→∃ b o,q=some ⟨b,o,none⟩∧Row w0 F H ((lsA v xs).and R) b o (tl.flatMap tyV)) (hl:xs.length+tl.length≤2000000)
  (h:∀ v',WL Tryz.prog n all l ((d,v')::E) w0 F H ((lsA v' (xs++tl)).and R) fn Z κ) :
  WL Tryz.prog n all (⟨some d,.call ⟨.builtin .append,#[x,y],#[69,69]⟩,ty,ps,g,none⟩::l) E w0 F H ((lsA v xs).and R) fn Z κ:=by
 by_cases hm:0<tl.length
 ·obtain ⟨b,o,rfl,hrow⟩:=hc hm;cases hz:isZ v with
  | true =>
   obtain ⟨p,rfl⟩:=isZ_slice hz;refine Xc (p:=xs=[]) (fun w hs=>by have:=hs.res.1;rw [lsA_z hz] at this;exact this) ?_;intro hxs;subst hxs;refine WL_app0 hd ht hx hy hrow (Ox tl) (tyV_all tl) hm (by simp [maxLen];omega) (Nat.le_trans (Nat.mul_le_mul (show tl.length≤2000000 by simp at hl;exact hl) hby) (by decide)) fun v'=>?_;exact Zz ((Asr.Imp.left (Mr v' tl)).trans (Asr.Imp.right (Asr.snd _ _))) (h v')
  | false =>
   have hrow':Row w0 F H ((Y0 71 2 v xs.length (xs.flatMap tyV)).and R) b o (tl.flatMap tyV):=by rw [lsA_n hz] at hrow;exact hrow
   rw [lsA_n hz];refine Ww (e:=71) (size:=2) (k:=xs.length) (xs:=xs.flatMap tyV) hd ht hx hy hrow' (Ox tl) (tyV_all tl) (by simp [maxLen];omega) (Nat.le_trans (Nat.mul_le_mul hl hby) (by decide)) fun v'=>?_;refine Zz (Asr.Imp.left ?_) (h v');have:=Mr v' (xs++tl);unfold T4 at this;rw [List.length_append,List.flatMap_append] at this;exact this
 ·have h0:tl=[]:=List.eq_nil_of_length_eq_zero (by omega);subst h0;refine Xc (p:=∃ p cp,v=.slice p xs.length cp∧xs.length≤cp) (fun w hs=>by obtain ⟨p,cp,e,hh, -⟩:=T6 hs.res.1;exact ⟨p,cp,e,hh.1⟩) ?_;rintro ⟨p,cp,rfl,hle⟩;refine ⟨fun w hs a ha=>wpList_plain J fun K hK=>?_⟩;obtain ⟨i,hi,hz,hsz,hb⟩:=info_parts ht.inf
  have he:(execOp a.eval ⟨some d,.call ⟨.builtin .append,#[x,y],#[69,69]⟩,ty,ps,g,none⟩).run Tryz.prog w=.ok (.value (.slice p xs.length cp)) w:=by
   simp only [execOp,resolve,invoke,builtin];cases p<;>cases q<;>simp [ha.eval hx,ha.eval hy,Builtin.append_,run_underlying ht.sl,sizeOf,typeInfo,hi,Builtin.lenOf,Builtin.firstCells,loadCells,loadCellsFrom,storeCells,hle]
  unfold Oper.wp;rw [he];have h9:=(h (.slice p xs.length cp)).go w;rw [List.append_nil] at h9;exact hK _ _ (h9 hs _ (ha.put hd _))
structure FsV where
 p:Option Addr
 c:Nat
 n:Nat
theorem WL_lsK {n:Nat} {E:Env} {w0:World} {F:List Nat} {H:Hp} {R:Asr} {fn:Func} {Z:Ending→World→Prop} {κ:List Kf} {all:Array Oper} {l:List Oper} {v:Value} {xs:List Ty} (h:∀ p c,v=.slice p xs.length c→WL Tryz.prog n all l E w0 F H ((lsA v xs).and R) fn Z κ):WL Tryz.prog n all l E w0 F H ((lsA v xs).and R) fn Z κ :=
 Xc (p:=∃ p c,v=.slice p xs.length c) (fun w hs=>by obtain ⟨p,c,e, -⟩:=T6 hs.res.1;exact ⟨p,c,e⟩) (fun ⟨p,c,e⟩=>h p c e)
theorem first_lenW {m:Me} (h:Yt m=true) (c:Cl):((Uk c m).length:Int)≤m.locals∧m.locals≤20∧m.stack≤20∧0≤m.stack:=by
 unfold Yt V7 at h;simp only [Bool.and_eq_true,decide_eq_true_eq] at h
 have h1:((Uk c m).length:Int)=Qt m:=by
  unfold Uk Qt;cases m.stat<;>simp
 rw [h1];omega
theorem first_snoc (l:List Ty) (n:Nat):l++List.replicate (n+1) P5=(l++List.replicate n P5)++[P5]:=by
 rw [List.append_assoc,← List.replicate_succ']
def okFirst (x:WkX) (k:WkM) (Rin:Asr):Value→List Value→Asr→Prop:=fun v cs' R'=>∃ p n c,v=.agg [.slice p n c,Vm].toArray∧cs'=wkC x k∧R'.Imp ((lsA (.slice p n c) (Uk x.c x.m++List.replicate (x.m.locals.toNat - (Uk x.c x.m).length) P5)).and Rin)
theorem first_any (u:World) (b:Nat) (x:WkX) (k:WkM) (Rin:Asr) (hG:WkG u x):RuP Tryz.prog 159 #[pt b] u b (wkC x k) Rin (okFirst x k Rin):=by
 intro w hu hF hs0;obtain ⟨hl1,hl2, -, -⟩:=first_lenW hG.ok x.c;have hP:Yu u x.pv x.m.params:=hG.me.ps;obtain ⟨q,e,hxp,⟨hp1,hp2⟩,hpq⟩:=id hP.shape;rw [hxp] at hP;replace hP:Hid _:=hP;replace hpq:Hid _:=hpq;obtain ⟨L,hL⟩:∃ L:Nat,x.m.locals=L:=⟨x.m.locals.toNat,by omega⟩;obtain ⟨N,hN⟩:∃ N,(Uk x.c x.m).length=N:=⟨_,rfl⟩;have hpN:x.m.params.length≤N:=by rw [← hN];unfold Uk;simp
 refine Yz (hs0) (args:=[pt b]) Tryz.func159 J Tryz.ntmps159 ?_;refine Zg (Zb (Yk J (tz J) ?_));intro b1 hb1;refine Ze (Zc (Zg (Zb (Za J (Zd J) (Za J (Zw J) (Za J (Zh (ff J) J) (Za J (Zh (ff J) J) (Za J (Zj (t1 J) J (Zi 1 J J)) (Wt (s:=8) (v':=iN L) J (congrArg (Value.int .i64) hL) (WL_mkT J (ta J) (by decide) J J (by omega) (fun v0=>?_)))))))))));refine Za J (Zf J) (Ze (Zc (Sg (Y:=Value × List Ty) (fun y:Value × List Ty=>[(0,pt b),(2,pt b1),(3,y.1)]) (fun y:Value × List Ty=>[(b1,[Vm,Vm]),(b,wkC x k)]) (fun y:Value × List Ty=>(lsA y.1 y.2).and Rin) (fun y:Value × List Ty=>y.2=(if x.m.stat then [] else [Xu x.c.name])) ?_ ?_)))
 ·skip
  refine Zg (Zb (Za J (Zd J) (Za J (Zw J) (Za J (Zh (ff J) J) (Za J (Zh (ff J) J) (Za J (Zj (t1 J) J (Zi 1 J J)) (Za J (Xv J) (Ze (Zc (W4 J ?_ ?_))))))))))
  ·intro c1;refine Zb (Za J (Zd J) (Za J (Zd J) (Za J (Zw J) (Za J (Zh (ff J) J) (Za J (Zh (ff J) J) (Za J (Zj (t1 J) J (Zi 1 J J)) (Yq fn158 J J (fun w _=>Oe _ w) ?_)))))));refine Wk J (ts J) (tz J) J J J J J ?_;intro b2 hb2;refine WL_appZ J (ta J) (by decide) J J (Yl 0 J) (by simp) ?_;intro v1;refine Za J (Zf J) (Ze ?_);refine Wj ((v1,[]++[Xu x.c.name])) 1 J J ⟨J,J,J,trivial⟩ ?_;exact (by simp_all)
  ·intro c1;refine Zo ?_;refine Wj ((v0,[])) 0 J J ⟨J,J,J,trivial⟩ ?_;exact (by simp_all)
 intro y hJ;obtain ⟨vJ,lJ⟩:=y;dsimp only at hJ ⊢;have hlJ:lJ++x.m.params=Uk x.c x.m:=by rw [hJ];rfl
 have hlN:lJ.length+x.m.params.length=N:=by rw [← hN,← hlJ,List.length_append]
 refine Zg (Zb (Za J (Zd J) (Za J (Zd J) (Za J (Zw J) (Za J (Zh (ff J) J) (Za J (Zh (ff J) J) (Za J (Zj (t1 J) J (Zi 1 J J)) (Wt (s:=30) (v':=.slice q x.m.params.length e) J hxp (Pn J (ta J) (by decide) J J (ro_rows hpq.out (fun w' hs=>Yu.mono hP.out (Xp hu hF hs))) (by omega) ?_)))))))));intro v2;refine WL_lsK (fun p2 c2 hv2=>?_);subst hv2;rw [hlJ,hN];refine Za J (Zf J) (Ze (Zc (Zg (Zn ?_))));refine Xt (R':=(lsA (.slice p2 (N+0) c2) (Uk x.c x.m++List.replicate 0 P5)).and Rin) (by rw [List.replicate_zero,List.append_nil];exact .refl _) ?_;refine Yf (Yg (X:=FsV) (fun y=>[(0,pt b),(2,pt b1),(3,.slice y.p (N+y.n) y.c)]) _ _ (fun y=>[(b1,[Vm,Vm]),(b,wkC x k)]) (fun y=>(lsA (.slice y.p (N+y.n) y.c) (Uk x.c x.m++List.replicate y.n P5)).and Rin) (fun y=>N+y.n≤L) (fun y=>L - (N+y.n)) (⟨p2,c2,0⟩) (by show N+0≤L;omega) ?_) ⟨rfl,rfl,rfl,trivial⟩;intro y hI;obtain ⟨p,c,n⟩:=y;replace hI:N+n≤L:=hI;have hnn:(FsV.mk p c n).n=n:=rfl;refine Zg (Zg (Zb (Za J (Zd J) (Za J (Zx (ts J) J) (Za J (Zd J) (Za J (Zw J) (Za J (Zh (ff J) J) (Za J (Zh (ff J) J) (Za J (Zj (t1 J) J (Zi 1 J J)) (Za J (Yi J J) (Ze (Zc (Zu J ?_ ?_)))))))))))))
 ·intro c2;replace c2:((N+n:Nat):Int)<x.m.locals:=c2;refine Zo (Zc (Zn (Zb (Za J (Zd J) (Za J (Z8 (cs:=tyV P5) (tb J) J (by kernel_rfl)) ?_)))));refine Wk J (ts J) (tz J) J J J J J ?_;intro b2 hb2;refine WL_appZ J (ta J) (by decide) J J (Yl 0 J) (by simp;omega) ?_;intro v3;rw [← first_snoc];refine WL_lsK (fun p3 c3 hv3=>?_);rw [List.length_append,List.length_replicate,hN] at hv3;subst hv3;refine Za J (Zf J) (Ze (Zt ?_));refine Z1 ((⟨p3,c3,n+1⟩:FsV)) ?_ (by show N+(n+1)≤L;omega) 1 rfl (rfl) ⟨rfl,rfl,rfl,trivial⟩;show L - (N+(n+1))<L - (N+n);omega
 ·intro c2;replace c2:¬ ((N+n:Nat):Int)<x.m.locals:=c2;refine Yd (Yc (Z5 (Yb (Zc (Zg (Zb (Za J (Zd J) (Za J (Z8 (cs:=[.slice p (N+n) c,Vm]) (tb J) J (by kernel_rfl)) ?_))))))));refine Z2 (tn J) J J 0 J J J J (Ze (Zc (Zr (Wp (We J (Wf (tn J) J (Yl 0 J) J)) 1 J ?_))));exact ⟨p,N+n,c,J,J,by rw [hN,show x.m.locals.toNat - N=n by omega];exact .refl _⟩
end
namespace E
open Go Go.RowKit
def RyZ (b:Nat) (w:World) (Rin:Asr) (ok:Value→List Value→Asr→Prop) (pan:List PanicEntry→Prop):Ending→World→Prop:=fun e w' =>
 (∃ v cs' R',e=.returned v∧ok v cs' R'∧Sat w (b::Rin.S) [(b,cs')] R' w')∨(∃ pc,pan pc∧e=.panicked pc∧Fr (b::Rin.S) w w')
section
variable {P:Program} {n:Nat} {E:Env} {w0:World} {F:List Nat} {H:Hp} {R:Asr} {fn:Func} {Z:Ending→World→Prop} {κ:List Kf} {pc:List PanicEntry} {pan:List PanicEntry→Prop}
theorem WY_end {w:World} {b:Nat} {Rin:Asr} {ok:Value→List Value→Asr→Prop} (h:pan pc):WX P n E w (b::Rin.S) pc fn (RyZ b w Rin ok pan) [] :=
 ⟨fun _ hb _ ha=>⟨ha.no,.inr ⟨pc,h,rfl,hb⟩⟩⟩
theorem Ry_end0 {w:World} {b:Nat} {cs':List Value} {Rin:Asr} {ok:Value→List Value→Asr→Prop} (hr:fn.results=#[]) (i:Nat) (hp:H[i]?=some (b,cs')) (h:ok (.tuple #[]) cs' R) :
  WQ P n .normal E w (b::Rin.S) H R fn (RyZ b w Rin ok pan) [] :=
 WQ_end0 hr fun _ hs=>.inl ⟨_,cs',R,rfl,h,hs.only hp⟩
end
end E
section
open Go Go.RowKit At E
structure Rw where
 a1:Ac
 a2:Ac
 goes:Bool
 ends:Bool
def Qh:List Rw:=[
 ⟨.nil,.nil,false,false⟩,
 ⟨.nil,.lay Yx,false,false⟩,
 ⟨.nil,.load,false,false⟩,
 ⟨.store,.nil,false,false⟩,
 ⟨.any,.nil,false,false⟩,
 ⟨.nil,.again,false,false⟩,
 ⟨.take [Yx,Yx],.lay Yx,false,false⟩,
 ⟨.take [Yx,Yx],.lay Yx,false,false⟩,
 ⟨.take [Yx,Yx],.lay Yx,false,false⟩,
 ⟨.take [Yx,Yx],.lay Yx,false,false⟩,
 ⟨.nil,.nil,true,true⟩,
 ⟨.take [Yx],.nil,true,false⟩,
 ⟨.take [Yx,Yx],.nil,true,false⟩,
 ⟨.kind [3,2,5],.nil,true,false⟩,
 ⟨.nil,.lay nullT,false,false⟩,
 ⟨.nil,.layObj,false,false⟩,
 ⟨.obj,.layTyp,false,false⟩,
 ⟨.objTyp,.nil,false,false⟩,
 ⟨.nil,.layTyp,false,false⟩,
 ⟨.typ,.nil,false,false⟩,
 ⟨.objParams,.layTyp,false,false⟩,
 ⟨.params,.layTyp,false,false⟩,
 ⟨.void,.nil,false,true⟩,
 ⟨.give,.nil,false,true⟩,
 ⟨.take [Xu thS],.nil,false,true⟩,
 ⟨.kind [3,5],.layObj,false,false⟩,
 ⟨.kind [3,5],.lay Yx,false,false⟩,
 ⟨.take [Yx],.nil,false,false⟩,
 ⟨.nil,.lay Yx,false,false⟩,
 ⟨.take [Yx],.lay Uh,false,false⟩,
 ⟨.take [Uh,Yx],.lay Yx,false,false⟩,
 ⟨.take [Uh,Yx,Yx],.nil,false,false⟩,
 ⟨.take [Uh],.lay Yx,false,false⟩]
structure RowV where
 tv:Value
 lv:Value
 b1:Nat
 b2:Nat
 s1:Value
 s2:Value
def rwV (r:Rw) (q:RowV):List Value:=[q.tv,q.lv,.bool r.goes,.bool r.ends]
def TabAt (w:World) (g:Nat) (rv:Nat→RowV):Prop:=∀ n r,Qh[n]?=some r →
 (∀ j z,(rwV r (rv n))[j]?=some z→w.cell? ⟨g,0+n*4+j,none⟩=some z)∧AcAt w (rv n).tv (rv n).b1 (rv n).s1 r.a1∧AcAt w (rv n).lv (rv n).b2 (rv n).s2 r.a2
theorem Sd {α:Type} (o:Option α):(o.bind fun s=>some s)=o:=by cases o<;>rfl
section
variable {c:Cl} {m:Me} {i:Ins}
theorem op_row:∀ (n:Nat) (r:Rw),Qh[n]?=some r→i.op=n→(∀ s,(acF c m i r.a1 s).bind (acF c m i r.a2)=opF c m i s)∧r.goes=decide (Xk i.op=3)∧r.ends=endsB i.op
 | 0,_,h,ho=>by cases h;exact ⟨fun s=>(Sd _).trans (by unfold opF;rw [ho];rfl),by rw [ho];rfl,by rw [ho];rfl⟩
 | 1,_,h,ho=>by cases h;exact ⟨fun s=>by unfold opF;rw [ho];rfl,by rw [ho];rfl,by rw [ho];rfl⟩
 | 2,_,h,ho=>by cases h;exact ⟨fun s=>by unfold opF;rw [ho];rfl,by rw [ho];rfl,by rw [ho];rfl⟩
 | 3,_,h,ho=>by cases h;exact ⟨fun s=>(Sd _).trans (by unfold opF;rw [ho];rfl),by rw [ho];rfl,by rw [ho];rfl⟩
 | 4,_,h,ho=>by cases h;exact ⟨fun s=>(Sd _).trans (by unfold opF;rw [ho];rfl),by rw [ho];rfl,by rw [ho];rfl⟩
 | 5,_,h,ho=>by cases h;exact ⟨fun s=>by unfold opF;rw [ho];rfl,by rw [ho];rfl,by rw [ho];rfl⟩
 | 6,_,h,ho=>by cases h;exact ⟨fun s=>by unfold opF;rw [ho];rfl,by rw [ho];rfl,by rw [ho];rfl⟩
 | 7,_,h,ho=>by cases h;exact ⟨fun s=>by unfold opF;rw [ho];rfl,by rw [ho];rfl,by rw [ho];rfl⟩
 | 8,_,h,ho=>by cases h;exact ⟨fun s=>by unfold opF;rw [ho];rfl,by rw [ho];rfl,by rw [ho];rfl⟩
 | 9,_,h,ho=>by cases h;exact ⟨fun s=>by unfold opF;rw [ho];rfl,by rw [ho];rfl,by rw [ho];rfl⟩
 | 10,_,h,ho=>by cases h;exact ⟨fun s=>(Sd _).trans (by unfold opF;rw [ho];rfl),by rw [ho];rfl,by rw [ho];rfl⟩
 | 11,_,h,ho=>by cases h;exact ⟨fun s=>(Sd _).trans (by unfold opF;rw [ho];rfl),by rw [ho];rfl,by rw [ho];rfl⟩
 | 12,_,h,ho=>by cases h;exact ⟨fun s=>(Sd _).trans (by unfold opF;rw [ho];rfl),by rw [ho];rfl,by rw [ho];rfl⟩
 | 13,_,h,ho=>by cases h;exact ⟨fun s=>(Sd _).trans (by unfold opF;rw [ho];rfl),by rw [ho];rfl,by rw [ho];rfl⟩
 | 14,_,h,ho=>by cases h;exact ⟨fun s=>by unfold opF;rw [ho];rfl,by rw [ho];rfl,by rw [ho];rfl⟩
 | 15,_,h,ho=>by cases h;exact ⟨fun s=>by unfold opF;rw [ho];rfl,by rw [ho];rfl,by rw [ho];rfl⟩
 | 16,_,h,ho=>by cases h;exact ⟨fun s=>by unfold opF;rw [ho];rfl,by rw [ho];rfl,by rw [ho];rfl⟩
 | 17,_,h,ho=>by cases h;exact ⟨fun s=>(Sd _).trans (by unfold opF;rw [ho];rfl),by rw [ho];rfl,by rw [ho];rfl⟩
 | 18,_,h,ho=>by cases h;exact ⟨fun s=>by unfold opF;rw [ho];rfl,by rw [ho];rfl,by rw [ho];rfl⟩
 | 19,_,h,ho=>by cases h;exact ⟨fun s=>(Sd _).trans (by unfold opF;rw [ho];rfl),by rw [ho];rfl,by rw [ho];rfl⟩
 | 20,_,h,ho=>by cases h;exact ⟨fun s=>by unfold opF;rw [ho];rfl,by rw [ho];rfl,by rw [ho];rfl⟩
 | 21,_,h,ho=>by cases h;exact ⟨fun s=>by unfold opF;rw [ho];rfl,by rw [ho];rfl,by rw [ho];rfl⟩
 | 22,_,h,ho=>by cases h;exact ⟨fun s=>(Sd _).trans (by unfold opF;rw [ho];rfl),by rw [ho];rfl,by rw [ho];rfl⟩
 | 23,_,h,ho=>by cases h;exact ⟨fun s=>(Sd _).trans (by unfold opF;rw [ho];rfl),by rw [ho];rfl,by rw [ho];rfl⟩
 | 24,_,h,ho=>by cases h;exact ⟨fun s=>(Sd _).trans (by unfold opF;rw [ho];rfl),by rw [ho];rfl,by rw [ho];rfl⟩
 | 25,_,h,ho=>by cases h;exact ⟨fun s=>by unfold opF;rw [ho];rfl,by rw [ho];rfl,by rw [ho];rfl⟩
 | 26,_,h,ho=>by cases h;exact ⟨fun s=>by unfold opF;rw [ho];rfl,by rw [ho];rfl,by rw [ho];rfl⟩
 | 27,_,h,ho=>by cases h;exact ⟨fun s=>(Sd _).trans (by unfold opF;rw [ho];rfl),by rw [ho];rfl,by rw [ho];rfl⟩
 | 28,_,h,ho=>by cases h;exact ⟨fun s=>by unfold opF;rw [ho];rfl,by rw [ho];rfl,by rw [ho];rfl⟩
 | 29,_,h,ho=>by cases h;exact ⟨fun s=>by unfold opF;rw [ho];rfl,by rw [ho];rfl,by rw [ho];rfl⟩
 | 30,_,h,ho=>by cases h;exact ⟨fun s=>by unfold opF;rw [ho];rfl,by rw [ho];rfl,by rw [ho];rfl⟩
 | 31,_,h,ho=>by cases h;exact ⟨fun s=>(Sd _).trans (by unfold opF;rw [ho];rfl),by rw [ho];rfl,by rw [ho];rfl⟩
 | 32,_,h,ho=>by cases h;exact ⟨fun s=>by unfold opF;rw [ho];rfl,by rw [ho];rfl,by rw [ho];rfl⟩
 | n+33,r,h,_=>by have:=Wa h;simp [Qh] at this;omega
theorem op_loc:∀ (n:Nat) (r:Rw),Qh[n]?=some r→(∀ a,a=r.a1∨a=r.a2→a=.load∨a=.store→n=2∨n=3)
 | 0,_,h=>by cases h;rintro a (rfl | rfl) (h | h)<;>cases h
 | 1,_,h=>by cases h;rintro a (rfl | rfl) (h | h)<;>cases h
 | 2,_,_=>fun _ _ _=>.inl rfl
 | 3,_,_=>fun _ _ _=>.inr rfl
 | 4,_,h=>by cases h;rintro a (rfl | rfl) (h | h)<;>cases h
 | 5,_,h=>by cases h;rintro a (rfl | rfl) (h | h)<;>cases h
 | 6,_,h=>by cases h;rintro a (rfl | rfl) (h | h)<;>cases h
 | 7,_,h=>by cases h;rintro a (rfl | rfl) (h | h)<;>cases h
 | 8,_,h=>by cases h;rintro a (rfl | rfl) (h | h)<;>cases h
 | 9,_,h=>by cases h;rintro a (rfl | rfl) (h | h)<;>cases h
 | 10,_,h=>by cases h;rintro a (rfl | rfl) (h | h)<;>cases h
 | 11,_,h=>by cases h;rintro a (rfl | rfl) (h | h)<;>cases h
 | 12,_,h=>by cases h;rintro a (rfl | rfl) (h | h)<;>cases h
 | 13,_,h=>by cases h;rintro a (rfl | rfl) (h | h)<;>cases h
 | 14,_,h=>by cases h;rintro a (rfl | rfl) (h | h)<;>cases h
 | 15,_,h=>by cases h;rintro a (rfl | rfl) (h | h)<;>cases h
 | 16,_,h=>by cases h;rintro a (rfl | rfl) (h | h)<;>cases h
 | 17,_,h=>by cases h;rintro a (rfl | rfl) (h | h)<;>cases h
 | 18,_,h=>by cases h;rintro a (rfl | rfl) (h | h)<;>cases h
 | 19,_,h=>by cases h;rintro a (rfl | rfl) (h | h)<;>cases h
 | 20,_,h=>by cases h;rintro a (rfl | rfl) (h | h)<;>cases h
 | 21,_,h=>by cases h;rintro a (rfl | rfl) (h | h)<;>cases h
 | 22,_,h=>by cases h;rintro a (rfl | rfl) (h | h)<;>cases h
 | 23,_,h=>by cases h;rintro a (rfl | rfl) (h | h)<;>cases h
 | 24,_,h=>by cases h;rintro a (rfl | rfl) (h | h)<;>cases h
 | 25,_,h=>by cases h;rintro a (rfl | rfl) (h | h)<;>cases h
 | 26,_,h=>by cases h;rintro a (rfl | rfl) (h | h)<;>cases h
 | 27,_,h=>by cases h;rintro a (rfl | rfl) (h | h)<;>cases h
 | 28,_,h=>by cases h;rintro a (rfl | rfl) (h | h)<;>cases h
 | 29,_,h=>by cases h;rintro a (rfl | rfl) (h | h)<;>cases h
 | 30,_,h=>by cases h;rintro a (rfl | rfl) (h | h)<;>cases h
 | 31,_,h=>by cases h;rintro a (rfl | rfl) (h | h)<;>cases h
 | 32,_,h=>by cases h;rintro a (rfl | rfl) (h | h)<;>cases h
 | n+33,r,h=>by have:=Wa h;simp [Qh] at this;omega
theorem do_row {n:Nat} {r:Rw} (h:Qh[n]?=some r) (ho:i.op=n) (s:St):doG c m i r.a1 r.a2 r.goes r.ends s=doF c m i s:=by
 obtain ⟨h1,h2,h3⟩:=op_row (c:=c) (m:=m) (i:=i) n r h ho;unfold doG doF;rw [h1 s,h3]
 have e:goF c m i r.goes=N8 c m i:=by
  funext q
  unfold goF N8;rw [h2];by_cases h4:Xk i.op=3
  ·rw [if_pos h4,decide_eq_true h4];rfl
  ·rw [if_neg h4,decide_eq_false h4];rfl
 rw [e]
end
theorem me_insW {m:Me} (h:Yt m=true) {n:Nat} {i:Ins} (hi:m.code[n]?=some i):Y5 i m.locals m.code.length=true:=by
 unfold Yt at h;simp only [Bool.and_eq_true] at h;exact List.all_eq_true.1 h.1.1.2 i (List.mem_of_getElem? hi)
theorem me_len {m:Me} (h:Yt m=true):1≤m.code.length∧m.code.length≤200:=by
 unfold Yt at h;simp only [Bool.and_eq_true,decide_eq_true_eq] at h;omega
theorem ins_op {i:Ins} {l:Int} {n:Nat} (h:Y5 i l n=true):0≤i.op∧i.op≤32:=by
 have h1:¬ Xk i.op<0:=by
  intro hn;unfold Y5 at h;rw [if_pos hn] at h;cases h
 unfold Xk at h1;repeat' split at h1
 all_goals omega
theorem ins_loc {i:Ins} {l:Int} {n:Nat} (h:Y5 i l n=true) (ho:i.op=2∨i.op=3):0≤i.n∧i.n<l:=by
 have h2:Xk i.op=2:=by rcases ho with e | e<;>rw [e]<;>rfl
 unfold Y5 at h;rw [h2,if_neg (by decide),if_pos (by decide)] at h;split at h
 ·cases h
 ·rw [if_neg (by decide),if_pos rfl] at h
  simpa using h
def Oy (c:Cl) (m:Me) (pos:Nat) (i:Ins) (s:St):Option St:=((Wv c m pos s).bind (Vn c m pos m.handlers)).bind (doF c m i)
theorem step_FG (c:Cl) (m:Me) (pos:Nat) (i:Ins) (s:St):R5 c m pos i s=(Oy c m pos i s).bind (N2 m pos):=rfl
def stG (c:Cl) (m:Me) (G:Set Bl):Nat→Option St
 | 0=>some (Ng c m G)
 | k+1=>match m.code[k]? with
  | none=>none
  | some i=>(stF c m G k).bind (Oy c m k i)
section
variable {c:Cl} {m:Me} {G:Set Bl} {n:Nat} {i:Ins} {s s' q:St}
theorem stG_s (hi:m.code[n]?=some i):stG c m G (n+1)=(stF c m G n).bind (Oy c m n i):=by
 show (match m.code[n]? with | none=>none | some i=>(stF c m G n).bind (Oy c m n i))=_;rw [hi]
theorem stf_s (hi:m.code[n]?=some i):stF c m G (n+1)=(stF c m G n).bind (R5 c m n i):=by
 show (match m.code[n]? with | none=>none | some i=>(stF c m G n).bind (R5 c m n i))=_;rw [hi]
theorem st_parts (hi:m.code[n]?=some i) (h:stG c m G (n+1)=some s):∃ q,stF c m G n=some q∧Oy c m n i q=some s:=by
 rw [stG_s hi] at h;cases e:stF c m G n with
 | none=>rw [e] at h;cases h
 | some q=>rw [e] at h;exact ⟨q,J,h⟩
theorem step_last (h:Oy c m n i q=some s):R5 c m n i q=N2 m n s:=by rw [step_FG,h];rfl
theorem st_of (hn:n<m.code.length) (h:stG c m G n=some s):stF c m G n=some s:=by
 cases n with
 | zero=>exact h
 | succ n =>
  obtain ⟨i,hi⟩:∃ i,m.code[n]?=some i:=⟨_,List.getElem?_eq_getElem (by omega)⟩;obtain ⟨q,h1,h2⟩:=st_parts hi h;rw [stf_s hi,h1];show R5 c m n i q=some s;rw [step_last h2];exact if_pos (.inl hn)
theorem st_end (hn:m.code.length=n+1) (h:stG c m G (n+1)=some s) (ha:s.alive=false):stF c m G m.code.length=some s:=by
 obtain ⟨i,hi⟩:∃ i,m.code[n]?=some i:=⟨_,List.getElem?_eq_getElem (by omega)⟩;obtain ⟨q,h1,h2⟩:=st_parts hi h;rw [hn,stf_s hi,h1];show R5 c m n i q=some s;rw [step_last h2];exact if_pos (.inr ha)
def FailM (c:Cl) (m:Me) (G:Set Bl) (pos:Nat):Prop:=∃ i s,m.code[pos]?=some i∧stF c m G pos=some s∧R5 c m pos i s=none
theorem fail_end (hn:m.code.length=n+1) (h:stG c m G (n+1)=some s) (ha:s.alive=true):FailM c m G n:=by
 obtain ⟨i,hi⟩:∃ i,m.code[n]?=some i:=⟨_,List.getElem?_eq_getElem (by omega)⟩;obtain ⟨q,h1,h2⟩:=st_parts hi h;refine ⟨i,q,hi,h1,?_⟩;rw [step_last h2];exact if_neg (by rw [ha,hn];simp)
theorem fail_in (hi:m.code[n]?=some i) (h:stG c m G n=some s) (hs:Oy c m n i s=none):FailM c m G n :=
 ⟨i,s,hi,st_of (Wa hi) h,by rw [step_FG,hs];rfl⟩
theorem stG_next (hi:m.code[n]?=some i) (h:stG c m G n=some s) (hs:Oy c m n i s=some s'):stG c m G (n+1)=some s':=by
 rw [stG_s hi,st_of (Wa hi) h];exact hs
end
end
section
open Go Go.RowKit At E
def k0W (gr:List Bl):WkM:=⟨gr,0,[],Vm,[],Vm,false⟩
def firstW (c:Cl) (m:Me):List Ty:=Uk c m++List.replicate (m.locals.toNat - (Uk c m).length) P5
theorem first_wk {x:WkX} {gr:List Bl} {v:Value} {l:List Ty}:((lsA v l).and (wkA x (k0W gr))).Imp (wkA x ⟨gr,0,l,v,[],Vm,true⟩) :=
 (Asr.swap _ _ _).trans (Asr.Imp.right (Asr.Imp.right (Asr.snd _ _)))
theorem insOfW (u:World) {q:Option Addr} {n c:Nat} {l:List Ins} (h:Su u (.slice q n c) l) {j:Nat} {i:Ins} (hi:l[j]?=some i):∃ b o pp cp,q=some ⟨b,o,none⟩∧b<u.heap.size∧Yu u (.slice pp i.ref.params.length cp) i.ref.params∧∀ t v,(Wx i (.slice pp i.ref.params.length cp))[t]?=some v→u.cell? ⟨b,o+j*7+t,none⟩=some v:=by
 obtain ⟨p,c',hv, -,hr⟩:=h.is;cases hv;obtain ⟨b,o,r,hp,hb,⟨pv,rfl,h1, -⟩,hc⟩:=hr j i hi;obtain ⟨pp,cp,rfl, -⟩:=id h1.shape;exact ⟨b,o,pp,cp,hp,hb,h1,hc⟩
def okGo (x:WkX) (gr:List Bl):Value→List Value→Asr→Prop:=fun v cs' R' =>
 v=.tuple #[]∧∃ k',cs'=wkC x k'∧R'.Imp (wkA x k')∧stF x.c x.m (fun y=>y ∈ gr) x.m.code.length=some (Vl k')
def panGo (x:WkX) (gr:List Bl) (pc:List PanicEntry):Prop:=∃ pos,pc=Vp x.n (pos:Nat)∧FailM x.c x.m (fun y=>y ∈ gr) pos
section
variable {c:Cl} {m:Me} {n:Nat} {i:Ins} {s s1 s2 s3:St}
theorem sg_n1 (h:Wv c m n s=none):Oy c m n i s=none:=by unfold Oy;rw [h];rfl
theorem sg_n2 (h:Wv c m n s=some s1) (h2:Vn c m n m.handlers s1=none):Oy c m n i s=none:=by
 unfold Oy;rw [h];show ((Vn c m n m.handlers s1).bind _)=none;rw [h2];rfl
theorem sg_on (h:Wv c m n s=some s1) (h2:Vn c m n m.handlers s1=some s2):Oy c m n i s=doF c m i s2:=by
 unfold Oy;rw [h];show ((Vn c m n m.handlers s1).bind _)=_;rw [h2];rfl
end
theorem loc_of {no:Nat} {nI:Int} {ref:Rf} {l:Int} {n:Nat} (h:Y5 ⟨(no:Int),nI,ref⟩ l n=true) (ho:no=2∨no=3):∃ j:Nat,(⟨(no:Int),nI,ref⟩:Ins).n=j∧(j:Int)<l:=by
 have h1:=ins_loc h (by rcases ho with rfl | rfl;exact .inl J;exact .inr J);exact ⟨nI.toNat,by show nI=_;have:=h1.1;dsimp only at this;omega,by have:=h1.1;have:=h1.2;dsimp only at *;omega⟩
set_option maxRecDepth 4000 in
theorem goThrough_any (u:World) (b:Nat) (x:WkX) (gr:List Bl) (hG:WkG u x) (g:Nat) (rv:Nat→RowV) (w:World) (hu:Below u.heap.size u w) (hF:∀ y ∈ b::(wkA x (k0W gr)).S,u.heap.size≤y) (hs0:Sat w (b::(wkA x (k0W gr)).S) [(b,wkC x (k0W gr))] (wkA x (k0W gr)) w) (hT:∀ w',Fr (b::(wkA x (k0W gr)).S) w w'→TabAt w' g rv) :
  Calls Tryz.prog 105 #[pt b,.slice (some ⟨g,0,none⟩) 33 33] w (RyZ b w (wkA x (k0W gr)) (okGo x gr) (panGo x gr)):=by
 have hC:Su u x.cv x.m.code:=hG.me.cs;obtain ⟨q,e,hxc,⟨hl1,hl2⟩, -⟩:=id hC.is;rw [hxc] at hC;obtain ⟨hf1,hf2,hf3,hf4⟩:=first_lenW hG.ok x.c;obtain ⟨hlen1,hlen2⟩:=me_len hG.ok;have hfl:((firstW x.c x.m).length:Int)=x.m.locals:=by unfold firstW;rw [List.length_append,List.length_replicate];omega
 replace hC:Hid _:=hC;replace hT:Hid _:=hT;have hOpen:=Yz (Z:=RyZ b w (wkA x (k0W gr)) (okGo x gr) (panGo x gr)) (hS:=hs0) (args:=[pt b,.slice (some ⟨g,0,none⟩) 33 33]) Tryz.func105 rfl Tryz.ntmps105;refine hOpen ?_;clear hOpen;refine Zg (Zb (Za J (Zd J) (Za J (Zd J) (Za J (Zd J) ?_))));refine Ye fn159 J J 0 J hu hF (first_any u b x (k0W gr) _ hG) ?_;rintro v cs' R' ⟨p0,n0,c0,rfl,rfl,hR⟩;refine Zz (hR.trans first_wk) ?_;refine Za J (Zw J) (Za J (Zh (ff J) J) (Z2 (tn J) J J 0 J J J J (Za J (Zw J) (Za J (Zh (ff J) J) (Yy (t1 J) J J 0 J J J J (Ze (Zc (Zg (Zg (Zb (Za J (Zd J) (Za J (Zw J) (Za J (Zh (ff J) J) (Za J (Zh (ff J) J) (Za J (Zj (t1 J) J (Zi 0 J J)) (Wt (s:=18) (v':=.slice q x.m.code.length e) J hxc (Za J (Zx (ts J) J) (Za J (Zd J) (Ze (Zc (Zn ?_)))))))))))))))))))));refine Yf (Yg (X:=HnW) (fun y=>[(0,pt b),(1,.slice (some ⟨g,0,none⟩) 33 33),(18,.slice q x.m.code.length e),(19,iN x.m.code.length),(20,iN y.n)]) _ _ (fun y=>[(b,wkC x y.k)]) (fun y=>wkA x y.k) (fun y=>y.n≤x.m.code.length∧WkOk x y.k∧y.k.pos=y.n - 1∧Hid (stG x.c x.m (fun z=>z ∈ gr) y.n=some (Vl y.k))) (fun y=>x.m.code.length - y.n) (⟨0,⟨gr,0,firstW x.c x.m,.slice p0 n0 c0,[],Vm,true⟩⟩) (⟨Nat.zero_le _,⟨hfl,hf4,hf3,hf2⟩,J,J⟩) ?_) ⟨J,J,J,J,J,trivial⟩;intro y hI;obtain ⟨n,⟨gr1,pos1,lo,lv,st,sv,al⟩⟩:=y;obtain ⟨hj1,hj2,hj3,hj4⟩:=hI;dsimp only at hj1 hj3;have hnn:(HnW.mk n ⟨gr1,pos1,lo,lv,st,sv,al⟩).n=n:=rfl;refine Zg (Zb (Za J (Yi J J) (Ze (Zc (Zg (Zu J ?_ ?_))))))
 ·intro c1;replace c1:(n:Int)<(x.m.code.length:Int):=c1;obtain ⟨i,hi⟩:∃ d,x.m.code[n]?=some d:=⟨_,List.getElem?_eq_getElem (by omega)⟩;obtain ⟨gb,o,pp,cp,hq,hgb,hpv,hc⟩:=insOfW u hC.out hi;subst hq;have hins:=me_insW hG.ok hi;have hio:=ins_op hins;obtain ⟨no,hno⟩:∃ k:Nat,i.op=k:=⟨i.op.toNat,by omega⟩;have hno3:no<33:=by omega
  obtain ⟨r,hr⟩:∃ r,Qh[no]?=some r:=⟨_,List.getElem?_eq_getElem hno3⟩;obtain ⟨op,nI,ref⟩:=i;replace hno:op=(no:Int):=hno;subst hno;refine Zo (Zc (Zg (Zn (Zg (Zb (Za J (Zd J) (Za J (Yo (ts J) J J ?_) ?_)))))))
  ·omega
  refine Za J (Yj (tn J) J (row_u hu hF hc hgb) J) (Yk J (tz J) ?_);intro b1 hb1;refine Za J (Zf J) (Z2 (tn J) J J 0 J J J J (Ze (Zc (Zg (Zb (Za J (Zd J) (Za J (Zd J) (Za J (Zw J) (Za J (Zh (ff J) J) (Yy (t1 J) J J 1 J J J J (Ze (Zc (Zg (Zb (Za J (Zd J) ?_)))))))))))))));refine Y8 fn160 J J 1 J hu hF (meetFrame_any u b x ⟨gr1,n,lo,lv,st,sv,al⟩ hG ⟨hj2.lo,hj2.st,hj2.bs,hj2.bl⟩) (fun hm=>by (repeat refine Wh ?_);exact WY_end (⟨n,J,fail_in hi hj4.out (sg_n1 hm)⟩)) ?_;rintro v cs' R' ⟨rfl,kF,rfl,hRF,hkF,hpF,hsF⟩;refine Zz hRF ?_;refine Ze (Zc (Zg (Zb (Za J (Zd J) ?_))));refine Y8 fn161 J J 1 J hu hF ((meetHandlers_any u b x kF hG hkF).to hpF) (fun hm=>by (repeat refine Wh ?_);exact WY_end (⟨n,J,fail_in hi hj4.out (sg_n2 hsF (by rw [hpF] at hm;exact hm))⟩)) ?_;rintro v cs' R' ⟨rfl,kH,rfl,hRH,hkH,hpH,hsH⟩;refine Zz hRH ?_;rw [hpF] at hsH;refine Ze (Zc (WC_heldT 1 X2 (Z4 0 J (by kernel_rfl) J (fun _ hs=>lN _ (hs.take 1)) (Zd J) ?_)));refine Z4 1 J (by kernel_rfl) J (fun _ hs=>lN _ (hs.take 1)) (Zd J) ?_;refine Z4 2 J (by kernel_rfl) J (fun _ hs=>lN _ (hs.take 1)) (Zh (ff J) J) ?_;refine Z4 3 J (by kernel_rfl) J (fun _ hs=>lN _ (hs.take 1)) (Zj (t1 J) J (Zi 0 J J)) ?_;refine Z4 4 J (by kernel_rfl) J (fun _ hs=>lN _ (hs.take 1)) (Yo (ts J) J J ?_) ?_
  ·omega
  refine Z4 5 J (by kernel_rfl) J (fun _ hs=>lN _ (hs.take 1)) (Yj (tn J) J ((⟨fun w' hs=>(hT.out w' hs.low no r hr).1⟩:Row _ _ _ _ _ _ (rwV r (rv no)))) J) ?_;refine Z4 6 J (by kernel_rfl) J (fun _ hs=>lN _ (hs.take 1)) (Zv (tn J) J 0 J J) ?_;refine Xh 7 (by kernel_rfl) J ?_;refine WL_callT (cap:=[]) fn162 J J J 1 J hu hF ((do_any u b x kH hG hkH ⟨(no:Int),nI,ref⟩ (.slice pp ref.params.length cp) hpv (rv no).tv (rv no).lv (rv no).s1 (rv no).s2 (rv no).b1 (rv no).b2 r.a1 r.a2 r.goes r.ends (fun a ha hl=>loc_of hins (op_loc no r hr a ha hl))).to (hpH.trans hpF)) (fun w' hs w2 hf=>(hT.out w2 (fr_then hs hf) no r hr).2) (fun hm=>by (repeat refine Wh ?_);exact WY_end ⟨n,J,fail_in hi hj4.out ((sg_on hsF hsH).trans ((do_row hr J _).symm.trans hm))⟩) ?_;rintro v cs' R' ⟨rfl,kD,rfl,hRD,hkD,hpD,hsD⟩;refine Zz hRD ?_;refine Ze (Y1 (fun _ hs=>lN _ (hs.take 1)) ?_);refine W8 (by kernel_rfl) ?_;refine Zt (Zc (Zb ?_));refine Za J (Yn J J ?_) ?_;omega;refine Za J (Zd J) (Ze ?_);refine Z1 ((⟨n+1,kD⟩:HnW)) ?_ (⟨by show n+1≤_;omega,hkD,by show kD.pos=n+1 - 1;rw [hpD,hpH,hpF];rfl,stG_next hi hj4.out ((sg_on hsF hsH).trans ((do_row hr rfl _).symm.trans hsD))⟩) 1 rfl (rfl) ⟨rfl,rfl,rfl,rfl,rfl,trivial⟩;show x.m.code.length - (n+1)<x.m.code.length - n;omega
 ·intro c1;replace c1:¬ (n:Int)<(x.m.code.length:Int):=c1;refine Yd (Yc (Z5 (Yb (Zc (Zb (Za J (Zd J) (Za J (Zd J) (Za J (Zw J) (Za J (Zh (ff J) J) (Za J (Zj (t1 J) J (Zi 0 J J)) (Za J (Xv J) ?_)))))))))));refine Y8 Pe J J 0 J hu hF (V0 u b x ⟨gr1,pos1,lo,lv,st,sv,al⟩ _ _) (fun hm=>by (repeat refine Wh ?_);exact WY_end (⟨pos1,J,fail_end (s:=Vl ⟨gr1,pos1,lo,lv,st,sv,al⟩) (by omega) (by rw [show pos1+1=n by omega];exact hj4.out) (by show al=true;simpa using hm)⟩)) ?_;rintro v cs' R' ⟨rfl,rfl,rfl,hyes⟩;refine Ze (Ry_end0 J 0 J ?_);exact ⟨J,⟨gr1,pos1,lo,lv,st,sv,al⟩,J,.refl _,st_end (n:=pos1) (by omega) (by rw [show pos1+1=n by omega];exact hj4.out) (by show al=false;simpa using hyes)⟩
end
namespace E
open Go Go.RowKit
section
variable {P:Program} {ops:Array Oper} {Q:Exit→Act→World→Prop}
theorem oper_Q {o:Oper} {a:Act} {w:World} {K J:Act→World→Prop} (h:o.wp P a w K (Exit.then J Q)):o.wp P a w K Q:=by
 unfold Oper.wp at *;generalize (execOp a.eval o).run P w=r at *;cases r with
 | ok n w' =>
  cases n<;>simp only [Oper.upon] at h ⊢ <;>
   first
    | exact h
    | exact Calls.mono h (fun e w'' he=>by cases e<;>exact he)
 | halt x w'=>cases x<;>simp only [Oper.upon] at h ⊢<;>exact h
theorem any_inv {I:Array Bool→Act→World→Prop} (hsz:∀ l a w,I l a w→l.size=ops.size) (hord:∀ (i:Nat) (o:Oper) (e:Edge),ops[i]?=some o→e ∈ o.after→Region.binds .any e=true→e.on<i)
  (hstep:∀ l a w i,I l a w→i ∈ Region.ready .any ops l→wpOp P ops Q i (fun a' w'=>I (l.setIfInBounds i true) a' w') a w) (hend:∀ l a w,I l a w→(∀ j,j<ops.size→l.getD j false=true)→Q .normal a w) :
  ∀ (fuel:Nat) (l:Array Bool) (a:Act) (w:World),I l a w→l.toList.count false≤fuel→wpAny P .any ops Q fuel l a w:=by
 have hall:∀ l a w,I l a w→Region.ready .any ops l=[]→∀ j,j<ops.size→l.getD j false=true:=by
  intro l a w hI hr j;induction j using Nat.strongRecOn with
  | _ j ih =>
   intro hj;cases hb:l.getD j false with
   | true=>rfl
   | false =>
    have hlt:j<l.size:=by rw [hsz l a w hI];exact hj
    have hm:j ∈ Region.ready .any ops l:=mem_ready.2 ⟨by simpa [Array.getD,hlt] using hb,ops[j],Array.getElem?_eq_getElem hj,fun e he hbi=>ih e.on (hord j _ e (Array.getElem?_eq_getElem hj) he hbi) (Nat.lt_trans (hord j _ e (Array.getElem?_eq_getElem hj) he hbi) hj)⟩;rw [hr] at hm;cases hm
 intro fuel;induction fuel with
 | zero =>
  intro l a w hI hc
  have hnr:Region.ready .any ops l=[]:=by
   rw [List.eq_nil_iff_forall_not_mem];intro i hi;have h1:=(mem_ready.1 hi).1;obtain ⟨o,ho,_⟩:=(mem_ready.1 hi).2;have hlt:i<l.size:=by rw [hsz l a w hI];exact (Array.getElem?_eq_some_iff.1 ho).1
   have h2:l[i]=false:=by simpa [Array.getD,hlt] using h1
   have h3:false ∈ l.toList:=by rw [← h2];exact Array.getElem_mem_toList hlt
   have:=List.count_pos_iff.2 h3;omega
  exact ⟨hnr,hend l a w hI (hall l a w hI hnr)⟩
 | succ fuel ih =>
  intro l a w hI hc;refine ⟨fun hnr=>hend l a w hI (hall l a w hI hnr),fun i hi=>?_⟩;have h1:=(mem_ready.1 hi).1;obtain ⟨o,ho,_⟩:=(mem_ready.1 hi).2;have hlt:i<l.size:=by rw [hsz l a w hI];exact (Array.getElem?_eq_some_iff.1 ho).1
  have h2:l[i]=false:=by simpa [Array.getD,hlt] using h1
  refine wpOp_mono (fun a' w' h'=>ih _ a' w' h' ?_) (hstep l a w i hI hi);have h3:false ∈ l.toList:=by rw [← h2];exact Array.getElem_mem_toList hlt
  have h4:=List.count_pos_iff.2 h3;have h5:l.toList[i]'(by simpa using hlt)=false:=by simpa using h2
  rw [Array.toList_setIfInBounds,List.count_set (by simpa using hlt),h5];show l.toList.count false - (if (false==false)=true then 1 else 0)+(if (true==false)=true then 1 else 0)≤fuel;rw [if_pos (show (false==false)=true from rfl),if_neg (show ¬ (true==false)=true by decide)];omega
end
theorem Xw {P:Program} {n:Nat} {all:Array Oper} {o:Oper} {i:Nat} {E:Env} {w:World} {fn:Func} {Z:Ending→World→Prop} {κ:List Kf} {K:Act→World→Prop} {a:Act} (hi:all[i]?=some o) (ha:Ag n a E) (h:WL P n all [o] E w [] [] Asr.none fn Z (⟨2,0,.skip,K⟩::κ)):wpOp P all (den P fn Z κ) i K a w:=by
 unfold wpOp;rw [hi];have h1:=h.go w (Sat.first w []) a ha;simp only [wpList] at h1;show (if Region.wanted o (yielded all a.tmps)=true then _ else _);by_cases hw:Region.wanted o (yielded all a.tmps)=true
 ·rw [if_pos hw] at h1 ⊢;rcases h1 with h1 | ⟨h1,h2⟩
  ·exact .inl (oper_Q h1)
  ·exact .inr ⟨h1,h2⟩
 ·rw [if_neg hw] at h1 ⊢;exact h1
def W2 (a:Act):Nat→Env
 | 0=>[]
 | k+1=>(k,a.tmps.getD k undef)::W2 a k
theorem look_full (a:Act) (j:Nat):∀ n,j<n→look (W2 a n) j=some (a.tmps.getD j undef)
 | 0,h=>by omega
 | n+1,h=>by
  unfold W2 look;cases hb:Nat.beq j n with
  | true=>rw [Nat.eq_of_beq_eq_true hb];rfl
  | false =>
   have hj:j≠n:=Nat.ne_of_beq_eq_false hb;exact look_full a j n (by omega)
theorem look_full_lt (a:Act) (j:Nat) (v:Value):∀ n,look (W2 a n) j=some v→j<n∧v=a.tmps.getD j undef
 | 0,h=>by cases h
 | n+1,h=>by
  unfold W2 look at h;cases hb:Nat.beq j n with
  | true =>
   rw [hb] at h;have hj:=Nat.eq_of_beq_eq_true hb;subst hj;exact ⟨by omega,(Option.some.inj h).symm⟩
  | false =>
   rw [hb] at h;have:=look_full_lt a j v n h;exact ⟨by omega,this.2⟩
theorem look_app (E E':Env) (j:Nat):look (E++E') j=(look E j).orElse fun _=>look E' j:=by
 induction E with
 | nil=>rfl
 | cons p E ih =>
  obtain ⟨i,v⟩:=p;show (bif Nat.beq j i then some v else look (E++E') j)=(bif Nat.beq j i then some v else look E j).orElse _;cases Nat.beq j i with
  | true=>rfl
  | false=>exact ih
theorem Xy {n:Nat} {a:Act} {E deps:Env} (h:Ag n a E) (hd:∀ j v,look deps j=some v→a.tmps[j]?=some v):Ag n a (deps++W2 a n) :=
 ⟨h.room,h.no,fun j v hv=>by
  rw [look_app] at hv;cases e:look deps j with
  | some u=>rw [e] at hv;cases hv;exact hd j _ e
  | none =>
   rw [e] at hv;obtain ⟨h1,h2⟩:=look_full_lt a j v n hv;subst h2;have hlt:j<a.tmps.size:=Nat.lt_of_lt_of_le h1 h.room;rw [Array.getElem?_eq_getElem hlt];simp [Array.getD,hlt]⟩
theorem ag_keep {n d:Nat} {a a':Act} {E deps:Env} {v:Value} (h:Ag n a E) (hd:∀ j v,look deps j=some v→a.tmps[j]?=some v) (h':Ag n a' ((d,v)::(deps++W2 a n))) {j:Nat} (hj:j<n) (hne:j≠d):a'.tmps[j]?=a.tmps[j]?:=by
 have hlt:j<a.tmps.size:=Nat.lt_of_lt_of_le hj h.room
 have h1:look ((d,v)::(deps++W2 a n)) j=look (deps++W2 a n) j:=by
  show (bif Nat.beq j d then some v else _)=_;cases hb:Nat.beq j d with
  | true=>exact absurd (Nat.eq_of_beq_eq_true hb) hne
  | false=>rfl
 have h2:look (deps++W2 a n) j=a.tmps[j]?:=by
  rw [look_app];cases e:look deps j with
  | some u=>rw [hd j u e];rfl
  | none =>
   show look (W2 a n) j=_;rw [look_full a j n hj,Array.getElem?_eq_getElem hlt];simp [Array.getD,hlt]
 have h3:a.tmps[j]?=some a.tmps[j]:=Array.getElem?_eq_getElem hlt;rw [h3];exact h'.has j _ (by rw [h1,h2,h3])
end E
section
open Go Go.RowKit At E
def Hi (base:Nat) (v:Value):Prop:=∀ p n c,v=.slice (some p) n c→base≤p.block
def AcB (base:Nat) (w:World) (v:Value) (bc:Nat) (sv:Value) (a:Ac):Prop:=AcAt w v bc sv a∧base≤bc∧Hi base sv
def RowB (base:Nat) (w:World) (q:RowV) (r:Rw):Prop:=AcB base w q.tv q.b1 q.s1 r.a1∧AcB base w q.lv q.b2 q.s2 r.a2
def TabB (base:Nat) (w:World) (g:Nat) (rv:Nat→RowV):Prop:=base≤g∧∀ n r,Qh[n]?=some r→(∀ j z,(rwV r (rv n))[j]?=some z→w.cell? ⟨g,0+n*4+j,none⟩=some z)∧RowB base w (rv n) r
inductive Sp where
 | ty (t:Ty)
 | tys (l:List Ty)
 | ints (ks:List Int)
 | ac (a:Ac)
 | row (r:Rw)
 | tab
def SpAt (base:Nat) (w:World) (v:Value):Sp→Prop
 | .ty t=>v=.agg (tyV t).toArray
 | .tys l=>Yu w v l∧Hi base v
 | .ints ks=>IntsAt w v ks∧Hi base v
 | .ac a=>∃ bc sv,AcB base w v bc sv a
 | .row r=>∃ q,v=.agg (rwV r q).toArray∧RowB base w q r
 | .tab=>∃ g rv,v=.slice (some ⟨g,0,none⟩) 33 33∧TabB base w g rv
theorem V4 {w w':World} (hb:Below w.heap.size w w') {p:Addr} {v:Value} (h:w.cell? p=some v):w'.cell? p=some v:=by
 rw [hb.cell (World.block_lt_of_cell? w p h)];exact h
theorem AcAt.mono {w w':World} {v:Value} {bc:Nat} {sv:Value} {a:Ac} (h:AcAt w v bc sv a) (hb:Below w.heap.size w w'):AcAt w' v bc sv a:=by
 cases a with
 | take l=>exact ⟨h.1,V4 hb h.2.1,h.2.2.mono hb⟩
 | lay t=>exact ⟨h.1,fun j z hj=>V4 hb (h.2 j z hj)⟩
 | kind ks=>exact ⟨h.1,V4 hb h.2.1,h.2.2.mono hb⟩
 | _=>exact h
theorem RowB.mono {base:Nat} {w w':World} {q:RowV} {r:Rw} (h:RowB base w q r) (hb:Below w.heap.size w w'):RowB base w' q r:=⟨⟨h.1.1.mono hb,h.1.2⟩,⟨h.2.1.mono hb,h.2.2⟩⟩
theorem SpAt.mono {base:Nat} {w w':World} {v:Value} {s:Sp} (h:SpAt base w v s) (hb:Below w.heap.size w w'):SpAt base w' v s:=by
 cases s with
 | ty t=>exact h
 | tys l=>exact ⟨h.1.mono hb,h.2⟩
 | ints ks=>exact ⟨h.1.mono hb,h.2⟩
 | ac a=>obtain ⟨bc,sv,h1,h2⟩:=h;exact ⟨bc,sv,h1.mono hb,h2⟩
 | row r=>obtain ⟨q,h1,h2⟩:=h;exact ⟨q,h1,h2.mono hb⟩
 | tab=>obtain ⟨g,rv,h1,h2,h3⟩:=h;exact ⟨g,rv,h1,h2,fun n r hr=>⟨fun j z hz=>V4 hb ((h3 n r hr).1 j z hz),(h3 n r hr).2.mono hb⟩⟩
def Same (base:Nat) (w w':World):Prop:=∀ k,base≤k→k<w.heap.size→w'.heap[k]?=w.heap[k]?
theorem P0 {base:Nat} {w w':World} (hs:Same base w w') {p:Addr} {v:Value} (hp:base≤p.block) (h:w.cell? p=some v):w'.cell? p=some v:=by
 rw [World.cell?_of_block (hs p.block hp (World.block_lt_of_cell? w p h))];exact h
theorem heap_lt {w w':World} {b:Nat} (h:w'.heap[b]?=w.heap[b]?) (hb:b<w.heap.size):b<w'.heap.size:=by
 rw [Array.getElem?_eq_getElem hb] at h;exact (Array.getElem?_eq_some_iff.1 h).1
theorem tys_same {base:Nat} {w w':World} (hs:Same base w w') {v:Value} {l:List Ty} (hv:Hi base v) (h:Yu w v l):Yu w' v l:=by
 obtain ⟨p,c,e,hl,hr⟩:=h.is;refine ⟨p,c,e,hl,fun i x hi=>?_⟩;obtain ⟨b,o,r,hp,hb,he,hc⟩:=hr i x hi;have hbase:base≤b:=hv _ _ _ (by rw [e,hp]);exact ⟨b,o,r,hp,heap_lt (hs b hbase hb) hb,he,fun j u hj=>P0 hs hbase (hc j u hj)⟩
theorem ints_same {base:Nat} {w w':World} (hs:Same base w w') {v:Value} {l:List Int} (hv:Hi base v) (h:IntsAt w v l):IntsAt w' v l:=by
 obtain ⟨g,c,e,hl,hc⟩:=h.is;exact ⟨g,c,e,hl,fun j n hj=>P0 hs (show base≤g from hv ⟨g,0,none⟩ _ _ e) (hc j n hj)⟩
theorem ac_same {base:Nat} {w w':World} (hs:Same base w w') {v:Value} {bc:Nat} {sv:Value} {a:Ac} (h:AcB base w v bc sv a):AcAt w' v bc sv a:=by
 obtain ⟨h,hb,hv⟩:=h;cases a with
 | take l=>exact ⟨h.1,P0 hs hb h.2.1,tys_same hs hv h.2.2⟩
 | lay t=>exact ⟨h.1,fun j z hj=>P0 hs hb (h.2 j z hj)⟩
 | kind ks=>exact ⟨h.1,P0 hs hb h.2.1,ints_same hs hv h.2.2⟩
 | _=>exact h
theorem tab_same {base:Nat} {w w':World} (hs:Same base w w') {g:Nat} {rv:Nat→RowV} (h:TabB base w g rv):TabAt w' g rv:=fun n r hr =>
 ⟨fun j z hz=>P0 hs h.1 ((h.2 n r hr).1 j z hz),ac_same hs (h.2 n r hr).2.1,ac_same hs (h.2 n r hr).2.2⟩
def newA (base:Nat) (w:World):Asr:=⟨(List.range w.heap.size).filter fun k=>decide (base≤k),fun w'=>Same base w w',fun w1 w2 h hk k hb hlt=>by
 rw [hk k (List.mem_filter.2 ⟨List.mem_range.2 hlt,by simpa using hb⟩)];exact h k hb hlt⟩
theorem new_sat {w0 w:World} (h:Below w0.heap.size w0 w):Sat w0 [] [] (newA w0.heap.size w) w :=
 ⟨Fr.of_below h [],by simp,by simp,by simp,fun _ _ _=>rfl,fun k hk=>by
  obtain ⟨h1,h2⟩:=List.mem_filter.1 hk;exact ⟨.inr (by simpa using h2),List.mem_range.1 h1⟩,by simp⟩
end
end Go.Proofs.YtpofmnfkdkmieaaGreat
