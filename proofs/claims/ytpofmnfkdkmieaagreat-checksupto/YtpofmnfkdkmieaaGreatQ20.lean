/- What is proved here: the statement's comparing of classes; it -/
import Derived.Test.YtpofmnfkdkmieaaGreatQ16
import Derived.Test.YtpofmnfkdkmieaaGreatQ14
import Derived.Test.YtpofmnfkdkmieaaGreatQ19
set_option linter.unusedVariables false
set_option linter.unusedSimpArgs false
namespace Go.Proofs.YtpofmnfkdkmieaaGreat
namespace E
open Go Go.RowKit
theorem teBool (d:Nat) (b:Bool) (w:World):(Op.equalIn (d+1) 4 (.bool b) (.bool b)).run Tryz.prog w=.ok true w:=by
 have hu:Tryz.prog.underlying 4=some .bool:=by kernel_rfl
 cases b<;>simp [Op.equalIn,run_underlying hu]
theorem teTyS (d:Nat) (a:Int) (s:ByteArray) (w:World):(Op.equalIn (d+2) 71 (.agg #[.int .i64 a,.string s]) (.agg #[.int .i64 a,.string s])).run Tryz.prog w=.ok true w:=by
 have h:=teTy d a a s s w;rw [eqS_self] at h;simpa using h
theorem teFd (n:ByteArray) (b:Bool) (a:Int) (s:ByteArray) (w:World):(Op.equalIn 10000 128 (.agg #[.string n,.bool b,.int .i64 a,.string s]) (.agg #[.string n,.bool b,.int .i64 a,.string s])).run Tryz.prog w=.ok true w:=by
 have hs:Tryz.prog.stoodInHeld 128=false:=by kernel_rfl
 have h9:∀ w:World,(Op.equalIn 9999 9 (.string n) (.string n)).run Tryz.prog w=.ok true w:=fun w=>teStr 9998 n w;have h4:∀ w:World,(Op.equalIn 9999 4 (.bool b) (.bool b)).run Tryz.prog w=.ok true w:=fun w=>teBool 9998 b w;have h7:∀ w:World,(Op.equalIn 9999 71 (.agg #[.int .i64 a,.string s]) (.agg #[.int .i64 a,.string s])).run Tryz.prog w=.ok true w:=fun w=>teTyS 9997 a s w;have hu:=Tryz.underlying128;have hut:=Tryz.underlying71;have hub:Tryz.prog.underlying 4=some .bool:=by kernel_rfl
 have hsz:∀ w:World,(sizeOf 71).run Tryz.prog w=.ok 2 w:=fun w=>(tn (t:=71) (k:=2) rfl w).2;rw [show (10000:Nat)=9999+1 from rfl,Op.equalIn];simp only [Sem.run_bind,run_underlying hu,Result.andThen_ok,run_program,hs,Bool.false_eq_true,if_false];simp [part,isAgg,run_underlying hut,run_underlying hub,run_underlying (Sk (t:=9) rfl),h9,h4,h7,hsz]
theorem Ex_neqFld0 {n:Nat} {E:Env} {w0:World} {F:List Nat} {H:Hp} {R:Asr} {t':TypeId} {x y:Operand} {m:ByteArray} {b:Bool} {a:Int} {s:ByteArray} (hx:ev E x=some (.agg #[.string m,.bool b,.int .i64 a,.string s])) (hy:ev E y=some (.agg #[.string m,.bool b,.int .i64 a,.string s])):Ex Tryz.prog n E w0 F H R (.binOp .neq 128 x y t') (.bool false) :=
 Ex_neqN (r:=true) (by kernel_rfl) hx hy (fun w=>teFd m b a s w)
end E
section
open Go Go.RowKit At E
set_option maxHeartbeats 2000000 in
theorem sameClass_any (c:Cl) (fv mv fv' mv':Value) (w:World) (hc0:ClAt w c fv mv) (hc1:ClAt w c fv' mv'):Vc Tryz.prog 44 #[.agg (clV c fv mv).toArray,.agg (clV c fv' mv').toArray] w (.bool true):=by
 obtain ⟨p1,e1,rfl,hl1,hr1⟩:=hc0.fs.is;obtain ⟨p2,e2,rfl,hl2,hr2⟩:=hc0.ms.is;obtain ⟨q1,d1,rfl, -,hs1⟩:=hc1.fs.is;obtain ⟨q2,d2,rfl, -,hs2⟩:=hc1.ms.is;replace hr1:Hid _:=hr1;replace hr2:Hid _:=hr2;replace hs1:Hid _:=hs1;replace hs2:Hid _:=hs2;refine Xf (args:=[.agg (clV c (.slice p1 c.fields.length e1) (.slice p2 c.methods.length e2)).toArray,.agg (clV c (.slice q1 c.fields.length d1) (.slice q2 c.methods.length d2)).toArray]) Tryz.func44 J Tryz.ntmps44 ?_;refine Zg (Zb (Y2 J J ?_));intro b0 hb0;refine Y2 J J ?_;intro b1 hb1;refine Za J (Zf J) (Ze (Zc (Zg (Zg (Zb (Za J (Zh (ff J) J) (Za J (Zj (t1 J) J (Zi 1 J J)) (Za J (Zh (ff J) J) (Za J (Zj (t1 J) J (Zi 0 J J)) (Za J (Ex_neqS0 J J) (Za J (Zd J) (Zk J J J (Zh (ff J) J) (Zk J J J (Zj (t1 J) J (Zi 1 J J)) (Zk J J J (Zh (ff J) J) (Zk J J J (Zj (t1 J) J (Zi 0 J J)) (Zk J J J (Ex_neqS0 J J) (Za J (Zs J J) (Za J (Zd J) (Zk J J J (Zh (ff J) J) (Zk J J J (Zj (t1 J) J (Zi 1 J J)) (Zk J J J (Zx (ts J) J) (Zk J J J (Zh (ff J) J) (Zk J J J (Zj (t1 J) J (Zi 0 J J)) (Zk J J J (Zx (ts J) J) (Zk J J J (Uy J J) (Za J (Zs J J) (Za J (Zd J) (Zk J J J (Zh (ff J) J) (Zk J J J (Zj (t1 J) J (Zi 1 J J)) ?_)))))))))))))))))))))))))))));refine Zk J J J (Zx (ts J) J) (Zk J J J (Zh (ff J) J) (Zk J J J (Zj (t1 J) J (Zi 0 J J)) (Zk J J J (Zx (ts J) J) (Zk J J J (Uy J J) (Za J (Zs J J) (Ze (Zc (Xn J (Zo (Zc (Zg (Zg (Zb (Za J (Zf J) (Ze (Zc (Zn ?_)))))))))))))))));refine Yf (Yg (X:=Nat) (fun i=>[(2,pt b0),(3,pt b1),(5,iN i)]) _ _ (fun i=>[(b1,clV c (.slice q1 c.fields.length d1) (.slice q2 c.methods.length d2)),(b0,clV c (.slice p1 c.fields.length e1) (.slice p2 c.methods.length e2))]) (fun i=>Asr.none) (fun i=>i≤c.fields.length) (fun i=>c.fields.length - i) (0) (Nat.zero_le _) ?_) ⟨J,J,J,trivial⟩;intro i hI;refine Zg (Zg (Zb (Za J (Zd J) (Za J (Zh (ff J) J) (Za J (Zj (t1 J) J (Zi 1 J J)) (Za J (Zx (ts J) J) (Za J (Yi J J) (Ze (Zc (Zu J ?_ ?_))))))))))
 ·intro c2;have hi:i<c.fields.length:=by omega
  obtain ⟨b,o,r,hp,hb,⟨hr, -⟩,hc⟩:=hr1.out i c.fields[i] (List.getElem?_eq_getElem hi);obtain ⟨b',o',r',hp',hb',⟨hr', -⟩,hc'⟩:=hs1.out i c.fields[i] (List.getElem?_eq_getElem hi);subst hp;subst hr;subst hp';subst hr';refine Zo (Zc (Zg (Zn (Zg (Ws X2 (by kernel_rfl) ?_)))));refine Zq J (Zh (ff J) J) (Zq J (Zj (t1 J) J (Zi 1 J J)) (Zq J (Zd J) (Zq J (Yo (ts J) J J ?_) ?_)))
  ·omega
  refine Zq J (Yj (tn J) J (Xl hc hb) J) (Zq J (Zh (ff J) J) (Zq J (Zj (t1 J) J (Zi 0 J J)) (Zq J (Zd J) (Zq J (Yo (ts J) J J ?_) ?_))))
  ·omega
  refine Zq J (Yj (tn J) J (Xl hc' hb') J) (Zq J (Ex_neqFld0 J J) (Wi (Zc (Xn J (Zo (Zt (Zc (Zb (Za J (Zd J) ?_)))))))));refine Za J (Yn J J ?_) ?_;omega;refine Za J (Zf J) (Ze ?_);refine Z1 (i+1) ?_ (by omega) 0 J (J) ⟨J,J,J,trivial⟩;omega
 ·intro c2;refine Yd (Yc (Z5 (Yb (Zc (Zg (Zg (Zb (Za J (Zf J) (Ze (Zc (Zn ?_)))))))))));refine Yf (Yg (X:=Nat) (fun k=>[(2,pt b0),(3,pt b1),(6,iN k)]) _ _ (fun k=>[(b1,clV c (.slice q1 c.fields.length d1) (.slice q2 c.methods.length d2)),(b0,clV c (.slice p1 c.fields.length e1) (.slice p2 c.methods.length e2))]) (fun k=>Asr.none) (fun k=>k≤c.methods.length) (fun k=>c.methods.length - k) (0) (Nat.zero_le _) ?_) ⟨J,J,J,trivial⟩;intro k hI;refine Zg (Zg (Zb (Za J (Zd J) (Za J (Zh (ff J) J) (Za J (Zj (t1 J) J (Zi 1 J J)) (Za J (Zx (ts J) J) (Za J (Yi J J) (Ze (Zc (Zu J ?_ ?_))))))))))
  ·intro c4;have hk:k<c.methods.length:=by omega
   obtain ⟨b,o,r,hp,hb,⟨pv,cv,hv,gv,hr,hmp⟩,hc⟩:=hr2.out k c.methods[k] (List.getElem?_eq_getElem hk);obtain ⟨b',o',r',hp',hb',⟨pv',cv',hv',gv',hr',hmp'⟩,hc'⟩:=hs2.out k c.methods[k] (List.getElem?_eq_getElem hk);subst hp;subst hr;subst hp';subst hr';refine Zo (Zc (Zg (Zn (Zg (Ws X2 (by kernel_rfl) ?_)))));refine Zq J (Zh (ff J) J) (Zq J (Zj (t1 J) J (Zi 1 J J)) (Zq J (Zd J) (Zq J (Yo (ts J) J J ?_) ?_)))
   ·omega
   refine Zq J (Yj (tn J) J (Xl hc hb) J) (Zq J (Zh (ff J) J) (Zq J (Zj (t1 J) J (Zi 0 J J)) (Zq J (Zd J) (Zq J (Yo (ts J) J J ?_) ?_))))
   ·omega
   refine Zq J (Yj (tn J) J (Xl hc' hb') J) (Sf fn53 J J (fun w hs=>P9 c.methods[k] _ _ _ _ _ _ _ _ w (hmp.mono (Xx hs)) (hmp'.mono (Xx hs))) ?_);refine Zq J (Zf J) (Wi (Zc (Zg (Zb (Za J (Zd J) (Za J (Xv J) (Ze (Zc (Xn J (Zo (Zt (Zc (Zb (Za J (Zd J) ?_))))))))))))));refine Za J (Yn J J ?_) ?_;omega;refine Za J (Zf J) (Ze ?_);refine Z1 (k+1) ?_ (by omega) 0 J (J) ⟨J,J,J,trivial⟩;omega
  ·intro c4;refine Yd (Yc (Z5 (Yb (Zc (Zg (Zb (Za J (Zf J) (Ze (Zc (Zr (Z3 J J ?_)))))))))));rfl
theorem num_any (k:Int) (w:World):Vc Tryz.prog 48 #[.int .i64 k] w (.int .i64 k):=by
 refine Xf (args:=[.int .i64 k]) Tryz.func48 J Tryz.ntmps48 ?_;refine Zg (Zb (Za J (Zf J) (Ze (Zc (Zg (Zb (Za J (Zd J) (Za J (Zf J) (Ze (Zc (Zr (Z3 J J ?_))))))))))));rfl
theorem clA_one {w:World} {c:Cl} {k:ClM} (h:(clA c k).A w):(clV c k.fv k.mv).all (·.oneCell')=true:=clV_one c (Sz h.1) (Sz h.2.1.1)
end
namespace E
open Go Go.RowKit
theorem Ex_eqlFld1 {n:Nat} {E:Env} {w0:World} {F:List Nat} {H:Hp} {R:Asr} {t':TypeId} {x y:Operand} {m:ByteArray} {b:Bool} {a:Int} {s:ByteArray} (hx:ev E x=some (.agg #[.string m,.bool b,.int .i64 a,.string s])) (hy:ev E y=some (.agg #[.string m,.bool b,.int .i64 a,.string s])):Ex Tryz.prog n E w0 F H R (.binOp .eql 128 x y t') (.bool true) :=
 Ex_eqlN (r:=true) (by kernel_rfl) hx hy (fun w=>teFd m b a s w)
end E
section
open Go Go.RowKit At E
def markAt (w:World) (u:Value) (m:List Value):Prop:=∃ p n c,u=.slice p n c∧n≤maxLen∧∀ j,j<n→∃ g,p=some ⟨g,0,none⟩∧g<w.heap.size∧∀ t x,m[t]?=some x→w.cell? ⟨g,0+j*m.length+t,none⟩=some x
theorem markAt_of {w:World} {u:Value} {m:List Value} {x0:Value} (h0:m[0]?=some x0) (h:marked w u m):markAt w u m:=by
 obtain ⟨p,n,c,rfl,hb,hn⟩:=h;refine ⟨p,n,c,J,hb,fun j hj=>?_⟩;obtain ⟨g,rfl,hc⟩:=hn (by omega);refine ⟨g,J,World.block_lt_of_cell? w ⟨g,j*m.length+0,none⟩ (hc j 0 x0 hj h0),fun t x hx=>?_⟩;rw [Nat.zero_add];exact hc j t x hj hx
structure SortAt (w:World) (v:Value) (mk:Nat→List Value) (vs:List Value):Prop where
 is:∃ p c,v=.slice p vs.length c∧vs.length≤1099511627776∧∀ i u,vs[i]?=some u→∃ g,p=some ⟨g,0,none⟩∧g<w.heap.size∧w.cell? ⟨g,0+i*1,none⟩=some u∧markAt w u (mk (i/4))
theorem Qm {w:World} {e:Nat} {v:Value} {mk:Nat→List Value} {vs:List Value} (h:(Wl e mk v vs).A w) (hl:vs.length≤1099511627776) (hm:∀ q,∃ x,(mk q)[0]?=some x):SortAt w v mk vs:=by
 obtain ⟨p,c,rfl,hp⟩:=Xr h.1;refine ⟨p,c,J,hl,fun i u hi=>?_⟩
 have hlt:i<vs.length:=by
  rcases Nat.lt_or_ge i vs.length with h' | h'
  ·exact h'
  ·rw [List.getElem?_eq_none h'] at hi;cases hi
 obtain ⟨g,rfl⟩:=hp (by omega);have hc:=h.1.cells (g:=g) rfl i u hi;rw [Addr.add_lit] at hc;obtain ⟨x,hx⟩:=hm (i/4);refine ⟨g,J,(h.1.lt g J).2,by rw [Nat.mul_one];exact hc,markAt_of hx (h.2.1 i u hi)⟩
structure BookAt (w:World) (b:Nat) (k:Bk):Prop where
 cells:∀ j x,k.C[j]?=some x→w.cell? ⟨b,j,none⟩=some x
 lt:b<w.heap.size
 t:SortAt w k.vT Nl k.sT
 i:SortAt w k.vI N4 k.sI
 f:SortAt w k.vF Mg k.sF
 m:SortAt w k.vM Ny k.sM
 h:SortAt w k.vH N6 k.sH
 r:SortAt w k.vR N9 k.sR
 b:SortAt w k.vB Ml k.sB
theorem markAt.mono {w w':World} {u:Value} {m:List Value} (h:markAt w u m) (hb:Below w.heap.size w w'):markAt w' u m:=by
 obtain ⟨p,n,c,rfl,hn,hj⟩:=h;refine ⟨p,n,c,J,hn,fun j hjn=>?_⟩;obtain ⟨g,rfl,hg,hc⟩:=hj j hjn;exact ⟨g,J,Nat.lt_of_lt_of_le hg hb.size,fun t x hx=>by rw [hb.cell (p:=⟨g,0+j*m.length+t,none⟩) hg];exact hc t x hx⟩
theorem SortAt.mono {w w':World} {v:Value} {mk:Nat→List Value} {vs:List Value} (h:SortAt w v mk vs) (hb:Below w.heap.size w w'):SortAt w' v mk vs:=by
 obtain ⟨p,c,hv,hl,hr⟩:=h.is;refine ⟨p,c,hv,hl,fun i u hi=>?_⟩;obtain ⟨g,hp,hg,hc,hm⟩:=hr i u hi;exact ⟨g,hp,Nat.lt_of_lt_of_le hg hb.size,by rw [hb.cell (p:=⟨g,0+i*1,none⟩) hg];exact hc,hm.mono hb⟩
theorem BookAt.mono {w w':World} {b:Nat} {k:Bk} (h:BookAt w b k) (hb:Below w.heap.size w w'):BookAt w' b k :=
 ⟨fun j x hx=>by rw [hb.cell (p:=⟨b,j,none⟩) h.lt];exact h.cells j x hx,Nat.lt_of_lt_of_le h.lt hb.size,h.t.mono hb,h.i.mono hb,h.f.mono hb,h.m.mono hb,h.h.mono hb,h.r.mono hb,h.b.mono hb⟩
theorem bookAt_of {w0 w:World} {F:List Nat} {H:Hp} {R:Asr} {b i:Nat} {k:Bk} {N:Nat} (hs:Sat w0 F H R w) (hp:H[i]?=some (b,k.C)) (hR:(S8 k).A w) (hk:BkOk k N) (hN:N≤1099511627776):BookAt w b k:=by
 have hc:=S0 hs hp;have ht:=hk.t;have hi:=hk.i;have hf:=hk.f;have hm:=hk.m;have hh:=hk.h;have hr:=hk.r;have hB:=hk.b
 exact ⟨hc.1,hc.2,Qm hR.1.1 (by omega) (fun q=>⟨_,J⟩),Qm hR.1.2.1.1 (by omega) (fun q=>⟨_,J⟩),Qm hR.1.2.1.2.1.1 (by omega) (fun q=>⟨_,J⟩),
  Qm hR.1.2.1.2.1.2.1.1 (by omega) (fun q=>⟨_,rfl⟩),Qm hR.1.2.1.2.1.2.1.2.1.1 (by omega) (fun q=>⟨_,rfl⟩),Qm hR.1.2.1.2.1.2.1.2.1.2.1 (by omega) (fun q=>⟨_,rfl⟩),Qm hR.2.1 (by omega) (fun q=>⟨_,rfl⟩)⟩
theorem Of (i:Nat) (h:i≤1099511627776):IntKind.i64.wrap (100+IntKind.i64.wrap (((i:Nat):Int).tdiv 4))=100+((i/4:Nat):Int):=by rw [quo4 _ h];exact Tu _ (by omega)
theorem Ql (w:World):Yu w W0 []:=⟨none,0,rfl,⟨by simp,by simp⟩,fun i x hi=>by simp at hi⟩
set_option maxHeartbeats 4000000 in
theorem code_any (b:Nat) (bk:Bk) (w:World) (hk:BookAt w b bk):Vc Tryz.prog 51 #[pt b] w (.bool true):=by
 obtain ⟨vT,vI,vF,vM,vH,vR,vB,sT,sI,sF,sM,sH,sR,sB⟩:=bk;have hbc:=hk.cells;have hblt:=hk.lt;obtain ⟨pT,cT,hvT,hnT,hyT⟩:=hk.t.is;obtain ⟨pI,cI,hvI,hnI,hyI⟩:=hk.i.is;obtain ⟨pF,cF,hvF,hnF,hyF⟩:=hk.f.is;obtain ⟨pM,cM,hvM,hnM,hyM⟩:=hk.m.is;obtain ⟨pH,cH,hvH,hnH,hyH⟩:=hk.h.is;obtain ⟨pR,cR,hvR,hnR,hyR⟩:=hk.r.is;obtain ⟨pB,cB,hvB,hnB,hyB⟩:=hk.b.is;clear hk;dsimp only at hvT hnT hyT hvI hnI hyI hvF hnF hyF hvM hnM hyM hvH hnH hyH hvR hnR hyR hvB hnB hyB hbc;subst hvT;subst hvI;subst hvF;subst hvM;subst hvH;subst hvR;subst hvB;replace hyT:Hid _:=hyT;replace hyI:Hid _:=hyI;replace hyF:Hid _:=hyF;replace hyM:Hid _:=hyM;replace hyH:Hid _:=hyH;replace hyR:Hid _:=hyR;replace hyB:Hid _:=hyB;replace hbc:∀ j x,(bkC (.slice pT sT.length cT) (.slice pI sI.length cI) (.slice pF sF.length cF) (.slice pM sM.length cM) (.slice pH sH.length cH) (.slice pR sR.length cR) (.slice pB sB.length cB))[j]?=some x→w.cell? ⟨b,j,none⟩=some x:=hbc;refine Xf (args:=[pt b]) Tryz.func51 J Tryz.ntmps51 ?_;refine Zg (Zb (Za J (Zf J) (Ze (Zc (Zg (Zg (Zb (Za J (Zf J) (Ze (Zc (Zn ?_)))))))))));refine Yf (Yg (X:=Nat) (fun i1=>[(0,pt b),(3,iN i1)]) _ _ (fun i1=>[]) (fun i1=>Asr.none) (fun i1=>i1≤sT.length) (fun i1=>sT.length - i1) (0) (Nat.zero_le _) ?_) ⟨J,J,trivial⟩;intro i1 hI;refine Zg (Zg (Zb (Za J (Zd J) (Za J (Zd J) (Za J (Zw J) (Za J (Zh (ff J) J) (Za J (Zh (ff J) J) (Za J (Zj (t1 J) J (Z6 (hbc 0 _ J) hblt)) (Za J (Zx (ts J) J) (Za J (Yi J J) (Ze (Zc (Zu J ?_ ?_)))))))))))))
 ·intro c1;have hiT:i1<sT.length:=by omega
  obtain ⟨uT,huT⟩:∃ u,sT[i1]?=some u:=⟨_,List.getElem?_eq_getElem hiT⟩;obtain ⟨gT,hgT,hlT,hcT,puT,nuT,cuT,hueT,hubT,hmT⟩:=hyT.out i1 uT huT;subst hgT;subst hueT;unfold maxLen at hubT;refine Zo (Zc (Zg (Zn (Zg (Zb (Za J (Zf J) (Ze (Zc (Zn ?_)))))))));refine Yf (Yg (X:=Nat) (fun k1=>[(0,pt b),(3,iN i1),(4,iN k1)]) _ _ (fun k1=>[]) (fun k1=>Asr.none) (fun k1=>k1≤nuT) (fun k1=>nuT - k1) (0) (Nat.zero_le _) ?_) ⟨J,J,J,trivial⟩;intro k1 hI;refine Zg (Zg (Zb (Za J (Zd J) (Za J (Zd J) (Za J (Zw J) (Za J (Zh (ff J) J) (Za J (Zh (ff J) J) (Za J (Zj (t1 J) J (Z6 (hbc 0 _ J) hblt)) (Za J (Zd J) (Za J (Yo (ts J) J J ?_) ?_))))))))))
  ·omega
  refine Za J (Zj (t1 J) J (Z6 hcT hlT)) (Za J (Zx (ts J) J) (Za J (Yi J J) (Ze (Zc (Zu J ?_ ?_)))))
  ·intro c2;obtain ⟨qT,hqT,hqlT,hqcT⟩:=hmT k1 (by omega);subst hqT;refine Zo (Zc (Zg (Zn (Zg (Zb (Za J (Zd J) (Za J (Zw J) (Za J (Zh (ff J) J) (Za J (Zh (ff J) J) (Za J (Zj (t1 J) J (Z6 (hbc 0 _ J) hblt)) (Za J (Zd J) (Za J (Yo (ts J) J J ?_) ?_))))))))))))
   ·omega
   refine Za J (Zj (t1 J) J (Z6 hcT hlT)) (Za J (Zd J) (Za J (Yo (ts J) J J ?_) ?_))
   ·omega
   refine Za J (Yj (tn J) J (Xl hqcT hqlT) J) (Za J (Zd J) (Za J (Sv J J J) (Za J (Qe J J) (Wt (s:=50) (v':=.int .i64 (100+((i1/4:Nat):Int))) J (congrArg (Value.int .i64) (Of _ (by omega))) ?_))));refine Za J (Z8 (tb J) J J) (Za J (Ex_neqTy0 J J) (Ze (Zc (Xn J (Zo (Zt (Zc (Zb (Za J (Zd J) ?_)))))))));refine Za J (Yn J J ?_) ?_;omega;refine Za J (Zf J) (Ze ?_);refine Z1 (k1+1) ?_ (by omega) 0 J (J) ⟨J,J,J,trivial⟩;omega
  ·intro c2;refine Yd (Yc (Z5 (Yb (Zt (Zc (Zb (Za J (Zd J) ?_)))))));refine Za J (Yn J J ?_) ?_;omega;refine Za J (Zf J) (Ze ?_);refine Z1 (i1+1) ?_ (by omega) 0 J (J) ⟨J,J,trivial⟩;omega
 ·intro c1;refine Yd (Yc (Z5 (Yb (Zc (Zg (Zg (Zb (Za J (Zf J) (Ze (Zc (Zn ?_)))))))))));refine Yf (Yg (X:=Nat) (fun i2=>[(0,pt b),(5,iN i2)]) _ _ (fun i2=>[]) (fun i2=>Asr.none) (fun i2=>i2≤sI.length) (fun i2=>sI.length - i2) (0) (Nat.zero_le _) ?_) ⟨J,J,trivial⟩;intro i2 hI;refine Zg (Zg (Zb (Za J (Zd J) (Za J (Zd J) (Za J (Zw J) (Za J (Zh (ff J) J) (Za J (Zh (ff J) J) (Za J (Zj (t1 J) J (Z6 (hbc 1 _ J) hblt)) (Za J (Zx (ts J) J) (Za J (Yi J J) (Ze (Zc (Zu J ?_ ?_)))))))))))))
  ·intro c4;have hiI:i2<sI.length:=by omega
   obtain ⟨uI,huI⟩:∃ u,sI[i2]?=some u:=⟨_,List.getElem?_eq_getElem hiI⟩;obtain ⟨gI,hgI,hlI,hcI,puI,nuI,cuI,hueI,hubI,hmI⟩:=hyI.out i2 uI huI;subst hgI;subst hueI;unfold maxLen at hubI;refine Zo (Zc (Zg (Zn (Zg (Zb (Za J (Zf J) (Ze (Zc (Zn ?_)))))))));refine Yf (Yg (X:=Nat) (fun k2=>[(0,pt b),(5,iN i2),(6,iN k2)]) _ _ (fun k2=>[]) (fun k2=>Asr.none) (fun k2=>k2≤nuI) (fun k2=>nuI - k2) (0) (Nat.zero_le _) ?_) ⟨J,J,J,trivial⟩;intro k2 hI;refine Zg (Zg (Zb (Za J (Zd J) (Za J (Zd J) (Za J (Zw J) (Za J (Zh (ff J) J) (Za J (Zh (ff J) J) (Za J (Zj (t1 J) J (Z6 (hbc 1 _ J) hblt)) (Za J (Zd J) (Za J (Yo (ts J) J J ?_) ?_))))))))))
   ·omega
   refine Za J (Zj (t1 J) J (Z6 hcI hlI)) (Za J (Zx (ts J) J) (Za J (Yi J J) (Ze (Zc (Zu J ?_ ?_)))))
   ·intro c5;obtain ⟨qI,hqI,hqlI,hqcI⟩:=hmI k2 (by omega);subst hqI;refine Zo (Zc (Zg (Zn (Zg (Zb (Za J (Zd J) (Za J (Zw J) (Za J (Zh (ff J) J) (Za J (Zh (ff J) J) (Za J (Zj (t1 J) J (Z6 (hbc 1 _ J) hblt)) (Za J (Zd J) (Za J (Yo (ts J) J J ?_) ?_))))))))))))
    ·omega
    refine Za J (Zj (t1 J) J (Z6 hcI hlI)) (Za J (Zd J) (Za J (Yo (ts J) J J ?_) ?_))
    ·omega
    refine Za J (Yj (tn J) J (Xl hqcI hqlI) J) (Yk J (tz J) ?_);intro b0 hb0;refine Z2 (tn J) J J 0 J J J J (Ze (Zc (Zg (Zb (Za J (Zh (ff J) J) (Za J (Zv (tn J) J 0 J J) (Za J (Z8 (tb J) J J) (Yq fn92 J J (fun w _=>sameRef_any rf0 W0 W0 w (Ql w) (Ql w)) ?_))))))));refine Za J (Zf J) (Ze (Zc (Zg (Zb (Za J (Zd J) (Za J (Xv J) (Za J (Zd J) (Zk J J J (Zh (ff J) J) (Zk J J J (Zj (t1 J) J (Zi 0 J J)) (Zk J J J (Zd J) ?_))))))))));try (refine Wt (s:=98) (v':=.int .i64 (100+((i2/4:Nat):Int))) rfl (congrArg (Value.int .i64) (Of _ (by omega))) ?_)
    refine Zk J J J (Sv J J J) ?_;try (refine Wt (s:=98) (v':=.int .i64 (100+((i2/4:Nat):Int))) rfl (congrArg (Value.int .i64) (Of _ (by omega))) ?_)
    refine Zk J J J (Qe J J) ?_;try (refine Wt (s:=98) (v':=.int .i64 (100+((i2/4:Nat):Int))) rfl (congrArg (Value.int .i64) (Of _ (by omega))) ?_)
    refine Zk J J J (Uy J J) (Za J (Zs J J) (Za J (Zd J) (Zk J J J (Zh (ff J) J) (Zk J J J (Zj (t1 J) J (Zi 0 J J)) ?_))));try (refine Wt (s:=98) (v':=.int .i64 (100+((i2/4:Nat):Int))) rfl (congrArg (Value.int .i64) (Of _ (by omega))) ?_)
    refine Zk J J J (Uy J J) (Za J (Zs J J) (Ze (Zc (Xn J (Zo (Zt (Zc (Zb (Za J (Zd J) ?_)))))))));refine Za J (Yn J J ?_) ?_;omega;refine Za J (Zf J) (Ze ?_);refine Z1 (k2+1) ?_ (by omega) 1 J (J) ⟨J,J,J,trivial⟩;omega
   ·intro c5;refine Yd (Yc (Z5 (Yb (Zt (Zc (Zb (Za J (Zd J) ?_)))))));refine Za J (Yn J J ?_) ?_;omega;refine Za J (Zf J) (Ze ?_);refine Z1 (i2+1) ?_ (by omega) 0 J (J) ⟨J,J,trivial⟩;omega
  ·intro c4;refine Yd (Yc (Z5 (Yb (Zc (Zg (Zg (Zb (Za J (Zf J) (Ze (Zc (Zn ?_)))))))))));refine Yf (Yg (X:=Nat) (fun i3=>[(0,pt b),(9,iN i3)]) _ _ (fun i3=>[]) (fun i3=>Asr.none) (fun i3=>i3≤sH.length) (fun i3=>sH.length - i3) (0) (Nat.zero_le _) ?_) ⟨J,J,trivial⟩;intro i3 hI;refine Zg (Zg (Zb (Za J (Zd J) (Za J (Zd J) (Za J (Zw J) (Za J (Zh (ff J) J) (Za J (Zh (ff J) J) (Za J (Zj (t1 J) J (Z6 (hbc 4 _ J) hblt)) (Za J (Zx (ts J) J) (Za J (Yi J J) (Ze (Zc (Zu J ?_ ?_)))))))))))))
   ·intro c7;have hiH:i3<sH.length:=by omega
    obtain ⟨uH,huH⟩:∃ u,sH[i3]?=some u:=⟨_,List.getElem?_eq_getElem hiH⟩;obtain ⟨gH,hgH,hlH,hcH,puH,nuH,cuH,hueH,hubH,hmH⟩:=hyH.out i3 uH huH;subst hgH;subst hueH;unfold maxLen at hubH;refine Zo (Zc (Zg (Zn (Zg (Zb (Za J (Zf J) (Ze (Zc (Zn ?_)))))))));refine Yf (Yg (X:=Nat) (fun k3=>[(0,pt b),(9,iN i3),(10,iN k3)]) _ _ (fun k3=>[]) (fun k3=>Asr.none) (fun k3=>k3≤nuH) (fun k3=>nuH - k3) (0) (Nat.zero_le _) ?_) ⟨J,J,J,trivial⟩;intro k3 hI;refine Zg (Zg (Zb (Za J (Zd J) (Za J (Zd J) (Za J (Zw J) (Za J (Zh (ff J) J) (Za J (Zh (ff J) J) (Za J (Zj (t1 J) J (Z6 (hbc 4 _ J) hblt)) (Za J (Zd J) (Za J (Yo (ts J) J J ?_) ?_))))))))))
    ·omega
    refine Za J (Zj (t1 J) J (Z6 hcH hlH)) (Za J (Zx (ts J) J) (Za J (Yi J J) (Ze (Zc (Zu J ?_ ?_)))))
    ·intro c8;obtain ⟨qH,hqH,hqlH,hqcH⟩:=hmH k3 (by omega);subst hqH;refine Zo (Zc (Zg (Zn (Zg (Zb (Za J (Zd J) (Za J (Zw J) (Za J (Zh (ff J) J) (Za J (Zh (ff J) J) (Za J (Zj (t1 J) J (Z6 (hbc 4 _ J) hblt)) (Za J (Zd J) (Za J (Yo (ts J) J J ?_) ?_))))))))))))
     ·omega
     refine Za J (Zj (t1 J) J (Z6 hcH hlH)) (Za J (Zd J) (Za J (Yo (ts J) J J ?_) ?_))
     ·omega
     refine Za J (Yj (tn J) J (Xl hqcH hqlH) J) (Za J (Zd J) (Za J (Sv J J J) (Za J (Qe J J) (Wt (s:=142) (v':=.int .i64 (100+((i3/4:Nat):Int))) J (congrArg (Value.int .i64) (Of _ (by omega))) ?_))));refine Za J (Z8 (tb J) J J) (Za J (Ex_neqHd0 J J) (Ze (Zc (Xn J (Zo (Zt (Zc (Zb (Za J (Zd J) ?_)))))))));refine Za J (Yn J J ?_) ?_;omega;refine Za J (Zf J) (Ze ?_);refine Z1 (k3+1) ?_ (by omega) 0 J (J) ⟨J,J,J,trivial⟩;omega
    ·intro c8;refine Yd (Yc (Z5 (Yb (Zt (Zc (Zb (Za J (Zd J) ?_)))))));refine Za J (Yn J J ?_) ?_;omega;refine Za J (Zf J) (Ze ?_);refine Z1 (i3+1) ?_ (by omega) 0 J (J) ⟨J,J,trivial⟩;omega
   ·intro c7;refine Yd (Yc (Z5 (Yb (Zc (Zg (Zg (Zb (Za J (Zf J) (Ze (Zc (Zn ?_)))))))))));refine Yf (Yg (X:=Nat) (fun i4=>[(0,pt b),(11,iN i4)]) _ _ (fun i4=>[]) (fun i4=>Asr.none) (fun i4=>i4≤sR.length) (fun i4=>sR.length - i4) (0) (Nat.zero_le _) ?_) ⟨J,J,trivial⟩;intro i4 hI;refine Zg (Zg (Zb (Za J (Zd J) (Za J (Zd J) (Za J (Zw J) (Za J (Zh (ff J) J) (Za J (Zh (ff J) J) (Za J (Zj (t1 J) J (Z6 (hbc 5 _ J) hblt)) (Za J (Zx (ts J) J) (Za J (Yi J J) (Ze (Zc (Zu J ?_ ?_)))))))))))))
    ·intro c10;have hiR:i4<sR.length:=by omega
     obtain ⟨uR,huR⟩:∃ u,sR[i4]?=some u:=⟨_,List.getElem?_eq_getElem hiR⟩;obtain ⟨gR,hgR,hlR,hcR,puR,nuR,cuR,hueR,hubR,hmR⟩:=hyR.out i4 uR huR;subst hgR;subst hueR;unfold maxLen at hubR;refine Zo (Zc (Zg (Zn (Zg (Zb (Za J (Zf J) (Ze (Zc (Zn ?_)))))))));refine Yf (Yg (X:=Nat) (fun k4=>[(0,pt b),(11,iN i4),(12,iN k4)]) _ _ (fun k4=>[]) (fun k4=>Asr.none) (fun k4=>k4≤nuR) (fun k4=>nuR - k4) (0) (Nat.zero_le _) ?_) ⟨J,J,J,trivial⟩;intro k4 hI;refine Zg (Zg (Zb (Za J (Zd J) (Za J (Zd J) (Za J (Zw J) (Za J (Zh (ff J) J) (Za J (Zh (ff J) J) (Za J (Zj (t1 J) J (Z6 (hbc 5 _ J) hblt)) (Za J (Zd J) (Za J (Yo (ts J) J J ?_) ?_))))))))))
     ·omega
     refine Za J (Zj (t1 J) J (Z6 hcR hlR)) (Za J (Zx (ts J) J) (Za J (Yi J J) (Ze (Zc (Zu J ?_ ?_)))))
     ·intro c11;obtain ⟨qR,hqR,hqlR,hqcR⟩:=hmR k4 (by omega);subst hqR;refine Zo (Zc (Zg (Zn (Zg (Zb (Za J (Zd J) (Za J (Zw J) (Za J (Zh (ff J) J) (Za J (Zh (ff J) J) (Za J (Zj (t1 J) J (Z6 (hbc 5 _ J) hblt)) (Za J (Zd J) (Za J (Yo (ts J) J J ?_) ?_))))))))))))
      ·omega
      refine Za J (Zj (t1 J) J (Z6 hcR hlR)) (Za J (Zd J) (Za J (Yo (ts J) J J ?_) ?_))
      ·omega
      refine Za J (Yj (tn J) J (Xl hqcR hqlR) J) (Yk J (tz J) ?_);intro b0 hb0;refine Z2 (tn J) J J 0 J J J J (Ze (Zc (Zg (Zb (Za J (Zh (ff J) J) (Za J (Zj (t1 J) J (Zi 0 J J)) (Za J (Zd J) ?_)))))));try (refine Wt (s:=183) (v':=.int .i64 (100+((i4/4:Nat):Int))) rfl (congrArg (Value.int .i64) (Of _ (by omega))) ?_)
      refine Za J (Sv J J J) ?_;try (refine Wt (s:=183) (v':=.int .i64 (100+((i4/4:Nat):Int))) rfl (congrArg (Value.int .i64) (Of _ (by omega))) ?_)
      refine Za J (Qe J J) ?_;try (refine Wt (s:=183) (v':=.int .i64 (100+((i4/4:Nat):Int))) rfl (congrArg (Value.int .i64) (Of _ (by omega))) ?_)
      refine Za J (Uy J J) (Za J (Zd J) (Zk J J J (Zh (ff J) J) (Zk J J J (Zj (t1 J) J (Zi 0 J J)) (Zk J J J (Zx (ts J) J) ?_))));try (refine Wt (s:=183) (v':=.int .i64 (100+((i4/4:Nat):Int))) rfl (congrArg (Value.int .i64) (Of _ (by omega))) ?_)
      refine Zk J J J (Ug J J) (Za J (Zs J J) (Za J (Zd J) (Z9 J J J ?_ ?_)))
      ·intro h1;exfalso;omega
      ·intro h1;refine Zk J J J (Zh (ff J) J) (Zk J J J (Zj (t1 J) J (Zi 0 J J)) (Zk J J J (Zx (ts J) J) ?_));try (refine Wt (s:=183) (v':=.int .i64 (100+((i4/4:Nat):Int))) rfl (congrArg (Value.int .i64) (Of _ (by omega))) ?_)
       refine Zk J J J (Ug J J) (Za J (Zs J J) (Ze (Zc (Zu J ?_ ?_))))
       ·intro c12;exfalso;omega
       ·intro c12;refine Zo (Zt (Zc (Zb (Za J (Zd J) ?_))));refine Za J (Yn J J ?_) ?_;omega;refine Za J (Zf J) (Ze ?_);refine Z1 (k4+1) ?_ (by omega) 1 J (J) ⟨J,J,J,trivial⟩;omega
     ·intro c11;refine Yd (Yc (Z5 (Yb (Zt (Zc (Zb (Za J (Zd J) ?_)))))));refine Za J (Yn J J ?_) ?_;omega;refine Za J (Zf J) (Ze ?_);refine Z1 (i4+1) ?_ (by omega) 0 J (J) ⟨J,J,trivial⟩;omega
    ·intro c10;refine Yd (Yc (Z5 (Yb (Zc (Zg (Zb (Za J (Zf J) (Ze (Zc (Zr (Z3 J J ?_)))))))))));rfl
end
namespace E
open Go Go.RowKit
theorem teBl1 (a s:ByteArray) (w:World):(Op.equalIn 10000 136 (.agg #[.string a,.string s]) (.agg #[.string a,.string s])).run Tryz.prog w=.ok true w:=by
 have hs:Tryz.prog.stoodInHeld 136=false:=by kernel_rfl
 have h3:∀ w:World,(Op.equalIn 9999 9 (.string a) (.string a)).run Tryz.prog w=.ok true w:=fun w=>teStr 9998 a w;have h9:∀ w:World,(Op.equalIn 9999 9 (.string s) (.string s)).run Tryz.prog w=.ok true w:=fun w=>teStr 9998 s w;have hu:=Tryz.underlying136;rw [show (10000:Nat)=9999+1 from rfl,Op.equalIn];simp only [Sem.run_bind,run_underlying hu,Result.andThen_ok,run_program,hs,Bool.false_eq_true,if_false];simp [part,isAgg,run_underlying (Sk (t:=9) rfl),h3,h9]
theorem Ex_eqlBl1 {n:Nat} {E:Env} {w0:World} {F:List Nat} {H:Hp} {R:Asr} {t':TypeId} {x y:Operand} {a s:ByteArray} (hx:ev E x=some (.agg #[.string a,.string s])) (hy:ev E y=some (.agg #[.string a,.string s])):Ex Tryz.prog n E w0 F H R (.binOp .eql 136 x y t') (.bool true) :=
 Ex_eqlN (r:=true) (by kernel_rfl) hx hy (fun w=>teBl1 a s w)
end E
section
open Go Go.RowKit At E
theorem inssAt_nil (w:World):Su w W0 []:=⟨none,0,rfl,⟨by simp,by simp⟩,fun i x hi=>by simp at hi⟩
theorem hdsAt_nil (w:World):HdsAt w W0 []:=⟨none,0,rfl,⟨by simp,by simp⟩,fun i x hi=>by simp at hi⟩
theorem frsAt_nil (w:World):Pg w W0 []:=⟨none,0,rfl,⟨by simp,by simp⟩,fun i x hi=>by simp at hi⟩
theorem textS_ok (n:Int):X5 (textS n):=by
 have:(textS n).size=5:=by unfold textS;rw [ByteArray.size_append];rfl
 unfold X5;omega
def lkMe (s:ByteArray):Me:=⟨s,false,[],⟨0,mt⟩,0,0,[],[],[]⟩
theorem lkMe_parts (n:Int) (w:World):MeParts w (lkMe (textS n)) W0 W0 W0 W0:=⟨Ql w,inssAt_nil w,hdsAt_nil w,frsAt_nil w,textS_ok n,tyOk_0,S2,S2⟩
set_option maxHeartbeats 4000000 in
theorem looks_any (b:Nat) (bk:Bk) (w:World) (hk:BookAt w b bk):Vc Tryz.prog 16 #[pt b] w (.bool true):=by
 have hcode:∀ w':World,Below w.heap.size w w'→Vc Tryz.prog 51 #[pt b] w' (.bool true):=fun w' hb=>code_any b bk w' (hk.mono hb);replace hcode:Hid _:=hcode;obtain ⟨vT,vI,vF,vM,vH,vR,vB,sT,sI,sF,sM,sH,sR,sB⟩:=bk;have hbc:=hk.cells;have hblt:=hk.lt;obtain ⟨pT,cT,hvT,hnT,hyT⟩:=hk.t.is;obtain ⟨pI,cI,hvI,hnI,hyI⟩:=hk.i.is;obtain ⟨pF,cF,hvF,hnF,hyF⟩:=hk.f.is;obtain ⟨pM,cM,hvM,hnM,hyM⟩:=hk.m.is;obtain ⟨pH,cH,hvH,hnH,hyH⟩:=hk.h.is;obtain ⟨pR,cR,hvR,hnR,hyR⟩:=hk.r.is;obtain ⟨pB,cB,hvB,hnB,hyB⟩:=hk.b.is;clear hk;dsimp only at hvT hnT hyT hvI hnI hyI hvF hnF hyF hvM hnM hyM hvH hnH hyH hvR hnR hyR hvB hnB hyB hbc;subst hvT;subst hvI;subst hvF;subst hvM;subst hvH;subst hvR;subst hvB;replace hyT:Hid _:=hyT;replace hyI:Hid _:=hyI;replace hyF:Hid _:=hyF;replace hyM:Hid _:=hyM;replace hyH:Hid _:=hyH;replace hyR:Hid _:=hyR;replace hyB:Hid _:=hyB;replace hbc:∀ j x,(bkC (.slice pT sT.length cT) (.slice pI sI.length cI) (.slice pF sF.length cF) (.slice pM sM.length cM) (.slice pH sH.length cH) (.slice pR sR.length cR) (.slice pB sB.length cB))[j]?=some x→w.cell? ⟨b,j,none⟩=some x:=hbc;refine Xf (args:=[pt b]) Tryz.func16 J Tryz.ntmps16 ?_;refine Zg (Zb (Za J (Zf J) (Ze (Zc (Zg (Zb (Za J (Zd J) (Yq fn51 J J (fun w' hs=>hcode.out w' (Xx hs)) ?_))))))));refine Za J (Zf J) (Ze (Zc (Zg (Zg (Zb (Za J (Zf J) (Ze (Zc (Zn ?_)))))))));refine Yf (Yg (X:=Nat) (fun i1=>[(0,pt b),(3,.bool true),(4,iN i1)]) _ _ (fun i1=>[]) (fun i1=>Asr.none) (fun i1=>i1≤sF.length) (fun i1=>sF.length - i1) (0) (Nat.zero_le _) ?_) ⟨J,J,J,trivial⟩;intro i1 hI;refine Zg (Zg (Zb (Za J (Zd J) (Za J (Zd J) (Za J (Zw J) (Za J (Zh (ff J) J) (Za J (Zh (ff J) J) (Za J (Zj (t1 J) J (Z6 (hbc 2 _ J) hblt)) (Za J (Zx (ts J) J) (Za J (Yi J J) (Za J (Zd J) (Z9 J J J ?_ ?_))))))))))))
 ·intro h1;have hiF:i1<sF.length:=by omega
  obtain ⟨uF,huF⟩:∃ u,sF[i1]?=some u:=⟨_,List.getElem?_eq_getElem hiF⟩;obtain ⟨gF,hgF,hlF,hcF,puF,nuF,cuF,hueF,hubF,hmF⟩:=hyF.out i1 uF huF;subst hgF;subst hueF;unfold maxLen at hubF;refine Zk J J J (Zd J) (Za J (Zp J J) (Ze (Zc (Yh J (Zo (Zc (Zg (Zn (Zg (Zb (Za J (Zf J) (Ze (Zc (Zn ?_))))))))))))));refine Yf (Yg (X:=Nat) (fun k1=>[(0,pt b),(3,.bool true),(4,iN i1),(5,iN k1)]) _ _ (fun k1=>[]) (fun k1=>Asr.none) (fun k1=>k1≤nuF) (fun k1=>nuF - k1) (0) (Nat.zero_le _) ?_) ⟨J,J,J,J,trivial⟩;intro k1 hI;refine Zg (Zg (Zb (Za J (Zd J) (Za J (Zd J) (Za J (Zw J) (Za J (Zh (ff J) J) (Za J (Zh (ff J) J) (Za J (Zj (t1 J) J (Z6 (hbc 2 _ J) hblt)) (Za J (Zd J) (Za J (Yo (ts J) J J ?_) ?_))))))))))
  ·omega
  refine Za J (Zj (t1 J) J (Z6 hcF hlF)) (Za J (Zx (ts J) J) (Za J (Yi J J) (Ze (Zc (Zu J ?_ ?_)))))
  ·intro c2;obtain ⟨qF,hqF,hqlF,hqcF⟩:=hmF k1 (by omega);subst hqF;refine Zo (Zc (Zg (Zn (Ws X2 (by kernel_rfl) ?_))));refine Zq J (Zd J) (Zq J (Zd J) (Z0 J J J (Zd J) (Z0 J J J (Zw J) (Z0 J J J (Zh (ff J) J) (Z0 J J J (Zh (ff J) J) (Z0 J J J (Zj (t1 J) J (Z6 (hbc 2 _ J) hblt)) (Z0 J J J (Zd J) (Z0 J J J (Yo (ts J) J J ?_) ?_))))))))
   ·omega
   refine Z0 J J J (Zj (t1 J) J (Z6 hcF hlF)) (Z0 J J J (Zd J) (Z0 J J J (Yo (ts J) J J ?_) ?_))
   ·omega
   refine Z0 J J J (Yj (tn J) J (Xl hqcF hqlF) J) (Z0 J J J (Zd J) (Z0 J J J (Sv J J J) (WO_same (s:=59) (v':=.int .i64 ((i1/4:Nat):Int)) J (congrArg (Value.int .i64) (quo4 _ (by omega))) ?_)));refine WO_callYes fn52 J J J J (fun w _=>Nn ((i1/4:Nat):Int) w) ?_;refine Z0 J J J (Z8 (tb J) J J) (Z0 J J J (Ex_eqlFld1 J J) (Zq J (Zp J J) (Zq J (Zf J) (Wi (Zt (Zc (Zb (Za J (Zd J) ?_))))))));refine Za J (Yn J J ?_) ?_;omega;refine Za J (Zf J) (Ze ?_);refine Z1 (k1+1) ?_ (by omega) 0 J (J) ⟨J,J,J,J,trivial⟩;omega
  ·intro c2;refine Yd (Yc (Z5 (Yb (Zt (Zc (Zb (Za J (Zd J) ?_)))))));refine Za J (Yn J J ?_) ?_;omega;refine Za J (Zf J) (Ze ?_);refine Z1 (i1+1) ?_ (by omega) 0 J (J) ⟨J,J,J,trivial⟩;omega
 ·intro h1;refine Zm J J J (Za J (Zs J J) (Ze (Zc (Xn J (Yd (Yc (Z5 (Yb (Zc (Zg (Zg (Zb (Za J (Zf J) (Ze (Zc (Zn ?_))))))))))))))));refine Yf (Yg (X:=Nat) (fun i2=>[(0,pt b),(3,.bool true),(6,iN i2)]) _ _ (fun i2=>[]) (fun i2=>Asr.none) (fun i2=>i2≤sM.length) (fun i2=>sM.length - i2) (0) (Nat.zero_le _) ?_) ⟨J,J,J,trivial⟩;intro i2 hI;refine Zg (Zg (Zb (Za J (Zd J) (Za J (Zd J) (Za J (Zw J) (Za J (Zh (ff J) J) (Za J (Zh (ff J) J) (Za J (Zj (t1 J) J (Z6 (hbc 3 _ J) hblt)) (Za J (Zx (ts J) J) (Za J (Yi J J) (Za J (Zd J) (Z9 J J J ?_ ?_))))))))))))
  ·intro h2;have hiM:i2<sM.length:=by omega
   obtain ⟨uM,huM⟩:∃ u,sM[i2]?=some u:=⟨_,List.getElem?_eq_getElem hiM⟩;obtain ⟨gM,hgM,hlM,hcM,puM,nuM,cuM,hueM,hubM,hmM⟩:=hyM.out i2 uM huM;subst hgM;subst hueM;unfold maxLen at hubM;refine Zk J J J (Zd J) (Za J (Zp J J) (Ze (Zc (Yh J (Zo (Zc (Zg (Zn (Zg (Zb (Za J (Zf J) (Ze (Zc (Zn ?_))))))))))))));refine Yf (Yg (X:=Nat) (fun k2=>[(0,pt b),(3,.bool true),(6,iN i2),(7,iN k2)]) _ _ (fun k2=>[]) (fun k2=>Asr.none) (fun k2=>k2≤nuM) (fun k2=>nuM - k2) (0) (Nat.zero_le _) ?_) ⟨J,J,J,J,trivial⟩;intro k2 hI;refine Zg (Zg (Zb (Za J (Zd J) (Za J (Zd J) (Za J (Zw J) (Za J (Zh (ff J) J) (Za J (Zh (ff J) J) (Za J (Zj (t1 J) J (Z6 (hbc 3 _ J) hblt)) (Za J (Zd J) (Za J (Yo (ts J) J J ?_) ?_))))))))))
   ·omega
   refine Za J (Zj (t1 J) J (Z6 hcM hlM)) (Za J (Zx (ts J) J) (Za J (Yi J J) (Ze (Zc (Zu J ?_ ?_)))))
   ·intro c4;obtain ⟨qM,hqM,hqlM,hqcM⟩:=hmM k2 (by omega);subst hqM;refine Zo (Zc (Zg (Zn (Zg (Ws X2 (by kernel_rfl) ?_)))));refine Zq J (Zd J) (Zq J (Zw J) (Zq J (Zh (ff J) J) (Zq J (Zh (ff J) J) (Zq J (Zj (t1 J) J (Z6 (hbc 3 _ J) hblt)) (Zq J (Zd J) (Zq J (Yo (ts J) J J ?_) ?_))))))
    ·omega
    refine Zq J (Zj (t1 J) J (Z6 hcM hlM)) (Zq J (Zd J) (Zq J (Yo (ts J) J J ?_) ?_))
    ·omega
    refine Zq J (Yj (tn J) J (Xl hqcM hqlM) J) (Zq J (Zd J) (Zq J (Sv J J J) ?_));try (refine WO_same (s:=102) (v':=.int .i64 ((i2/4:Nat):Int)) rfl (congrArg (Value.int .i64) (quo4 _ (by omega))) ?_)
    refine Sf fn52 J J (fun w _=>Nn ((i2/4:Nat):Int) w) ?_;refine Zq J (Z8 (tb J) J J) ?_;try (refine WO_same (s:=102) (v':=.int .i64 ((i2/4:Nat):Int)) rfl (congrArg (Value.int .i64) (quo4 _ (by omega))) ?_)
    refine Sf fn53 J J (fun w _=>P9 (lkMe (textS ((i2/4:Nat):Int))) W0 W0 W0 W0 W0 W0 W0 W0 w (lkMe_parts _ w) (lkMe_parts _ w)) ?_;refine Zq J (Zf J) (Wi (Zc (Zb (Za J (Zd J) (Za J (Zd J) (Zk J J J (Zd J) (Za J (Zp J J) (Za J (Zf J) (Ze (Zt (Zc (Zb (Za J (Zd J) ?_)))))))))))));refine Za J (Yn J J ?_) ?_;omega;refine Za J (Zf J) (Ze ?_);refine Z1 (k2+1) ?_ (by omega) 0 J (J) ⟨J,J,J,J,trivial⟩;omega
   ·intro c4;refine Yd (Yc (Z5 (Yb (Zt (Zc (Zb (Za J (Zd J) ?_)))))));refine Za J (Yn J J ?_) ?_;omega;refine Za J (Zf J) (Ze ?_);refine Z1 (i2+1) ?_ (by omega) 0 J (J) ⟨J,J,J,trivial⟩;omega
  ·intro h2;refine Zm J J J (Za J (Zs J J) (Ze (Zc (Xn J (Yd (Yc (Z5 (Yb (Zc (Zg (Zg (Zb (Za J (Zf J) (Ze (Zc (Zn ?_))))))))))))))));refine Yf (Yg (X:=Nat) (fun i3=>[(0,pt b),(3,.bool true),(9,iN i3)]) _ _ (fun i3=>[]) (fun i3=>Asr.none) (fun i3=>i3≤sB.length) (fun i3=>sB.length - i3) (0) (Nat.zero_le _) ?_) ⟨J,J,J,trivial⟩;intro i3 hI;refine Zg (Zg (Zb (Za J (Zd J) (Za J (Zd J) (Za J (Zw J) (Za J (Zh (ff J) J) (Za J (Zh (ff J) J) (Za J (Zj (t1 J) J (Z6 (hbc 6 _ J) hblt)) (Za J (Zx (ts J) J) (Za J (Yi J J) (Za J (Zd J) (Z9 J J J ?_ ?_))))))))))))
   ·intro h3;have hiB:i3<sB.length:=by omega
    obtain ⟨uB,huB⟩:∃ u,sB[i3]?=some u:=⟨_,List.getElem?_eq_getElem hiB⟩;obtain ⟨gB,hgB,hlB,hcB,puB,nuB,cuB,hueB,hubB,hmB⟩:=hyB.out i3 uB huB;subst hgB;subst hueB;unfold maxLen at hubB;refine Zk J J J (Zd J) (Za J (Zp J J) (Ze (Zc (Yh J (Zo (Zc (Zg (Zn (Zg (Zb (Za J (Zf J) (Ze (Zc (Zn ?_))))))))))))));refine Yf (Yg (X:=Nat) (fun k3=>[(0,pt b),(3,.bool true),(9,iN i3),(10,iN k3)]) _ _ (fun k3=>[]) (fun k3=>Asr.none) (fun k3=>k3≤nuB) (fun k3=>nuB - k3) (0) (Nat.zero_le _) ?_) ⟨J,J,J,J,trivial⟩;intro k3 hI;refine Zg (Zg (Zb (Za J (Zd J) (Za J (Zd J) (Za J (Zw J) (Za J (Zh (ff J) J) (Za J (Zh (ff J) J) (Za J (Zj (t1 J) J (Z6 (hbc 6 _ J) hblt)) (Za J (Zd J) (Za J (Yo (ts J) J J ?_) ?_))))))))))
    ·omega
    refine Za J (Zj (t1 J) J (Z6 hcB hlB)) (Za J (Zx (ts J) J) (Za J (Yi J J) (Ze (Zc (Zu J ?_ ?_)))))
    ·intro c6;obtain ⟨qB,hqB,hqlB,hqcB⟩:=hmB k3 (by omega);subst hqB;refine Zo (Zc (Zg (Zn (Ws X2 (by kernel_rfl) ?_))));refine Zq J (Zd J) (Zq J (Zd J) (Z0 J J J (Zd J) (Z0 J J J (Zw J) (Z0 J J J (Zh (ff J) J) (Z0 J J J (Zh (ff J) J) (Z0 J J J (Zj (t1 J) J (Z6 (hbc 6 _ J) hblt)) (Z0 J J J (Zd J) (Z0 J J J (Yo (ts J) J J ?_) ?_))))))))
     ·omega
     refine Z0 J J J (Zj (t1 J) J (Z6 hcB hlB)) (Z0 J J J (Zd J) (Z0 J J J (Yo (ts J) J J ?_) ?_))
     ·omega
     refine Z0 J J J (Yj (tn J) J (Xl hqcB hqlB) J) (Z0 J J J (Zd J) (Z0 J J J (Sv J J J) ?_));try (refine WO_same (s:=150) (v':=.int .i64 ((i3/4:Nat):Int)) rfl (congrArg (Value.int .i64) (quo4 _ (by omega))) ?_)
     refine WO_callYes fn52 J J J J (fun w _=>Nn ((i3/4:Nat):Int) w) ?_;refine Z0 J J J (Z8 (tb J) J J) (Z0 J J J (Ex_eqlBl1 J J) (Zq J (Zp J J) (Zq J (Zf J) (Wi (Zt (Zc (Zb (Za J (Zd J) ?_))))))));refine Za J (Yn J J ?_) ?_;omega;refine Za J (Zf J) (Ze ?_);refine Z1 (k3+1) ?_ (by omega) 0 J (J) ⟨J,J,J,J,trivial⟩;omega
    ·intro c6;refine Yd (Yc (Z5 (Yb (Zt (Zc (Zb (Za J (Zd J) ?_)))))));refine Za J (Yn J J ?_) ?_;omega;refine Za J (Zf J) (Ze ?_);refine Z1 (i3+1) ?_ (by omega) 0 J (J) ⟨J,J,J,trivial⟩;omega
   ·intro h3;refine Zm J J J (Za J (Zs J J) (Ze (Zc (Xn J (Yd (Yc (Z5 (Yb (Zc (Zg (Zg (Zb (Za J (Zf J) (Ze (Zc (Zn ?_))))))))))))))));refine Yf (Yg (X:=Nat) (fun j7=>[(0,pt b),(3,.bool true),(11,iN j7)]) _ _ (fun j7=>[]) (fun j7=>Asr.none) (fun j7=>True) (fun j7=>0) (0) (trivial) ?_) ⟨J,J,J,trivial⟩;intro j7 hI;refine Zg (Zg (Zb (Za J (Zd J) (Za J (Zd J) (Za J (Zw J) (Za J (Zh (ff J) J) (Za J (Zh (ff J) J) (Za J (Zj (t1 J) J (Z6 (hbc 7 _ J) hblt)) (Za J (Zx (ts J) J) (Za J (Yi J J) (Za J (Zd J) (Z9 J J J ?_ ?_))))))))))))
    ·intro h4;exfalso;omega
    ·intro h4;refine Zm J J J (Za J (Zs J J) (Ze (Zc (Xn J (Yd (Yc (Z5 (Yb (Zc (Zg (Zg (Zb (Za J (Zf J) (Ze (Zc (Zn ?_))))))))))))))));refine Yf (Yg (X:=Nat) (fun j9=>[(0,pt b),(3,.bool true),(13,iN j9)]) _ _ (fun j9=>[]) (fun j9=>Asr.none) (fun j9=>True) (fun j9=>0) (0) (trivial) ?_) ⟨J,J,J,trivial⟩;intro j9 hI;refine Zg (Zg (Zb (Za J (Zd J) (Za J (Zd J) (Za J (Zw J) (Za J (Zh (ff J) J) (Za J (Zh (ff J) J) (Za J (Zj (t1 J) J (Z6 (hbc 8 _ J) hblt)) (Za J (Zx (ts J) J) (Za J (Yi J J) (Za J (Zd J) (Z9 J J J ?_ ?_))))))))))))
     ·intro h5;exfalso;omega
     ·intro h5;refine Zm J J J (Za J (Zs J J) (Ze (Zc (Xn J (Yd (Yc (Z5 (Yb (Zc (Zg (Zg (Zb (Za J (Zf J) (Ze (Zc (Zn ?_))))))))))))))));refine Yf (Yg (X:=Nat) (fun j11=>[(0,pt b),(3,.bool true),(15,iN j11)]) _ _ (fun j11=>[]) (fun j11=>Asr.none) (fun j11=>True) (fun j11=>0) (0) (trivial) ?_) ⟨J,J,J,trivial⟩;intro j11 hI;refine Zg (Zg (Zb (Za J (Zd J) (Za J (Zd J) (Za J (Zw J) (Za J (Zh (ff J) J) (Za J (Zh (ff J) J) (Za J (Zj (t1 J) J (Z6 (hbc 9 _ J) hblt)) (Za J (Zx (ts J) J) (Za J (Yi J J) (Za J (Zd J) (Z9 J J J ?_ ?_))))))))))))
      ·intro h6;exfalso;omega
      ·intro h6;refine Zm J J J (Za J (Zs J J) (Ze (Zc (Xn J (Yd (Yc (Z5 (Yb (Zc (Zg (Zb (Za J (Zd J) (Za J (Zf J) (Ze (Zc (Zr (Z3 J J ?_)))))))))))))))));rfl
end
end Go.Proofs.YtpofmnfkdkmieaaGreat
