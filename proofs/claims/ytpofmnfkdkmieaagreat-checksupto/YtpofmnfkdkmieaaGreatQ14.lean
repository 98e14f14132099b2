/- What is proved here: the program's reader (package wire): lis -/
import Derived.Test.YtpofmnfkdkmieaaGreatQ12
import Derived.Test.YtpofmnfkdkmieaaGreatQ10
import Derived.Test.YtpofmnfkdkmieaaGreatQ13
import Derived.Test.YtpofmnfkdkmieaaGreatQ11
import Derived.Test.YtpofmnfkdkmieaaGreatQ03
import Derived.Orders
set_option linter.unusedVariables false
set_option linter.unusedSimpArgs false
namespace Go.Proofs.YtpofmnfkdkmieaaGreat
section
open Go.RowKit At E
section
variable {P:Program} {n:Nat} {E:Env} {w0:World} {F:List Nat} {H:Hp} {R:Asr} {fn:Func} {Z:Ending→World→Prop} {κ:List Kf}
theorem P1 {all:Array Oper} {l:List Oper} {d f b:Nat} {g:Operand} {pv:Value} {ts:Array TypeId} {t:TypeId} {p:String} {e:Array Edge} {cs:List Value} {u:World} {ok:Value→List Value→Asr→Prop} {may:Prop} (hf:IsFn P f)
  (hd:Nat.blt d n=true) (hg:ev E g=some (.func (.func f) #[pv] #[])) (i:Nat) (hp:H[i]?=some (b,cs)) (hu:Below u.heap.size u w0) (hF:∀ x ∈ F,u.heap.size≤x) (hc:RcP P f #[pv] u b cs ok may)
  (hn:may→WD P n E u fn Z κ)
  (h:∀ v cs' R',ok v cs' R'→WL P n all l ((d,v)::E) w0 F (H.set i (b,cs')) (R'.and R) fn Z κ) :
  WL P n all (⟨some d,.call ⟨.value g,#[],ts⟩,t,p,e,none⟩::l) E w0 F H R fn Z κ :=
 ⟨fun w hs a ha=>wpList_plain rfl fun K hK=>by
  unfold Oper.wp;rw [Np rfl (ha.eval hg) hf];refine Calls.mono (P:=P) (f:=f) (by have:=hc w (rc_now hu hF hs hp);simpa using this) ?_;rintro e w' (⟨v,cs',R',rfl,hok,hw⟩ | ⟨hm,rfl,hb⟩)
  ·exact hK _ _ ((h v cs' R' hok).go w' (rc_then hs hp hw) _ (ha.put hd _))
  ·exact (hn hm).go w' hb _ ha⟩
end
def Sc {α:Type} (most:Nat) (p:Ps α) (n:Nat):Ps (List α):=if (true&&decide (most<n))=true then pNo else pMany p n
theorem N1 {α:Type} {most n:Nat} {p:Ps α} {r:List UInt8} (h:most<n):Sc most p n r=none:=by unfold Sc;rw [if_pos (by simp [h])];rfl
theorem N0 {α:Type} {most n:Nat} {p:Ps α} (h:¬ most<n):Sc most p n=Tr p [] n:=by unfold Sc;rw [if_neg (by simp [h]),pMany_from]
def repE {α β:Type} (fst:β→α) (cell:β→List Value) (asr:β→Asr) (ok:β→Prop):α→Value→Asr→Prop:=fun x v R'=>∃ y,fst y=x∧v=.agg (cell y).toArray∧R'.Imp (asr y)∧ok y
def repL {α β:Type} (e k:Nat) (fst:β→α) (cell:β→List Value) (asr:β→Asr) (ok:β→Prop):List α→Value→Asr→Prop:=fun l v R' =>
 ∃ ls:List β,ls.map fst=l∧R'.Imp ((Y0 e k v ls.length (ls.flatMap cell)).and (Qa (ls.map asr)))∧ls.length≤65535∧∀ y ∈ ls,ok y
theorem RdP.mono {α:Type} {f:FuncId} {args:Array Value} {u:World} {b:Nat} {p:Ps α} {rep rep':α→Value→Asr→Prop} (h:RdP f args u b p rep) (k:∀ x v R',rep x v R'→rep' x v R'):RdP f args u b p rep':=by
 intro r hrl w h0;refine Calls.mono (h r hrl w h0) ?_;rintro e w' (⟨v,cs',R',rfl,⟨x,r1,hp,rfl,hr1,hrep⟩,hw⟩ | ⟨hm,rfl,hb⟩)
 ·exact .inl ⟨_,_,_,J,⟨x,r1,hp,J,hr1,k _ _ _ hrep⟩,hw⟩
 ·exact .inr ⟨hm,J,hb⟩
structure RdL (β:Type) where
 r:List UInt8
 v:Value
 l:List β
def noA {α:Type} (_:α):Asr:=Asr.none
abbrev InsR:=Ins × Value
abbrev FrR:=Fr × Value × Value
abbrev MeR:=Me × MeM
def fIns (p:InsR):Ins:=p.1
def fFr (p:FrR):Fr:=p.1
def fMe (p:MeR):Me:=p.1
def fId {α:Type} (x:α):α:=x
theorem one_Type (t:Ty) (w:World) (_:(noA t).A w):(tyV t).all (·.oneCell')=true:=rfl
theorem one_Field (t:Fld) (w:World) (_:(noA t).A w):(fdV t).all (·.oneCell')=true:=rfl
theorem one_Handler (t:Hd) (w:World) (_:(noA t).A w):(hdV t).all (·.oneCell')=true:=rfl
theorem one_Instr (t:InsR) (w:World) (h:(insA t).A w):(insC t).all (·.oneCell')=true:=by
 have h1:t.2.oneCell'=true:=Sz h;simp only [insC,Wx,List.all_cons,List.all_nil,h1];rfl
theorem one_Frame (t:FrR) (w:World) (h:(frA t).A w):(frC t).all (·.oneCell')=true:=by
 have h1:t.2.1.oneCell'=true:=Sz h.1;have h2:t.2.2.oneCell'=true:=Sz h.2.1;simp only [frC,frV,List.all_cons,List.all_nil,h1,h2];rfl
theorem one_Method (t:MeR) (w:World) (h:(meA t).A w):(meC t).all (·.oneCell')=true:=by
 have h1:t.2.pv.oneCell'=true:=Sz h.1;have h2:t.2.cv.oneCell'=true:=Sz h.2.1.1.1;have h3:t.2.hv.oneCell'=true:=Sz h.2.1.2.1.1;have h4:t.2.fv.oneCell'=true:=Sz h.2.1.2.1.2.1.1;simp only [meC,meV,List.all_cons,List.all_nil,h1,h2,h3,h4];rfl
def okIns (p:InsR):Prop:=N3 p.1∧Q1 p.1.ref.params
def okFr (p:FrR):Prop:=frOk p.1
theorem rd_nno {α β:Type} {P:Ps β} {p:Ps α} {K:List α→Ps β} {k most:Nat} {r r1:List UInt8} (h:Ux (some r) P (some r1) (Xg (Qg true k most p) K)) (hm:pNum k r1=none):P r=none :=
 Vb h (by unfold Qg Xg;rw [hm])
theorem rd_lno {α β:Type} {P:Ps β} {p:Ps α} {K:List α→Ps β} {k most n:Nat} {r r1 r2:List UInt8} (h:Ux (some r) P (some r1) (Xg (Qg true k most p) K)) (hp:pNum k r1=some (n,r2)) (hm:Sc most p n r2=none):P r=none :=
 Vb h (by unfold Qg Xg;rw [hp];exact hm)
theorem rd_lnext {α β:Type} {P:Ps β} {p:Ps α} {K:List α→Ps β} {k most n:Nat} {r r1 r2 r3:List UInt8} {l:List α} (h:Ux (some r) P (some r1) (Xg (Qg true k most p) K)) (hp:pNum k r1=some (n,r2)) (hm:Sc most p n r2=some (l,r3)):Ux (some r) P (some r3) (K l) :=
 X0 h (by unfold Qg Xg;rw [hp];exact hm)
theorem rdListType_any (U:World) (b n most:Nat) (hn:n≤65535) (hE:RdP 182 #[pt b] U b (pTy false) (repE fId tyV noA Rz)) :
  RdP 283 #[iN n,iN most,.func (.func 182) #[pt b] #[]] U b (Sc most (pTy false) n) (repL 71 2 fId tyV noA Rz):=by
 intro r hrl w h0;replace hE:Hid _:=hE;refine Yz (h0.sat) (args:=[iN n,iN most,.func (.func 182) #[pt b] #[]]) Tryz.func283 J Tryz.ntmps283 ?_;refine Zg (Zb (Za J (Zf J) (Ze (Zc (Zg (Zb (Za J (Zd J) (Za J (Zd J) (Za J (Xj J J) (Z7 X1 J J (fun w _=>Yr _ w) ?_ ?_))))))))))
 rotate_left
 ·intro o1;replace o1:=dFa o1;refine Zy (WD_of h0.base (Vr h0) (Xq ?_));exact N1 (by omega)
 intro o1;replace o1:=dTr o1;have hS:Ux (some r) (Sc most (pTy false) n) (some r) (Tr (pTy false) [] n):=(Ux.first _ _).of (N0 (by omega));refine Ze (Zc (Zg (Zb (Za J (Zf J) (Ze (Zc (Zg (Zg (Zb (Za J (Zd J) (Za J (Zd J) (Ze (Zc (Zn (Ni 71 2 (Xt (Asr.Imp.right (Asr.noneAdd _)) ?_))))))))))))))));refine Yf (Yg (X:=RdL Ty) (fun x:RdL Ty=>[(2,.func (.func 182) #[pt b] #[]),(7,x.v),(12,iN n),(13,iN x.l.length)]) _ _ (fun x:RdL Ty=>[(b,rdC x.r)]) (fun x:RdL Ty=>(Y0 71 2 x.v x.l.length (x.l.flatMap tyV)).and ((Qa (x.l.map noA)).and Asr.none)) (fun x:RdL Ty=>(x.l.length≤n∧x.r.length≤r.length)∧(∀ y ∈ x.l,Rz y)∧Ux (some r) (Sc most (pTy false) n) (some x.r) (Tr (pTy false) (x.l.map fId) (n - x.l.length))) (fun x:RdL Ty=>n - x.l.length) (⟨r,W0,[]⟩) (⟨⟨Nat.zero_le _,Nat.le_refl _⟩,(fun y h=>by cases h),hS⟩) ?_) ⟨J,J,J,J,trivial⟩;intro x hI;obtain ⟨⟨hxn,hxr⟩,hok,hG⟩:=hI;refine Zg (Zb (Za J (Yi J J) (Ze (Zc (Zg (Zu J ?_ ?_))))))
 ·intro c1;obtain ⟨m,hm⟩:∃ m,n - x.l.length=m+1:=⟨n - x.l.length - 1,by omega⟩;rw [hm,Qq] at hG;refine Zo (Zc (Zg (Zn (Zb (Za J (Zd J) (Za J (Zd J) (P1 fn182 J J 0 J h0.base (Vr h0) (hE.out x.r (by omega)) (fun hm=>Yv (Yv (Yv (Yv (Yv (Xq (Vb hG hm))))))) ?_)))))));rintro v cs' R' ⟨x1,r1,hp,rfl,hr1,y,hy,rfl,hR,hok1⟩;subst hy;refine Zz hR.left ?_;refine Xc (p:=(tyV y).all (·.oneCell')=true) (fun w hs=>one_Type y w hs.res.1) ?_;intro hone;refine Zz (Px _ _ _ _) (Wk J (ts J) (tz J) J J J J J ?_);intro b1 hb1;refine Ww J (ta J) J J (Yl 0 J) J hone ?_ ?_ ?_
  ·unfold maxLen;omega
  ·omega
  intro v1;refine Za J (Zf J) (Ze (Zt (Zc (Zb ?_))));refine Za J (Yn J J ?_) ?_;omega;refine Za J (Zd J) (Ze ?_);refine Se (s:=13) (v':=.int .i64 ((x.l++[y]).length:Nat)) J (by rw [List.length_append];rfl) ?_;refine Z1 (⟨r1,v1,x.l++[y]⟩) ?_ (⟨⟨by show (x.l++[y]).length≤n;rw [List.length_append];simp only [List.length_singleton];omega,by show r1.length≤r.length;omega⟩,ok_snoc hok hok1,by show Ux _ _ (some r1) (Tr (pTy false) ((x.l++[y]).map fId) (n - (x.l++[y]).length));rw [List.map_append,List.length_append,show n - (x.l.length+[y].length)=m by simp only [List.length_singleton];omega];have h9:=X0 hG hp;exact h9⟩) 1 J (by show (Y0 71 2 _ _ _).and _=_;rw [List.length_append,List.flatMap_append,List.map_append];rfl) ⟨rfl,rfl,rfl,rfl,trivial⟩;show n - (x.l++[y]).length<n - x.l.length;rw [List.length_append];simp only [List.length_singleton];omega
 ·intro c1;refine Yd (Yc (Z5 (Yb (Zc (Zg (Zb (Za J (Zd J) (Za J (Zf J) (Ze (Zc (Zr (Sh J J 0 J ?_))))))))))));rw [show n - x.l.length=0 by omega,Qp] at hG;exact ⟨x.l.map fId,x.r,Vs hG,J,hxr,x.l,J,Asr.Imp.right (Asr.fst _ _),by omega,hok⟩
theorem map_fId {α:Type} (l:List α):l.map fId=l:=by
 have:(fId:α→α)=id:=rfl;rw [this,List.map_id]
theorem rdTypE (U:World) (b:Nat):RdP 182 #[pt b] U b (pTy false) (repE fId tyV noA Rz):=(Nr U b).mono fun t _ _ ⟨h1,h2,h3⟩=>⟨t,rfl,h1,h3 ▸ Asr.toNone _,h2⟩
theorem O0 (U:World) (b most:Nat):RdP 183 #[pt b,iN most] U b (Qg true 1 most (pTy false)) (fun l v R'=>R'.Imp (T4 v l)∧Q1 l):=by
 intro r hrl w h0;have hS:=Ux.first (some r) (Qg true 1 most (pTy false))
 refine Yz (h0.sat) (args:=[pt b,iN most]) Tryz.func183 J Tryz.ntmps183 ?_;refine Zg (Zb (Za J (Zf J) (Ze (Zc (Zg (Zb (Za J (Zd J) (Y9 fn115 J J 0 J h0.base (Vr h0) (Tq U b r hrl) (fun hm=>Yv (Xq (by exact Vb hS hm))) ?_))))))));rintro v cs' ⟨R',n,r1,hp,rfl,hr1,rfl,hn, -⟩;replace hS:=X0 hS hp;rw [Sx (show n<9223372036854775808 by omega)];refine Za J (Zd J) (Za J (Zd J) (Za J (Ex_func J) (Ss fn283 J J 0 J h0.base (Vr h0) (rdListType_any U b n most (by omega) (rdTypE U b) r1 (by omega)) (fun hm=>Yv (Xq (by exact hS.trans hm))) ?_)));rintro v cs' R' ⟨l,r2,hp2,rfl,hr2,ls,hls,hR,hll,hlo⟩;rw [map_fId] at hls;subst hls;refine Zz (hR.left.trans (Asr.assoc _ _ _)) (Za J (Zf J) (Ze (Zc (Zr (Sh J J 0 J ?_)))));exact ⟨ls,r2,hS.trans hp2,J,by omega,Asr.fst _ _,⟨by omega,hlo⟩⟩
set_option maxHeartbeats 2000000 in
theorem rdInstr_any (U:World) (b:Nat):RdP 186 #[pt b] U b (pIns false true) (repE fIns insC insA okIns):=by
 intro r hrl w h0;have hS:=Ux.first (some r) (pIns false true)
 refine Yz (h0.sat) (args:=[pt b]) Tryz.func186 J Tryz.ntmps186 ?_;refine Zg (Zb (Yk J (tz J) ?_));intro b1 hb1;refine Ze (Zc (Zg (Zb (Za J (Zd J) (Y9 fn115 J J 1 J h0.base (Vr h0) (Oc U b r hrl) (fun hm=>Yv (Xq (Vb hS hm))) ?_)))));rintro v cs' ⟨R',op,r1,hp,rfl,hr1,rfl,hop, -, -⟩;replace hS:=X0 hS hp;refine Za J (Z8 (tb J) J J) (Yk J (tz J) ?_);intro b2 hb2;refine Z2 (tn J) J J 0 J J J J (Ze (Zc (Zg (Zg (Zb (Za J (Zh (ff J) J) (Za J (Zj (t1 J) J (Zi 0 J J)) (Yq fn284 J J (fun w _=>Qy _ w) ?_))))))));refine Ze (Zc (Zn (Zg (Zb (Za J (Ya J J) (Za J (Zf J) (Ze (Zc (Zu J ?_ ?_)))))))))
 ·intro c1;rw [insP1 ((Wz (by omega)).1 c1)] at hS;refine Zb (Za J (Zd J) (Y9 fn285 J J 2 J h0.base (Vr h0) (rdEight_any U b r1 (by omega)) (fun hm=>Yv (Yv (Xq (Vb hS hm)))) ?_));rintro v cs' ⟨R',n,r2,hp2,rfl,hr2,rfl,hn, -, -⟩;replace hS:=X0 hS hp2;refine Za J (Zh (ff J) J) (Yy (t1 J) J J 0 J J J J (Ze (Zt (Zc (Zg (Zb (Za J (Zv (tn J) J 0 J J) (Z2 (tn J) J J 1 J J J J (Ze (Zc (Zr (S4 (We J (Wf (tn J) J (Yl 1 J) J)) 2 J ?_))))))))))));exact ⟨⟨op,n,rf0⟩,r2,Vs hS,J,by omega,(_,W0),J,J,Nk _,⟨hop,hn,rfOk_0⟩,Pq⟩
 ·intro c1;refine Zg (Zb (Za J (Ya J J) (Za J (Zf J) (Ze (Zc (Zu J ?_ ?_))))))
  ·intro c2;rw [insP2 ((Wz (by omega)).1 c2)] at hS;refine Zb (Za J (Zd J) (Y9 fn115 J J 2 J h0.base (Vr h0) (Oc U b r1 (by omega)) (fun hm=>Yv (Yv (Xq (Vb hS hm)))) ?_));rintro v cs' ⟨R',n,r2,hp2,rfl,hr2,rfl,hn, -, -⟩;replace hS:=X0 hS hp2;refine Za J (Zh (ff J) J) (Yy (t1 J) J J 0 J J J J (Ze (Zt (Zc (Zg (Zb (Za J (Zv (tn J) J 0 J J) (Z2 (tn J) J J 1 J J J J (Ze (Zc (Zr (S4 (We J (Wf (tn J) J (Yl 1 J) J)) 2 J ?_))))))))))));exact ⟨⟨op,n,rf0⟩,r2,Vs hS,J,by omega,(_,W0),J,J,Nk _,⟨hop,hn,rfOk_0⟩,Pq⟩
  ·intro c2;refine Zg (Zb (Za J (Ya J J) (Za J (Zf J) (Ze (Zc (Zu J ?_ ?_))))))
   ·intro c3;rw [insP3 ((Wz (by omega)).1 c3)] at hS;refine Zb (Za J (Zd J) (Y9 fn185 J J 2 J h0.base (Vr h0) (Ns U b r1 (by omega)) (fun hm=>Yv (Yv (Xq (Vb hS hm)))) ?_));rintro v cs' ⟨R',n,r2,hp2,rfl,hr2,rfl,hn, -, -⟩;replace hS:=X0 hS hp2;refine Za J (Zh (ff J) J) (Yy (t1 J) J J 0 J J J J (Ze (Zt (Zc (Zg (Zb (Za J (Zv (tn J) J 0 J J) (Z2 (tn J) J J 1 J J J J (Ze (Zc (Zr (S4 (We J (Wf (tn J) J (Yl 1 J) J)) 2 J ?_))))))))))));exact ⟨⟨op,n,rf0⟩,r2,Vs hS,J,by omega,(_,W0),J,J,Nk _,⟨hop,hn,rfOk_0⟩,Pq⟩
   ·intro c3;refine Zg (Zb (Za J (Ya J J) (Za J (Zf J) (Ze (Zc (Zu J ?_ ?_))))))
    ·intro c4;rw [insP4 ((Wz (by omega)).1 c4)] at hS;refine Zb (Za J (Zd J) (Y9 fn113 J J 2 J h0.base (Vr h0) (Ut U b r1 (by omega)) (fun hm=>Yv (Yv (Xq (Vb hS hm)))) ?_));rintro v cs' ⟨R',c,r2,hp2,rfl,hr2,rfl,hc, -⟩;replace hS:=X0 hS hp2;refine Za J (Z8 (tb J) J J) (Za J (Zh (ff J) J) (Z2 (tn J) J J 0 J J J J (Ze (Zt (Zc (Zg (Zb (Za J (Zv (tn J) J 0 J J) (Z2 (tn J) J J 1 J J J J (Ze (Zc (Zr (S4 (We J (Wf (tn J) J (Yl 1 J) J)) 2 J ?_)))))))))))));exact ⟨⟨op,0,⟨c,mt,[],⟨0,mt⟩⟩⟩,r2,Vs hS,J,by omega,(_,W0),J,J,Nk _,⟨hop,S2,Tj hc,R4,tyOk_0⟩,Pq⟩
    ·intro c4;refine Zg (Zb (Za J (Ya J J) (Za J (Zf J) (Ze (Zc (Zu J ?_ ?_))))))
     ·intro c5;rw [insP5 ((Wz (by omega)).1 c5)] at hS;refine Zb (Za J (Zd J) (Y9 fn113 J J 2 J h0.base (Vr h0) (Ut U b r1 (by omega)) (fun hm=>Yv (Yv (Xq (Vb hS hm)))) ?_));rintro v cs' ⟨R',c,r2,hp2,rfl,hr2,rfl,hc, -⟩;replace hS:=X0 hS hp2;refine Za J (Zd J) (Y9 fn113 J J 2 J h0.base (Vr h0) (Ut U b r2 (by omega)) (fun hm=>Yv (Yv (Xq (Vb hS hm)))) ?_);rintro v cs' ⟨R',nm,r3,hp3,rfl,hr3,rfl,hnm, -⟩;replace hS:=X0 hS hp3;refine Za J (Zd J) (Y9 fn182 J J 2 J h0.base (Vr h0) (Nr U b r3 (by omega)) (fun hm=>Yv (Yv (Xq (Vb hS hm)))) ?_);rintro v cs' ⟨R',t,r4,hp4,rfl,hr4,rfl,ht, -⟩;replace hS:=X0 hS hp4;refine Za J (Z8 (tb J) J J) (Za J (Zh (ff J) J) (Z2 (tn J) J J 0 J J J J (Ze (Zt (Zc (Zg (Zb (Za J (Zv (tn J) J 0 J J) (Z2 (tn J) J J 1 J J J J (Ze (Zc (Zr (S4 (We J (Wf (tn J) J (Yl 1 J) J)) 2 J ?_)))))))))))));exact ⟨⟨op,0,⟨c,nm,[],t⟩⟩,r4,Vs hS,J,by omega,(_,W0),J,J,Nk _,⟨hop,S2,Tj hc,Tj hnm,ht⟩,Pq⟩
     ·intro c5;refine Zg (Zb (Za J (Ya J J) (Za J (Zf J) (Ze (Zc (Zu J ?_ ?_))))))
      ·intro c6;rw [insP6 ((Wz (by omega)).1 c6)] at hS;refine Zb (Za J (Zd J) (Y9 fn113 J J 2 J h0.base (Vr h0) (Ut U b r1 (by omega)) (fun hm=>Yv (Yv (Xq (Vb hS hm)))) ?_));rintro v cs' ⟨R',c,r2,hp2,rfl,hr2,rfl,hc, -⟩;replace hS:=X0 hS hp2;refine Za J (Zd J) (Y9 fn113 J J 2 J h0.base (Vr h0) (Ut U b r2 (by omega)) (fun hm=>Yv (Yv (Xq (Vb hS hm)))) ?_);rintro v cs' ⟨R',nm,r3,hp3,rfl,hr3,rfl,hnm, -⟩;replace hS:=X0 hS hp3;refine Za J (Zd J) (Ss fn183 J J 2 J h0.base (Vr h0) (O0 U b 6 r3 (by omega)) (fun hm=>Yv (Yv (Xq (Vb hS hm)))) ?_);rintro pv cs' R' ⟨ps,rx,hpx,rfl,hrx,hR,hps⟩;replace hS:=X0 hS hpx;refine Zz hR.left (Xc (p:=∃ p l c,pv=.slice p l c) (fun w hs=>Xb hs.res.1) ?_);rintro ⟨p1,l1,c1',hpv⟩;subst hpv;refine Za J (Zd J) (Y9 fn182 J J 2 J h0.base (Vr h0) (Nr U b rx (by omega)) (fun hm=>Yv (Yv (Xq (Vb hS hm)))) ?_);rintro v cs' ⟨R',t,r4,hp4,rfl,hr4,rfl,ht, -⟩;replace hS:=X0 hS hp4;refine Za J (Z8 (tb J) J J) (Za J (Zh (ff J) J) (Z2 (tn J) J J 0 J J J J (Ze (Zt (Zc (Zg (Zb (Za J (Zv (tn J) J 0 J J) (Z2 (tn J) J J 1 J J J J (Ze (Zc (Zr (S4 (We J (Wf (tn J) J (Yl 1 J) J)) 2 J ?_)))))))))))));exact ⟨⟨op,0,⟨c,nm,ps,t⟩⟩,r4,Vs hS,J,by omega,(_,_),J,J,Asr.fst _ _,⟨hop,S2,Tj hc,Tj hnm,ht⟩,hps⟩
      ·intro c6;rw [insP0 (fun h=>c1 ((Wz (by omega)).2 h)) (fun h=>c2 ((Wz (by omega)).2 h)) (fun h=>c3 ((Wz (by omega)).2 h)) (fun h=>c4 ((Wz (by omega)).2 h)) (fun h=>c5 ((Wz (by omega)).2 h)) (fun h=>c6 ((Wz (by omega)).2 h)) (fun h=>by cases h)] at hS;refine Zo (Zt (Zc (Zg (Zb (Za J (Zv (tn J) J 0 J J) (Z2 (tn J) J J 1 J J J J (Ze (Zc (Zr (S4 (We J (Wf (tn J) J (Yl 1 J) J)) 2 J ?_))))))))));exact ⟨⟨op,0,rf0⟩,r1,Vs hS,J,by omega,(_,W0),J,J,Nk _,⟨hop,S2,rfOk_0⟩,Pq⟩
theorem rdHandler_any (U:World) (b:Nat):RdP 188 #[pt b] U b pHd (repE fId hdV noA hdOk):=by
 intro r hrl w h0;have hS:=Ux.first (some r) pHd
 refine Yz (h0.sat) (args:=[pt b]) Tryz.func188 J Tryz.ntmps188 ?_;refine Zg (Zb (Yk J (tz J) ?_));intro b1 hb1;refine Ze (Zc (Zg (Zb (Za J (Zd J) (Y9 fn185 J J 1 J h0.base (Vr h0) (Ns U b r hrl) (fun hm=>Yv (Xq (Vb hS hm))) ?_)))));rintro v cs' ⟨R',x1,r1,hp,rfl,hr1,rfl,h1, -, -⟩;replace hS:=X0 hS hp;refine Za J (Zd J) (Y9 fn185 J J 1 J h0.base (Vr h0) (Ns U b r1 (by omega)) (fun hm=>Yv (Xq (Vb hS hm))) ?_);rintro v cs' ⟨R',x2,r2,hp2,rfl,hr2,rfl,h2, -, -⟩;replace hS:=X0 hS hp2;refine Za J (Zd J) (Y9 fn185 J J 1 J h0.base (Vr h0) (Ns U b r2 (by omega)) (fun hm=>Yv (Xq (Vb hS hm))) ?_);rintro v cs' ⟨R',x3,r3,hp3,rfl,hr3,rfl,h3, -, -⟩;replace hS:=X0 hS hp3;refine Za J (Zd J) (Y9 fn113 J J 1 J h0.base (Vr h0) (Ut U b r3 (by omega)) (fun hm=>Yv (Xq (Vb hS hm))) ?_);rintro v cs' ⟨R',c,r4,hp4,rfl,hr4,rfl,hc, -⟩;replace hS:=X0 hS hp4;refine Za J (Z8 (tb J) J J) (Z2 (tn J) J J 0 J J J J (Ze (Zc (Zr (S4 (We J (Wf (tn J) J (Yl 0 J) J)) 1 J ?_)))));exact ⟨_,r4,Vs hS,J,by omega,⟨x1,x2,x3,c⟩,J,J,.refl _,⟨h1,h2,h3,Tj hc⟩⟩
theorem rdField_any (U:World) (b:Nat):RdP 116 #[pt b] U b (pFd false) (repE fId fdV noA fdOk):=by
 intro r hrl w h0;have hS:=Ux.first (some r) (pFd false)
 refine Yz (h0.sat) (args:=[pt b]) Tryz.func116 J Tryz.ntmps116 ?_;refine Zg (Zb (Yk J (tz J) ?_));intro b1 hb1;refine Ze (Zc (Zg (Zb (Za J (Zd J) (Y9 fn113 J J 1 J h0.base (Vr h0) (Ut U b r hrl) (fun hm=>Yv (Xq (Vb hS hm))) ?_)))));rintro v cs' ⟨R',c,r1,hp,rfl,hr1,rfl,hc, -⟩;replace hS:=X0 hS hp;refine Za J (Zd J) (Y9 fn181 J J 1 J h0.base (Vr h0) (rdFlag_any U b r1 (by omega)) (fun hm=>Yv (Xq (Vb hS hm))) ?_);rintro v cs' ⟨R',st,r2,hp2,rfl,hr2,rfl, -⟩;replace hS:=X0 hS hp2;refine Za J (Zd J) (Y9 fn182 J J 1 J h0.base (Vr h0) (Nr U b r2 (by omega)) (fun hm=>Yv (Xq (Vb hS hm))) ?_);rintro v cs' ⟨R',t,r3,hp3,rfl,hr3,rfl,ht, -⟩;replace hS:=X0 hS hp3;refine Za J (Z8 (tb J) J J) (Z2 (tn J) J J 0 J J J J (Ze (Zc (Zr (S4 (We J (Wf (tn J) J (Yl 0 J) J)) 1 J ?_)))));exact ⟨_,r3,Vs hS,J,by omega,⟨c,st,t⟩,J,J,.refl _,⟨Tj hc,ht⟩⟩
theorem rdFrame_any (U:World) (b:Nat):RdP 190 #[pt b] U b (pFr false true) (repE fFr frC frA okFr):=by
 intro r hrl w h0;have hS:=Ux.first (some r) (pFr false true)
 refine Yz (h0.sat) (args:=[pt b]) Tryz.func190 J Tryz.ntmps190 ?_;refine Zg (Zb (Yk J (tz J) ?_));intro b1 hb1;refine Ze (Zc (Zg (Zb (Za J (Zd J) (Y9 fn185 J J 1 J h0.base (Vr h0) (Ns U b r hrl) (fun hm=>Yv (Xq (Vb hS hm))) ?_)))));rintro v cs' ⟨R',x1,r1,hp,rfl,hr1,rfl,h1, -, -⟩;replace hS:=X0 hS hp;refine Za J (Zd J) (Ss fn183 J J 1 J h0.base (Vr h0) (O0 U b 20 r1 (by omega)) (fun hm=>Yv (Xq (Vb hS hm))) ?_);rintro lv cs' R' ⟨ls,r2,hp2,rfl,hr2,hR,hls⟩;replace hS:=X0 hS hp2;refine Zz hR.left (Xc (p:=∃ p l c,lv=.slice p l c) (fun w hs=>Xb hs.res.1) ?_);rintro ⟨p1,l1,c1',hpv⟩;subst hpv;refine Za J (Zd J) (Ss fn183 J J 1 J h0.base (Vr h0) (O0 U b 20 r2 (by omega)) (fun hm=>Yv (Xq (Vb hS hm))) ?_);rintro sv cs' R'' ⟨ss,r3,hp3,rfl,hr3,hR2,hss⟩;replace hS:=X0 hS hp3;refine Zz hR2.left (Xc (p:=∃ p l c,sv=.slice p l c) (fun w hs=>Xb hs.res.1) ?_);rintro ⟨p2,l2,c2',hsv⟩;subst hsv;refine Za J (Z8 (tb J) J J) (Z2 (tn J) J J 0 J J J J (Ze (Zc (Zr (S4 (We J (Wf (tn J) J (Yl 0 J) J)) 1 J ?_)))));exact ⟨_,r3,Vs hS,J,by omega,(⟨x1,ls,ss⟩,.slice p1 l1 c1',.slice p2 l2 c2'),J,J,((Asr.cossa _ _ _).trans (Asr.fst _ _)).trans (Asr.comm _ _),⟨h1,hls,hss⟩⟩
end
namespace E
open Go Go.RowKit
def RuP (P:Program) (f:FuncId) (args:Array Value) (u:World) (b:Nat) (cs:List Value) (Rin:Asr) (ok:Value→List Value→Asr→Prop):Prop :=
 ∀ w,Below u.heap.size u w→(∀ x ∈ b::Rin.S,u.heap.size≤x)→Sat w (b::Rin.S) [(b,cs)] Rin w→Calls P f args w (RkZ b w Rin ok)
theorem ru_F {u w0 w:World} {F:List Nat} {H:Hp} {R Rin:Asr} {b i:Nat} {cs:List Value} (hu:Below u.heap.size u w0) (hF:∀ x ∈ F,u.heap.size≤x) (hs:Sat w0 F H (Rin.and R) w) (hp:H[i]?=some (b,cs)):∀ x ∈ b::Rin.S,u.heap.size≤x:=by
 intro x hx;have hge:∀ k,(k ∈ F∨w0.heap.size≤k)→u.heap.size≤k:=fun k hk=>hk.elim (hF k) (fun h=>Nat.le_trans hu.size h);rcases List.mem_cons.1 hx with rfl | hx
 ·exact hge _ (hs.hi _ (List.mem_of_getElem? hp))
 ·exact hge _ (hs.rhi x (List.mem_append_left _ hx)).1
theorem RuP.frame {P:Program} {f:FuncId} {args:Array Value} {u:World} {b:Nat} {cs:List Value} {Rin Rx Rin':Asr} {ok:Value→List Value→Asr→Prop} (h:RuP P f args u b cs Rin ok) (i:Rin'.Imp (Rin.and Rx)):RuP P f args u b cs Rin' (fun v cs' R''=>∃ R',ok v cs' R'∧R''=R'.and Rx):=by
 intro w hb hF hs;have hs':Sat w (b::Rin'.S) [(b,cs)] (Rin.and Rx) w:=hs.leads i;refine Calls.mono (h w hb (ru_F (i:=0) hb hF hs' J) (rk_now (i:=0) hs' J)) ?_;rintro e w' ⟨v,cs',R',rfl,hok,hw⟩;exact ⟨v,cs',_,J,⟨R',hok,J⟩,Oz (i:=0) hs' J hw⟩
section
variable {P:Program} {n:Nat} {E:Env} {w0:World} {F:List Nat} {H:Hp} {R:Asr} {fn:Func} {Z:Ending→World→Prop} {κ:List Kf}
theorem Vx {all:Array Oper} {l:List Oper} {d f b:Nat} {xs:List Operand} {vs:List Value} {ts:Array TypeId} {t:TypeId} {p:String} {e:Array Edge} {cs:List Value} {u:World} {Rin:Asr} {ok:Value→List Value→Asr→Prop} (hf:IsFn P f)
  (hd:Nat.blt d n=true) (hx:args E xs=some vs) (i:Nat) (hp:H[i]?=some (b,cs)) (hu:Below u.heap.size u w0) (hF:∀ x ∈ F,u.heap.size≤x) (hc:RuP P f vs.toArray u b cs Rin ok)
  (h:∀ v cs' R',ok v cs' R'→WL P n all l ((d,v)::E) w0 F (H.set i (b,cs')) (R'.and R) fn Z κ) :
  WL P n all (⟨some d,.call ⟨.value (.func f),xs.toArray,ts⟩,t,p,e,none⟩::l) E w0 F H (Rin.and R) fn Z κ :=
 ⟨fun w hs a ha=>wpList_plain rfl fun K hK=>by
  unfold Oper.wp;rw [V8 rfl hf,Ve ha xs vs hx];refine Calls.mono (hc w (Xp hu hF hs) (ru_F hu hF hs hp) (rk_now hs hp)) ?_;rintro e w' ⟨v,cs',R',rfl,hok,hw⟩;exact hK _ _ ((h v cs' R' hok).go w' (Oz hs hp hw) _ (ha.put hd _))⟩
theorem WL_own {all:Array Oper} {l:List Oper} (e size:Nat) (h:WL P n all l E w0 F H (Asr.and (Y0 e size (.slice none 0 0) 0 []) R) fn Z κ):WL P n all l E w0 F H R fn Z κ :=
 ⟨fun w hs a ha=>h.go w ⟨hs.low,hs.own,hs.hi,hs.apart,⟨World.ownsRow_nil w 0 e size,hs.res,by simp [Y0,Value.ownBlock]⟩,hs.rhi,hs.rapart⟩ a ha⟩
theorem Pn {all:Array Oper} {l:List Oper} {d:Nat} {t ty e size bytes:Nat} {z:Value} {x y:Operand} {p:String} {g:Array Edge} {m c:Nat} {q:Option Addr} {news:List Value} (hd:Nat.blt d n=true) (ht:TA P t e size bytes z) (hx:ev E x=some (.slice none 0 0))
  (hy:ev E y=some (.slice q m c)) (hc:0<m→∃ b o,q=some ⟨b,o,none⟩∧Row w0 F H ((Y0 e size (.slice none 0 0) 0 []).and R) b o news) (hl:news.length=m*size) (h1:news.all (·.oneCell')=true) (h63:m≤maxLen) (hbytes:m*bytes≤140737488355328)
  (h:∀ v',WL P n all l ((d,v')::E) w0 F H (Asr.and (Y0 e size v' m news) R) fn Z κ) :
  WL P n all (⟨some d,.call ⟨.builtin .append,#[x,y],#[t,t]⟩,ty,p,g,none⟩::l) E w0 F H R fn Z κ:=by
 refine WL_own e size ?_;by_cases hm:m=0
 ·subst hm;have hnl:news=[]:=List.eq_nil_of_length_eq_zero (by rw [hl];simp);subst hnl;refine ⟨fun w hs a ha=>wpList_plain J fun K hK=>?_⟩;obtain ⟨i,hi,hz,hsz,hb⟩:=info_parts ht.inf
  have he:(execOp a.eval ⟨some d,.call ⟨.builtin .append,#[x,y],#[t,t]⟩,ty,p,g,none⟩).run P w=.ok (.value (.slice none 0 0)) w:=by
   simp only [execOp,resolve,invoke,builtin];cases q with
   | none=>simp [ha.eval hx,ha.eval hy,Builtin.append_,run_underlying ht.sl,sizeOf,typeInfo,hi,Builtin.lenOf,Builtin.firstCells,loadCells,loadCellsFrom]
   | some aa=>simp [ha.eval hx,ha.eval hy,Builtin.append_,run_underlying ht.sl,sizeOf,typeInfo,hi,Builtin.lenOf,Builtin.firstCells,loadCells,loadCellsFrom]
  unfold Oper.wp;rw [he];exact hK _ _ ((h (.slice none 0 0)).go w hs _ (ha.put hd _))
 ·obtain ⟨b,o,rfl,hrow⟩:=hc (by omega);refine Ww hd ht hx hy hrow hl h1 (by omega) (by rw [Nat.zero_add];exact hbytes) (fun v'=>?_);have:=h v';rw [Nat.zero_add,List.nil_append];exact this
end
end E
section
open Go Go.RowKit At E
def U5 {β:Type} (e' e sz:Nat) (cell:β→List Value) (v:Value) (rows:List (List β × Value)):Asr :=
 (Y0 e' 1 v rows.length (rows.map (·.2))).and (Qa (rows.map fun p=>Y0 e sz p.2 p.1.length (p.1.flatMap cell)))
theorem Pr {β:Type} {e' e sz:Nat} {cell:β→List Value} {v:Value} {rows:List (List β × Value)} {l:List β} {u:Value} :
  ((Y0 e' 1 v (rows.length+1) (rows.map (·.2)++[u])).and ((Y0 e sz u l.length (l.flatMap cell)).and (Qa (rows.map fun p=>Y0 e sz p.2 p.1.length (p.1.flatMap cell))))).Imp (U5 e' e sz cell v (rows++[(l,u)])):=by
 refine (Asr.Imp.right (bigA_snoc _ _)).trans ?_;unfold U5;rw [List.length_append,List.map_append,List.map_append];exact .refl _
theorem Od {w:World} {e size n:Nat} {v:Value} {xs:List Value} (h:w.ownsRow 0 e size v n xs) (hn:0<n):∃ p c,v=.slice p n c∧n≤c:=by
 rcases h.2 with ⟨rfl,h0⟩ | ⟨g,cap,cur,rfl,_,_,hnc,_⟩
 ·omega
 ·exact ⟨_,_,J,hnc⟩
def tyX:List Ty:=[⟨77,mt⟩,⟨77,mt⟩]
theorem old_rows {α:Type} {k:Nat} {El:World→List Value→α→Prop} {u w0:World} {F:List Nat} {H:Hp} {R:Asr} {q:Option Addr} {n c:Nat} {l:List α} (cell:α→List Value) (hu:Below u.heap.size u w0) (hF:∀ x ∈ F,u.heap.size≤x) (hv:ListAt k El u (.slice q n c) l) (hcell:∀ r x,El u r x→r=cell x) (hk:∀ x ∈ l,(cell x).length=k) :
  0<n→∃ b o,q=some ⟨b,o,none⟩∧Row w0 F H R b o (l.flatMap cell):=by
 obtain ⟨p,c',hv',hl,hr⟩:=hv.is;cases hv';intro hn;obtain ⟨b,o,r,hp,hb,_,_⟩:=hr 0 l[0] (List.getElem?_eq_getElem hn);refine ⟨b,o,hp,U6 hu hF hb (fun j v hj=>?_)⟩
 have hjl:j<l.length*k:=by
  rw [← U7 cell k l hk];rcases Nat.lt_or_ge j (l.flatMap cell).length with h | h
  ·exact h
  ·rw [List.getElem?_eq_none h] at hj;cases hj
 have hk0:0<k:=by
  rcases Nat.eq_zero_or_pos k with h | h
  ·subst h;omega
  ·exact h
 have hi:j/k<l.length:=(Nat.div_lt_iff_lt_mul hk0).2 hjl;obtain ⟨b',o',r',hp',hb',hel,hc⟩:=hr (j/k) l[j/k] (List.getElem?_eq_getElem hi);rw [hp] at hp';cases hp';have hrc:=hcell _ _ hel;subst hrc;have hjm:j % k<(cell l[j/k]).length:=by rw [hk _ (List.getElem_mem hi)];exact Nat.mod_lt _ hk0
 have hg:=Mc cell k l hk (j/k) (j % k) l[j/k] _ (List.getElem?_eq_getElem hi) (List.getElem?_eq_getElem hjm);have he:j/k*k+j % k=j:=Nat.div_add_mod' j k;rw [he,hj] at hg;cases hg;have:=hc (j % k) _ (List.getElem?_eq_getElem hjm);rw [Nat.add_assoc,he] at this;exact this
theorem lsTyped_any (u:World) (b:Nat) (vT vI vF vM vH vR tv:Value) (T:List (List Ty × Value)) (l:List Ty) (hv:Yu u tv l) (hT:T.length≤1099511627776) :
  RuP Tryz.prog 76 #[pt b,tv] u b (bkC vT vI vF vM vH vR W0) (U5 69 71 2 tyV vT T)
   (fun v cs' R'=>∃ vT' p c,v=.slice p l.length c∧cs'=bkC vT' vI vF vM vH vR W0∧R'.Imp (U5 69 71 2 tyV vT' (T++[(l++tyX,.slice p (l.length+2) c)]))):=by
 intro w hu hF hs0;obtain ⟨q,e,rfl,hl, -⟩:=hv.is;replace hv:Hid _:=hv;have hfl:=U7 tyV 2 l (fun _ _=>rfl);have hall:(l.flatMap tyV).all (·.oneCell')=true:=by rw [List.all_eq_true];intro x hx;obtain ⟨t,_,ht⟩:=List.mem_flatMap.1 hx;simp only [tyV,List.mem_cons,List.not_mem_nil,or_false] at ht;rcases ht with rfl | rfl<;>rfl
 refine Yz (hs0) (args:=[pt b,.slice q l.length e]) Tryz.func76 J Tryz.ntmps76 ?_;refine Zg (Zb (Za J (Zf J) (Ze (Zc (Zg (Zb (Za J (Zf J) (Ze (Zc (Zg (Zb (Za J (Zd J) (Za J (Zd J) ?_)))))))))))));refine Pn J (ta J) J J (old_rows tyV hu hF hv.out (fun r x h=>h.1) (fun _ _=>J)) hfl hall (by unfold maxLen;omega) (by omega) ?_;intro v1;refine Za J (Zf J) (Ze (Zc (Zg (Zb (Za J (Zd J) (Za J (Z8 (tb J) J J) (Za J (Z8 (tb J) J J) (Wk J (ts J) (tz J) J J J J J ?_))))))));intro b1 hb1;refine Ww J (ta J) J J (Yl 0 J) J J (by unfold maxLen;omega) (by omega) ?_;intro v2;refine Za J (Zf J) (Ze (Zc (Zg (Th (p:=∃ p c,v2=.slice p (l.length+2) c∧l.length+2≤c) (fun w hs=>Od hs.res.1 (by omega)) ?_))));rintro ⟨p2,c2,hv2,hc2⟩;subst hv2;refine Xt (Asr.swap _ _ _) (Zb (Za J (Zd J) (Za J (Zd J) (Za J (Zw J) (Za J (Zh (ff J) J) (Za J (Zj (t1 J) J (Zi 1 J J)) (Za J (Zd J) (Wk J (ts J) (tz J) J J J J J ?_))))))));intro b2 hb2;refine Ww J (ta J) J J (Yl 0 J) J J (by unfold maxLen;omega) (by omega) ?_;intro v3;refine Za J (Zw J) (Za J (Zh (ff J) J) (Xc (p:=∃ p l c,v3=.slice p l c) (fun w hs=>Xb hs.res.1) ?_));rintro ⟨p3,l3,c3',hv3⟩;subst hv3;refine Yy (t1 J) J J 2 J J J J (Ze (Zc (Zg (Zb (Za J (Zd J) (Za J (Zd J) (Za J (Zx (ts J) J) (Za J (U4 (ts J) J J ?_) ?_))))))))
 ·omega
 refine Za J (Zf J) (Ze (Zc (Zr (Wp (We J (X9 J)) 2 J ?_))));exact ⟨_,p2,c2,J,J,by have h9:=Pr (e':=69) (e:=71) (sz:=2) (cell:=tyV) (v:=.slice p3 l3 c3') (rows:=T) (l:=l++tyX) (u:=.slice p2 (l.length+2) c2);rw [List.length_append,List.flatMap_append] at h9;exact h9⟩
section
variable {w0:World} {F:List Nat} {H:Hp} {R:Asr}
theorem Mw {β:Type} {cell:β→List Value} {e sz n cap g i:Nat} {l:List β} {y:β} (h:∀ w,Sat w0 F H R w→w.ownsRow 0 e sz (.slice (some ⟨g,0,none⟩) n cap) n (l.flatMap cell)) (hk:∀ x ∈ l,(cell x).length=sz) (hi:l[i]?=some y):Row w0 F H R g (0+i*sz) (cell y) :=
 ⟨fun w hs j v hj=>by
  have h1:=(h w hs).cells (g:=g) rfl (i*sz+j) v (Mc cell sz l hk i j y v hi hj);rw [Addr.add_lit,Nat.zero_add] at h1;rw [Nat.zero_add];exact h1⟩
theorem cell_own {β:Type} {cell:β→List Value} {e sz n cap g i o j:Nat} {l:List β} {y:β} {v:Value} (h:∀ w,Sat w0 F H R w→w.ownsRow 0 e sz (.slice (some ⟨g,0,none⟩) n cap) n (l.flatMap cell)) (hk:∀ x ∈ l,(cell x).length=sz) (hi:l[i]?=some y) (hv:(cell y)[j]?=some v) (ho:o=0+i*sz+j):Cell w0 F H R ⟨g,o,none⟩ v :=
 ⟨fun w hs=>by rw [ho];exact (Mw h hk hi).go w hs j v hv⟩
end
theorem BkOk.mono {k:Bk} {N M:Nat} (h:BkOk k N) (hNM:N≤M):BkOk k M :=
 ⟨⟨h.t.1,Nat.le_trans h.t.2 hNM⟩,⟨h.i.1,Nat.le_trans h.i.2 hNM⟩,⟨h.f.1,Nat.le_trans h.f.2 hNM⟩,⟨h.m.1,Nat.le_trans h.m.2 hNM⟩,⟨h.h.1,Nat.le_trans h.h.2 hNM⟩,⟨h.r.1,Nat.le_trans h.r.2 hNM⟩,⟨h.b.1,Nat.le_trans h.b.2 hNM⟩⟩
structure KcL where
 i:Nat
 bk:Bk
 N:Nat
theorem Q9 {α:Type} {l:List α} {i:Nat} {x:α} (h:l[i]?=some x):l.drop i=x::l.drop (i+1):=by
 have hi:i<l.length:=by
  rcases Nat.lt_or_ge i l.length with h' | h'
  ·exact h'
  ·rw [List.getElem?_eq_none h'] at h;cases h
 rw [List.drop_eq_getElem_cons hi];rw [List.getElem?_eq_getElem hi] at h;cases h;rfl
end
section
open Go Go.RowKit At E
theorem RuP.mono {P:Program} {f:FuncId} {args:Array Value} {u:World} {b:Nat} {cs:List Value} {Rin:Asr} {ok ok':Value→List Value→Asr→Prop} (h:RuP P f args u b cs Rin ok) (k:∀ v cs' R',ok v cs' R'→ok' v cs' R'):RuP P f args u b cs Rin ok':=by
 intro w hb hF hs;refine Calls.mono (h w hb hF hs) ?_;rintro e w' ⟨v,cs',R',rfl,hok,hw⟩;exact ⟨v,cs',R',J,k _ _ _ hok,hw⟩
structure Lx where
 vT:Value
 vI:Value
 vF:Value
 vM:Value
 vH:Value
 vR:Value
 sT:List (List Ty × Value)
 sI:List (List (Ins × Value) × Value)
 sF:List (List Fld × Value)
 sM:List (List (Me × MeM) × Value)
 sH:List (List Hd × Value)
 sR:List (List (Fr × Value × Value) × Value)
def Lx.C (k:Lx):List Value:=bkC k.vT k.vI k.vF k.vM k.vH k.vR W0
def lxA (k:Lx):Asr:=six (U5 69 71 2 tyV k.vT k.sT) (U5 76 75 7 insC k.vI k.sI) (U5 22 128 4 fdV k.vF k.sF) (U5 23 134 10 meC k.vM k.sM) (U5 131 169 4 hdV k.vH k.sH) (U5 132 176 3 frC k.vR k.sR)
structure LxOk (k:Lx) (N:Nat):Prop where
 t:k.sT.length≤N
 i:k.sI.length≤N
 f:k.sF.length≤N
 m:k.sM.length≤N
 h:k.sH.length≤N
 r:k.sR.length≤N
def Pre {β:Type} (X:List β) (T:List (List β × Value)) (ps:List β) (qv:Value):Prop:=(ps=[]∧qv=.slice none 0 0)∨∃ p c,qv=.slice p ps.length c∧(ps++X,Value.slice p (ps.length+X.length) c) ∈ T
theorem Pre.app {β:Type} {X:List β} {T:List (List β × Value)} {ps:List β} {qv:Value} (h:Pre X T ps qv) (T2:List (List β × Value)):Pre X (T++T2) ps qv:=by
 rcases h with h | ⟨p,c,h1,h2⟩
 ·exact .inl h
 ·exact .inr ⟨p,c,h1,List.mem_append_left _ h2⟩
theorem Pre.slice {β:Type} {X:List β} {T:List (List β × Value)} {ps:List β} {qv:Value} (h:Pre X T ps qv):∃ p n c,qv=.slice p n c:=by
 rcases h with ⟨-,rfl⟩ | ⟨p,c,rfl, -⟩<;>exact ⟨_,_,_,rfl⟩
theorem Yu.one {w:World} {v:Value} {l:List Ty} (h:Yu w v l):v.oneCell'=true:=by
 obtain ⟨p,c,rfl, -⟩:=h.is;rfl
theorem insV_one (ins:Ins) {pv:Value} (h:pv.oneCell'=true):(Wx ins pv).all (·.oneCell')=true:=by
 simp only [Wx,List.all_cons,List.all_nil,h];rfl
theorem lxTyped (u:World) (b:Nat) (k:Lx) (tv:Value) (l:List Ty) (hv:Yu u tv l) (hT:k.sT.length≤1099511627776) :
  RuP Tryz.prog 76 #[pt b,tv] u b k.C (lxA k)
   (fun v cs' R'=>∃ k':Lx,cs'=k'.C∧R'.Imp (lxA k')∧Pre tyX k'.sT l v∧∃ vT' v',k'={ k with vT:=vT',sT:=k.sT++[(l++tyX,v')] }):=by
 refine RuP.mono (RuP.frame (lsTyped_any u b k.vT k.vI k.vF k.vM k.vH k.vR tv k.sT l hv hT) (out1 _ _ _ _ _ _)) ?_;rintro v cs' R'' ⟨R',⟨vT',p,c,rfl,rfl,hR⟩,rfl⟩;exact ⟨{ k with vT:=vT',sT:=k.sT++[(l++tyX,.slice p (l.length+2) c)] },J,(Asr.Imp.left hR).trans (in1 _ _ _ _ _ _),.inr ⟨p,c,J,List.mem_append_right _ (List.mem_singleton.2 J)⟩,vT',_,J⟩
def ins77:Ins:=⟨77,0,⟨mt,mt,[],⟨0,mt⟩⟩⟩
def insX:List (Ins × Value):=[(ins77,.slice none 0 0),(ins77,.slice none 0 0)]
def tyRow (l:List Ty):List Ty:=l++tyX
structure CdL where
 i:Nat
 k:Lx
 its:List (Ins × Value)
 v:Value
 T2:List (List Ty × Value)
structure CdOk (k0:Lx) (l:List Ins) (x:CdL):Prop where
 i:x.i=x.its.length
 le:x.its.length≤l.length
 its:x.its.map (·.1)=l.take x.its.length
 pre:∀ q ∈ x.its,Pre tyX x.k.sT q.1.ref.params q.2
 T:x.k.sT=k0.sT++x.T2
 T2:x.T2.map (·.1)=(l.take x.its.length).map fun i=>tyRow i.ref.params
 k:∃ vT,x.k={ k0 with vT:=vT,sT:=x.k.sT }
theorem CdOk.len {k0:Lx} {l:List Ins} {x:CdL} (h:CdOk k0 l x):x.T2.length=x.its.length:=by
 have:=congrArg List.length h.T2;have h2:=h.le;simp only [List.length_map,List.length_take] at this;omega
theorem CdOk.next {k0:Lx} {l:List Ins} {x:CdL} {ins:Ins} {k':Lx} {vT' v' pv v2:Value} (h:CdOk k0 l x) (hi:l[x.its.length]?=some ins) (hp:Pre tyX k'.sT ins.ref.params pv) (hk:k'={ x.k with vT:=vT',sT:=x.k.sT++[(ins.ref.params++tyX,v')] }) :
  CdOk k0 l ⟨x.i+1,k',x.its++[(ins,pv)],v2,x.T2++[(ins.ref.params++tyX,v')]⟩:=by
 have hlt:x.its.length<l.length:=by
  rcases Nat.lt_or_ge x.its.length l.length with h | h
  ·exact h
  ·rw [List.getElem?_eq_none h] at hi;cases hi
 have ht:l.take (x.its.length+1)=l.take x.its.length++[ins]:=by rw [List.take_add_one,hi];rfl
 have hkT:k'.sT=x.k.sT++[(ins.ref.params++tyX,v')]:=by rw [hk]
 refine ⟨by simp only [List.length_append,List.length_singleton,h.i],by simp only [List.length_append,List.length_singleton];omega,?_,?_,?_,?_,?_⟩
 ·simp only [List.length_append,List.length_singleton,List.map_append,List.map_cons,List.map_nil];rw [ht,h.its]
 ·intro q hq;rcases List.mem_append.1 hq with hq | hq
  ·rw [hkT];exact (h.pre q hq).app _
  ·rw [List.mem_singleton.1 hq];exact hp
 ·show k'.sT=_;rw [hkT,h.T,List.append_assoc]
 ·simp only [List.length_append,List.length_singleton,List.map_append,List.map_cons,List.map_nil];rw [ht,h.T2,List.map_append];rfl
 ·obtain ⟨vT,hx⟩:=h.k;refine ⟨vT',?_⟩;show k'={ k0 with vT:=vT',sT:=k'.sT };rw [hkT,hk,hx]
theorem CdOk.fin {k0:Lx} {l:List Ins} {x:CdL} (h:CdOk k0 l x) (vI:Value) (r:List (List (Ins × Value) × Value)):∃ vT vI',({ x.k with vI:=vI,sI:=x.k.sI++r }:Lx)={ k0 with vT:=vT,vI:=vI',sT:=k0.sT++x.T2,sI:=k0.sI++r }:=by
 obtain ⟨i,k,its,v,T2⟩:=x;obtain ⟨vT,hk⟩:=h.k;have hT:=h.T;dsimp only at hk hT ⊢;rw [hT] at hk;subst hk;exact ⟨vT,vI,J⟩
theorem insOf (u:World) {q:Option Addr} {n c:Nat} {l:List Ins} (h:Su u (.slice q n c) l) {i:Nat} {ins:Ins} (hi:l[i]?=some ins):∃ b o pv,q=some ⟨b,o,none⟩∧b<u.heap.size∧Yu u pv ins.ref.params∧∀ j v,(Wx ins pv)[j]?=some v→u.cell? ⟨b,o+i*7+j,none⟩=some v:=by
 obtain ⟨p,c',hv, -,hr⟩:=h.is;cases hv;obtain ⟨b,o,r,hp,hb,⟨pv,rfl,ht, -⟩,hc⟩:=hr i ins hi;exact ⟨b,o,pv,hp,hb,ht,hc⟩
theorem r2 (A B C D:Asr):(A.and ((B.and C).and D)).Imp (B.and ((A.and C).and D)):=(Asr.Imp.right (Asr.assoc _ _ _)).trans ((Asr.swap _ _ _).trans (Asr.Imp.right (Asr.cossa _ _ _)))
theorem lxCoded (u:World) (b:Nat) (k:Lx) (N:Nat) (tv:Value) (l:List Ins) (hv:Su u tv l) (hk:LxOk k N) (hN:N+l.length+1≤1099511627776) :
  RuP Tryz.prog 77 #[pt b,tv] u b k.C (lxA k)
   (fun v cs' R'=>∃ (k':Lx) (its:List (Ins × Value)) (T2:List (List Ty × Value)) (v2:Value),cs'=k'.C∧R'.Imp (lxA k')∧its.map (·.1)=l∧Pre insX k'.sI its v∧(∀ q ∈ its,Pre tyX k'.sT q.1.ref.params q.2)∧T2.map (·.1)=l.map (fun i=>tyRow i.ref.params)∧∃ vT vI,k'={ k with vT:=vT,vI:=vI,sT:=k.sT++T2,sI:=k.sI++[(its++insX,v2)] }):=by
 intro w hu hF hs0;obtain ⟨q,e,rfl,hl, -⟩:=hv.is;replace hv:Hid _:=hv;have hkt:=hk.t;have hki:=hk.i;refine Yz (hs0) (args:=[pt b,.slice q l.length e]) Tryz.func77 J Tryz.ntmps77 ?_;refine Zg (Zb (Za J (Zf J) (Ze (Zc (Zg (Zb (Za J (Zf J) (Ze (Zc (Zg (Zg (Zb (Za J (Zf J) (Ze (Zc (Zn (Ni 75 7 ?_)))))))))))))))));refine Yf (Yg (X:=CdL) (fun x=>[(0,pt b),(1,.slice q l.length e),(5,x.v),(6,iN x.i)]) _ _ (fun x=>[(b,x.k.C)]) (fun x=>(Y0 75 7 x.v x.i (x.its.flatMap insC)).and (lxA x.k)) (fun x=>CdOk k l x) (fun x=>l.length - x.i) (⟨0,k,[],.slice none 0 0,[]⟩) (⟨J,Nat.zero_le _,J,by simp,by simp,J,⟨k.vT,J⟩⟩) ?_) ⟨J,J,J,J,trivial⟩;intro x hI;refine Zg (Zg (Zb (Za J (Zd J) (Za J (Zd J) (Za J (Zx (ts J) J) (Za J (Yi J J) (Ze (Zc (Zu J ?_ ?_)))))))))
 ·intro c1;have hxi:x.i<l.length:=by omega
  have hii:=hI.i;obtain ⟨ins,hi⟩:∃ p,l[x.i]?=some p:=⟨_,List.getElem?_eq_getElem hxi⟩;obtain ⟨g,o,pv,hq,hgb,hpv,hc⟩:=insOf u hv.out hi;subst hq;have hone:=insV_one ins hpv.one;have hsT:x.k.sT.length=k.sT.length+x.its.length:=by rw [hI.T,List.length_append,hI.len]
  refine Zo (Zc (Zg (Zn (Zg (Zb (Za J (Zd J) (Za J (Zd J) (Za J (Yo (ts J) J J ?_) ?_))))))))
  ·omega
  refine Za J (Yj (tn J) J (U6 (vs:=Wx ins pv) hu hF hgb hc) J) (Yk J (tz J) ?_);intro b1 hb1;refine Z2 (tn J) J J 0 J J hone J (Ze (Zc (Zg (Zb (Za J (Zd J) (Za J (Zh (ff J) J) (Za J (Zh (ff J) J) (Za J (Zj (t1 J) J (Zi 0 J J)) ?_))))))));refine Zz (Asr.comm _ _) ?_;refine Vx fn76 J J 1 J hu hF (lxTyped u b x.k pv ins.ref.params hpv (by omega)) ?_;rintro v cs' R' ⟨k1,rfl,hR1,hpre,vT1,v',hk1⟩;obtain ⟨p1,n1,c1',hv1⟩:=hpre.slice;subst hv1;refine Zz (hR1.left.trans (Asr.comm _ _)) ?_;refine Za J (Zh (ff J) J) (Za J (Zh (ff J) J) (Yy (t1 J) J J 0 J J J J (Ze (Zc (Zb (Za J (Zd J) (Za J (Zv (tn J) J 0 J J) (Wk J (ts J) (tz J) J J J J J ?_))))))));intro b2 hb2;refine Ww J (ta J) J J (Yl 0 J) J J (by unfold maxLen;omega) (by omega) ?_;intro v1;refine Za J (Zf J) (Ze (Zt (Zc (Zb (Za J (Zd J) ?_)))));refine Za J (Yn J J ?_) ?_;omega;refine Za J (Zf J) (Ze ?_);refine Z1 (⟨x.i+1,k1,x.its++[(ins,.slice p1 n1 c1')],v1,x.T2++[(ins.ref.params++tyX,v')]⟩) ?_ (hI.next (hii ▸ hi) hpre hk1) 2 J (by simp only [List.flatMap_append];rfl) ⟨rfl,rfl,rfl,rfl,trivial⟩;show l.length - (x.i+1)<l.length - x.i;omega
 ·intro c1;refine Yd (Yc (Z5 (Yb (Zc (Zg ?_)))));have hle:=hI.le;have hii:=hI.i;have hil:x.i=l.length:=by omega
  have hsI:x.k.sI=k.sI:=by obtain ⟨vT,h⟩:=hI.k;rw [h]
  have hsIl:x.k.sI.length=k.sI.length:=by rw [hsI]
  refine Zb (Za J (Zd J) (Za J (Z8 (tb J) J J) (Za J (Z8 (tb J) J J) (Wk J (ts J) (tz J) J J J J J ?_))));intro b1 hb1;refine Ww J (ta J) J J (Yl 0 J) J J ?_ ?_ ?_
  ·unfold maxLen;omega
  ·omega
  intro v2;refine Za J (Zf J) (Ze (Zc (Zg (Th (p:=∃ p c,v2=.slice p (x.i+2) c∧x.i+2≤c) (fun w hs=>Od hs.res.1 (by omega)) ?_))));rintro ⟨p2,c2,hv2,hc2⟩;subst hv2;refine Xt ((Asr.Imp.right (out2 _ _ _ _ _ _)).trans (r2 _ _ _ _)) (Zb (Za J (Zd J) (Za J (Zd J) (Za J (Zw J) (Za J (Zh (ff J) J) (Za J (Zj (t1 J) J (Zi 1 J J)) (Za J (Zd J) (Wk J (ts J) (tz J) J J J J J ?_))))))));intro b2 hb2;refine Ww J (ta J) J J (Yl 0 J) J J (by unfold maxLen;omega) (by omega) ?_;intro v3;refine Za J (Zw J) (Za J (Zh (ff J) J) (Xc (p:=∃ p l c,v3=.slice p l c) (fun w hs=>Xb hs.res.1) ?_));rintro ⟨p3,l3,c3',hv3⟩;subst hv3;refine Yy (t1 J) J J 2 J J J J (Ze (Zc (Zg (Zb (Za J (Zd J) (Za J (Zd J) (Za J (Zx (ts J) J) (Za J (U4 (ts J) J J ?_) ?_))))))))
  ·omega
  refine Za J (Zf J) (Ze (Zc (Zr (Wp (We J (X9 J)) 2 J ?_))));exact ⟨{ x.k with vI:=.slice p3 l3 c3',sI:=x.k.sI++[(x.its++insX,.slice p2 (x.i+2) c2)] },x.its,x.T2,.slice p2 (x.i+2) c2,J,(Asr.cossa _ _ _).trans ((Asr.Imp.left (by have h9:=Pr (e':=76) (e:=75) (sz:=7) (cell:=insC) (v:=.slice p3 l3 c3') (rows:=x.k.sI) (l:=x.its++insX) (u:=.slice p2 (x.i+2) c2);rw [List.length_append,List.flatMap_append,← hii] at h9;exact h9)).trans (in2 _ _ _ _ _ _)),by have h9:=hI.its;rw [← hii,hil,List.take_length] at h9;exact h9,.inr ⟨p2,c2,by rw [← hii,hil],by show (_,Value.slice p2 (x.its.length+2) c2) ∈ _;rw [← hii];exact List.mem_append_right _ (List.mem_singleton.2 J)⟩,hI.pre,by have h9:=hI.T2;rw [← hii,hil,List.take_length] at h9;exact h9,hI.fin _ _⟩
end
namespace E
open Go Go.RowKit
structure WA (P:Program) (n:Nat) (all:Array Oper) (fuel:Nat) (listed:Array Bool) (E:Env) (w0:World) (F:List Nat) (H:Hp) (R:Asr) (fn:Func) (Z:Ending→World→Prop) (κ:List Kf):Prop where
 go:∀ w,Sat w0 F H R w→∀ a,Ag n a E→wpAny P .any all (den P fn Z κ) fuel listed a w
section
variable {P:Program} {n:Nat} {E:Env} {w0:World} {F:List Nat} {H:Hp} {R:Asr} {fn:Func} {Z:Ending→World→Prop} {κ:List Kf}
theorem WC_any {id:Nat} {l:List Oper} (hm:P.follows .mixedOrders=true) (h:WA P n l.toArray l.length (Array.replicate l.length false) E w0 F H R fn Z κ):WC P n (.region id l.toArray true) E w0 F H R fn Z κ :=
 ⟨fun w hs a ha=>wp_region_any hm (by rw [List.size_toArray];exact h.go _ (hs.drawn _) a ha)⟩
theorem O8 {all:Array Oper} {fuel:Nat} {listed:Array Bool} (hr:Region.ready .any all listed=[]) (h:WQ P n .normal E w0 F H R fn Z κ):WA P n all fuel listed E w0 F H R fn Z κ :=
 ⟨fun w hs a ha=>wpAny_done hr (h.go w hs a ha) fuel⟩
theorem Ll {all:Array Oper} {fuel:Nat} {listed:Array Bool} {rs:List Nat} (hr:Region.ready .any all listed=rs) (hne:rs≠[])
  (h:∀ i ∈ rs,∃ o,all[i]?=some o∧WL P n all [o] E w0 F H R fn Z (⟨2,0,.skip,wpAny P .any all (den P fn Z κ) fuel (listed.setIfInBounds i true)⟩::κ)):WA P n all (fuel+1) listed E w0 F H R fn Z κ :=
 ⟨fun w hs a ha=>wpAny_all hr hne fun i hi=>by
  obtain ⟨o,ho,hw⟩:=h i hi;have h1:=hw.go w hs a ha;unfold wpOp;rw [ho];simp only [wpList] at h1;simp only;split
  ·rename_i hwant
   rw [if_pos hwant] at h1;rcases h1 with h1 | ⟨h1,a0,w1,h2⟩
   ·left;unfold Oper.wp at h1 ⊢;generalize (execOp a.eval o).run P w=r at *;cases r with
    | ok nx w' =>
     cases nx<;>simp only [Oper.upon] at h1 ⊢ <;>
      first
       | exact h1
       | exact Calls.mono h1 (fun e w'' he=>by cases e<;>exact he)
       | exact Rows.mono h1 (fun _ _ he=>he)
    | halt x w'=>cases x<;>simp only [Oper.upon] at h1 ⊢<;>exact h1
   ·exact .inr ⟨h1,a0,w1,h2⟩
  ·rename_i hwant
   rw [if_neg hwant] at h1;exact h1⟩
theorem Y4 {all:Array Oper} {fuel:Nat} {listed:Array Bool} (i:Nat) {o:Oper} (hr:Region.ready .any all listed=[i]) (ho:all[i]?=some o)
  (h:WL P n all [o] E w0 F H R fn Z (⟨2,0,.skip,wpAny P .any all (den P fn Z κ) fuel (listed.setIfInBounds i true)⟩::κ)):WA P n all (fuel+1) listed E w0 F H R fn Z κ:=Ll hr (by simp) (fun j hj=>by rw [List.mem_singleton.1 hj];exact ⟨o,ho,h⟩)
theorem Yw {all:Array Oper} {fuel:Nat} {listed:Array Bool} (h:WA P n all fuel listed E w0 F H R fn Z κ):WQ P n .normal E w0 F H R fn Z (⟨2,0,.skip,wpAny P .any all (den P fn Z κ) fuel listed⟩::κ):=⟨h.go⟩
end
end E
end Go.Proofs.YtpofmnfkdkmieaaGreat
