/- What is proved here: the program's reader (package wire): lis -/
import Derived.Test.YtpofmnfkdkmieaaGreatQ07
import Derived.Test.YtpofmnfkdkmieaaGreatQ06
import Derived.Test.YtpofmnfkdkmieaaGreatQ02
import Derived.Orders
import Derived.Test.YtpofmnfkdkmieaaGreatQ03
import Derived.OrdersHeld
import Derived.Test.YtpofmnfkdkmieaaGreatQ05
set_option linter.unusedVariables false
set_option linter.unusedSimpArgs false
namespace Go.Proofs.YtpofmnfkdkmieaaGreat
section
open Go.RowKit At E
section
variable {P:Program} {n:Nat} {E:Env} {w0:World} {F:List Nat} {H:Hp} {R:Asr} {fn:Func} {Z:Ending->World->Prop} {κ:List Kf}
theorem Pg {all:Array Oper} {l:List Oper} {d f b:Nat} {g:Operand} {pv:Value} {ts:Array TypeId} {t:TypeId} {p:String} {e:Array Edge} {cs:List Value} {u:World} {ok:Value->List Value->Asr->Prop} {may:Prop} (hf:IsFn P f)
  (hd:Nat.blt d n=true) (hg:ev E g=some (.func (.func f) #[pv] #[])) (i:Nat) (hp:H[i]?=some (b,cs)) (hu:Below u.heap.size u w0) (hF:∀ x ∈ F,u.heap.size<=x) (hc:RcP P f #[pv] u b cs ok may)
  (hn:may->WD P n E u fn Z κ)
  (h:∀ v cs' R',ok v cs' R'->WL P n all l ((d,v)::E) w0 F (H.set i (b,cs')) (R'.and R) fn Z κ) :
  WL P n all (⟨some d,.call ⟨.value g,#[],ts⟩,t,p,e,none⟩::l) E w0 F H R fn Z κ :=
 ⟨fun w hs a ha=>wpList_plain rfl fun K hK=>by
  unfold Oper.wp;rw [I9 rfl (ha.eval hg) hf];refine Calls.mono (P:=P) (f:=f) (by have:=hc w (Zqd hu hF hs hp);simpa using this) ?_;rintro e w' (⟨v,cs',R',rfl,hok,hw⟩ | ⟨hm,rfl,hb⟩)
  ·exact hK _ _ ((h v cs' R' hok).go w' (Zjs hs hp hw) _ (ha.put hd _))
  ·exact (hn hm).go w' hb _ ha⟩
end
def Tv {α:Type} (most:Nat) (p:Ps α) (n:Nat):Ps (List α):=if (true&&decide (most<n))=true then pNo else O3 p n
theorem O6 {α:Type} {most n:Nat} {p:Ps α} {r:List UInt8} (h:most<n):Tv most p n r=none:=by unfold Tv;rw [if_pos (by simp [h])];rfl
theorem O5 {α:Type} {most n:Nat} {p:Ps α} (h:¬ most<n):Tv most p n=U9 p [] n:=by unfold Tv;rw [if_neg (by simp [h]),Zhj]
def G8 {α β:Type} (fst:β->α) (cell:β->List Value) (asr:β->Asr) (ok:β->Prop):α->Value->Asr->Prop:=fun x v R'=>∃ y,fst y=x/\v=.agg (cell y).toArray/\R'.Imp (asr y)/\ok y
def repL {α β:Type} (e k:Nat) (fst:β->α) (cell:β->List Value) (asr:β->Asr) (ok:β->Prop):List α->Value->Asr->Prop:=fun l v R' =>
 ∃ ls:List β,ls.map fst=l/\R'.Imp ((Tz e k v ls.length (ls.flatMap cell)).and (P2 (ls.map asr)))/\ls.length<=65535/\∀ y ∈ ls,ok y
theorem RdP.mono {α:Type} {f:FuncId} {args:Array Value} {u:World} {b:Nat} {p:Ps α} {rep rep':α->Value->Asr->Prop} (h:RdP f args u b p rep) (k:∀ x v R',rep x v R'->rep' x v R'):RdP f args u b p rep':=by
 intro r hrl w h0;refine Calls.mono (h r hrl w h0) ?_;rintro e w' (⟨v,cs',R',rfl,⟨x,r1,hp,rfl,hr1,hrep⟩,hw⟩ | ⟨hm,rfl,hb⟩)
 ·exact .inl ⟨_,_,_,J,⟨x,r1,hp,J,hr1,k _ _ _ hrep⟩,hw⟩
 ·exact .inr ⟨hm,J,hb⟩
structure RdL (β:Type) where
 r:List UInt8
 v:Value
 l:List β
def noA {α:Type} (_:α):Asr:=Asr.none
abbrev InsR:=Ins × Value
abbrev FrR:=Fr × Value × Value
abbrev MeR:=Me × MeM
def fIns (p:InsR):Ins:=p.1
def fFr (p:FrR):Fr:=p.1
def fMe (p:MeR):Me:=p.1
def fId {α:Type} (x:α):α:=x
theorem Zqr (t:Ty) (w:World) (_:(noA t).A w):(tyV t).all (·.oneCell')=true:=rfl
theorem Znh (t:Fld) (w:World) (_:(noA t).A w):(fdV t).all (·.oneCell')=true:=rfl
theorem Zdy (t:Hd) (w:World) (_:(noA t).A w):(hdV t).all (·.oneCell')=true:=rfl
theorem Znf (t:InsR) (w:World) (h:(insA t).A w):(Fk t).all (·.oneCell')=true:=by
 have h1:t.2.oneCell'=true:=S0 h;simp only [Fk,D5,List.all_cons,List.all_nil,h1];rfl
theorem Zng (t:FrR) (w:World) (h:(frA t).A w):(frC t).all (·.oneCell')=true:=by
 have h1:t.2.1.oneCell'=true:=S0 h.1;have h2:t.2.2.oneCell'=true:=S0 h.2.1;simp only [frC,frV,List.all_cons,List.all_nil,h1,h2];rfl
theorem Zhm (t:MeR) (w:World) (h:(meA t).A w):(meC t).all (·.oneCell')=true:=by
 have h1:t.2.pv.oneCell'=true:=S0 h.1;have h2:t.2.cv.oneCell'=true:=S0 h.2.1.1.1;have h3:t.2.hv.oneCell'=true:=S0 h.2.1.2.1.1;have h4:t.2.fv.oneCell'=true:=S0 h.2.1.2.1.2.1.1;simp only [meC,meV,List.all_cons,List.all_nil,h1,h2,h3,h4];rfl
def Zkb (p:InsR):Prop:=Zkk p.1/\Gq p.1.ref.params
def okFr (p:FrR):Prop:=frOk p.1
theorem Ev {α β:Type} {P:Ps β} {p:Ps α} {K:List α->Ps β} {k most:Nat} {r r1:List UInt8} (h:V7 (some r) P (some r1) (Y9 (Tl true k most p) K)) (hm:M0 k r1=none):P r=none :=
 W2 h (by unfold Tl Y9;rw [hm])
theorem Ew {α β:Type} {P:Ps β} {p:Ps α} {K:List α->Ps β} {k most n:Nat} {r r1 r2:List UInt8} (h:V7 (some r) P (some r1) (Y9 (Tl true k most p) K)) (hp:M0 k r1=some (n,r2)) (hm:Tv most p n r2=none):P r=none :=
 W2 h (by unfold Tl Y9;rw [hp];exact hm)
theorem Mx {α β:Type} {P:Ps β} {p:Ps α} {K:List α->Ps β} {k most n:Nat} {r r1 r2 r3:List UInt8} {l:List α} (h:V7 (some r) P (some r1) (Y9 (Tl true k most p) K)) (hp:M0 k r1=some (n,r2)) (hm:Tv most p n r2=some (l,r3)):V7 (some r) P (some r3) (K l) :=
 Xn h (by unfold Tl Y9;rw [hp];exact hm)
theorem Ez (U:World) (b n most:Nat) (hn:n<=65535) (hE:RdP 182 #[pt b] U b (pTy false) (G8 fId tyV noA Jo)) :
  RdP 283 #[iN n,iN most,.func (.func 182) #[pt b] #[]] U b (Tv most (pTy false) n) (repL 71 2 fId tyV noA Jo):=by
 intro r hrl w h0;replace hE:Hid _:=hE;refine Wy (h0.sat) (args:=[iN n,iN most,.func (.func 182) #[pt b] #[]]) Tryz.func283 J Tryz.ntmps283 ?_;refine Zt (Zd (Za J (Zx J) (Zo (Zj (Zt (Zd (Za J (Zr J) (Za J (Zr J) (Za J (Xo J J) (Z7 Xq J J (fun w _=>Ym _ w) ?_ ?_))))))))))
 rotate_left
 ·intro o1;replace o1:=dFa o1;refine Z3 (G5 h0.base (Vk h0) (Xi ?_));exact O6 (by omega)
 intro o1;replace o1:=dTr o1;have hS:V7 (some r) (Tv most (pTy false) n) (some r) (U9 (pTy false) [] n):=(V7.first _ _).of (O5 (by omega));refine Zo (Zj (Zt (Zd (Za J (Zx J) (Zo (Zj (Zt (Zt (Zd (Za J (Zr J) (Za J (Zr J) (Zo (Zj (Yy (Jm 71 2 (Gh (Asr.Imp.right (Asr.noneAdd _)) ?_))))))))))))))));refine Vb (Vc (X:=RdL Ty) (fun x:RdL Ty=>[(2,.func (.func 182) #[pt b] #[]),(7,x.v),(12,iN n),(13,iN x.l.length)]) _ _ (fun x:RdL Ty=>[(b,rdC x.r)]) (fun x:RdL Ty=>(Tz 71 2 x.v x.l.length (x.l.flatMap tyV)).and ((P2 (x.l.map noA)).and Asr.none)) (fun x:RdL Ty=>(x.l.length<=n/\x.r.length<=r.length)/\(∀ y ∈ x.l,Jo y)/\V7 (some r) (Tv most (pTy false) n) (some x.r) (U9 (pTy false) (x.l.map fId) (n - x.l.length))) (fun x:RdL Ty=>n - x.l.length) (⟨r,nilS,[]⟩) (⟨⟨Nat.zero_le _,Nat.le_refl _⟩,(fun y h=>by cases h),hS⟩) ?_) ⟨J,J,J,J,trivial⟩;intro x hI;obtain ⟨⟨hxn,hxr⟩,hok,hG⟩:=hI;refine Zt (Zd (Za J (Vf J J) (Zo (Zj (Zt (Xc J ?_ ?_))))))
 ·intro c1;obtain ⟨m,hm⟩:∃ m,n - x.l.length=m+1:=⟨n - x.l.length - 1,by omega⟩;rw [hm,R8] at hG;refine Xe (Zj (Zt (Yy (Zd (Za J (Zr J) (Za J (Zr J) (Pg Zfh J J 0 J h0.base (Vk h0) (hE.out x.r (by omega)) (fun hm=>Yt (Yt (Yt (Yt (Yt (Xi (W2 hG hm))))))) ?_)))))));rintro v cs' R' ⟨x1,r1,hp,rfl,hr1,y,hy,rfl,hR,hok1⟩;subst hy;refine V5 hR.left ?_;refine Ud (p:=(tyV y).all (·.oneCell')=true) (fun w hs=>Zqr y w hs.res.1) ?_;intro hone;refine V5 (Q9 _ _ _ _) (Cs J (ts J) (tz J) J J J J J ?_);intro b1 hb1;refine Jl J (ta J) J J (X2 0 J) J hone ?_ ?_ ?_
  ·unfold maxLen;omega
  ·omega
  intro v1;refine Za J (Zx J) (Zo (Y3 (Zj (Zd ?_))));refine Za J (Vt J J ?_) ?_;omega;refine Za J (Zr J) (Zo ?_);refine Q5 (s:=13) (v':=.int .i64 ((x.l++[y]).length:Nat)) J (by rw [List.length_append];rfl) ?_;refine Wh (⟨r1,v1,x.l++[y]⟩) ?_ (⟨⟨by show (x.l++[y]).length<=n;rw [List.length_append];simp only [List.length_singleton];omega,by show r1.length<=r.length;omega⟩,L5 hok hok1,by show V7 _ _ (some r1) (U9 (pTy false) ((x.l++[y]).map fId) (n - (x.l++[y]).length));rw [List.map_append,List.length_append,show n - (x.l.length+[y].length)=m by simp only [List.length_singleton];omega];have h9:=Xn hG hp;exact h9⟩) 1 J (by show (Tz 71 2 _ _ _).and _=_;rw [List.length_append,List.flatMap_append,List.map_append];rfl) ⟨rfl,rfl,rfl,rfl,trivial⟩;show n - (x.l++[y]).length<n - x.l.length;rw [List.length_append];simp only [List.length_singleton];omega
 ·intro c1;refine Vd (Va (Wo (W9 (Zj (Zt (Zd (Za J (Zr J) (Za J (Zx J) (Zo (Zj (Yz (Tw J J 0 J ?_))))))))))));rw [show n - x.l.length=0 by omega,R7] at hG;exact ⟨x.l.map fId,x.r,Vm hG,J,hxr,x.l,J,Asr.Imp.right (Asr.fst _ _),by omega,hok⟩
theorem Zbi {α:Type} (l:List α):l.map fId=l:=by
 have:(fId:α->α)=id:=rfl;rw [this,List.map_id]
theorem rdTypE (U:World) (b:Nat):RdP 182 #[pt b] U b (pTy false) (G8 fId tyV noA Jo):=(O0 U b).mono fun t _ _ ⟨h1,h2,h3⟩=>⟨t,rfl,h1,h3 ▸ Asr.toNone _,h2⟩
theorem P5 (U:World) (b most:Nat):RdP 183 #[pt b,iN most] U b (Tl true 1 most (pTy false)) (fun l v R'=>R'.Imp (tysA v l)/\Gq l):=by
 intro r hrl w h0;have hS:=V7.first (some r) (Tl true 1 most (pTy false))
 refine Wy (h0.sat) (args:=[pt b,iN most]) Tryz.func183 J Tryz.ntmps183 ?_;refine Zt (Zd (Za J (Zx J) (Zo (Zj (Zt (Zd (Za J (Zr J) (Y6 Mn J J 0 J h0.base (Vk h0) (U8 U b r hrl) (fun hm=>Yt (Xi (by exact W2 hS hm))) ?_))))))));rintro v cs' ⟨R',n,r1,hp,rfl,hr1,rfl,hn, -⟩;replace hS:=Xn hS hp;rw [Sa (show n<9223372036854775808 by omega)];refine Za J (Zr J) (Za J (Zr J) (Za J (Ko J) (T9 fn283 J J 0 J h0.base (Vk h0) (Ez U b n most (by omega) (rdTypE U b) r1 (by omega)) (fun hm=>Yt (Xi (by exact hS.trans hm))) ?_)));rintro v cs' R' ⟨l,r2,hp2,rfl,hr2,ls,hls,hR,hll,hlo⟩;rw [Zbi] at hls;subst hls;refine V5 (hR.left.trans (Asr.assoc _ _ _)) (Za J (Zx J) (Zo (Zj (Yz (Tw J J 0 J ?_)))));exact ⟨ls,r2,hS.trans hp2,J,by omega,Asr.fst _ _,⟨by omega,hlo⟩⟩
set_option maxHeartbeats 2000000 in
theorem Zdn (U:World) (b:Nat):RdP 186 #[pt b] U b (Fe false true) (G8 fIns Fk insA Zkb):=by
 intro r hrl w h0;have hS:=V7.first (some r) (Fe false true)
 refine Wy (h0.sat) (args:=[pt b]) Tryz.func186 J Tryz.ntmps186 ?_;refine Zt (Zd (X1 J (tz J) ?_));intro b1 hb1;refine Zo (Zj (Zt (Zd (Za J (Zr J) (Y6 Mn J J 1 J h0.base (Vk h0) (Po U b r hrl) (fun hm=>Yt (Xi (W2 hS hm))) ?_)))));rintro v cs' ⟨R',op,r1,hp,rfl,hr1,rfl,hop, -, -⟩;replace hS:=Xn hS hp;refine Za J (Ub (tb J) J J) (X1 J (tz J) ?_);intro b2 hb2;refine Y5 (tn J) J J 0 J J J J (Zo (Zj (Zt (Zt (Zd (Za J (Zy (ff J) J) (Za J (Z8 (t1 J) J (Z1 0 J J)) (Vw Zkr J J (fun w _=>Qg _ w) ?_))))))));refine Zo (Zj (Yy (Zt (Zd (Za J (Xx J J) (Za J (Zx J) (Zo (Zj (Xc J ?_ ?_)))))))))
 ·intro c1;rw [Zsf ((Wm (by omega)).1 c1)] at hS;refine Zd (Za J (Zr J) (Y6 fn285 J J 2 J h0.base (Vk h0) (Zdq U b r1 (by omega)) (fun hm=>Yt (Yt (Xi (W2 hS hm)))) ?_));rintro v cs' ⟨R',n,r2,hp2,rfl,hr2,rfl,hn, -, -⟩;replace hS:=Xn hS hp2;refine Za J (Zy (ff J) J) (Px (t1 J) J J 0 J J J J (Zo (Y3 (Zj (Zt (Zd (Za J (Ys (tn J) J 0 J J) (Y5 (tn J) J J 1 J J J J (Zo (Zj (Yz (Sf (Pz J (W8 (tn J) J (X2 1 J) J)) 2 J ?_))))))))))));exact ⟨⟨op,n,rf0⟩,r2,Vm hS,J,by omega,(_,nilS),J,J,Oo _,⟨hop,hn,Zat⟩,Q7⟩
 ·intro c1;refine Zt (Zd (Za J (Xx J J) (Za J (Zx J) (Zo (Zj (Xc J ?_ ?_))))))
  ·intro c2;rw [Zse ((Wm (by omega)).1 c2)] at hS;refine Zd (Za J (Zr J) (Y6 Mn J J 2 J h0.base (Vk h0) (Po U b r1 (by omega)) (fun hm=>Yt (Yt (Xi (W2 hS hm)))) ?_));rintro v cs' ⟨R',n,r2,hp2,rfl,hr2,rfl,hn, -, -⟩;replace hS:=Xn hS hp2;refine Za J (Zy (ff J) J) (Px (t1 J) J J 0 J J J J (Zo (Y3 (Zj (Zt (Zd (Za J (Ys (tn J) J 0 J J) (Y5 (tn J) J J 1 J J J J (Zo (Zj (Yz (Sf (Pz J (W8 (tn J) J (X2 1 J) J)) 2 J ?_))))))))))));exact ⟨⟨op,n,rf0⟩,r2,Vm hS,J,by omega,(_,nilS),J,J,Oo _,⟨hop,hn,Zat⟩,Q7⟩
  ·intro c2;refine Zt (Zd (Za J (Xx J J) (Za J (Zx J) (Zo (Zj (Xc J ?_ ?_))))))
   ·intro c3;rw [Zsd ((Wm (by omega)).1 c3)] at hS;refine Zd (Za J (Zr J) (Y6 Am J J 2 J h0.base (Vk h0) (O1 U b r1 (by omega)) (fun hm=>Yt (Yt (Xi (W2 hS hm)))) ?_));rintro v cs' ⟨R',n,r2,hp2,rfl,hr2,rfl,hn, -, -⟩;replace hS:=Xn hS hp2;refine Za J (Zy (ff J) J) (Px (t1 J) J J 0 J J J J (Zo (Y3 (Zj (Zt (Zd (Za J (Ys (tn J) J 0 J J) (Y5 (tn J) J J 1 J J J J (Zo (Zj (Yz (Sf (Pz J (W8 (tn J) J (X2 1 J) J)) 2 J ?_))))))))))));exact ⟨⟨op,n,rf0⟩,r2,Vm hS,J,by omega,(_,nilS),J,J,Oo _,⟨hop,hn,Zat⟩,Q7⟩
   ·intro c3;refine Zt (Zd (Za J (Xx J J) (Za J (Zx J) (Zo (Zj (Xc J ?_ ?_))))))
    ·intro c4;rw [Zsc ((Wm (by omega)).1 c4)] at hS;refine Zd (Za J (Zr J) (Y6 Ld J J 2 J h0.base (Vk h0) (Un U b r1 (by omega)) (fun hm=>Yt (Yt (Xi (W2 hS hm)))) ?_));rintro v cs' ⟨R',c,r2,hp2,rfl,hr2,rfl,hc, -⟩;replace hS:=Xn hS hp2;refine Za J (Ub (tb J) J J) (Za J (Zy (ff J) J) (Y5 (tn J) J J 0 J J J J (Zo (Y3 (Zj (Zt (Zd (Za J (Ys (tn J) J 0 J J) (Y5 (tn J) J J 1 J J J J (Zo (Zj (Yz (Sf (Pz J (W8 (tn J) J (X2 1 J) J)) 2 J ?_)))))))))))));exact ⟨⟨op,0,⟨c,mt,[],⟨0,mt⟩⟩⟩,r2,Vm hS,J,by omega,(_,nilS),J,J,Oo _,⟨hop,J6,U3 hc,Mw,Zox⟩,Q7⟩
    ·intro c4;refine Zt (Zd (Za J (Xx J J) (Za J (Zx J) (Zo (Zj (Xc J ?_ ?_))))))
     ·intro c5;rw [Zsb ((Wm (by omega)).1 c5)] at hS;refine Zd (Za J (Zr J) (Y6 Ld J J 2 J h0.base (Vk h0) (Un U b r1 (by omega)) (fun hm=>Yt (Yt (Xi (W2 hS hm)))) ?_));rintro v cs' ⟨R',c,r2,hp2,rfl,hr2,rfl,hc, -⟩;replace hS:=Xn hS hp2;refine Za J (Zr J) (Y6 Ld J J 2 J h0.base (Vk h0) (Un U b r2 (by omega)) (fun hm=>Yt (Yt (Xi (W2 hS hm)))) ?_);rintro v cs' ⟨R',nm,r3,hp3,rfl,hr3,rfl,hnm, -⟩;replace hS:=Xn hS hp3;refine Za J (Zr J) (Y6 Zfh J J 2 J h0.base (Vk h0) (O0 U b r3 (by omega)) (fun hm=>Yt (Yt (Xi (W2 hS hm)))) ?_);rintro v cs' ⟨R',t,r4,hp4,rfl,hr4,rfl,ht, -⟩;replace hS:=Xn hS hp4;refine Za J (Ub (tb J) J J) (Za J (Zy (ff J) J) (Y5 (tn J) J J 0 J J J J (Zo (Y3 (Zj (Zt (Zd (Za J (Ys (tn J) J 0 J J) (Y5 (tn J) J J 1 J J J J (Zo (Zj (Yz (Sf (Pz J (W8 (tn J) J (X2 1 J) J)) 2 J ?_)))))))))))));exact ⟨⟨op,0,⟨c,nm,[],t⟩⟩,r4,Vm hS,J,by omega,(_,nilS),J,J,Oo _,⟨hop,J6,U3 hc,U3 hnm,ht⟩,Q7⟩
     ·intro c5;refine Zt (Zd (Za J (Xx J J) (Za J (Zx J) (Zo (Zj (Xc J ?_ ?_))))))
      ·intro c6;rw [Zsa ((Wm (by omega)).1 c6)] at hS;refine Zd (Za J (Zr J) (Y6 Ld J J 2 J h0.base (Vk h0) (Un U b r1 (by omega)) (fun hm=>Yt (Yt (Xi (W2 hS hm)))) ?_));rintro v cs' ⟨R',c,r2,hp2,rfl,hr2,rfl,hc, -⟩;replace hS:=Xn hS hp2;refine Za J (Zr J) (Y6 Ld J J 2 J h0.base (Vk h0) (Un U b r2 (by omega)) (fun hm=>Yt (Yt (Xi (W2 hS hm)))) ?_);rintro v cs' ⟨R',nm,r3,hp3,rfl,hr3,rfl,hnm, -⟩;replace hS:=Xn hS hp3;refine Za J (Zr J) (T9 Zkt J J 2 J h0.base (Vk h0) (P5 U b 6 r3 (by omega)) (fun hm=>Yt (Yt (Xi (W2 hS hm)))) ?_);rintro pv cs' R' ⟨ps,rx,hpx,rfl,hrx,hR,hps⟩;replace hS:=Xn hS hpx;refine V5 hR.left (Ud (p:=∃ p l c,pv=.slice p l c) (fun w hs=>V4 hs.res.1) ?_);rintro ⟨p1,l1,c1',hpv⟩;subst hpv;refine Za J (Zr J) (Y6 Zfh J J 2 J h0.base (Vk h0) (O0 U b rx (by omega)) (fun hm=>Yt (Yt (Xi (W2 hS hm)))) ?_);rintro v cs' ⟨R',t,r4,hp4,rfl,hr4,rfl,ht, -⟩;replace hS:=Xn hS hp4;refine Za J (Ub (tb J) J J) (Za J (Zy (ff J) J) (Y5 (tn J) J J 0 J J J J (Zo (Y3 (Zj (Zt (Zd (Za J (Ys (tn J) J 0 J J) (Y5 (tn J) J J 1 J J J J (Zo (Zj (Yz (Sf (Pz J (W8 (tn J) J (X2 1 J) J)) 2 J ?_)))))))))))));exact ⟨⟨op,0,⟨c,nm,ps,t⟩⟩,r4,Vm hS,J,by omega,(_,_),J,J,Asr.fst _ _,⟨hop,J6,U3 hc,U3 hnm,ht⟩,hps⟩
      ·intro c6;rw [Zsg (fun h=>c1 ((Wm (by omega)).2 h)) (fun h=>c2 ((Wm (by omega)).2 h)) (fun h=>c3 ((Wm (by omega)).2 h)) (fun h=>c4 ((Wm (by omega)).2 h)) (fun h=>c5 ((Wm (by omega)).2 h)) (fun h=>c6 ((Wm (by omega)).2 h)) (fun h=>by cases h)] at hS;refine Xe (Y3 (Zj (Zt (Zd (Za J (Ys (tn J) J 0 J J) (Y5 (tn J) J J 1 J J J J (Zo (Zj (Yz (Sf (Pz J (W8 (tn J) J (X2 1 J) J)) 2 J ?_))))))))));exact ⟨⟨op,0,rf0⟩,r1,Vm hS,J,by omega,(_,nilS),J,J,Oo _,⟨hop,J6,Zat⟩,Q7⟩
theorem C7 (U:World) (b:Nat):RdP 188 #[pt b] U b pHd (G8 fId hdV noA hdOk):=by
 intro r hrl w h0;have hS:=V7.first (some r) pHd
 refine Wy (h0.sat) (args:=[pt b]) Tryz.func188 J Tryz.ntmps188 ?_;refine Zt (Zd (X1 J (tz J) ?_));intro b1 hb1;refine Zo (Zj (Zt (Zd (Za J (Zr J) (Y6 Am J J 1 J h0.base (Vk h0) (O1 U b r hrl) (fun hm=>Yt (Xi (W2 hS hm))) ?_)))));rintro v cs' ⟨R',x1,r1,hp,rfl,hr1,rfl,h1, -, -⟩;replace hS:=Xn hS hp;refine Za J (Zr J) (Y6 Am J J 1 J h0.base (Vk h0) (O1 U b r1 (by omega)) (fun hm=>Yt (Xi (W2 hS hm))) ?_);rintro v cs' ⟨R',x2,r2,hp2,rfl,hr2,rfl,h2, -, -⟩;replace hS:=Xn hS hp2;refine Za J (Zr J) (Y6 Am J J 1 J h0.base (Vk h0) (O1 U b r2 (by omega)) (fun hm=>Yt (Xi (W2 hS hm))) ?_);rintro v cs' ⟨R',x3,r3,hp3,rfl,hr3,rfl,h3, -, -⟩;replace hS:=Xn hS hp3;refine Za J (Zr J) (Y6 Ld J J 1 J h0.base (Vk h0) (Un U b r3 (by omega)) (fun hm=>Yt (Xi (W2 hS hm))) ?_);rintro v cs' ⟨R',c,r4,hp4,rfl,hr4,rfl,hc, -⟩;replace hS:=Xn hS hp4;refine Za J (Ub (tb J) J J) (Y5 (tn J) J J 0 J J J J (Zo (Zj (Yz (Sf (Pz J (W8 (tn J) J (X2 0 J) J)) 1 J ?_)))));exact ⟨_,r4,Vm hS,J,by omega,⟨x1,x2,x3,c⟩,J,J,.refl _,⟨h1,h2,h3,U3 hc⟩⟩
theorem Zdp (U:World) (b:Nat):RdP 116 #[pt b] U b (pFd false) (G8 fId fdV noA fdOk):=by
 intro r hrl w h0;have hS:=V7.first (some r) (pFd false)
 refine Wy (h0.sat) (args:=[pt b]) Tryz.func116 J Tryz.ntmps116 ?_;refine Zt (Zd (X1 J (tz J) ?_));intro b1 hb1;refine Zo (Zj (Zt (Zd (Za J (Zr J) (Y6 Ld J J 1 J h0.base (Vk h0) (Un U b r hrl) (fun hm=>Yt (Xi (W2 hS hm))) ?_)))));rintro v cs' ⟨R',c,r1,hp,rfl,hr1,rfl,hc, -⟩;replace hS:=Xn hS hp;refine Za J (Zr J) (Y6 fn181 J J 1 J h0.base (Vk h0) (E4 U b r1 (by omega)) (fun hm=>Yt (Xi (W2 hS hm))) ?_);rintro v cs' ⟨R',st,r2,hp2,rfl,hr2,rfl, -⟩;replace hS:=Xn hS hp2;refine Za J (Zr J) (Y6 Zfh J J 1 J h0.base (Vk h0) (O0 U b r2 (by omega)) (fun hm=>Yt (Xi (W2 hS hm))) ?_);rintro v cs' ⟨R',t,r3,hp3,rfl,hr3,rfl,ht, -⟩;replace hS:=Xn hS hp3;refine Za J (Ub (tb J) J J) (Y5 (tn J) J J 0 J J J J (Zo (Zj (Yz (Sf (Pz J (W8 (tn J) J (X2 0 J) J)) 1 J ?_)))));exact ⟨_,r3,Vm hS,J,by omega,⟨c,st,t⟩,J,J,.refl _,⟨U3 hc,ht⟩⟩
theorem Zdo (U:World) (b:Nat):RdP 190 #[pt b] U b (pFr false true) (G8 fFr frC frA okFr):=by
 intro r hrl w h0;have hS:=V7.first (some r) (pFr false true)
 refine Wy (h0.sat) (args:=[pt b]) Tryz.func190 J Tryz.ntmps190 ?_;refine Zt (Zd (X1 J (tz J) ?_));intro b1 hb1;refine Zo (Zj (Zt (Zd (Za J (Zr J) (Y6 Am J J 1 J h0.base (Vk h0) (O1 U b r hrl) (fun hm=>Yt (Xi (W2 hS hm))) ?_)))));rintro v cs' ⟨R',x1,r1,hp,rfl,hr1,rfl,h1, -, -⟩;replace hS:=Xn hS hp;refine Za J (Zr J) (T9 Zkt J J 1 J h0.base (Vk h0) (P5 U b 20 r1 (by omega)) (fun hm=>Yt (Xi (W2 hS hm))) ?_);rintro lv cs' R' ⟨ls,r2,hp2,rfl,hr2,hR,hls⟩;replace hS:=Xn hS hp2;refine V5 hR.left (Ud (p:=∃ p l c,lv=.slice p l c) (fun w hs=>V4 hs.res.1) ?_);rintro ⟨p1,l1,c1',hpv⟩;subst hpv;refine Za J (Zr J) (T9 Zkt J J 1 J h0.base (Vk h0) (P5 U b 20 r2 (by omega)) (fun hm=>Yt (Xi (W2 hS hm))) ?_);rintro sv cs' R'' ⟨ss,r3,hp3,rfl,hr3,hR2,hss⟩;replace hS:=Xn hS hp3;refine V5 hR2.left (Ud (p:=∃ p l c,sv=.slice p l c) (fun w hs=>V4 hs.res.1) ?_);rintro ⟨p2,l2,c2',hsv⟩;subst hsv;refine Za J (Ub (tb J) J J) (Y5 (tn J) J J 0 J J J J (Zo (Zj (Yz (Sf (Pz J (W8 (tn J) J (X2 0 J) J)) 1 J ?_)))));exact ⟨_,r3,Vm hS,J,by omega,(⟨x1,ls,ss⟩,.slice p1 l1 c1',.slice p2 l2 c2'),J,J,((Asr.cossa _ _ _).trans (Asr.fst _ _)).trans (Asr.comm _ _),⟨h1,hls,hss⟩⟩
end



namespace E
open Go Go.RowKit
structure WA (P:Program) (n:Nat) (all:Array Oper) (fuel:Nat) (listed:Array Bool) (E:Env) (w0:World) (F:List Nat) (H:Hp) (R:Asr) (fn:Func) (Z:Ending->World->Prop) (κ:List Kf):Prop where
 go:∀ w,Sat w0 F H R w->∀ a,Ag n a E->wpAny P .any all (den P fn Z κ) fuel listed a w
section
variable {P:Program} {n:Nat} {E:Env} {w0:World} {F:List Nat} {H:Hp} {R:Asr} {fn:Func} {Z:Ending->World->Prop} {κ:List Kf}
theorem WC_any {id:Nat} {l:List Oper} (hm:P.follows .mixedOrders=true) (h:WA P n l.toArray l.length (Array.replicate l.length false) E w0 F H R fn Z κ):WC P n (.region id l.toArray true) E w0 F H R fn Z κ :=
 ⟨fun w hs a ha=>wp_region_any hm (by rw [List.size_toArray];exact h.go _ (hs.drawn _) a ha)⟩
theorem Kl {all:Array Oper} {fuel:Nat} {listed:Array Bool} (hr:Region.ready .any all listed=[]) (h:WQ P n .normal E w0 F H R fn Z κ):WA P n all fuel listed E w0 F H R fn Z κ :=
 ⟨fun w hs a ha=>wpAny_done hr (h.go w hs a ha) fuel⟩
theorem Kk {all:Array Oper} {fuel:Nat} {listed:Array Bool} {rs:List Nat} (hr:Region.ready .any all listed=rs) (hne:rs≠[])
  (h:∀ i ∈ rs,∃ o,all[i]?=some o/\WL P n all [o] E w0 F H R fn Z (⟨2,0,.skip,wpAny P .any all (den P fn Z κ) fuel (listed.setIfInBounds i true)⟩::κ)):WA P n all (fuel+1) listed E w0 F H R fn Z κ :=
 ⟨fun w hs a ha=>wpAny_all hr hne fun i hi=>by
  obtain ⟨o,ho,hw⟩:=h i hi;have h1:=hw.go w hs a ha;unfold wpOp;rw [ho];simp only [wpList] at h1;simp only;split
  ·rename_i hwant
   rw [if_pos hwant] at h1;rcases h1 with h1 | ⟨h1,a0,w1,h2⟩
   ·left;unfold Oper.wp at h1 ⊢;generalize (execOp a.eval o).run P w=r at *;cases r with
    | ok nx w' =>
     cases nx<;>simp only [Oper.upon] at h1 ⊢ <;>
      first
       | exact h1
       | exact Calls.mono h1 (fun e w'' he=>by cases e<;>exact he)
       | exact Rows.mono h1 (fun _ _ he=>he)
    | halt x w'=>cases x<;>simp only [Oper.upon] at h1 ⊢<;>exact h1
   ·exact .inr ⟨h1,a0,w1,h2⟩
  ·rename_i hwant
   rw [if_neg hwant] at h1;exact h1⟩
theorem Y7 {all:Array Oper} {fuel:Nat} {listed:Array Bool} (i:Nat) {o:Oper} (hr:Region.ready .any all listed=[i]) (ho:all[i]?=some o)
  (h:WL P n all [o] E w0 F H R fn Z (⟨2,0,.skip,wpAny P .any all (den P fn Z κ) fuel (listed.setIfInBounds i true)⟩::κ)):WA P n all (fuel+1) listed E w0 F H R fn Z κ:=Kk hr (by simp) (fun j hj=>by rw [List.mem_singleton.1 hj];exact ⟨o,ho,h⟩)
theorem Yx {all:Array Oper} {fuel:Nat} {listed:Array Bool} (h:WA P n all fuel listed E w0 F H R fn Z κ):WQ P n .normal E w0 F H R fn Z (⟨2,0,.skip,wpAny P .any all (den P fn Z κ) fuel listed⟩::κ):=⟨h.go⟩
end
end E
namespace E
open Go Go.RowKit
section
variable {w1:World} {F1:List Nat} {H1:Hp} {R1:Asr} {P:Program} {n:Nat} {E:Env} {w0:World} {F:List Nat} {H:Hp} {R:Asr} {fn:Func} {Z:Ending->World->Prop} {κ:List Kf}
end
end E


section
open Go.RowKit At E
theorem Zpj (op:Int):X3 op=if op<0\/32<op then -1 else Vr op:=by
 unfold X3 Vr;repeat' split
 all_goals first | rfl | omega
theorem Zne (op:Int):Vr op=0\/Vr op=1\/Vr op=2\/Vr op=3\/Vr op=4\/Vr op=5\/Vr op=6:=by
 unfold Vr;repeat' split
 all_goals simp
theorem D3 (i:Ins) (a:Int) (n:Nat):V9 i a n=(decide (0<=i.op)&&decide (i.op<=32)&&De i a n&&Pn i):=by
 unfold V9;rw [Zpj];by_cases ho:i.op<0\/32<i.op
 ·rw [if_pos ho,if_pos (by omega)]
  have:(decide (0<=i.op)&&decide (i.op<=32))=false:=by
   rcases ho with h | h
   ·rw [decide_eq_false (by omega)];rfl
   ·rw [decide_eq_false (p:=i.op<=32) (by omega)];simp
  rw [this];rfl
 ·rw [if_neg ho];have h1:(decide (0<=i.op)&&decide (i.op<=32))=true:=by rw [decide_eq_true (by omega),decide_eq_true (by omega)];rfl
  rw [h1];simp only [Bool.true_and];unfold De Pn mtT;have hlen:(0<(i.ref.params.length:Int))↔¬ ((i.ref.params.length:Int)=0):=by omega
  have hff:∀ (p:Prop) [Decidable p] (x:Bool),(if p then false else x)=(!decide p&&x):=by intro p _ x;by_cases hp:p<;>simp [hp]
  have hnb:∀ b:Bool,decide (b=false) = !b:=by intro b;cases b<;>rfl
  rcases Zne i.op with h | h | h | h | h | h | h
  all_goals
   simp only [h,hff,Bool.decide_or,decide_not,hlen,hnb];generalize decide (i.ref.cls=_)=b1;generalize decide (i.ref.name=_)=b2;generalize decide ((i.ref.params.length:Int)=0)=b3;generalize decide (i.ref.ty.kind=0)=b4;generalize decide (i.ref.ty.cls=_)=b5;generalize decide (i.n=0)=b6;generalize Xz i.ref.cls=b7;simp
  all_goals (cases b1<;>cases b2<;>cases b3<;>cases b4<;>cases b5<;>cases b6<;>cases b7<;>simp [Bool.and_assoc])
def Qy (m:Me):Bool:=decide (0<(m.code.length:Int))&&decide ((m.code.length:Int)<=200)&&m.code.all (fun i=>V9 i m.locals m.code.length)
theorem U5 (m:Me) (pv hv fv:Value) (cv:Value) (w:World) (hm:MeParts w m pv cv hv fv):Rz Tryz.prog 321 #[.agg (meV m pv cv hv fv).toArray] w (Qy m):=by
 obtain ⟨p2,e2,rfl,hl2,hr2⟩:=hm.cs.is;replace hr2:Hid _:=hr2;clear hm;refine V0 (args:=[.agg (meV m pv (.slice p2 m.code.length e2) hv fv).toArray]) Tryz.func321 J Tryz.ntmps321 ?_;refine Zt (Zd (Uu J J ?_));intro b0 hb0;refine Zo (Zj (Zt (Zd (Za J (Zy (ff J) J) (Za J (Z8 (t1 J) J (Z1 0 J J)) (Za J (Xv (ts J) J) (Za J (Vf J J) (Za J (Zr J) (Xl J J J ?_ ?_)))))))))
 ·intro h1;refine Yd J J J (Zy (ff J) J) (Yd J J J (Z8 (t1 J) J (Z1 0 J J)) (Yd J J J (Xv (ts J) J) (Yd J J J (Xo J J) (Za J (Xd J J) (Z7 Xq J J (fun w _=>Ym _ w) ?_ ?_)))))
  rotate_left
  ·intro o2;replace o2:=dFa o2;have hF:Qy m=false:=by (simp_all [Qy];omega)
   refine Z3 (Yf ?_);exact hF
  intro o2;replace o2:=dTr o2;have hZ:(decide (0<(m.code.length:Int))&&decide ((m.code.length:Int)<=200))=true:=by (simp_all;done)
  refine Zo (Zj (Zt (Zd (Za J (Zy (ff J) J) (Za J (Z8 (t1 J) J (Z1 0 J J)) (Za J (Xv (ts J) J) (Za J (Zr J) (Zo (Zj (Yy ?_))))))))));refine Vb (Vc (X:=Nat) (fun k=>[(1,pt b0),(16,.slice p2 m.code.length e2),(17,iN m.code.length),(18,iN k)]) _ _ (fun k=>[(b0,meV m pv (.slice p2 m.code.length e2) hv fv)]) (fun k=>Asr.none) (fun k=>k<=m.code.length/\(m.code.take k).all (fun i=>V9 i m.locals m.code.length)=true) (fun k=>m.code.length - k) (0) (⟨Nat.zero_le _,J⟩) ?_) ⟨J,J,J,J,trivial⟩;intro k hI;refine Zt (Zd (Za J (Vf J J) (Zo (Zj (Zt (Xc J ?_ ?_))))))
  ·intro c1;have hk:k<m.code.length:=by omega
   obtain ⟨b,o,r,hp,hb,⟨qv,hr,hpt,hio⟩,hc⟩:=hr2.out k m.code[k] (List.getElem?_eq_getElem hk);obtain ⟨q1,f1,hq1, -, -⟩:=hpt.is;subst hp;subst hr;subst hq1;have hIP:=D3 m.code[k] m.locals m.code.length;refine Xe (Zj (Zt (Yy (Zt (Zd (Za J (Qr (ts J) J J ?_) ?_))))))
   ·omega
   refine Za J (Vp (tn J) J (Rh hc hb) J) (X1 J (tz J) ?_);intro b1 hb1;refine Y5 (tn J) J J 0 J J J J (Zo (Zj (Zt (Zd (Za J (Zy (ff J) J) (Za J (Z8 (t1 J) J (Z1 0 J J)) (Za J (Xo J J) (Za J (Zr J) (Xl J J J ?_ ?_)))))))))
   ·intro h3;refine Yd J J J (Zy (ff J) J) (Yd J J J (Z8 (t1 J) J (Z1 0 J J)) (Yd J J J (Xo J J) (Za J (Xd J J) (Z7 Xq J J (fun w _=>Ym _ w) ?_ ?_))))
    rotate_left
    ·intro o4;replace o4:=dFa o4;have hF:Qy m=false:=by unfold Qy;rw [Oe hk (f:=fun i=>V9 i m.locals m.code.length) (by rw [hIP];(simp_all;omega))];simp
     refine Z3 (Z3 (Z3 (Z3 (Z3 (Yf ?_)))));exact hF
    intro o4;replace o4:=dTr o4;refine Zo (Zj (Zt (Zd (Za J (Ys (tn J) J 0 J J) (Za J (Ys (tn J) J 1 J J) (Z7 fn355 J J (fun w _=>Ja _ _ m _ _ _ _ _ w) ?_ ?_))))))
    rotate_left
    ·intro o5;have hF:Qy m=false:=by unfold Qy;rw [Oe hk (f:=fun i=>V9 i m.locals m.code.length) (by rw [hIP];simp_all)];simp
     refine Z3 (Z3 (Z3 (Z3 (Z3 (Yf ?_)))));exact hF
    intro o5;refine Zo (Zj (Zd (Za J (Ys (tn J) J 0 J J) (Z7 fn356 J J (fun w hs=>Fg _ _ w (Uf.mono hpt (Vu hs)) hio) ?_ ?_))))
    rotate_left
    ·intro o6;have hF:Qy m=false:=by unfold Qy;rw [Oe hk (f:=fun i=>V9 i m.locals m.code.length) (by rw [hIP];simp_all)];simp
     refine Z3 (Z3 (Z3 (Z3 (Yf ?_))));exact hF
    intro o6;refine Zo (Y3 (Zj (Zd ?_)));refine Za J (Vt J J ?_) ?_;omega;refine Za J (Zr J) (Zo ?_);refine Wh (k+1) ?_ (⟨hk,Iu hk hI.2 (by rw [hIP];(simp_all;done))⟩) 1 rfl (rfl) ⟨rfl,rfl,rfl,rfl,trivial⟩;omega
   ·intro h3;refine Yk J J J (Yk J J J (Yk J J J (Za J (Y8 J J) (Z7 Xq J J (fun w _=>Ym _ w) ?_ ?_))))
    ·intro o7;cases o7
    intro _;have hF:Qy m=false:=by unfold Qy;rw [Oe hk (f:=fun i=>V9 i m.locals m.code.length) (by rw [hIP];(simp_all;omega))];simp
    refine Z3 (Z3 (Z3 (Z3 (Z3 (Yf ?_)))));exact hF
  ·intro c1;refine Vd (Va (Wo (W9 (V6 J ?_))));unfold Qy;rw [hZ,Zcc (by omega) hI.2];rfl
 ·intro h1;refine Yk J J J (Yk J J J (Yk J J J (Yk J J J (Za J (Y8 J J) (Z7 Xq J J (fun w _=>Ym _ w) ?_ ?_)))))
  ·intro o8;cases o8
  intro _;have hF:Qy m=false:=by (simp_all [Qy];done)
  refine Z3 (Yf ?_);exact hF
def Kq (m:Me):Bool:=decide ((m.handlers.length:Int)<=10)&&m.handlers.all (fun h=>Ro h m.code.length)
theorem Vs (m:Me) (pv hv fv:Value) (cv:Value) (w:World) (hm:MeParts w m pv cv hv fv):Rz Tryz.prog 322 #[.agg (meV m pv cv hv fv).toArray] w (Kq m):=by
 obtain ⟨p2,e2,rfl,hl2, -⟩:=hm.cs.is;obtain ⟨p3,e3,rfl,hl3,hr3⟩:=hm.hs.is;replace hr3:Hid _:=hr3;clear hm;refine V0 (args:=[.agg (meV m pv (.slice p2 m.code.length e2) (.slice p3 m.handlers.length e3) fv).toArray]) Tryz.func322 J Tryz.ntmps322 ?_;refine Zt (Zd (Uu J J ?_));intro b0 hb0;refine Zo (Zj (Zt (Zd (Za J (Zy (ff J) J) (Za J (Z8 (t1 J) J (Z1 0 J J)) (Za J (Xv (ts J) J) (Za J (Xo J J) (Z7 Xq J J (fun w _=>Ym _ w) ?_ ?_))))))))
 rotate_left
 ·intro o1;replace o1:=dFa o1;have hF:Kq m=false:=by (simp_all [Kq];omega)
  refine Z3 (Yf ?_);exact hF
 intro o1;replace o1:=dTr o1;have hZ:decide ((m.handlers.length:Int)<=10)=true:=by simp_all
 refine Zo (Zj (Zt (Zd (Za J (Zy (ff J) J) (Za J (Z8 (t1 J) J (Z1 0 J J)) (Za J (Xv (ts J) J) (Za J (Zr J) (Zo (Zj (Yy ?_))))))))));refine Vb (Vc (X:=Nat) (fun k=>[(1,pt b0),(10,.slice p3 m.handlers.length e3),(11,iN m.handlers.length),(12,iN k)]) _ _ (fun k=>[(b0,meV m pv (.slice p2 m.code.length e2) (.slice p3 m.handlers.length e3) fv)]) (fun k=>Asr.none) (fun k=>k<=m.handlers.length/\(m.handlers.take k).all (fun h=>Ro h m.code.length)=true) (fun k=>m.handlers.length - k) (0) (⟨Nat.zero_le _,J⟩) ?_) ⟨J,J,J,J,trivial⟩;intro k hI;refine Zt (Zd (Za J (Vf J J) (Zo (Zj (Zt (Xc J ?_ ?_))))))
 ·intro c1;have hk:k<m.handlers.length:=by omega
  obtain ⟨b,o,r,hp,hb,⟨hr,hho⟩,hc⟩:=hr3.out k m.handlers[k] (List.getElem?_eq_getElem hk);subst hp;subst hr;refine Xe (Zj (Zt (Yy (Zt (Zd (Za J (Qr (ts J) J J ?_) ?_))))))
  ·omega
  refine Za J (Vp (tn J) J (Rh hc hb) J) (X1 J (tz J) ?_);intro b1 hb1;refine Y5 (tn J) J J 0 J J J J (Zo (Zj (Zt (Zd (Za J (Zy (ff J) J) (Za J (Z8 (t1 J) J (Z1 0 J J)) (Za J (Xo J J) (Za J (Zr J) (Xl J J J ?_ ?_)))))))))
  ·intro h2;refine Yd J J J (Zy (ff J) J) (Yd J J J (Z8 (t1 J) J (Z1 0 J J)) (Yd J J J (Zy (ff J) J) (Yd J J J (Z8 (t1 J) J (Z1 0 J J)) (Yd J J J (Vf J J) (Za J (Xd J J) (Za J (Zr J) (Xl J J J ?_ ?_)))))))
   ·intro h3;refine Yd J J J (Zy (ff J) J) (Yd J J J (Z8 (t1 J) J (Z1 0 J J)) (Yd J J J (Zy (ff J) J) (Yd J J J (Z8 (t1 J) J (Z1 1 J J)) (Yd J J J (Xv (ts J) J) (Yd J J J (Xo J J) (Za J (Xd J J) (Z7 Xq J J (fun w _=>Ym _ w) ?_ ?_)))))))
    rotate_left
    ·intro o4;replace o4:=dFa o4;have hF:Kq m=false:=by unfold Kq;rw [Oe hk (f:=fun h=>Ro h m.code.length) (by (simp_all [Ro];omega))];simp
     refine Z3 (Z3 (Z3 (Z3 (Z3 (Yf ?_)))));exact hF
    intro o4;replace o4:=dTr o4;refine Zo (Zj (Zt (Zd (Za J (Zy (ff J) J) (Za J (Z8 (t1 J) J (Z1 0 J J)) (Za J (Ys (tn J) J 1 J J) (Vw Zsq J J (fun w _=>M7 _ m _ _ _ _ _ w) ?_)))))));refine Z7 Xq J J (fun w _=>Ym _ w) ?_ ?_
    rotate_left
    ·intro o5;have hF:Kq m=false:=by unfold Kq;rw [Oe hk (f:=fun h=>Ro h m.code.length) (by (simp_all [Ro];omega))];simp
     refine Z3 (Z3 (Z3 (Z3 (Z3 (Yf ?_)))));exact hF
    intro o5;refine Zo (Zj (Zt (Zd (Za J (Zy (ff J) J) (Za J (Z8 (t1 J) J (Z1 0 J J)) (Za J (Zlw J J) (Zo (Zj (Zut J ?_ ?_)))))))))
    ·intro c2;refine Zd (Za J (Zy (ff J) J) (Za J (Z8 (t1 J) J (Z1 0 J J)) (Z7 Lb J J (fun w _=>Wt _ w hho.2.2.2) ?_ ?_)))
     rotate_left
     ·intro o6;have hF:Kq m=false:=by unfold Kq;rw [Oe hk (f:=fun h=>Ro h m.code.length) (by (simp_all [Ro];done))];simp
      refine Z3 (Z3 (Z3 (Z3 (Yf ?_))));exact hF
     intro o6;refine Zo (Y3 (Zj (Zd ?_)));refine Za J (Vt J J ?_) ?_;omega;refine Za J (Zr J) (Zo ?_);refine Wh (k+1) ?_ (⟨hk,Iu hk hI.2 (by (simp_all [Ro];done))⟩) 1 rfl (rfl) ⟨rfl,rfl,rfl,rfl,trivial⟩;omega
    ·intro c2;refine Xe (Y3 (Zj (Zd ?_)));refine Za J (Vt J J ?_) ?_;omega;refine Za J (Zr J) (Zo ?_);refine Wh (k+1) ?_ (⟨hk,Iu hk hI.2 (by (simp_all [Ro];done))⟩) 1 rfl (rfl) ⟨rfl,rfl,rfl,rfl,trivial⟩;omega
   ·intro h3;refine Yk J J J (Yk J J J (Yk J J J (Yk J J J (Yk J J J (Yk J J J (Za J (Y8 J J) (Z7 Xq J J (fun w _=>Ym _ w) ?_ ?_)))))))
    ·intro o7;cases o7
    intro _;have hF:Kq m=false:=by unfold Kq;rw [Oe hk (f:=fun h=>Ro h m.code.length) (by (simp_all [Ro];omega))];simp
    refine Z3 (Z3 (Z3 (Z3 (Z3 (Yf ?_)))));exact hF
  ·intro h2;refine Yk J J J (Yk J J J (Yk J J J (Yk J J J (Yk J J J (Za J (Y8 J J) (Za J (Zr J) (Yk J J J (Yk J J J (Yk J J J (Yk J J J (Yk J J J (Yk J J J (Za J (Y8 J J) (Z7 Xq J J (fun w _=>Ym _ w) ?_ ?_))))))))))))))
   ·intro o8;cases o8
   intro _;have hF:Kq m=false:=by unfold Kq;rw [Oe hk (f:=fun h=>Ro h m.code.length) (by (simp_all [Ro];omega))];simp
   refine Z3 (Z3 (Z3 (Z3 (Z3 (Yf ?_)))));exact hF
 ·intro c1;refine Vd (Va (Wo (W9 (V6 J ?_))));unfold Kq;rw [hZ,Zcc (by omega) hI.2];rfl
def Mt (m:Me):Bool:=decide ((m.frames.length:Int)<=60)&&(List.range m.frames.length).all (J8 m.frames m.locals m.stack m.code.length)
theorem Zln (l:List Ty):l.all (Qa fraB)=Vl l true:=by unfold Vl;congr 1;funext t;exact Zrl t
theorem Zce {l:List Fr} {k:Nat} (hk:k<l.length):Ki l (k+1)=(l[k]).pos:=by simp [Ki,posAt,List.getElem?_eq_getElem hk]
theorem Uj (m:Me) (pv hv fv:Value) (cv:Value) (w:World) (hm:MeParts w m pv cv hv fv):Rz Tryz.prog 323 #[.agg (meV m pv cv hv fv).toArray] w (Mt m):=by
 obtain ⟨p2,e2,rfl,hl2, -⟩:=hm.cs.is;obtain ⟨p4,e4,rfl,hl4,hr4⟩:=hm.fs.is;replace hr4:Hid _:=hr4;clear hm;refine V0 (args:=[.agg (meV m pv (.slice p2 m.code.length e2) hv (.slice p4 m.frames.length e4)).toArray]) Tryz.func323 J Tryz.ntmps323 ?_;refine Zt (Zd (Uu J J ?_));intro b0 hb0;refine Zo (Zj (Zt (Zd (Za J (Zy (ff J) J) (Za J (Z8 (t1 J) J (Z1 0 J J)) (Za J (Xv (ts J) J) (Za J (Xo J J) (Z7 Xq J J (fun w _=>Ym _ w) ?_ ?_))))))))
 rotate_left
 ·intro o1;replace o1:=dFa o1;have hF:Mt m=false:=by (simp_all [Mt];omega)
  refine Z3 (Yf ?_);exact hF
 intro o1;replace o1:=dTr o1;have hZ:decide ((m.frames.length:Int)<=60)=true:=by simp_all
 refine Zo (Zj (Zt (Zd (Za J (Zx J) (Zo (Zj (Zt (Zd (Za J (Zy (ff J) J) (Za J (Z8 (t1 J) J (Z1 0 J J)) (Za J (Xv (ts J) J) (Za J (Zr J) (Zo (Zj (Yy ?_)))))))))))))));refine Vb (Vc (X:=Nat) (fun k=>[(1,pt b0),(2,.int .i64 (Ki m.frames k)),(11,.slice p4 m.frames.length e4),(12,iN m.frames.length),(13,iN k)]) _ _ (fun k=>[(b0,meV m pv (.slice p2 m.code.length e2) hv (.slice p4 m.frames.length e4))]) (fun k=>Asr.none) (fun k=>k<=m.frames.length/\(List.range k).all (J8 m.frames m.locals m.stack m.code.length)=true) (fun k=>m.frames.length - k) (0) (⟨Nat.zero_le _,J⟩) ?_) ⟨J,J,J,J,J,trivial⟩;intro k hI;refine Zt (Zd (Za J (Vf J J) (Zo (Zj (Zt (Xc J ?_ ?_))))))
 ·intro c1;have hk:k<m.frames.length:=by omega
  obtain ⟨b,o,r,hp,hb,⟨lv,sv,hr,hfl,hfs,hfo⟩,hc⟩:=hr4.out k m.frames[k] (List.getElem?_eq_getElem hk);obtain ⟨q1,f1,hq1,hm1, -⟩:=hfl.is;obtain ⟨q2,f2,hq2,hm2, -⟩:=hfs.is;subst hp;subst hr;subst hq1;subst hq2;replace hfl:Hid _:=hfl;replace hfs:Hid _:=hfs;have hFA:=Zns hk m.locals m.stack m.code.length;refine Xe (Zj (Zt (Yy (Zt (Zd (Za J (Qr (ts J) J J ?_) ?_))))))
  ·omega
  refine Za J (Vp (tn J) J (Rh hc hb) J) (X1 J (tz J) ?_);intro b1 hb1;refine Y5 (tn J) J J 0 J J J J (Zo (Zj (Zt (Zd (Za J (Zr J) (Za J (Zy (ff J) J) (Za J (Z8 (t1 J) J (Z1 0 J J)) (Za J (Vf J J) (Za J (Zr J) (Xl J J J ?_ ?_))))))))))
  ·intro h2;refine Yd J J J (Zy (ff J) J) (Yd J J J (Z8 (t1 J) J (Z1 0 J J)) (Yd J J J (Ys (tn J) J 1 J J) (Jk Zsq J J J J (fun w _=>M7 _ m _ _ _ _ _ w) ?_)));refine Za J (Xd J J) (Z7 Xq J J (fun w _=>Ym _ w) ?_ ?_)
   rotate_left
   ·intro o3;have hF:Mt m=false:=by unfold Mt;rw [Uv hk (f:=J8 m.frames m.locals m.stack m.code.length) (by rw [hFA];(simp_all [Ml];omega))];simp
    refine Z3 (Z3 (Z3 (Z3 (Z3 (Yf ?_)))));exact hF
   intro o3;refine Zo (Zj (Zt (Zd (Za J (Zy (ff J) J) (Za J (Z8 (t1 J) J (Z1 0 J J)) (Za J (Zx J) (Zo (Zj (Zt (Zd (Za J (Zy (ff J) J) (Za J (Z8 (t1 J) J (Z1 0 J J)) (Za J (Xv (ts J) J) (Za J (Zy (ff J) J) (Za J (Z8 (t1 J) J (Z1 1 J J)) (Za J (Xx J J) (Za J (Zr J) (Xl J J J ?_ ?_))))))))))))))))))
   ·intro h4;refine Yd J J J (Zy (ff J) J) (Yd J J J (Z8 (t1 J) J (Z1 0 J J)) (Yd J J J (Xv (ts J) J) (Yd J J J (Zy (ff J) J) (Yd J J J (Z8 (t1 J) J (Z1 1 J J)) (Yd J J J (Xo J J) (Za J (Xd J J) (Z7 Xq J J (fun w _=>Ym _ w) ?_ ?_)))))))
    rotate_left
    ·intro o5;replace o5:=dFa o5;have hF:Mt m=false:=by unfold Mt;rw [Uv hk (f:=J8 m.frames m.locals m.stack m.code.length) (by rw [hFA];(simp_all [Ml];omega))];simp
     refine Z3 (Z3 (Z3 (Z3 (Z3 (Yf ?_)))));exact hF
    intro o5;replace o5:=dTr o5;refine Zo (Zj (Zt (Zd (Za J (Zy (ff J) J) (Za J (Z8 (t1 J) J (Z1 0 J J)) (Z7 Zsr J J (fun w hs=>(Qt 358 fraB fn358 Kt _ m.frames[k].locals w (Uf.mono hfl.out (Vu hs))).of_eq (Zln _)) ?_ ?_))))))
    rotate_left
    ·intro o6;have hF:Mt m=false:=by unfold Mt;rw [Uv hk (f:=J8 m.frames m.locals m.stack m.code.length) (by rw [hFA];(simp_all [Ml];done))];simp
     refine Z3 (Z3 (Z3 (Z3 (Z3 (Yf ?_)))));exact hF
    intro o6;refine Zo (Zj (Zd (Za J (Zy (ff J) J) (Za J (Z8 (t1 J) J (Z1 0 J J)) (Z7 Zsr J J (fun w hs=>(Qt 358 fraB fn358 Kt _ m.frames[k].stack w (Uf.mono hfs.out (Vu hs))).of_eq (Zln _)) ?_ ?_)))))
    rotate_left
    ·intro o7;have hF:Mt m=false:=by unfold Mt;rw [Uv hk (f:=J8 m.frames m.locals m.stack m.code.length) (by rw [hFA];(simp_all [Ml];done))];simp
     refine Z3 (Z3 (Z3 (Z3 (Yf ?_))));exact hF
    intro o7;refine Zo (Y3 (Zj (Zd ?_)));refine Za J (Vt J J ?_) ?_;omega;refine Za J (Zr J) (Zo (Q5 (s:=2) (v':=.int .i64 (Ki m.frames (k+1))) J (by rw [Zce hk]) ?_));refine Wh (k+1) ?_ (⟨hk,R6 hI.2 (by rw [hFA];(simp_all [Ml];done))⟩) 1 rfl (rfl) ⟨rfl,rfl,rfl,rfl,rfl,trivial⟩;omega
   ·intro h4;refine Yk J J J (Yk J J J (Yk J J J (Yk J J J (Yk J J J (Yk J J J (Za J (Y8 J J) (Z7 Xq J J (fun w _=>Ym _ w) ?_ ?_)))))))
    ·intro o8;cases o8
    intro _;have hF:Mt m=false:=by unfold Mt;rw [Uv hk (f:=J8 m.frames m.locals m.stack m.code.length) (by rw [hFA];(simp_all [Ml];done))];simp
    refine Z3 (Z3 (Z3 (Z3 (Z3 (Yf ?_)))));exact hF
  ·intro h2;refine Yk J J J (Yk J J J (Yk J J J (Yk J J J (Za J (Y8 J J) (Z7 Xq J J (fun w _=>Ym _ w) ?_ ?_)))))
   ·intro o9;cases o9
   intro _;have hF:Mt m=false:=by unfold Mt;rw [Uv hk (f:=J8 m.frames m.locals m.stack m.code.length) (by rw [hFA];(simp_all [Ml];omega))];simp
   refine Z3 (Z3 (Z3 (Z3 (Z3 (Yf ?_)))));exact hF
 ·intro c1;refine Vd (Va (Wo (W9 (V6 J ?_))));unfold Mt;rw [hZ,Q8 hI.1 (by omega) hI.2];rfl
end
end Go.Proofs.YtpofmnfkdkmieaaGreat
