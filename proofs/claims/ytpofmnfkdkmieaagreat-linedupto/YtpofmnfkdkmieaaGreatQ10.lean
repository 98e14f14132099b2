/- What is proved here: append to nothing, maps with strings for -/
import Derived.Test.YtpofmnfkdkmieaaGreatQ09
set_option linter.unusedVariables false
set_option linter.unusedSimpArgs false
namespace Go.Proofs.YtpofmnfkdkmieaaGreat
namespace S
open Go Go.RowKit E
theorem It (s:ByteArray):∀ es:List (ByteArray × SV),findS s (Qt (fun i=>i+lim) es)=(findS s es).map sh
 | []=>rfl
 | (k,v)::r=>by
  show (bif eqS s k then some (sh v) else findS s (Qt _ r))=_;rw [It s r];simp only [findS];cases eqS s k<;>rfl
theorem Eg (s:ByteArray) (v:SV):∀ es:List (ByteArray × SV),putM s (sh v) (Qt (fun i=>i+lim) es)=Qt (fun i=>i+lim) (putM s v es)
 | []=>rfl
 | (k,u)::r=>by
  show (bif eqS s k then (s,sh v)::Qt _ r else (k,sh u)::putM s (sh v) (Qt _ r))=_;rw [Eg s v r];simp only [putM];cases eqS s k<;>rfl
section
variable {P:Program} {l:Option Nat} {n:Nat} {all:Array Oper} {w0 w w':World} {F:List Nat} {B B0:Nm} {N N0:Nat} {G:Nat->Option SB} {σ':St} {E El E':SE} {D:List SD} {a:Act} {o:Oper} {L:List Oper} {Q:Exit->Act->World->Prop}
theorem GL_look {t e x b:Nat} {y:Operand} {ok:Bool} {s:ByteArray} {z:Value} {es:List (ByteArray × SV)} (hw:wants E all o.guard=some true) (ho:o.op=.lookup t (.tmp x) y ok) (ht:strMap P t=some e) (hz:tZero P e=some z) (hzs:sh (ofV z)=ofV z) (hx:slook E x=some (.mp b)) (hy:sev E y=some (Zs s)) (hyx:∀ t',y=.tmp t'->Nat.beq t' x=false)
  (hb:G b=some (.map es)) (hp:putD n E o.dst (lookV ok (ofV z) (findS s es))=some E') (kk:GL P l n all w0 F B0 N0 Q L E' D N G):GL P l n all w0 F B0 N0 Q (o::L) E D N G:=by
 have hre:ren (rho [b] N) (lookV ok (ofV z) ((findS s es).map sh))=lookV ok (ofV z) (findS s es):=by
  have h1:ren (rho [b] N) (ofV z)=ofV z:=by rw [<- hzs,X7 (by unfold lim;simp),hzs]
  cases findS s es with
  | none =>
   cases ok
   ·exact h1
   ·show SV.tup [ren _ (ofV z),_]=_;rw [h1];rfl
  | some v =>
   have h2:ren (rho [b] N) (sh v)=v:=X7 (by unfold lim;simp) v;cases ok
   ·exact h2
   ·show SV.tup [ren _ (sh v),_]=_;rw [h2];rfl
 have key:∀ El:SE,V8 (rho [b] N) E El->sev El (.tmp x)=some (.mp 0)->sev El y=some (Zs s)->GL P l n all w0 F B0 N0 Q (o::L) E D N G:=by
  intro El hE s1 s2;refine Pa (El:=El) (σ':=one (shB (.map es))) (f:=fun _=>lookV ok (ofV z) ((findS s es).map sh)) (sb':=.map es) hw hb hE ?_ J (by rw [Xj];rfl) (by rw [hre];exact hp) (by rw [Su hb];exact kk);unfold act;rw [ho];have g0:(one (shB (.map es))).get 0=some (.map (Qt (fun i=>i+lim) es)):=by rw [Xj];rfl
  simp only [s1,s2,exLook,ht,g0,hz,Option.bind_some,same,It,Ar.of]
 cases y with
 | tmp t' =>
  refine key [(x,.mp 0),(t',Zs s)] ⟨by rw [hx];rfl,by rw [show slook E t'=_ from hy];rfl,trivial⟩ ?_ ?_
  ·simp only [sev];rw [Z9,Nat.beq_refl];rfl
  ·simp only [sev];rw [Z9,hyx t' rfl];simp only [cond_false];rw [Z9,Nat.beq_refl];rfl
 | const c=>exact key [(x,.mp 0)] ⟨by rw [hx];rfl,trivial⟩ (by simp only [sev];rw [Z9,Nat.beq_refl];rfl) hy
 | global g=>exact key [(x,.mp 0)] ⟨by rw [hx];rfl,trivial⟩ (by simp only [sev];rw [Z9,Nat.beq_refl];rfl) hy
 | func f=>exact key [(x,.mp 0)] ⟨by rw [hx];rfl,trivial⟩ (by simp only [sev];rw [Z9,Nat.beq_refl];rfl) hy
theorem Ai {t e x y z b:Nat} {s:ByteArray} {v:SV} {es:List (ByteArray × SV)} (hw:wants E all o.guard=some true) (ho:o.op=.mapUpdate t (.tmp x) (.tmp y) (.tmp z)) (hd:o.dst=none) (ht:strMap P t=some e) (hx:slook E x=some (.mp b)) (hy:slook E y=some (Zs s)) (hz:slook E z=some v)
  (h1:Nat.beq y x=false) (h2:Nat.beq z x=false) (h3:Nat.beq z y=false) (hb:G b=some (.map es)) (kk:GL P l n all w0 F B0 N0 Q L E D N (Vb G b (.map (putM s v es)))):GL P l n all w0 F B0 N0 Q (o::L) E D N G:=by
 refine Pa (El:=[(x,.mp 0),(y,Zs s),(z,sh v)]) (σ':=(one (shB (.map es))).set 0 (some (.map (putM s (sh v) (Qt (fun i=>i+lim) es))))) (f:=fun _=>.tup []) (sb':=.map (putM s v es)) hw hb ⟨by rw [hx];rfl,by rw [hy];rfl,by rw [hz,X7 (by unfold lim;simp)],trivial⟩ ?_ rfl ?_ (by rw [hd];rfl) kk
 ·unfold act;rw [ho];have s1:sev [(x,SV.mp 0),(y,Zs s),(z,sh v)] (.tmp x)=some (.mp 0):=by simp only [sev];rw [Z9,Nat.beq_refl];rfl
  have s2:sev [(x,SV.mp 0),(y,Zs s),(z,sh v)] (.tmp y)=some (Zs s):=by simp only [sev];rw [Z9,h1];simp only [cond_false];rw [Z9,Nat.beq_refl];rfl
  have s3:sev [(x,SV.mp 0),(y,Zs s),(z,sh v)] (.tmp z)=some (sh v):=by simp only [sev];rw [Z9,h2];simp only [cond_false];rw [Z9,h3];simp only [cond_false];rw [Z9,Nat.beq_refl];rfl
  have g0:(one (shB (.map es))).get 0=some (.map (Qt (fun i=>i+lim) es)):=by rw [Xj];rfl
  simp only [s1,s2,s3,exMapUp,ht,g0,Ar.of]
 ·rw [St.get_set _ (by unfold lim;omega),if_pos rfl,Eg];rfl
theorem GL_ap0 {t e sz by_ x y b' k' o' m j:Nat} {c':List SV} (hq:apInfo P e=some (sz,by_)) (ht:slOf P t=some e) (hw:wants E all o.guard=some true) (ho:o.op=.call ⟨.builtin .append,#[.tmp x,.tmp y],#[t,t]⟩)
  (hx:slook E x=some (Zz)) (hy:slook E y=some (.sl b' o' m j)) (hxy:Nat.beq y x=false) (hb':G b'=some (.row e sz k' c')) (hlen:(cutAt c' o' (m*sz)).length=m*sz) (hone:(cutAt c' o' (m*sz)).all sOne=true)
  (hbd:m*(by_+1)<=1000000) (hm:0<m) (hp:putD n E o.dst (.sl N 0 m 0)=some E') (kk:GL P l n all w0 F B0 N0 Q L E' D (N+1) (Vb G N (.row e sz m (cutAt c' o' (m*sz))))):GL P l n all w0 F B0 N0 Q (o::L) E D N G:=by
 intro B w a hs hg ha;have hbN:=hg.lt hb';unfold apInfo at hq;split at hq
 ·rename_i i hi
  cases hz:zeroOk i with
  | false=>rw [hz] at hq;cases hq
  | true =>
   rw [hz] at hq;cases hq;unfold slOf at ht;split at ht
   ·rename_i e' hu
    cases ht;have hbd':Nat.ble (m*(i.bytes+1)) 1000000=true:=Nat.ble_eq_true_of_le hbd;have hm':Nat.blt 0 m=true:=Nat.ble_eq_true_of_le hm;have hlen':(cutAt (shL c') o' (m*i.size)).length=m*i.size:=by rw [Sh,Ls];exact hlen
    have hone':(cutAt (shL c') o' (m*i.size)).all sOne=true:=by rw [Sh,Zeu];exact hone
    have g1:((one (shB (.row e i.size k' c'))).get 0).bind Wa=some (shL c'):=by rw [Xj];rfl
    have s1:sev [(x,Zz),(y,Zk 0 o' m j)] (.tmp x)=some (Zz):=by simp only [sev];rw [Z9,Nat.beq_refl];rfl
    have s2:sev [(x,Zz),(y,Zk 0 o' m j)] (.tmp y)=some (.sl 0 o' m j):=by simp only [sev];rw [Z9,hxy];simp only [cond_false];rw [Z9,Nat.beq_refl];rfl
    have hact:act P [(x,Zz),(y,.sl 0 o' m j)] (one (shB (.row e i.size k' c'))) o=some (.val (one (shB (.row e i.size k' c')),some (.row e i.size m (cutAt (shL c') o' (m*i.size))),fun r=>.sl r 0 m 0)):=by
     unfold act;rw [ho];simp only [acCall]
     have ea:exAppend P (one (shB (.row e i.size k' c'))) t t (Zz) (.sl 0 o' m j)=some (one (shB (.row e i.size k' c')),some (.row e i.size m (cutAt (shL c') o' (m*i.size))),fun r=>.sl r 0 m 0):=by
      unfold exAppend;rw [hu];simp only;rw [hi];simp only [hz,cond_true,apS,apNil,g1,apNew,Nat.beq_refl,hlen',hone',hbd',hm',Bool.and_self]
     simp only [acBuiltin,s1,s2,ea,Ar.of]
    refine Dy hw (G2 hb') (El:=[(x,Zz),(y,.sl 0 o' m j)]) ⟨by rw [hx];rfl,by rw [hy];rfl,trivial⟩ hact (v:=.sl 1 0 m 0) (σ':=((one (shB (.row e i.size k' c'))).ext 1).set 1 (some (.row e i.size m (cutAt (shL c') o' (m*i.size))))) rfl hp ?_ B w a hs hg ha;have hn2:(((one (shB (.row e i.size k' c'))).ext 1).set 1 (some (Zw e i.size m (cutAt (shL c') o' (m*i.size))))).n=2:=rfl
    have gg:∀ q,(((one (shB (.row e i.size k' c'))).ext 1).set 1 (some (Zw e i.size m (cutAt (shL c') o' (m*i.size))))).get q=if q=1 then some (Zw e i.size m (cutAt (shL c') o' (m*i.size))) else (one (shB (.row e i.size k' c'))).get q:=by
     intro q;rw [St.get_set _ (by unfold lim;omega),St.get_ext]
    have e2:after [b'] N G (((one (shB (.row e i.size k' c'))).ext 1).set 1 (some (.row e i.size m (cutAt (shL c') o' (m*i.size)))))=Vb G N (.row e i.size m (cutAt c' o' (m*i.size))):=by
     funext g
     unfold after Vb;rw [hn2];by_cases e1:g=b'
     ·subst e1;rw [if_pos (by simp),show List.idxOf g [g]=0 by simp,gg,if_neg (by omega),Xj,if_pos rfl,if_neg (by omega),hb'];show some (W4 _ (shB _))=_;rw [Uz (by unfold lim;simp)]
     ·rw [if_neg (by simp [e1])];by_cases h:g<N
      ·rw [if_pos h,if_neg (by omega)]
      ·rw [if_neg h];by_cases e3:g=N
       ·subst e3;rw [if_pos (show [b'].length+(g - g)<2 by simp),show [b'].length+(g - g)=1 by simp,gg,if_pos rfl,if_pos rfl];have:=Uz (bs:=[b']) (N:=g) (by unfold lim;simp) (.row e i.size m (cutAt c' o' (m*i.size)));rw [<- this];simp only [Option.map_some,shB,W4]
        rw [show X3 (fun i=>i+lim) (cutAt c' o' (m*i.size))=cutAt (shL c') o' (m*i.size) by
         show shL _=_;rw [Sh]]
       ·rw [if_neg (show ¬ [b'].length+(g - N)<2 by simp;omega),if_neg e3,(hg.new g (by omega)).2]
    have:=kk;rw [<- e2] at this;exact this
   ·cases ht
 ·cases hq
end
end S
namespace S
open Go Go.RowKit E
structure Rw where
 Er:SE
 v:SV
def Uv (P:Program) (n:Nat) (N:Nat) (G:Nat->Option SB) (all:Array Oper) (o:Oper) (r:Rw):Prop :=
 (wants r.Er all o.guard=some false/\r.v=.tup [])\/(wants r.Er all o.guard=some true/\(∀ c,o.op≠.defer c)/\∀ (w0:World) (F:List Nat) (B:Nm) (D:List SD) (w:World) (a:Act),Gx w0 F B N G w->Ags n a r.Er D B ->
  ∃ x w',((execOp a.eval o).run P w=.ok (.value x) w'\/(x=undef/\(execOp a.eval o).run P w=.ok .skip w'))/\den B r.v=some x/\Gx w0 F B N G w')
section
variable {P:Program} {l:Option Nat} {n:Nat} {all ops:Array Oper} {w0 w w':World} {F:List Nat} {B B0:Nm} {N N0:Nat} {G:Nat->Option SB} {E E':SE} {D:List SD} {a:Act} {o:Oper} {Q:Exit->Act->World->Prop} {rows:List Rw}
theorem Yl {Er:SE} {v:SV} (hw:wants Er all o.guard=some true) (h:noD P Er bare o=some v):Uv P n N G all o ⟨Er,v⟩:=by
 unfold noD at h;split at h
 ·rename_i σ' f hac
  cases h;refine .inr ⟨hw,W7 hac,fun w0 F B D w a hg ha=>?_⟩;obtain ⟨x,w1,hr,hd,hs1⟩:=U7 (L8 w B) ha hac;exact ⟨x,w1,hr,hd,hg.keep hs1.low.below⟩
 ·cases h
theorem Zbb {Er:SE} (hw:wants Er all o.guard=some false):Uv P n N G all o ⟨Er,.tup []⟩:=.inl ⟨hw,rfl⟩
theorem Z3 {Er:SE} {b off t tx:Nat} {sb:SB} {v:SV} (hw:wants Er all o.guard=some true) (ho:o.op=.load t (.tmp tx)) (hx:slook Er tx=some (.ptr b off)) (hG:G b=some sb) (h:ldAt P (one (shB sb)) t (some (.ptr 0 off))=some (sh v)):Uv P n N G all o ⟨Er,v⟩:=by
 refine .inr ⟨hw,(fun c e=>by rw [ho] at e;cases e),fun w0 F B D w a hg ha=>?_⟩
 have hact:act P [(tx,.ptr 0 off)] (one (shB sb)) o=some (.val (one (shB sb),none,fun _=>sh v)):=by
  unfold act;rw [ho];show Ar.of ((ldAt P (one (shB sb)) t (slook [(tx,.ptr 0 off)] tx)).bind (same _))=_;rw [Z9,Nat.beq_refl];simp only [cond_true];rw [h];rfl
 obtain ⟨x,w1,B',hr,hsi,hd,hg1⟩:=hg.op (G2 hG) ha (El:=[(tx,.ptr 0 off)]) ⟨by rw [hx];rfl,trivial⟩ hact (v:=sh v) (σ':=one (shB sb)) rfl;have hN:N+((one (shB sb)).n - [b].length)=N:=rfl;rw [hN,Fk hg (hg.lt hG) rfl (sb:=sb) (by rw [Xj];rfl),Su hG] at hg1
 have hB:B'=B:=by
  funext i
  rcases Nat.lt_or_ge i N with hi | hi
  ·exact hsi.old i hi
  ·rw [(hg1.new i hi).1,(hg.new i hi).1]
 subst hB;rw [X7 (by unfold lim;simp)] at hd;exact ⟨x,w1,hr,hd,hg1⟩
end
end S
namespace S
open Go Go.RowKit E
def Ve (o:Oper) (v:SV) (E:SE):SE:=match o.dst with
 | some d=>(d,v)::E
 | none=>E
def readsOf (all:Array Oper) (o:Oper):List Nat:=Av o.op.operands.toList++Zcq all o.guard
def QL (P:Program) (n N:Nat) (G:Nat->Option SB) (all:Array Oper):List Oper->List SV->SE->Prop
 | [],[],_=>True
 | o::r,v::vs,E=>Uv P n N G all o ⟨erOf all E o,v⟩/\QL P n N G all r vs (Ve o v E)
 | _,_,_=>False
def Wb:List Oper->List SV->SE->Nat->SE
 | o::r,v::vs,E,i+1=>Wb r vs (Ve o v E) i
 | _,_,E,_=>E
theorem Vy:∀ (L:List Oper) (vs:List SV) (E:SE) (i t:Nat) (v:SV),i<=L.length->L.length=vs.length->slook (Wb L vs E i) t=some v ->
  (∃ j o,j<i/\L[j]?=some o/\vs[j]?=some v/\o.dst=some t)\/(slook E t=some v/\∀ (j:Nat) (o:Oper),j<i->L[j]?=some o->o.dst≠some t)
 | [],vs,E,i,t,v,hi,hl,h=>by
  refine .inr ⟨?_,fun j o _ hj=>by simp at hj⟩;have:Wb [] vs E i=E:=by unfold Wb;rfl
  rw [this] at h;exact h
 | o::r,[],E,i,t,v,hi,hl,h=>by simp at hl
 | o::r,v0::vs,E,0,t,v,hi,hl,h=>.inr ⟨h,fun j o hj=>absurd hj (Nat.not_lt_zero _)⟩
 | o::r,v0::vs,E,i+1,t,v,hi,hl,h=>by
  have h':slook (Wb r vs (Ve o v0 E) i) t=some v:=h;rcases Vy r vs (Ve o v0 E) i t v (by simpa using hi) (by simpa using hl) h' with ⟨j,q,h1,h2,h3,h4⟩ | ⟨h1,h2⟩
  ·exact .inl ⟨j+1,q,by omega,by simpa using h2,by simpa using h3,h4⟩
  ·by_cases hd:o.dst=some t
   ·unfold Ve at h1;rw [hd] at h1;simp only at h1;rw [Z9,Nat.beq_refl] at h1;cases h1;exact .inl ⟨0,o,by omega,J,J,hd⟩
   ·refine .inr ⟨?_,fun j q hj hq=>?_⟩
    ·unfold Ve at h1;cases ho:o.dst with
     | none=>rw [ho] at h1;exact h1
     | some d =>
      rw [ho] at h1;simp only at h1;rw [Z9,W3 (fun e=>hd (by rw [ho,e]))] at h1;exact h1
    ·cases j with
     | zero =>
      have:o=q:=by simpa using hq
      subst this;exact hd
     | succ j=>exact h2 j q (by omega) (by simpa using hq)
def ckRd (all:Array Oper) (L:List Oper):Bool:=L.all fun o=>(readsOf all o).all fun t=>U6 (fun j q => !(match q.dst with
  | some e=>Nat.beq t e
  | none=>false) || o.after.toList.any fun e=>Region.binds .any e&&Nat.beq e.on j) 0 L
def ckN (n:Nat) (L:List Oper):Bool:=L.all fun o=>match o.dst with
 | some d=>Nat.blt d n
 | none=>true
theorem Ob {E:SE} {l:List Nat} {p:Nat × SV} (h:p ∈ restr E l):p.1 ∈ l:=by
 unfold restr at h;obtain ⟨t,ht,e⟩:=List.mem_filterMap.1 h;obtain ⟨v,_,rfl⟩:=Option.map_eq_some_iff.1 e;exact ht
end S
namespace S
open Go Go.RowKit E
abbrev Ch:=List (Nat × SB)
structure Hs (H:Ch) (G:Nat->Option SB):Prop where
 at_:∀ p ∈ H,G p.1=some p.2
 nd:(H.map (·.1)).Nodup
structure Hx (T:List Nat) (N0:Nat) (G0:Nat->Option SB) (H:Ch) (G:Nat->Option SB):Prop where
 hs:Hs H G
 old:∀ q sb,G0 q=some sb->q ∉ T->G q=some sb
 mine:∀ p ∈ H,p.1 ∈ T\/N0<=p.1
 fr0:∀ i,N0<=i->G0 i=none
section
variable {T:List Nat} {N0 N:Nat} {G0 G G':Nat->Option SB} {H H':Ch}
theorem Hs.get (h:Hs H G) {i b:Nat} {sb:SB} (hi:H[i]?=some (b,sb)):G b=some sb:=h.at_ _ (List.mem_of_getElem? hi)
theorem Hs.ne (h:Hs H G) {i j b c:Nat} {x y:SB} (hi:H[i]?=some (b,x)) (hj:H[j]?=some (c,y)) (hij:i≠j):b≠c:=by
 intro e;subst e;have h1:(H.map (·.1))[i]?=some b:=by rw [List.getElem?_map,hi];rfl
 have h2:(H.map (·.1))[j]?=some b:=by rw [List.getElem?_map,hj];rfl
 exact hij ((List.getElem?_inj (List.getElem?_eq_some_iff.1 h1).1 h.nd).1 (by rw [h1,h2]))
theorem Hs.sub (h:Hs H G) (h1:∀ p ∈ H',p ∈ H) (h2:(H'.map (·.1)).Nodup):Hs H' G:=⟨fun p hp=>h.at_ p (h1 p hp),h2⟩
theorem Hs.perm (h:Hs H G) (hp:H.Perm H'):Hs H' G:=⟨fun p hq=>h.at_ p (hp.mem_iff.2 hq),(hp.map _).nodup_iff.1 h.nd⟩
theorem Hx.perm (h:Hx T N0 G0 H G) (hp:H.Perm H'):Hx T N0 G0 H' G:=⟨h.hs.perm hp,h.old,fun p hq=>h.mine p (hp.mem_iff.2 hq),h.fr0⟩
theorem Hx.not (h:Hx T N0 G0 H G) {p:Nat × SB} (hp:p ∈ H) {q:Nat} {sb:SB} (hq:G0 q=some sb) (hT:q ∉ T):q≠p.1:=by
 intro e;rcases h.mine p hp with hm | hm
 ·exact hT (e ▸ hm)
 ·rw [h.fr0 q (by omega)] at hq;cases hq
theorem Hx.new (h:Hx T N0 G0 H G) (hN:N0<=N) (hf:G N=none) (sb:SB):Hx T N0 G0 ((N,sb)::H) (Vb G N sb):=by
 have hne:∀ q x,G q=some x->q≠N:=fun q x hq e=>by rw [e,hf] at hq;cases hq
 refine ⟨⟨fun p hp=>?_,?_⟩,fun q x hq hT=>?_,fun p hp=>?_,h.fr0⟩
 ·rcases List.mem_cons.1 hp with rfl | hp
  ·exact Uf _ _ _
  ·rw [Xm _ _ (hne _ _ (h.hs.at_ p hp))];exact h.hs.at_ p hp
 ·rw [List.map_cons,List.nodup_cons];refine ⟨fun hm=>?_,h.hs.nd⟩;obtain ⟨p,hp,e⟩:=List.mem_map.1 hm;exact hne _ _ (h.hs.at_ p hp) e
 ·have:=h.old q x hq hT;rw [Xm _ _ (hne _ _ this)];exact this
 ·rcases List.mem_cons.1 hp with rfl | hp
  ·exact .inr hN
  ·exact h.mine p hp
theorem Hx.set (h:Hx T N0 G0 H G) {i b:Nat} {sb:SB} (hi:H[i]?=some (b,sb)) (sb':SB):Hx T N0 G0 (H.set i (b,sb')) (Vb G b sb'):=by
 have hlt:i<H.length:=(List.getElem?_eq_some_iff.1 hi).1
 have hmap:(H.set i (b,sb')).map (·.1)=H.map (·.1):=by
  rw [List.map_set];have:(H.map (·.1))[i]?=some b:=by rw [List.getElem?_map,hi];rfl
  exact List.ext_getElem? fun j=>by
   rw [List.getElem?_set];by_cases e:i=j
   ·subst e;rw [if_pos rfl,if_pos (by simpa using hlt),this]
   ·rw [if_neg e]
 have hin:∀ p ∈ H.set i (b,sb'),p=(b,sb')\/(p ∈ H/\p.1≠b):=by
  intro p hp;obtain ⟨j,hj⟩:=List.mem_iff_getElem?.1 hp;rw [List.getElem?_set] at hj;by_cases e:i=j
  ·subst e;rw [if_pos rfl,if_pos hlt] at hj;cases hj;exact .inl J
  ·rw [if_neg e] at hj;exact .inr ⟨List.mem_of_getElem? hj,h.hs.ne hj hi (fun e'=>e e'.symm)⟩
 refine ⟨⟨fun p hp=>?_,by rw [hmap];exact h.hs.nd⟩,fun q x hq hT=>?_,fun p hp=>?_,h.fr0⟩
 ·rcases hin p hp with rfl | ⟨h1,h2⟩
  ·exact Uf _ _ _
  ·rw [Xm _ _ h2];exact h.hs.at_ p h1
 ·rw [Xm _ _ (h.not (List.mem_of_getElem? hi) hq hT)];exact h.old q x hq hT
 ·rcases hin p hp with rfl | ⟨h1,_⟩
  ·exact h.mine (b,sb) (List.mem_of_getElem? hi)
  ·exact h.mine p h1
def Yd (H:Ch) (is:List Nat):Ch:=is.filterMap fun i=>H[i]?
theorem Yq {is:List Nat} {p:Nat × SB} (h:p ∈ Yd H is):p ∈ H:=by
 unfold Yd at h;obtain ⟨i,_,hi⟩:=List.mem_filterMap.1 h;exact List.mem_of_getElem? hi
theorem Tc (h:Hs H G):∀ {is:List Nat},is.Nodup->((Yd H is).map (·.1)).Nodup
 | [],_=>by simp [Yd]
 | i::is,hn=>by
  have ih:=Tc h (List.nodup_cons.1 hn).2;unfold Yd at ih ⊢;rw [List.filterMap_cons];cases hi:H[i]? with
  | none=>exact ih
  | some p =>
   simp only [List.map_cons,List.nodup_cons];refine ⟨fun hm=>?_,ih⟩;obtain ⟨q,hq,e⟩:=List.mem_map.1 hm;obtain ⟨j,hj,hjq⟩:=List.mem_filterMap.1 hq;exact h.ne (b:=p.1) (x:=p.2) (c:=q.1) (y:=q.2) hi hjq (fun e'=>(List.nodup_cons.1 hn).1 (e' ▸ hj)) e.symm
theorem Hs.pick (h:Hs H G) {is:List Nat} (hn:is.Nodup):Hs (Yd H is) G:=h.sub (fun _ hp=>Yq hp) (Tc h hn)
theorem Hx.pick (h:Hx T N0 G0 H G) {is:List Nat} (hn:is.Nodup):Hx T N0 G0 (Yd H is) G:=⟨h.hs.pick hn,h.old,fun p hp=>h.mine p (Yq hp),h.fr0⟩
theorem Hx.call (h:Hx T N0 G0 H G) (hN:N0<=N) (hfr:∀ i,N<=i->G i=none) {is js:List Nat} (hn:(is++js).Nodup) (hc:Hx ((Yd H is).map (·.1)) N G H' G'):Hx T N0 G0 (H'++Yd H js) G':=by
 have hn':=List.nodup_append.1 hn
 have hdis:∀ p ∈ Yd H js,p.1 ∉ (Yd H is).map (·.1):=by
  intro p hp hm;obtain ⟨q,hq,e⟩:=List.mem_map.1 hm;obtain ⟨i,hi,hiq⟩:=List.mem_filterMap.1 hq;obtain ⟨j,hj,hjp⟩:=List.mem_filterMap.1 hp;exact h.hs.ne (b:=q.1) (x:=q.2) (c:=p.1) (y:=p.2) hiq hjp (hn'.2.2 i hi j hj) e
 have hkeep:∀ p ∈ Yd H js,G' p.1=some p.2:=fun p hp=>hc.old p.1 p.2 (h.hs.at_ p (Yq hp)) (hdis p hp)
 have hTin:∀ x ∈ (Yd H is).map (·.1),x ∈ T\/N0<=x:=fun x hx=>by
  obtain ⟨p,hp,rfl⟩:=List.mem_map.1 hx;exact h.mine p (Yq hp)
 refine ⟨⟨fun p hp=>?_,?_⟩,fun q x hq hT=>?_,fun p hp=>?_,h.fr0⟩
 ·rcases List.mem_append.1 hp with hp | hp
  ·exact hc.hs.at_ p hp
  ·exact hkeep p hp
 ·rw [List.map_append,List.nodup_append];refine ⟨hc.hs.nd,Tc h.hs hn'.2.1,fun a ha b hb e=>?_⟩;obtain ⟨p,hp,rfl⟩:=List.mem_map.1 ha;obtain ⟨q,hq,rfl⟩:=List.mem_map.1 hb;rcases hc.mine p hp with hm | hm
  ·exact hdis q hq (e ▸ hm)
  ·have:=h.hs.at_ q (Yq hq);rw [hfr q.1 (by omega)] at this;cases this
 ·refine hc.old q x (h.old q x hq hT) (fun hm=>?_);rcases hTin q hm with h1 | h1
  ·exact hT h1
  ·rw [h.fr0 q h1] at hq;cases hq
 ·rcases List.mem_append.1 hp with hp | hp
  ·rcases hc.mine p hp with hm | hm
   ·exact hTin _ hm
   ·exact .inr (by omega)
  ·exact h.mine p (Yq hp)
theorem Hx.ap (h:Hx T N0 G0 H G) (hN:N0<=N) (hf:G N=none) {i b:Nat} {sb:SB} (hi:H[i]?=some (b,sb)) {js:List Nat} (hn:(i::js).Nodup) (x:SB):Hx T N0 G0 ((N,x)::Yd H js) (apG G b N x):=by
 have hne:∀ q y,G q=some y->q≠N:=fun q y hq e=>by rw [e,hf] at hq;cases hq
 have hnb:∀ p ∈ Yd H js,p.1≠b:=by
  intro p hp;obtain ⟨j,hj,hjp⟩:=List.mem_filterMap.1 hp;exact h.hs.ne (b:=p.1) (x:=p.2) hjp hi (fun e=>(List.nodup_cons.1 hn).1 (e ▸ hj))
 refine ⟨⟨fun p hp=>?_,?_⟩,fun q y hq hT=>?_,fun p hp=>?_,h.fr0⟩
 ·rcases List.mem_cons.1 hp with rfl | hp
  ·exact if_pos J
  ·have:=h.hs.at_ p (Yq hp);rw [Ds (hne _ _ this) (hnb p hp)];exact this
 ·rw [List.map_cons,List.nodup_cons];refine ⟨fun hm=>?_,Tc h.hs (List.nodup_cons.1 hn).2⟩;obtain ⟨p,hp,e⟩:=List.mem_map.1 hm;exact hne _ _ (h.hs.at_ p (Yq hp)) e
 ·have:=h.old q y hq hT;rw [Ds (hne _ _ this) (h.not (List.mem_of_getElem? hi) hq hT)];exact this
 ·rcases List.mem_cons.1 hp with rfl | hp
  ·exact .inr hN
  ·exact h.mine p (Yq hp)
end
section
variable {P:Program} {l:Option Nat} {n:Nat} {all:Array Oper} {w0 w w':World} {F:List Nat} {B B0:Nm} {N N0:Nat} {T:List Nat} {G0:Nat->Option SB} {H H':Ch} {E El E':SE} {D:List SD} {a:Act} {o:Oper} {L:List Oper} {Q:Exit->Act->World->Prop} {x y:Code}
def HL (P:Program) (l:Option Nat) (n:Nat) (all:Array Oper) (w0:World) (F:List Nat) (B0:Nm) (N0:Nat) (T:List Nat) (G0:Nat->Option SB) (Q:Exit->Act->World->Prop) (L:List Oper) (E:SE) (D:List SD) (N:Nat) (H:Ch):Prop:=∀ G,Hx T N0 G0 H G->GL P l n all w0 F B0 N0 Q L E D N G
def HC (P:Program) (l:Option Nat) (n:Nat) (w0:World) (F:List Nat) (B0:Nm) (N0:Nat) (T:List Nat) (G0:Nat->Option SB) (Q:Exit->Act->World->Prop) (c:Code) (E:SE) (D:List SD) (N:Nat) (H:Ch):Prop:=∀ G,Hx T N0 G0 H G->GC P l n w0 F B0 N0 Q c E D N G
def HF (P:Program) (f:FuncId) (args:List SV) (N:Nat) (H:Ch) (R:SV->Nat->Ch->Prop):Prop :=
 (∃ fn,P.funcs[f]?=some fn/\fn.body.isNone=false)/\∀ G,Hs H G->(∀ i,N<=i->G i=none)->GF P f args N G fun v N' G'=>∃ H',R v N' H'/\Hx (H.map (·.1)) N G H' G'
theorem HF.mono {f:FuncId} {args:List SV} {R R':SV->Nat->Ch->Prop} (h:HF P f args N H R) (hr:∀ v N' H',R v N' H'->R' v N' H'):HF P f args N H R' :=
 ⟨h.1,fun G h1 h2=>(h.2 G h1 h2).mono fun _ _ _ ⟨H',hR,r⟩=>⟨H',hr _ _ _ hR,r⟩⟩
theorem Z2 (h:HC P l n w0 F B0 N0 T G0 (Exit.then (y.wpIn (Wz l) 0 P Q) Q) x E D N H):HC P l n w0 F B0 N0 T G0 Q (.seq x y) E D N H:=fun G hx=>GC_seq (h G hx)
theorem Zo {id:Nat} (h:HL P l n L.toArray w0 F B0 N0 T G0 Q L E D N H):HC P l n w0 F B0 N0 T G0 Q (.region id L.toArray false) E D N H:=fun G hx=>Aj (h G hx)
theorem V9 {c:Operand} {b:Bool} (hc:sev E c=some (Zb b)) (h1:b=true->HC P l n w0 F B0 N0 T G0 Q x E D N H) (h2:b=false->HC P l n w0 F B0 N0 T G0 Q y E D N H):HC P l n w0 F B0 N0 T G0 Q (.cond c x y) E D N H:=fun G hx=>GC_if hc (fun e=>h1 e G hx) (fun e=>h2 e G hx)
theorem Yj {c:Operand} (hc:sev E c=some (Zb true)) (h1:HC P l n w0 F B0 N0 T G0 Q x E D N H):HC P l n w0 F B0 N0 T G0 Q (.cond c x y) E D N H:=V9 hc (fun _=>h1) (fun e=>by cases e)
theorem Z6 {c:Operand} (hc:sev E c=some (Zb false)) (h1:HC P l n w0 F B0 N0 T G0 Q y E D N H):HC P l n w0 F B0 N0 T G0 Q (.cond c x y) E D N H:=V9 hc (fun e=>by cases e) (fun _=>h1)
theorem Zv {id:Nat} (h:HC P l n w0 F B0 N0 T G0 (Exit.inBlock id Q) x E D N H):HC P l n w0 F B0 N0 T G0 Q (.block id x) E D N H:=fun G hx=>Zfd (h G hx)
theorem Dw {is:List Nat} (hn:is.Nodup) (h:HL P l n all w0 F B0 N0 T G0 Q L E D N (Yd H is)):HL P l n all w0 F B0 N0 T G0 Q L E D N H:=fun G hx=>h G (hx.pick hn)
theorem HL_no (hw:wants E all o.guard=some false) (hp:putD n E o.dst (.tup [])=some E') (k:HL P l n all w0 F B0 N0 T G0 Q L E' D N H):HL P l n all w0 F B0 N0 T G0 Q (o::L) E D N H:=fun G hx=>GL_no hw hp (k G hx)
theorem Zu {v:SV} (hw:wants E all o.guard=some true) (h:noD P E bare o=some v) (hp:putD n E o.dst v=some E') (k:HL P l n all w0 F B0 N0 T G0 Q L E' D N H):HL P l n all w0 F B0 N0 T G0 Q (o::L) E D N H:=fun G hx=>GL_pure hw h hp (k G hx)
theorem Wv {v:SV} {sb:SB} (hw:wants E all o.guard=some true) (h:alD P E bare N o=some (v,sb)) (hp:putD n E o.dst v=some E') (k:HL P l n all w0 F B0 N0 T G0 Q L E' D (N+1) ((N,sb)::H)):HL P l n all w0 F B0 N0 T G0 Q (o::L) E D N H:=fun G hx B w a hs hg ha =>
 GL_new hw h hp (k _ (hx.new hs.le (hg.new N (Nat.le_refl _)).2 sb)) B w a hs hg ha
theorem Yp {i b off t tx:Nat} {sb:SB} {v:SV} (hw:wants E all o.guard=some true) (ho:o.op=.load t (.tmp tx)) (hx:slook E tx=some (.ptr b off)) (hi:H[i]?=some (b,sb)) (h:ldAt P (one (shB sb)) t (some (.ptr 0 off))=some (sh v)) (hp:putD n E o.dst v=some E')
  (k:HL P l n all w0 F B0 N0 T G0 Q L E' D N H):HL P l n all w0 F B0 N0 T G0 Q (o::L) E D N H:=fun G hG=>GL_load hw ho hx (hG.hs.get hi) h hp (k G hG)
theorem HL_call {f:FuncId} {xx:Operand} {xs:Array Operand} {ts:Array TypeId} {u c m:List SV} {R:SV->Nat->Ch->Prop} (is js:List Nat) (hng:Vh P) (hw:wants E all o.guard=some true) (ho:o.op=.call ⟨.value xx,xs,ts⟩) (hx:sev E xx=some (.fn f u c)) (hxs:sargs E xs.toList=some m) (hn:(is++js).Nodup)
  (hF:HF P f (u++m++c) N (Yd H is) R) (k:∀ v N' H',R v N' H'->∃ E',putD n E o.dst v=some E'/\HL P l n all w0 F B0 N0 T G0 Q L E' D N' (H'++Yd H js)):HL P l n all w0 F B0 N0 T G0 Q (o::L) E D N H:=fun G hG B w a hs hg ha=>by
 have hfr:∀ i,N<=i->G i=none:=fun i hi=>(hg.new i hi).2;refine Re hng hw ho hx hxs (hF.2 G (hG.hs.pick (List.nodup_append.1 hn).1) hfr) ?_ B w a hs hg ha;rintro v N' G' ⟨H',hR,hc⟩;obtain ⟨E',hp,hk⟩:=k v N' H' hR;exact ⟨E',hp,hk G' (hG.call hs.le hfr hn hc)⟩
theorem Zfa {i i' t e sz by_ x y b b' ln k k' o' m j:Nat} {js:List Nat} {c c':List SV} (hq:apInfo P e=some (sz,by_)) (ht:slOf P t=some e) (hw:wants E all o.guard=some true) (ho:o.op=.call ⟨.builtin .append,#[.tmp x,.tmp y],#[t,t]⟩)
  (hx:slook E x=some (.sl b 0 ln 0)) (hy:slook E y=some (.sl b' o' m j)) (hxy:Nat.beq x y=false) (hi:H[i]?=some (b,.row e sz k c)) (hi':H[i']?=some (b',.row e sz k' c')) (hn:(i::js).Nodup) (hii:Nat.beq i i'=false) (hl:ln<=k) (hlen:(cutAt c' o' (m*sz)).length=m*sz) (hone:(cutAt c' o' (m*sz)).all sOne=true)
  (hbd:(ln+m)*(by_+1)<=1000000) (hm:0<m) (hp:putD n E o.dst (.sl N 0 (ln+m) 0)=some E') (kk:HL P l n all w0 F B0 N0 T G0 Q L E' D (N+1) ((N,.row e sz (ln+m) (c.take (ln*sz)++cutAt c' o' (m*sz)))::Yd H js)):HL P l n all w0 F B0 N0 T G0 Q (o::L) E D N H:=fun G hG B w a hs hg ha =>
 GL_apd hq ht hw ho hx hy hxy (hG.hs.get hi) (hG.hs.get hi') (hG.hs.ne hi hi' (fun e=>by rw [e,Nat.beq_refl] at hii;cases hii)) hl hlen hone hbd hm hp (kk _ (hG.ap hs.le (hg.new N (Nat.le_refl _)).2 hi hn _)) B w a hs hg ha
theorem Zfb {i' t e sz by_ x y b' k' o' m j:Nat} {c':List SV} (hq:apInfo P e=some (sz,by_)) (ht:slOf P t=some e) (hw:wants E all o.guard=some true) (ho:o.op=.call ⟨.builtin .append,#[.tmp x,.tmp y],#[t,t]⟩)
  (hx:slook E x=some (Zz)) (hy:slook E y=some (.sl b' o' m j)) (hxy:Nat.beq y x=false) (hi':H[i']?=some (b',.row e sz k' c')) (hlen:(cutAt c' o' (m*sz)).length=m*sz) (hone:(cutAt c' o' (m*sz)).all sOne=true)
  (hbd:m*(by_+1)<=1000000) (hm:0<m) (hp:putD n E o.dst (.sl N 0 m 0)=some E') (kk:HL P l n all w0 F B0 N0 T G0 Q L E' D (N+1) ((N,.row e sz m (cutAt c' o' (m*sz)))::H)):HL P l n all w0 F B0 N0 T G0 Q (o::L) E D N H:=fun G hG B w a hs hg ha =>
 GL_ap0 hq ht hw ho hx hy hxy (hG.hs.get hi') hlen hone hbd hm hp (kk _ (hG.new hs.le (hg.new N (Nat.le_refl _)).2 _)) B w a hs hg ha
theorem HL_look {i t e x b:Nat} {y:Operand} {ok:Bool} {s:ByteArray} {z:Value} {es:List (ByteArray × SV)} (hw:wants E all o.guard=some true) (ho:o.op=.lookup t (.tmp x) y ok) (ht:strMap P t=some e) (hz:tZero P e=some z) (hzs:sh (ofV z)=ofV z) (hx:slook E x=some (.mp b)) (hy:sev E y=some (Zs s)) (hyx:∀ t',y=.tmp t'->Nat.beq t' x=false)
  (hi:H[i]?=some (b,.map es)) (hp:putD n E o.dst (lookV ok (ofV z) (findS s es))=some E') (kk:HL P l n all w0 F B0 N0 T G0 Q L E' D N H):HL P l n all w0 F B0 N0 T G0 Q (o::L) E D N H:=fun G hG=>GL_look hw ho ht hz hzs hx hy hyx (hG.hs.get hi) hp (kk G hG)
theorem Ah {i t e x y z b:Nat} {s:ByteArray} {v:SV} {es:List (ByteArray × SV)} (hw:wants E all o.guard=some true) (ho:o.op=.mapUpdate t (.tmp x) (.tmp y) (.tmp z)) (hd:o.dst=none) (ht:strMap P t=some e) (hx:slook E x=some (.mp b)) (hy:slook E y=some (Zs s)) (hz:slook E z=some v)
  (h1:Nat.beq y x=false) (h2:Nat.beq z x=false) (h3:Nat.beq z y=false) (hi:H[i]?=some (b,.map es)) (kk:HL P l n all w0 F B0 N0 T G0 Q L E D N (H.set i (b,.map (putM s v es)))):HL P l n all w0 F B0 N0 T G0 Q (o::L) E D N H:=fun G hG=>Ai hw ho hd ht hx hy hz h1 h2 h3 (hG.hs.get hi) (kk _ (hG.set hi _))
theorem HL_from {i t e sz x tl b o' ln j k m:Nat} {kd:IntKind} {c:List SV} (hw:wants E all o.guard=some true) (ho:o.op=.slice t (.tmp x) (some (.tmp tl)) none none) (ht:slOf P t=some e) (hs:szIs P e sz=true) (hx:slook E x=some (.sl b o' ln j)) (hl:slook E tl=some (.v (.int kd (.ofNat m)))) (hxl:Nat.beq tl x=false)
  (hi:H[i]?=some (b,.row e sz k c)) (h1:m<=ln) (h2:j+ln<=k) (h3:m=0\/j+m<k) (hp:putD n E o.dst (.sl b (o'+m*sz) (ln - m) (j+m))=some E') (kk:HL P l n all w0 F B0 N0 T G0 Q L E' D N H):HL P l n all w0 F B0 N0 T G0 Q (o::L) E D N H:=fun G hG=>GL_from hw ho ht hs hx hl hxl (hG.hs.get hi) h1 h2 h3 hp (kk G hG)
theorem Du {i t e sz x tl b o' ln j k m:Nat} {kd:IntKind} {c:List SV} (hw:wants E all o.guard=some true) (ho:o.op=.slice t (.tmp x) none (some (.tmp tl)) none) (ht:slOf P t=some e) (hs:szIs P e sz=true) (hx:slook E x=some (.sl b o' ln j)) (hl:slook E tl=some (.v (.int kd (.ofNat m)))) (hxl:Nat.beq tl x=false)
  (hi:H[i]?=some (b,.row e sz k c)) (h2:j+m<=k) (hp:putD n E o.dst (.sl b o' m j)=some E') (kk:HL P l n all w0 F B0 N0 T G0 Q L E' D N H):HL P l n all w0 F B0 N0 T G0 Q (o::L) E D N H:=fun G hG=>GL_upto hw ho ht hs hx hl hxl (hG.hs.get hi) h2 hp (kk G hG)
theorem hfOf {f:FuncId} {fn:Func} {c:Code} {args:List SV} {R:SV->Nat->Ch->Prop} (hf:P.funcs[f]?=some fn) (hb:fn.body=some c) (hl:Nat.ble args.length fn.ntmps=true)
  (h:∀ w0 F B0 G0,HC P none fn.ntmps w0 F B0 N (H.map (·.1)) G0 (bodyPostM (Wz none) 0 P fn (Fin B0 N w0 F fun v N' G'=>∃ H',R v N' H'/\Hx (H.map (·.1)) N G0 H' G')) c (snumber 0 args) [] N H):HF P f args N H R :=
 ⟨⟨fn,hf,by rw [hb];rfl⟩,fun G hs hfr=>gfOf hf hb hl fun w0 F B0=>h w0 F B0 G G ⟨hs,fun _ _ hq _=>hq,fun p hp=>.inl (List.mem_map.2 ⟨p,hp,rfl⟩),hfr⟩⟩
noncomputable def resT (E:SE):List ResultVar->Option (List SV)
 | []=>some []
 | .tmp t::r=>Mw (slook E t) (resT E r)
 | .cell _ _::_=>none
theorem L3 (N:Nat):∀ (rs:List ResultVar) (m:List SV),resT E rs=some m->∃ El,V8 (rho [] N) E El/\resL P El ⟨0,.nil⟩ rs=some (shL m)
 | [],m,h=>by cases h;exact ⟨[],trivial,J⟩
 | .cell _ _::_,m,h=>by cases h
 | .tmp t::r,m,h=>by
  obtain ⟨v,m',hv,hm,rfl⟩:=Tu h;obtain ⟨El,h1,h2⟩:=L3 N r m' hm;have hL:V8 (rho [] N) E ((t,sh v)::El):=⟨by rw [hv,X7 (by simp)],h1⟩;refine ⟨(t,sh v)::El,hL,?_⟩
  have key:∀ (rs:List ResultVar) (m:List SV),resT E rs=some m->resL P El ⟨0,.nil⟩ rs=some (shL m)->resL P ((t,sh v)::El) ⟨0,.nil⟩ rs=some (shL m):=by
   intro rs;induction rs with
   | nil=>intro m hm _;cases hm;rfl
   | cons x rs ih =>
    intro m hm hL2;cases x with
    | cell a b=>cases hm
    | tmp s =>
     obtain ⟨u,m2,hu,hm2,rfl⟩:=Tu hm;simp only [resL,resOf] at hL2 ⊢;cases hr:resL P El ⟨0,.nil⟩ rs with
     | none=>rw [hr] at hL2;cases hs:slook El s<;>rw [hs] at hL2<;>cases hL2
     | some q =>
      rw [hr] at hL2
      have hq:q=shL m2:=by
       cases hs:slook El s with
       | none=>rw [hs] at hL2;cases hL2
       | some z=>rw [hs] at hL2;simp only [Option.some.injEq] at hL2;unfold shL at hL2 ⊢;simp only [X3] at hL2;exact (List.cons.inj hL2).2
      subst hq;rw [ih m2 hm2 hr,Z9];cases hb:Nat.beq s t with
      | true =>
       have:=Nat.eq_of_beq_eq_true hb;subst this;rw [hv] at hu;cases hu;rfl
      | false=>exact hL2
  simp only [resL,resOf];rw [key r m' hm h2,Z9,Nat.beq_refl];rfl
theorem Sb {bs:List Nat} (hl:bs.length<=lim) (m:List SV):ren (rho bs N) (resV (shL m))=resV m:=by
 cases m with
 | nil=>rfl
 | cons v r=>cases r with
  | nil=>exact X7 hl v
  | cons u s =>
   show SV.tup (X3 _ (shL (v::u::s)))=SV.tup (v::u::s);rw [Qb hl]
end
end S
end Go.Proofs.YtpofmnfkdkmieaaGreat
