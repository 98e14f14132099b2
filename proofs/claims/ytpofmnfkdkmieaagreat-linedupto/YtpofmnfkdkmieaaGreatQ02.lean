/- What is proved here: values and memory that are told by place -/
import Derived.Test.YtpofmnfkdkmieaaGreatQ01
import Derived.RangeFuncLeaves
import Derived.RangeFuncRecord
import Derived.RangeFuncIn
import Derived.OrdersIn
import Derived.Orders
import Derived.Laws.MakeOwn
set_option linter.unusedVariables false
set_option linter.unusedSimpArgs false
namespace Go.Proofs.YtpofmnfkdkmieaaGreat
namespace S
open Go Go.RowKit E
/-- Where the places lie: a block's Qv, and how many elements it has room for. -/
abbrev Nm:=Nat->Option (Nat × Nat)
inductive SV where
 | v (x:Value)
 | ptr (b o:Nat)
 | sl (b o l j:Nat)
 | mp (b:Nat)
 | ch (b:Nat)
 | fn (f:FuncId) (first cap:List SV)
 | yd (b:Nat)
 | ifc (t:TypeId) (x:SV)
 | agg (l:List SV)
 | tup (l:List SV)
abbrev Zi (x:Int):SV:=.v (.int .i64 x)
abbrev Zn (x:Nat):SV:=.v (.int .i64 (.ofNat x))
abbrev Ze:SV:=.v (.string ⟨#[]⟩)
abbrev Zs (x:ByteArray):SV:=.v (.string x)
abbrev Zz:SV:=.v (.slice none 0 0)
abbrev Zl (x:Option Addr) (y:Nat):SV:=.v (.slice x 0 y)
abbrev Zb (x:Bool):SV:=.v (.bool x)
abbrev Zp:SV:=.v (.pointer none)
abbrev Zf:SV:=.v .nilIface
abbrev Zq:=SV.ptr
abbrev Zk:=SV.sl
abbrev Zh:=SV.fn
mutual
def den (B:Nm):SV->Option Value
 | .v x=>some x
 | .ptr b o=>(B b).map fun p=>.pointer (some ⟨p.1,o,none⟩)
 | .sl b o l j=>(B b).map fun p=>.slice (some ⟨p.1,o,none⟩) l (p.2 - j)
 | .mp b=>(B b).map fun p=>.map (some p.1)
 | .ch b=>(B b).map fun p=>.chan (some p.1)
 | .fn f a c=>match Ym B a,Ym B c with
  | some x,some y=>some (.func (.func f) x.toArray y.toArray)
  | _,_=>none
 | .yd b=>(B b).map fun p=>.func (.yield p.1) #[] #[]
 | .ifc t x=>(den B x).map fun y=>.iface t y
 | .agg l=>(Ym B l).map fun y=>.agg y.toArray
 | .tup l=>(Ym B l).map fun y=>.tuple y.toArray
def Ym (B:Nm):List SV->Option (List Value)
 | []=>some []
 | x::r=>match den B x,Ym B r with
  | some v,some vs=>some (v::vs)
  | _,_=>none
end
def Pre (B B':Nm):Prop:=∀ (i:Nat) (p:Nat × Nat),B i=some p->B' i=some p
theorem Pre.refl (B:Nm):Pre B B:=fun _ _ h=>h
theorem Pre.trans {A B C:Nm} (h:Pre A B) (k:Pre B C):Pre A C:=fun i p hp=>k i p (h i p hp)
def upd (B:Nm) (i:Nat) (p:Nat × Nat):Nm:=fun j=>if j=i then some p else B j
theorem Pre.upd {B:Nm} {i:Nat} (h:B i=none) (p:Nat × Nat):Pre B (upd B i p):=fun j q hq=>by
 unfold S.upd;rw [if_neg (fun e=>by rw [e,h] at hq;cases hq)];exact hq
theorem X2 (B:Nm) (i:Nat) (p:Nat × Nat):upd B i p i=some p:=if_pos rfl
mutual
theorem Xl {B B':Nm} (h:Pre B B'):∀ (v:SV) (x:Value),den B v=some x->den B' v=some x
 | .v y,x,hx=>hx
 | .ptr b o,x,hx=>by
  simp only [den,Option.map_eq_some_iff] at hx ⊢;obtain ⟨p,hp,e⟩:=hx;exact ⟨p,h b p hp,e⟩
 | .sl b o l j,x,hx=>by
  simp only [den,Option.map_eq_some_iff] at hx ⊢;obtain ⟨p,hp,e⟩:=hx;exact ⟨p,h b p hp,e⟩
 | .mp b,x,hx=>by
  simp only [den,Option.map_eq_some_iff] at hx ⊢;obtain ⟨p,hp,e⟩:=hx;exact ⟨p,h b p hp,e⟩
 | .ch b,x,hx=>by
  simp only [den,Option.map_eq_some_iff] at hx ⊢;obtain ⟨p,hp,e⟩:=hx;exact ⟨p,h b p hp,e⟩
 | .yd b,x,hx=>by
  simp only [den,Option.map_eq_some_iff] at hx ⊢;obtain ⟨p,hp,e⟩:=hx;exact ⟨p,h b p hp,e⟩
 | .fn f a c,x,hx=>by
  simp only [den] at hx ⊢;cases ha:Ym B a with
  | none=>rw [ha] at hx;cases hx
  | some xs =>
   cases hc:Ym B c with
   | none=>rw [ha,hc] at hx;cases hx
   | some ys =>
    rw [ha,hc] at hx;rw [Y9 h a xs ha,Y9 h c ys hc];exact hx
 | .ifc t y,x,hx=>by
  simp only [den,Option.map_eq_some_iff] at hx ⊢;obtain ⟨p,hp,e⟩:=hx;exact ⟨p,Xl h y p hp,e⟩
 | .agg l,x,hx=>by
  simp only [den,Option.map_eq_some_iff] at hx ⊢;obtain ⟨p,hp,e⟩:=hx;exact ⟨p,Y9 h l p hp,e⟩
 | .tup l,x,hx=>by
  simp only [den,Option.map_eq_some_iff] at hx ⊢;obtain ⟨p,hp,e⟩:=hx;exact ⟨p,Y9 h l p hp,e⟩
theorem Y9 {B B':Nm} (h:Pre B B'):∀ (l:List SV) (xs:List Value),Ym B l=some xs->Ym B' l=some xs
 | [],xs,hx=>hx
 | y::r,xs,hx=>by
  simp only [Ym] at hx ⊢;cases ha:den B y with
  | none=>rw [ha] at hx;cases hx
  | some v =>
   cases hc:Ym B r with
   | none=>rw [ha,hc] at hx;cases hx
   | some vs =>
    rw [ha,hc] at hx;rw [Xl h y v ha,Y9 h r vs hc];exact hx
end
theorem Y5 {B:Nm} {y:SV} {r:List SV} {xs:List Value}:Ym B (y::r)=some xs↔∃ v vs,den B y=some v/\Ym B r=some vs/\xs=v::vs:=by
 simp only [Ym];constructor
 ·intro hx;cases ha:den B y with
  | none=>rw [ha] at hx;cases hx
  | some v =>
   cases hc:Ym B r with
   | none=>rw [ha,hc] at hx;cases hx
   | some vs=>rw [ha,hc] at hx;cases hx;exact ⟨v,vs,J,J,J⟩
 ·rintro ⟨v,vs,ha,hc,rfl⟩;rw [ha,hc]
theorem Y7 {B:Nm}:∀ {l:List SV} {xs:List Value},Ym B l=some xs->xs.length=l.length
 | [],xs,h=>by simp only [Ym] at h;cases h;rfl
 | y::r,xs,h=>by
  obtain ⟨v,vs,_,hc,rfl⟩:=Y5.1 h;simp [Y7 hc]
theorem Vt {B:Nm}:∀ {l:List SV} {xs:List Value},Ym B l=some xs->∀ {i:Nat} {v:SV},l[i]?=some v->∃ x,xs[i]?=some x/\den B v=some x
 | [],xs,h,i,v,hv=>by simp at hv
 | y::r,xs,h,i,v,hv=>by
  obtain ⟨u,us,ha,hc,rfl⟩:=Y5.1 h;cases i with
  | zero=>simp at hv;subst hv;exact ⟨u,by simp,ha⟩
  | succ i=>simp at hv;simpa using Vt hc hv
theorem Y8 {B:Nm}:∀ {l m:List SV} {xs ys:List Value},Ym B l=some xs->Ym B m=some ys->Ym B (l++m)=some (xs++ys)
 | [],m,xs,ys,h,k=>by simp only [Ym] at h;cases h;exact k
 | y::r,m,xs,ys,h,k=>by
  obtain ⟨u,us,ha,hc,rfl⟩:=Y5.1 h;exact Y5.2 ⟨u,us++ys,ha,Y8 hc k,J⟩
theorem Td {B:Nm}:∀ {l:List SV} {xs:List Value} (n:Nat),Ym B l=some xs->Ym B (l.take n)=some (xs.take n)
 | [],xs,n,h=>by simp only [Ym] at h;cases h;simp [Ym]
 | y::r,xs,n,h=>by
  obtain ⟨u,us,ha,hc,rfl⟩:=Y5.1 h;cases n with
  | zero=>simp [Ym]
  | succ n=>exact Y5.2 ⟨u,us.take n,ha,Td n hc,rfl⟩
theorem Q3 {B:Nm}:∀ {l:List SV} {xs:List Value} (n:Nat),Ym B l=some xs->Ym B (l.drop n)=some (xs.drop n)
 | [],xs,n,h=>by simp only [Ym] at h;cases h;simp [Ym]
 | y::r,xs,n,h=>by
  obtain ⟨u,us,ha,hc,rfl⟩:=Y5.1 h;cases n with
  | zero=>simpa using h
  | succ n=>simpa using Q3 n hc
theorem Te {B:Nm} (l:List Value):Ym B (l.map SV.v)=some l:=by
 induction l with
 | nil=>rfl
 | cons x r ih=>exact Y5.2 ⟨x,r,rfl,ih,rfl⟩
/-! ### Slots -/
abbrev SE:=List (Nat × SV)
noncomputable def slook (E:SE) (i:Nat):Option SV:=List.rec none (fun p _ ih=>cond (Nat.beq i p.1) (some p.2) ih) E
theorem Qp (i:Nat):slook [] i=none:=rfl
theorem Z9 (j:Nat) (v:SV) (r:SE) (i:Nat):slook ((j,v)::r) i=bif Nat.beq i j then some v else slook r i:=rfl
def Zao:Value->Option SV
 | .agg _=>none
 | .tuple _=>none
 | x=>some (.v x)
noncomputable def sev (E:SE):Operand->Option SV
 | .tmp t=>slook E t
 | .const x=>Zao x
 | .global _=>none
 | .func f=>some (.fn f [] [])
/-- A deferred call. -/
inductive SD where
 | mark (b:Nat)
 | clo (f:FuncId) (cap:List SV)
def Rh (B:Nm):SD->Option Deferred
 | .mark b=>(B b).map fun p=>{ target:=.collected p.1,args:=#[] }
 | .clo f c=>(Ym B c).map fun y=>{ target:=.fn (.func f) y.toArray,args:=#[] }
def W8 (B:Nm):List SD->Option (List Deferred)
 | []=>some []
 | x::r=>match Rh B x,W8 B r with
  | some v,some vs=>some (v::vs)
  | _,_=>none
theorem Bi {B B':Nm} (h:Pre B B'):∀ (v:SD) (x:Deferred),Rh B v=some x->Rh B' v=some x
 | .mark b,x,hx=>by
  simp only [Rh,Option.map_eq_some_iff] at hx ⊢;obtain ⟨p,hp,e⟩:=hx;exact ⟨p,h b p hp,e⟩
 | .clo f c,x,hx=>by
  simp only [Rh,Option.map_eq_some_iff] at hx ⊢;obtain ⟨p,hp,e⟩:=hx;exact ⟨p,Y9 h c p hp,e⟩
theorem Vl {B:Nm} {y:SD} {r:List SD} {xs:List Deferred}:W8 B (y::r)=some xs↔∃ v vs,Rh B y=some v/\W8 B r=some vs/\xs=v::vs:=by
 simp only [W8];constructor
 ·intro hx;cases ha:Rh B y with
  | none=>rw [ha] at hx;cases hx
  | some v =>
   cases hc:W8 B r with
   | none=>rw [ha,hc] at hx;cases hx
   | some vs=>rw [ha,hc] at hx;cases hx;exact ⟨v,vs,J,J,J⟩
 ·rintro ⟨v,vs,ha,hc,rfl⟩;rw [ha,hc]
theorem Tt {B B':Nm} (h:Pre B B'):∀ (l:List SD) (xs:List Deferred),W8 B l=some xs->W8 B' l=some xs
 | [],xs,hx=>hx
 | y::r,xs,hx=>by
  obtain ⟨v,vs,ha,hc,rfl⟩:=Vl.1 hx;exact Vl.2 ⟨v,vs,Bi h y v ha,Tt h r vs hc,J⟩
def Tm (B:Nm) (E:SE) (n:Nat) (t:Array Value):Prop:=n<=t.size/\∀ i v,slook E i=some v->∃ x,den B v=some x/\t[i]?=some x
theorem Tm.mono {B B':Nm} {E:SE} {n:Nat} {t:Array Value} (h:Tm B E n t) (k:Pre B B'):Tm B' E n t:=⟨h.1,fun i v hv=>by
 obtain ⟨x,hx,ht⟩:=h.2 i v hv;exact ⟨x,Xl k v x hx,ht⟩⟩
theorem Tm.put {B:Nm} {E:SE} {n d:Nat} {t:Array Value} {v:SV} {x:Value} (h:Tm B E n t) (hd:Nat.blt d n=true) (hx:den B v=some x):Tm B ((d,v)::E) n (t.setIfInBounds d x):=by
 have hd':d<n:=by simpa using hd
 refine ⟨by rw [Array.size_setIfInBounds];exact h.1,fun i u hu=>?_⟩;simp only [Z9] at hu;rw [Array.getElem?_setIfInBounds];by_cases hi:i=d
 ·subst hi;have e:Nat.beq i i=true:=Nat.beq_refl i;rw [e] at hu;cases hu;rw [if_pos rfl,if_pos (Nat.lt_of_lt_of_le hd' h.1)];exact ⟨x,hx,J⟩
 ·have e:Nat.beq i d=false:=by
   cases hb:Nat.beq i d with
   | true=>exact absurd (Nat.eq_of_beq_eq_true hb) hi
   | false=>rfl
  rw [e] at hu;rw [if_neg (fun e'=>hi e'.symm)];exact h.2 i u hu
structure Ags (n:Nat) (a:Act) (E:SE) (D:List SD) (B:Nm):Prop where
 tm:Tm B E n a.tmps
 df:W8 B D=some a.defers
theorem Ags.mono {n:Nat} {a:Act} {E:SE} {D:List SD} {B B':Nm} (h:Ags n a E D B) (k:Pre B B'):Ags n a E D B':=⟨h.tm.mono k,Tt k D _ h.df⟩
theorem Ags.put {n d:Nat} {a:Act} {E:SE} {D:List SD} {B:Nm} {v:SV} {x:Value} (h:Ags n a E D B) (hd:Nat.blt d n=true) (hx:den B v=some x):Ags n (a.put (some d) x) ((d,v)::E) D B:=⟨h.tm.put hd hx,h.df⟩
theorem Ags.eval {n:Nat} {a:Act} {E:SE} {D:List SD} {B:Nm} {x:Operand} {v:SV} (h:Ags n a E D B) (hx:sev E x=some v):den B v=some (a.eval x):=by
 cases x with
 | tmp t =>
  obtain ⟨y,hy,ht⟩:=h.tm.2 t v hx;rw [hy];show some y=some (a.tmps.getD t undef);rw [Array.getD_eq_getD_getElem?,ht];rfl
 | const u =>
  show den B v=some u;simp only [sev] at hx;cases u<;>simp only [Zao] at hx<;>cases hx<;>rfl
 | global g=>cases hx
 | func f=>simp only [sev] at hx;cases hx;rfl
/-! ### Blocks -/
inductive SB where
 | cells (l:List SV)
 | row (e sz k:Nat) (l:List SV)
 | map (es:List (ByteArray × SV))
 | chan (cap k:Nat)
 | loop (st:LoopState) (pend:Option Code) (E:SE) (n:Nat) (ps:Array Tmp) (assign body:Code)
 | defd
 | iter (m:Nat)
 | seen (l:List SV) (t:Nat) (fr:Nat × Nat)
abbrev Zc:=SB.cells
abbrev Zw:=SB.row
inductive Tr where
 | nil
 | nd (l:Tr) (x:Option SB) (r:Tr)
noncomputable def tget (t:Tr):Nat->Option SB:=Tr.rec (fun _=>none) (fun _ x _ il ir i=>cond (Nat.beq i 0) x (cond (Nat.beq (Nat.mod i 2) 1) (il (Nat.div i 2)) (ir (Nat.div (Nat.pred i) 2)))) t
theorem Ax (i:Nat):tget .nil i=none:=rfl
theorem Pk (l:Tr) (x:Option SB) (r:Tr) (i:Nat):tget (.nd l x r) i=bif Nat.beq i 0 then x else bif Nat.beq (Nat.mod i 2) 1 then tget l (Nat.div i 2) else tget r (Nat.div (Nat.pred i) 2):=rfl
noncomputable def tput (l:Tr) (y:Option SB) (r:Tr) (f:Tr->Nat->Tr) (i:Nat) (x:Option SB):Tr:=cond (Nat.beq i 0) (.nd l x r) (cond (Nat.beq (Nat.mod i 2) 1) (.nd (f l (Nat.div i 2)) y r) (.nd l y (f r (Nat.div (Nat.pred i) 2))))
noncomputable def tset (d:Nat) (t:Tr) (i:Nat) (x:Option SB):Tr:=Nat.rec (motive:=fun _=>Tr->Nat->Tr) (fun t _=>t) (fun _ f t i=>Tr.casesOn t (tput .nil none .nil f i x) (fun l y r=>tput l y r f i x)) d t i
theorem Au (d i:Nat) (x:Option SB):tset (d+1) .nil i x=tput .nil none .nil (fun t j=>tset d t j x) i x:=rfl
theorem tset_nd (d:Nat) (l:Tr) (y:Option SB) (r:Tr) (i:Nat) (x:Option SB):tset (d+1) (.nd l y r) i x=tput l y r (fun t j=>tset d t j x) i x:=rfl
/-- So many places; what they hold. -/
structure St where
 n:Nat
 t:Tr
noncomputable def St.get (σ:St) (i:Nat):Option SB:=tget σ.t i
def lim:Nat:=16000
noncomputable def St.set (σ:St) (i:Nat) (x:Option SB):St:=⟨σ.n,tset 14 σ.t i x⟩
def St.ext (σ:St) (k:Nat):St:=⟨σ.n+k,σ.t⟩
theorem W3 {i j:Nat} (h:i≠j):Nat.beq i j=false:=by
 cases hb:Nat.beq i j with
 | true=>exact absurd (Nat.eq_of_beq_eq_true hb) h
 | false=>rfl
theorem R6:∀ (d:Nat) (t:Tr) (i j:Nat) (x:Option SB),i+2<=2 ^ d->tget (tset d t i x) j=if j=i then x else tget t j
 | 0,t,i,j,x,h=>by simp at h
 | d+1,t,i,j,x,h=>by
  have h2:i+2<=2*2 ^ d:=by rw [Nat.pow_succ] at h;omega
  have key:∀ (l:Tr) (y:Option SB) (r:Tr),tget (tput l y r (fun t j=>tset d t j x) i x) j=if j=i then x else tget (.nd l y r) j:=by
   intro l y r;unfold tput;by_cases hi:i=0
   ·subst hi;rw [Nat.beq_refl];simp only [cond_true,Pk];by_cases hj:j=0
    ·subst hj;rw [Nat.beq_refl];simp
    ·rw [W3 hj,if_neg hj];simp
   ·rw [W3 hi];simp only [cond_false];by_cases ho:Nat.mod i 2=1
    ·rw [ho,Nat.beq_refl];simp only [cond_true,Pk];by_cases hj:j=0
     ·subst hj;rw [Nat.beq_refl,if_neg (fun e=>hi e.symm)];simp
     ·rw [W3 hj];simp only [cond_false];by_cases hm:Nat.mod j 2=1
      ·rw [hm,Nat.beq_refl];simp only [cond_true];rw [R6 d l (Nat.div i 2) (Nat.div j 2) x (by have:Nat.mod i 2=i % 2:=rfl;have:Nat.div i 2=i/2:=rfl;omega)];by_cases e:j=i
       ·subst e;simp
       ·rw [if_neg e,if_neg (by have:Nat.mod i 2=i % 2:=rfl;have:Nat.div i 2=i/2:=rfl;have:Nat.mod j 2=j % 2:=rfl;have:Nat.div j 2=j/2:=rfl;omega)]
      ·rw [W3 hm];simp only [cond_false];rw [if_neg (fun e=>hm (by rw [e];exact ho))]
    ·rw [W3 ho];simp only [cond_false,Pk];by_cases hj:j=0
     ·subst hj;rw [Nat.beq_refl,if_neg (fun e=>hi e.symm)];simp
     ·rw [W3 hj];simp only [cond_false];by_cases hm:Nat.mod j 2=1
      ·rw [hm,Nat.beq_refl];simp only [cond_true];rw [if_neg (fun e=>ho (by rw [<- e];exact hm))]
      ·rw [W3 hm];simp only [cond_false];have e1:Nat.mod i 2=i % 2:=rfl;have e2:Nat.mod j 2=j % 2:=rfl;have e3:Nat.div (Nat.pred i) 2=(i - 1)/2:=rfl;have e4:Nat.div (Nat.pred j) 2=(j - 1)/2:=rfl;rw [R6 d r (Nat.div (Nat.pred i) 2) (Nat.div (Nat.pred j) 2) x (by omega)];by_cases e:j=i
       ·subst e;simp
       ·rw [if_neg e,if_neg (by omega)]
  cases t with
  | nil =>
   have:=key .nil none .nil;rw [Au,this];by_cases e:j=i
   ·rw [if_pos e,if_pos e]
   ·rw [if_neg e,if_neg e];rw [Pk,Ax];cases Nat.beq j 0<;>cases Nat.beq (Nat.mod j 2) 1<;>rfl
  | nd l y r=>rw [tset_nd];exact key l y r
theorem St.get_set (σ:St) {i:Nat} (hi:i<lim) (j:Nat) (x:Option SB):(σ.set i x).get j=if j=i then x else σ.get j:=R6 14 σ.t i j x (by unfold lim at hi;omega)
theorem St.get_ext (σ:St) (k j:Nat):(σ.ext k).get j=σ.get j:=rfl
def Qi (B:Nm):List (ByteArray × SV)->List MapEntry->Prop
 | [],[]=>True
 | (k,v)::r,e::l=>e.key=.string k/\den B v=some e.val/\Qi B r l
 | _,_=>False
theorem Mu {B B':Nm} (h:Pre B B'):∀ (l:List (ByteArray × SV)) (es:List MapEntry),Qi B l es->Qi B' l es
 | [],[],_=>trivial
 | (k,v)::r,e::l,hx=>⟨hx.1,Xl h v _ hx.2.1,Mu h r l hx.2.2⟩
 | [],_::_,hx=>hx
 | _::_,[],hx=>hx
def Blk (B:Nm) (p:Nat × Nat):SB->Option Obj->Prop
 | .cells l,o=>∃ vs t,Ym B l=some vs/\o=some (.cells vs.toArray t (0,0))
 | .row e sz k l,o=>∃ vs cur,Ym B l=some vs/\vs.length=k*sz/\o=some (.cells cur e (0,0))/\k<=p.2/\p.2<=maxLen/\cur.size=p.2*sz/\cur.toList.take (k*sz)=vs
 | .map es,o=>∃ l c,o=some (.map l c)/\Qi B es l.toList
 | .chan cap k,o=>∃ buf s r,o=some (.chan cap buf false s r false)/\buf.size=k
 | .loop st pd E n ps x y,o=>∃ r:Loop,o=some (.loop r)/\r.state=st/\r.pending=pd/\Tm B E n r.tmps/\r.params=ps/\r.assign=x/\r.body=y
 | .defd,o=>o=some (.deferred (some []))
 | .iter m,o=>∃ q c,B m=some q/\o=some (.mapIter (some q.1) c #[] c)
 | .seen l t fr,o=>∃ vs,Ym B l=some vs/\o=some (.cells vs.toArray t fr)/\p.2=vs.length
theorem Blk.mono {B B':Nm} (h:Pre B B') {p:Nat × Nat} {o:Option Obj}:∀ {sb:SB},Blk B p sb o->Blk B' p sb o
 | .cells l,⟨vs,t,hl,ho⟩=>⟨vs,t,Y9 h l vs hl,ho⟩
 | .row e sz k l,⟨vs,cur,hl,r⟩=>⟨vs,cur,Y9 h l vs hl,r⟩
 | .map es,⟨l,c,ho,hd⟩=>⟨l,c,ho,Mu h es _ hd⟩
 | .chan _ _,hx=>hx
 | .loop _ _ _ _ _ _ _,⟨r,h1,h2,h3,h4,h5⟩=>⟨r,h1,h2,h3,h4.mono h,h5⟩
 | .defd,hx=>hx
 | .iter m,⟨q,c,hq,ho⟩=>⟨q,c,h m q hq,ho⟩
 | .seen l t fr,⟨vs,hl,ho⟩=>⟨vs,Y9 h l vs hl,ho⟩
theorem Blk.some {B:Nm} {p:Nat × Nat} {o:Option Obj}:∀ {sb:SB},Blk B p sb o->∃ x,o=some x
 | .cells l,⟨vs,t,hl,ho⟩=>⟨_,ho⟩
 | .row e sz k l,⟨vs,cur,hl,h1,ho,r⟩=>⟨_,ho⟩
 | .map es,⟨l,c,ho,hd⟩=>⟨_,ho⟩
 | .chan _ _,⟨_,_,_,ho,_⟩=>⟨_,ho⟩
 | .loop _ _ _ _ _ _ _,⟨r,h1,_⟩=>⟨_,h1⟩
 | .defd,h=>⟨_,h⟩
 | .iter m,⟨q,c,hq,ho⟩=>⟨_,ho⟩
 | .seen l t fr,⟨vs,hl,ho⟩=>⟨_,ho.1⟩
/-- But for F the world is as w0 was; the places hold what stands there. -/
structure Sx (w0:World) (F:List Nat) (B:Nm) (σ:St) (w:World):Prop where
 low:Fr F w0 w
 bd:σ.n<=lim
 new:∀ i,σ.n<=i->(i<lim->B i=none)/\σ.get i=none
 own:∀ (i:Nat) (sb:SB),σ.get i=some sb->∃ p,B i=some p/\Blk B p sb w.heap[p.1]?/\(p.1 ∈ F\/w0.heap.size<=p.1)
 apart:∀ (i j:Nat) (x y:SB) (p q:Nat × Nat),σ.get i=some x->σ.get j=some y->B i=some p->B j=some q->p.1=q.1->i=j
section
variable {w0 w w':World} {F:List Nat} {B:Nm} {σ:St}
theorem Sx.idx (h:Sx w0 F B σ w) {i:Nat} {sb:SB} (hi:σ.get i=some sb):i<σ.n:=by
 rcases Nat.lt_or_ge i σ.n with h' | h'
 ·exact h'
 ·rw [(h.new i h').2] at hi;cases hi
theorem Sx.idl (h:Sx w0 F B σ w) {i:Nat} {sb:SB} (hi:σ.get i=some sb):i<lim:=Nat.lt_of_lt_of_le (h.idx hi) h.bd
theorem Sx.lt (h:Sx w0 F B σ w) {i:Nat} {sb:SB} {p:Nat × Nat} (hi:σ.get i=some sb) (hp:B i=some p):p.1<w.heap.size:=by
 obtain ⟨q,hq,hb,_⟩:=h.own i sb hi;rw [hp] at hq;cases hq;obtain ⟨x,hx⟩:=hb.some;exact (Array.getElem?_eq_some_iff.1 hx).1
/-- Nothing of what was there has changed. -/
theorem Sx.keep (h:Sx w0 F B σ w) (hb:Below w.heap.size w w'):Sx w0 F B σ w' :=
 ⟨h.low.trans (G:=[]) (Fr.of_below hb _) (by simp),h.bd,h.new,fun i sb hi=>by
  obtain ⟨p,hp,hk,hF⟩:=h.own i sb hi;exact ⟨p,hp,by rw [hb.block _ (h.lt hi hp)];exact hk,hF⟩,h.apart⟩
theorem Sx.drawn (h:Sx w0 F B σ w) (d:Nat):Sx w0 F B σ { w with drawn:=d } :=
 ⟨⟨h.low.os,h.low.tape,h.low.output,h.low.size,h.low.block⟩,h.bd,h.new,h.own,h.apart⟩
/-- Places are set aside. -/
theorem Sx.ext (h:Sx w0 F B σ w) (k:Nat) (hk:σ.n+k<=lim):Sx w0 F B (σ.ext k) w :=
 ⟨h.low,hk,fun i hi=>h.new i (by have:σ.n+k<=i:=hi;omega),h.own,h.apart⟩
/-- A place comes to hold a block that is no other's. -/
theorem Sx.lay (h:Sx w0 F B σ w) {r:Nat} (hr:r<σ.n) (hB:B r=none) {p:Nat × Nat} {sb:SB} (hb:Blk (upd B r p) p sb w.heap[p.1]?) (hF:p.1 ∈ F\/w0.heap.size<=p.1)
  (hne:∀ i x q,σ.get i=some x->B i=some q->q.1≠p.1):Sx w0 F (upd B r p) (σ.set r (some sb)) w:=by
 have hP:=Pre.upd hB p;have hl:r<lim:=Nat.lt_of_lt_of_le hr h.bd
 have key:∀ (k:Nat) (z:SB) (q:Nat × Nat),(σ.set r (some sb)).get k=some z->upd B r p k=some q->(k=r/\q=p)\/(k≠r/\σ.get k=some z/\B k=some q):=by
  intro k z q hk hq;rw [σ.get_set hl] at hk;by_cases e:k=r
  ·subst e;rw [X2] at hq;cases hq;exact .inl ⟨J,J⟩
  ·rw [if_neg e] at hk;unfold upd at hq;rw [if_neg e] at hq;exact .inr ⟨e,hk,hq⟩
 refine ⟨h.low,h.bd,fun i hi=>?_,fun i x hi=>?_,fun i j x y q q' hi hj hq hq' e=>?_⟩
 ·have hi':σ.n<=i:=hi;have hn:i≠r:=by omega
  refine ⟨?_,by rw [σ.get_set hl,if_neg hn];exact (h.new i hi').2⟩;unfold upd;rw [if_neg hn];exact (h.new i hi').1
 ·rw [σ.get_set hl] at hi;by_cases e:i=r
  ·rw [if_pos e] at hi;cases hi;subst e;exact ⟨p,X2 ..,hb,hF⟩
  ·rw [if_neg e] at hi;obtain ⟨q,hq,hk,hf⟩:=h.own i x hi;exact ⟨q,hP i q hq,hk.mono hP,hf⟩
 ·rcases key i x q hi hq with ⟨a1,a2⟩ | ⟨a1,a2,a3⟩<;>rcases key j y q' hj hq' with ⟨b1,b2⟩ | ⟨b1,b2,b3⟩
  ·rw [a1,b1]
  ·rw [a2] at e;exact absurd e.symm (hne j y q' b2 b3)
  ·rw [b2] at e;exact absurd e (hne i x q a2 a3)
  ·exact h.apart i j x y q q' a2 b2 a3 b3 e
/-- A block is made. -/
theorem Sx.alloc (h:Sx w0 F B σ w) {r:Nat} (hr:r<σ.n) (hB:B r=none) (o:Obj) (c:Nat) (sb:SB) (hb:Blk (upd B r (w.heap.size,c)) (w.heap.size,c) sb (some o)) :
  Sx w0 F (upd B r (w.heap.size,c)) (σ.set r (some sb)) (w.alloc o):=by
 have hk:=h.keep (w':=w.alloc o) ((Below.refl _ w).alloc (Nat.le_refl _) _);have hn:(w.alloc o).heap[w.heap.size]?=some o:=by show (w.heap.push _)[w.heap.size]?=_;rw [Array.getElem?_push,if_pos rfl]
 refine hk.lay hr hB ?_ (.inr h.low.size) (fun i x q hi hq e=>?_)
 ·show Blk _ _ sb (w.alloc o).heap[w.heap.size]?;rw [hn];exact hb
 ·have:=h.lt hi hq;simp only at e;omega
/-- One block becomes another. -/
theorem Sx.turn (h:Sx w0 F B σ w) {i:Nat} {old:SB} {p:Nat × Nat} (hi:σ.get i=some old) (hp:B i=some p) (ho:w'.os=w.os/\w'.tape=w.tape/\w'.output=w.output) (hsz:w'.heap.size=w.heap.size) (hne:∀ k,k≠p.1->w'.heap[k]?=w.heap[k]?)
  (new:SB) (hb:Blk B p new w'.heap[p.1]?):Sx w0 F B (σ.set i (some new)) w':=by
 obtain ⟨q,hq,_,hF⟩:=h.own i old hi;rw [hp] at hq;cases hq;have hl:=h.idl hi;refine ⟨⟨ho.1.trans h.low.os,ho.2.1.trans h.low.tape,ho.2.2.trans h.low.output,by rw [hsz];exact h.low.size,fun k hk hn=>?_⟩,h.bd,fun k hk=>?_,?_,?_⟩
 ·rw [hne k (fun e=>hF.elim (fun hf=>hn (by rw [e];exact hf)) (fun hf=>by omega))];exact h.low.block k hk hn
 ·have hk':σ.n<=k:=hk;exact ⟨(h.new k hk').1,by rw [σ.get_set hl,if_neg (by have:=h.idx hi;omega)];exact (h.new k hk').2⟩
 ·intro j x hj;rw [σ.get_set hl] at hj;by_cases e:j=i
  ·rw [if_pos e] at hj;cases hj;subst e;exact ⟨p,hp,hb,hF⟩
  ·rw [if_neg e] at hj;obtain ⟨q,hq,hk,hF'⟩:=h.own j x hj;exact ⟨q,hq,by rw [hne q.1 (fun e'=>e (h.apart j i x old q p hj hi hq hp e'))];exact hk,hF'⟩
 ·intro j k x y r s hj hk hr hs e
  have key:∀ (k:Nat) (z:SB),(σ.set i (some new)).get k=some z->∃ z',σ.get k=some z':=by
   intro k z hk;rw [σ.get_set hl] at hk;by_cases e:k=i
   ·subst e;exact ⟨old,hi⟩
   ·rw [if_neg e] at hk;exact ⟨z,hk⟩
  obtain ⟨x',hx'⟩:=key j x hj;obtain ⟨y',hy'⟩:=key k y hk;exact h.apart j k x' y' r s hx' hy' hr hs e
theorem W2 {i k:Nat} (hl:i<lim) {z:SB} (hk:(σ.set i none).get k=some z):k≠i/\σ.get k=some z:=by
 rw [σ.get_set hl] at hk;by_cases e:k=i
 ·rw [if_pos e] at hk;cases hk
 ·rw [if_neg e] at hk;exact ⟨e,hk⟩
theorem Qz {i k:Nat} (hl:i<lim) (hk:σ.get k=none):(σ.set i none).get k=none:=by
 rw [σ.get_set hl];split
 ·rfl
 ·exact hk
/-- A block is let go. -/
theorem Sx.kill (h:Sx w0 F B σ w) {i:Nat} (hl:i<lim):Sx w0 F B (σ.set i none) w :=
 ⟨h.low,h.bd,fun k hk=>⟨(h.new k hk).1,Qz hl (h.new k hk).2⟩,fun j x hj=>h.own j x (W2 hl hj).2,fun j k x y p q hj hk=>h.apart j k x y p q (W2 hl hj).2 (W2 hl hk).2⟩
/-- A row grows, where it lies or elsewhere. -/
theorem Sx.grow (h:Sx w0 F B σ w) {i r:Nat} {old:SB} {p:Nat × Nat} (hi:σ.get i=some old) (hp:B i=some p) (hr:r<σ.n) (hBr:B r=none) (hg:w.grownBy w' (some p.1)) {g c:Nat} (hw:g=p.1\/w.heap.size<=g)
  {new:SB} (hb:Blk (upd B r (g,c)) (g,c) new w'.heap[g]?):Sx w0 F (upd B r (g,c)) ((σ.set i none).set r (some new)) w':=by
 obtain ⟨q,hq,_,hF⟩:=h.own i old hi;rw [hp] at hq;cases hq;have hl:=h.idl hi
 have h1:Sx w0 F B (σ.set i none) w':=by
  refine ⟨h.low.trans (G:=[p.1]) ⟨hg.os,hg.tape,hg.output,hg.size,fun k hk hn=>hg.block k hk (fun e=>hn (by cases e;simp))⟩ (fun x hx=>by simp at hx;subst hx;exact hF),h.bd,fun k hk=>⟨(h.new k hk).1,Qz hl (h.new k hk).2⟩,fun j x hj=>?_,fun j k x y p q hj hk=>h.apart j k x y p q (W2 hl hj).2 (W2 hl hk).2⟩;obtain ⟨hne,hj⟩:=W2 hl hj;obtain ⟨q,hq,hk,hF'⟩:=h.own j x hj;exact ⟨q,hq,by rw [hg.block q.1 (h.lt hj hq) (fun e=>hne (h.apart j i x old q p hj hi hq hp (Option.some.inj e)))];exact hk,hF'⟩
 refine h1.lay hr hBr hb ?_ (fun j x q hj hq e=>?_)
 ·rcases hw with e | e
  ·show g ∈ F\/_<=g;rw [e];exact hF
  ·exact .inr (Nat.le_trans h.low.size e)
 ·obtain ⟨hne,hj⟩:=W2 hl hj;rcases hw with e' | e'
  ·exact hne (h.apart j i x old q p hj hi hq hp (by rw [e];exact e'))
  ·have:=h.lt hj hq;simp only at e;omega
/-- The cells of a block. -/
def Wa:SB->Option (List SV)
 | .cells l=>some l
 | .row _ _ _ l=>some l
 | .seen l _ _=>some l
 | _=>none
theorem Sx.cell (h:Sx w0 F B σ w) {i:Nat} {sb:SB} {l:List SV} {p:Nat × Nat} (hi:σ.get i=some sb) (hl:Wa sb=some l) (hp:B i=some p) {o:Nat} {v:SV} (hv:l[o]?=some v) :
  ∃ x,den B v=some x/\w.cell? ⟨p.1,o,none⟩=some x:=by
 obtain ⟨q,hq,hb,_⟩:=h.own i sb hi;rw [hp] at hq;cases hq;cases sb with
 | cells l' =>
  cases hl;obtain ⟨vs,t,hvs,ho⟩:=hb;obtain ⟨x,hx,hd⟩:=Vt hvs hv;exact ⟨x,hd,by simp [World.cell?,ho,hx]⟩
 | seen l' t fr =>
  cases hl;obtain ⟨vs,hvs,ho,_⟩:=hb;obtain ⟨x,hx,hd⟩:=Vt hvs hv;exact ⟨x,hd,by simp [World.cell?,ho,hx]⟩
 | row e sz k l' =>
  cases hl;obtain ⟨vs,cur,hvs,hk,ho,_,_,_,ht⟩:=hb;obtain ⟨x,hx,hd⟩:=Vt hvs hv;refine ⟨x,hd,?_⟩;have hlt:o<k*sz:=by rw [<- hk];exact (List.getElem?_eq_some_iff.1 hx).1
  rw [<- ht,List.getElem?_take,if_pos hlt] at hx;simp only [World.cell?,ho]
  simpa using hx
 | _=>cases hl
end
end S
end Go.Proofs.YtpofmnfkdkmieaaGreat
