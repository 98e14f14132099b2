/- What is proved here: two ways to read a class out of bytes (o -/
import Derived.Test.YtpofmnfkdkmieaaGreatQ06
import Derived.Test.YtpofmnfkdkmieaaGreatQ03
import Derived.Test.YtpofmnfkdkmieaaGreatQ09
import Derived.Test.YtpofmnfkdkmieaaGreatQ07
import Derived.Test.YtpofmnfkdkmieaaGreatQ04
set_option linter.unusedVariables false
set_option linter.unusedSimpArgs false
namespace Go.Proofs.YtpofmnfkdkmieaaGreat
namespace At
abbrev Ps (α:Type):=List UInt8→Option (α × List UInt8)
def Rb {α:Type} (x:α):Ps α:=fun s=>some (x,s)
def pNo {α:Type}:Ps α:=fun _=>none
def Xg {α β:Type} (p:Ps α) (f:α→Ps β):Ps β:=fun s=>match p s with | none=>none | some (x,r)=>f x r
def leN:List UInt8→Nat
 | []=>0
 | b::r=>b.toNat+256*leN r
def toI (n:Nat):Int:=if n<9223372036854775808 then (n:Int) else (n:Int) - 18446744073709551616
def pTake (n:Nat):Ps (List UInt8):=fun s=>if n≤s.length then some (s.take n,s.drop n) else none
def pNum (k:Nat):Ps Nat:=Xg (pTake k) fun l=>Rb (leN l)
def Nu (k:Nat):Ps Int:=Xg (pNum k) fun n=>Rb (toI n)
def Qf:Ps ByteArray:=Xg (pNum 1) fun n=>Xg (pTake n) fun l=>Rb ⟨l.toArray⟩
def pFlag:Ps Bool:=Xg (pNum 1) fun n=>if 1<n then pNo else Rb (decide (n=1))
def pTy (chk:Bool):Ps Ty:=Xg (Nu 1) fun k=>if (chk&&decide (5<k))=true then pNo else if k=3 then Xg Qf fun c=>Rb ⟨k,c⟩ else Rb ⟨k,mt⟩
def pMany {α:Type} (p:Ps α):Nat→Ps (List α)
 | 0=>Rb []
 | n+1=>Xg p fun x=>Xg (pMany p n) fun l=>Rb (x::l)
def Qg {α:Type} (lim:Bool) (k most:Nat) (p:Ps α):Ps (List α):=Xg (pNum k) fun n=>if (lim&&decide (most<n))=true then pNo else pMany p n
def rf0:Rf:=⟨mt,mt,[],⟨0,mt⟩⟩
def insP (chk lim:Bool) (op:Int):Ps Ins :=
 if Xk op=1 then Xg (Nu 8) fun n=>Rb ⟨op,n,rf0⟩
 else if Xk op=2 then Xg (Nu 1) fun n=>Rb ⟨op,n,rf0⟩
 else if Xk op=3 then Xg (Nu 2) fun n=>Rb ⟨op,n,rf0⟩
 else if Xk op=4 then Xg Qf fun c=>Rb ⟨op,0,⟨c,mt,[],⟨0,mt⟩⟩⟩
 else if Xk op=5 then Xg Qf fun c=>Xg Qf fun n=>Xg (pTy chk) fun t=>Rb ⟨op,0,⟨c,n,[],t⟩⟩
 else if Xk op=6 then Xg Qf fun c=>Xg Qf fun n=>Xg (Qg lim 1 6 (pTy chk)) fun ps=>Xg (pTy chk) fun t=>Rb ⟨op,0,⟨c,n,ps,t⟩⟩
 else if (chk&&decide (Xk op = -1))=true then pNo else Rb ⟨op,0,rf0⟩
def pIns (chk lim:Bool):Ps Ins:=Xg (Nu 1) (insP chk lim)
theorem insP1 {chk lim:Bool} {op:Int} (h:Xk op=1):insP chk lim op=Xg (Nu 8) fun n=>Rb ⟨op,n,rf0⟩:=by unfold insP;rw [if_pos h]
theorem insP2 {chk lim:Bool} {op:Int} (h:Xk op=2):insP chk lim op=Xg (Nu 1) fun n=>Rb ⟨op,n,rf0⟩:=by unfold insP;rw [if_neg (by omega),if_pos h]
theorem insP3 {chk lim:Bool} {op:Int} (h:Xk op=3):insP chk lim op=Xg (Nu 2) fun n=>Rb ⟨op,n,rf0⟩:=by unfold insP;rw [if_neg (by omega),if_neg (by omega),if_pos h]
theorem insP4 {chk lim:Bool} {op:Int} (h:Xk op=4):insP chk lim op=Xg Qf fun c=>Rb ⟨op,0,⟨c,mt,[],⟨0,mt⟩⟩⟩:=by unfold insP;rw [if_neg (by omega),if_neg (by omega),if_neg (by omega),if_pos h]
theorem insP5 {chk lim:Bool} {op:Int} (h:Xk op=5):insP chk lim op=Xg Qf fun c=>Xg Qf fun n=>Xg (pTy chk) fun t=>Rb ⟨op,0,⟨c,n,[],t⟩⟩:=by
 unfold insP;rw [if_neg (by omega),if_neg (by omega),if_neg (by omega),if_neg (by omega),if_pos h]
theorem insP6 {chk lim:Bool} {op:Int} (h:Xk op=6):insP chk lim op=Xg Qf fun c=>Xg Qf fun n=>Xg (Qg lim 1 6 (pTy chk)) fun ps=>Xg (pTy chk) fun t=>Rb ⟨op,0,⟨c,n,ps,t⟩⟩:=by
 unfold insP;rw [if_neg (by omega),if_neg (by omega),if_neg (by omega),if_neg (by omega),if_neg (by omega),if_pos h]
theorem insP0 {chk lim:Bool} {op:Int} (h1:¬ Xk op=1) (h2:¬ Xk op=2) (h3:¬ Xk op=3) (h4:¬ Xk op=4) (h5:¬ Xk op=5) (h6:¬ Xk op=6) (h7:chk=true→¬ Xk op = -1):insP chk lim op=Rb ⟨op,0,rf0⟩:=by
 unfold insP;rw [if_neg h1,if_neg h2,if_neg h3,if_neg h4,if_neg h5,if_neg h6,if_neg (by intro h;rw [Bool.and_eq_true] at h;exact h7 h.1 (of_decide_eq_true h.2))]
def pHd:Ps Hd:=Xg (Nu 2) fun a=>Xg (Nu 2) fun b=>Xg (Nu 2) fun c=>Xg Qf fun n=>Rb ⟨a,b,c,n⟩
def pFr (chk lim:Bool):Ps Fr:=Xg (Nu 2) fun a=>Xg (Qg lim 1 20 (pTy chk)) fun l=>Xg (Qg lim 1 20 (pTy chk)) fun s=>Rb ⟨a,l,s⟩
def pFd (chk:Bool):Ps Fld:=Xg Qf fun n=>Xg pFlag fun b=>Xg (pTy chk) fun t=>Rb ⟨n,b,t⟩
def pMe (chk lim:Bool):Ps Me:=Xg Qf fun nm=>Xg pFlag fun st=>Xg (Qg lim 1 6 (pTy chk)) fun ps=>Xg (pTy chk) fun r=>Xg (Nu 1) fun lo=>Xg (Nu 1) fun sk =>
 Xg (Qg lim 2 200 (pIns chk lim)) fun cd=>Xg (Qg lim 1 10 pHd) fun hs=>Xg (Qg lim 1 60 (pFr chk lim)) fun fs=>Rb ⟨nm,st,ps,r,lo,sk,cd,hs,fs⟩
def pCl (chk lim:Bool):Ps Cl:=Xg Qf fun n=>Xg Qf fun s=>Xg (Qg lim 1 20 (pFd chk)) fun fs=>Xg (Qg lim 1 20 (pMe chk lim)) fun ms=>Rb ⟨n,s,fs,ms⟩
def clas:List UInt8:=[67,76,65,83]
def M8 (chk lim:Bool) (s:List UInt8):Option Cl:=if s.take 4=clas then (match pCl chk lim (s.drop 4) with | some (c,r)=>if r=[] then some c else none | none=>none) else none
def Rc:Option Cl→Option Cl
 | some c=>if Xm c=true then some c else none
 | none=>none
end At
section
open Go Go.RowKit At E
theorem Mc {β:Type} (cell:β→List Value) (k:Nat):∀ (l:List β) (_:∀ x ∈ l,(cell x).length=k) (i j:Nat) (x:β) (u:Value),l[i]?=some x→(cell x)[j]?=some u→(l.flatMap cell)[i*k+j]?=some u
 | [],_,i,_,x,_,hi,_=>by simp at hi
 | y::l,hl,0,j,x,u,hi,hj=>by
  simp at hi;subst hi;rw [List.flatMap_cons,Nat.zero_mul,Nat.zero_add]
  have:j<(cell y).length:=by
   rcases Nat.lt_or_ge j (cell y).length with h | h
   ·exact h
   ·rw [List.getElem?_eq_none h] at hj;cases hj
  rw [List.getElem?_append_left this];exact hj
 | y::l,hl,i+1,j,x,u,hi,hj=>by
  have hy:=hl y List.mem_cons_self;rw [List.flatMap_cons,List.getElem?_append_right (by rw [hy,Nat.add_mul];omega),hy];have e:(i+1)*k+j - k=i*k+j:=by rw [Nat.add_mul];omega
  rw [e];exact Mc cell k l (fun z hz=>hl z (List.mem_cons_of_mem _ hz)) i j x u (by simpa using hi) hj
theorem U7 {β:Type} (cell:β→List Value) (k:Nat):∀ (l:List β) (_:∀ x ∈ l,(cell x).length=k),(l.flatMap cell).length=l.length*k
 | [],_=>by simp
 | y::l,hl=>by
  rw [List.flatMap_cons,List.length_append,hl y List.mem_cons_self,U7 cell k l (fun z hz=>hl z (List.mem_cons_of_mem _ hz)),List.length_cons,Nat.add_mul];omega
theorem ListAt.of_own {α β:Type} {k e:Nat} {El:World→List Value→α→Prop} {w:World} {v:Value} (f:β→α) (cell:β→List Value) (ls:List β) (h:w.ownsRow 0 e k v ls.length (ls.flatMap cell)) (hk:∀ x ∈ ls,(cell x).length=k) (hl:ls.length≤1048576)
  (hEl:∀ x ∈ ls,El w (cell x) (f x)):ListAt k El w v (ls.map f):=by
 rcases h.2 with ⟨rfl,h0⟩ | ⟨g,cap,cur,hv,_,hg,hnc,_⟩
 ·have:ls=[]:=List.eq_nil_of_length_eq_zero h0;subst this;exact ⟨none,0,J,⟨by simp,by simp⟩,fun i x hi=>by simp at hi⟩
 ·refine ⟨some ⟨g,0,none⟩,cap,by rw [List.length_map];exact hv,⟨by rw [List.length_map];exact hl,by rw [List.length_map];exact hnc⟩,fun i x hi=>?_⟩;rw [List.getElem?_map] at hi;cases hy:ls[i]? with
  | none=>rw [hy] at hi;cases hi
  | some y =>
   rw [hy] at hi;cases hi;have hm:=List.mem_of_getElem? hy;refine ⟨g,0,cell y,J,(h.lt g (by rw [hv];rfl)).2,hEl y hm,fun j u hj=>?_⟩;have:=h.cells (g:=g) (by rw [hv];rfl) (i*k+j) u (Mc cell k ls hk i j y u hy hj);rw [Addr.add_lit] at this;rw [Nat.zero_add];rw [Nat.zero_add] at this;exact this
def Q1 (l:List Ty):Prop:=l.length≤1048576∧∀ t ∈ l,Rz t
def T4 (v:Value) (l:List Ty):Asr:=Y0 71 2 v l.length (l.flatMap tyV)
theorem tysA_at {w:World} {v:Value} {l:List Ty} (h:(T4 v l).A w) (ho:Q1 l):Yu w v l:=by
 have:=ListAt.of_own (El:=TyEl) id tyV l h (fun _ _=>rfl) ho.1 (fun t ht=>⟨rfl,ho.2 t ht⟩);rw [List.map_id] at this;exact this
def insC (p:Ins × Value):List Value:=Wx p.1 p.2
def inssA (v:Value) (ls:List (Ins × Value)):Asr:=(Y0 75 7 v ls.length (ls.flatMap insC)).and (Qa (ls.map fun p=>T4 p.2 p.1.ref.params))
def inssOk (ls:List (Ins × Value)):Prop:=ls.length≤1048576∧∀ p ∈ ls,N3 p.1∧Q1 p.1.ref.params
theorem bigA_mem {β:Type} {g:β→Asr} {ls:List β} {w:World} (h:(Qa (ls.map g)).A w):∀ p ∈ ls,(g p).A w:=by
 intro p hp;obtain ⟨k,hk⟩:=List.mem_iff_getElem?.1 hp;exact (bigA_take (ls.map g) k (g p) (by rw [List.getElem?_map,hk];rfl)).a w h
theorem inssA_at {w:World} {v:Value} {ls:List (Ins × Value)} (h:(inssA v ls).A w) (ho:inssOk ls):Su w v (ls.map (·.1)) :=
 ListAt.of_own (El:=InsEl) (·.1) insC ls h.1 (fun _ _=>rfl) ho.1 (fun p hp=>⟨p.2,rfl,tysA_at (bigA_mem h.2.1 p hp) (ho.2 p hp).2,(ho.2 p hp).1⟩)
def hdsA (v:Value) (l:List Hd):Asr:=Y0 169 4 v l.length (l.flatMap hdV)
def hdsOk (l:List Hd):Prop:=l.length≤1048576∧∀ h ∈ l,hdOk h
theorem hdsA_at {w:World} {v:Value} {l:List Hd} (h:(hdsA v l).A w) (ho:hdsOk l):HdsAt w v l:=by
 have:=ListAt.of_own (El:=HdEl) id hdV l h (fun _ _=>rfl) ho.1 (fun t ht=>⟨rfl,ho.2 t ht⟩);rw [List.map_id] at this;exact this
def fdsA (v:Value) (l:List Fld):Asr:=Y0 128 4 v l.length (l.flatMap fdV)
def fdsOk (l:List Fld):Prop:=l.length≤1048576∧∀ h ∈ l,fdOk h
theorem fdsA_at {w:World} {v:Value} {l:List Fld} (h:(fdsA v l).A w) (ho:fdsOk l):FdsAt w v l:=by
 have:=ListAt.of_own (El:=FdEl) id fdV l h (fun _ _=>rfl) ho.1 (fun t ht=>⟨rfl,ho.2 t ht⟩);rw [List.map_id] at this;exact this
def frC (p:Fr × Value × Value):List Value:=frV p.1 p.2.1 p.2.2
def frA (p:Fr × Value × Value):Asr:=(T4 p.2.1 p.1.locals).and (T4 p.2.2 p.1.stack)
def frsA (v:Value) (ls:List (Fr × Value × Value)):Asr:=(Y0 176 3 v ls.length (ls.flatMap frC)).and (Qa (ls.map frA))
def frOk (f:Fr):Prop:=Wc f.pos∧Q1 f.locals∧Q1 f.stack
def frsOk (ls:List (Fr × Value × Value)):Prop:=ls.length≤1048576∧∀ p ∈ ls,frOk p.1
theorem frsA_at {w:World} {v:Value} {ls:List (Fr × Value × Value)} (h:(frsA v ls).A w) (ho:frsOk ls):Pg w v (ls.map (·.1)) :=
 ListAt.of_own (El:=FrEl) (·.1) frC ls h.1 (fun _ _=>rfl) ho.1 (fun p hp=>by
  have hb:=bigA_mem h.2.1 p hp;have hk:=ho.2 p hp;exact ⟨p.2.1,p.2.2,J,tysA_at hb.1 hk.2.1,tysA_at hb.2.1 hk.2.2,hk.1⟩)
structure MeM where
 pv:Value
 cv:Value
 hv:Value
 fv:Value
 cs:List (Ins × Value)
 fs:List (Fr × Value × Value)
def meC (p:Me × MeM):List Value:=meV p.1 p.2.pv p.2.cv p.2.hv p.2.fv
def meA (p:Me × MeM):Asr:=(T4 p.2.pv p.1.params).and ((inssA p.2.cv p.2.cs).and ((hdsA p.2.hv p.1.handlers).and (frsA p.2.fv p.2.fs)))
structure MeFit (p:Me × MeM):Prop where
 code:p.2.cs.map (·.1)=p.1.code
 frames:p.2.fs.map (·.1)=p.1.frames
 ok:meOk p.1
 ps:Q1 p.1.params
 cs:inssOk p.2.cs
 hs:hdsOk p.1.handlers
 fs:frsOk p.2.fs
theorem meA_at {w:World} {p:Me × MeM} (h:(meA p).A w) (hf:MeFit p):MeParts w p.1 p.2.pv p.2.cv p.2.hv p.2.fv:=by
 refine ⟨tysA_at h.1 hf.ps,?_,hdsA_at h.2.1.2.1.1 hf.hs,?_,hf.ok⟩
 ·have:=inssA_at h.2.1.1 hf.cs;rw [hf.code] at this;exact this
 ·have:=frsA_at h.2.1.2.1.2.1 hf.fs;rw [hf.frames] at this;exact this
def mesA (v:Value) (ls:List (Me × MeM)):Asr:=(Y0 134 10 v ls.length (ls.flatMap meC)).and (Qa (ls.map meA))
def mesFit (ls:List (Me × MeM)):Prop:=ls.length≤1048576∧∀ p ∈ ls,MeFit p
theorem mesA_at {w:World} {v:Value} {ls:List (Me × MeM)} (h:(mesA v ls).A w) (ho:mesFit ls):Mn w v (ls.map (·.1)) :=
 ListAt.of_own (El:=MeEl) (·.1) meC ls h.1 (fun _ _=>rfl) ho.1 (fun p hp=>⟨p.2.pv,p.2.cv,p.2.hv,p.2.fv,rfl,meA_at (bigA_mem h.2.1 p hp) (ho.2 p hp)⟩)
structure ClM where
 fv:Value
 mv:Value
 ms:List (Me × MeM)
def clA (c:Cl) (k:ClM):Asr:=(fdsA k.fv c.fields).and (mesA k.mv k.ms)
structure ClFit (c:Cl) (k:ClM):Prop where
 ms:k.ms.map (·.1)=c.methods
 ok:X5 c.name∧X5 c.super
 fs:fdsOk c.fields
 mo:mesFit k.ms
theorem clA_at {w:World} {c:Cl} {k:ClM} (h:(clA c k).A w) (hf:ClFit c k):ClAt w c k.fv k.mv:=by
 refine ⟨fdsA_at h.1 hf.fs,?_,hf.ok⟩;have:=mesA_at h.2.1 hf.mo;rw [hf.ms] at this;exact this
theorem leN_lt:∀ l:List UInt8,leN l<256 ^ l.length
 | []=>by simp [leN]
 | b::r=>by
  have:=leN_lt r;have hb:=b.toNat_lt;rw [leN,List.length_cons,Nat.pow_succ];omega
theorem leN_append:∀ l m:List UInt8,leN (l++m)=leN l+256 ^ l.length*leN m
 | [],m=>by simp [leN]
 | b::r,m=>by
  rw [List.cons_append,leN,leN,leN_append r m,List.length_cons,Nat.pow_succ,Nat.mul_add,← Nat.add_assoc,← Nat.mul_assoc,Nat.mul_comm 256 (256 ^ r.length)]
theorem Sx {n:Nat} (h:n<9223372036854775808):toI n=(n:Int):=by unfold toI;rw [if_pos h]
theorem toI_wrap {n:Nat} (h:n<18446744073709551616):IntKind.i64.wrap (n:Int)=toI n:=by
 rw [IntWalk.i64_left];unfold wrap64 toI;split<;>omega
theorem toI_ok {n:Nat} (h:n<18446744073709551616):Wc (toI n):=by unfold Wc toI;split<;>omega
theorem pTake_some {n:Nat} {s l r:List UInt8} (h:pTake n s=some (l,r)):l=s.take n∧r=s.drop n∧n≤s.length:=by
 unfold pTake at h;split at h
 ·cases h;exact ⟨J,J,by assumption⟩
 ·cases h
theorem pTake_ok {n:Nat} {s:List UInt8} (h:n≤s.length):pTake n s=some (s.take n,s.drop n):=by unfold pTake;rw [if_pos h]
theorem pTake_no {n:Nat} {s:List UInt8} (h:¬ n≤s.length):pTake n s=none:=by unfold pTake;rw [if_neg h]
def Tr {α:Type} (p:Ps α) (xs:List α) (n:Nat):Ps (List α):=Xg (pMany p n) fun l=>Rb (xs++l)
theorem Qp {α:Type} (p:Ps α) (xs:List α):Tr p xs 0=Rb xs:=by
 funext s;simp [Tr,pMany,Xg,Rb]
theorem pThen_assoc {α β γ:Type} (p:Ps α) (f:α→Ps β) (g:β→Ps γ):Xg (Xg p f) g=Xg p fun x=>Xg (f x) g:=by
 funext s
 unfold Xg;cases p s with
 | none=>rfl
 | some q=>rfl
theorem pRet_then {α β:Type} (x:α) (f:α→Ps β):Xg (Rb x) f=f x:=by funext s;rfl
theorem Qq {α:Type} (p:Ps α) (xs:List α) (n:Nat):Tr p xs (n+1)=Xg p fun x=>Tr p (xs++[x]) n:=by
 unfold Tr;rw [show pMany p (n+1)=Xg p fun x=>Xg (pMany p n) fun l=>Rb (x::l) from rfl,pThen_assoc];refine congrArg (Xg p) (funext fun x=>?_);rw [pThen_assoc];refine congrArg (Xg (pMany p n)) (funext fun l=>?_);rw [pRet_then,List.append_assoc];rfl
theorem pMany_from {α:Type} (p:Ps α) (n:Nat):pMany p n=Tr p [] n:=by
 unfold Tr;funext s
 simp only [List.nil_append];unfold Xg;cases pMany p n s with
 | none=>rfl
 | some q=>rfl
def Ux {β:Type} (σ0:Option (List UInt8)) (p:Ps β) (σ:Option (List UInt8)) (q:Ps β):Prop:=σ0.bind p=σ.bind q
theorem Ux.first {β:Type} (σ:Option (List UInt8)) (p:Ps β):Ux σ p σ p:=rfl
theorem Ux.of {β:Type} {σ0 σ:Option (List UInt8)} {P q q':Ps β} (h:Ux σ0 P σ q) (e:q=q'):Ux σ0 P σ q':=e ▸ h
end
section
open Go.RowKit At E
def seg (s:ByteArray) (a n:Nat):List UInt8:=((dl s).drop a).take n
theorem seg_text {s:ByteArray} {a n:Nat}:s.extract a (a+n)=⟨(seg s a n).toArray⟩:=by
 apply ByteArray.ext;rw [ByteArray.data_extract];unfold seg dl;apply Array.ext';simp [Array.toList_extract,List.extract_eq_take_drop]
def repN (k:Nat):Nat→Value→Asr→Prop:=fun n v R'=>v=.int .i64 (toI n)∧n<256 ^ k∧R'=Asr.none
def repS:ByteArray→Value→Asr→Prop:=fun x v R'=>v=.string x∧x.size≤255∧R'=Asr.none
def repB:Bool→Value→Asr→Prop:=fun x v R'=>v=.bool x∧R'=Asr.none
def repI (k:Nat):Int→Value→Asr→Prop:=fun x v R'=>v=.int .i64 x∧Wc x∧(k≤2→0≤x∧x<65536)∧R'=Asr.none
def repT:Ty→Value→Asr→Prop:=fun t v R'=>v=.agg (tyV t).toArray∧Rz t∧R'=Asr.none
theorem R4:X5 mt:=Nat.zero_le _
theorem Tj {s:ByteArray} (h:s.size≤255):X5 s:=by unfold X5;omega
theorem ok_snoc {α:Type} {ok:α→Prop} {l:List α} {t:α} (h:∀ x ∈ l,ok x) (ht:ok t):∀ x ∈ l++[t],ok x:=by
 intro x hx;rcases List.mem_append.1 hx with hx | hx
 ·exact h x hx
 ·simp only [List.mem_singleton] at hx;subst hx;exact ht
end
section
open Go.RowKit At E
theorem Nk (R:Asr):R.Imp (T4 (.slice none 0 0) []):=⟨fun k hk=>by simp [T4,Y0,Value.ownBlock] at hk,fun w _=>World.ownsRow_nil w 0 71 2⟩
theorem Pq:Q1 []:=⟨by simp,fun t h=>by cases h⟩
theorem S2:Wc 0:=by unfold Wc;omega
theorem tyOk_0:Rz ⟨0,mt⟩:=⟨S2,R4⟩
theorem rfOk_0:rfOk rf0:=⟨R4,R4,tyOk_0⟩
theorem Px (t o Rp:Asr) (L:List Asr):(t.and (o.and ((Qa L).and Rp))).Imp (o.and ((Qa (L++[t])).and Rp)) :=
 (Asr.swap t o _).trans (Asr.Imp.right ((Asr.cossa t (Qa L) Rp).trans (Asr.Imp.left (bigA_snoc t L))))
theorem Sz {w:World} {e size n:Nat} {v:Value} {xs:List Value} (h:w.ownsRow 0 e size v n xs):v.oneCell'=true:=by
 obtain ⟨p,l,c,rfl⟩:=Xb h;rfl
def insA (p:Ins × Value):Asr:=T4 p.2 p.1.ref.params
def meH (nm:ByteArray) (st:Bool) (r:Ty) (lo sk:Int) (pv cv hv fv:Value):List Value:=[.string nm,.bool st,pv,.int .i64 r.kind,.string r.cls,.int .i64 lo,.int .i64 sk,cv,hv,fv]
def W0:Value:=.slice none 0 0
end
section
open Go Go.RowKit At E
def txa (n:Int):Int:=IntKind.u8.wrap (IntKind.i64.wrap (97+n.tmod 26))
def txb (d n:Int):Int:=IntKind.u8.wrap (IntKind.i64.wrap (97+(IntKind.i64.wrap (n.tdiv d)).tmod 26))
def textS (n:Int):ByteArray:=⟨#[109]⟩++⟨([txa n,txb 26 n,txb 676 n,txb 17576 n].map fun i=>UInt8.ofNat i.toNat).toArray⟩
theorem foldl_pushI:∀ (ns:List Int) (s:ByteArray),ns.foldl (fun r (n:Int)=>r.push (UInt8.ofNat n.toNat)) s=s++⟨(ns.map fun i=>UInt8.ofNat i.toNat).toArray⟩
 | [],s=>by
  cases s with
  | mk d=>apply ByteArray.ext;rw [ByteArray.data_append];simp
 | b::r,s=>by
  rw [List.foldl_cons,foldl_pushI r];apply ByteArray.ext;rw [ByteArray.data_append,ByteArray.data_append,ByteArray.data_push];simp
theorem Ex_bytesH {P:Program} {n:Nat} {E:Env} {w0:World} {F:List Nat} {H:Hp} {R:Asr} {s d:TypeId} {x:Operand} {e k c b i:Nat} {ns:List Int} (hs:P.underlying s=some (.slice e)) (hu:P.underlying e=some (.int .u8)) (hd:P.underlying d=some .string) (hx:ev E x=some (.slice (some ⟨b,0,none⟩) k c)) (hp:H[i]?=some (b,ns.map (Value.int .u8))) (hk:ns.length=k) :
  Ex P n E w0 F H R (.convert s d x) (.string ⟨(ns.map fun i=>UInt8.ofNat i.toNat).toArray⟩):=⟨fun w hS a ha _ _ _ _ _=>by
 simp only [execOp];rw [ha.eval hx];have h1:=run_convert_bytes_string (P:=P) w s d e (some ⟨b,0,none⟩) k c hs hu hd
 have hl:(loadCells ⟨b,0,none⟩ k).run P w=.ok (ns.map (Value.int .u8)).toArray w:=by
  have:=run_loadCells_list (P:=P) w ⟨b,0,none⟩ (ns.map (Value.int .u8)) (fun j v hj=>by rw [Addr.add_lit,Nat.zero_add,hS.mine (List.mem_of_getElem? hp)];exact hj);rw [List.length_map,hk] at this;exact this
 have h2:=run_bytesToString (P:=P) w ⟨b,0,none⟩ k c _ hl;rw [foldl_pushI] at h2;have e3:(ByteArray.empty++⟨(ns.map fun i=>UInt8.ofNat i.toNat).toArray⟩:ByteArray)=⟨(ns.map fun i=>UInt8.ofNat i.toNat).toArray⟩:=by apply ByteArray.ext;rw [ByteArray.data_append];simp
 rw [e3] at h2;simp [h1,h2]⟩
theorem Nn (n:Int) (w:World):Vc Tryz.prog 52 #[.int .i64 n] w (.string (textS n)):=by
 refine Xf (args:=[.int .i64 n]) Tryz.func52 J Tryz.ntmps52 ?_;refine Zg (Zb (Za J (Zf J) (Ze (Zc (Zg (Zb (Za J (Zd J) (Za J (Ex_rem J J J) (Za J (Qe J J) (Za J (Si (Sj J) (Sj J) J) (Za J (Zd J) (Za J (Sv J J J) (Za J (Ex_rem J J J) (Za J (Qe J J) (Za J (Si (Sj J) (Sj J) J) (Za J (Zd J) (Za J (Sv J J J) (Za J (Ex_rem J J J) (Za J (Qe J J) (Za J (Si (Sj J) (Sj J) J) (Za J (Zd J) (Za J (Sv J J J) (Za J (Ex_rem J J J) (Za J (Qe J J) (Za J (Si (Sj J) (Sj J) J) (Wk J (ts J) (tz J) J J J J J ?_))))))))))))))))))))))))));intro b0 hb0;refine Za J (Ex_bytesH (i:=0) (ns:=[txa n,txb 26 n,txb 676 n,txb 17576 n]) (ta J).sl (Sj J) (Sk J) J J J) (Za J (Ex_addS J J ?_) ?_)
 ·(have h9:(⟨([txa n,txb 26 n,txb 676 n,txb 17576 n].map fun i=>UInt8.ofNat i.toNat).toArray⟩:ByteArray).size=4:=rfl;have h8:(⟨#[109]⟩:ByteArray).size=1:=rfl;omega)
 refine Za J (Zf J) (Ze (Zc (Zr (Z3 J J ?_))));rfl
theorem Xr {w:World} {e size n:Nat} {v:Value} {xs:List Value} (h:w.ownsRow 0 e size v n xs):∃ p c,v=.slice p n c∧(0<n→∃ g,p=some ⟨g,0,none⟩):=by
 rcases h.2 with ⟨rfl,rfl⟩ | ⟨g,cap,cur,rfl,_⟩
 ·exact ⟨_,_,J,fun h=>by omega⟩
 ·exact ⟨_,_,J,fun _=>⟨g,J⟩⟩
theorem quo4 (n:Nat) (h:n≤1099511627776):IntKind.i64.wrap (((n:Nat):Int).tdiv 4)=((n/4:Nat):Int):=by
 rw [Tu _ (by rw [Int.tdiv_eq_ediv_of_nonneg (by omega)];omega),Int.tdiv_eq_ediv_of_nonneg (by omega)];omega
def bkC (vT vI vF vM vH vR vB:Value):List Value:=[vT,vI,vF,vM,vH,vR,vB,W0,W0,W0]
def Nl (q:Nat):List Value:=[.int .i64 (100+(q:Nat)),.string mt]
def N4 (q:Nat):List Value:=[.int .i64 (100+(q:Nat)),.int .i64 0,.string mt,.string mt,W0,.int .i64 0,.string mt]
def Mg (q:Nat):List Value:=[.string (textS (q:Nat)),.bool false,.int .i64 0,.string mt]
def Ny (q:Nat):List Value:=meH (textS (q:Nat)) false ⟨0,mt⟩ 0 0 W0 W0 W0 W0
def N6 (q:Nat):List Value:=[.int .i64 0,.int .i64 0,.int .i64 (100+(q:Nat)),.string mt]
def Ml (q:Nat):List Value:=[.string (textS (q:Nat)),.string mt]
def N9 (q:Nat):List Value:=[.int .i64 (100+(q:Nat)),W0,W0]
structure KpL where
 k:Nat
 l:Value
 v:Value
 us:List Value
def Wl (e:Nat) (mk:Nat→List Value) (v:Value) (vs:List Value):Asr:=(Y0 e 1 v vs.length vs).and (Q7 mk vs)
theorem keepTypes_any (b:Nat) (vT vI vF vM vH vR vB l:Value) (vs xs:List Value) (n:Nat) (h4:vs.length % 4=0) (hb:vs.length≤1099511627776) (hn:n≤2000000) :
  RkP Tryz.prog 81 #[pt b,l] b (bkC vT vI vF vM vH vR vB) ((Y0 71 2 l n xs).and (Wl 69 Nl vT vs))
   (fun v cs' R'=>∃ v' us,us.length=4∧cs'=bkC v' vI vF vM vH vR vB∧R'.Imp (Wl 69 Nl v' (vs++us))):=by
 intro w hs0;obtain ⟨pl,cl,rfl,hpl⟩:=Xr hs0.res.1;obtain ⟨pv,cv,rfl, -⟩:=Xr hs0.res.2.1.1;have hxl:xs.length=n*2:=hs0.res.1.1;replace hpl:Hid _:=hpl;refine Yz (hs0) (args:=[pt b,.slice pl n cl]) Tryz.func81 J Tryz.ntmps81 ?_;refine Zg (Zb (Za J (Zd J) (Za J (Zw J) (Za J (Zh (ff J) J) (Za J (Zh (ff J) J) (Za J (Zj (t1 J) J (Zi 0 J J)) (Za J (Zx (ts J) J) (Za J (Sv J J J) (Za J (Qe J J) ?_)))))))));refine Wt (s:=15) (v':=.int .i64 (100+((vs.length/4:Nat):Int))) J (congrArg (Value.int .i64) (by rw [quo4 _ hb];exact Tu _ (by omega))) ?_;refine Za J (Z8 (tb J) J J) (Yk J (tz J) ?_);intro b1 hb1;refine Z2 (tn J) J J 0 J J J J (Ze (Zc (Zg (Zg (Zb (Za J (Zf J) (Ze (Zc (Zn (W9 (congrArg (fun z=>(Y0 71 2 (.slice pl n cl) n z).and (Wl 69 Nl (.slice pv vs.length cv) vs)) (show xs=rep (Nl (vs.length/4)) 0++xs.drop (0*2) from by simp [rep])) ?_))))))))));refine Yf (Yg (X:=Nat) (fun i=>[(0,pt b),(1,.slice pl n cl),(4,pt b1),(5,iN i)]) _ _ (fun i=>[(b1,Nl (vs.length/4)),(b,bkC (.slice pv vs.length cv) vI vF vM vH vR vB)]) (fun i=>(Y0 71 2 (.slice pl n cl) n (rep (Nl (vs.length/4)) i++xs.drop (i*2))).and (Wl 69 Nl (.slice pv vs.length cv) vs)) (fun i=>i≤n) (fun i=>n - i) (0) (Nat.zero_le _) ?_) ⟨J,J,J,J,trivial⟩;intro i hI;refine Zg (Zg (Zb (Za J (Zd J) (Za J (Zd J) (Za J (Zx (ts J) J) (Za J (Yi J J) (Ze (Zc (Zu J ?_ ?_)))))))))
 ·intro c1;obtain ⟨g,hg⟩:=hpl.out (by omega);subst hg;refine Zo (Zc (Zg (Zn (Zb (Za J (Zd J) (Za J (Zd J) (Za J (Zv (tn J) J 0 J J) (Za J (Yo (ts J) J J ?_) ?_))))))))
  ·omega
  refine Un (tn J) J J J J (by show 0+i*2+2≤n*2;omega) ?_;refine Ze (Zt (Zc (Zb (Za J (Zd J) ?_))));refine Za J (Yn J J ?_) ?_;omega;refine Za J (Zf J) (Ze ?_);refine Z1 (i+1) ?_ (by omega) 0 J (by show (Y0 71 2 _ _ _).and _=(Y0 71 2 _ _ _).and _;rw [Nat.zero_add];exact congrArg (fun z=>(Y0 71 2 (.slice (some ⟨g,0,none⟩) n cl) n z).and (Wl 69 Nl (.slice pv vs.length cv) vs)) (Mz (m:=Nl (vs.length/4)) (by show (i+1)*2≤xs.length;omega)).symm) ⟨rfl,rfl,rfl,rfl,trivial⟩;omega
 ·intro c1;refine Yd (Yc (Z5 (Yb (Zc (Zg (W9 (congrArg (fun z=>(Y0 71 2 (.slice pl n cl) n z).and (Wl 69 Nl (.slice pv vs.length cv) vs)) (show _=rep (Nl (vs.length/4)) n from by rw [show i=n by omega,List.drop_of_length_le (by omega),List.append_nil])) ?_))))));refine Xt (Asr.Imp.left Qu) (Zb (Za J (Zf J) (Ze (Zc (Zn ?_)))));refine W9 (R':=(Ry 71 2 (Nl (vs.length/4)) (.slice pl n cl) (n+0) []).and ((Y0 69 1 (.slice pv vs.length cv) (vs.length+0) (vs++[])).and (Q7 Nl vs))) (by rw [List.append_nil];rfl) ?_;refine Yf (Yg (X:=KpL) (fun x=>[(0,pt b),(1,x.l),(4,pt b1),(6,iN x.k)]) _ _ (fun x=>[(b1,Nl (vs.length/4)),(b,bkC x.v vI vF vM vH vR vB)]) (fun x=>(Ry 71 2 (Nl (vs.length/4)) x.l (n+x.k) x.us).and ((Y0 69 1 x.v (vs.length+x.k) (vs++x.us)).and (Q7 Nl vs))) (fun x=>x.k≤4∧x.us.length=x.k) (fun x=>4 - x.k) (⟨0,.slice pl n cl,.slice pv vs.length cv,[]⟩) (⟨Nat.zero_le _,J⟩) ?_) ⟨J,J,J,J,trivial⟩;intro x hI;obtain ⟨zk,zl,zv,zu⟩:=x;obtain ⟨hk4,hkl⟩:zk≤4∧zu.length=zk:=hI;have hkk0:(KpL.mk zk zl zv zu).k=zk:=rfl;have huu0:(KpL.mk zk zl zv zu).us.length=zu.length:=rfl;refine Zg (Zg (Zb (Za J (Zd J) (Za J (Yi J J) (Ze (Zc (Zu J ?_ ?_)))))))
  ·intro c2;refine Zo (Zc (Zg (Zn (Zg (Th (p:=∃ p n c,zl=.slice p n c) (fun w hs=>Xb hs.res.1.1) ?_)))));rintro ⟨pz,nz,cz,hzl⟩;subst hzl;have hkk:(KpL.mk zk (.slice pz nz cz) zv zu).k=zk:=rfl;refine Xt (Asr.swap _ _ _) (Zb (Za J (Zd J) (Za J (Zd J) (Za J (Zw J) (Za J (Zh (ff J) J) (Za J (Zh (ff J) J) (Za J (Zj (t1 J) J (Zi 1 J J)) (Za J (Zd J) (Wk J (ts J) (tz J) J J J J J ?_)))))))));intro b2 hb2;refine Ww J (ta J) J J (Yl 0 J) J J (by unfold maxLen;omega) (by omega) ?_;intro v1;refine Za J (Zw J) (Za J (Zh (ff J) J) (Za J (Zh (ff J) J) (Xc (p:=∃ p l c,v1=.slice p l c) (fun w hs=>Xb hs.res.1) ?_)));rintro ⟨p3,l3,c3',hv1⟩;subst hv1;refine Yy (t1 J) J J 2 J J J J (Ze (Zc (Zg (Xt (Asr.swap _ _ _) (Zb (Za J (Zd J) (Za J (Zv (tn J) J 1 J J) (Wk J (ts J) (tz J) J J J J J ?_))))))));intro b3 hb3;refine Li J (ta J) J J (Yl (cs:=Nl (vs.length/4)) 0 J) J J (by unfold maxLen;omega) (by omega) ?_;intro v2;refine Za J (Zf J) (Ze (Zc (Zb (Za J (Zd J) (Za J (Zf J) (Ze (Zt (Zc (Zb (Za J (Zd J) ?_))))))))));refine Za J (Yn J J ?_) ?_;omega;refine Za J (Zf J) (Ze ?_);refine Z1 (⟨zk+1,v2,.slice p3 l3 c3',zu++[.slice pz nz cz]⟩) ?_ (⟨by show zk+1≤4;omega,by show (zu++[Value.slice pz nz cz]).length=zk+1;rw [List.length_append,hkl];rfl⟩) 2 rfl (by show (Ry 71 2 (Nl (vs.length/4)) v2 (n+(zk+1)) _).and ((Y0 69 1 _ (vs.length+(zk+1)) (vs++(zu++[Value.slice pz nz cz]))).and _)=_;rw [← List.append_assoc];rfl) ⟨rfl,rfl,rfl,rfl,trivial⟩;show 4 - (zk+1)<4 - zk;omega
  ·intro c2;refine Yd (Yc (Z5 (Yb (Lg ((Asr.swap _ _ _).trans (Asr.Imp.right (Og h4 (by omega)))) (Xa J 1 J ?_)))));exact ⟨zv,zu,by omega,J,by show ((Y0 69 1 zv (vs.length+zk) (vs++zu)).and _).Imp _;unfold Wl;rw [List.length_append,hkl];exact .refl _⟩
end
end Go.Proofs.YtpofmnfkdkmieaaGreat
