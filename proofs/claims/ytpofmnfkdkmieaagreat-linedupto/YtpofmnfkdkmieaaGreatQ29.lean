/- What is proved here: which of a line starts next. -/
import Derived.Test.YtpofmnfkdkmieaaGreatQ28
set_option linter.unusedVariables false
set_option linter.unusedSimpArgs false
namespace Go.Proofs.YtpofmnfkdkmieaaGreat
namespace S
open Go Go.RowKit E
structure NX where
 (c:Nat) (k0 k2 k3 k4 k5 k7 k8 k9 k10:SV)
def NX.cB (x:NX) (f:SV->SV) (sup:SV) (u:Bool):SB:=.cells [f x.k0,sup,f x.k2,f x.k3,f x.k4,f x.k5,Zi (upI u),f x.k7,f x.k8,f x.k9,f x.k10]
def topX (ob:Nat):List (NX × Bool)->Nat
 | []=>ob
 | x::_=>x.1.c
def nxH (f:SV->SV) (ob:Nat):List (NX × Bool)->Ch
 | []=>[(ob,obB)]
 | x::r=>(x.1.c,x.1.cB f (.ptr (topX ob r) 0) x.2)::nxH f ob r
def J7 (n:Nat):List (NX × Bool)->List SB
 | []=>[obB]
 | x::r=>x.1.cB sh (.ptr (n+1) 0) x.2::J7 (n+1) r
def L7 (ob:Nat):List (NX × Bool)->List Nat
 | []=>[ob]
 | x::r=>x.1.c::L7 ob r
section
set_option maxRecDepth 100000
variable {N ob:Nat} {x1 x2 x3 x4 x5 x6 x7 x8:NX}
theorem J6:∀ (l:List (NX × Bool)) (n:Nat),(L7 ob l).length=(J7 n l).length
 | [],n=>rfl
 | x::r,n=>by unfold L7 J7;simp only [List.length_cons,J6 r (n+1)]
theorem Em:∀ (l:List (NX × Bool)) (n:Nat),(J7 n l).length=l.length+1
 | [],n=>rfl
 | x::r,n=>by unfold J7;simp only [List.length_cons,Em r (n+1)]
theorem Yu {l:List (NX × Bool)} {c0 c:Nat} (hl:l.length<=8) (h:outK (R1 6000 (.call 349 [.ptr 0 0] (stOf (J7 0 l)))) (L7 ob l) N=some (.ptr c 0,inH (L7 ob l) N (J7 0 l)))
  (hI:inH (L7 ob l) N (J7 0 l)=nxH (fun y=>ren (rho (L7 ob l) N) (sh y)) ob l) (ha:X3 (rho (L7 ob l) N) [.ptr 0 0]=[.ptr c0 0]) :
  HF Tryz.prog 349 [.ptr c0 0] N (nxH id ob l) fun u _ H'=>u=.ptr c 0/\H'=nxH id ob l:=by
 have hle:=Em l 0;have hlen:=J6 (ob:=ob) l 0;have h1:=Q1 (N:=N) 6000 h hlen (by omega);rw [ha,hI,show (fun y=>ren (rho (L7 ob l) N) (sh y))=id from funext fun y=>X7 (by unfold lim;omega) y] at h1;exact h1
theorem nxt_10:HF Tryz.prog 349 [.ptr x1.c 0] N (nxH id ob [(x1,false)]) fun u _ H'=>u=.ptr x1.c 0/\H'=nxH id ob [(x1,false)] :=
 Yu (Nat.le_of_ble_eq_true rfl) (by as_aux_lemma=>kernel_rfl) (by kernel_rfl) (by kernel_rfl)
theorem nxt_11:HF Tryz.prog 349 [.ptr x1.c 0] N (nxH id ob [(x1,false),(x2,true)]) fun u _ H'=>u=.ptr x1.c 0/\H'=nxH id ob [(x1,false),(x2,true)] :=
 Yu (Nat.le_of_ble_eq_true rfl) (by as_aux_lemma=>kernel_rfl) (by kernel_rfl) (by kernel_rfl)
theorem nxt_12:HF Tryz.prog 349 [.ptr x1.c 0] N (nxH id ob [(x1,false),(x2,true),(x3,true)]) fun u _ H'=>u=.ptr x1.c 0/\H'=nxH id ob [(x1,false),(x2,true),(x3,true)] :=
 Yu (Nat.le_of_ble_eq_true rfl) (by as_aux_lemma=>kernel_rfl) (by kernel_rfl) (by kernel_rfl)
theorem nxt_13:HF Tryz.prog 349 [.ptr x1.c 0] N (nxH id ob [(x1,false),(x2,true),(x3,true),(x4,true)]) fun u _ H'=>u=.ptr x1.c 0/\H'=nxH id ob [(x1,false),(x2,true),(x3,true),(x4,true)] :=
 Yu (Nat.le_of_ble_eq_true rfl) (by as_aux_lemma=>kernel_rfl) (by kernel_rfl) (by kernel_rfl)
theorem nxt_14:HF Tryz.prog 349 [.ptr x1.c 0] N (nxH id ob [(x1,false),(x2,true),(x3,true),(x4,true),(x5,true)]) fun u _ H'=>u=.ptr x1.c 0/\H'=nxH id ob [(x1,false),(x2,true),(x3,true),(x4,true),(x5,true)] :=
 Yu (Nat.le_of_ble_eq_true rfl) (by as_aux_lemma=>kernel_rfl) (by kernel_rfl) (by kernel_rfl)
theorem nxt_15:HF Tryz.prog 349 [.ptr x1.c 0] N (nxH id ob [(x1,false),(x2,true),(x3,true),(x4,true),(x5,true),(x6,true)]) fun u _ H'=>u=.ptr x1.c 0/\H'=nxH id ob [(x1,false),(x2,true),(x3,true),(x4,true),(x5,true),(x6,true)] :=
 Yu (Nat.le_of_ble_eq_true rfl) (by as_aux_lemma=>kernel_rfl) (by kernel_rfl) (by kernel_rfl)
theorem nxt_16:HF Tryz.prog 349 [.ptr x1.c 0] N (nxH id ob [(x1,false),(x2,true),(x3,true),(x4,true),(x5,true),(x6,true),(x7,true)]) fun u _ H'=>u=.ptr x1.c 0/\H'=nxH id ob [(x1,false),(x2,true),(x3,true),(x4,true),(x5,true),(x6,true),(x7,true)] :=
 Yu (Nat.le_of_ble_eq_true rfl) (by as_aux_lemma=>kernel_rfl) (by kernel_rfl) (by kernel_rfl)
theorem nxt_17:HF Tryz.prog 349 [.ptr x1.c 0] N (nxH id ob [(x1,false),(x2,true),(x3,true),(x4,true),(x5,true),(x6,true),(x7,true),(x8,true)]) fun u _ H'=>u=.ptr x1.c 0/\H'=nxH id ob [(x1,false),(x2,true),(x3,true),(x4,true),(x5,true),(x6,true),(x7,true),(x8,true)] :=
 Yu (Nat.le_of_ble_eq_true rfl) (by as_aux_lemma=>kernel_rfl) (by kernel_rfl) (by kernel_rfl)
theorem nxt_20:HF Tryz.prog 349 [.ptr x1.c 0] N (nxH id ob [(x1,false),(x2,false)]) fun u _ H'=>u=.ptr x2.c 0/\H'=nxH id ob [(x1,false),(x2,false)] :=
 Yu (Nat.le_of_ble_eq_true rfl) (by as_aux_lemma=>kernel_rfl) (by kernel_rfl) (by kernel_rfl)
theorem nxt_21:HF Tryz.prog 349 [.ptr x1.c 0] N (nxH id ob [(x1,false),(x2,false),(x3,true)]) fun u _ H'=>u=.ptr x2.c 0/\H'=nxH id ob [(x1,false),(x2,false),(x3,true)] :=
 Yu (Nat.le_of_ble_eq_true rfl) (by as_aux_lemma=>kernel_rfl) (by kernel_rfl) (by kernel_rfl)
theorem nxt_22:HF Tryz.prog 349 [.ptr x1.c 0] N (nxH id ob [(x1,false),(x2,false),(x3,true),(x4,true)]) fun u _ H'=>u=.ptr x2.c 0/\H'=nxH id ob [(x1,false),(x2,false),(x3,true),(x4,true)] :=
 Yu (Nat.le_of_ble_eq_true rfl) (by as_aux_lemma=>kernel_rfl) (by kernel_rfl) (by kernel_rfl)
theorem nxt_23:HF Tryz.prog 349 [.ptr x1.c 0] N (nxH id ob [(x1,false),(x2,false),(x3,true),(x4,true),(x5,true)]) fun u _ H'=>u=.ptr x2.c 0/\H'=nxH id ob [(x1,false),(x2,false),(x3,true),(x4,true),(x5,true)] :=
 Yu (Nat.le_of_ble_eq_true rfl) (by as_aux_lemma=>kernel_rfl) (by kernel_rfl) (by kernel_rfl)
theorem nxt_24:HF Tryz.prog 349 [.ptr x1.c 0] N (nxH id ob [(x1,false),(x2,false),(x3,true),(x4,true),(x5,true),(x6,true)]) fun u _ H'=>u=.ptr x2.c 0/\H'=nxH id ob [(x1,false),(x2,false),(x3,true),(x4,true),(x5,true),(x6,true)] :=
 Yu (Nat.le_of_ble_eq_true rfl) (by as_aux_lemma=>kernel_rfl) (by kernel_rfl) (by kernel_rfl)
theorem nxt_25:HF Tryz.prog 349 [.ptr x1.c 0] N (nxH id ob [(x1,false),(x2,false),(x3,true),(x4,true),(x5,true),(x6,true),(x7,true)]) fun u _ H'=>u=.ptr x2.c 0/\H'=nxH id ob [(x1,false),(x2,false),(x3,true),(x4,true),(x5,true),(x6,true),(x7,true)] :=
 Yu (Nat.le_of_ble_eq_true rfl) (by as_aux_lemma=>kernel_rfl) (by kernel_rfl) (by kernel_rfl)
theorem nxt_26:HF Tryz.prog 349 [.ptr x1.c 0] N (nxH id ob [(x1,false),(x2,false),(x3,true),(x4,true),(x5,true),(x6,true),(x7,true),(x8,true)]) fun u _ H'=>u=.ptr x2.c 0/\H'=nxH id ob [(x1,false),(x2,false),(x3,true),(x4,true),(x5,true),(x6,true),(x7,true),(x8,true)] :=
 Yu (Nat.le_of_ble_eq_true rfl) (by as_aux_lemma=>kernel_rfl) (by kernel_rfl) (by kernel_rfl)
theorem nxt_30:HF Tryz.prog 349 [.ptr x1.c 0] N (nxH id ob [(x1,false),(x2,false),(x3,false)]) fun u _ H'=>u=.ptr x3.c 0/\H'=nxH id ob [(x1,false),(x2,false),(x3,false)] :=
 Yu (Nat.le_of_ble_eq_true rfl) (by as_aux_lemma=>kernel_rfl) (by kernel_rfl) (by kernel_rfl)
theorem nxt_31:HF Tryz.prog 349 [.ptr x1.c 0] N (nxH id ob [(x1,false),(x2,false),(x3,false),(x4,true)]) fun u _ H'=>u=.ptr x3.c 0/\H'=nxH id ob [(x1,false),(x2,false),(x3,false),(x4,true)] :=
 Yu (Nat.le_of_ble_eq_true rfl) (by as_aux_lemma=>kernel_rfl) (by kernel_rfl) (by kernel_rfl)
theorem nxt_32:HF Tryz.prog 349 [.ptr x1.c 0] N (nxH id ob [(x1,false),(x2,false),(x3,false),(x4,true),(x5,true)]) fun u _ H'=>u=.ptr x3.c 0/\H'=nxH id ob [(x1,false),(x2,false),(x3,false),(x4,true),(x5,true)] :=
 Yu (Nat.le_of_ble_eq_true rfl) (by as_aux_lemma=>kernel_rfl) (by kernel_rfl) (by kernel_rfl)
theorem nxt_33:HF Tryz.prog 349 [.ptr x1.c 0] N (nxH id ob [(x1,false),(x2,false),(x3,false),(x4,true),(x5,true),(x6,true)]) fun u _ H'=>u=.ptr x3.c 0/\H'=nxH id ob [(x1,false),(x2,false),(x3,false),(x4,true),(x5,true),(x6,true)] :=
 Yu (Nat.le_of_ble_eq_true rfl) (by as_aux_lemma=>kernel_rfl) (by kernel_rfl) (by kernel_rfl)
theorem nxt_34:HF Tryz.prog 349 [.ptr x1.c 0] N (nxH id ob [(x1,false),(x2,false),(x3,false),(x4,true),(x5,true),(x6,true),(x7,true)]) fun u _ H'=>u=.ptr x3.c 0/\H'=nxH id ob [(x1,false),(x2,false),(x3,false),(x4,true),(x5,true),(x6,true),(x7,true)] :=
 Yu (Nat.le_of_ble_eq_true rfl) (by as_aux_lemma=>kernel_rfl) (by kernel_rfl) (by kernel_rfl)
theorem nxt_35:HF Tryz.prog 349 [.ptr x1.c 0] N (nxH id ob [(x1,false),(x2,false),(x3,false),(x4,true),(x5,true),(x6,true),(x7,true),(x8,true)]) fun u _ H'=>u=.ptr x3.c 0/\H'=nxH id ob [(x1,false),(x2,false),(x3,false),(x4,true),(x5,true),(x6,true),(x7,true),(x8,true)] :=
 Yu (Nat.le_of_ble_eq_true rfl) (by as_aux_lemma=>kernel_rfl) (by kernel_rfl) (by kernel_rfl)
theorem nxt_40:HF Tryz.prog 349 [.ptr x1.c 0] N (nxH id ob [(x1,false),(x2,false),(x3,false),(x4,false)]) fun u _ H'=>u=.ptr x4.c 0/\H'=nxH id ob [(x1,false),(x2,false),(x3,false),(x4,false)] :=
 Yu (Nat.le_of_ble_eq_true rfl) (by as_aux_lemma=>kernel_rfl) (by kernel_rfl) (by kernel_rfl)
theorem nxt_41:HF Tryz.prog 349 [.ptr x1.c 0] N (nxH id ob [(x1,false),(x2,false),(x3,false),(x4,false),(x5,true)]) fun u _ H'=>u=.ptr x4.c 0/\H'=nxH id ob [(x1,false),(x2,false),(x3,false),(x4,false),(x5,true)] :=
 Yu (Nat.le_of_ble_eq_true rfl) (by as_aux_lemma=>kernel_rfl) (by kernel_rfl) (by kernel_rfl)
theorem nxt_42:HF Tryz.prog 349 [.ptr x1.c 0] N (nxH id ob [(x1,false),(x2,false),(x3,false),(x4,false),(x5,true),(x6,true)]) fun u _ H'=>u=.ptr x4.c 0/\H'=nxH id ob [(x1,false),(x2,false),(x3,false),(x4,false),(x5,true),(x6,true)] :=
 Yu (Nat.le_of_ble_eq_true rfl) (by as_aux_lemma=>kernel_rfl) (by kernel_rfl) (by kernel_rfl)
theorem nxt_43:HF Tryz.prog 349 [.ptr x1.c 0] N (nxH id ob [(x1,false),(x2,false),(x3,false),(x4,false),(x5,true),(x6,true),(x7,true)]) fun u _ H'=>u=.ptr x4.c 0/\H'=nxH id ob [(x1,false),(x2,false),(x3,false),(x4,false),(x5,true),(x6,true),(x7,true)] :=
 Yu (Nat.le_of_ble_eq_true rfl) (by as_aux_lemma=>kernel_rfl) (by kernel_rfl) (by kernel_rfl)
theorem nxt_44:HF Tryz.prog 349 [.ptr x1.c 0] N (nxH id ob [(x1,false),(x2,false),(x3,false),(x4,false),(x5,true),(x6,true),(x7,true),(x8,true)]) fun u _ H'=>u=.ptr x4.c 0/\H'=nxH id ob [(x1,false),(x2,false),(x3,false),(x4,false),(x5,true),(x6,true),(x7,true),(x8,true)] :=
 Yu (Nat.le_of_ble_eq_true rfl) (by as_aux_lemma=>kernel_rfl) (by kernel_rfl) (by kernel_rfl)
theorem nxt_50:HF Tryz.prog 349 [.ptr x1.c 0] N (nxH id ob [(x1,false),(x2,false),(x3,false),(x4,false),(x5,false)]) fun u _ H'=>u=.ptr x5.c 0/\H'=nxH id ob [(x1,false),(x2,false),(x3,false),(x4,false),(x5,false)] :=
 Yu (Nat.le_of_ble_eq_true rfl) (by as_aux_lemma=>kernel_rfl) (by kernel_rfl) (by kernel_rfl)
theorem nxt_51:HF Tryz.prog 349 [.ptr x1.c 0] N (nxH id ob [(x1,false),(x2,false),(x3,false),(x4,false),(x5,false),(x6,true)]) fun u _ H'=>u=.ptr x5.c 0/\H'=nxH id ob [(x1,false),(x2,false),(x3,false),(x4,false),(x5,false),(x6,true)] :=
 Yu (Nat.le_of_ble_eq_true rfl) (by as_aux_lemma=>kernel_rfl) (by kernel_rfl) (by kernel_rfl)
theorem nxt_52:HF Tryz.prog 349 [.ptr x1.c 0] N (nxH id ob [(x1,false),(x2,false),(x3,false),(x4,false),(x5,false),(x6,true),(x7,true)]) fun u _ H'=>u=.ptr x5.c 0/\H'=nxH id ob [(x1,false),(x2,false),(x3,false),(x4,false),(x5,false),(x6,true),(x7,true)] :=
 Yu (Nat.le_of_ble_eq_true rfl) (by as_aux_lemma=>kernel_rfl) (by kernel_rfl) (by kernel_rfl)
theorem nxt_53:HF Tryz.prog 349 [.ptr x1.c 0] N (nxH id ob [(x1,false),(x2,false),(x3,false),(x4,false),(x5,false),(x6,true),(x7,true),(x8,true)]) fun u _ H'=>u=.ptr x5.c 0/\H'=nxH id ob [(x1,false),(x2,false),(x3,false),(x4,false),(x5,false),(x6,true),(x7,true),(x8,true)] :=
 Yu (Nat.le_of_ble_eq_true rfl) (by as_aux_lemma=>kernel_rfl) (by kernel_rfl) (by kernel_rfl)
theorem nxt_60:HF Tryz.prog 349 [.ptr x1.c 0] N (nxH id ob [(x1,false),(x2,false),(x3,false),(x4,false),(x5,false),(x6,false)]) fun u _ H'=>u=.ptr x6.c 0/\H'=nxH id ob [(x1,false),(x2,false),(x3,false),(x4,false),(x5,false),(x6,false)] :=
 Yu (Nat.le_of_ble_eq_true rfl) (by as_aux_lemma=>kernel_rfl) (by kernel_rfl) (by kernel_rfl)
theorem nxt_61:HF Tryz.prog 349 [.ptr x1.c 0] N (nxH id ob [(x1,false),(x2,false),(x3,false),(x4,false),(x5,false),(x6,false),(x7,true)]) fun u _ H'=>u=.ptr x6.c 0/\H'=nxH id ob [(x1,false),(x2,false),(x3,false),(x4,false),(x5,false),(x6,false),(x7,true)] :=
 Yu (Nat.le_of_ble_eq_true rfl) (by as_aux_lemma=>kernel_rfl) (by kernel_rfl) (by kernel_rfl)
theorem nxt_62:HF Tryz.prog 349 [.ptr x1.c 0] N (nxH id ob [(x1,false),(x2,false),(x3,false),(x4,false),(x5,false),(x6,false),(x7,true),(x8,true)]) fun u _ H'=>u=.ptr x6.c 0/\H'=nxH id ob [(x1,false),(x2,false),(x3,false),(x4,false),(x5,false),(x6,false),(x7,true),(x8,true)] :=
 Yu (Nat.le_of_ble_eq_true rfl) (by as_aux_lemma=>kernel_rfl) (by kernel_rfl) (by kernel_rfl)
theorem nxt_70:HF Tryz.prog 349 [.ptr x1.c 0] N (nxH id ob [(x1,false),(x2,false),(x3,false),(x4,false),(x5,false),(x6,false),(x7,false)]) fun u _ H'=>u=.ptr x7.c 0/\H'=nxH id ob [(x1,false),(x2,false),(x3,false),(x4,false),(x5,false),(x6,false),(x7,false)] :=
 Yu (Nat.le_of_ble_eq_true rfl) (by as_aux_lemma=>kernel_rfl) (by kernel_rfl) (by kernel_rfl)
theorem nxt_71:HF Tryz.prog 349 [.ptr x1.c 0] N (nxH id ob [(x1,false),(x2,false),(x3,false),(x4,false),(x5,false),(x6,false),(x7,false),(x8,true)]) fun u _ H'=>u=.ptr x7.c 0/\H'=nxH id ob [(x1,false),(x2,false),(x3,false),(x4,false),(x5,false),(x6,false),(x7,false),(x8,true)] :=
 Yu (Nat.le_of_ble_eq_true rfl) (by as_aux_lemma=>kernel_rfl) (by kernel_rfl) (by kernel_rfl)
theorem nxt_80:HF Tryz.prog 349 [.ptr x1.c 0] N (nxH id ob [(x1,false),(x2,false),(x3,false),(x4,false),(x5,false),(x6,false),(x7,false),(x8,false)]) fun u _ H'=>u=.ptr x8.c 0/\H'=nxH id ob [(x1,false),(x2,false),(x3,false),(x4,false),(x5,false),(x6,false),(x7,false),(x8,false)] :=
 Yu (Nat.le_of_ble_eq_true rfl) (by as_aux_lemma=>kernel_rfl) (by kernel_rfl) (by kernel_rfl)
theorem nxt_any:∀ (n m:Nat) (l1 l2:List NX),l1.length=n+1->l2.length=m->n+1+m<=8->∀ (c0 c:Nat),(l1.head?.map NX.c)=some c0->(l1.getLast?.map NX.c)=some c ->
  HF Tryz.prog 349 [.ptr c0 0] N (nxH id ob (l1.map (·,false)++l2.map (·,true))) fun u _ H'=>u=.ptr c 0/\H'=nxH id ob (l1.map (·,false)++l2.map (·,true))
 | 0,0,[_],[],_,_,_,_,_,h1,h2=>by cases h1;cases h2;exact nxt_10
 | 0,1,[_],[_],_,_,_,_,_,h1,h2=>by cases h1;cases h2;exact nxt_11
 | 0,2,[_],[_,_],_,_,_,_,_,h1,h2=>by cases h1;cases h2;exact nxt_12
 | 0,3,[_],[_,_,_],_,_,_,_,_,h1,h2=>by cases h1;cases h2;exact nxt_13
 | 0,4,[_],[_,_,_,_],_,_,_,_,_,h1,h2=>by cases h1;cases h2;exact nxt_14
 | 0,5,[_],[_,_,_,_,_],_,_,_,_,_,h1,h2=>by cases h1;cases h2;exact nxt_15
 | 0,6,[_],[_,_,_,_,_,_],_,_,_,_,_,h1,h2=>by cases h1;cases h2;exact nxt_16
 | 0,7,[_],[_,_,_,_,_,_,_],_,_,_,_,_,h1,h2=>by cases h1;cases h2;exact nxt_17
 | 1,0,[_,_],[],_,_,_,_,_,h1,h2=>by cases h1;cases h2;exact nxt_20
 | 1,1,[_,_],[_],_,_,_,_,_,h1,h2=>by cases h1;cases h2;exact nxt_21
 | 1,2,[_,_],[_,_],_,_,_,_,_,h1,h2=>by cases h1;cases h2;exact nxt_22
 | 1,3,[_,_],[_,_,_],_,_,_,_,_,h1,h2=>by cases h1;cases h2;exact nxt_23
 | 1,4,[_,_],[_,_,_,_],_,_,_,_,_,h1,h2=>by cases h1;cases h2;exact nxt_24
 | 1,5,[_,_],[_,_,_,_,_],_,_,_,_,_,h1,h2=>by cases h1;cases h2;exact nxt_25
 | 1,6,[_,_],[_,_,_,_,_,_],_,_,_,_,_,h1,h2=>by cases h1;cases h2;exact nxt_26
 | 2,0,[_,_,_],[],_,_,_,_,_,h1,h2=>by cases h1;cases h2;exact nxt_30
 | 2,1,[_,_,_],[_],_,_,_,_,_,h1,h2=>by cases h1;cases h2;exact nxt_31
 | 2,2,[_,_,_],[_,_],_,_,_,_,_,h1,h2=>by cases h1;cases h2;exact nxt_32
 | 2,3,[_,_,_],[_,_,_],_,_,_,_,_,h1,h2=>by cases h1;cases h2;exact nxt_33
 | 2,4,[_,_,_],[_,_,_,_],_,_,_,_,_,h1,h2=>by cases h1;cases h2;exact nxt_34
 | 2,5,[_,_,_],[_,_,_,_,_],_,_,_,_,_,h1,h2=>by cases h1;cases h2;exact nxt_35
 | 3,0,[_,_,_,_],[],_,_,_,_,_,h1,h2=>by cases h1;cases h2;exact nxt_40
 | 3,1,[_,_,_,_],[_],_,_,_,_,_,h1,h2=>by cases h1;cases h2;exact nxt_41
 | 3,2,[_,_,_,_],[_,_],_,_,_,_,_,h1,h2=>by cases h1;cases h2;exact nxt_42
 | 3,3,[_,_,_,_],[_,_,_],_,_,_,_,_,h1,h2=>by cases h1;cases h2;exact nxt_43
 | 3,4,[_,_,_,_],[_,_,_,_],_,_,_,_,_,h1,h2=>by cases h1;cases h2;exact nxt_44
 | 4,0,[_,_,_,_,_],[],_,_,_,_,_,h1,h2=>by cases h1;cases h2;exact nxt_50
 | 4,1,[_,_,_,_,_],[_],_,_,_,_,_,h1,h2=>by cases h1;cases h2;exact nxt_51
 | 4,2,[_,_,_,_,_],[_,_],_,_,_,_,_,h1,h2=>by cases h1;cases h2;exact nxt_52
 | 4,3,[_,_,_,_,_],[_,_,_],_,_,_,_,_,h1,h2=>by cases h1;cases h2;exact nxt_53
 | 5,0,[_,_,_,_,_,_],[],_,_,_,_,_,h1,h2=>by cases h1;cases h2;exact nxt_60
 | 5,1,[_,_,_,_,_,_],[_],_,_,_,_,_,h1,h2=>by cases h1;cases h2;exact nxt_61
 | 5,2,[_,_,_,_,_,_],[_,_],_,_,_,_,_,h1,h2=>by cases h1;cases h2;exact nxt_62
 | 6,0,[_,_,_,_,_,_,_],[],_,_,_,_,_,h1,h2=>by cases h1;cases h2;exact nxt_70
 | 6,1,[_,_,_,_,_,_,_],[_],_,_,_,_,_,h1,h2=>by cases h1;cases h2;exact nxt_71
 | 7,0,[_,_,_,_,_,_,_,_],[],_,_,_,_,_,h1,h2=>by cases h1;cases h2;exact nxt_80
 | 0,m+8,_,_,_,_,h,_,_,_,_=>by omega
 | 1,m+7,_,_,_,_,h,_,_,_,_=>by omega
 | 2,m+6,_,_,_,_,h,_,_,_,_=>by omega
 | 3,m+5,_,_,_,_,h,_,_,_,_=>by omega
 | 4,m+4,_,_,_,_,h,_,_,_,_=>by omega
 | 5,m+3,_,_,_,_,h,_,_,_,_=>by omega
 | 6,m+2,_,_,_,_,h,_,_,_,_=>by omega
 | 7,m+1,_,_,_,_,h,_,_,_,_=>by omega
 | n+8,m,_,_,_,_,h,_,_,_,_=>by omega
end
end S
namespace S
open Go Go.RowKit E
section
set_option maxRecDepth 100000
variable {N:Nat} {d:CD} {sup:SV}
theorem plain_t {x:CX}:HF Tryz.prog 315 [.ptr x.c 0,Zs Ws] N [(x.c,CD.cB ⟨x,true⟩ id sup x.mr),(x.mr,.row 329 1 1 [.ptr x.me 0]),(x.me,CD.mB ⟨x,true⟩ id)] fun u _ H'=>u=.ptr x.me 0/\H'=[(x.c,CD.cB ⟨x,true⟩ id sup x.mr),(x.mr,.row 329 1 1 [.ptr x.me 0]),(x.me,CD.mB ⟨x,true⟩ id)]:=by
 have h:=Q1 (N:=N) (f:=315) (bs:=[x.c,x.mr,x.me]) (Bs:=[CD.cB ⟨x,true⟩ sh (sh sup) 1,.row 329 1 1 [.ptr 2 0],CD.mB ⟨x,true⟩ sh]) (args:=[.ptr 0 0,Zs Ws]) (v:=.ptr x.me 0) 3000 (by as_aux_lemma=>kernel_rfl) rfl (Nat.le_of_ble_eq_true rfl);have h2:HF Tryz.prog 315 [.ptr x.c 0,Zs Ws] N [(x.c,CD.cB ⟨x,true⟩ (fun y=>ren (rho [x.c,x.mr,x.me] N) (sh y)) (ren (rho [x.c,x.mr,x.me] N) (sh sup)) x.mr),(x.mr,.row 329 1 1 [.ptr x.me 0]),(x.me,CD.mB ⟨x,true⟩ (fun y=>ren (rho [x.c,x.mr,x.me] N) (sh y)))] (fun u _ H'=>u=.ptr x.me 0/\H'=[(x.c,CD.cB ⟨x,true⟩ (fun y=>ren (rho [x.c,x.mr,x.me] N) (sh y)) (ren (rho [x.c,x.mr,x.me] N) (sh sup)) x.mr),(x.mr,.row 329 1 1 [.ptr x.me 0]),(x.me,CD.mB ⟨x,true⟩ (fun y=>ren (rho [x.c,x.mr,x.me] N) (sh y)))]):=h;rw [Vq (Nat.le_of_ble_eq_true rfl),X7 (by unfold lim;simp)] at h2;exact h2
theorem plain_f {x:CX}:HF Tryz.prog 315 [.ptr x.c 0,Zs Ws] N [(x.c,CD.cB ⟨x,false⟩ id sup 0)] fun u _ H'=>u=Zp/\H'=[(x.c,CD.cB ⟨x,false⟩ id sup 0)]:=by
 have h:=Q1 (N:=N) (f:=315) (bs:=[x.c]) (Bs:=[CD.cB ⟨x,false⟩ sh (sh sup) 0]) (args:=[.ptr 0 0,Zs Ws]) (v:=Zp) 3000 (by as_aux_lemma=>kernel_rfl) rfl (Nat.le_of_ble_eq_true rfl);have h2:HF Tryz.prog 315 [.ptr x.c 0,Zs Ws] N [(x.c,CD.cB ⟨x,false⟩ (fun y=>ren (rho [x.c] N) (sh y)) (ren (rho [x.c] N) (sh sup)) 0)] (fun u _ H'=>u=Zp/\H'=[(x.c,CD.cB ⟨x,false⟩ (fun y=>ren (rho [x.c] N) (sh y)) (ren (rho [x.c] N) (sh sup)) 0)]):=h;rw [Vq (Nat.le_of_ble_eq_true rfl),X7 (by unfold lim;simp)] at h2;exact h2
end
section
set_option maxRecDepth 10000
variable {N mc c sp rf rc rm fr sr mr me cd ev ek un f j:Nat} {dpt:Int} {evs:List SV} {m0 m1 m2 m3 m4 m6 m8 m9 m11 m12 m13 m14 m15 m16:SV}
theorem F4 (hC:∀ N,HF Tryz.prog 18 [.agg [Zs (nmL j),Zs (spL j),.sl rf 0 1 0,.sl rm 0 1 0]] N [(rf,.row 128 4 1 Yk),(rc,Yr j),(rm,Yy rc)] fun u N' H'=>u=okK/\N'=N/\H'=[(rf,.row 128 4 1 Yk),(rc,Yr j),(rm,Yy rc)]):HF Tryz.prog 350 [.ptr mc 0,.ptr c 0] N ([(mc,.cells [m0,m1,m2,m3,m4,Zi dpt,m6,.fn 18 [] [],m8,m9,Zz,m11,m12,m13,m14,m15,m16]),(c,.cells [Zs (nmL j),.ptr sp 0,Zs (nmL j),Zs (spL j),.sl rf 0 1 0,.sl rm 0 1 0,Zi 0,.sl fr 0 1 0,.sl mr 0 1 0,.sl sr 0 1 0,Zz])]++[(rf,.row 128 4 1 Yk),(rc,Yr j),(rm,Yy rc)]) fun u _ H'=>u=Zb true/\H'=[(mc,.cells [m0,m1,m2,m3,m4,Zi dpt,m6,.fn 18 [] [],m8,m9,Zz,m11,m12,m13,m14,m15,m16]),(c,.cells [Zs (nmL j),.ptr sp 0,Zs (nmL j),Zs (spL j),.sl rf 0 1 0,.sl rm 0 1 0,Zi 0,.sl fr 0 1 0,.sl mr 0 1 0,.sl sr 0 1 0,Zz])]++[(rf,.row 128 4 1 Yk),(rc,Yr j),(rm,Yy rc)]:=by
 refine hf1 Tryz.func350 J Tryz.ntmps350 fun _ _ _ _=>?_;refine Zd (Za 1 [] [(4,Zb false)] [] (Z1 ?_))
 refine Y0 [.ptr mc 0,.ptr mc 0,.ptr mc 6,.ptr mc 7,.fn 18 [] [],.ptr c 0,.ptr c 0,.ptr c 2,.agg [Zs (nmL j),Zs (spL j),.sl rf 0 1 0,.sl rm 0 1 0],.tup [Zz,Zi 0,Zi 0,Zi 0],.tup [Zz,Zi 0,Zi 0,Zi 0],Zz,Zi 0,Zi 0,Zi 0,Zz,Zi 0,Zi 0,Zi 0] [9] [(_,_)] [0,1] [(5,Zz),(8,Zi 0)] [] [] Yt
  ⟨fun _ _ _ _ _ _ _ kG=>Z0 [2,3,4] [4,3,2] Zj rfl rfl rfl rfl (hC _) rfl kG,trivial⟩
  trivial rfl ?_
 refine Zr (Z2 (Zd (Za 2 [] [(29,Zb false)] [] (Zg (Z6 J (Ya (Yh (Za 1 [] [(9,Zz)] [] (Z1 (Zd (Za 3 [] [(30,Zz),(31,Zi 0),(32,Zi 0)] [] (Zg (Zv (Yv (Yg ?_)))))))))))))));refine Zd (Za 1 [] [(33,Zb false)] [] (Z1 (Z6 J (Yz (Z8 (Z8 (Xb (z:=.exit _) J (Yi (Yh (Za 10 [3,3] [] [] (Zx (Za 1 [] [(4,Zb true)] [] (Zg (Yc (Z5 [3,4,0,1,2] (.inr J) Zj J (by decide) ?_)))))))))))))));exact ⟨J,J⟩
theorem F5 (hC:∀ N,HF Tryz.prog 18 [.agg [Zs (nmL j),Zs (spL j),.sl rf 0 1 0,Zz]] N [(rf,.row 128 4 1 Yk)] fun u N' H'=>u=okK/\N'=N/\H'=[(rf,.row 128 4 1 Yk)]):HF Tryz.prog 350 [.ptr mc 0,.ptr c 0] N ([(mc,.cells [m0,m1,m2,m3,m4,Zi dpt,m6,.fn 18 [] [],m8,m9,Zz,m11,m12,m13,m14,m15,m16]),(c,.cells [Zs (nmL j),.ptr sp 0,Zs (nmL j),Zs (spL j),.sl rf 0 1 0,Zz,Zi 0,.sl fr 0 1 0,Zz,.sl sr 0 1 0,Zz])]++[(rf,.row 128 4 1 Yk)]) fun u _ H'=>u=Zb true/\H'=[(mc,.cells [m0,m1,m2,m3,m4,Zi dpt,m6,.fn 18 [] [],m8,m9,Zz,m11,m12,m13,m14,m15,m16]),(c,.cells [Zs (nmL j),.ptr sp 0,Zs (nmL j),Zs (spL j),.sl rf 0 1 0,Zz,Zi 0,.sl fr 0 1 0,Zz,.sl sr 0 1 0,Zz])]++[(rf,.row 128 4 1 Yk)]:=by
 refine hf1 Tryz.func350 J Tryz.ntmps350 fun _ _ _ _=>?_;refine Zd (Za 1 [] [(4,Zb false)] [] (Z1 ?_))
 refine Y0 [.ptr mc 0,.ptr mc 0,.ptr mc 6,.ptr mc 7,.fn 18 [] [],.ptr c 0,.ptr c 0,.ptr c 2,.agg [Zs (nmL j),Zs (spL j),.sl rf 0 1 0,Zz],.tup [Zz,Zi 0,Zi 0,Zi 0],.tup [Zz,Zi 0,Zi 0,Zi 0],Zz,Zi 0,Zi 0,Zi 0,Zz,Zi 0,Zi 0,Zi 0] [9] [(_,_)] [0,1] [(5,Zz),(8,Zi 0)] [] [] Yt
  ⟨fun _ _ _ _ _ _ _ kG=>Z0 [2] [2] Zj rfl rfl rfl rfl (hC _) rfl kG,trivial⟩
  trivial rfl ?_
 refine Zr (Z2 (Zd (Za 2 [] [(29,Zb false)] [] (Zg (Z6 J (Ya (Yh (Za 1 [] [(9,Zz)] [] (Z1 (Zd (Za 3 [] [(30,Zz),(31,Zi 0),(32,Zi 0)] [] (Zg (Zv (Yv (Yg ?_)))))))))))))));refine Zd (Za 1 [] [(33,Zb false)] [] (Z1 (Z6 J (Yz (Z8 (Z8 (Xb (z:=.exit _) J (Yi (Yh (Za 10 [1,1] [] [] (Zx (Za 1 [] [(4,Zb true)] [] (Zg (Yc (Z5 [1,2,0] (.inr J) Zj J (by decide) ?_)))))))))))))));exact ⟨J,J⟩
theorem P4 (he:evs.length=ek*3) (hek:ek<=19000):HF Tryz.prog 351 [.ptr mc 0,.ptr c 0] N [(mc,.cells [m0,m1,m2,m3,m4,Zi dpt,m6,.fn 18 [] [],m8,m9,Zz,m11,m12,m13,m14,.sl ev 0 ek 0,m16]),(ev,.row 98 3 ek evs),(c,.cells [Zs (nmL j),.ptr sp 0,Zs (nmL j),Zs (spL j),.sl rf 0 1 0,Zz,Zi 0,.sl fr 0 1 0,Zz,.sl sr 0 1 0,Zz])] fun u _ H'=>∃ ev1,u=Zp/\H'=[(mc,.cells [m0,m1,m2,m3,m4,Zi dpt,m6,.fn 18 [] [],m8,m9,Zz,m11,m12,m13,m14,.sl ev1 0 (ek+1+1) 0,m16]),(ev1,.row 98 3 (ek+1+1) (evs++[Zi 3,Zi 0,Zs (nmL j)]++[Zi 4,Zi 0,Zs (nmL j)])),(c,.cells [Zs (nmL j),.ptr sp 0,Zs (nmL j),Zs (spL j),.sl rf 0 1 0,Zz,Zi 1,.sl fr 0 1 0,Zz,.sl sr 0 1 0,Zz])]:=by
 refine hf1 Tryz.func351 J Tryz.ntmps351 fun _ _ _ _=>?_;refine Zd (Za 1 [] [(4,Zp)] [] (Zx (Zy 4 [2] [] [] N [] [(2,Zc [Zs (nmL j),Zq sp 0,Zs (nmL j),Zs (spL j),Zk rf 0 1 0,Zz,Zi 1,Zk fr 0 1 0,Zz,Zk sr 0 1 0,Zz])] (Zx (Za 5 [2] [(9,Zq mc 0),(13,Zs (nmL j))] [] (Z0 [0,1] [1,0] Zj J J J J (Va he (by omega)) J ?_))))));refine Zx (Za 1 [] [(15,Zq c 0)] [] (Yn [2] [2] Zj J J J J (plain_f (x:=⟨c,0,0,Zs (nmL j),Zs (nmL j),Zs (spL j),.sl rf 0 1 0,Zz,Zi 1,.sl fr 0 1 0,.sl sr 0 1 0,Zz,Zz,Zz⟩) (sup:=.ptr sp 0)) ?_));rintro _ N1 _ ⟨rfl,rfl⟩;refine ⟨_,J,?_⟩;refine Za 1 [] [(5,Zp)] [] (Z1 (Zv (Zd (Za 3 [] [(17,Zb true)] [] (Zg (Yj J (Zd (Za 5 [0] [(20,Zq mc 0),(24,Zs (nmL j))] [] ?_))))))));refine Z0 [1,2] [2,1] Zj J J J J (Va (by simp only [List.length_append,he];show ek*3+3=_;omega) (by omega)) rfl ?_;refine Zx (Za 1 [] [(4,Zp)] [] (Zg (Yc (Wu (Xg (Z5 [0,1,2] (.inr J) Zj J (by decide) ?_))))));exact ⟨_,J,J⟩
theorem Ad {f0 f1 f2 f3 f4 f6 f7 f8 f9 f10 v0:SV} (hv:sOne v0=true):HF Tryz.prog 306 [.ptr mc 0,.ptr me 0,Zz] N [(mc,.cells [m0,m1,m2,m3,m4,Zi dpt,m6,.fn 18 [] [],m8,m9,Zz,.sl un 0 1 0,m12,m13,m14,m15,m16]),(me,.cells [f0,f1,f2,f3,f4,Zi 0,f6,f7,f8,f9,f10]),(un,.row 364 1 1 [v0])] fun u N' H'=>∃ f un1 lo,u=.ptr f 0/\H'=[(mc,.cells [m0,m1,m2,m3,m4,Zi dpt,m6,.fn 18 [] [],m8,m9,Zz,.sl un1 0 2 0,m12,m13,m14,m15,m16]),(me,.cells [f0,f1,f2,f3,f4,Zi 0,f6,f7,f8,f9,f10]),(un1,.row 364 1 2 [v0,.ptr f 0]),(f,.cells [.ptr me 0,Zi 0,Zi 0,lo,Zz,Zp,Zp])]:=by
 refine hf1 Tryz.func306 J Tryz.ntmps306 fun _ _ _ _=>?_;refine Zd (Za 1 [] [(6,Zp)] [] (Zx (Zy 10 [1] [(7,Zq (N+1) 0)] [] (N+2) [((N+1),Zc [Zq me 0,Zi 0,Zi 0,Zk N 0 0 0,Zz,Zp,Zp]),(N,Zw 366 1 0 [])] [] (Zx (Za 6 [0] [] [] (Zx (Zy 7 [2] [(23,Zq mc 0),(27,Zk un 0 1 0),(29,Zk (N+2) 0 1 0)] [] (N+3) [((N+2),Zw 364 1 1 [Zq (N+1) 0])] [] (Uw (i:=5) (i':=0) (e:=364) (sz:=1) (by_:=8) (js:=[1,2,3,4]) (cc:=[v0,Zq (N+1) 0]) _ (by kernel_rfl) (by kernel_rfl) J J J J J J J (by decide) J (by omega) J J (by omega) (by omega) J (J) J ?_))))))));refine Zy 3 [3] [] [] (N+4) [] [(3,Zc [m0,m1,m2,m3,m4,Zi dpt,m6,Zh 18 [] [],m8,m9,Zz,Zk (N+3) 0 2 0,m12,m13,m14,m15,m16])] (Zx (Za 2 [] [(6,Zq (N+1) 0)] [] (Zg (Yc (Z5 [3,4,0,1] (.inr J) Zj J (by decide) ?_)))));exact ⟨_,_,_,J,J⟩
end
end S
namespace S
open Go Go.RowKit E
theorem HF.stay {P:Program} {f:FuncId} {args:List SV} {N:Nat} {H Hc K:Ch} {v:SV} (h:HF P f args N Hc fun u _ H'=>u=v/\H'=Hc) (hp:H.Perm (Hc++K)):HF P f args N H fun u _ H'=>u=v/\H'=H :=
 (h.conv hp).permR fun u N' H1 ⟨H0,⟨h1,h2⟩,h3⟩=>⟨H,(by rw [h2] at h3;exact h3.symm.trans hp.symm),h1,J⟩
section
set_option maxRecDepth 10000
variable {N mc c sp rf rc rm fr sr mr me cd ev ek un f j pc:Nat} {dpt:Int} {evs:List SV} {m0 m1 m2 m3 m4 m6 m8 m9 m11 m12 m13 m14 m15 m16 v0 k0 k1 k2 k3 k4 k5 k7 k8 k9 k10:SV} {U:Ch}
theorem full_no:HF Tryz.prog 305 [.ptr mc 0] N [(mc,.cells [m0,m1,m2,m3,m4,Zi 2,m6,.fn 18 [] [],m8,m9,Zz,.sl un 0 1 0,m12,m13,m14,m15,m16])] fun u N' H'=>u=Zb false/\N'=N/\H'=[(mc,.cells [m0,m1,m2,m3,m4,Zi 2,m6,.fn 18 [] [],m8,m9,Zz,.sl un 0 1 0,m12,m13,m14,m15,m16])]:=by
 refine hf1 Tryz.func305 J Tryz.ntmps305 fun _ _ _ _=>?_;refine Zd (Za 1 [] [(2,Zb false)] [] (Z1 (HC_dq Yt [0,0] [(2,Zb false)] [] (Zr (Yc (Z5 [0] (.inr J) Zj J (by decide) ?_))))));exact ⟨J,J,J⟩
theorem P3 (he:evs.length=ek*3) (hek:ek<=19000) (hv:sOne v0=true):HF Tryz.prog 351 [.ptr mc 0,.ptr c 0] N [(mc,.cells [m0,m1,m2,m3,m4,Zi 2,m6,.fn 18 [] [],m8,m9,Zz,.sl un 0 1 0,m12,m13,m14,.sl ev 0 ek 0,m16]),(ev,.row 98 3 ek evs),(un,.row 364 1 1 [v0]),(c,.cells [Zs (nmL j),.ptr sp 0,Zs (nmL j),Zs (spL j),.sl rf 0 1 0,.sl rm 0 1 0,Zi 0,.sl fr 0 1 0,.sl mr 0 1 0,.sl sr 0 1 0,Zz]),(mr,.row 329 1 1 [.ptr me 0]),(me,.cells [Zs Ws,Zb true,Zz,Zi 0,Ze,Zi 0,Zi 1,.sl rc 0 3 0,Zz,Zz,.sl cd 0 3 0])] fun u _ H'=>∃ ev1 un1 f lo,u=Zp/\H'=[(mc,.cells [m0,m1,m2,m3,m4,Zi 2,m6,.fn 18 [] [],m8,m9,Zz,.sl un1 0 2 0,m12,m13,m14,.sl ev1 0 (ek+1) 0,m16]),(ev1,.row 98 3 (ek+1) (evs++[Zi 3,Zi 0,Zs (nmL j)])),(un1,.row 364 1 2 [v0,.ptr f 0]),(f,.cells [.ptr me 0,Zi 0,Zi 0,lo,Zz,.ptr c 0,Zp]),(c,.cells [Zs (nmL j),.ptr sp 0,Zs (nmL j),Zs (spL j),.sl rf 0 1 0,.sl rm 0 1 0,Zi 1,.sl fr 0 1 0,.sl mr 0 1 0,.sl sr 0 1 0,Zz]),(mr,.row 329 1 1 [.ptr me 0]),(me,.cells [Zs Ws,Zb true,Zz,Zi 0,Ze,Zi 0,Zi 1,.sl rc 0 3 0,Zz,Zz,.sl cd 0 3 0])]:=by
 refine hf1 Tryz.func351 J Tryz.ntmps351 fun _ _ _ _=>?_;refine Zd (Za 1 [] [(4,Zp)] [] (Zx (Zy 4 [3] [] [] N [] [(3,Zc [Zs (nmL j),Zq sp 0,Zs (nmL j),Zs (spL j),Zk rf 0 1 0,Zk rm 0 1 0,Zi 1,Zk fr 0 1 0,Zk mr 0 1 0,Zk sr 0 1 0,Zz])] (Zx (Za 5 [3] [(9,Zq mc 0),(13,Zs (nmL j))] [] (Z0 [0,1] [1,0] Zj J J J J (Va he (by omega)) J ?_))))));refine Zx (Za 1 [] [(15,Zq c 0)] [] (Yn [3,4,5] [5,4,3] Zj J J J J (plain_t (x:=⟨c,mr,me,Zs (nmL j),Zs (nmL j),Zs (spL j),.sl rf 0 1 0,.sl rm 0 1 0,Zi 1,.sl fr 0 1 0,.sl sr 0 1 0,Zz,.sl rc 0 3 0,.sl cd 0 3 0⟩) (sup:=.ptr sp 0)) ?_));rintro _ N1 _ ⟨rfl,rfl⟩;refine ⟨_,J,?_⟩;refine Za 1 [] [(5,Zq me 0)] [] (Z1 (Zv (Zd (Za 3 [] [(17,Zb false)] [] (Zg (Z6 J (Zd (Za 1 [] [(27,Zq mc 0)] [] (Z0 [3] [3] Zj J J J J (full_no) J (Za 1 [] [(26,Zb false)] [] (Zg (Z6 J (Ya (Yb (Yh (Za 2 [] [(34,Zq mc 0),(35,Zq me 0)] [] (Yn [0,3,5] [5,3,0] Zj J J J J (Ad (dpt:=2) hv) ?_)))))))))))))))));rintro _ N2 _ ⟨f,un1,lo,rfl,rfl⟩;refine ⟨_,J,?_⟩;refine Zy 4 [3] [] [] N2 [] [(3,Zc [Zq me 0,Zi 0,Zi 0,lo,Zz,Zq c 0,Zp])] (Zx (Za 1 [] [(4,Zp)] [] (Zg (Yc (Z5 [0,6,2,3,4,5,1] (.inr J) Zj J (by decide) ?_)))));exact ⟨_,un1,f,lo,J,J⟩
theorem A7 (he:evs.length=ek*3) (hek:ek<=19000) (hv:sOne v0=true) (hC:∀ N,HF Tryz.prog 18 [.agg [Zs (nmL j),Zs (spL j),.sl rf 0 1 0,.sl rm 0 1 0]] N [(rf,.row 128 4 1 Yk),(rc,Yr j),(rm,Yy rc)] fun u N' H'=>u=okK/\N'=N/\H'=[(rf,.row 128 4 1 Yk),(rc,Yr j),(rm,Yy rc)]) (hN:∀ N,HF Tryz.prog 349 [.ptr c 0] N ([(c,.cells [Zs (nmL j),.ptr sp 0,Zs (nmL j),Zs (spL j),.sl rf 0 1 0,.sl rm 0 1 0,Zi 0,.sl fr 0 1 0,.sl mr 0 1 0,.sl sr 0 1 0,Zz]),(mr,.row 329 1 1 [.ptr me 0]),(me,.cells [Zs Ws,Zb true,Zz,Zi 0,Ze,Zi 0,Zi 1,.sl rc 0 3 0,Zz,Zz,.sl cd 0 3 0]),(rf,.row 128 4 1 Yk),(rc,Yr j),(rm,Yy rc)]++U) fun u _ H'=>u=.ptr c 0/\H'=([(c,.cells [Zs (nmL j),.ptr sp 0,Zs (nmL j),Zs (spL j),.sl rf 0 1 0,.sl rm 0 1 0,Zi 0,.sl fr 0 1 0,.sl mr 0 1 0,.sl sr 0 1 0,Zz]),(mr,.row 329 1 1 [.ptr me 0]),(me,.cells [Zs Ws,Zb true,Zz,Zi 0,Ze,Zi 0,Zi 1,.sl rc 0 3 0,Zz,Zz,.sl cd 0 3 0]),(rf,.row 128 4 1 Yk),(rc,Yr j),(rm,Yy rc)]++U)):HF Tryz.prog 316 [.ptr mc 0,.ptr c 0] N ([(mc,.cells [m0,m1,m2,m3,m4,Zi 2,m6,.fn 18 [] [],m8,m9,Zz,.sl un 0 1 0,m12,m13,m14,.sl ev 0 ek 0,m16]),(ev,.row 98 3 ek evs),(un,.row 364 1 1 [v0]),(c,.cells [Zs (nmL j),.ptr sp 0,Zs (nmL j),Zs (spL j),.sl rf 0 1 0,.sl rm 0 1 0,Zi 0,.sl fr 0 1 0,.sl mr 0 1 0,.sl sr 0 1 0,Zz]),(mr,.row 329 1 1 [.ptr me 0]),(me,.cells [Zs Ws,Zb true,Zz,Zi 0,Ze,Zi 0,Zi 1,.sl rc 0 3 0,Zz,Zz,.sl cd 0 3 0]),(rf,.row 128 4 1 Yk),(rc,Yr j),(rm,Yy rc)]++U) fun u _ H'=>∃ ev1 un1 f lo,u=.tup [Zp,Zb false]/\H'=([(mc,.cells [m0,m1,m2,m3,m4,Zi 2,m6,.fn 18 [] [],m8,m9,Zz,.sl un1 0 2 0,m12,m13,m14,.sl ev1 0 (ek+1) 0,m16]),(ev1,.row 98 3 (ek+1) (evs++[Zi 3,Zi 0,Zs (nmL j)])),(un1,.row 364 1 2 [v0,.ptr f 0]),(f,.cells [.ptr me 0,Zi 0,Zi 0,lo,Zz,.ptr c 0,Zp]),(c,.cells [Zs (nmL j),.ptr sp 0,Zs (nmL j),Zs (spL j),.sl rf 0 1 0,.sl rm 0 1 0,Zi 1,.sl fr 0 1 0,.sl mr 0 1 0,.sl sr 0 1 0,Zz]),(mr,.row 329 1 1 [.ptr me 0]),(me,.cells [Zs Ws,Zb true,Zz,Zi 0,Ze,Zi 0,Zi 1,.sl rc 0 3 0,Zz,Zz,.sl cd 0 3 0]),(rf,.row 128 4 1 Yk),(rc,Yr j),(rm,Yy rc)]++U):=by
 refine hf1 Tryz.func316 J Tryz.ntmps316 fun _ _ _ _=>?_;refine Zd (Za 2 [] [(4,Zp),(5,Zb false)] [] (Z1 (Zd (Za 5 [3] [(11,Zb false)] [] (Zg (Z6 J (Ya (Yh (Za 1 [] [(12,Zq c 0)] [] (Xo 9 [3,4,5,6,7,8] [0,1,2] Zj J J J J (hN _) ?_))))))))));rintro _ N1 _ ⟨rfl,rfl⟩;refine ⟨_,([(c,Zc [Zs (nmL j),Zq sp 0,Zs (nmL j),Zs (spL j),Zk rf 0 1 0,Zk rm 0 1 0,Zi 0,Zk fr 0 1 0,Zk mr 0 1 0,Zk sr 0 1 0,Zz]),(mr,Zw 329 1 1 [Zq me 0]),(me,Zc [Zs Ws,Zb true,Zz,Zi 0,Ze,Zi 0,Zi 1,Zk rc 0 3 0,Zz,Zz,Zk cd 0 3 0]),(rf,Zw 128 4 1 Yk),(rc,Yr j),(rm,Yy rc),(mc,Zc [m0,m1,m2,m3,m4,Zi 2,m6,Zh 18 [] [],m8,m9,Zz,Zk un 0 1 0,m12,m13,m14,Zk ev 0 ek 0,m16]),(ev,Zw 98 3 ek evs),(un,Zw 364 1 1 [v0])]++U),J,Yo (A:=[(c,.cells [Zs (nmL j),Zq sp 0,Zs (nmL j),Zs (spL j),Zk rf 0 1 0,Zk rm 0 1 0,Zi 0,Zk fr 0 1 0,Zk mr 0 1 0,Zk sr 0 1 0,Zz]),(mr,.row 329 1 1 [Zq me 0]),(me,.cells [Zs Ws,Zb true,Zz,Zi 0,Ze,Zi 0,Zi 1,Zk rc 0 3 0,Zz,Zz,Zk cd 0 3 0]),(rf,.row 128 4 1 Yk),(rc,Yr j),(rm,Yy rc)]) (R:=[(mc,.cells [m0,m1,m2,m3,m4,Zi 2,m6,Zh 18 [] [],m8,m9,Zz,Zk un 0 1 0,m12,m13,m14,Zk ev 0 ek 0,m16]),(ev,.row 98 3 ek evs),(un,.row 364 1 1 [v0])]) (T:=U),?_⟩;refine Za 1 [] [(6,Zq c 0)] [] (Z1 (Zv (Zd (Za 6 [0] [(14,Zb false)] [] (Zg (Z6 J (Zd (Za 2 [] [(23,Zq mc 0),(24,Zq c 0)] [] (Yn [6,0,3,4,5] [6,5,4,3,0] Zj J J J J (F4 (dpt:=2) hC) ?_)))))))));rintro _ N2 _ ⟨rfl,rfl⟩;refine ⟨_,J,?_⟩;refine Za 2 [] [(22,Zb false)] [] (Zg (Z6 J (Ya (Yb (Yh (Za 2 [] [(32,Zq mc 0),(33,Zq c 0)] [] (Yn [0,7,8,1,5,6] [8,7,6,5,1,0] Zj J J J J (P3 he hek hv) ?_)))))));rintro _ N3 _ ⟨ev1,un1,f,lo,rfl,rfl⟩;refine ⟨_,J,?_⟩;refine Za 1 [] [(4,Zp)] [] (Zx (Za 5 [] [(4,Zp),(5,Zb false)] [] (Zg (Yc (Wk 10 [0,1,2,3,4,5,6,7,8,9] (.inr J) Zj J ?_)))));exact ⟨ev1,un1,f,lo,J,J⟩
theorem A6 (he:evs.length=ek*3) (hek:ek<=19000) (hv:sOne v0=true) (hC:∀ N,HF Tryz.prog 18 [.agg [Zs (nmL j),Zs (spL j),.sl rf 0 1 0,.sl rm 0 1 0]] N [(rf,.row 128 4 1 Yk),(rc,Yr j),(rm,Yy rc)] fun u N' H'=>u=okK/\N'=N/\H'=[(rf,.row 128 4 1 Yk),(rc,Yr j),(rm,Yy rc)]) (hN:∀ N,HF Tryz.prog 349 [.ptr pc 0] N ([(pc,.cells [k0,k1,k2,k3,k4,k5,Zi 0,k7,k8,k9,k10]),(c,.cells [Zs (nmL j),.ptr sp 0,Zs (nmL j),Zs (spL j),.sl rf 0 1 0,.sl rm 0 1 0,Zi 0,.sl fr 0 1 0,.sl mr 0 1 0,.sl sr 0 1 0,Zz]),(mr,.row 329 1 1 [.ptr me 0]),(me,.cells [Zs Ws,Zb true,Zz,Zi 0,Ze,Zi 0,Zi 1,.sl rc 0 3 0,Zz,Zz,.sl cd 0 3 0]),(rf,.row 128 4 1 Yk),(rc,Yr j),(rm,Yy rc)]++U) fun u _ H'=>u=.ptr c 0/\H'=([(pc,.cells [k0,k1,k2,k3,k4,k5,Zi 0,k7,k8,k9,k10]),(c,.cells [Zs (nmL j),.ptr sp 0,Zs (nmL j),Zs (spL j),.sl rf 0 1 0,.sl rm 0 1 0,Zi 0,.sl fr 0 1 0,.sl mr 0 1 0,.sl sr 0 1 0,Zz]),(mr,.row 329 1 1 [.ptr me 0]),(me,.cells [Zs Ws,Zb true,Zz,Zi 0,Ze,Zi 0,Zi 1,.sl rc 0 3 0,Zz,Zz,.sl cd 0 3 0]),(rf,.row 128 4 1 Yk),(rc,Yr j),(rm,Yy rc)]++U)):HF Tryz.prog 316 [.ptr mc 0,.ptr pc 0] N ([(mc,.cells [m0,m1,m2,m3,m4,Zi 2,m6,.fn 18 [] [],m8,m9,Zz,.sl un 0 1 0,m12,m13,m14,.sl ev 0 ek 0,m16]),(ev,.row 98 3 ek evs),(un,.row 364 1 1 [v0]),(pc,.cells [k0,k1,k2,k3,k4,k5,Zi 0,k7,k8,k9,k10]),(c,.cells [Zs (nmL j),.ptr sp 0,Zs (nmL j),Zs (spL j),.sl rf 0 1 0,.sl rm 0 1 0,Zi 0,.sl fr 0 1 0,.sl mr 0 1 0,.sl sr 0 1 0,Zz]),(mr,.row 329 1 1 [.ptr me 0]),(me,.cells [Zs Ws,Zb true,Zz,Zi 0,Ze,Zi 0,Zi 1,.sl rc 0 3 0,Zz,Zz,.sl cd 0 3 0]),(rf,.row 128 4 1 Yk),(rc,Yr j),(rm,Yy rc)]++U) fun u _ H'=>∃ ev1 un1 f lo,u=.tup [Zp,Zb false]/\H'=([(mc,.cells [m0,m1,m2,m3,m4,Zi 2,m6,.fn 18 [] [],m8,m9,Zz,.sl un1 0 2 0,m12,m13,m14,.sl ev1 0 (ek+1) 0,m16]),(ev1,.row 98 3 (ek+1) (evs++[Zi 3,Zi 0,Zs (nmL j)])),(un1,.row 364 1 2 [v0,.ptr f 0]),(f,.cells [.ptr me 0,Zi 0,Zi 0,lo,Zz,.ptr c 0,Zp]),(pc,.cells [k0,k1,k2,k3,k4,k5,Zi 0,k7,k8,k9,k10]),(c,.cells [Zs (nmL j),.ptr sp 0,Zs (nmL j),Zs (spL j),.sl rf 0 1 0,.sl rm 0 1 0,Zi 1,.sl fr 0 1 0,.sl mr 0 1 0,.sl sr 0 1 0,Zz]),(mr,.row 329 1 1 [.ptr me 0]),(me,.cells [Zs Ws,Zb true,Zz,Zi 0,Ze,Zi 0,Zi 1,.sl rc 0 3 0,Zz,Zz,.sl cd 0 3 0]),(rf,.row 128 4 1 Yk),(rc,Yr j),(rm,Yy rc)]++U):=by
 refine hf1 Tryz.func316 J Tryz.ntmps316 fun _ _ _ _=>?_;refine Zd (Za 2 [] [(4,Zp),(5,Zb false)] [] (Z1 (Zd (Za 5 [3] [(11,Zb false)] [] (Zg (Z6 J (Ya (Yh (Za 1 [] [(12,Zq pc 0)] [] (Xo 10 [3,4,5,6,7,8,9] [0,1,2] Zj J J J J (hN _) ?_))))))))));rintro _ N1 _ ⟨rfl,rfl⟩;refine ⟨_,([(pc,Zc [k0,k1,k2,k3,k4,k5,Zi 0,k7,k8,k9,k10]),(c,Zc [Zs (nmL j),Zq sp 0,Zs (nmL j),Zs (spL j),Zk rf 0 1 0,Zk rm 0 1 0,Zi 0,Zk fr 0 1 0,Zk mr 0 1 0,Zk sr 0 1 0,Zz]),(mr,Zw 329 1 1 [Zq me 0]),(me,Zc [Zs Ws,Zb true,Zz,Zi 0,Ze,Zi 0,Zi 1,Zk rc 0 3 0,Zz,Zz,Zk cd 0 3 0]),(rf,Zw 128 4 1 Yk),(rc,Yr j),(rm,Yy rc),(mc,Zc [m0,m1,m2,m3,m4,Zi 2,m6,Zh 18 [] [],m8,m9,Zz,Zk un 0 1 0,m12,m13,m14,Zk ev 0 ek 0,m16]),(ev,Zw 98 3 ek evs),(un,Zw 364 1 1 [v0])]++U),J,Yo (A:=[(pc,.cells [k0,k1,k2,k3,k4,k5,Zi 0,k7,k8,k9,k10]),(c,.cells [Zs (nmL j),Zq sp 0,Zs (nmL j),Zs (spL j),Zk rf 0 1 0,Zk rm 0 1 0,Zi 0,Zk fr 0 1 0,Zk mr 0 1 0,Zk sr 0 1 0,Zz]),(mr,.row 329 1 1 [Zq me 0]),(me,.cells [Zs Ws,Zb true,Zz,Zi 0,Ze,Zi 0,Zi 1,Zk rc 0 3 0,Zz,Zz,Zk cd 0 3 0]),(rf,.row 128 4 1 Yk),(rc,Yr j),(rm,Yy rc)]) (R:=[(mc,.cells [m0,m1,m2,m3,m4,Zi 2,m6,Zh 18 [] [],m8,m9,Zz,Zk un 0 1 0,m12,m13,m14,Zk ev 0 ek 0,m16]),(ev,.row 98 3 ek evs),(un,.row 364 1 1 [v0])]) (T:=U),?_⟩;refine Za 1 [] [(6,Zq c 0)] [] (Z1 (Zv (Zd (Za 6 [1] [(14,Zb false)] [] (Zg (Z6 J (Zd (Za 2 [] [(23,Zq mc 0),(24,Zq c 0)] [] (Yn [7,1,4,5,6] [7,6,5,4,1] Zj J J J J (F4 (dpt:=2) hC) ?_)))))))));rintro _ N2 _ ⟨rfl,rfl⟩;refine ⟨_,J,?_⟩;refine Za 2 [] [(22,Zb false)] [] (Zg (Z6 J (Ya (Yb (Yh (Za 2 [] [(32,Zq mc 0),(33,Zq c 0)] [] (Yn [0,8,9,1,6,7] [9,8,7,6,1,0] Zj J J J J (P3 he hek hv) ?_)))))));rintro _ N3 _ ⟨ev1,un1,f,lo,rfl,rfl⟩;refine ⟨_,J,?_⟩;refine Za 1 [] [(4,Zp)] [] (Zx (Za 5 [] [(4,Zp),(5,Zb false)] [] (Zg (Yc (Wk 11 [0,1,2,3,10,4,5,6,7,8,9] (.inr J) Zj J ?_)))));exact ⟨ev1,un1,f,lo,J,J⟩
theorem Zaa (he:evs.length=ek*3) (hek:ek<=19000) (hv:sOne v0=true) (hC:∀ N,HF Tryz.prog 18 [.agg [Zs (nmL j),Zs (spL j),.sl rf 0 1 0,Zz]] N [(rf,.row 128 4 1 Yk)] fun u N' H'=>u=okK/\N'=N/\H'=[(rf,.row 128 4 1 Yk)]) (hN:∀ N,HF Tryz.prog 349 [.ptr c 0] N ([(c,.cells [Zs (nmL j),.ptr sp 0,Zs (nmL j),Zs (spL j),.sl rf 0 1 0,Zz,Zi 0,.sl fr 0 1 0,Zz,.sl sr 0 1 0,Zz]),(rf,.row 128 4 1 Yk)]++U) fun u _ H'=>u=.ptr c 0/\H'=([(c,.cells [Zs (nmL j),.ptr sp 0,Zs (nmL j),Zs (spL j),.sl rf 0 1 0,Zz,Zi 0,.sl fr 0 1 0,Zz,.sl sr 0 1 0,Zz]),(rf,.row 128 4 1 Yk)]++U)):HF Tryz.prog 316 [.ptr mc 0,.ptr c 0] N ([(mc,.cells [m0,m1,m2,m3,m4,Zi 2,m6,.fn 18 [] [],m8,m9,Zz,.sl un 0 1 0,m12,m13,m14,.sl ev 0 ek 0,m16]),(ev,.row 98 3 ek evs),(un,.row 364 1 1 [v0]),(c,.cells [Zs (nmL j),.ptr sp 0,Zs (nmL j),Zs (spL j),.sl rf 0 1 0,Zz,Zi 0,.sl fr 0 1 0,Zz,.sl sr 0 1 0,Zz]),(rf,.row 128 4 1 Yk)]++U) fun u _ H'=>∃ ev1,u=.tup [Zp,Zb false]/\H'=([(mc,.cells [m0,m1,m2,m3,m4,Zi 2,m6,.fn 18 [] [],m8,m9,Zz,.sl un 0 1 0,m12,m13,m14,.sl ev1 0 (ek+1+1) 0,m16]),(ev1,.row 98 3 (ek+1+1) (evs++[Zi 3,Zi 0,Zs (nmL j)]++[Zi 4,Zi 0,Zs (nmL j)])),(un,.row 364 1 1 [v0]),(c,.cells [Zs (nmL j),.ptr sp 0,Zs (nmL j),Zs (spL j),.sl rf 0 1 0,Zz,Zi 1,.sl fr 0 1 0,Zz,.sl sr 0 1 0,Zz]),(rf,.row 128 4 1 Yk)]++U):=by
 refine hf1 Tryz.func316 J Tryz.ntmps316 fun _ _ _ _=>?_;refine Zd (Za 2 [] [(4,Zp),(5,Zb false)] [] (Z1 (Zd (Za 5 [3] [(11,Zb false)] [] (Zg (Z6 J (Ya (Yh (Za 1 [] [(12,Zq c 0)] [] (Xo 5 [3,4] [0,1,2] Zj J J J J (hN _) ?_))))))))));rintro _ N1 _ ⟨rfl,rfl⟩;refine ⟨_,([(c,Zc [Zs (nmL j),Zq sp 0,Zs (nmL j),Zs (spL j),Zk rf 0 1 0,Zz,Zi 0,Zk fr 0 1 0,Zz,Zk sr 0 1 0,Zz]),(rf,Zw 128 4 1 Yk),(mc,Zc [m0,m1,m2,m3,m4,Zi 2,m6,Zh 18 [] [],m8,m9,Zz,Zk un 0 1 0,m12,m13,m14,Zk ev 0 ek 0,m16]),(ev,Zw 98 3 ek evs),(un,Zw 364 1 1 [v0])]++U),J,Yo (A:=[(c,.cells [Zs (nmL j),Zq sp 0,Zs (nmL j),Zs (spL j),Zk rf 0 1 0,Zz,Zi 0,Zk fr 0 1 0,Zz,Zk sr 0 1 0,Zz]),(rf,.row 128 4 1 Yk)]) (R:=[(mc,.cells [m0,m1,m2,m3,m4,Zi 2,m6,Zh 18 [] [],m8,m9,Zz,Zk un 0 1 0,m12,m13,m14,Zk ev 0 ek 0,m16]),(ev,.row 98 3 ek evs),(un,.row 364 1 1 [v0])]) (T:=U),?_⟩;refine Za 1 [] [(6,Zq c 0)] [] (Z1 (Zv (Zd (Za 6 [0] [(14,Zb false)] [] (Zg (Z6 J (Zd (Za 2 [] [(23,Zq mc 0),(24,Zq c 0)] [] (Yn [2,0,1] [2,1,0] Zj J J J J (F5 (dpt:=2) hC) ?_)))))))));rintro _ N2 _ ⟨rfl,rfl⟩;refine ⟨_,J,?_⟩;refine Za 2 [] [(22,Zb false)] [] (Zg (Z6 J (Ya (Yb (Yh (Za 2 [] [(32,Zq mc 0),(33,Zq c 0)] [] (Yn [0,3,1] [3,1,0] Zj J J J J (P4 (dpt:=2) he hek) ?_)))))));rintro _ N3 _ ⟨ev1,rfl,rfl⟩;refine ⟨_,J,?_⟩;refine Za 1 [] [(4,Zp)] [] (Zx (Za 5 [] [(4,Zp),(5,Zb false)] [] (Zg (Yc (Wk 5 [0,1,4,2,3] (.inr J) Zj J ?_)))));exact ⟨ev1,J,J⟩
theorem A9 (he:evs.length=ek*3) (hek:ek<=19000) (hv:sOne v0=true) (hC:∀ N,HF Tryz.prog 18 [.agg [Zs (nmL j),Zs (spL j),.sl rf 0 1 0,Zz]] N [(rf,.row 128 4 1 Yk)] fun u N' H'=>u=okK/\N'=N/\H'=[(rf,.row 128 4 1 Yk)]) (hN:∀ N,HF Tryz.prog 349 [.ptr pc 0] N ([(pc,.cells [k0,k1,k2,k3,k4,k5,Zi 0,k7,k8,k9,k10]),(c,.cells [Zs (nmL j),.ptr sp 0,Zs (nmL j),Zs (spL j),.sl rf 0 1 0,Zz,Zi 0,.sl fr 0 1 0,Zz,.sl sr 0 1 0,Zz]),(rf,.row 128 4 1 Yk)]++U) fun u _ H'=>u=.ptr c 0/\H'=([(pc,.cells [k0,k1,k2,k3,k4,k5,Zi 0,k7,k8,k9,k10]),(c,.cells [Zs (nmL j),.ptr sp 0,Zs (nmL j),Zs (spL j),.sl rf 0 1 0,Zz,Zi 0,.sl fr 0 1 0,Zz,.sl sr 0 1 0,Zz]),(rf,.row 128 4 1 Yk)]++U)):HF Tryz.prog 316 [.ptr mc 0,.ptr pc 0] N ([(mc,.cells [m0,m1,m2,m3,m4,Zi 2,m6,.fn 18 [] [],m8,m9,Zz,.sl un 0 1 0,m12,m13,m14,.sl ev 0 ek 0,m16]),(ev,.row 98 3 ek evs),(un,.row 364 1 1 [v0]),(pc,.cells [k0,k1,k2,k3,k4,k5,Zi 0,k7,k8,k9,k10]),(c,.cells [Zs (nmL j),.ptr sp 0,Zs (nmL j),Zs (spL j),.sl rf 0 1 0,Zz,Zi 0,.sl fr 0 1 0,Zz,.sl sr 0 1 0,Zz]),(rf,.row 128 4 1 Yk)]++U) fun u _ H'=>∃ ev1,u=.tup [Zp,Zb false]/\H'=([(mc,.cells [m0,m1,m2,m3,m4,Zi 2,m6,.fn 18 [] [],m8,m9,Zz,.sl un 0 1 0,m12,m13,m14,.sl ev1 0 (ek+1+1) 0,m16]),(ev1,.row 98 3 (ek+1+1) (evs++[Zi 3,Zi 0,Zs (nmL j)]++[Zi 4,Zi 0,Zs (nmL j)])),(un,.row 364 1 1 [v0]),(pc,.cells [k0,k1,k2,k3,k4,k5,Zi 0,k7,k8,k9,k10]),(c,.cells [Zs (nmL j),.ptr sp 0,Zs (nmL j),Zs (spL j),.sl rf 0 1 0,Zz,Zi 1,.sl fr 0 1 0,Zz,.sl sr 0 1 0,Zz]),(rf,.row 128 4 1 Yk)]++U):=by
 refine hf1 Tryz.func316 J Tryz.ntmps316 fun _ _ _ _=>?_;refine Zd (Za 2 [] [(4,Zp),(5,Zb false)] [] (Z1 (Zd (Za 5 [3] [(11,Zb false)] [] (Zg (Z6 J (Ya (Yh (Za 1 [] [(12,Zq pc 0)] [] (Xo 6 [3,4,5] [0,1,2] Zj J J J J (hN _) ?_))))))))));rintro _ N1 _ ⟨rfl,rfl⟩;refine ⟨_,([(pc,Zc [k0,k1,k2,k3,k4,k5,Zi 0,k7,k8,k9,k10]),(c,Zc [Zs (nmL j),Zq sp 0,Zs (nmL j),Zs (spL j),Zk rf 0 1 0,Zz,Zi 0,Zk fr 0 1 0,Zz,Zk sr 0 1 0,Zz]),(rf,Zw 128 4 1 Yk),(mc,Zc [m0,m1,m2,m3,m4,Zi 2,m6,Zh 18 [] [],m8,m9,Zz,Zk un 0 1 0,m12,m13,m14,Zk ev 0 ek 0,m16]),(ev,Zw 98 3 ek evs),(un,Zw 364 1 1 [v0])]++U),J,Yo (A:=[(pc,.cells [k0,k1,k2,k3,k4,k5,Zi 0,k7,k8,k9,k10]),(c,.cells [Zs (nmL j),Zq sp 0,Zs (nmL j),Zs (spL j),Zk rf 0 1 0,Zz,Zi 0,Zk fr 0 1 0,Zz,Zk sr 0 1 0,Zz]),(rf,.row 128 4 1 Yk)]) (R:=[(mc,.cells [m0,m1,m2,m3,m4,Zi 2,m6,Zh 18 [] [],m8,m9,Zz,Zk un 0 1 0,m12,m13,m14,Zk ev 0 ek 0,m16]),(ev,.row 98 3 ek evs),(un,.row 364 1 1 [v0])]) (T:=U),?_⟩;refine Za 1 [] [(6,Zq c 0)] [] (Z1 (Zv (Zd (Za 6 [1] [(14,Zb false)] [] (Zg (Z6 J (Zd (Za 2 [] [(23,Zq mc 0),(24,Zq c 0)] [] (Yn [3,1,2] [3,2,1] Zj J J J J (F5 (dpt:=2) hC) ?_)))))))));rintro _ N2 _ ⟨rfl,rfl⟩;refine ⟨_,J,?_⟩;refine Za 2 [] [(22,Zb false)] [] (Zg (Z6 J (Ya (Yb (Yh (Za 2 [] [(32,Zq mc 0),(33,Zq c 0)] [] (Yn [0,4,1] [4,1,0] Zj J J J J (P4 (dpt:=2) he hek) ?_)))))));rintro _ N3 _ ⟨ev1,rfl,rfl⟩;refine ⟨_,J,?_⟩;refine Za 1 [] [(4,Zp)] [] (Zx (Za 5 [] [(4,Zp),(5,Zb false)] [] (Zg (Yc (Wk 6 [0,1,5,4,2,3] (.inr J) Zj J ?_)))));exact ⟨ev1,J,J⟩
end
end S
end Go.Proofs.YtpofmnfkdkmieaaGreat
