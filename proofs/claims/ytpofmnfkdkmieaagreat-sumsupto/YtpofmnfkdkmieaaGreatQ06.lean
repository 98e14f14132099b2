/- What is proved here: the program's writer (package wire) writ -/
import Derived.Test.YtpofmnfkdkmieaaGreatQ04
import Derived.Test.YtpofmnfkdkmieaaGreatQ05
import Derived.Test.YtpofmnfkdkmieaaGreatQ03
import Derived.Laws.MakeOwn
import Derived.Lib.UnsafeStr
import Derived.Lib.BufferWrite
set_option linter.unusedVariables false
set_option linter.unusedSimpArgs false
namespace Go.Proofs.YtpofmnfkdkmieaaGreat
section
open Go.RowKit At E
def dl (s:ByteArray):List UInt8:=s.data.toList
theorem Wd (a b:ByteArray):dl (a++b)=dl a++dl b:=by unfold dl;rw [ByteArray.data_append,Array.toList_append]
theorem Ul (a:ByteArray):(dl a).length=a.size:=Array.length_toList
theorem V4 {w:World} {e size n:Nat} {v:Value} {xs:List Value} (h:w.ownsRow 0 e size v n xs):∃ p l c,v=.slice p l c:=by
 rcases h.2 with ⟨rfl,_⟩ | ⟨g,cap,cur,rfl,_⟩
 ·exact ⟨_,_,_,J⟩
 ·exact ⟨_,_,_,J⟩
section
variable {w0:World} {F:List Nat} {H:Hp} {R:Asr}
theorem Ow {u:World} {b o:Nat} {vs:List Value} (hu:Below u.heap.size u w0) (hF:∀ x ∈ F,u.heap.size<=x) (hb:b<u.heap.size) (h:∀ j v,vs[j]?=some v->u.cell? ⟨b,o+j,none⟩=some v):Row w0 F H R b o vs :=
 Zpv (fun j v hj=>by rw [hu.cell (p:=⟨b,o+j,none⟩) hb];exact h j v hj) (fun hx=>by have:=hF b hx;omega)
end
theorem u8_low (u:Nat):IntKind.u8.wrap (u:Int)=((UInt8.ofNat (u % 256)).toNat:Int):=by
 rw [UInt8.toNat_ofNat',IntKind.wrap_u8];omega
theorem shr8 (u:Nat):((u:Nat):Int).fdiv (2 ^ min (8:Int).toNat IntKind.u64.bits)=((u/256:Nat):Int):=by
 have e:((2:Int) ^ min (8:Int).toNat IntKind.u64.bits)=256:=by decide
 rw [e,Int.fdiv_eq_ediv_of_nonneg _ (by decide)];omega
theorem Ee (U:World) (b:Nat) (s:ByteArray):WrP Tryz.prog 120 #[pt b,.string s] U b (dl s):=by
 intro w v bs h0 hl;rw [Ul] at hl;refine Wy (h0.sat) (args:=[pt b,.string s]) Tryz.func120 J Tryz.ntmps120 ?_;refine Zd (Za J (Zr J) (Za J (Zr J) (Za J (Oj J) (Za J (Zy (ff J) J) (Za J (Z8 (t1 J) J (Z1 0 J J)) (Za J (Zr J) (WL_appS J (ta J) (Np J) J J (by omega) (by omega) ?_)))))));intro v1;refine Za J (Oj J) (Za J (Zy (ff J) J) (Ud (p:=∃ p l c,v1=.slice p l c) (fun w hs=>V4 hs.res.1) ?_));rintro ⟨p1,l1,c1,rfl⟩;refine Px (t1 J) J J 0 J J J J (Zo ?_);refine Ux h0 J (i:=0) J ?_;rfl
theorem Nn (U:World) (b u k:Nat) (hk:k<=8):WrP Tryz.prog 191 #[pt b,.int .u64 (u:Nat),iN k] U b (Qb u k):=by
 intro w v bs h0 hl;rw [Ra] at hl;refine Wy (h0.sat) (args:=[pt b,.int .u64 (u:Nat),iN k]) Tryz.func191 J Tryz.ntmps191 ?_;refine Zt (Zd (Za J (Zr J) (Za J (Zr J) (Zo (Zj (Yy (Py (show wrA v bs=wrA v (bs++Qb u 0) by rw [Qb,List.append_nil]) ?_)))))));refine WC_same (s:=1) (v':=.int .u64 ((u/256 ^ 0:Nat):Int)) J (by rw [Nat.pow_zero,Nat.div_one]) ?_;refine Vb (Vc (X:=Nat × Value) (fun x:Nat × Value=>[(0,pt b),(1,.int .u64 ((u/256 ^ x.1:Nat):Int)),(6,iN k),(7,iN x.1)]) _ _ (fun x:Nat × Value=>[(b,[x.2])]) (fun x:Nat × Value=>wrA x.2 (bs++Qb u x.1)) (fun x:Nat × Value=>x.1<=k) (fun x:Nat × Value=>k - x.1) ((0,v)) (Nat.zero_le _) ?_) ⟨J,J,J,J,trivial⟩;intro x hI;refine Zt (Zd (Za J (Vf J J) (Zo (Zj (Zt (Xc J ?_ ?_))))))
 ·intro c1;have hx:x.1<k:=by omega
  refine Xe (Zj (Zt (Yy (Zt (Zd (Za J (Zr J) (Za J (Zr J) (Za J (Oj J) (Za J (Zy (ff J) J) (Za J (Z8 (t1 J) J (Z1 0 J J)) (Za J (Zr J) (Za J (Oa (P1 J) (P1 J) J) (Ea (s:=15) (v':=Si (UInt8.ofNat (u/256 ^ x.1 % 256))) J (congrArg (Value.int .u8) (u8_low _)) (Cs J (ts J) (tz J) J J J J J ?_))))))))))))));intro b1 hb1;refine WL_appB J (ta J) J J 0 J (by rw [List.length_append,Ra];omega) (by rw [List.length_append,Ra];omega) ?_;intro v1;refine Za J (Oj J) (Za J (Zy (ff J) J) (Ud (p:=∃ p l c,v1=.slice p l c) (fun w hs=>V4 hs.res.1) ?_));rintro ⟨p1,l1,c1,rfl⟩;refine Px (t1 J) J J 1 J J J J (Zo (Zj (Zd (Za J (Zr J) (Za J (Ex_shr J J J) (Za J (Zx J) (Zo (Y3 (Zj (Zd ?_))))))))));refine Za J (Vt J J ?_) ?_;omega;refine Za J (Zr J) (Zo (Q5 (s:=1) (v':=.int .u64 ((u/256 ^ (x.1+1):Nat):Int)) J (congrArg (Value.int .u64) (by rw [shr8,Nat.div_div_eq_div_mul,Nat.pow_succ])) ?_));refine Wh ((x.1+1,.slice p1 l1 c1)) ?_ (hx) 1 J (by show wrA _ _=wrA _ _;rw [B6,<- List.append_assoc]) ⟨rfl,rfl,rfl,rfl,trivial⟩;omega
 ·intro c1;refine Vd (Va (Wo (W9 ?_)));refine Ux h0 J (i:=0) J ?_;rw [show x.1=k by omega]
theorem Vq (U:World) (b:Nat) (x:Int):WrP Tryz.prog 122 #[pt b,.int .i64 x] U b (dl (Wl x 1)):=by
 intro w v bs h0 hl;refine Wy (h0.sat) (args:=[pt b,.int .i64 x]) Tryz.func122 J Tryz.ntmps122 ?_;refine Zd (Za J (Zr J) (Za J (Zr J) (Za J (Oa (P1 J) (P1 J) J) (Ea (s:=6) (v':=.int .u64 (u64 x:Nat)) J (congrArg (Value.int .u64) (I3 x)) (Y2 Zss J J 0 J h0.base h0.F (Nn U b (u64 x) 1 (by omega)) (by exact hl) ?_)))));intro v1;refine Zo ?_;refine Ux h0 J (i:=0) J ?_;rfl
theorem Q6 (U:World) (b:Nat) (x:Int):WrP Tryz.prog 193 #[pt b,.int .i64 x] U b (dl (Wl x 2)):=by
 intro w v bs h0 hl;refine Wy (h0.sat) (args:=[pt b,.int .i64 x]) Tryz.func193 J Tryz.ntmps193 ?_;refine Zd (Za J (Zr J) (Za J (Zr J) (Za J (Oa (P1 J) (P1 J) J) (Ea (s:=6) (v':=.int .u64 (u64 x:Nat)) J (congrArg (Value.int .u64) (I3 x)) (Y2 Zss J J 0 J h0.base h0.F (Nn U b (u64 x) 2 (by omega)) (by exact hl) ?_)))));intro v1;refine Zo ?_;refine Ux h0 J (i:=0) J ?_;rfl
theorem Zcs (U:World) (b:Nat) (x:Int):WrP Tryz.prog 286 #[pt b,.int .i64 x] U b (dl (Wl x 8)):=by
 intro w v bs h0 hl;refine Wy (h0.sat) (args:=[pt b,.int .i64 x]) Tryz.func286 J Tryz.ntmps286 ?_;refine Zd (Za J (Zr J) (Za J (Zr J) (Za J (Oa (P1 J) (P1 J) J) (Ea (s:=6) (v':=.int .u64 (u64 x:Nat)) J (congrArg (Value.int .u64) (I3 x)) (Y2 Zss J J 0 J h0.base h0.F (Nn U b (u64 x) 8 (by omega)) (by exact hl) ?_)))));intro v1;refine Zo ?_;refine Ux h0 J (i:=0) J ?_;rfl
theorem Eg (U:World) (b:Nat) (x:Bool):WrP Tryz.prog 123 #[pt b,.bool x] U b (dl (Kx x)):=by
 intro w v bs h0 hl;rw [Ul,Jf] at hl;refine Wy (h0.sat) (args:=[pt b,.bool x]) Tryz.func123 J Tryz.ntmps123 ?_;refine Zt (Zt (Zd (Za J (Zr J) (Zo (Zj (Iw J ?_ ?_))))))
 ·intro c1;refine Zt (Zd (Za J (Zr J) ?_));refine Y2 O9 J J 0 J h0.base h0.F (Vq U b 1) (by rw [Ul,Xu];exact hl) ?_;intro v1;refine Zo (Zj (Yz (Wa ?_)));refine wr_endr h0 J (i:=0) J ?_;unfold Kx;rw [c1];rfl
 ·intro c1;refine Xe (Zj (Zd (Za J (Zr J) ?_)));refine Y2 O9 J J 0 J h0.base h0.F (Vq U b 0) (by rw [Ul,Xu];exact hl) ?_;intro v2;refine Zo ?_;refine Ux h0 J (i:=0) J ?_;unfold Kx;rw [c1];rfl
theorem Um (U:World) (b:Nat) (s:ByteArray):WrP Tryz.prog 121 #[pt b,.string s] U b (dl (U2 s)):=by
 intro w v bs h0 hl;rw [Ul,Tg] at hl;refine Wy (h0.sat) (args:=[pt b,.string s]) Tryz.func121 J Tryz.ntmps121 ?_;refine Zt (Zd (Za J (Zr J) (Za J (Zr J) (Za J (Mi (Np J) J) ?_))));refine Y2 O9 J J 0 J h0.base h0.F (Vq U b (s.size:Nat)) (by rw [Ul,Xu];omega) ?_;intro v1;refine Zo (Zj (Zd (Za J (Zr J) (Za J (Zr J) ?_))));refine Y2 fn120 J J 0 J h0.base h0.F (Ee U b s) (by rw [List.length_append,Ul,Ul,Xu];omega) ?_;intro v2;refine Zo ?_;refine Ux h0 J (i:=0) J ?_;unfold U2;rw [Wd,List.append_assoc]
theorem On (U:World) (b:Nat) (t:Ty):WrP Tryz.prog 124 #[pt b,.agg (tyV t).toArray] U b (dl (W7 t)):=by
 intro w v bs h0 hl;rw [Ul] at hl;have h3:t.kind=3->W7 t=Wl t.kind 1++U2 t.cls:=fun h=>by unfold W7;rw [if_pos h,h]
 have h4:¬ t.kind=3->W7 t=Wl t.kind 1:=fun h=>by unfold W7;rw [if_neg h]
 have h5:bs.length+1<=4000000:=by
  by_cases h:t.kind=3
  ·rw [h3 h,ByteArray.size_append,Xu] at hl;omega
  ·rw [h4 h,Xu] at hl;omega
 refine Wy (h0.sat) (args:=[pt b,.agg (tyV t).toArray]) Tryz.func124 J Tryz.ntmps124 ?_;refine Zt (Zd (Uu J J ?_));intro b1 hb1;refine Zo (Zj (Zt (Zd (Za J (Zr J) (Za J (Zy (ff J) J) (Za J (Z8 (t1 J) J (Z1 0 J J)) ?_))))));refine Y2 O9 J J 1 J h0.base h0.F (Vq U b t.kind) (by rw [Ul,Xu];exact h5) ?_;intro v1;refine Zo (Zj (Zt (Zd (Za J (Zy (ff J) J) (Za J (Z8 (t1 J) J (Z1 0 J J)) (Za J (Xx J J) (Zo (Zj (Xc J ?_ ?_)))))))))
 ·intro c1;refine Zd (Za J (Zr J) (Za J (Zy (ff J) J) (Za J (Z8 (t1 J) J (Z1 0 J J)) ?_)));refine Y2 Lc J J 1 J h0.base h0.F (Um U b t.cls) (by rw [h3 c1,ByteArray.size_append,Xu] at hl;rw [List.length_append,Ul,Ul,Xu];omega) ?_;intro v2;refine Zo ?_;refine Ux h0 J (i:=1) J ?_;rw [h3 c1,Wd,List.append_assoc]
 ·intro c1;refine Xe ?_;refine Ux h0 J (i:=1) J ?_;rw [h4 c1]
end
namespace At
abbrev Ps (α:Type):=List UInt8->Option (α × List UInt8)
def Ug {α:Type} (x:α):Ps α:=fun s=>some (x,s)
def pNo {α:Type}:Ps α:=fun _=>none
def Y9 {α β:Type} (p:Ps α) (f:α->Ps β):Ps β:=fun s=>match p s with | none=>none | some (x,r)=>f x r
def leN:List UInt8->Nat
 | []=>0
 | b::r=>b.toNat+256*leN r
def toI (n:Nat):Int:=if n<9223372036854775808 then (n:Int) else (n:Int) - 18446744073709551616
def P6 (n:Nat):Ps (List UInt8):=fun s=>if n<=s.length then some (s.take n,s.drop n) else none
def M0 (k:Nat):Ps Nat:=Y9 (P6 k) fun l=>Ug (leN l)
def Qm (k:Nat):Ps Int:=Y9 (M0 k) fun n=>Ug (toI n)
def S9:Ps ByteArray:=Y9 (M0 1) fun n=>Y9 (P6 n) fun l=>Ug ⟨l.toArray⟩
def Dd:Ps Bool:=Y9 (M0 1) fun n=>if 1<n then pNo else Ug (decide (n=1))
def pTy (chk:Bool):Ps Ty:=Y9 (Qm 1) fun k=>if (chk&&decide (5<k))=true then pNo else if k=3 then Y9 S9 fun c=>Ug ⟨k,c⟩ else Ug ⟨k,mt⟩
def O3 {α:Type} (p:Ps α):Nat->Ps (List α)
 | 0=>Ug []
 | n+1=>Y9 p fun x=>Y9 (O3 p n) fun l=>Ug (x::l)
def Tl {α:Type} (lim:Bool) (k most:Nat) (p:Ps α):Ps (List α):=Y9 (M0 k) fun n=>if (lim&&decide (most<n))=true then pNo else O3 p n
def rf0:Rf:=⟨mt,mt,[],⟨0,mt⟩⟩
def Nz (chk lim:Bool) (op:Int):Ps Ins :=
 if X3 op=1 then Y9 (Qm 8) fun n=>Ug ⟨op,n,rf0⟩
 else if X3 op=2 then Y9 (Qm 1) fun n=>Ug ⟨op,n,rf0⟩
 else if X3 op=3 then Y9 (Qm 2) fun n=>Ug ⟨op,n,rf0⟩
 else if X3 op=4 then Y9 S9 fun c=>Ug ⟨op,0,⟨c,mt,[],⟨0,mt⟩⟩⟩
 else if X3 op=5 then Y9 S9 fun c=>Y9 S9 fun n=>Y9 (pTy chk) fun t=>Ug ⟨op,0,⟨c,n,[],t⟩⟩
 else if X3 op=6 then Y9 S9 fun c=>Y9 S9 fun n=>Y9 (Tl lim 1 6 (pTy chk)) fun ps=>Y9 (pTy chk) fun t=>Ug ⟨op,0,⟨c,n,ps,t⟩⟩
 else if (chk&&decide (X3 op = -1))=true then pNo else Ug ⟨op,0,rf0⟩
def Fe (chk lim:Bool):Ps Ins:=Y9 (Qm 1) (Nz chk lim)
theorem Zsf {chk lim:Bool} {op:Int} (h:X3 op=1):Nz chk lim op=Y9 (Qm 8) fun n=>Ug ⟨op,n,rf0⟩:=by unfold Nz;rw [if_pos h]
theorem Zse {chk lim:Bool} {op:Int} (h:X3 op=2):Nz chk lim op=Y9 (Qm 1) fun n=>Ug ⟨op,n,rf0⟩:=by unfold Nz;rw [if_neg (by omega),if_pos h]
theorem Zsd {chk lim:Bool} {op:Int} (h:X3 op=3):Nz chk lim op=Y9 (Qm 2) fun n=>Ug ⟨op,n,rf0⟩:=by unfold Nz;rw [if_neg (by omega),if_neg (by omega),if_pos h]
theorem Zsc {chk lim:Bool} {op:Int} (h:X3 op=4):Nz chk lim op=Y9 S9 fun c=>Ug ⟨op,0,⟨c,mt,[],⟨0,mt⟩⟩⟩:=by unfold Nz;rw [if_neg (by omega),if_neg (by omega),if_neg (by omega),if_pos h]
theorem Zsb {chk lim:Bool} {op:Int} (h:X3 op=5):Nz chk lim op=Y9 S9 fun c=>Y9 S9 fun n=>Y9 (pTy chk) fun t=>Ug ⟨op,0,⟨c,n,[],t⟩⟩:=by
 unfold Nz;rw [if_neg (by omega),if_neg (by omega),if_neg (by omega),if_neg (by omega),if_pos h]
theorem Zsa {chk lim:Bool} {op:Int} (h:X3 op=6):Nz chk lim op=Y9 S9 fun c=>Y9 S9 fun n=>Y9 (Tl lim 1 6 (pTy chk)) fun ps=>Y9 (pTy chk) fun t=>Ug ⟨op,0,⟨c,n,ps,t⟩⟩:=by
 unfold Nz;rw [if_neg (by omega),if_neg (by omega),if_neg (by omega),if_neg (by omega),if_neg (by omega),if_pos h]
theorem Zsg {chk lim:Bool} {op:Int} (h1:¬ X3 op=1) (h2:¬ X3 op=2) (h3:¬ X3 op=3) (h4:¬ X3 op=4) (h5:¬ X3 op=5) (h6:¬ X3 op=6) (h7:chk=true->¬ X3 op = -1):Nz chk lim op=Ug ⟨op,0,rf0⟩:=by
 unfold Nz;rw [if_neg h1,if_neg h2,if_neg h3,if_neg h4,if_neg h5,if_neg h6,if_neg (by intro h;rw [Bool.and_eq_true] at h;exact h7 h.1 (of_decide_eq_true h.2))]
def pHd:Ps Hd:=Y9 (Qm 2) fun a=>Y9 (Qm 2) fun b=>Y9 (Qm 2) fun c=>Y9 S9 fun n=>Ug ⟨a,b,c,n⟩
def pFr (chk lim:Bool):Ps Fr:=Y9 (Qm 2) fun a=>Y9 (Tl lim 1 20 (pTy chk)) fun l=>Y9 (Tl lim 1 20 (pTy chk)) fun s=>Ug ⟨a,l,s⟩
def pFd (chk:Bool):Ps Fld:=Y9 S9 fun n=>Y9 Dd fun b=>Y9 (pTy chk) fun t=>Ug ⟨n,b,t⟩
def pMe (chk lim:Bool):Ps Me:=Y9 S9 fun nm=>Y9 Dd fun st=>Y9 (Tl lim 1 6 (pTy chk)) fun ps=>Y9 (pTy chk) fun r=>Y9 (Qm 1) fun lo=>Y9 (Qm 1) fun sk =>
 Y9 (Tl lim 2 200 (Fe chk lim)) fun cd=>Y9 (Tl lim 1 10 pHd) fun hs=>Y9 (Tl lim 1 60 (pFr chk lim)) fun fs=>Ug ⟨nm,st,ps,r,lo,sk,cd,hs,fs⟩
def pCl (chk lim:Bool):Ps Cl:=Y9 S9 fun n=>Y9 S9 fun s=>Y9 (Tl lim 1 20 (pFd chk)) fun fs=>Y9 (Tl lim 1 20 (pMe chk lim)) fun ms=>Ug ⟨n,s,fs,ms⟩
def Il:List UInt8:=[67,76,65,83]
def Qo (chk lim:Bool) (s:List UInt8):Option Cl:=if s.take 4=Il then (match pCl chk lim (s.drop 4) with | some (c,r)=>if r=[] then some c else none | none=>none) else none
def Uy:Option Cl->Option Cl
 | some c=>if Xg c=true then some c else none
 | none=>none
theorem Z5 {α β:Type} {p:Ps α} {f:α->Ps β} {s r:List UInt8} {y:β}:Y9 p f s=some (y,r)↔∃ x s',p s=some (x,s')/\f x s'=some (y,r):=by
 unfold Y9;cases h:p s with
 | none=>simp
 | some q =>
  obtain ⟨x,s'⟩:=q;refine ⟨fun h=>⟨x,s',J,h⟩,?_⟩;rintro ⟨x1,s1,h1,h2⟩;cases h1;exact h2
end At
section
open Go Go.RowKit At E
theorem Zfk {β:Type} (cell:β->List Value) (k:Nat):∀ (l:List β) (_:∀ x ∈ l,(cell x).length=k) (i j:Nat) (x:β) (u:Value),l[i]?=some x->(cell x)[j]?=some u->(l.flatMap cell)[i*k+j]?=some u
 | [],_,i,_,x,_,hi,_=>by simp at hi
 | y::l,hl,0,j,x,u,hi,hj=>by
  simp at hi;subst hi;rw [List.flatMap_cons,Nat.zero_mul,Nat.zero_add]
  have:j<(cell y).length:=by
   rcases Nat.lt_or_ge j (cell y).length with h | h
   ·exact h
   ·rw [List.getElem?_eq_none h] at hj;cases hj
  rw [List.getElem?_append_left this];exact hj
 | y::l,hl,i+1,j,x,u,hi,hj=>by
  have hy:=hl y List.mem_cons_self;rw [List.flatMap_cons,List.getElem?_append_right (by rw [hy,Nat.add_mul];omega),hy];have e:(i+1)*k+j - k=i*k+j:=by rw [Nat.add_mul];omega
  rw [e];exact Zfk cell k l (fun z hz=>hl z (List.mem_cons_of_mem _ hz)) i j x u (by simpa using hi) hj
theorem ListAt.of_own {α β:Type} {k e:Nat} {El:World->List Value->α->Prop} {w:World} {v:Value} (f:β->α) (cell:β->List Value) (ls:List β) (h:w.ownsRow 0 e k v ls.length (ls.flatMap cell)) (hk:∀ x ∈ ls,(cell x).length=k) (hl:ls.length<=1048576)
  (hEl:∀ x ∈ ls,El w (cell x) (f x)):ListAt k El w v (ls.map f):=by
 rcases h.2 with ⟨rfl,h0⟩ | ⟨g,cap,cur,hv,_,hg,hnc,_⟩
 ·have:ls=[]:=List.eq_nil_of_length_eq_zero h0;subst this;exact ⟨none,0,J,⟨by simp,by simp⟩,fun i x hi=>by simp at hi⟩
 ·refine ⟨some ⟨g,0,none⟩,cap,by rw [List.length_map];exact hv,⟨by rw [List.length_map];exact hl,by rw [List.length_map];exact hnc⟩,fun i x hi=>?_⟩;rw [List.getElem?_map] at hi;cases hy:ls[i]? with
  | none=>rw [hy] at hi;cases hi
  | some y =>
   rw [hy] at hi;cases hi;have hm:=List.mem_of_getElem? hy;refine ⟨g,0,cell y,J,(h.lt g (by rw [hv];rfl)).2,hEl y hm,fun j u hj=>?_⟩;have:=h.cells (g:=g) (by rw [hv];rfl) (i*k+j) u (Zfk cell k ls hk i j y u hy hj);rw [Addr.add_lit] at this;rw [Nat.zero_add];rw [Nat.zero_add] at this;exact this
def Gq (l:List Ty):Prop:=l.length<=1048576/\∀ t ∈ l,Jo t
def tysA (v:Value) (l:List Ty):Asr:=Tz 71 2 v l.length (l.flatMap tyV)
theorem Fu {w:World} {v:Value} {l:List Ty} (h:(tysA v l).A w) (ho:Gq l):Uf w v l:=by
 have:=ListAt.of_own (El:=TyEl) id tyV l h (fun _ _=>rfl) ho.1 (fun t ht=>⟨rfl,ho.2 t ht⟩);rw [List.map_id] at this;exact this
def Fk (p:Ins × Value):List Value:=D5 p.1 p.2
def Zkj (v:Value) (ls:List (Ins × Value)):Asr:=(Tz 75 7 v ls.length (ls.flatMap Fk)).and (P2 (ls.map fun p=>tysA p.2 p.1.ref.params))
def Zrx (ls:List (Ins × Value)):Prop:=ls.length<=1048576/\∀ p ∈ ls,Zkk p.1/\Gq p.1.ref.params
theorem Nj {β:Type} {g:β->Asr} {ls:List β} {w:World} (h:(P2 (ls.map g)).A w):∀ p ∈ ls,(g p).A w:=by
 intro p hp;obtain ⟨k,hk⟩:=List.mem_iff_getElem?.1 hp;exact (A2 (ls.map g) k (g p) (by rw [List.getElem?_map,hk];rfl)).a w h
theorem Zry {w:World} {v:Value} {ls:List (Ins × Value)} (h:(Zkj v ls).A w) (ho:Zrx ls):Gi w v (ls.map (·.1)) :=
 ListAt.of_own (El:=Zaa) (·.1) Fk ls h.1 (fun _ _=>rfl) ho.1 (fun p hp=>⟨p.2,rfl,Fu (Nj h.2.1 p hp) (ho.2 p hp).2,(ho.2 p hp).1⟩)
def hdsA (v:Value) (l:List Hd):Asr:=Tz 169 4 v l.length (l.flatMap hdV)
def hdsOk (l:List Hd):Prop:=l.length<=1048576/\∀ h ∈ l,hdOk h
theorem hdsA_at {w:World} {v:Value} {l:List Hd} (h:(hdsA v l).A w) (ho:hdsOk l):Zgd w v l:=by
 have:=ListAt.of_own (El:=HdEl) id hdV l h (fun _ _=>rfl) ho.1 (fun t ht=>⟨rfl,ho.2 t ht⟩);rw [List.map_id] at this;exact this
def fdsA (v:Value) (l:List Fld):Asr:=Tz 128 4 v l.length (l.flatMap fdV)
def fdsOk (l:List Fld):Prop:=l.length<=1048576/\∀ h ∈ l,fdOk h
theorem fdsA_at {w:World} {v:Value} {l:List Fld} (h:(fdsA v l).A w) (ho:fdsOk l):C3 w v l:=by
 have:=ListAt.of_own (El:=FdEl) id fdV l h (fun _ _=>rfl) ho.1 (fun t ht=>⟨rfl,ho.2 t ht⟩);rw [List.map_id] at this;exact this
def frC (p:Fr × Value × Value):List Value:=frV p.1 p.2.1 p.2.2
def frA (p:Fr × Value × Value):Asr:=(tysA p.2.1 p.1.locals).and (tysA p.2.2 p.1.stack)
def frsA (v:Value) (ls:List (Fr × Value × Value)):Asr:=(Tz 176 3 v ls.length (ls.flatMap frC)).and (P2 (ls.map frA))
def frOk (f:Fr):Prop:=Yu f.pos/\Gq f.locals/\Gq f.stack
def frsOk (ls:List (Fr × Value × Value)):Prop:=ls.length<=1048576/\∀ p ∈ ls,frOk p.1
theorem frsA_at {w:World} {v:Value} {ls:List (Fr × Value × Value)} (h:(frsA v ls).A w) (ho:frsOk ls):Zgi w v (ls.map (·.1)) :=
 ListAt.of_own (El:=FrEl) (·.1) frC ls h.1 (fun _ _=>rfl) ho.1 (fun p hp=>by
  have hb:=Nj h.2.1 p hp;have hk:=ho.2 p hp;exact ⟨p.2.1,p.2.2,J,Fu hb.1 hk.2.1,Fu hb.2.1 hk.2.2,hk.1⟩)
structure MeM where
 pv:Value
 cv:Value
 hv:Value
 fv:Value
 cs:List (Ins × Value)
 fs:List (Fr × Value × Value)
def meC (p:Me × MeM):List Value:=meV p.1 p.2.pv p.2.cv p.2.hv p.2.fv
def meA (p:Me × MeM):Asr:=(tysA p.2.pv p.1.params).and ((Zkj p.2.cv p.2.cs).and ((hdsA p.2.hv p.1.handlers).and (frsA p.2.fv p.2.fs)))
structure MeFit (p:Me × MeM):Prop where
 code:p.2.cs.map (·.1)=p.1.code
 frames:p.2.fs.map (·.1)=p.1.frames
 ok:meOk p.1
 ps:Gq p.1.params
 cs:Zrx p.2.cs
 hs:hdsOk p.1.handlers
 fs:frsOk p.2.fs
theorem meA_at {w:World} {p:Me × MeM} (h:(meA p).A w) (hf:MeFit p):MeParts w p.1 p.2.pv p.2.cv p.2.hv p.2.fv:=by
 refine ⟨Fu h.1 hf.ps,?_,hdsA_at h.2.1.2.1.1 hf.hs,?_,hf.ok⟩
 ·have:=Zry h.2.1.1 hf.cs;rw [hf.code] at this;exact this
 ·have:=frsA_at h.2.1.2.1.2.1 hf.fs;rw [hf.frames] at this;exact this
def mesA (v:Value) (ls:List (Me × MeM)):Asr:=(Tz 134 10 v ls.length (ls.flatMap meC)).and (P2 (ls.map meA))
def Zrj (ls:List (Me × MeM)):Prop:=ls.length<=1048576/\∀ p ∈ ls,MeFit p
theorem mesA_at {w:World} {v:Value} {ls:List (Me × MeM)} (h:(mesA v ls).A w) (ho:Zrj ls):Cu w v (ls.map (·.1)) :=
 ListAt.of_own (El:=MeEl) (·.1) meC ls h.1 (fun _ _=>rfl) ho.1 (fun p hp=>⟨p.2.pv,p.2.cv,p.2.hv,p.2.fv,rfl,meA_at (Nj h.2.1 p hp) (ho.2 p hp)⟩)
structure ClM where
 fv:Value
 mv:Value
 ms:List (Me × MeM)
def clA (c:Cl) (k:ClM):Asr:=(fdsA k.fv c.fields).and (mesA k.mv k.ms)
structure ClFit (c:Cl) (k:ClM):Prop where
 ms:k.ms.map (·.1)=c.methods
 ok:Uq c.name/\Uq c.super
 fs:fdsOk c.fields
 mo:Zrj k.ms
theorem clA_at {w:World} {c:Cl} {k:ClM} (h:(clA c k).A w) (hf:ClFit c k):ClAt w c k.fv k.mv:=by
 refine ⟨fdsA_at h.1 hf.fs,?_,hf.ok⟩;have:=mesA_at h.2.1 hf.mo;rw [hf.ms] at this;exact this
theorem Zhr:∀ l:List UInt8,leN l<256 ^ l.length
 | []=>by simp [leN]
 | b::r=>by
  have:=Zhr r;have hb:=b.toNat_lt;rw [leN,List.length_cons,Nat.pow_succ];omega
theorem Dw:∀ l m:List UInt8,leN (l++m)=leN l+256 ^ l.length*leN m
 | [],m=>by simp [leN]
 | b::r,m=>by
  rw [List.cons_append,leN,leN,Dw r m,List.length_cons,Nat.pow_succ,Nat.mul_add,<- Nat.add_assoc,<- Nat.mul_assoc,Nat.mul_comm 256 (256 ^ r.length)]
theorem Sa {n:Nat} (h:n<9223372036854775808):toI n=(n:Int):=by unfold toI;rw [if_pos h]
theorem Ej {n:Nat} (h:n<18446744073709551616):IntKind.i64.wrap (n:Int)=toI n:=by
 rw [IntWalk.i64_left];unfold wrap64 toI;split<;>omega
theorem toI_ok {n:Nat} (h:n<18446744073709551616):Yu (toI n):=by unfold Yu toI;split<;>omega
theorem K6 {n:Nat} {s l r:List UInt8} (h:P6 n s=some (l,r)):l=s.take n/\r=s.drop n/\n<=s.length:=by
 unfold P6 at h;split at h
 ·cases h;exact ⟨J,J,by assumption⟩
 ·cases h
theorem Zdw {n:Nat} {s:List UInt8} (h:n<=s.length):P6 n s=some (s.take n,s.drop n):=by unfold P6;rw [if_pos h]
theorem Zqn {n:Nat} {s:List UInt8} (h:¬ n<=s.length):P6 n s=none:=by unfold P6;rw [if_neg h]
def U9 {α:Type} (p:Ps α) (xs:List α) (n:Nat):Ps (List α):=Y9 (O3 p n) fun l=>Ug (xs++l)
theorem R7 {α:Type} (p:Ps α) (xs:List α):U9 p xs 0=Ug xs:=by
 funext s;simp [U9,O3,Y9,Ug]
theorem Gv {α β γ:Type} (p:Ps α) (f:α->Ps β) (g:β->Ps γ):Y9 (Y9 p f) g=Y9 p fun x=>Y9 (f x) g:=by
 funext s
 unfold Y9;cases p s with
 | none=>rfl
 | some q=>rfl
theorem Zna {α β:Type} (x:α) (f:α->Ps β):Y9 (Ug x) f=f x:=by funext s;rfl
theorem R8 {α:Type} (p:Ps α) (xs:List α) (n:Nat):U9 p xs (n+1)=Y9 p fun x=>U9 p (xs++[x]) n:=by
 unfold U9;rw [show O3 p (n+1)=Y9 p fun x=>Y9 (O3 p n) fun l=>Ug (x::l) from rfl,Gv];refine congrArg (Y9 p) (funext fun x=>?_);rw [Gv];refine congrArg (Y9 (O3 p n)) (funext fun l=>?_);rw [Zna,List.append_assoc];rfl
theorem Zhj {α:Type} (p:Ps α) (n:Nat):O3 p n=U9 p [] n:=by
 unfold U9;funext s
 simp only [List.nil_append];unfold Y9;cases O3 p n s with
 | none=>rfl
 | some q=>rfl
def V7 {β:Type} (σ0:Option (List UInt8)) (p:Ps β) (σ:Option (List UInt8)) (q:Ps β):Prop:=σ0.bind p=σ.bind q
theorem V7.first {β:Type} (σ:Option (List UInt8)) (p:Ps β):V7 σ p σ p:=rfl
theorem V7.of {β:Type} {σ0 σ:Option (List UInt8)} {P q q':Ps β} (h:V7 σ0 P σ q) (e:q=q'):V7 σ0 P σ q':=e ▸ h
end
section
open Go.RowKit At E
def seg (s:ByteArray) (a n:Nat):List UInt8:=((dl s).drop a).take n
theorem Zdj {s:ByteArray} {a n:Nat}:s.extract a (a+n)=⟨(seg s a n).toArray⟩:=by
 apply ByteArray.ext;rw [ByteArray.data_extract];unfold seg dl;apply Array.ext';simp [Array.toList_extract,List.extract_eq_take_drop]
def repN (k:Nat):Nat->Value->Asr->Prop:=fun n v R'=>v=.int .i64 (toI n)/\n<256 ^ k/\R'=Asr.none
def repS:ByteArray->Value->Asr->Prop:=fun x v R'=>v=.string x/\x.size<=255/\R'=Asr.none
def repB:Bool->Value->Asr->Prop:=fun x v R'=>v=.bool x/\R'=Asr.none
def repI (k:Nat):Int->Value->Asr->Prop:=fun x v R'=>v=.int .i64 x/\Yu x/\(k<=2->0<=x/\x<65536)/\R'=Asr.none
def repT:Ty->Value->Asr->Prop:=fun t v R'=>v=.agg (tyV t).toArray/\Jo t/\R'=Asr.none
theorem Mw:Uq mt:=Nat.zero_le _
theorem U3 {s:ByteArray} (h:s.size<=255):Uq s:=by unfold Uq;omega
theorem L5 {α:Type} {ok:α->Prop} {l:List α} {t:α} (h:∀ x ∈ l,ok x) (ht:ok t):∀ x ∈ l++[t],ok x:=by
 intro x hx;rcases List.mem_append.1 hx with hx | hx
 ·exact h x hx
 ·simp only [List.mem_singleton] at hx;subst hx;exact ht
end
section
open Go.RowKit At E
theorem Oo (R:Asr):R.Imp (tysA (.slice none 0 0) []):=⟨fun k hk=>by simp [tysA,Tz,Value.ownBlock] at hk,fun w _=>World.ownsRow_nil w 0 71 2⟩
theorem Q7:Gq []:=⟨by simp,fun t h=>by cases h⟩
theorem J6:Yu 0:=by unfold Yu;omega
theorem Zox:Jo ⟨0,mt⟩:=⟨J6,Mw⟩
theorem Zat:rfOk rf0:=⟨Mw,Mw,Zox⟩
theorem Q9 (t o Rp:Asr) (L:List Asr):(t.and (o.and ((P2 L).and Rp))).Imp (o.and ((P2 (L++[t])).and Rp)) :=
 (Asr.swap t o _).trans (Asr.Imp.right ((Asr.cossa t (P2 L) Rp).trans (Asr.Imp.left (A3 t L))))
theorem S0 {w:World} {e size n:Nat} {v:Value} {xs:List Value} (h:w.ownsRow 0 e size v n xs):v.oneCell'=true:=by
 obtain ⟨p,l,c,rfl⟩:=V4 h;rfl
def insA (p:Ins × Value):Asr:=tysA p.2 p.1.ref.params
def meH (nm:ByteArray) (st:Bool) (r:Ty) (lo sk:Int) (pv cv hv fv:Value):List Value:=[.string nm,.bool st,pv,.int .i64 r.kind,.string r.cls,.int .i64 lo,.int .i64 sk,cv,hv,fv]
def nilS:Value:=.slice none 0 0
end



namespace E
open Go Go.RowKit
def Fq (b:Nat) (cs:List Value) (e:TypeId):Asr:=⟨[b],fun w=>w.heap[b]?=some (.cells cs.toArray e (0,0)),fun w w' h hk=>by rw [hk b List.mem_cons_self];exact h⟩
section
variable {P:Program} {n:Nat} {E:Env} {w0:World} {F:List Nat} {H:Hp} {R:Asr} {fn:Func} {Z:Ending->World->Prop} {κ:List Kf}
theorem Sat.allocR {w:World} (hs:Sat w0 F H R w) (cs:List Value) (e:TypeId):Sat w0 F H ((Fq w.heap.size cs e).and R) (w.alloc (.cells cs.toArray e)):=by
 have hk:=hs.keep (w':=w.alloc (.cells cs.toArray e)) ((Below.refl _ w).alloc (Nat.le_refl _) _);have hn:(w.alloc (.cells cs.toArray e)).heap[w.heap.size]?=some (.cells cs.toArray e (0,0)):=by show (w.heap.push _)[w.heap.size]?=_;rw [Array.getElem?_push,if_pos rfl]
 refine ⟨hk.low,hk.own,hk.hi,hk.apart,⟨hn,hk.res,?_⟩,?_,?_⟩
 ·intro k h1 h2;simp only [Fq,List.mem_singleton] at h1;have:=(hs.rhi k h2).2;omega
 ·intro k hm;rcases List.mem_append.1 hm with hm | hm
  ·simp only [Fq,List.mem_singleton] at hm;subst hm;exact ⟨.inr hs.low.size,by rcases Nat.lt_or_ge w.heap.size (w.alloc (.cells cs.toArray e)).heap.size with h | h;exact h;rw [Array.getElem?_eq_none h] at hn;cases hn⟩
  ·exact hk.rhi k hm
 ·intro q hq hm;rcases List.mem_append.1 hm with hm | hm
  ·simp only [Fq,List.mem_singleton] at hm;have:=hs.lt hq;omega
  ·exact hk.rapart q hq hm
theorem Sat.turnR {w w':World} {b:Nat} {cs:List Value} {e:TypeId} {R':Asr} (hs:Sat w0 F H ((Fq b cs e).and R) w) (ho:w'.os=w.os/\w'.tape=w.tape/\w'.output=w.output) (hsz:w'.heap.size=w.heap.size) (hne:∀ k,k≠b->w'.heap[k]?=w.heap[k]?)
  (hR:∀ k ∈ R'.S,k ∈ ((Fq b cs e).and R).S) (hA:R.A w'->(∀ k ∈ R.S,k≠b)->R'.A w'):Sat w0 F H R' w':=by
 have hbS:b ∈ ((Fq b cs e).and R).S:=List.mem_append_left _ List.mem_cons_self;have hRb:∀ k ∈ R.S,k≠b:=fun k hk e=>hs.res.2.2 k (by rw [e];exact List.mem_cons_self) hk;refine ⟨⟨ho.1.trans hs.low.os,ho.2.1.trans hs.low.tape,ho.2.2.trans hs.low.output,by rw [hsz];exact hs.low.size,fun k hk hF=>?_⟩,fun q hq=>?_,hs.hi,hs.apart,hA (R.st w w' hs.res.2.1 (fun k hk=>hne k (hRb k hk))) hRb,fun k hk=>?_,fun q hq hk=>hs.rapart q hq (hR _ hk)⟩
 ·rw [hne k (fun e=>(hs.rhi b hbS).1.elim (fun hb=>hF (by rw [e];exact hb)) (fun hb=>by omega))];exact hs.low.block k hk hF
 ·rw [hne _ (fun e=>hs.rapart q hq (by rw [e];exact hbS))];exact hs.own q hq
 ·rw [hsz];exact hs.rhi k (hR k hk)
theorem WL_make {all:Array Oper} {l:List Oper} {d t e:Nat} {x y:Operand} {ty:TypeId} {p:String} {g:Array Edge} {k:Nat} (hd:Nat.blt d n=true) (ht:TA P t e 1 1 (.int .u8 0)) (hx:ev E x=some (iN k)) (hy:ev E y=some (iN k)) (hk:k<=281474976710656)
  (h:∀ b M,M.length=k->WL P n all l ((d,.slice (some ⟨b,0,none⟩) k k)::E) w0 F H ((Fq b M e).and R) fn Z κ):WL P n all (⟨some d,.makeSlice t x y,ty,p,g,none⟩::l) E w0 F H R fn Z κ :=
 ⟨fun w hs a ha=>wpList_plain rfl fun K hK=>by
  obtain ⟨i,hi,hz,hsz,hb⟩:=info_parts ht.inf;have hr:=run_make (P:=P) w t e i (.int .u8 0) ht.sl hi hz .i64 .i64 (k:Int) (k:Int) (by omega) (by omega) (by rw [hb];omega) (by omega)
  have he:(execOp a.eval ⟨some d,.makeSlice t x y,ty,p,g,none⟩).run P w=.ok (.value (.slice (some ⟨w.heap.size,0,none⟩) k k)) (w.alloc (.cells (madeCells (Value.int .u8 0).cells (k*1)).toList.toArray e)):=by
   simp only [execOp];rw [ha.eval hx,ha.eval hy];rw [hsz] at hr;simp only [Int.toNat_natCast] at hr;simp [hr]
  unfold Oper.wp;rw [he];exact hK _ _ ((h w.heap.size (madeCells (Value.int .u8 0).cells (k*1)).toList (by rw [Array.length_toList,size_madeCells,Nat.mul_one])).go (w.alloc _) (hs.allocR _ e) _ (ha.put hd _))⟩
theorem Zuq {all:Array Oper} {l:List Oper} {d t u e b:Nat} {x y:Operand} {ty:TypeId} {p:String} {g:Array Edge} {s:ByteArray} {M:List Value} (hd:Nat.blt d n=true) (ht:TA P t e 1 1 (.int .u8 0)) (hx:ev E x=some (.slice (some ⟨b,0,none⟩) s.size s.size)) (hy:ev E y=some (.string s)) (hM:M.length=s.size)
  (h:WL P n all l ((d,iN s.size)::E) w0 F H ((Fq b (Go.Lib.byteCells s.data.toList) e).and R) fn Z κ):WL P n all (⟨some d,.call ⟨.builtin .copy,#[x,y],#[t,u]⟩,ty,p,g,none⟩::l) E w0 F H ((Fq b M e).and R) fn Z κ :=
 ⟨fun w hs a ha=>wpList_plain rfl fun K hK=>by
  obtain ⟨i',hi,hz,hsz,hb⟩:=info_parts ht.inf;have htt:w.heap[b]?=some (.cells M.toArray e (0,0)):=hs.res.1;have hr:=Go.Lib.run_copy_row_string (P:=P) w t u ty e b 0 s.size s.size s M.toArray e ht.sl (by rw [hi];simp [hsz]) htt (Nat.le_refl _) (by simp [hM])
  have e1:(M.toArray.toList.take 0++Go.Lib.byteCells s.data.toList++M.toArray.toList.drop (0+s.size))=Go.Lib.byteCells s.data.toList:=by
   rw [List.take_zero,List.nil_append,List.drop_of_length_le (by simp [hM]),List.append_nil]
  rw [e1] at hr
  have he:(execOp a.eval ⟨some d,.call ⟨.builtin .copy,#[x,y],#[t,u]⟩,ty,p,g,none⟩).run P w=.ok (.value (iN s.size)) (w.setRow b (Go.Lib.byteCells s.data.toList).toArray):=by
   simp only [execOp,resolve,invoke,builtin];simp [ha.eval hx,ha.eval hy,hr,goInt]
  unfold Oper.wp;rw [he];refine hK _ _ (h.go _ (hs.turnR (w':=w.setRow b (Go.Lib.byteCells s.data.toList).toArray) ⟨J,J,J⟩ (by simp) (fun k hk=>setRow_other w b k _ (fun e=>hk e)) (fun k hk=>hk) (fun hA hb=>⟨setRow_heap w b _ _ e _ htt,hA,fun k h1 h2=>?_⟩)) _ (ha.put hd _));simp only [Fq,List.mem_singleton] at h1;exact hb k h2 h1⟩
theorem Ziv {all:Array Oper} {l:List Oper} {d t it e b:Nat} {x y:Operand} {ty:TypeId} {p:String} {g:Array Edge} {s:ByteArray} (hd:Nat.blt d n=true) (ht:P.underlying t=some (.pointer e)) (hc:P.cellsOf e=1) (hx:ev E x=some (pt b)) (hy:ev E y=some (iN s.size)) (h0:s.size≠0) (h1:s.size<=281474976710656)
  (h:WL P n all l ((d,.string s)::E) w0 F H R fn Z κ):WL P n all (⟨some d,.call ⟨.builtin .unsafeString,#[x,y],#[t,it]⟩,ty,p,g,none⟩::l) E w0 F H ((Fq b (Go.Lib.byteCells s.data.toList) e).and R) fn Z κ :=
 ⟨fun w hs a ha=>wpList_plain rfl fun K hK=>by
  have hg:w.heap[b]?=some (.cells (Go.Lib.byteCells s.data.toList).toArray e (0,0)):=hs.res.1;have hsz:s.data.toList.length=s.size:=Array.length_toList
  have hr:=Go.Lib.run_unsafeString_row (P:=P) w t it ty e ht hc b s.size (by unfold World.shape?;rw [hg];simp [Go.Lib.byteCells_length,hsz]) s.data.toList (fun e=>h0 (by rw [<- hsz,e];rfl)) (by omega) (by omega)
   (fun j v hj=>by
    rw [Addr.add_lit,Nat.zero_add];simp [World.cell?,hg,Go.Lib.byteCells,hj])
  have e2:(⟨s.data.toList.toArray⟩:ByteArray)=s:=by cases s;simp
  rw [e2,hsz] at hr
  have hx':(execOp a.eval ⟨some d,.call ⟨.builtin .unsafeString,#[x,y],#[t,it]⟩,ty,p,g,none⟩).run P w=.ok (.value (.string s)) (w.freeze ⟨b,0,none⟩ s.size):=by
   simp only [execOp,resolve,invoke,builtin];simp [ha.eval hx,ha.eval hy,hr]
  unfold Oper.wp;rw [hx']
  have hne:∀ k,k≠b->(w.freeze ⟨b,0,none⟩ s.size).heap[k]?=w.heap[k]?:=fun k hk=>by
   unfold World.freeze;split
   ·rfl
   ·simp only [Array.getElem?_modify];rw [if_neg (fun e=>hk e.symm)]
  have hsize:(w.freeze ⟨b,0,none⟩ s.size).heap.size=w.heap.size:=by unfold World.freeze;split<;>simp
  have ho:(w.freeze ⟨b,0,none⟩ s.size).os=w.os/\(w.freeze ⟨b,0,none⟩ s.size).tape=w.tape/\(w.freeze ⟨b,0,none⟩ s.size).output=w.output:=by unfold World.freeze;split<;>exact ⟨rfl,rfl,rfl⟩
  exact hK _ _ (h.go _ (hs.turnR ho hsize hne (fun k hk=>List.mem_append_right _ hk) (fun hA _=>hA)) _ (ha.put hd _))⟩
theorem Ex_shl {t t':TypeId} {x y:Operand} {k k':IntKind} {i j:Int} (hx:ev E x=some (.int k i)) (hy:ev E y=some (.int k' j)) (hj:decide (j<0)=false):Ex P n E w0 F H R (.binOp .shl t x y t') (.int k (k.wrap (i*2 ^ min j.toNat k.bits))):=⟨fun w _ a ha _ _ _ _ _=>by
 simp only [execOp];rw [ha.eval hx,ha.eval hy,eqGuard_at_int];simp [binOp,Op.shift,of_decide_eq_false hj]⟩
theorem Ex_or {t t':TypeId} {x y:Operand} {k:IntKind} {i j:Int} (hx:ev E x=some (.int k i)) (hy:ev E y=some (.int k j)):Ex P n E w0 F H R (.binOp .or t x y t') (.int k (k.wrap ((BitVec.ofInt k.bits i ||| BitVec.ofInt k.bits j).toNat:Nat))) :=
 Lp hx hy fun w=>by simp [binOp,Op.intBits]
end
end E
end Go.Proofs.YtpofmnfkdkmieaaGreat
