/- What is proved here: how deep an expression's code lets the s -/
import Derived.Test.YtpofmnfkdkmieaaGreatQ27
import Derived.Test.YtpofmnfkdkmieaaGreatQ30
import Derived.Test.YtpofmnfkdkmieaaGreatQ25
set_option linter.unusedVariables false
set_option linter.unusedSimpArgs false
namespace Go.Proofs.YtpofmnfkdkmieaaGreat
namespace S
open Go Go.RowKit E At
def X4:Xp->Nat
 | .two _ a b=>max (X4 a) (1+X4 b)
 | _=>1
structure DepT (code:List (Nat × Int)) (p n:Nat) (t:Xp):Prop where
 fin:Yq code (p+(Z4 t).length)=n+1
 le:∀ j,j<=(Z4 t).length->Yq code (p+j)<=n+X4 t
 at_:∃ j,j<=(Z4 t).length/\Yq code (p+j)=n+X4 t
 ok:∀ j x,(Z4 t)[j]?=some x->OkAt (p+j) (Yq code (p+j)) x
theorem Ce {code:List (Nat × Int)} {p n:Nat} {t:Xp} {x:Nat × Int} (hc:Z4 t=[x]) (ht:X4 t=1) (hx:code[p]?=some x) (hn:Yq code p=n) (hd:dpS n x=n+1) (hok:OkAt p n x):DepT code p n t:=by
 have h1:Yq code (p+1)=n+1:=by rw [U0 hx,hn,hd]
 refine ⟨by rw [hc];exact h1,fun j hj=>?_,⟨1,by rw [hc];exact Nat.le_refl _,by rw [h1,ht]⟩,fun j y hy=>?_⟩
 ·rw [hc] at hj;have hj':j<=1:=hj;rcases Nat.le_one_iff_eq_zero_or_eq_one.1 hj' with rfl | rfl
  ·rw [Nat.add_zero,hn];omega
  ·rw [h1,ht];omega
 ·rw [hc] at hy;cases j with
  | zero=>cases hy;rw [Nat.add_zero,hn];exact hok
  | succ j=>cases hy
theorem depT (code:List (Nat × Int)):∀ (t:Xp) (p n:Nat),Gd t->Fs code p (Z4 t)->6<=p->Yq code p=n->DepT code p n t
 | .num a,p,n,_,hl,_,hn=>Ce rfl rfl hl.head hn rfl .push
 | .inp,p,n,_,hl,_,hn=>Ce rfl rfl hl.head hn rfl .read
 | .loc j,p,n,ht,hl,hp,hn=>Ce rfl rfl hl.head hn rfl (.load ht hp)
 | .two o a b,p,n,⟨ho,ha,hb⟩,hl,hp,hn=>by
  have ga:=depT code a p n ha hl.left.left hp hn;have gb:=depT code b (p+(Z4 a).length) (n+1) hb hl.left.right (by omega) ga.fin
  have hop:code[p+((Z4 a).length+(Z4 b).length)]?=some (o,0):=by
   have:=hl.right.head;rw [List.length_append] at this;exact this
  have hlen:(Z4 (.two o a b)).length=(Z4 a).length+(Z4 b).length+1:=by simp only [Z4,List.length_append,List.length_cons,List.length_nil]
  have hdp:∀ k,dpS (k+1) (o,0)=k:=fun k=>by rcases ho with rfl | rfl | rfl | rfl<;>rfl
  have hok:∀ q k,OkAt q (k+2) (o,0):=fun q k=>by
   rcases ho with rfl | rfl | rfl | rfl
   ·exact .add (by omega)
   ·exact .sub (by omega)
   ·exact .mul (by omega)
   ·exact .div (by omega)
  have h2:Yq code (p+((Z4 a).length+(Z4 b).length))=n+2:=by rw [<- Nat.add_assoc];exact gb.fin
  have h3:Yq code (p+((Z4 a).length+(Z4 b).length+1))=n+1:=by rw [<- Nat.add_assoc,U0 hop,h2,hdp]
  have hda:X4 a<=X4 (.two o a b):=Nat.le_max_left _ _;have hdb:1+X4 b<=X4 (.two o a b):=Nat.le_max_right _ _;have hbj:∀ j,p+((Z4 a).length+j)=p+(Z4 a).length+j:=fun j=>by omega
  refine ⟨by rw [hlen];exact h3,fun j hj=>?_,?_,fun j x hx=>?_⟩
  ·rw [hlen] at hj;by_cases h:j<=(Z4 a).length
   ·exact Nat.le_trans (ga.le j h) (by omega)
   ·obtain ⟨i,rfl⟩:∃ i,j=(Z4 a).length+i:=⟨j - (Z4 a).length,by omega⟩;by_cases hi:i<=(Z4 b).length
    ·rw [hbj];exact Nat.le_trans (gb.le i hi) (by omega)
    ·have:i=(Z4 b).length+1:=by omega
     subst this;rw [<- Nat.add_assoc (Z4 a).length,h3];omega
  ·rcases Nat.le_total (1+X4 b) (X4 a) with h | h
   ·obtain ⟨j,hj,e⟩:=ga.at_;exact ⟨j,by omega,by rw [e];show _=n+max _ _;rw [Nat.max_eq_left h]⟩
   ·obtain ⟨j,hj,e⟩:=gb.at_;exact ⟨(Z4 a).length+j,by omega,by rw [hbj,e];show _=n+max _ _;rw [Nat.max_eq_right h];omega⟩
  ·have hj:=(List.getElem?_eq_some_iff.1 hx).1;rw [hlen] at hj;have hx':(Z4 a++(Z4 b++[(o,0)]))[j]?=some x:=by rw [<- List.append_assoc];exact hx
   by_cases h:j<(Z4 a).length
   ·rw [List.getElem?_append_left h] at hx';exact ga.ok j x hx'
   ·obtain ⟨i,rfl⟩:∃ i,j=(Z4 a).length+i:=⟨j - (Z4 a).length,by omega⟩;rw [List.getElem?_append_right (by omega),Nat.add_sub_cancel_left] at hx';by_cases hi:i<(Z4 b).length
    ·rw [List.getElem?_append_left hi] at hx';rw [hbj];exact gb.ok i x hx'
    ·have:i=(Z4 b).length:=by omega
     subst this;rw [List.getElem?_append_right (Nat.le_refl _),Nat.sub_self] at hx';cases hx';rw [h2];exact hok _ _
end S
namespace S
open Go Go.RowKit E At
theorem Pe {a b:List (Nat × Int)} {p:Nat} (h:p<=a.length):Yq (a++b) p=Yq a p:=by unfold Yq;rw [List.take_append_of_le_length h]
theorem Ji:∀ t,Gd t->∀ x ∈ Z4 t,x.1≠22
 | .num _,_,x,hx=>by cases List.mem_singleton.1 hx;exact fun e=>by cases e
 | .inp,_,x,hx=>by cases List.mem_singleton.1 hx;exact fun e=>by cases e
 | .loc _,_,x,hx=>by cases List.mem_singleton.1 hx;exact fun e=>by cases e
 | .two o a b,⟨ho,ha,hb⟩,x,hx=>by
  simp only [Z4,List.mem_append,List.mem_singleton] at hx;rcases hx with (h | h) | rfl
  ·exact Ji a ha x h
  ·exact Ji b hb x h
  ·simp only;omega
def Pu:List (Nat × Int):=[(1,0),(3,0),(1,1),(3,1),(1,2),(3,2)]
structure Stat (code:List (Nat × Int)) (deep:Nat):Prop where
 six:Fs code 0 Pu
 ok:∀ p x,code[p]?=some x->OkAt p (Yq code p) x
 nret:∀ x ∈ code,x.1≠22
 zero:Yq code code.length=0
 le:∀ q,q<=code.length->Yq code q<=deep
 at_:∃ q,q<=code.length/\Yq code q=deep
theorem Stat.len {code:List (Nat × Int)} {deep:Nat} (h:Stat code deep):6<=code.length:=by
 have:=(List.getElem?_eq_some_iff.1 (h.six 5 (3,2) rfl)).1;omega
theorem Dn {a l b:List (Nat × Int)}:Fs (a++l++b) a.length l:=fun j x hj=>by
 have hl:=(List.getElem?_eq_some_iff.1 hj).1;rw [List.append_assoc,List.getElem?_append_right (by omega),Nat.add_sub_cancel_left,List.getElem?_append_left hl];exact hj
theorem stat0:Stat Pu 1:=by
 refine ⟨fun j x hj=>by rw [Nat.zero_add];exact hj,fun p x hx=>?_,by decide,by decide,fun q hq=>?_,⟨1,by decide,by decide⟩⟩
 ·match p,hx with
  | 0,hx=>cases hx;exact .push
  | 1,hx=>cases hx;exact .store (j:=0) (by decide) (by decide)
  | 2,hx=>cases hx;exact .push
  | 3,hx=>cases hx;exact .store (j:=1) (by decide) (by decide)
  | 4,hx=>cases hx;exact .push
  | 5,hx=>cases hx;exact .store (j:=2) (by decide) (by decide)
  | p+6,hx=>cases hx
 ·match q,hq with
  | 0,_=>decide
  | 1,_=>decide
  | 2,_=>decide
  | 3,_=>decide
  | 4,_=>decide
  | 5,_=>decide
  | 6,_=>decide
  | q+7,hq=>exact absurd hq (by simp only [Pu,List.length_cons,List.length_nil];omega)
theorem Stat.tree {code:List (Nat × Int)} {deep:Nat} (h:Stat code deep) {t:Xp} (ht:Gd t) {x:Nat × Int} (hx:∀ p,OkAt p 1 x) (hx0:dpS 1 x=0) (hxn:x.1≠22):Stat (code++Z4 t++[x]) (max deep (X4 t)):=by
 have h6:=h.len;have hz:Yq (code++Z4 t++[x]) code.length=0:=by rw [List.append_assoc,Pe (Nat.le_refl _)];exact h.zero
 have hT:=depT (code++Z4 t++[x]) t code.length 0 ht Dn h6 hz;have hlen:(code++Z4 t++[x]).length=code.length+(Z4 t).length+1:=by simp only [List.length_append,List.length_cons,List.length_nil]
 have hl:(code++Z4 t++[x])[code.length+(Z4 t).length]?=some x:=by
  rw [List.getElem?_append_right (by rw [List.length_append];omega),List.length_append,Nat.sub_self];rfl
 have hfin:Yq (code++Z4 t++[x]) (code.length+(Z4 t).length)=1:=hT.fin;have hend:Yq (code++Z4 t++[x]) (code.length+(Z4 t).length+1)=0:=by rw [U0 hl,hfin,hx0]
 have hpre:∀ p,p<=code.length->Yq (code++Z4 t++[x]) p=Yq code p:=fun p hp=>by rw [List.append_assoc,Pe hp]
 refine ⟨fun j y hj=>?_,fun p y hp=>?_,fun y hy=>?_,by rw [hlen];exact hend,fun q hq=>?_,?_⟩
 ·have:=h.six j y hj;rw [List.append_assoc,List.getElem?_append_left (List.getElem?_eq_some_iff.1 this).1];exact this
 ·by_cases h1:p<code.length
  ·rw [List.append_assoc,List.getElem?_append_left h1] at hp;rw [hpre p (by omega)];exact h.ok p y hp
  ·obtain ⟨j,rfl⟩:∃ j,p=code.length+j:=⟨p - code.length,by omega⟩;have hj:=(List.getElem?_eq_some_iff.1 hp).1;rw [hlen] at hj;by_cases h2:j<(Z4 t).length
   ·refine hT.ok j y ?_;rw [List.append_assoc,List.getElem?_append_right (by omega),Nat.add_sub_cancel_left,List.getElem?_append_left h2] at hp;exact hp
   ·have:j=(Z4 t).length:=by omega
    subst this;rw [hl] at hp;cases hp;rw [hfin];exact hx _
 ·simp only [List.mem_append,List.mem_singleton] at hy;rcases hy with (hy | hy) | rfl
  ·exact h.nret y hy
  ·exact Ji t ht y hy
  ·exact hxn
 ·rw [hlen] at hq;by_cases h1:q<=code.length
  ·rw [hpre q h1];exact Nat.le_trans (h.le q h1) (Nat.le_max_left _ _)
  ·obtain ⟨j,rfl⟩:∃ j,q=code.length+j:=⟨q - code.length,by omega⟩;by_cases h2:j<=(Z4 t).length
   ·have:=hT.le j h2;exact Nat.le_trans this (by rw [Nat.zero_add];exact Nat.le_max_right _ _)
   ·have:j=(Z4 t).length+1:=by omega
    subst this;rw [<- Nat.add_assoc,hend];exact Nat.zero_le _
 ·rcases Nat.le_total (X4 t) deep with hd | hd
  ·obtain ⟨q,hq,e⟩:=h.at_;exact ⟨q,by omega,by rw [hpre q hq,e,Nat.max_eq_left hd]⟩
  ·obtain ⟨j,hj,e⟩:=hT.at_;exact ⟨code.length+j,by omega,by rw [e,Nat.max_eq_right hd,Nat.zero_add]⟩
theorem Stat.plain {code:List (Nat × Int)} {deep:Nat} (h:Stat code deep):Plain (code++[(22,0)]):=by
 have hlen:(code++[((22:Nat),(0:Int))]).length=code.length+1:=by simp only [List.length_append,List.length_cons,List.length_nil]
 have hl:(code++[((22:Nat),(0:Int))])[code.length]?=some (22,0):=by rw [List.getElem?_append_right (Nat.le_refl _),Nat.sub_self];rfl
 refine ⟨fun p x hp=>?_,fun j hj=>?_,fun p a hp=>?_,⟨code.length,hlen.symm,hl⟩⟩
 ·by_cases h1:p<code.length
  ·rw [List.getElem?_append_left h1] at hp;rw [Pe (by omega)];exact h.ok p x hp
  ·have:=(List.getElem?_eq_some_iff.1 hp).1;have:p=code.length:=by omega
   subst this;rw [hl] at hp;cases hp;exact .back
 ·have h1:code[2*j+1]?=some (3,.ofNat j):=by
   have:=h.six (2*j+1) (3,.ofNat j) (by match j,hj with | 0,_=>rfl | 1,_=>rfl | 2,_=>rfl);rw [Nat.zero_add] at this;exact this
  rw [List.getElem?_append_left (List.getElem?_eq_some_iff.1 h1).1];exact h1
 ·by_cases h1:p<code.length
  ·rw [List.getElem?_append_left h1] at hp;exact absurd J (h.nret (22,a) (List.mem_of_getElem? hp))
  ·have:=(List.getElem?_eq_some_iff.1 hp).1;omega
end S
namespace S
open Go Go.RowKit E At
abbrev es0 (nb:ByteArray):List SV:=[Zi 2,Zi 0,Zs nb,Zi 3,Zi 0,Zs nb,Zi 4,Zi 0,Zs nb]
def Vh (l:List Int):List SV:=l.flatMap fun n=>[Zi 1,Zi n,Ze]
theorem Zhh (l:List Int) (n:Int):Vh (l++[n])=Vh l++[Zi 1,Zi n,Ze]:=by unfold Vh;rw [List.flatMap_append];rfl
abbrev nil3:List SV:=[Zf,Zf,Zf]
structure Dyn (nb:ByteArray) (inp:List Int) (code:List (Nat × Int)) (d:Dk) (want:List Int) (i:Nat):Prop where
 wrong:d.wrong=false
 lo3:d.lo.length=3
 il:i<=inp.length
 left:d.inp=inp.drop i
 done:d.done=code.length
 pos:1<=code.length
 gos:∀ rest fd fe bad k,Gos (code++rest) inp fd fe bad k code.length [] (d.lo.map iV) i (es0 nb++Vh want) code.length->Gos (code++rest) inp fd fe bad (k+(code.length - 1)) 1 [0] nil3 0 (es0 nb) 1
theorem dyn0 (nb:ByteArray) (inp:List Int):Dyn nb inp Pu ⟨[0,1,2],inp,6,false⟩ [] 0:=by
 refine ⟨J,J,Nat.zero_le _,J,J,by decide,fun rest fd fe bad k h=>?_⟩;refine .store (j:=0) (c:=[]) J (by decide) (.push J (.store (j:=1) (c:=[]) J (by decide) (.push J (.store (j:=2) (c:=[]) J (by decide) ?_))));exact h
section
variable {nb:ByteArray} {inp:List Int} {code:List (Nat × Int)} {d:Dk} {want:List Int} {i:Nat}
theorem Dyn.tree (h:Dyn nb inp code d want i) {t:Xp} (ht:Gd t) (hw:(Yc t d).2.wrong=false) {x:Nat × Int} {lo':List Int} {want':List Int} (hl3:lo'.length=3)
  (hx:∀ (ins:List (Nat × Int)) fd fe bad k p i dn,ins[p]?=some x->Gos ins inp fd fe bad k (p+1) [] (lo'.map iV) i (es0 nb++Vh want') (dn+1)->Gos ins inp fd fe bad (k+1) p [(Yc t d).1] (d.lo.map iV) i (es0 nb++Vh want) dn) :
  ∃ i',Dyn nb inp (code++Z4 t++[x]) { (Yc t d).2 with done:=(Yc t d).2.done+1,lo:=lo' } want' i':=by
 have hg0:∀ rest,∃ i',V7 (code++Z4 t++[x]++rest) inp t d code.length [] i i':=fun rest=>goes _ inp t d code.length [] i ht (by rw [List.append_assoc];exact Dn) h.wrong h.lo3 h.il h.left;obtain ⟨i',g0⟩:=hg0 [];have hlen:(code++Z4 t++[x]).length=code.length+(Z4 t).length+1:=by simp only [List.length_append,List.length_cons,List.length_nil]
 have hdn:(Yc t d).2.done=code.length+(Z4 t).length:=by rw [(g0.well hw).1,h.done]
 refine ⟨i',hw,hl3,g0.le,g0.left,by rw [hlen];simp only;omega,by omega,fun rest fd fe bad k hG=>?_⟩;obtain ⟨i2,g⟩:=hg0 rest
 have e2:i2=i':=by
  have h1:=congrArg List.length g.left;have h2:=congrArg List.length g0.left;simp only [List.length_drop] at h1 h2;have:=g.le;have:=g0.le;omega
 subst e2;rw [hlen] at hG
 have hl:(code++Z4 t++[x]++rest)[code.length+(Z4 t).length]?=some x:=by
  rw [List.getElem?_append_left (by rw [hlen];omega),List.getElem?_append_right (by rw [List.length_append];omega),List.length_append,Nat.sub_self];rfl
 have h1:=hx _ fd fe bad k _ i2 _ hl hG;have h2:=(g.well hw).2 fd fe bad (k+1) (es0 nb++Vh want) (by rw [hdn];exact h1);rw [h.done] at h2;have h3:=h.gos (Z4 t++[x]++rest) fd fe bad (k+1+(Z4 t).length) (by rw [<- List.append_assoc,<- List.append_assoc];exact h2);rw [<- List.append_assoc,<- List.append_assoc] at h3;rw [hlen,show k+(code.length+(Z4 t).length+1 - 1)=k+1+(Z4 t).length+(code.length - 1) by have:=h.pos;omega];exact h3
theorem Dyn.print (h:Dyn nb inp code d want i) {t:Xp} (ht:Gd t) (hw:(Yc t d).2.wrong=false):∃ i',Dyn nb inp (code++Z4 t++[(27,0)]) { (Yc t d).2 with done:=(Yc t d).2.done+1,lo:=d.lo } (want++[(Yc t d).1]) i' :=
 h.tree ht hw h.lo3 (fun ins fd fe bad k p i dn hp hG=>.print (c:=[]) hp (by rw [Zhh,<- List.append_assoc] at hG;exact hG))
theorem Dyn.store (h:Dyn nb inp code d want i) {t:Xp} (ht:Gd t) (hw:(Yc t d).2.wrong=false) {j:Nat} (hj:j<3):∃ i',Dyn nb inp (code++Z4 t++[(3,.ofNat j)]) { (Yc t d).2 with done:=(Yc t d).2.done+1,lo:=d.lo.set j (Yc t d).1 } want i' :=
 h.tree ht hw (by rw [List.length_set];exact h.lo3) (fun ins fd fe bad k p i dn hp hG=>.store (c:=[]) hp hj (by rw [List.map_set] at hG;exact hG))
theorem Dyn.halt (h:Dyn nb inp code d want i):Gos (code++[(22,0)]) inp (d.done+1) (es0 nb++Vh want) false (1+(code.length - 1)) 1 [0] nil3 0 (es0 nb) 1 :=
 h.gos _ _ _ _ 1 (.back (n:=0) (by rw [List.getElem?_append_right (Nat.le_refl _),Nat.sub_self];rfl) rfl (by rw [h.done]))
theorem Dyn.bad (h:Dyn nb inp code d want i) {t:Xp} (ht:Gd t) (hw:(Yc t d).2.wrong=true) (rest:List (Nat × Int)):∃ st,st<=code.length+(Z4 t).length/\Gos (code++Z4 t++rest) inp (Yc t d).2.done (es0 nb++Vh want) true st 1 [0] nil3 0 (es0 nb) 1:=by
 obtain ⟨i',g⟩:=goes (code++Z4 t++rest) inp t d code.length [] i ht Dn h.wrong h.lo3 h.il h.left;obtain ⟨k,hk,hg⟩:=g.ill hw;have h1:=hg (es0 nb++Vh want);rw [h.done] at h1;have h3:=h.gos (Z4 t++rest) _ _ _ _ (by rw [<- List.append_assoc];exact h1);rw [<- List.append_assoc] at h3;exact ⟨_,by omega,h3⟩
end
end S
namespace S
open Go Go.RowKit E At
abbrev Zer (x:Nat × Int):Prop:=x.1=1\/x.1=2\/x.1=3\/x.2=0
theorem Ng:∀ t,∀ x ∈ Z4 t,Zer x
 | .num _,x,hx=>by cases List.mem_singleton.1 hx;exact .inl J
 | .inp,x,hx=>by cases List.mem_singleton.1 hx;exact .inr (.inr (.inr J))
 | .loc _,x,hx=>by cases List.mem_singleton.1 hx;exact .inr (.inl J)
 | .two o a b,x,hx=>by
  simp only [Z4,List.mem_append,List.mem_singleton] at hx;rcases hx with (h | h) | rfl
  ·exact Ng a x h
  ·exact Ng b x h
  ·exact .inr (.inr (.inr J))
theorem Zrz {p n:Nat} {x:Nat × Int} (h:OkAt p n x) (hz:Zer x) (len:Nat):V9 (Ww x) 3 len=true:=by
 cases h with
 | push=>rfl
 | load hj hp=>rename_i j;show (decide ((0:Int)<=.ofNat j)&&decide ((Int.ofNat j:Int)<3))=true;simp;omega
 | store hj hn=>rename_i j;show (decide ((0:Int)<=.ofNat j)&&decide ((Int.ofNat j:Int)<3))=true;simp;omega
 | read | pop hn | print hn | add hn | sub hn | mul hn | div hn | back =>
  rcases hz with e | e | e | e
  ·cases e
  ·cases e
  ·cases e
  ·simp only at e;subst e;rfl
theorem Zij {nb:ByteArray} {code:List (Nat × Int)} {dp:Nat} (hn:Xz nb=true) (ho:Xz (nmB 0)=true) (hm:Xz Xa=true) (h:Plain code) (hz:∀ x ∈ code,Zer x) (hl:code.length<=200) (hd:dp<=20) :
  Xg ⟨nb,nmB 0,[],[Wk dp (code.map Ww)]⟩=true:=by
 have h1:1<=code.length:=by obtain ⟨p,hp,_⟩:=h.last;omega
 have hme:Uk (Wk dp (code.map Ww))=true:=by
  have hc:(code.map Ww).all (fun i=>V9 i 3 (code.map Ww).length)=true:=by
   rw [List.all_eq_true];intro i hi;obtain ⟨x,hx,rfl⟩:=List.mem_map.1 hi;obtain ⟨p,hp⟩:=List.getElem?_of_mem hx;exact Zrz (h.ok p x hp) (hz x hx) _
  have hh:L9 (Wk dp (code.map Ww))=true:=by
   unfold L9;simp only [hm,Vl,List.all_nil,Bool.and_true,List.length_nil,Nv,if_pos];simp [Vv];omega
  unfold Uk;rw [hh];simp only [Bool.true_and,Bool.and_eq_true,decide_eq_true_eq,List.length_map];refine ⟨⟨⟨⟨⟨⟨by omega,by omega⟩,by simp⟩,by simp⟩,?_⟩,by simp⟩,by simp⟩;rw [List.length_map] at hc;exact hc
 unfold Xg;rw [hn,ho]
 have hat:Bb [Wk dp (code.map Ww)] 0=true:=by
  show (Uk (Wk dp (code.map Ww))&&Zed [Wk dp (code.map Ww)] 0)=true;rw [hme];rfl
 simp only [Bool.true_and,List.length_nil,List.length_cons,Nat.zero_add];show (true&&true&&(List.range 0).all _&&(List.range 1).all _)=true;simp [List.range_succ,hat]
inductive Ways (inp:List Int):List (Nat × Int)->Dk->List Int->Nat->Prop
 | none:Ways inp Pu ⟨[0,1,2],inp,6,false⟩ [] 1
 | print {code:List (Nat × Int)} {d:Dk} {want:List Int} {deep:Nat} {t:Xp} (h:Ways inp code d want deep) (ht:Gd t) (hw:(Yc t d).2.wrong=false):Ways inp (code++Z4 t++[(27,0)]) { (Yc t d).2 with done:=(Yc t d).2.done+1,lo:=d.lo } (want++[(Yc t d).1]) (max deep (X4 t))
 | store {code:List (Nat × Int)} {d:Dk} {want:List Int} {deep:Nat} {t:Xp} {j:Nat} (h:Ways inp code d want deep) (ht:Gd t) (hw:(Yc t d).2.wrong=false) (hj:j<3):Ways inp (code++Z4 t++[(3,.ofNat j)]) { (Yc t d).2 with done:=(Yc t d).2.done+1,lo:=d.lo.set j (Yc t d).1 } want (max deep (X4 t))
theorem Zjf {inp:List Int} {code:List (Nat × Int)} {d:Dk} {want:List Int} {deep:Nat} (nb:ByteArray) (h:Ways inp code d want deep):Stat code deep/\(∀ x ∈ code,Zer x)/\∃ i,Dyn nb inp code d want i:=by
 induction h with
 | none=>exact ⟨stat0,by decide,0,dyn0 nb inp⟩
 | print h ht hw ih =>
  obtain ⟨hs,hz,i,hd⟩:=ih;refine ⟨hs.tree ht (fun p=>.print (Nat.le_refl _)) J (by decide),fun x hx=>?_,hd.print ht hw⟩;simp only [List.mem_append,List.mem_singleton] at hx;rcases hx with (hx | hx) | rfl
  ·exact hz x hx
  ·exact Ng _ x hx
  ·exact .inr (.inr (.inr J))
 | store h ht hw hj ih =>
  obtain ⟨hs,hz,i,hd⟩:=ih;refine ⟨hs.tree ht (fun p=>.store hj (Nat.le_refl _)) J (fun e=>by cases e),fun x hx=>?_,hd.store ht hw hj⟩;simp only [List.mem_append,List.mem_singleton] at hx;rcases hx with (hx | hx) | rfl
  ·exact hz x hx
  ·exact Ng _ x hx
  ·exact .inr (.inr (.inl J))
end S
namespace S
open Go Go.RowKit E At
def Ss (c:Int) (n:Nat):Nat:=((if c<0 then -(c+1) else c) % (n:Int)).toNat
theorem Mz (c:Int) {n:Nat} (h:0<n):Ss c n<n:=by
 unfold Ss;have h1:=Int.emod_nonneg (if c<0 then -(c+1) else c) (b:=(n:Int)) (by omega);have h2:=Int.emod_lt_of_pos (if c<0 then -(c+1) else c) (b:=(n:Int)) (by omega);omega
def Xf (n:Nat):List Int->Nat × List Int
 | []=>(0,[])
 | c::r=>(Ss c n,r)
theorem U4 {n:Nat} (h:0<n):∀ l,(Xf n l).1<n
 | []=>h
 | c::_=>Mz c h
def Gw (k:Nat):Int:=if k=11 then -9223372036854775808 else (k:Int) - 3
def Ta (deep:Nat) (l:List Int):Nat:=if deep=0/\2<(Xf 8 l).1 then (Xf 8 l).1 % 3 else (Xf 8 l).1
def X5:Nat->List Int->Xp × List Int
 | deep,l =>
  if Ta deep l=0 then (.num (Gw (Xf 12 (Xf 8 l).2).1),(Xf 12 (Xf 8 l).2).2)
  else if Ta deep l=1 then (.inp,(Xf 8 l).2)
  else if Ta deep l=2 then (.loc (Xf 3 (Xf 8 l).2).1,(Xf 3 (Xf 8 l).2).2)
  else match deep with
   | 0=>(.inp,(Xf 8 l).2)
   | d+1=>(.two (6+Ta (d+1) l % 4) (X5 d (Xf 8 l).2).1 (X5 d (X5 d (Xf 8 l).2).2).1,(X5 d (X5 d (Xf 8 l).2).2).2)
structure TrB (deep:Nat) (t:Xp):Prop where
 ok:Gd t
 len:(Z4 t).length+1<=2 ^ (deep+1)
 deep:X4 t<=deep+1
 ints:∀ x ∈ Z4 t,Yu (.ofNat x.1)/\Yu x.2
theorem J3 {deep:Nat}:1+1<=2 ^ (deep+1):=by
 have:1<=2 ^ deep:=Nat.one_le_two_pow;rw [Nat.pow_succ];omega
theorem Qk:∀ deep l,TrB deep (X5 deep l).1
 | deep,l=>by
  unfold X5;split
  ·refine ⟨trivial,J3,by show 1<=_;omega,fun x hx=>?_⟩;cases List.mem_singleton.1 hx;have:=U4 (n:=12) (by omega) (Xf 8 l).2;refine ⟨by unfold Yu;simp,?_⟩;unfold Gw Yu;simp only;split<;>omega
  ·split
   ·refine ⟨trivial,J3,by show 1<=_;omega,fun x hx=>?_⟩;cases List.mem_singleton.1 hx;exact ⟨by unfold Yu;simp,by unfold Yu;simp⟩
   ·split
    ·have:=U4 (n:=3) (by omega) (Xf 8 l).2;refine ⟨this,J3,by show 1<=_;omega,fun x hx=>?_⟩;cases List.mem_singleton.1 hx;refine ⟨by unfold Yu;simp,?_⟩;unfold Yu;simp only [Int.ofNat_eq_natCast];omega
    ·split
     ·refine ⟨trivial,J3,by show 1<=_;omega,fun x hx=>?_⟩;cases List.mem_singleton.1 hx;exact ⟨by unfold Yu;simp,by unfold Yu;simp⟩
     ·rename_i d _ _ _
      have ha:=Qk d (Xf 8 l).2;have hb:=Qk d (X5 d (Xf 8 l).2).2;have hm:Ta (d+1) l % 4<4:=Nat.mod_lt _ (by omega);refine ⟨⟨by omega,ha.ok,hb.ok⟩,?_,?_,fun x hx=>?_⟩
      ·have h1:=ha.len;have h2:=hb.len;simp only [Z4,List.length_append,List.length_cons,List.length_nil];rw [Nat.pow_succ];omega
      ·have h1:=ha.deep;have h2:=hb.deep;show max _ _<=_;omega
      ·simp only [Z4,List.mem_append,List.mem_singleton] at hx;rcases hx with (hx | hx) | rfl
       ·exact ha.ints x hx
       ·exact hb.ints x hx
       ·refine ⟨?_,by unfold Yu;simp⟩;unfold Yu;simp only [Int.ofNat_eq_natCast];omega
end S
namespace S
open Go Go.RowKit E At
section
variable {E:SE} {o:Oper} {t t':Nat} {p q:Operand} {x y:Int}
theorem no_rem (ho:o.op=.binOp .rem t p q t') (hx:sev E p=some (Zi x)) (hy:sev E q=some (Zi y)) (h:y≠0):noD Tryz.prog E bare o=some (Zi (x.tmod y)):=by
 have e1:clov E p=some (.int .i64 x):=by unfold clov;rw [hx];rfl
 have e2:clov E q=some (.int .i64 y):=by unfold clov;rw [hy];rfl
 unfold noD act;rw [ho];simp only [hx,hy,exBin,Rq,exPlain];have hop:o.op.operands.toList=[p,q]:=by rw [ho];rfl
 rw [hop,ho];simp only [List.all_cons,List.all_nil,e1,e2,Option.isSome_some,Bool.and_self,noSel,cond_true]
 have:plain Tryz.prog (execOp (fun x=>(clov E x).getD undef) o)=some (.value (.int .i64 (x.tmod y))):=by
  simp only [execOp,ho];rw [e1,e2]
  show plain Tryz.prog (do
   eqGuard BinOp.rem t p q (Value.int IntKind.i64 x) (Value.int IntKind.i64 y)
   Next.value <$> binOp BinOp.rem t (Value.int IntKind.i64 x) (Value.int IntKind.i64 y))=_
  have hb:binOp BinOp.rem t (Value.int IntKind.i64 x) (Value.int IntKind.i64 y)=pure (.int .i64 (x.tmod y)):=by simp [binOp,Op.intDiv,h]
  rw [hb];rfl
 rw [this];rfl
theorem no_neg (ho:o.op=.unOp .neg t p) (hx:sev E p=some (Zi x)):noD Tryz.prog E bare o=some (Zi (IntKind.i64.wrap (0 - x))):=by
 have e1:clov E p=some (.int .i64 x):=by unfold clov;rw [hx];rfl
 unfold noD act;rw [ho];simp only [hx,exUn,exPlain];have hop:o.op.operands.toList=[p]:=by rw [ho];rfl
 rw [hop,ho];simp only [List.all_cons,List.all_nil,e1,Option.isSome_some,Bool.and_self,noSel,cond_true]
 have:plain Tryz.prog (execOp (fun x=>(clov E x).getD undef) o)=some (.value (.int .i64 (IntKind.i64.wrap (0 - x)))):=by
  simp only [execOp,ho];rw [e1];rfl
 rw [this];rfl
theorem iadd_is (h:Yu (x+y)):Jd .i64 x y=x+y:=by
 unfold Jd;split
 ·rename_i a b
  cases hb:Nat.blt (Nat.add a b) 128 with
  | true=>rfl
  | false=>exact Qz _ h
 ·exact Qz _ h
theorem isub_is (h:Yu (x - y)):Jc .i64 x y=x - y:=by
 unfold Jc;split
 ·rename_i a b
  cases hb:(Nat.ble b a&&Nat.blt a 128) with
  | true =>
   simp only [Bool.and_eq_true] at hb;have:=Nat.le_of_ble_eq_true hb.1;show Int.ofNat (a - b)=Int.ofNat a - Int.ofNat b;simp only [Int.ofNat_eq_natCast];omega
  | false=>exact Qz _ h
 ·exact Qz _ h
theorem no_addI (ho:o.op=.binOp .add t p q t') (hx:sev E p=some (Zi x)) (hy:sev E q=some (Zi y)) (h:Yu (x+y)):noD Tryz.prog E bare o=some (Zi (x+y)):=by
 unfold noD act;rw [ho];simp only [hx,hy,exBin,Rq,iadd_is h];rfl
theorem Zbb (ho:o.op=.binOp .sub t p q t') (hx:sev E p=some (Zi x)) (hy:sev E q=some (Zi y)) (h:Yu (x - y)):noD Tryz.prog E bare o=some (Zi (x - y)):=by
 unfold noD act;rw [ho];simp only [hx,hy,exBin,Rq,isub_is h];rfl
theorem Zbc {n:Nat} (ho:o.op=.binOp .rem t p q t') (hx:sev E p=some (Zi x)) (hy:sev E q=some (Zn n)) (h0:0<=x) (h1:x<=9223372036854775807) (hn:0<n):noD Tryz.prog E bare o=some (Zi (.ofNat (x % (n:Int)).toNat)):=by
 rw [no_rem ho hx hy (by intro e;have:((n:Nat):Int)=0:=e;omega)];have e1:x.tmod (Int.ofNat n)=x % (n:Int):=Int.tmod_eq_emod_of_nonneg h0;have g0:=Int.emod_nonneg x (b:=(n:Int)) (by omega);rw [e1];have:Int.ofNat (x % (n:Int)).toNat=x % (n:Int):=Int.toNat_of_nonneg g0;rw [this]
end
section
set_option maxRecDepth 10000
variable {N r b io k ij st a n:Nat} {sf:Nat × Nat} {ins:List SV} {c:Int}
theorem Zqm (hc:Yu c) (h0:c<0) (hn:0<n):HF Tryz.prog 36 [Zi c,Zn n] N [] fun u N' H'=>u=Zn (Ss c n)/\N'=N/\H'=[]:=by
 refine hf1 Tryz.func36 J Tryz.ntmps36 fun _ _ _ _=>?_;refine Zu (Zg 1 [] [(4,Zi 0)] [] (Yi (Zu (Zg 2 [] [(6,SV.v (.bool (ilt c 0)))] [] (Zv (Ti J (Wb.2 h0) (Z0 (Zg 1 [] [(7,Zi c)] [] ?_))))))));refine Ya (v:=Zi (c+1)) J (no_addI J J J (by unfold Yu at *;omega)) rfl ?_;refine Ya (v:=Zi (-(c+1))) J (by rw [no_neg J J,show (0:Int) - (c+1) = -(c+1) by omega,Qz _ (by unfold Yu at *;omega)]) rfl ?_;refine Zg 1 [] [(0,Zi (-(c+1)))] [] (Yh (Zg 2 [] [(10,Zi (-(c+1))),(11,Zn n)] [] ?_));refine Ya (v:=Zn (Ss c n)) J (by rw [Zbc J J J (by omega) (by unfold Yu at *;omega) hn];unfold Ss;rw [if_pos h0]) rfl ?_;refine Zg 1 [] [(4,Zn (Ss c n))] [] (Zv (Yv (Yo [] (.inr J) Z6 J (by decide) ?_)));exact ⟨J,J,J⟩
theorem Zql (hc:Yu c) (h0:¬ c<0) (hn:0<n):HF Tryz.prog 36 [Zi c,Zn n] N [] fun u N' H'=>u=Zn (Ss c n)/\N'=N/\H'=[]:=by
 refine hf1 Tryz.func36 J Tryz.ntmps36 fun _ _ _ _=>?_;refine Zu (Zg 1 [] [(4,Zi 0)] [] (Yi (Zu (Zg 2 [] [(6,SV.v (.bool (ilt c 0)))] [] (Zv (Tx J (Bool.eq_false_iff.2 fun h=>h0 (Wb.1 h)) ?_))))));refine Yp (Xj (Zg 2 [] [(10,Zi c),(11,Zn n)] [] ?_));refine Ya (v:=Zn (Ss c n)) J (by rw [Zbc J J J (by omega) (by unfold Yu at *;omega) hn];unfold Ss;rw [if_neg h0]) rfl ?_;refine Zg 1 [] [(4,Zn (Ss c n))] [] (Zv (Yv (Yo [] (.inr J) Z6 J (by decide) ?_)));exact ⟨J,J,J⟩
theorem My (hc:Yu c) (hn:0<n):HF Tryz.prog 36 [Zi c,Zn n] N [] fun u N' H'=>u=Zn (Ss c n)/\N'=N/\H'=[]:=by
 by_cases h:c<0
 ·exact Zqm hc h hn
 ·exact Zql hc h hn
theorem Zrf (hk:k<=4000000) (ha:a<k) (hc:Yu c) (hn:0<n) (hx:ins[io+a*1]?=some (Zi c)) :
  HF Tryz.prog 27 [.ptr r 0,Zn n] N [(r,.cells [.sl b io k ij,Zn a]),(b,.seen ins st sf)] fun u N' H'=>u=Zn (Ss c n)/\N'=N/\H'=[(r,.cells [.sl b io k ij,Zn (a+1)]),(b,.seen ins st sf)]:=by
 refine hf1 Tryz.func27 J Tryz.ntmps27 fun _ _ _ _=>?_;refine Zu (Zg 1 [] [(4,Zi 0)] [] (Yi (Yb (I0 Xy [0,0] [(14,SV.v (.bool (!(ilt (.ofNat a) (.ofNat k)))))] [] (Z2 ?_)))));refine Tx J (by rw [Bool.not_eq_false',Wb];simp only [Int.ofNat_eq_natCast];omega) ?_;refine Yp (Xj (Zg 4 [0] [(15,Zq r 0),(18,Zn a)] [] (Ya (v:=Zn (a+1)) J (X7 J J J (by omega)) J ?_)));refine Z9 3 [0] [] [] N [] [(0,Zc [Zk b io k ij,Zn (a+1)])] (Yi ?_)
 refine W3 [.ptr r 0,.ptr r 0,.ptr r 0,.sl b io k ij,.ptr r 0,.ptr r 0,.ptr r 1,Zn (a+1),Zn ((a+1) - 1),.ptr b (io+((a+1) - 1)*1),Zi c,Zn n,Zn (Ss c n),Zn (Ss c n)] [12] [(_,_)] [0,0,0] [(4,Zn (Ss c n))] [] [8,9,10] Xy
  ⟨fun _ _ _ _ _ _ _ kG=>Yl [] [] Z6 rfl rfl rfl rfl (My hc hn) rfl kG,trivial⟩
  ⟨X6 fun _ _=>Y4 rfl (R9 rfl rfl rfl (by omega) (by omega)),X6 fun _ _=>Y4 rfl (W0 rfl rfl rfl (by kernel_rfl) (by omega)),(Ws (fun _ hGG=>Yg rfl rfl rfl (hGG.get (i:=1) rfl) (F6 (by kernel_rfl) hx)) (S8 (by kernel_rfl) trivial)),trivial⟩ rfl ?_
 refine Z2 (Yv (Yo [0,1] (.inr J) Z6 J (by decide) ?_));exact ⟨J,J,J⟩
theorem Zrh (ha:k<=a) :
  HF Tryz.prog 27 [.ptr r 0,Zn n] N [(r,.cells [.sl b io k ij,Zn a])] fun u N' H'=>u=Zi 0/\N'=N/\H'=[(r,.cells [.sl b io k ij,Zn a])]:=by
 refine hf1 Tryz.func27 J Tryz.ntmps27 fun _ _ _ _=>?_;refine Zu (Zg 1 [] [(4,Zi 0)] [] (Yi (Yb (I0 Xy [0,0] [(14,SV.v (.bool (!(ilt (.ofNat a) (.ofNat k)))))] [] (Z2 ?_)))));refine Ti J (by rw [Bool.not_eq_true',Bool.eq_false_iff];intro h;rw [Wb] at h;simp only [Int.ofNat_eq_natCast] at h;omega) ?_;refine Zu (Zg 1 [] [(4,Zi 0)] [] (Zv (Yv (Xm (Yo [0] (.inr J) Z6 J (by decide) ?_)))));exact ⟨J,J,J⟩
theorem Zrg {p:Option Addr} {q:Nat} :
  HF Tryz.prog 27 [.ptr r 0,Zn n] N [(r,.cells [Zl p q,Zn a])] fun u N' H'=>u=Zi 0/\N'=N/\H'=[(r,.cells [Zl p q,Zn a])]:=by
 refine hf1 Tryz.func27 J Tryz.ntmps27 fun _ _ _ _=>?_;refine Zu (Zg 1 [] [(4,Zi 0)] [] (Yi (Yb (I0 Xy [0,0] [(14,SV.v (.bool (!(ilt (.ofNat a) 0))))] [] (Z2 ?_)))));refine Ti J (by rw [Bool.not_eq_true',Bool.eq_false_iff];intro h;rw [Wb] at h;simp only [Int.ofNat_eq_natCast] at h;omega) ?_;refine Zu (Zg 1 [] [(4,Zi 0)] [] (Zv (Yv (Xm (Yo [0] (.inr J) Z6 J (by decide) ?_)))));exact ⟨J,J,J⟩
def Wi (v:SV) (U:Ch) (l:List Int):Prop:=∃ Ui Ur,InpOf v Ui l/\U.Perm (Ui++Ur)
theorem Wi.more {v:SV} {U:Ch} {l:List Int} (h:Wi v U l) (K:Ch):Wi v (K++U) l:=by
 obtain ⟨Ui,Ur,h1,h2⟩:=h;refine ⟨Ui,K++Ur,h1,?_⟩;exact ((h2.append_left K).trans (List.perm_append_comm_assoc K Ui Ur))
def nx (raw:List Int) (a:Nat):Nat:=if a<raw.length then a+1 else a
theorem Rj (raw:List Int) (a n:Nat):raw.drop (nx raw a)=(Xf n (raw.drop a)).2:=by
 unfold nx;split
 ·rename_i h
  rw [List.drop_eq_getElem_cons h];rfl
 ·rename_i h
  rw [List.drop_eq_nil_of_le (by omega)];rfl
theorem Tn {v:SV} {U:Ch} {raw:List Int} (hw:Wi v U raw) (hi:∀ x ∈ raw,Yu x) (hn:0<n) :
  HF Tryz.prog 27 [.ptr r 0,Zn n] N ([(r,.cells [v,Zn a])]++U) fun u N' H'=>u=Zi (.ofNat (Xf n (raw.drop a)).1)/\N'=N/\H'=[(r,.cells [v,Zn (nx raw a)])]++U:=by
 obtain ⟨Ui,Ur,h1,h2⟩:=hw;cases h1 with
 | nil p q =>
  have:=(Zrg (N:=N) (r:=r) (n:=n) (a:=a) (p:=p) (q:=q)).fr U;have e1:nx [] a=a:=by unfold nx;rw [if_neg (by simp)]
  have e2:(Xf n (([]:List Int).drop a)).1=0:=by rw [List.drop_nil];rfl
  rw [e1,e2];exact this
 | row b io ij st sf ins l h hb hj =>
  by_cases ha:a<raw.length
  ·have hx:=h a raw[a] (List.getElem?_eq_getElem ha);have e1:nx raw a=a+1:=by unfold nx;rw [if_pos ha]
   have e2:(Xf n (raw.drop a)).1=Ss raw[a] n:=by rw [List.drop_eq_getElem_cons ha];rfl
   rw [e1,e2];refine (Zrf (N:=N) (r:=r) (b:=b) (ij:=ij) (st:=st) (sf:=sf) hb ha (hi _ (List.getElem_mem ha)) hn hx).to (K:=Ur) ?_ ?_
   ·exact (h2.cons _)
   ·exact (h2.symm.cons _)
  ·have e1:nx raw a=a:=by unfold nx;rw [if_neg ha]
   have e2:(Xf n (raw.drop a)).1=0:=by rw [List.drop_eq_nil_of_le (by omega)];rfl
   rw [e1,e2];exact (Zrh (N:=N) (r:=r) (n:=n) (b:=b) (io:=io) (ij:=ij) (Nat.le_of_not_lt ha)).fr U
end
end S
namespace S
open Go Go.RowKit E At
inductive TreeIn:Nat->Ch->Xp->Prop
 | num (p:Nat) (n:Int):TreeIn p [(p,.cells [.v (.int .i64 0),.v (.int .i64 n),.v (.pointer none),.v (.pointer none)])] (.num n)
 | inp (p:Nat):TreeIn p [(p,.cells [.v (.int .i64 1),.v (.int .i64 0),.v (.pointer none),.v (.pointer none)])] .inp
 | loc (p j:Nat) (h:j<3):TreeIn p [(p,.cells [.v (.int .i64 2),.v (.int .i64 (.ofNat j)),.v (.pointer none),.v (.pointer none)])] (.loc j)
 | two (p o pa pb:Nat) (HA HB:Ch) (a b:Xp) (h:6<=o/\o<=9):TreeIn pa HA a->TreeIn pb HB b->TreeIn p ((p,.cells [.v (.int .i64 (.ofNat o)),.v (.int .i64 0),.ptr pa 0,.ptr pb 0])::(HB++HA)) (.two o a b)
theorem Bh {deep:Nat} {l:List Int} (h:Ta deep l=0):X5 deep l=(.num (Gw (Xf 12 (Xf 8 l).2).1),(Xf 12 (Xf 8 l).2).2):=by unfold X5;rw [if_pos h]
theorem Bj {deep:Nat} {l:List Int} (h:Ta deep l=1):X5 deep l=(.inp,(Xf 8 l).2):=by unfold X5;rw [if_neg (by omega),if_pos h]
theorem Bi {deep:Nat} {l:List Int} (h:Ta deep l=2):X5 deep l=(.loc (Xf 3 (Xf 8 l).2).1,(Xf 3 (Xf 8 l).2).2):=by unfold X5;rw [if_neg (by omega),if_neg (by omega),if_pos h]
theorem Zmi {d:Nat} {l:List Int} (h:2<Ta (d+1) l):X5 (d+1) l=(.two (6+Ta (d+1) l % 4) (X5 d (Xf 8 l).2).1 (X5 d (X5 d (Xf 8 l).2).2).1,(X5 d (X5 d (Xf 8 l).2).2).2):=by
 conv=>lhs;unfold X5
 rw [if_neg (show ¬ Ta (d+1) l=0 by omega),if_neg (show ¬ Ta (d+1) l=1 by omega),if_neg (show ¬ Ta (d+1) l=2 by omega)]
theorem Jz {E:SE} {o:Oper} {t t' m n:Nat} {p q:Operand} (ho:o.op=.binOp .rem t p q t') (hx:sev E p=some (Zn m)) (hy:sev E q=some (Zn n)) (h1:m<=9223372036854775807) (hn:0<n):noD Tryz.prog E bare o=some (Zn (m % n)):=by
 rw [Zbc ho hx hy (by simp only [Int.ofNat_eq_natCast];omega) (by simp only [Int.ofNat_eq_natCast];omega) hn]
 have:(Int.ofNat m % (n:Int)).toNat=m % n:=by
  rw [Int.ofNat_eq_natCast,<- Int.natCast_emod];rfl
 rw [this]
section
set_option maxRecDepth 10000
variable {N r a k:Nat} {v:SV} {U:Ch} {raw:List Int}
def TrR (deep:Nat) (raw:List Int) (r:Nat) (v:SV) (a:Nat) (U:Ch):SV->Nat->Ch->Prop:=fun u _ H'=>∃ p HT a',u=.ptr p 0/\H'=[(r,.cells [v,Zn a'])]++(HT++U)/\TreeIn p HT (X5 deep (raw.drop a)).1/\raw.drop a'=(X5 deep (raw.drop a)).2
theorem O7 {deep N':Nat} {m:Int} (h:Ta deep (raw.drop a)=0) (hm:m=Gw (Xf 12 (raw.drop (nx raw a))).1):TrR deep raw r v a U (.ptr N 0) N' ([(r,.cells [v,Zn (nx raw (nx raw a))]),(N,.cells [Zi 0,Zi m,Zp,Zp])]++U):=by
 refine ⟨_,[_],_,J,J,?_,?_⟩
 ·rw [Bh h,hm,Rj raw a 8];exact .num _ _
 ·rw [Bh h,Rj raw _ 12,Rj raw a 8]
theorem Dt {deep N':Nat} (h:Ta deep (raw.drop a)=1):TrR deep raw r v a U (.ptr N 0) N' ([(r,.cells [v,Zn (nx raw a)]),(N,.cells [Zi 1,Zi 0,Zp,Zp])]++U):=by
 refine ⟨_,[_],_,J,J,?_,?_⟩
 ·rw [Bj h];exact .inp _
 ·rw [Bj h,Rj raw a 8]
theorem Ds {deep N':Nat} (h:Ta deep (raw.drop a)=2):TrR deep raw r v a U (.ptr N 0) N' ([(r,.cells [v,Zn (nx raw (nx raw a))]),(N,.cells [Zi 2,.v (.int .i64 (.ofNat (Xf 3 (raw.drop (nx raw a))).1)),Zp,Zp])]++U):=by
 refine ⟨_,[_],_,J,J,?_,?_⟩
 ·rw [Bi h,Rj raw a 8];exact .loc _ _ (U4 (by omega) _)
 ·rw [Bi h,Rj raw _ 3,Rj raw a 8]
theorem Zrc {d N' pa pb a1 a2:Nat} {HA HB:Ch} (hk:Ta (d+1) (raw.drop a)=k) (h2:2<k) (hA:TreeIn pa HA (X5 d (raw.drop (nx raw a))).1) (ha:raw.drop a1=(X5 d (raw.drop (nx raw a))).2) (hB:TreeIn pb HB (X5 d (raw.drop a1)).1) (hb:raw.drop a2=(X5 d (raw.drop a1)).2) :
  TrR (d+1) raw r v a U (.ptr N 0) N' ([(r,.cells [v,Zn a2]),(N,.cells [Zn (6+k % 4),Zi 0,.ptr pa 0,.ptr pb 0])]++(HB++(HA++U))):=by
 have ht:=Zmi (d:=d) (l:=raw.drop a) (by omega);refine ⟨N,(N,.cells [Zn (6+k % 4),Zi 0,.ptr pa 0,.ptr pb 0])::(HB++HA),a2,J,?_,?_,?_⟩
 ·simp only [List.cons_append,List.nil_append,List.append_assoc]
 ·rw [ht,hk,<- Rj raw a 8,<- ha];exact .two _ _ _ _ _ _ _ _ (by omega) hA hB
 ·rw [ht,<- Rj raw a 8,<- ha,hb]
theorem Zsi {x y:Int} (h:ieq x y=true):x=y:=Q3.1 h
theorem Zkm {x y:Int} (h:ieq x y=false):x≠y:=fun e=>by rw [Q3.2 e] at h;cases h
theorem W4 {m n:Nat} (h:ieq (.ofNat m) (.ofNat n)=true):m=n:=Int.ofNat.inj (Zsi h)
theorem Vi {m n:Nat} (h:ieq (.ofNat m) (.ofNat n)=false):m≠n:=fun e=>Zkm h (by rw [e])
theorem Dq (m:Nat) (h:m<12) (hc:ieq (Int.ofNat m - 3) 8=false):Int.ofNat m - 3=Gw m:=by
 have:=Zkm hc;unfold Gw;rw [if_neg (by intro e;subst e;exact this J)];rfl
theorem Dr (m:Nat) (hc:ieq (Int.ofNat m - 3) 8=true):(-9223372036854775808:Int)=Gw m:=by
 have:=Zsi hc;unfold Gw;rw [if_pos (by simp only [Int.ofNat_eq_natCast] at this;omega)]
theorem kind_up {d:Nat} {l:List Int}:Ta (d+1) l=(Xf 8 l).1:=by unfold Ta;rw [if_neg (by omega)]
theorem kind_0 {l:List Int} (h:¬ 2<(Xf 8 l).1):Ta 0 l=(Xf 8 l).1:=by unfold Ta;rw [if_neg (by omega)]
theorem kind_r {l:List Int} (h:2<(Xf 8 l).1):Ta 0 l=(Xf 8 l).1 % 3:=by unfold Ta;rw [if_pos ⟨rfl,h⟩]
theorem tree_A (hw:Wi v U raw) (hi:∀ x ∈ raw,Yu x) (hk0:(Xf 8 (raw.drop a)).1=k) (hk:2<k) (hkd:Ta 0 (raw.drop a)=k % 3) (hk8:k<8):HF Tryz.prog 28 [.ptr r 0,Zi 0] N ([(r,.cells [v,Zn a])]++U) (TrR 0 raw r v a U):=by
 have hm:=U4 (n:=12) (by omega) (raw.drop (nx raw a));refine hf1 Tryz.func28 J Tryz.ntmps28 fun _ _ _ _=>?_;refine Zu (Zg 1 [] [(4,Zp)] [] (Yh (Zg 1 [] [(8,Zq r 0)] [] (Sz 1 1 [0] [] Z6 J J J J ((hk0 ▸ Tn hw hi (by decide))) J ?_))));refine Zg 1 [] [(5,Zn k)] [] (Yi (Zu (Zg 6 [] [(15,SV.v (.bool (ilt 2 (.ofNat k))))] [] (Zv ?_))));refine Ti J (Wb.2 (by simp only [Int.ofNat_eq_natCast];omega)) ?_;refine Z0 (Zg 1 [] [(16,Zn k)] [] (Ya (v:=Zn (k % 3)) J (Jz J J J (by omega) (by decide)) J ?_));refine Zg 1 [] [(5,Zn (k % 3))] [] (Yi (Zu (Zg 1 [] [(18,Zn (k % 3))] [] (Zv (Ye (Zu (Zg 2 [] [(19,SV.v (.bool (ieq (.ofNat (k % 3)) 0)))] [] (Zv (W6 J (fun c2=>?_) (fun c2=>?_))))))))))
 ·skip
  refine Zu (Zg 1 [] [(21,Zq r 0)] [] (Sz 1 1 [0] [] Z6 J J J J (Tn hw hi (by decide)) J ?_));refine Ya (v:=.v (.int .i64 (Int.ofNat (Xf 12 (raw.drop (nx raw a))).1 - 3))) J (Zbb J J J (by simp only [Yu,Int.ofNat_eq_natCast];omega)) rfl ?_;refine Zg 1 [] [(6,SV.v (.int .i64 (Int.ofNat (Xf 12 (raw.drop (nx raw a))).1 - 3)))] [] (Yi (Zu (Zg 2 [] [(25,SV.v (.bool (ieq (Int.ofNat (Xf 12 (raw.drop (nx raw a))).1 - 3) 8)))] [] (Zv (W6 J (fun c3=>?_) (fun c3=>?_))))))
  ·skip
   refine Z0 (Zg 1 [] [(6,Zi (-9223372036854775808))] [] (Yh (Z9 4 [] [(4,Zq N 0)] [] (N+1) [(N,Zc [Zi 0,Zi (-9223372036854775808),Zp,Zp])] [] (Zv (Yv (We (Xm (V3 2 [1,0] (.inr J) Z6 J ?_))))))));exact O7 (hkd.trans (W4 (n:=0) c2)) (Dr _ c3)
  ·skip
   refine Yp (Xj (Z9 4 [] [(4,Zq N 0)] [] (N+1) [(N,Zc [Zi 0,SV.v (.int .i64 (Int.ofNat (Xf 12 (raw.drop (nx raw a))).1 - 3)),Zp,Zp])] [] (Zv (Yv (We (Xm (V3 2 [1,0] (.inr J) Z6 J ?_)))))));exact O7 (hkd.trans (W4 (n:=0) c2)) (Dq _ hm c3)
 ·skip
  refine Zu (Zg 2 [] [(29,SV.v (.bool (ieq (.ofNat (k % 3)) 1)))] [] (Zv (W6 J (fun c4=>?_) (fun c4=>?_))))
  ·skip
   refine Zu (Z9 3 [] [(4,Zq N 0)] [] (N+1) [(N,Zc [Zi 1,Zi 0,Zp,Zp])] [] (Zv (Yv (We (Xm (V3 2 [1,0] (.inr J) Z6 J ?_))))));exact Dt (hkd.trans (W4 (n:=1) c4))
  ·skip
   refine Zu (Zg 2 [] [(33,SV.v (.bool (ieq (.ofNat (k % 3)) 2)))] [] (Zv (W6 J (fun c5=>?_) (fun c5=>?_))))
   ·skip
    refine Zu (Zg 1 [] [(35,Zq r 0)] [] (Sz 1 1 [0] [] Z6 J J J J (Tn hw hi (by decide)) J ?_));refine Z9 3 [] [(4,Zq N 0)] [] (N+1) [(N,Zc [Zi 2,SV.v (.int .i64 (.ofNat ((Xf 3 (raw.drop (nx raw a))).1))),Zp,Zp])] [] (Zv (Yv (We (Xm (V3 2 [1,0] (.inr J) Z6 J ?_)))));exact Ds (hkd.trans (W4 (n:=2) c5))
   ·skip
    have h0:=Vi (n:=0) c2;have h1:=Vi (n:=1) c4;have h2:=Vi (n:=2) c5;omega
theorem tree_B (hw:Wi v U raw) (hi:∀ x ∈ raw,Yu x) (hk0:(Xf 8 (raw.drop a)).1=k) (hk:¬ 2<k) (hkd:Ta 0 (raw.drop a)=k):HF Tryz.prog 28 [.ptr r 0,Zi 0] N ([(r,.cells [v,Zn a])]++U) (TrR 0 raw r v a U):=by
 have hm:=U4 (n:=12) (by omega) (raw.drop (nx raw a));refine hf1 Tryz.func28 J Tryz.ntmps28 fun _ _ _ _=>?_;refine Zu (Zg 1 [] [(4,Zp)] [] (Yh (Zg 1 [] [(8,Zq r 0)] [] (Sz 1 1 [0] [] Z6 J J J J ((hk0 ▸ Tn hw hi (by decide))) J ?_))));refine Zg 1 [] [(5,Zn k)] [] (Yi (Zu (Zg 6 [] [(15,SV.v (.bool (ilt 2 (.ofNat k))))] [] (Zv ?_))));refine Tx J (Bool.eq_false_iff.2 fun h=>by rw [Wb] at h;simp only [Int.ofNat_eq_natCast] at h;omega) ?_;refine Yp (Z2 (Yb (Zu (Zg 1 [] [(18,Zn k)] [] (Zv (Ye (Zu (Zg 2 [] [(19,SV.v (.bool (ieq (.ofNat k) 0)))] [] (Zv (W6 J (fun c2=>?_) (fun c2=>?_)))))))))))
 ·skip
  refine Zu (Zg 1 [] [(21,Zq r 0)] [] (Sz 1 1 [0] [] Z6 J J J J (Tn hw hi (by decide)) J ?_));refine Ya (v:=.v (.int .i64 (Int.ofNat (Xf 12 (raw.drop (nx raw a))).1 - 3))) J (Zbb J J J (by simp only [Yu,Int.ofNat_eq_natCast];omega)) rfl ?_;refine Zg 1 [] [(6,SV.v (.int .i64 (Int.ofNat (Xf 12 (raw.drop (nx raw a))).1 - 3)))] [] (Yi (Zu (Zg 2 [] [(25,SV.v (.bool (ieq (Int.ofNat (Xf 12 (raw.drop (nx raw a))).1 - 3) 8)))] [] (Zv (W6 J (fun c3=>?_) (fun c3=>?_))))))
  ·skip
   refine Z0 (Zg 1 [] [(6,Zi (-9223372036854775808))] [] (Yh (Z9 4 [] [(4,Zq N 0)] [] (N+1) [(N,Zc [Zi 0,Zi (-9223372036854775808),Zp,Zp])] [] (Zv (Yv (We (Xm (V3 2 [1,0] (.inr J) Z6 J ?_))))))));exact O7 (hkd.trans (W4 (n:=0) c2)) (Dr _ c3)
  ·skip
   refine Yp (Xj (Z9 4 [] [(4,Zq N 0)] [] (N+1) [(N,Zc [Zi 0,SV.v (.int .i64 (Int.ofNat (Xf 12 (raw.drop (nx raw a))).1 - 3)),Zp,Zp])] [] (Zv (Yv (We (Xm (V3 2 [1,0] (.inr J) Z6 J ?_)))))));exact O7 (hkd.trans (W4 (n:=0) c2)) (Dq _ hm c3)
 ·skip
  refine Zu (Zg 2 [] [(29,SV.v (.bool (ieq (.ofNat k) 1)))] [] (Zv (W6 J (fun c4=>?_) (fun c4=>?_))))
  ·skip
   refine Zu (Z9 3 [] [(4,Zq N 0)] [] (N+1) [(N,Zc [Zi 1,Zi 0,Zp,Zp])] [] (Zv (Yv (We (Xm (V3 2 [1,0] (.inr J) Z6 J ?_))))));exact Dt (hkd.trans (W4 (n:=1) c4))
  ·skip
   refine Zu (Zg 2 [] [(33,SV.v (.bool (ieq (.ofNat k) 2)))] [] (Zv (W6 J (fun c5=>?_) (fun c5=>?_))))
   ·skip
    refine Zu (Zg 1 [] [(35,Zq r 0)] [] (Sz 1 1 [0] [] Z6 J J J J (Tn hw hi (by decide)) J ?_));refine Z9 3 [] [(4,Zq N 0)] [] (N+1) [(N,Zc [Zi 2,SV.v (.int .i64 (.ofNat ((Xf 3 (raw.drop (nx raw a))).1))),Zp,Zp])] [] (Zv (Yv (We (Xm (V3 2 [1,0] (.inr J) Z6 J ?_)))));exact Ds (hkd.trans (W4 (n:=2) c5))
   ·skip
    have h0:=Vi (n:=0) c2;have h1:=Vi (n:=1) c4;have h2:=Vi (n:=2) c5;omega
theorem tree_C {d:Nat} (hd:d<=100) (ih:∀ (a N:Nat) (U:Ch),Wi v U raw->HF Tryz.prog 28 [.ptr r 0,Zn d] N ([(r,.cells [v,Zn a])]++U) (TrR d raw r v a U)) (hw:Wi v U raw) (hi:∀ x ∈ raw,Yu x) (hk0:(Xf 8 (raw.drop a)).1=k) (hkd:Ta (d+1) (raw.drop a)=k) (hk8:k<8):HF Tryz.prog 28 [.ptr r 0,Zn (d+1)] N ([(r,.cells [v,Zn a])]++U) (TrR (d+1) raw r v a U):=by
 have hm:=U4 (n:=12) (by omega) (raw.drop (nx raw a));refine hf1 Tryz.func28 J Tryz.ntmps28 fun _ _ _ _=>?_;refine Zu (Zg 1 [] [(4,Zp)] [] (Yh (Zg 1 [] [(8,Zq r 0)] [] (Sz 1 1 [0] [] Z6 J J J J ((hk0 ▸ Tn hw hi (by decide))) J ?_))));refine Zg 1 [] [(5,Zn k)] [] (Yi (Zu (Zg 6 [] [(15,Zb false)] [] (Zv (Yw J (Yp (Z2 (Yb (Zu (Zg 1 [] [(18,Zn k)] [] (Zv (Ye (Zu (Zg 2 [] [(19,SV.v (.bool (ieq (.ofNat k) 0)))] [] (Zv (W6 J (fun c2=>?_) (fun c2=>?_)))))))))))))))))
 ·skip
  refine Zu (Zg 1 [] [(21,Zq r 0)] [] (Sz 1 1 [0] [] Z6 J J J J (Tn hw hi (by decide)) J ?_));refine Ya (v:=.v (.int .i64 (Int.ofNat (Xf 12 (raw.drop (nx raw a))).1 - 3))) J (Zbb J J J (by simp only [Yu,Int.ofNat_eq_natCast];omega)) rfl ?_;refine Zg 1 [] [(6,SV.v (.int .i64 (Int.ofNat (Xf 12 (raw.drop (nx raw a))).1 - 3)))] [] (Yi (Zu (Zg 2 [] [(25,SV.v (.bool (ieq (Int.ofNat (Xf 12 (raw.drop (nx raw a))).1 - 3) 8)))] [] (Zv (W6 J (fun c3=>?_) (fun c3=>?_))))))
  ·skip
   refine Z0 (Zg 1 [] [(6,Zi (-9223372036854775808))] [] (Yh (Z9 4 [] [(4,Zq N 0)] [] (N+1) [(N,Zc [Zi 0,Zi (-9223372036854775808),Zp,Zp])] [] (Zv (Yv (We (Xm (V3 2 [1,0] (.inr J) Z6 J ?_))))))));exact O7 (hkd.trans (W4 (n:=0) c2)) (Dr _ c3)
  ·skip
   refine Yp (Xj (Z9 4 [] [(4,Zq N 0)] [] (N+1) [(N,Zc [Zi 0,SV.v (.int .i64 (Int.ofNat (Xf 12 (raw.drop (nx raw a))).1 - 3)),Zp,Zp])] [] (Zv (Yv (We (Xm (V3 2 [1,0] (.inr J) Z6 J ?_)))))));exact O7 (hkd.trans (W4 (n:=0) c2)) (Dq _ hm c3)
 ·skip
  refine Zu (Zg 2 [] [(29,SV.v (.bool (ieq (.ofNat k) 1)))] [] (Zv (W6 J (fun c4=>?_) (fun c4=>?_))))
  ·skip
   refine Zu (Z9 3 [] [(4,Zq N 0)] [] (N+1) [(N,Zc [Zi 1,Zi 0,Zp,Zp])] [] (Zv (Yv (We (Xm (V3 2 [1,0] (.inr J) Z6 J ?_))))));exact Dt (hkd.trans (W4 (n:=1) c4))
  ·skip
   refine Zu (Zg 2 [] [(33,SV.v (.bool (ieq (.ofNat k) 2)))] [] (Zv (W6 J (fun c5=>?_) (fun c5=>?_))))
   ·skip
    refine Zu (Zg 1 [] [(35,Zq r 0)] [] (Sz 1 1 [0] [] Z6 J J J J (Tn hw hi (by decide)) J ?_));refine Z9 3 [] [(4,Zq N 0)] [] (N+1) [(N,Zc [Zi 2,SV.v (.int .i64 (.ofNat ((Xf 3 (raw.drop (nx raw a))).1))),Zp,Zp])] [] (Zv (Yv (We (Xm (V3 2 [1,0] (.inr J) Z6 J ?_)))));exact Ds (hkd.trans (W4 (n:=2) c5))
   ·skip
    refine Yp (Y1 (Xj (Zg 1 [] [(39,Zn k)] [] (Ya (v:=Zn (k % 4)) J (Jz J J J (by omega) (by decide)) J ?_))));refine Ya (v:=Zn (6+(k % 4))) J (X7 J J J (by omega)) J ?_;refine Z9 3 [] [(7,Zq N 0)] [] (N+1) [(N,Zc [Zn (6+(k % 4)),Zi 0,Zp,Zp])] [] (Yh (Zg 3 [] [(44,Zq N 0),(45,Zq r 0),(46,Zn (d+1))] [] (Ya (v:=Zn ((d+1) - 1)) J (R9 J J J (by omega) (by omega)) J ?_)));refine Sj 2 [1] [0] Z6 J J J J (ih _ _ _ hw) ?_;rintro _ N1 _ ⟨pa,HA,a1,rfl,rfl,hA,ha1⟩;refine ⟨_,([(r,Zc [v,Zn a1]),(N,Zc [Zn (6+(k % 4)),Zi 0,Zp,Zp])]++(HA++U)),J,Wv (A:=[(r,.cells [v,Zn a1])]) (R:=[(N,.cells [Zn (6+(k % 4)),Zi 0,Zp,Zp])]) (T:=(HA++U)),?_⟩;refine Z9 3 [1] [] [] N1 [] [(1,Zc [Zn (6+(k % 4)),Zi 0,Zq pa 0,Zp])] (Yh (Zg 3 [] [(51,Zq N 0),(52,Zq r 0),(53,Zn (d+1))] [] (Ya (v:=Zn ((d+1) - 1)) J (R9 J J J (by omega) (by omega)) J ?_)));refine Sj 2 [0] [1] Z6 J J J J (ih _ _ _ (hw.more HA)) ?_;rintro _ N2 _ ⟨pb,HB,a2,rfl,rfl,hB,ha2⟩;refine ⟨_,([(r,Zc [v,Zn a2]),(N,Zc [Zn (6+(k % 4)),Zi 0,Zq pa 0,Zp])]++(HB++(HA++U))),J,Wv (A:=[(r,.cells [v,Zn a2])]) (R:=[(N,.cells [Zn (6+(k % 4)),Zi 0,Zq pa 0,Zp])]) (T:=(HB++(HA++U))),?_⟩;refine Z9 3 [1] [] [] N2 [] [(1,Zc [Zn (6+(k % 4)),Zi 0,Zq pa 0,Zq pb 0])] (Yh (Zg 2 [] [(4,Zq N 0)] [] (Zv (Yv (V3 2 [0,1] (.inr J) Z6 J ?_)))));exact Zrc hkd (by have h1:=Vi (n:=0) c2;have h2:=Vi (n:=1) c4;have h3:=Vi (n:=2) c5;omega) hA ha1 hB ha2
theorem Ei (hi:∀ x ∈ raw,Yu x):∀ (d:Nat),d<=100->∀ (a N:Nat) (U:Ch),Wi v U raw->HF Tryz.prog 28 [.ptr r 0,Zn d] N ([(r,.cells [v,Zn a])]++U) (TrR d raw r v a U)
 | 0,_,a,N,U,hw=>by
  have h8:=U4 (n:=8) (by omega) (raw.drop a);by_cases h:2<(Xf 8 (raw.drop a)).1
  ·exact tree_A hw hi J h (kind_r h) h8
  ·exact tree_B hw hi J h (kind_0 h)
 | d+1,hd,a,N,U,hw=>tree_C (by omega) (Ei hi d (by omega)) hw hi rfl kind_up (U4 (by omega) _)
end
end S
end Go.Proofs.YtpofmnfkdkmieaaGreat
