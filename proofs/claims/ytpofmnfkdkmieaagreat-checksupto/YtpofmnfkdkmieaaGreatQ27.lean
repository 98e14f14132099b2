/- What is proved here: what Check asks, as plain functions: whi -/
import Derived.Test.YtpofmnfkdkmieaaGreatQ06
import GoSem.Op.String
import Derived.WalkKit
import Derived.Test.YtpofmnfkdkmieaaGreatQ14
import Derived.MapKept
set_option linter.unusedVariables false
set_option linter.unusedSimpArgs false
namespace Go.Proofs.YtpofmnfkdkmieaaGreat
namespace At
structure Bl where
 cls:ByteArray
 above:ByteArray
theorem Bl.ext' {a b:Bl} (h1:a.cls=b.cls) (h2:a.above=b.above):a=b:=by cases a;cases b;simp_all
theorem Ty.ext' {a b:Ty} (h1:a.kind=b.kind) (h2:a.cls=b.cls):a=b:=by cases a;cases b;simp_all
def obS:ByteArray:=⟨#[79,98,106,101,99,116]⟩
def thS:ByteArray:=⟨#[84,104,114,111,119,97,98,108,101]⟩
def erS:ByteArray:=⟨#[69,114,114,111,114]⟩
def otherS:List ByteArray:=[⟨#[78,111,67,108,97,115,115]⟩,⟨#[66,97,100,70,111,114,109]⟩,⟨#[67,105,114,99,117,108,97,114]⟩,⟨#[66,97,100,67,108,97,115,115]⟩,⟨#[78,111,70,105,101,108,100]⟩,⟨#[78,111,77,101,116,104,111,100]⟩,
 ⟨#[66,97,100,73,110,105,116]⟩,⟨#[65,114,105,116,104]⟩,⟨#[78,117,108,108,82,101,102]⟩,⟨#[66,97,100,67,97,115,116]⟩,⟨#[66,111,117,110,100,115]⟩,⟨#[66,97,100,83,105,122,101]⟩,⟨#[72,101,97,112]⟩,⟨#[68,101,101,112]⟩]
def Vg (s:ByteArray):Option ByteArray:=if s=obS then some mt else if s=thS then some obS else if s=erS then some thS else if otherS.any (fun x=>decide (s=x)) then some erS else none
def upS (s:ByteArray):List ByteArray:=if s=obS then [] else if s=thS then [obS] else if s=erS then [thS,obS] else if otherS.any (fun x=>decide (s=x)) then [erS,thS,obS] else []
def Yx:Ty:=⟨1,mt⟩
def Uh:Ty:=⟨2,mt⟩
def nullT:Ty:=⟨5,mt⟩
def P5:Ty:=⟨4,mt⟩
def Xu (s:ByteArray):Ty:=⟨3,s⟩
def Wq (c:Cl) (a b:Ty):Option (Option Bl) :=
 if a.kind=b.kind∧a.cls=b.cls then some none
 else if a.kind=5 then (if b.kind=2∨b.kind=3 then some none else none)
 else if ¬ a.kind=3∨¬ b.kind=3 then none
 else if b.cls=obS then some none
 else match Vg a.cls with
  | some _=>if (upS a.cls).any (fun x=>decide (x=b.cls)) then some none else none
  | none=>if a.cls=c.name∧b.cls=c.super then some none else some (some ⟨a.cls,b.cls⟩)
abbrev Set (α:Type):=α→Prop
def addO (o:Option Bl) (G:Set Bl):Set Bl:=fun x=>G x∨o=some x
def Sb (c:Cl) (p:Ty × Ty) (G:Set Bl):Option (Set Bl):=(Wq c p.1 p.2).map fun o=>addO o G
def Wg (c:Cl):List (Ty × Ty)→Set Bl→Option (Set Bl)
 | [],G=>some G
 | p::l,G=>(Sb c p G).bind (Wg c l)
theorem addO_none (G:Set Bl):addO none G=G:=by funext x;simp [addO]
theorem addO_comm (o o':Option Bl) (G:Set Bl):addO o (addO o' G)=addO o' (addO o G):=by
 funext x;simp only [addO,eq_iff_iff]
 constructor
 ·rintro ((h | h) | h)<;>simp [h]
 ·rintro ((h | h) | h)<;>simp [h]
theorem addFcomm (c:Cl) (p q:Ty × Ty) (G:Set Bl):(Sb c p G).bind (Sb c q)=(Sb c q G).bind (Sb c p):=by
 unfold Sb;cases h1:Wq c p.1 p.2 with
 | none=>cases h2:Wq c q.1 q.2<;>simp
 | some o =>
  cases h2:Wq c q.1 q.2 with
  | none=>simp
  | some o'=>simp [addO_comm]
theorem Um (c:Cl):∀ (l l':List (Ty × Ty)) (G:Set Bl),Wg c (l++l') G=(Wg c l G).bind (Wg c l')
 | [],l',G=>rfl
 | p::l,l',G=>by
  simp only [List.cons_append,Wg,Option.bind_assoc];congr 1;funext G'
  exact Um c l l' G'
theorem Lf (c:Cl) (p:Ty × Ty):∀ (l:List (Ty × Ty)) (G:Set Bl),(Sb c p G).bind (Wg c l)=(Wg c l G).bind (Sb c p)
 | [],G=>by simp [Wg]
 | q::l,G=>by
  simp only [Wg];rw [← Option.bind_assoc,addFcomm,Option.bind_assoc,Option.bind_assoc];congr 1;funext G'
  exact Lf c p l G'
theorem addAll_swap (c:Cl):∀ (l l':List (Ty × Ty)) (G:Set Bl),Wg c (l++l') G=Wg c (l'++l) G
 | [],l',G=>by simp
 | p::l,l',G=>by
  have h:Wg c (p::l++l') G=(Wg c (l++l') G).bind (Sb c p):=Lf c p (l++l') G;rw [h,addAll_swap c l l' G,← Lf,]
  have h2:Wg c (l'++p::l) G=((Wg c l' G).bind (Sb c p)).bind (Wg c l):=by
   rw [Um];simp only [Wg,Option.bind_assoc]
  rw [h2,← Lf,Option.bind_assoc];congr 1;funext G'
  rw [Um]
structure St where
 gr:Set Bl
 lo:List Ty
 st:List Ty
 alive:Bool
def V9 (s:St):Option (Ty × St):=match s.st.getLast? with
 | none=>none
 | some t=>some (t,{ s with st:=s.st.dropLast })
def grF (s:St) (o:Option (Set Bl)):Option St:=o.map fun G=>{ s with gr:=G }
def Va (c:Cl) (t:Ty) (s:St):Option St:=(V9 s).bind fun r=>grF r.2 (Sb c (r.1,t) r.2.gr)
def Xe (c:Cl):List Ty→St→Option St
 | [],s=>some s
 | t::l,s=>(Xe c l s).bind (Va c t)
def Qi (ks:List Int) (s:St):Option St:=(V9 s).bind fun r=>if r.1.kind ∈ ks then some r.2 else none
def U1 (m:Me) (t:Ty) (s:St):Option St:=if (s.st.length:Int)<m.stack then some { s with st:=s.st++[t] } else none
def Vw (m:Me) (t:Ty) (s:St):Option St:=if t.kind=0 then some s else U1 m t s
def loadF (m:Me) (n:Int) (s:St):Option St:=match s.lo[n.toNat]? with
 | none=>none
 | some t=>if t.kind=4 then none else U1 m t s
def P8 (n:Int) (s:St):Option St:=(V9 s).map fun r=>{ r.2 with lo:=r.2.lo.set n.toNat r.1 }
def opF (c:Cl) (m:Me) (i:Ins) (s:St):Option St:=match i.op.toNat with
 | 1=>U1 m Yx s
 | 2=>loadF m i.n s
 | 3=>P8 i.n s
 | 4=>(V9 s).map (·.2)
 | 5=>(V9 s).bind fun r=>U1 m r.1 s
 | 6=>(Xe c [Yx,Yx] s).bind (U1 m Yx)
 | 7=>(Xe c [Yx,Yx] s).bind (U1 m Yx)
 | 8=>(Xe c [Yx,Yx] s).bind (U1 m Yx)
 | 9=>(Xe c [Yx,Yx] s).bind (U1 m Yx)
 | 11=>Xe c [Yx] s
 | 12=>Xe c [Yx,Yx] s
 | 13=>Qi [3,2,5] s
 | 14=>U1 m nullT s
 | 15=>U1 m (Xu i.ref.cls) s
 | 16=>(Va c (Xu i.ref.cls) s).bind (Vw m i.ref.ty)
 | 17=>(Va c i.ref.ty s).bind (Va c (Xu i.ref.cls))
 | 18=>Vw m i.ref.ty s
 | 19=>Va c i.ref.ty s
 | 20=>((Xe c i.ref.params s).bind (Va c (Xu i.ref.cls))).bind (Vw m i.ref.ty)
 | 21=>(Xe c i.ref.params s).bind (Vw m i.ref.ty)
 | 22=>if m.result.kind=0 then some s else none
 | 23=>if m.result.kind=0 then none else Va c m.result s
 | 24=>Va c (Xu thS) s
 | 25=>(Qi [3,5] s).bind (U1 m (Xu i.ref.cls))
 | 26=>(Qi [3,5] s).bind (U1 m Yx)
 | 27=>Xe c [Yx] s
 | 28=>U1 m Yx s
 | 29=>(Xe c [Yx] s).bind (U1 m Uh)
 | 30=>(Xe c [Uh,Yx] s).bind (U1 m Yx)
 | 31=>Xe c [Uh,Yx,Yx] s
 | 32=>(Xe c [Uh] s).bind (U1 m Yx)
 | _=>some s
def U0 (m:Me) (pos:Int):Option Fr:=m.frames.find? fun f=>decide (f.pos=pos)
def S9 (lo fl:List Ty):List (Ty × Ty):=(lo.zip fl).filter fun p=>decide (¬ p.2.kind=4)
def Vf (c:Cl) (m:Me) (st:List Ty) (pos:Int) (s:St):Option St:=match U0 m pos with
 | none=>none
 | some f=>if st.length=f.stack.length then grF s (Wg c (S9 s.lo f.locals++st.zip f.stack) s.gr) else none
def Wv (c:Cl) (m:Me) (pos:Int) (s:St):Option St:=match U0 m pos with
 | none=>if s.alive then some s else none
 | some f=>if f.stack.any (fun t=>decide (t.kind=4)) then none
  else (if s.alive then Vf c m s.st pos s else some s).map fun s'=>⟨s'.gr,f.locals,f.stack,true⟩
def N7 (h:Hd):ByteArray:=if h.cls=mt then thS else h.cls
def Uu (c:Cl) (m:Me) (pos:Int) (h:Hd) (s:St):Option St :=
 if h.lo≤pos∧pos<h.hi then (grF s (Sb c (Xu (N7 h),Xu thS) s.gr)).bind (Vf c m [Xu (N7 h)] h.pos) else some s
def Vn (c:Cl) (m:Me) (pos:Int):List Hd→St→Option St
 | [],s=>some s
 | h::l,s=>(Uu c m pos h s).bind (Vn c m pos l)
theorem handFapp (c:Cl) (m:Me) (pos:Int):∀ (l l':List Hd) (s:St),Vn c m pos (l++l') s=(Vn c m pos l s).bind (Vn c m pos l')
 | [],l',s=>rfl
 | h::l,l',s=>by
  simp only [List.cons_append,Vn,Option.bind_assoc];congr 1;funext s'
  exact handFapp c m pos l l' s'
def N8 (c:Cl) (m:Me) (i:Ins) (s:St):Option St:=if Xk i.op=3 then Vf c m s.st i.n s else some s
def endsB (op:Int):Bool:=decide (op=10) || decide (22≤op)&&decide (op≤24)
def doF (c:Cl) (m:Me) (i:Ins) (s:St):Option St:=((opF c m i s).bind (N8 c m i)).map fun s=>{ s with alive := !endsB i.op }
def N2 (m:Me) (pos:Nat) (s:St):Option St:=if pos+1<m.code.length∨s.alive=false then some s else none
def R5 (c:Cl) (m:Me) (pos:Nat) (i:Ins) (s:St):Option St:=(((Wv c m pos s).bind (Vn c m pos m.handlers)).bind (doF c m i)).bind (N2 m pos)
def Uk (c:Cl) (m:Me):List Ty:=(if m.stat then [] else [Xu c.name])++m.params
def Ng (c:Cl) (m:Me) (G:Set Bl):St:=⟨G,Uk c m++List.replicate (m.locals.toNat - (Uk c m).length) P5,[],true⟩
def stF (c:Cl) (m:Me) (G:Set Bl):Nat→Option St
 | 0=>some (Ng c m G)
 | k+1=>match m.code[k]? with
  | none=>none
  | some i=>(stF c m G k).bind (R5 c m k i)
def V3 (c:Cl):Nat→Option (Set Bl)
 | 0=>some fun _=>False
 | n+1=>match c.methods[n]? with
  | none=>none
  | some m=>(V3 c n).bind fun G=>(stF c m G m.code.length).map (·.gr)
def Fails (c:Cl) (n pos:Nat):Prop:=∃ m i G s,c.methods[n]?=some m∧m.code[pos]?=some i∧V3 c n=some G∧stF c m G pos=some s∧R5 c m pos i s=none
theorem stFnone {c:Cl} {m:Me} {G:Set Bl} {k:Nat} (h:stF c m G k=none):∀ j,stF c m G (k+j)=none
 | 0=>h
 | j+1=>by
  show stF c m G (k+j+1)=none;unfold stF;split
  ·rfl
  ·rw [stFnone h j];rfl
theorem stFfails {c:Cl} {m:Me} {G:Set Bl} {pos:Nat} {i:Ins} {s:St} (hi:m.code[pos]?=some i) (h:stF c m G pos=some s) (hs:R5 c m pos i s=none) {k:Nat} (hk:pos<k):stF c m G k=none:=by
 have h1:stF c m G (pos+1)=none:=by
  show (match m.code[pos]? with | none=>none | some i=>(stF c m G pos).bind (R5 c m pos i))=none;rw [hi,h];exact hs
 have:=stFnone h1 (k - (pos+1))
 rwa [show pos+1+(k - (pos+1))=k by omega] at this
theorem grantFnone {c:Cl} {k:Nat} (h:V3 c k=none):∀ j,V3 c (k+j)=none
 | 0=>h
 | j+1=>by
  show V3 c (k+j+1)=none;unfold V3;split
  ·rfl
  ·rw [grantFnone h j];rfl
theorem Wa {α:Type} {l:List α} {i:Nat} {x:α} (h:l[i]?=some x):i<l.length:=by
 rcases Nat.lt_or_ge i l.length with h' | h'
 ·exact h'
 ·rw [List.getElem?_eq_none h'] at h;cases h
theorem Fails.grant {c:Cl} {n pos:Nat} (h:Fails c n pos) {k:Nat} (hk:n<k):V3 c k=none:=by
 obtain ⟨m,i,G,s,hm,hi,hG,hs,hst⟩:=h
 have h1:V3 c (n+1)=none:=by
  show (match c.methods[n]? with | none=>none | some m=>(V3 c n).bind fun G=>(stF c m G m.code.length).map (·.gr))=none;rw [hm,hG];show (stF c m G m.code.length).map (·.gr)=none;rw [stFfails hi hs hst (Wa hi)];rfl
 have:=grantFnone h1 (k - (n+1))
 rwa [show n+1+(k - (n+1))=k by omega] at this
theorem Fails.one {c:Cl} {n pos n' pos':Nat} (h:Fails c n pos) (h':Fails c n' pos'):n=n'∧pos=pos':=by
 have hn:n=n':=by
  obtain ⟨_,_,G,_,_,_,hG,_,_⟩:=id h;obtain ⟨_,_,G',_,_,_,hG',_,_⟩:=id h';rcases Nat.lt_trichotomy n n' with hlt | heq | hlt
  ·rw [h.grant hlt] at hG';cases hG'
  ·exact heq
  ·rw [h'.grant hlt] at hG;cases hG
 subst hn;refine ⟨J,?_⟩;obtain ⟨m,i,G,s,hm,hi,hG,hs,hst⟩:=h;obtain ⟨m',i',G',s',hm',hi',hG',hs',hst'⟩:=h';rw [hm] at hm';cases hm';rw [hG] at hG';cases hG';rcases Nat.lt_trichotomy pos pos' with hlt | heq | hlt
 ·rw [stFfails hi hs hst hlt] at hs';cases hs'
 ·exact heq
 ·rw [stFfails hi' hs' hst' hlt] at hs;cases hs
open Go.Op (bytesLess)
theorem bl_irrefl:∀ a:List UInt8,bytesLess a a=false
 | []=>rfl
 | a::x=>by simp [bytesLess,bl_irrefl x]
theorem bl_trans:∀ a b c:List UInt8,bytesLess a b=true→bytesLess b c=true→bytesLess a c=true
 | _,_,[],_,h=>by simp [bytesLess] at h
 | _,[],_::_,h,_=>by simp [bytesLess] at h
 | [],_::_,_::_,_,_=>rfl
 | a::x,b::y,c::z,h,k=>by
  simp only [bytesLess,Bool.or_eq_true,Bool.and_eq_true,decide_eq_true_eq,beq_iff_eq] at h k ⊢;rcases h with h | ⟨rfl,h⟩
  ·rcases k with k | ⟨rfl,k⟩
   ·exact .inl (UInt8.lt_trans h k)
   ·exact .inl h
  ·rcases k with k | ⟨rfl,k⟩
   ·exact .inl k
   ·exact .inr ⟨J,bl_trans x y z h k⟩
theorem bl_tri:∀ a b:List UInt8,bytesLess a b=true∨a=b∨bytesLess b a=true
 | [],[]=>.inr (.inl rfl)
 | [],_::_=>.inl rfl
 | _::_,[]=>.inr (.inr rfl)
 | a::x,b::y=>by
  simp only [bytesLess,Bool.or_eq_true,Bool.and_eq_true,decide_eq_true_eq,beq_iff_eq];rcases (show a<b∨a=b∨b<a from by simp only [UInt8.lt_iff_toNat_lt];rcases Nat.lt_trichotomy a.toNat b.toNat with h | h | h;exact .inl h;exact .inr (.inl (UInt8.toNat_inj.1 h));exact .inr (.inr h)) with h | rfl | h
  ·exact .inl (.inl h)
  ·rcases bl_tri x y with h | rfl | h
   ·exact .inl (.inr ⟨J,h⟩)
   ·exact .inr (.inl J)
   ·exact .inr (.inr (.inr ⟨J,h⟩))
  ·exact .inr (.inr (.inl h))
def ltS (a b:ByteArray):Bool:=bytesLess a.toList b.toList
theorem toList_inj {a b:ByteArray} (h:a.toList=b.toList):a=b:=by
 rw [ByteArray.toList_eq,ByteArray.toList_eq] at h;exact ByteArray.ext (Array.toList_inj.1 h)
theorem ltS_irrefl (a:ByteArray):ltS a a=false:=bl_irrefl _
theorem ltS_trans {a b c:ByteArray} (h:ltS a b=true) (k:ltS b c=true):ltS a c=true:=bl_trans _ _ _ h k
theorem ltS_tri (a b:ByteArray):ltS a b=true∨a=b∨ltS b a=true:=by
 rcases bl_tri a.toList b.toList with h | h | h
 ·exact .inl h
 ·exact .inr (.inl (toList_inj h))
 ·exact .inr (.inr h)
def ltB (a b:Bl):Bool:=ltS a.cls b.cls || decide (a.cls=b.cls)&&ltS a.above b.above
theorem Qs (a:Bl):ltB a a=false:=by simp [ltB,ltS_irrefl]
theorem Pw {a b c:Bl} (h:ltB a b=true) (k:ltB b c=true):ltB a c=true:=by
 simp only [ltB,Bool.or_eq_true,Bool.and_eq_true,decide_eq_true_eq] at h k ⊢;rcases h with h | ⟨e,h⟩
 ·rcases k with k | ⟨e',k⟩
  ·exact .inl (ltS_trans h k)
  ·exact .inl (e' ▸ h)
 ·rcases k with k | ⟨e',k⟩
  ·exact .inl (e ▸ k)
  ·exact .inr ⟨e.trans e',ltS_trans h k⟩
theorem ltB_tri (a b:Bl):ltB a b=true∨a=b∨ltB b a=true:=by
 simp only [ltB,Bool.or_eq_true,Bool.and_eq_true,decide_eq_true_eq];rcases ltS_tri a.cls b.cls with h | h | h
 ·exact .inl (.inl h)
 ·rcases ltS_tri a.above b.above with k | k | k
  ·exact .inl (.inr ⟨h,k⟩)
  ·exact .inr (.inl (Bl.ext' h k))
  ·exact .inr (.inr (.inr ⟨h.symm,k⟩))
 ·exact .inr (.inr (.inl h))
abbrev Srt (l:List Bl):Prop:=l.Pairwise fun a b=>ltB a b=true
theorem srt_one:∀ {l l':List Bl},Srt l→Srt l'→(∀ x,x ∈ l↔x ∈ l')→l=l'
 | [],[],_,_,_=>rfl
 | [],b::l',_,_,h=>absurd ((h b).2 List.mem_cons_self) (by simp)
 | a::l,[],_,_,h=>absurd ((h a).1 List.mem_cons_self) (by simp)
 | a::l,b::l',hs,hs',h=>by
  replace hs:=List.pairwise_cons.1 hs;replace hs':=List.pairwise_cons.1 hs'
  have hab:a=b:=by
   rcases List.mem_cons.1 ((h a).1 List.mem_cons_self) with e | e
   ·exact e
   ·rcases List.mem_cons.1 ((h b).2 List.mem_cons_self) with e' | e'
    ·exact e'.symm
    ·have h1:=hs'.1 a e;have h2:=hs.1 b e';have h3:=Pw h1 h2;rw [Qs] at h3;cases h3
  subst hab;have ha:a ∉ l:=fun hm=>by have:=hs.1 a hm;rw [Qs] at this;cases this
  have ha':a ∉ l':=fun hm=>by have:=hs'.1 a hm;rw [Qs] at this;cases this
  rw [srt_one hs.2 hs'.2 (fun x=>?_)];constructor
  ·intro hx;rcases List.mem_cons.1 ((h x).1 (List.mem_cons_of_mem _ hx)) with e | e
   ·subst e;exact absurd hx ha
   ·exact e
  ·intro hx;rcases List.mem_cons.1 ((h x).2 (List.mem_cons_of_mem _ hx)) with e | e
   ·subst e;exact absurd hx ha'
   ·exact e
theorem srt_ins {l:List Bl} {b:Bl} {k:Nat} (hs:Srt l) (hk:k≤l.length) (h1:∀ (j:Nat) x,j<k→l[j]?=some x→ltB x b=true) (h2:∀ x,l[k]?=some x→ltB x b=false∧x≠b):Srt (l.take k++b::l.drop k):=by
 have hd:∀ y ∈ l.drop k,ltB b y=true:=by
  intro y hy
  have hpos:k<l.length:=by
   rcases Nat.lt_or_ge k l.length with h | h
   ·exact h
   ·rw [List.drop_of_length_le h] at hy;cases hy
  have hx:=h2 l[k] (List.getElem?_eq_getElem hpos)
  have hbx:ltB b l[k]=true:=by
   rcases ltB_tri l[k] b with h | h | h
   ·rw [hx.1] at h;cases h
   ·exact absurd h hx.2
   ·exact h
  rw [List.drop_eq_getElem_cons hpos] at hy;rcases List.mem_cons.1 hy with rfl | hy
  ·exact hbx
  ·have hp:Srt (l.drop k):=hs.sublist (List.drop_sublist _ _);rw [List.drop_eq_getElem_cons hpos] at hp;replace hp:=List.pairwise_cons.1 hp;exact Pw hbx (hp.1 y hy)
 refine List.pairwise_append.2 ⟨hs.sublist (List.take_sublist _ _),List.pairwise_cons.2 ⟨hd,hs.sublist (List.drop_sublist _ _)⟩,?_⟩;intro x hx y hy;obtain ⟨j,hj⟩:=List.mem_iff_getElem?.1 hx;have hjk:j<k:=by have:=Wa hj;rw [List.length_take] at this;omega
 have hxb:ltB x b=true:=h1 j x hjk (by rw [List.getElem?_take] at hj;rw [if_pos hjk] at hj;exact hj);rcases List.mem_cons.1 hy with rfl | hy
 ·exact hxb
 ·exact Pw hxb (hd y hy)
theorem ins_mem {l:List Bl} {b x:Bl} (k:Nat):x ∈ l.take k++b::l.drop k↔x ∈ l∨x=b:=by
 constructor
 ·intro h;rcases List.mem_append.1 h with h | h
  ·exact .inl (List.mem_of_mem_take h)
  ·rcases List.mem_cons.1 h with h | h
   ·exact .inr h
   ·exact .inl (List.mem_of_mem_drop h)
 ·rintro (h | rfl)
  ·rw [← List.take_append_drop k l] at h;rcases List.mem_append.1 h with h | h
   ·exact List.mem_append_left _ h
   ·exact List.mem_append_right _ (List.mem_cons_of_mem _ h)
  ·exact List.mem_append_right _ List.mem_cons_self
end At
namespace E
open Go Go.RowKit
section
variable {P:Program} {n:Nat} {E:Env} {w0:World} {F:List Nat} {H:Hp} {R:Asr}
theorem Ex_lssS {t t':TypeId} {x y:Operand} {i j:ByteArray} (hx:ev E x=some (.string i)) (hy:ev E y=some (.string j)):Ex P n E w0 F H R (.binOp .lss t x y t') (.bool (At.ltS i j)) :=
 Ex_binS hx hy (fun w=>by simp only [Op.stringOp];rfl) (by simp [binOp])
theorem Ex_sliceLo {t e k:TypeId} {x lo:Operand} {p:Option Addr} {l c h:Nat} (ht:TS P t e k) (hx:ev E x=some (.slice p l c)) (hh:ev E lo=some (iN h)) (h2:h≤l) :
  Ex P n E w0 F H R (.slice t x (some lo) none none) (.slice (if c=h then p else p.map (·.add (h*k))) (l - h) (c - h)):=⟨fun w _ a ha _ _ _ _ _=>by
 simp only [execOp,Option.map_some,Option.map_none];rw [ha.eval hx,ha.eval hh];have hz:=ht.2 w;simp [Instr.sliceAt,run_underlying ht.1,Instr.slice,Instr.sliceBounds,Instr.sliceBound,asIntOf,h2,hz]⟩
end
theorem teBl (d:Nat) (a b:ByteArray) (s t:ByteArray) (w:World):(Op.equalIn (d+2) 136 (.agg #[.string a,.string s]) (.agg #[.string b,.string t])).run Tryz.prog w=.ok (eqS a b&&eqS s t) w:=by
 have hs:Tryz.prog.stoodInHeld 136=false:=by kernel_rfl
 have h3:∀ w:World,(Op.equalIn (d+1) 9 (.string a) (.string b)).run Tryz.prog w=.ok (a.toList==b.toList) w:=fun w=>run_equalIn_string w d 9 a b (Sk rfl);have h9:∀ w:World,(Op.equalIn (d+1) 9 (.string s) (.string t)).run Tryz.prog w=.ok (s.toList==t.toList) w:=fun w=>run_equalIn_string w d 9 s t (Sk rfl);have hu:=Tryz.underlying136;rw [show d+2=(d+1)+1 from rfl,Op.equalIn];simp only [Sem.run_bind,run_underlying hu,Result.andThen_ok,run_program,hs,Bool.false_eq_true,if_false];simp [part,isAgg,run_underlying (Sk (t:=9) rfl),h3,h9,eqS_beq];cases h:eqS a b<;>cases h2:eqS s t<;>simp
theorem Ex_eqlBl {n:Nat} {E:Env} {w0:World} {F:List Nat} {H:Hp} {R:Asr} {t':TypeId} {x y:Operand} {a b:ByteArray} {s t:ByteArray} (hx:ev E x=some (.agg #[.string a,.string s])) (hy:ev E y=some (.agg #[.string b,.string t])) :
  Ex Tryz.prog n E w0 F H R (.binOp .eql 136 x y t') (.bool (eqS a b&&eqS s t)):=Ex_eqlN (by kernel_rfl) hx hy (fun w=>teBl 9998 a b s t w)
def roA (u:World) (o:List Nat) (Q:World→Prop):Asr :=
 ⟨o,fun w=>∀ w',Below u.heap.size u w'→(∀ k ∈ o,w'.heap[k]?=w.heap[k]?)→Q w',fun _ _ h hk w'' hb he=>h w'' hb fun k hm=>(he k hm).trans (hk k hm)⟩
theorem Sy {u w:World} {o:List Nat} {Q:World→Prop} (h:(roA u o Q).A w) (hb:Below u.heap.size u w):Q w:=h w hb fun _ _=>rfl
theorem roA_map {u:World} {o:List Nat} {Q Q':World→Prop} (h:∀ w,Q w→Q' w):(roA u o Q).Imp (roA u o Q'):=⟨fun _ hk=>hk,fun _ ha w' hb he=>h w' (ha w' hb he)⟩
theorem roA_old {u:World} {Q:World→Prop} (h:∀ w,Below u.heap.size u w→Q w) (R:Asr):R.Imp ((roA u [] Q).and R) :=
 ⟨fun x hx=>by simpa [roA,Asr.and] using hx,fun _ ha=>⟨fun w' hb _=>h w' hb,ha,fun _ hk=>by simp [roA] at hk⟩⟩
end E
section
open Go Go.RowKit At E
theorem tysA_ro {u:World} {v:Value} {l:List Ty} (ho:Q1 l):(T4 v l).Imp (roA u v.ownBlock.toList (Yu · v l)) :=
 ⟨fun _ hk=>hk,fun _ ha _ _ he=>tysA_at (owns_kept ha he) ho⟩
theorem Yu.shape {w:World} {v:Value} {l:List Ty} (h:Yu w v l):∃ p c,v=.slice p l.length c∧(l.length≤1048576∧l.length≤c)∧(0<l.length→∃ b o,p=some ⟨b,o,none⟩):=by
 obtain ⟨p,c,hv,hl,hr⟩:=h.is;refine ⟨p,c,hv,hl,fun h0=>?_⟩;obtain ⟨b,o,r,hp,_⟩:=hr 0 l[0] (List.getElem?_eq_getElem h0);exact ⟨b,o,hp⟩
theorem R6 {u w0:World} {F:List Nat} {H:Hp} {R:Asr} {b o n c i:Nat} {l:List Ty} {t:Ty} (h:∀ w,Sat w0 F H R w→Yu w (.slice (some ⟨b,o,none⟩) n c) l) (hi:l[i]?=some t):Row w0 F H R b (o+i*2) (tyV t):=⟨fun w hs j v hj=>by
 obtain ⟨p,c',hv, -,hr⟩:=(h w hs).parts;cases hv;obtain ⟨b',o',hp, -,hc⟩:=hr i t hi;cases hp;exact hc j v hj⟩
theorem cell_ro {u w0:World} {F:List Nat} {H:Hp} {R:Asr} {b o n c i j:Nat} {l:List Ty} {t:Ty} {v:Value} (h:∀ w,Sat w0 F H R w→Yu w (.slice (some ⟨b,o,none⟩) n c) l) (hi:l[i]?=some t) (hv:(tyV t)[j]?=some v):Cell w0 F H R ⟨b,o+i*2+j,none⟩ v :=
 ⟨fun w hs=>(R6 (u:=u) h hi).go w hs j v hv⟩
theorem Yu.cut {w:World} {p:Option Addr} {c:Nat} {l:List Ty} (h:Yu w (.slice p l.length c) l) (k:Nat) (hk:k≤l.length):Yu w (.slice p k c) (l.take k):=by
 obtain ⟨p',c',hv,hl,hr⟩:=h.is;cases hv;refine ⟨p,c,by rw [List.length_take,Nat.min_eq_left hk],⟨by rw [List.length_take];omega,by rw [List.length_take];omega⟩,fun i x hi=>?_⟩;have hik:i<k:=by have:=Wa hi;rw [List.length_take] at this;omega
 rw [List.getElem?_take,if_pos hik] at hi;exact hr i x hi
structure CkM where
 gr:List Bl
 gv:Value
 lo:List Ty
 lv:Value
 lb:List Nat
 st:List Ty
 sv:Value
 sb:List Nat
 alive:Bool
 bad:Bool
def blV (b:Bl):List Value:=[.string b.cls,.string b.above]
def U2 (v:Value) (l:List Bl):Asr:=Y0 136 2 v l.length (l.flatMap blV)
def ckL (u:World) (k:CkM):Asr:=(roA u k.lb (Yu · k.lv k.lo)).and (roA u k.sb (Yu · k.sv k.st))
def ckA (u:World) (k:CkM):Asr:=(U2 k.gv k.gr).and (ckL u k)
structure CkX where
 c:Cl
 fv:Value
 mv:Value
 m:Me
 pv:Value
 cv:Value
 hv:Value
 rv:Value
def ckC (x:CkX) (k:CkM):List Value:=[.string x.c.name,.string x.c.super,x.fv,x.mv,.string x.m.name,.bool x.m.stat,x.pv,.int .i64 x.m.result.kind,.string x.m.result.cls,.int .i64 x.m.locals,.int .i64 x.m.stack,x.cv,x.hv,x.rv,k.gv,k.lv,k.sv,.bool k.alive,.bool k.bad]
def sem (k:CkM):Option St:=if k.bad then none else some ⟨fun x=>x ∈ k.gr,k.lo,k.st,k.alive⟩
structure StOk (m:Me) (s:St):Prop where
 len:(s.st.length:Int)≤m.stack
 st:∀ t ∈ s.st,¬ t.kind=0∧¬ t.kind=4
 lo:∀ t ∈ s.lo,¬ t.kind=0
structure CkOk (x:CkX) (k:CkM):Prop where
 lo:(k.lo.length:Int)=x.m.locals
 srt:Srt k.gr
 ok:∀ s,sem k=some s→StOk x.m s
def okF (u:World) (x:CkX) (k:CkM) (f:St→Option St) (d e:Nat):Value→List Value→Asr→Prop:=fun v cs' R' =>
 v=.tuple #[]∧∃ k',cs'=ckC x k'∧R'.Imp (ckA u k')∧CkOk x k'∧k'.gr.length≤k.gr.length+d∧k'.st.length≤k.st.length+e∧sem k'=(sem k).bind f
end
namespace E
open Go Go.RowKit
section
variable {P:Program} {n:Nat} {E:Env} {w0:World} {F:List Nat} {H:Hp} {R:Asr} {fn:Func} {Z:Ending→World→Prop} {κ:List Kf}
theorem WL_appX {all:Array Oper} {l:List Oper} {d:Nat} {t ty e size bytes:Nat} {z v:Value} {x y:Operand} {p:String} {g:Array Edge} {k m c:Nat} {q:Option Addr} {xs news:List Value} (hd:Nat.blt d n=true) (ht:TA P t e size bytes z) (hx:ev E x=some v)
  (hy:ev E y=some (.slice q m c)) (hc:0<m→∃ b o,q=some ⟨b,o,none⟩∧Row w0 F H ((Y0 e size v k xs).and R) b o news) (hl:news.length=m*size) (h1:news.all (·.oneCell')=true) (h63:k+m≤maxLen) (hbytes:(k+m)*bytes≤140737488355328)
  (h:∀ v',WL P n all l ((d,v')::E) w0 F H (Asr.and (Y0 e size v' (k+m) (xs++news)) R) fn Z κ) :
  WL P n all (⟨some d,.call ⟨.builtin .append,#[x,y],#[t,t]⟩,ty,p,g,none⟩::l) E w0 F H (Asr.and (Y0 e size v k xs) R) fn Z κ:=by
 by_cases hm:m=0
 ·subst hm;have hnl:news=[]:=List.eq_nil_of_length_eq_zero (by rw [hl];simp);subst hnl;refine ⟨fun w hs a ha=>wpList_plain J fun K hK=>?_⟩;obtain ⟨i,hi,hz,hsz,hb⟩:=info_parts ht.inf;have hown:w.ownsRow 0 e size v k xs:=hs.res.1
  have he:(execOp a.eval ⟨some d,.call ⟨.builtin .append,#[x,y],#[t,t]⟩,ty,p,g,none⟩).run P w=.ok (.value v) w:=by
   simp only [execOp,resolve,invoke,builtin];rcases hown.2 with ⟨rfl,rfl⟩ | ⟨g',cap,cur,rfl,_,_,hnc,_⟩
   ·cases q with
    | none=>simp [ha.eval hx,ha.eval hy,Builtin.append_,run_underlying ht.sl,sizeOf,typeInfo,hi,Builtin.lenOf,Builtin.firstCells,loadCells,loadCellsFrom]
    | some aa=>simp [ha.eval hx,ha.eval hy,Builtin.append_,run_underlying ht.sl,sizeOf,typeInfo,hi,Builtin.lenOf,Builtin.firstCells,loadCells,loadCellsFrom]
   ·cases q with
    | none=>simp [ha.eval hx,ha.eval hy,Builtin.append_,run_underlying ht.sl,sizeOf,typeInfo,hi,Builtin.lenOf,Builtin.firstCells,loadCells,loadCellsFrom,storeCells,hnc]
    | some aa=>simp [ha.eval hx,ha.eval hy,Builtin.append_,run_underlying ht.sl,sizeOf,typeInfo,hi,Builtin.lenOf,Builtin.firstCells,loadCells,loadCellsFrom,storeCells,hnc]
  unfold Oper.wp;rw [he];refine hK _ _ ((h v).go w ?_ _ (ha.put hd _));rw [Nat.add_zero,List.append_nil];exact hs
 ·obtain ⟨b,o,rfl,hrow⟩:=hc (by omega);exact Ww hd ht hx hy hrow hl h1 h63 hbytes h
theorem Rk_end0r {w:World} {b:Nat} {cs':List Value} {Rin:Asr} {ok:Value→List Value→Asr→Prop} (hr:fn.results=#[]) (i:Nat) (hp:H[i]?=some (b,cs')) (h:ok (.tuple #[]) cs' R) :
  WQ P n .ret E w (b::Rin.S) H R fn (RkZ b w Rin ok) [] :=
 WQ_end0r hr fun _ hs=>⟨_,cs',R,rfl,h,hs.only hp⟩
theorem Ye {all:Array Oper} {l:List Oper} {d f b:Nat} {xs:List Operand} {vs:List Value} {ts:Array TypeId} {t:TypeId} {p:String} {e:Array Edge} {cs:List Value} {u:World} {ok:Value→List Value→Asr→Prop} (hf:IsFn P f)
  (hd:Nat.blt d n=true) (hx:args E xs=some vs) (i:Nat) (hp:H[i]?=some (b,cs)) (hu:Below u.heap.size u w0) (hF:∀ x ∈ F,u.heap.size≤x) (hc:RuP P f vs.toArray u b cs R ok)
  (h:∀ v cs' R',ok v cs' R'→WL P n all l ((d,v)::E) w0 F (H.set i (b,cs')) R' fn Z κ) :
  WL P n all (⟨some d,.call ⟨.value (.func f),xs.toArray,ts⟩,t,p,e,none⟩::l) E w0 F H R fn Z κ :=
 Zz (Asr.addNone R) (Vx hf hd hx i hp hu hF hc fun v cs' R' hok=>Zz (Asr.fst R' Asr.none) (h v cs' R' hok))
end
end E
section
open Go Go.RowKit At E
theorem ba_beq (a:ByteArray):(a==a)=true:=by
 rcases a with ⟨d⟩;show (d==d)=true;simp
theorem sameB (d:Nat) (a s:ByteArray):Instr.sameBits (d+2) (.agg #[.string a,.string s]) (.agg #[.string a,.string s])=true:=by
 simp [Instr.sameBits,ba_beq]
theorem check_bl (e:Bool) (d:Nat) (a s:ByteArray) (w:World):(Instr.checkKey e (d+2) 136 (.agg #[.string a,.string s])).run Tryz.prog w=.ok () w:=by
 have hu:=Tryz.underlying136;rw [Instr.checkKey];simp only [Sem.run_bind,run_underlying hu,Result.andThen_ok];simp [part,isAgg,run_underlying (Sk (t:=9) rfl),Instr.checkKey]
def Mf (bl:Bl):List Bl→Nat→Option Nat
 | [],_=>none
 | e::es,i=>if eqS bl.cls e.cls&&eqS bl.above e.above then some i else Mf bl es (i+1)
theorem ask_bl (bl:Bl) (w:World):∀ (l:List MapEntry) (es:List Bl) (i:Nat),l.map (·.key)=es.map (fun e=>Value.agg (blV e).toArray)→(∀ x ∈ l,x.val=.agg #[]) →
  (Instr.findAsking 136 (.agg (blV bl).toArray) l i).run Tryz.prog w=.ok ((Mf bl es i).map fun j=>(j,Value.agg #[])) w
 | [],[],i,_,_=>by simp [Instr.findAsking,Mf]
 | [],_::_,i,h,_=>by simp at h
 | _::_,[],i,h,_=>by simp at h
 | x::l,e::es,i,h,hv=>by
  simp only [List.map_cons,List.cons.injEq] at h;have hx:=hv x List.mem_cons_self
  have he:(Op.equal 136 (.agg (blV bl).toArray) x.key).run Tryz.prog w=.ok (eqS bl.cls e.cls&&eqS bl.above e.above) w:=by
   rw [h.1];exact teBl 9998 bl.cls e.cls bl.above e.above w
  unfold Instr.findAsking Mf;simp only [Sem.run_bind,he,Result.andThen_ok];by_cases hc:(eqS bl.cls e.cls&&eqS bl.above e.above)=true
  ·simp only [hc,if_true];rw [hx];rfl
  ·have hc':(eqS bl.cls e.cls&&eqS bl.above e.above)=false:=by simpa using hc
   simp only [hc',Bool.false_eq_true,if_false];exact ask_bl bl w l es (i+1) h.2 (fun y hy=>hv y (List.mem_cons_of_mem _ hy))
theorem find_none {bl:Bl}:∀ {es:List Bl} {i:Nat},Mf bl es i=none→bl ∉ es
 | [],_,_,h=>by cases h
 | e::es,i,hf,h=>by
  unfold Mf at hf;split at hf
  ·cases hf
  ·rename_i hc
   rcases List.mem_cons.1 h with rfl | h
   ·exact hc (by simp [eqS])
   ·exact find_none hf h
theorem find_some {bl:Bl}:∀ {es:List Bl} {i j:Nat},Mf bl es i=some j→∃ k,j=i+k∧es[k]?=some bl
 | [],_,_,h=>by cases h
 | e::es,i,j,hf=>by
  unfold Mf at hf;split at hf
  ·rename_i hc
   cases hf;rw [Bool.and_eq_true] at hc;exact ⟨0,J,by simp;exact (Bl.ext' (of_decide_eq_true hc.1) (of_decide_eq_true hc.2)).symm⟩
  ·obtain ⟨k,rfl,hk⟩:=find_some hf;exact ⟨k+1,by omega,by simpa using hk⟩
def isSt:TypeDesc→Bool
 | .struct _=>true
 | _=>false
theorem find_now {d:TypeDesc} {bl:Bl} (l:List MapEntry) (es:List Bl) (hk:l.map (·.key)=es.map (fun e=>Value.agg (blV e).toArray)) (hd:isSt d=true):(Instr.findNow d (.agg (blV bl).toArray) l 0=some none∧Mf bl es 0=none)∨Instr.findNow d (.agg (blV bl).toArray) l 0=none:=by
 cases l with
 | nil =>
  cases es with
  | nil=>exact .inl ⟨rfl,rfl⟩
  | cons e es=>simp at hk
 | cons m ml =>
  right;cases d<;>rfl
def Q4 (b:Nat) (es:List Bl):Asr:=⟨[b],fun w=>∃ arr clock,w.heap[b]?=some (.map arr clock)∧arr.toList.map (·.key)=es.map (fun e=>Value.agg (blV e).toArray)∧(∀ x ∈ arr.toList,x.val=.agg #[]∧x.born<clock)∧(arr.toList.map (·.born)).Nodup∧es.Nodup,
 fun w w' h hk=>by rw [hk b List.mem_cons_self];exact h⟩
theorem Sat.mapSet {w0 w:World} {F:List Nat} {H:Hp} {R:Asr} {b:Nat} {es es':List Bl} (hs:Sat w0 F H ((Q4 b es).and R) w) (o:Obj) (ho:(Q4 b es').A { w with heap:=w.heap.setIfInBounds b o }):Sat w0 F H ((Q4 b es').and R) { w with heap:=w.heap.setIfInBounds b o }:=by
 have hbS:b ∈ ((Q4 b es).and R).S:=List.mem_append_left _ List.mem_cons_self;have hsz:(w.heap.setIfInBounds b o).size=w.heap.size:=Array.size_setIfInBounds;have hne:∀ k,k≠b→(w.heap.setIfInBounds b o)[k]?=w.heap[k]?:=fun k hk=>Array.getElem?_setIfInBounds_ne (fun e=>hk e.symm);refine ⟨⟨hs.low.os,hs.low.tape,hs.low.output,by show w0.heap.size≤(w.heap.setIfInBounds b o).size;rw [hsz];exact hs.low.size,fun k hk hF=>?_⟩,?_,hs.hi,hs.apart,⟨ho,?_,hs.res.2.2⟩,fun k hk=>⟨(hs.rhi k hk).1,by show k<(w.heap.setIfInBounds b o).size;rw [hsz];exact (hs.rhi k hk).2⟩,hs.rapart⟩
 ·have hkb:k≠b:=fun e=>by
   subst e;rcases (hs.rhi _ hbS).1 with h | h
   ·exact hF h
   ·omega
  show (w.heap.setIfInBounds b o)[k]?=_;rw [hne k hkb];exact hs.low.block k hk hF
 ·intro p hp;have hpb:p.1≠b:=fun e=>hs.rapart p hp (e ▸ hbS);show ∃ t,(w.heap.setIfInBounds b o)[p.1]?=_;rw [hne _ hpb];exact hs.own p hp
 ·refine R.st w _ hs.res.2.1 fun k hk=>?_;have hkb:k≠b:=fun e=>hs.res.2.2 b List.mem_cons_self (e ▸ hk);exact hne k hkb
theorem find_bl {bl:Bl} {es:List Bl} {w:World} {arr:Array MapEntry} (hkeys:arr.toList.map (·.key)=es.map (fun e=>Value.agg (blV e).toArray)) (hvals:∀ x ∈ arr.toList,x.val=.agg #[]) :
  (Instr.findKey 136 (.agg (blV bl).toArray) arr.toList).run Tryz.prog w=.ok ((Mf bl es 0).map fun j=>(j,Value.agg #[])) w:=by
 have hub:=Tryz.underlying136;unfold Instr.findKey;simp only [Sem.run_bind,run_underlying hub,Result.andThen_ok];rcases find_now (d:=(Tryz.prog.underlying 136).getD .string) arr.toList es hkeys (by kernel_rfl) with ⟨h1,h2⟩ | h1
 ·rw [hub] at h1;simp only [Option.getD_some] at h1;rw [h1,h2];rfl
 ·rw [hub] at h1;simp only [Option.getD_some] at h1;rw [h1];exact ask_bl bl w arr.toList es 0 hkeys hvals
theorem umB:Tryz.prog.underlying 197=some (.map 136 273):=by kernel_rfl
theorem upd_new {b clock:Nat} {bl:Bl} {es:List Bl} {w:World} {arr:Array MapEntry} (hb:w.heap[b]?=some (.map arr clock)) (hkeys:arr.toList.map (·.key)=es.map (fun e=>Value.agg (blV e).toArray)) (hvals:∀ x ∈ arr.toList,x.val=.agg #[]) (hf:Mf bl es 0=none) :
  (Instr.mapUpdate 197 (.map (some b)) (.agg (blV bl).toArray) (.agg #[])).run Tryz.prog w=.ok () { w with heap:=w.heap.setIfInBounds b (.map (arr.push { key:=.agg (blV bl).toArray,val:=.agg #[],born:=clock }) (clock+1)) }:=by
 have hc:(Instr.checkKey false 10000 136 (.agg (blV bl).toArray)).run Tryz.prog w=.ok () w:=check_bl false 9998 bl.cls bl.above w;have h1:=find_bl (bl:=bl) (w:=w) hkeys hvals;rw [hf] at h1;simp [Instr.mapUpdate,run_underlying umB,MapKept.run_getObj_map hb,hc,h1,MapKept.run_setObj_map _ hb,Result.andThen]
theorem upd_old {b clock j:Nat} {bl:Bl} {es:List Bl} {w:World} {arr:Array MapEntry} (hb:w.heap[b]?=some (.map arr clock)) (hkeys:arr.toList.map (·.key)=es.map (fun e=>Value.agg (blV e).toArray)) (hvals:∀ x ∈ arr.toList,x.val=.agg #[]) (hf:Mf bl es 0=some j) (hj:(arr[j]?).map (·.key)=some (.agg (blV bl).toArray)) :
  (Instr.mapUpdate 197 (.map (some b)) (.agg (blV bl).toArray) (.agg #[])).run Tryz.prog w=.ok () { w with heap:=w.heap.setIfInBounds b (.map (arr.modify j fun e=>{ e with key:=.agg (blV bl).toArray,val:=.agg #[] }) clock) }:=by
 have hc:(Instr.checkKey false 10000 136 (.agg (blV bl).toArray)).run Tryz.prog w=.ok () w:=check_bl false 9998 bl.cls bl.above w;have h1:=find_bl (bl:=bl) (w:=w) hkeys hvals;rw [hf] at h1
 have h2:(Instr.keyThatStays (.agg (blV bl).toArray) (.agg (blV bl).toArray)).run Tryz.prog w=.ok (.agg (blV bl).toArray) w:=by
  have:=sameB 9998 bl.cls bl.above;simp [Instr.keyThatStays,blV,this]
 simp [Instr.mapUpdate,run_underlying umB,MapKept.run_getObj_map hb,hc,h1,hj,h2,MapKept.run_setObj_map _ hb,Result.andThen]
theorem Nz {w:World} {b clock:Nat} {arr:Array MapEntry} (hb:w.heap[b]?=some (.map arr clock)):b<w.heap.size:=by
 rcases Nat.lt_or_ge b w.heap.size with h' | h'
 ·exact h'
 ·rw [Array.getElem?_eq_none h'] at hb;cases hb
theorem upd_any {b:Nat} {bl:Bl} {es:List Bl} {w:World} (hm:∃ arr clock,w.heap[b]?=some (.map arr clock)∧arr.toList.map (·.key)=es.map (fun e=>Value.agg (blV e).toArray)∧(∀ x ∈ arr.toList,x.val=.agg #[]∧x.born<clock)∧(arr.toList.map (·.born)).Nodup∧es.Nodup) :
  ∃ es' o,(bl ∈ es∧es'=es∨bl ∉ es∧es'=es++[bl])∧(Instr.mapUpdate 197 (.map (some b)) (.agg (blV bl).toArray) (.agg #[])).run Tryz.prog w=.ok () { w with heap:=w.heap.setIfInBounds b o }∧(Q4 b es').A { w with heap:=w.heap.setIfInBounds b o }:=by
 obtain ⟨arr,clock,hb,hkeys,hvals,hborn,hnd⟩:=hm;have hv1:∀ x ∈ arr.toList,x.val=.agg #[]:=fun x hx=>(hvals x hx).1;have hlt:b<w.heap.size:=Nz hb;have hset:∀ o,(w.heap.setIfInBounds b o)[b]?=some o:=fun o=>Array.getElem?_setIfInBounds_self_of_lt hlt;cases hfb:Mf bl es 0 with
 | none =>
  have hni:=find_none hfb;refine ⟨es++[bl],_,.inr ⟨hni,J⟩,upd_new hb hkeys hv1 hfb,⟨_,_,hset _,?_,?_,?_,?_⟩⟩
  ·simp [hkeys]
  ·intro x hx;simp only [Array.toList_push,List.mem_append,List.mem_singleton] at hx;rcases hx with hx | rfl
   ·exact ⟨hv1 x hx,Nat.lt_succ_of_lt (hvals x hx).2⟩
   ·exact ⟨J,Nat.lt_succ_self _⟩
  ·simp only [Array.toList_push,List.map_append,List.map_cons,List.map_nil];rw [List.nodup_append];refine ⟨hborn,by simp,?_⟩;intro u hu v hv e;simp only [List.mem_singleton] at hv;obtain ⟨x,hx,rfl⟩:=List.mem_map.1 hu;have:=(hvals x hx).2;omega
  ·rw [List.nodup_append];refine ⟨hnd,by simp,?_⟩;intro u hu v hv e;simp only [List.mem_singleton] at hv;subst hv;subst e;exact hni hu
 | some j =>
  obtain ⟨k,hjk,hk⟩:=find_some hfb
  have hj:(arr[j]?).map (·.key)=some (.agg (blV bl).toArray):=by
   have h1:(arr.toList.map (·.key))[j]?=(es.map (fun e=>Value.agg (blV e).toArray))[j]?:=by rw [hkeys]
   rw [List.getElem?_map,List.getElem?_map] at h1;have h2:es[j]?=some bl:=by rw [hjk,Nat.zero_add];exact hk
   rw [h2] at h1
   simpa using h1
  have hmem:bl ∈ es:=List.mem_of_getElem? hk;obtain ⟨m,hm1,hm2⟩:=Option.map_eq_some_iff.1 hj;have hmv:=hv1 m (by rw [Array.mem_toList_iff];exact Array.mem_of_getElem? hm1)
  have hmod:(arr.modify j fun e=>{ e with key:=.agg (blV bl).toArray,val:=.agg #[] })=arr:=by
   apply Array.ext_getElem?;intro i;rw [Array.getElem?_modify];by_cases hij:j=i
   ·subst hij;rw [if_pos rfl,hm1];rcases m with ⟨mk,mv,mb⟩;simp only at hm2 hmv;simp [hm2,hmv]
   ·rw [if_neg hij]
  have h1:=upd_old hb hkeys hv1 hfb hj;rw [hmod] at h1;exact ⟨es,_,.inl ⟨hmem,J⟩,h1,⟨_,_,hset _,hkeys,hvals,hborn,hnd⟩⟩
theorem ex_upd {n:Nat} {a:Act} {E:Env} {x y z:Operand} {ty:TypeId} {p:String} {g:Array Edge} {u v t:Value} {w w':World} (ha:Ag n a E) (hx:ev E x=some u) (hy:ev E y=some v) (hz:ev E z=some t) (h:(Instr.mapUpdate 197 u v t).run Tryz.prog w=.ok () w') :
  (execOp a.eval ⟨none,.mapUpdate 197 x y z,ty,p,g,none⟩).run Tryz.prog w=.ok .skip w':=by
 simp only [execOp];rw [ha.eval hx,ha.eval hy,ha.eval hz];simp only [Sem.run_bind,h,Result.andThen_ok];rfl
set_option maxRecDepth 20000 in
theorem WL_mapUpd {n:Nat} {E:Env} {w0:World} {F:List Nat} {H:Hp} {R:Asr} {fn:Func} {Z:Ending→World→Prop} {κ:List Kf} {all:Array Oper} {l:List Oper} {x y z:Operand} {ty:TypeId} {p:String} {g:Array Edge} {b:Nat} {bl:Bl} {es:List Bl}
  (hx:ev E x=some (.map (some b))) (hy:ev E y=some (.agg (blV bl).toArray)) (hz:ev E z=some (.agg #[]))
  (h:∀ es',(bl ∈ es∧es'=es∨bl ∉ es∧es'=es++[bl])→WL Tryz.prog n all l E w0 F H ((Q4 b es').and R) fn Z κ) :
  WL Tryz.prog n all (⟨none,.mapUpdate 197 x y z,ty,p,g,none⟩::l) E w0 F H ((Q4 b es).and R) fn Z κ :=
 ⟨fun w hs a ha=>wpList_plain rfl fun K hK=>(upd_any (bl:=bl) hs.res.1).elim fun es' h'=>h'.elim fun o h''=>by
  unfold Oper.wp;rw [ex_upd ha hx hy hz h''.2.1];exact hK _ _ ((h es' h''.1).go _ (Sat.mapSet hs o h''.2.2) _ ha)⟩
end
end Go.Proofs.YtpofmnfkdkmieaaGreat
