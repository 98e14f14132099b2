/- What is proved here: what it is for a list of a class to lie  -/
import Derived.Test.YtpofmnfkdkmieaaGreatQ04
import Derived.Test.YtpofmnfkdkmieaaGreatQ02
set_option linter.unusedVariables false
set_option linter.unusedSimpArgs false
namespace Go.Proofs.YtpofmnfkdkmieaaGreat
section
open Go.RowKit At E
def Yu (n:Int):Prop := -9223372036854775808<=n/\n<=9223372036854775807
def Uq (s:ByteArray):Prop:=s.size<=1048576
structure ListAt {α:Type} (k:Nat) (El:World->List Value->α->Prop) (w:World) (v:Value) (l:List α):Prop where
 is:∃ p c,v=.slice p l.length c/\(l.length<=1048576/\l.length<=c) /\
  ∀ i x,l[i]?=some x->∃ b o r,p=some ⟨b,o,none⟩/\b<w.heap.size/\El w r x/\∀ j u,r[j]?=some u->w.cell? ⟨b,o+i*k+j,none⟩=some u
theorem ListAt.mono {α:Type} {k:Nat} {El:World->List Value->α->Prop} {w w':World} {v:Value} {l:List α} (hEl:∀ r x,El w r x->El w' r x) (h:ListAt k El w v l) (hb:Below w.heap.size w w'):ListAt k El w' v l:=by
 obtain ⟨p,c,hv,hl,hr⟩:=h.is;refine ⟨p,c,hv,hl,fun i x hi=>?_⟩;obtain ⟨b,o,r,hp,hlt,he,hc⟩:=hr i x hi;exact ⟨b,o,r,hp,Nat.lt_of_lt_of_le hlt hb.size,hEl r x he,fun j u hj=>by rw [hb.cell (p:=⟨b,o+i*k+j,none⟩) hlt];exact hc j u hj⟩
def Jo (t:Ty):Prop:=Yu t.kind/\Uq t.cls
def tyV (t:Ty):List Value:=[.int .i64 t.kind,.string t.cls]
def TyEl (_:World) (r:List Value) (t:Ty):Prop:=r=tyV t/\Jo t
abbrev Uf:=ListAt 2 TyEl
theorem Uf.mono {w w':World} {v:Value} {l:List Ty} (h:Uf w v l) (hb:Below w.heap.size w w'):Uf w' v l:=ListAt.mono (w:=w) (fun _ _ h=>h) h hb
theorem Uf.ok {w:World} {v:Value} {l:List Ty} (h:Uf w v l):∀ t ∈ l,Jo t:=by
 intro t ht;obtain ⟨p,c,_,_,hr⟩:=h.is;obtain ⟨i,hi⟩:=List.mem_iff_getElem?.1 ht;obtain ⟨_,_,_,_,_,he,_⟩:=hr i t hi;exact he.2
theorem Uf.parts {w:World} {v:Value} {l:List Ty} (h:Uf w v l):∃ p c,v=.slice p l.length c/\(l.length<=1048576/\l.length<=c) /\
  ∀ i t,l[i]?=some t->∃ b o,p=some ⟨b,o,none⟩/\b<w.heap.size/\∀ j u,(tyV t)[j]?=some u->w.cell? ⟨b,o+i*2+j,none⟩=some u:=by
 obtain ⟨p,c,hv,hl,hr⟩:=h.is;refine ⟨p,c,hv,hl,fun i t hi=>?_⟩;obtain ⟨b,o,r,hp,hlt,he,hc⟩:=hr i t hi;obtain ⟨rfl,_⟩:=he;exact ⟨b,o,hp,hlt,hc⟩
def rfOk (r:Rf):Prop:=Uq r.cls/\Uq r.name/\Jo r.ty
def Zkk (i:Ins):Prop:=Yu i.op/\Yu i.n/\rfOk i.ref
def D5 (i:Ins) (pv:Value):List Value:=[.int .i64 i.op,.int .i64 i.n,.string i.ref.cls,.string i.ref.name,pv,.int .i64 i.ref.ty.kind,.string i.ref.ty.cls]
def Zaa (w:World) (r:List Value) (i:Ins):Prop:=∃ pv,r=D5 i pv/\Uf w pv i.ref.params/\Zkk i
theorem Zaa.mono {w w':World} {r:List Value} {i:Ins} (h:Zaa w r i) (hb:Below w.heap.size w w'):Zaa w' r i:=by
 obtain ⟨pv,h1,h2,h3⟩:=h;exact ⟨pv,h1,h2.mono hb,h3⟩
abbrev Gi:=ListAt 7 Zaa
theorem Gi.mono {w w':World} {v:Value} {l:List Ins} (h:Gi w v l) (hb:Below w.heap.size w w'):Gi w' v l:=ListAt.mono (w:=w) (fun _ _ h=>h.mono hb) h hb
def hdOk (h:Hd):Prop:=Yu h.lo/\Yu h.hi/\Yu h.pos/\Uq h.cls
def hdV (h:Hd):List Value:=[.int .i64 h.lo,.int .i64 h.hi,.int .i64 h.pos,.string h.cls]
def HdEl (_:World) (r:List Value) (h:Hd):Prop:=r=hdV h/\hdOk h
abbrev Zgd:=ListAt 4 HdEl
theorem Zgd.mono {w w':World} {v:Value} {l:List Hd} (h:Zgd w v l) (hb:Below w.heap.size w w'):Zgd w' v l:=ListAt.mono (w:=w) (fun _ _ h=>h) h hb
def frV (f:Fr) (lv sv:Value):List Value:=[.int .i64 f.pos,lv,sv]
def FrEl (w:World) (r:List Value) (f:Fr):Prop:=∃ lv sv,r=frV f lv sv/\Uf w lv f.locals/\Uf w sv f.stack/\Yu f.pos
theorem FrEl.mono {w w':World} {r:List Value} {i:Fr} (h:FrEl w r i) (hb:Below w.heap.size w w'):FrEl w' r i:=by
 obtain ⟨lv,sv,h1,h2,h3,h4⟩:=h;exact ⟨lv,sv,h1,h2.mono hb,h3.mono hb,h4⟩
abbrev Zgi:=ListAt 3 FrEl
theorem Zgi.mono {w w':World} {v:Value} {l:List Fr} (h:Zgi w v l) (hb:Below w.heap.size w w'):Zgi w' v l:=ListAt.mono (w:=w) (fun _ _ h=>h.mono hb) h hb
def fdOk (f:Fld):Prop:=Uq f.name/\Jo f.ty
def fdV (f:Fld):List Value:=[.string f.name,.bool f.stat,.int .i64 f.ty.kind,.string f.ty.cls]
def FdEl (_:World) (r:List Value) (f:Fld):Prop:=r=fdV f/\fdOk f
abbrev C3:=ListAt 4 FdEl
theorem C3.mono {w w':World} {v:Value} {l:List Fld} (h:C3 w v l) (hb:Below w.heap.size w w'):C3 w' v l:=ListAt.mono (w:=w) (fun _ _ h=>h) h hb
def meOk (m:Me):Prop:=Uq m.name/\Jo m.result/\Yu m.locals/\Yu m.stack
def meV (m:Me) (pv cv hv fv:Value):List Value:=[.string m.name,.bool m.stat,pv,.int .i64 m.result.kind,.string m.result.cls,.int .i64 m.locals,.int .i64 m.stack,cv,hv,fv]
structure MeParts (w:World) (m:Me) (pv cv hv fv:Value):Prop where
 ps:Uf w pv m.params
 cs:Gi w cv m.code
 hs:Zgd w hv m.handlers
 fs:Zgi w fv m.frames
 ok:meOk m
theorem MeParts.mono {w w':World} {m:Me} {pv cv hv fv:Value} (h:MeParts w m pv cv hv fv) (hb:Below w.heap.size w w'):MeParts w' m pv cv hv fv:=⟨h.ps.mono hb,h.cs.mono hb,h.hs.mono hb,h.fs.mono hb,h.ok⟩
def MeEl (w:World) (r:List Value) (m:Me):Prop:=∃ pv cv hv fv,r=meV m pv cv hv fv/\MeParts w m pv cv hv fv
theorem MeEl.mono {w w':World} {r:List Value} {m:Me} (h:MeEl w r m) (hb:Below w.heap.size w w'):MeEl w' r m:=by
 obtain ⟨pv,cv,hv,fv,h1,h2⟩:=h;exact ⟨pv,cv,hv,fv,h1,h2.mono hb⟩
abbrev Cu:=ListAt 10 MeEl
theorem Cu.mono {w w':World} {v:Value} {l:List Me} (h:Cu w v l) (hb:Below w.heap.size w w'):Cu w' v l:=ListAt.mono (w:=w) (fun _ _ h=>h.mono hb) h hb
def clV (c:Cl) (fv mv:Value):List Value:=[.string c.name,.string c.super,fv,mv]
structure ClAt (w:World) (c:Cl) (fv mv:Value):Prop where
 fs:C3 w fv c.fields
 ms:Cu w mv c.methods
 ok:Uq c.name/\Uq c.super
theorem ClAt.mono {w w':World} {c:Cl} {fv mv:Value} (h:ClAt w c fv mv) (hb:Below w.heap.size w w'):ClAt w' c fv mv:=⟨h.fs.mono hb,h.ms.mono hb,h.ok⟩
theorem Vu {w0 w:World} {H:Hp} {R:Asr} (hs:Sat w0 [] H R w):Below w0.heap.size w0 w:=hs.low.below
end

section
open Go.RowKit At E
def Qb (u:Nat):Nat->List UInt8
 | 0=>[]
 | k+1=>UInt8.ofNat (u % 256)::Qb (u/256) k
def u64 (n:Int):Nat:=(IntKind.u64.wrap n).toNat
def Wl (n:Int) (k:Nat):ByteArray:=⟨(Qb (u64 n) k).toArray⟩
theorem B6:∀ (k u:Nat),Qb u (k+1)=Qb u k++[UInt8.ofNat (u/256 ^ k % 256)]
 | 0,u=>by simp [Qb]
 | k+1,u=>by
  rw [Qb,B6 k (u/256),Qb,List.cons_append,Nat.div_div_eq_div_mul,Nat.pow_succ,Nat.mul_comm 256]
theorem Ra:∀ (k u:Nat),(Qb u k).length=k
 | 0,_=>rfl
 | k+1,u=>by rw [Qb,List.length_cons,Ra k]
theorem I3 (n:Int):IntKind.u64.wrap n=(u64 n:Int):=by
 unfold u64;have:0<=IntKind.u64.wrap n:=by rw [IntKind.wrap_u64];omega
 omega
theorem u64_lt (n:Int):u64 n<18446744073709551616:=by
 unfold u64;have h:IntKind.u64.wrap n<18446744073709551616:=by rw [IntKind.wrap_u64];omega
 omega
end

section
open Go.RowKit At E
def U2 (s:ByteArray):ByteArray:=Wl (s.size:Nat) 1++s
def Kx (b:Bool):ByteArray:=if b then Wl 1 1 else Wl 0 1
def W7 (t:Ty):ByteArray:=if t.kind=3 then Wl 3 1++U2 t.cls else Wl t.kind 1
def R3 (l:List Ty):ByteArray:=l.foldl (fun s t=>s++W7 t) (Wl (l.length:Nat) 1)
def Vy (i:Ins):ByteArray :=
 if X3 i.op=1 then Wl i.op 1++Wl i.n 8
 else if X3 i.op=2 then Wl i.op 1++Wl i.n 1
 else if X3 i.op=3 then Wl i.op 1++Wl i.n 2
 else if X3 i.op=4 then Wl i.op 1++U2 i.ref.cls
 else if X3 i.op=5 then Wl i.op 1++U2 i.ref.cls++U2 i.ref.name++W7 i.ref.ty
 else if X3 i.op=6 then Wl i.op 1++U2 i.ref.cls++U2 i.ref.name++R3 i.ref.params++W7 i.ref.ty
 else Wl i.op 1
theorem Xu (x:Int) (k:Nat):(Wl x k).size=k:=by
 show (Qb (u64 x) k).toArray.size=k;rw [List.size_toArray,Ra]
theorem Tg (s:ByteArray):(U2 s).size=1+s.size:=by unfold U2;rw [ByteArray.size_append,Xu]
theorem Jf (b:Bool):(Kx b).size=1:=by unfold Kx;split<;>rw [Xu]
theorem Qn (t:Ty):(W7 t).size<=2+t.cls.size:=by
 unfold W7;split
 ·rw [ByteArray.size_append,Xu,Tg];omega
 ·rw [Xu];omega
theorem D9 {α:Type} (f:α->ByteArray) (c:Nat):∀ (l:List α) (s:ByteArray),(∀ x ∈ l,(f x).size<=c)->(l.foldl (fun s x=>s++f x) s).size<=s.size+l.length*c
 | [],s,_=>by simp
 | x::r,s,h=>by
  have ih:=D9 f c r (s++f x) (fun y hy=>h y (List.mem_cons_of_mem _ hy));have hx:=h x List.mem_cons_self;rw [ByteArray.size_append] at ih;simp only [List.foldl_cons,List.length_cons,Nat.add_mul,Nat.one_mul];omega
theorem Lt (l:List Ty) (h:∀ t ∈ l,t.cls.size<=12):(R3 l).size<=1+l.length*14:=by
 have:=D9 W7 14 l (Wl (l.length:Nat) 1) (fun t ht=>by have:=Qn t;have:=h t ht;omega);rw [Xu] at this;exact this
theorem Zns {l:List Fr} {k:Nat} (hk:k<l.length) (a b:Int) (c:Nat):J8 l a b c k=Ml (Ki l k) l[k] a b c:=by
 simp [J8,List.getElem?_eq_getElem hk]
end
section
open Go.RowKit At E
theorem Uc {s:ByteArray} (h:Xz s=true):s.size<=12:=by
 unfold Xz at h;simp only [Bool.and_eq_true,decide_eq_true_eq] at h;exact h.1.2
theorem F4:(⟨#[]⟩:ByteArray).size=0:=rfl
theorem Rn {t:Ty} {v o:Bool} (h:Vv t v o=true):t.cls.size<=12:=by
 unfold Vv at h;split at h
 ·simp only [Bool.and_eq_true,decide_eq_true_eq] at h;rw [h.2,F4];omega
 split at h
 ·simp only [decide_eq_true_eq] at h;rw [h,F4];omega
 split at h
 ·exact Uc h
 split at h
 ·simp only [Bool.and_eq_true,decide_eq_true_eq] at h;rw [h.2,F4];omega
 ·cases h
theorem Rx {l:List Ty} {o:Bool} (h:Vl l o=true):∀ t ∈ l,t.cls.size<=12:=by
 intro t ht;unfold Vl at h;exact Rn (List.all_eq_true.1 h t ht)
theorem Dz {i:Ins} {a:Int} {n:Nat} (h:V9 i a n=true):i.ref.params.length<=6/\(∀ t ∈ i.ref.params,t.cls.size<=12)/\(Vy i).size<=200:=by
 unfold V9 at h;split at h
 ·cases h
 split at h
 ·split at h
  ·cases h
  ·rename_i h1 h2 h3
   have hp:i.ref.params.length=0:=by
    rcases Nat.eq_zero_or_pos i.ref.params.length with h0 | h0
    ·exact h0
    ·exact absurd (.inr (.inr (.inl (by omega)))) h3
   refine ⟨by omega,?_,?_⟩
   ·intro t ht;rw [List.length_eq_zero_iff.1 hp] at ht;cases ht
   ·have e4:¬ X3 i.op=4:=by omega
    have e5:¬ X3 i.op=5:=by omega
    have e6:¬ X3 i.op=6:=by omega
    unfold Vy;rw [if_neg e4,if_neg e5,if_neg e6];split
    ·simp only [ByteArray.size_append,Xu];omega
    split
    ·simp only [ByteArray.size_append,Xu];omega
    split
    ·simp only [ByteArray.size_append,Xu];omega
    ·simp only [Xu];omega
 ·rename_i h1 h2
  split at h
  ·cases h
  ·rename_i h3
   have hn:i.ref.cls.size<=12:=by
    cases hb:Xz i.ref.cls with
    | true=>exact Uc hb
    | false=>exact absurd (.inr hb) h3
   have e1:¬ X3 i.op=1:=by omega
   have e2:¬ X3 i.op=2:=by omega
   have e3:¬ X3 i.op=3:=by omega
   unfold Vy;rw [if_neg e1,if_neg e2,if_neg e3];split at h
   ·rename_i e4
    simp only [Bool.and_eq_true,decide_eq_true_eq] at h;have hp:i.ref.params.length=0:=by omega
    rw [if_pos e4];refine ⟨by omega,?_,by simp only [ByteArray.size_append,Xu,Tg];omega⟩;intro t ht;rw [List.length_eq_zero_iff.1 hp] at ht;cases ht
   ·rename_i e4
    rw [if_neg e4];split at h
    ·rename_i e5
     simp only [Bool.and_eq_true,decide_eq_true_eq] at h;have hp:i.ref.params.length=0:=by omega
     rw [if_pos e5];have ho:=Qn i.ref.ty;have ht':=Rn h.2;have hm:=Uc h.1.1;refine ⟨by omega,?_,by simp only [ByteArray.size_append,Xu,Tg];omega⟩;intro t ht;rw [List.length_eq_zero_iff.1 hp] at ht;cases ht
    ·rename_i e5
     rw [if_neg e5];simp only [Bool.and_eq_true,decide_eq_true_eq] at h;have ho:=Qn i.ref.ty;have ht':=Rn h.2;have hm:=Uc h.1.1.1;have h12:=Rx h.1.2;have hT:=Lt i.ref.params h12;refine ⟨by omega,h12,?_⟩;split
     ·simp only [ByteArray.size_append,Xu,Tg];omega
     ·simp only [Xu];omega
def hdS (s:ByteArray) (h:Hd):ByteArray:=s++Wl h.lo 2++Wl h.hi 2++Wl h.pos 2++U2 h.cls
def frS (s:ByteArray) (f:Fr):ByteArray:=s++Wl f.pos 2++R3 f.locals++R3 f.stack
def D7 (m:Me):ByteArray:=U2 m.name++Kx m.stat++R3 m.params++W7 m.result++Wl m.locals 1++Wl m.stack 1++Wl (m.code.length:Nat) 2
def A0 (m:Me):ByteArray:=m.code.foldl (fun s i=>s++Vy i) (D7 m)
def hdsS (m:Me):ByteArray:=m.handlers.foldl hdS (A0 m++Wl (m.handlers.length:Nat) 1)
def Qh (m:Me):ByteArray:=m.frames.foldl frS (hdsS m++Wl (m.frames.length:Nat) 1)
theorem O8 {α:Type} (g:ByteArray->α->ByteArray) (c:Nat):∀ (l:List α) (s:ByteArray),(∀ s,∀ x ∈ l,(g s x).size<=s.size+c)->(l.foldl g s).size<=s.size+l.length*c
 | [],s,_=>by simp
 | x::r,s,h=>by
  have ih:=O8 g c r (g s x) (fun s y hy=>h s y (List.mem_cons_of_mem _ hy));have hx:=h s x List.mem_cons_self;simp only [List.foldl_cons,List.length_cons,Nat.add_mul,Nat.one_mul];omega
structure MeSmall (m:Me):Prop where
 nm:m.name.size<=12
 ps:m.params.length<=6
 pt:∀ t ∈ m.params,t.cls.size<=12
 rt:m.result.cls.size<=12
 cl:m.code.length<=200
 hl:m.handlers.length<=10
 fl:m.frames.length<=60
 ci:∀ i ∈ m.code,i.ref.params.length<=6/\(∀ t ∈ i.ref.params,t.cls.size<=12)/\(Vy i).size<=200
 hi:∀ h ∈ m.handlers,h.cls.size<=12
 fi:∀ f ∈ m.frames,f.locals.length<=20/\f.stack.length<=20/\(∀ t ∈ f.locals,t.cls.size<=12)/\(∀ t ∈ f.stack,t.cls.size<=12)
theorem Fi {m:Me} (h:Uk m=true):MeSmall m:=by
 unfold Uk L9 at h;simp only [Bool.and_eq_true,decide_eq_true_eq] at h;obtain ⟨⟨⟨⟨⟨⟨⟨⟨⟨⟨⟨⟨⟨⟨h1,h2⟩,h3⟩,h4⟩,h5⟩,h6⟩,h7⟩,h8⟩,h9⟩,h10⟩,h11⟩,h12⟩,h13⟩,h14⟩,h15⟩:=h;refine ⟨Uc h1,by omega,Rx h2,Rn h3,by omega,by omega,by omega,fun i hi=>Dz (List.all_eq_true.1 h13 i hi),fun x hx=>?_,fun f hf=>?_⟩
 ·have:=List.all_eq_true.1 h14 x hx;unfold Ro at this;simp only [Bool.and_eq_true,Bool.or_eq_true,decide_eq_true_eq] at this;rcases this.2 with h' | h'
  ·exact Uc h'
  ·rw [h',F4];omega
 ·obtain ⟨k,hk⟩:=List.mem_iff_getElem?.1 hf
  have hkl:k<m.frames.length:=by
   rcases Nat.lt_or_ge k m.frames.length with h' | h'
   ·exact h'
   ·rw [List.getElem?_eq_none h'] at hk;cases hk
  have:=List.all_eq_true.1 h15 k (List.mem_range.2 hkl);unfold J8 at this;rw [hk] at this;simp only [Ml,Bool.and_eq_true,decide_eq_true_eq] at this;obtain ⟨⟨⟨⟨⟨⟨_,_⟩,_⟩,hl⟩,hs⟩,ht1⟩,ht2⟩:=this;exact ⟨by omega,by omega,Rx ht1,Rx ht2⟩
theorem Zsk {m:Me} (h:MeSmall m):(D7 m).size<=200:=by
 have h1:=Lt m.params h.pt;have h2:=Qn m.result;have:=h.nm;have:=h.ps;have:=h.rt;unfold D7;simp only [ByteArray.size_append,Xu,Tg,Jf];omega
theorem Ztp {m:Me} (h:MeSmall m) (k:Nat):((m.code.take k).foldl (fun s i=>s++Vy i) (D7 m)).size<=40200:=by
 have:=O8 (fun s i=>s++Vy i) 200 (m.code.take k) (D7 m) (fun s i hi=>by have:=(h.ci i (List.mem_of_mem_take hi)).2.2;simp only [ByteArray.size_append];omega);have h1:=Zsk h;have h2:=h.cl;have h3:(m.code.take k).length<=200:=by rw [List.length_take];omega
 have h4:(m.code.take k).length*200<=200*200:=Nat.mul_le_mul_right _ h3;omega
theorem hdsS_le {m:Me} (h:MeSmall m) (k:Nat):((m.handlers.take k).foldl hdS (A0 m++Wl (m.handlers.length:Nat) 1)).size<=41000:=by
 have:=O8 hdS 30 (m.handlers.take k) (A0 m++Wl (m.handlers.length:Nat) 1) (fun s i hi=>by have:=h.hi i (List.mem_of_mem_take hi);simp only [hdS,ByteArray.size_append,Xu,Tg];omega);have h1:=Ztp h m.code.length;rw [List.take_length] at h1;have h2:=h.hl;have h3:(m.handlers.take k).length<=10:=by rw [List.length_take];omega
 have h4:(m.handlers.take k).length*30<=10*30:=Nat.mul_le_mul_right _ h3;rw [ByteArray.size_append,Xu] at this;have h5:(A0 m).size<=40200:=h1;omega
theorem Zec {m:Me} (h:MeSmall m) (k:Nat):((m.frames.take k).foldl frS (hdsS m++Wl (m.frames.length:Nat) 1)).size<=90000:=by
 have:=O8 frS 700 (m.frames.take k) (hdsS m++Wl (m.frames.length:Nat) 1) (fun s i hi=>by
  obtain ⟨a,b,c,d⟩:=h.fi i (List.mem_of_mem_take hi);have e1:=Lt i.locals c;have e2:=Lt i.stack d;simp only [frS,ByteArray.size_append,Xu];omega)
 have h1:=hdsS_le h m.handlers.length;rw [List.take_length] at h1;have h2:=h.fl;have h3:(m.frames.take k).length<=60:=by rw [List.length_take];omega
 have h4:(m.frames.take k).length*700<=60*700:=Nat.mul_le_mul_right _ h3;rw [ByteArray.size_append,Xu] at this;have h5:(hdsS m).size<=41000:=h1;omega
theorem Ym (b:Bool) (w:World):Rz Tryz.prog 111 #[.bool b] w b:=by
 refine V0 (args:=[.bool b]) Tryz.func111 J Tryz.ntmps111 ?_;refine Zt (Zd (Za J (Zr J) (Za J (Zvm J) (Zo (Zj (Iw J ?_ ?_))))))
 ·intro c1;refine Zd (Za J (Zvq (P1 J) J) (Zup J (Yf ?_)));simp_all
 ·intro c1;refine Xe (V6 J ?_);simp_all
theorem J4 (c:Int) (w:World):Qd Tryz.prog 243 #[.int .u8 c] w (.bool (Bc c)):=by
 refine V0 (args:=[.int .u8 c]) Tryz.func243 J Tryz.ntmps243 ?_;refine Zt (Zd (Za J (Zx J) (Zo (Zj (Zt (Zd (Za J (Zr J) (Za J (Xo J J) (Za J (Zr J) (Xl J J J ?_ ?_))))))))))
 ·intro h1;refine Yd J J J (Zr J) (Yd J J J (Xo J J) (Za J (Xd J J) (Za J (Zr J) (Xl J J J ?_ ?_))))
  ·intro h2;refine Yk J J J (Yk J J J (Yk J J J (Zuo J J J (Zuo J J J (Yk J J J (Za J (Xd J J) (Za J (Zx J) (Zo (Zj (Yz (X8 J J ?_)))))))))));congr 1;rw [Bool.eq_iff_iff];simp [Bc];omega
  ·intro h2;refine Yd J J J (Zr J) (Yd J J J (Xo J J) (Yd J J J (Zr J) (Xl J J J ?_ ?_)))
   ·intro h3;refine Yd J J J (Zr J) (Yd J J J (Xo J J) (Yd J J J (Xd J J) (Za J (Y8 J J) (Za J (Zx J) (Zo (Zj (Yz (X8 J J ?_))))))));congr 1;rw [Bool.eq_iff_iff];simp [Bc];omega
   ·intro h3;refine Yk J J J (Yk J J J (Yd J J J (Y8 J J) (Za J (Y8 J J) (Za J (Zx J) (Zo (Zj (Yz (X8 J J ?_))))))));congr 1;rw [Bool.eq_iff_iff];simp [Bc];omega
 ·intro h1;refine Yk J J J (Yk J J J (Za J (Y8 J J) (Za J (Zr J) (Yd J J J (Zr J) (Yd J J J (Xo J J) (Yd J J J (Zr J) (Xl J J J ?_ ?_)))))))
  ·intro h4;refine Yd J J J (Zr J) (Yd J J J (Xo J J) (Yd J J J (Xd J J) (Za J (Y8 J J) (Za J (Zx J) (Zo (Zj (Yz (X8 J J ?_))))))));congr 1;rw [Bool.eq_iff_iff];simp [Bc];omega
  ·intro h4;refine Yk J J J (Yk J J J (Yd J J J (Y8 J J) (Za J (Y8 J J) (Za J (Zx J) (Zo (Zj (Yz (X8 J J ?_))))))));congr 1;rw [Bool.eq_iff_iff];simp [Bc];omega
theorem Zem (c:Int) (w:World):Qd Tryz.prog 244 #[.int .u8 c] w (.bool (digB c)):=by
 refine V0 (args:=[.int .u8 c]) Tryz.func244 J Tryz.ntmps244 ?_;refine Zt (Zd (Za J (Zx J) (Zo (Zj (Zt (Zd (Za J (Zr J) (Za J (Xo J J) (Za J (Zr J) (Xl J J J ?_ ?_))))))))))
 ·intro h1;refine Yd J J J (Zr J) (Yd J J J (Xo J J) (Za J (Xd J J) (Za J (Zx J) (Zo (Zj (Yz (X8 J J ?_)))))));congr 1;rw [Bool.eq_iff_iff];simp [digB];omega
 ·intro h1;refine Yk J J J (Yk J J J (Za J (Y8 J J) (Za J (Zx J) (Zo (Zj (Yz (X8 J J ?_)))))));congr 1;rw [Bool.eq_iff_iff];simp [digB];omega
theorem F2 {s:ByteArray} {k:Nat} (h:k<s.size):okAt s k=(Bc (s[k].toNat:Int) || (!(k==0)&&digB (s[k].toNat:Int))):=by unfold okAt;rw [Zog h]
theorem Zri {s:ByteArray} (h0:0<s.size) (h:Bc (s[0].toNat:Int)=false):Xz s=false:=Kw h0 (by rw [F2 h0,h];rfl)
theorem Wt (s:ByteArray) (w:World) (hs:Uq s):Rz Tryz.prog 139 #[.string s] w (Xz s):=by
 unfold Uq at hs;refine V0 (args:=[.string s]) Tryz.func139 J Tryz.ntmps139 ?_;refine Zt (Zd (Za J (Zr J) (Za J (Mi (Np J) J) (Za J (Vf J J) (Za J (Zr J) (Xl J J J ?_ ?_))))))
 ·intro h1;refine Yd J J J (Zr J) (Yd J J J (Mi (Np J) J) (Yd J J J (Xo J J) (Za J (Xd J J) (Z7 Xq J J (fun w _=>Ym _ w) ?_ ?_))))
  rotate_left
  ·intro o2;replace o2:=dFa o2;have hF:=Ku (s:=s) (by omega);refine Z3 (Yf ?_);exact hF
  intro o2;replace o2:=dTr o2;have hlen:0<s.size/\s.size<=12:=by omega
  refine Zo (Zj (Zt (Zd (Za J (Zr J) (Za J (Kn (Np J) J J ?_) ?_)))))
  ·show 0<s.size;omega
  refine Vw fn243 J J (fun w _=>J4 _ w) ?_;refine Z7 Xq J J (fun w _=>Ym _ w) ?_ ?_
  rotate_left
  ·intro o3;have hF:=Zri (s:=s) (by omega) (by assumption);refine Z3 (Yf ?_);exact hF
  intro o3;have hlet:Bc (s[0].toNat:Int)=true:=by assumption
  refine Zo (Zj (Zt (Zd (Za J (Zr J) (Za J (Mi (Np J) J) (Za J (Zr J) (Zo (Zj (Yy ?_)))))))));refine Vb (Vc (X:=Nat) (fun k=>[(0,.string s),(17,iN s.size),(18,iN k)]) _ _ (fun k=>[]) (fun k=>Asr.none) (fun k=>k<=s.size/\∀ j,j<k->okAt s j=true) (fun k=>s.size - k) (0) (⟨Nat.zero_le _,fun j hj=>absurd hj (Nat.not_lt_zero j)⟩) ?_) ⟨J,J,J,trivial⟩;intro k hI;refine Zt (Zd (Za J (Vf J J) (Zo (Zj (Zt (Xc J ?_ ?_))))))
  ·intro c1;have hk:k<s.size:=by omega
   refine Xe (Zj (Zt (Yy (Zt (Zd (Za J (Zr J) (Za J (Zx J) (Zo (Zj (Zd (Za J (Zr J) (Za J (Zr J) (Za J (Kn (Np J) J J ?_) ?_)))))))))))))
   ·omega
   refine Vw fn243 J J (fun w _=>J4 _ w) ?_;refine Za J (Zr J) (Eb J J J ?_ ?_)
   ·intro h4;refine Yk J J J (Yk J J J (Yk J J J (Yk J J J (Za J (Xd J J) (Z7 Xq J J (fun w _=>Ym _ w) ?_ ?_)))))
    rotate_left
    ·intro o5;cases o5
    intro _;refine Zo (Y3 (Zj (Zd ?_)));refine Za J (Vt J J ?_) ?_;omega;refine Za J (Zr J) (Zo ?_);refine Wh (k+1) ?_ (⟨hk,By hI.2 (by rw [F2 hk];by_cases h0:k=0<;>simp_all [digB])⟩) 0 rfl (rfl) ⟨rfl,rfl,rfl,trivial⟩;omega
   ·intro h4;refine Yd J J J (Zr J) (Yd J J J (Zr J) (Yd J J J (Kn (Np J) J J ?_) ?_))
    ·omega
    refine Jk fn244 J J J J (fun w _=>Zem _ w) ?_;refine Za J (Y8 J J) (Z7 Xq J J (fun w _=>Ym _ w) ?_ ?_)
    rotate_left
    ·intro o6;replace o6:=dFa o6;have hF:=Kw hk (by rw [F2 hk];simp_all [digB]);refine Z3 (Z3 (Z3 (Z3 (Yf ?_))));exact hF
    intro o6;replace o6:=dTr o6;refine Zo (Y3 (Zj (Zd ?_)));refine Za J (Vt J J ?_) ?_;omega;refine Za J (Zr J) (Zo ?_);refine Wh (k+1) ?_ (⟨hk,By hI.2 (by rw [F2 hk];by_cases h0:k=0<;>simp_all [digB])⟩) 0 rfl (rfl) ⟨rfl,rfl,rfl,trivial⟩;omega
  ·intro c1;refine Vd (Va (Wo (W9 (V6 J ?_))));exact Zbo (by omega) (by omega) (fun j hj=>hI.2 j (by omega))
 ·intro h1;refine Yk J J J (Yk J J J (Yk J J J (Za J (Y8 J J) (Z7 Xq J J (fun w _=>Ym _ w) ?_ ?_))))
  ·intro o7;cases o7
  intro _;have hF:=Ku (s:=s) (by omega);refine Z3 (Yf ?_);exact hF
def Mr (k:Int):Bool:=decide (k=1\/k=2\/k=3)
theorem Su (k:Int) (w:World):Qd Tryz.prog 246 #[.int .i64 k] w (.bool (Mr k)):=by
 refine V0 (args:=[.int .i64 k]) Tryz.func246 J Tryz.ntmps246 ?_;refine Zt (Zd (Za J (Zx J) (Zo (Zj (Zt (Zd (Za J (Zr J) (Za J (Xx J J) (Za J (Zr J) (Xl J J J ?_ ?_))))))))))
 ·intro h1;refine Yk J J J (Yk J J J (Za J (Xd J J) (Za J (Zr J) (Yk J J J (Yk J J J (Za J (Xd J J) (Za J (Zx J) (Zo (Zj (Yz (X8 J J ?_)))))))))));congr 1;rw [Bool.eq_iff_iff];simp [Mr];omega
 ·intro h1;refine Yd J J J (Zr J) (Yd J J J (Xx J J) (Za J (Y8 J J) (Za J (Zr J) (Xl J J J ?_ ?_))))
  ·intro h2;refine Yk J J J (Yk J J J (Za J (Xd J J) (Za J (Zx J) (Zo (Zj (Yz (X8 J J ?_)))))));congr 1;rw [Bool.eq_iff_iff];simp [Mr];omega
  ·intro h2;refine Yd J J J (Zr J) (Yd J J J (Xx J J) (Za J (Y8 J J) (Za J (Zx J) (Zo (Zj (Yz (X8 J J ?_)))))));congr 1;rw [Bool.eq_iff_iff];simp [Mr];omega
def resB (k:Int):Bool:=Mr k || decide (k=0)
theorem M8 (k:Int) (w:World):Qd Tryz.prog 319 #[.int .i64 k] w (.bool (resB k)):=by
 refine V0 (args:=[.int .i64 k]) Tryz.func319 J Tryz.ntmps319 ?_;refine Zt (Zd (Za J (Zx J) (Zo (Zj (Zt (Zd (Za J (Zr J) (Vw Zff J J (fun w _=>Su _ w) ?_))))))));refine Za J (Zr J) (Xl J J J ?_ ?_)
 ·intro h1;refine Yk J J J (Yk J J J (Za J (Xd J J) (Za J (Zx J) (Zo (Zj (Yz (X8 J J ?_)))))));congr 1;rw [Bool.eq_iff_iff];simp [resB,Mr];omega
 ·intro h1;refine Yd J J J (Zr J) (Yd J J J (Xx J J) (Za J (Y8 J J) (Za J (Zx J) (Zo (Zj (Yz (X8 J J ?_)))))));congr 1;rw [Bool.eq_iff_iff];simp [resB,Mr];omega
def fraB (k:Int):Bool:=Mr k || decide (k=4) || decide (k=5)
theorem Kt (k:Int) (w:World):Qd Tryz.prog 358 #[.int .i64 k] w (.bool (fraB k)):=by
 refine V0 (args:=[.int .i64 k]) Tryz.func358 J Tryz.ntmps358 ?_;refine Zt (Zd (Za J (Zx J) (Zo (Zj (Zt (Zd (Za J (Zr J) (Vw Zff J J (fun w _=>Su _ w) ?_))))))));refine Za J (Zr J) (Xl J J J ?_ ?_)
 ·intro h1;refine Yk J J J (Yk J J J (Za J (Xd J J) (Za J (Zr J) (Yk J J J (Yk J J J (Za J (Xd J J) (Za J (Zx J) (Zo (Zj (Yz (X8 J J ?_)))))))))));congr 1;rw [Bool.eq_iff_iff];simp [fraB,Mr];omega
 ·intro h1;refine Yd J J J (Zr J) (Yd J J J (Xx J J) (Za J (Y8 J J) (Za J (Zr J) (Xl J J J ?_ ?_))))
  ·intro h2;refine Yk J J J (Yk J J J (Za J (Xd J J) (Za J (Zx J) (Zo (Zj (Yz (X8 J J ?_)))))));congr 1;rw [Bool.eq_iff_iff];simp [fraB,Mr];omega
  ·intro h2;refine Yd J J J (Zr J) (Yd J J J (Xx J J) (Za J (Y8 J J) (Za J (Zx J) (Zo (Zj (Yz (X8 J J ?_)))))));congr 1;rw [Bool.eq_iff_iff];simp [fraB,Mr];omega
def Qa (B:Int->Bool) (t:Ty):Bool:=B t.kind&&(if t.kind=3 then Xz t.cls else decide (t.cls=⟨#[]⟩))
theorem Df (t:Ty):Qa Mr t=Vv t false false:=by
 rw [Bool.eq_iff_iff];unfold Qa Vv Mr;by_cases h0:t.kind=0
 ·simp [h0]
 by_cases h1:t.kind=1
 ·simp [h1]
 by_cases h2:t.kind=2
 ·simp [h2]
 by_cases h3:t.kind=3
 ·simp [h3]
 ·simp [h0,h1,h2,h3]
theorem Zee (t:Ty):Qa resB t=Vv t true false:=by
 rw [Bool.eq_iff_iff];unfold Qa Vv resB Mr;by_cases h0:t.kind=0
 ·simp [h0]
 by_cases h1:t.kind=1
 ·simp [h1]
 by_cases h2:t.kind=2
 ·simp [h2]
 by_cases h3:t.kind=3
 ·simp [h3]
 ·simp [h0,h1,h2,h3]
theorem Zrl (t:Ty):Qa fraB t=Vv t false true:=by
 rw [Bool.eq_iff_iff];unfold Qa Vv fraB Mr;by_cases h0:t.kind=0
 ·simp [h0]
 by_cases h1:t.kind=1
 ·simp [h1]
 by_cases h2:t.kind=2
 ·simp [h2]
 by_cases h3:t.kind=3
 ·simp [h3]
 by_cases h4:t.kind=4
 ·simp [h4]
 by_cases h5:t.kind=5
 ·simp [h5]
 ·simp [h0,h1,h2,h3,h4,h5]
theorem T5 (g:Nat) (B:Int->Bool) (hg:IsFn Tryz.prog g) (hB:∀ k w,Qd Tryz.prog g #[.int .i64 k] w (.bool (B k))) (t:Ty) (w:World) (ht:Jo t) :
  Rz Tryz.prog 245 #[.agg (tyV t).toArray,.func (.func g) #[] #[]] w (Qa B t):=by
 refine V0 (args:=[.agg (tyV t).toArray,.func (.func g) #[] #[]]) Tryz.func245 J Tryz.ntmps245 ?_;refine Zt (Zd (Uu J J ?_));intro b0 hb0;refine Zo (Zj (Zt (Zd (Za J (Zr J) (Za J (Zy (ff J) J) (Za J (Z8 (t1 J) J (Z1 0 J J)) (Zur hg J J J (fun w _=>hB _ w) ?_)))))));refine Z7 Xq J J (fun w _=>Ym _ w) ?_ ?_
 rotate_left
 ·intro o1;refine Z3 (Yf ?_);simp_all [Qa,eqS]
 intro o1;refine Zo (Zj (Zt (Zt (Zd (Za J (Zy (ff J) J) (Za J (Z8 (t1 J) J (Z1 0 J J)) (Za J (Xx J J) (Zo (Zj (Xc J ?_ ?_))))))))))
 ·intro c1;refine Zt (Zd (Za J (Zy (ff J) J) (Za J (Z8 (t1 J) J (Z1 0 J J)) (Z7 Lb J J (fun w _=>Wt _ w ht.2) ?_ ?_))))
  rotate_left
  ·intro o2;refine Z3 (Z3 (Yf ?_));simp_all [Qa,eqS]
  intro o2;refine Zo (Zj (Yz (Wa (PP_endr J ?_))));simp_all [Qa,eqS]
 ·intro c1;refine Xe (Zj (Zd (Za J (Zy (ff J) J) (Za J (Z8 (t1 J) J (Z1 0 J J)) (Za J (Mj J J) (Z7 Xq J J (fun w _=>Ym _ w) ?_ ?_))))))
  rotate_left
  ·intro o3;replace o3:=dFa o3;refine Yf ?_;simp_all [Qa,eqS]
  intro o3;replace o3:=dTr o3;refine Zo (V6 J ?_);simp_all [Qa,eqS]
theorem Qt (g:Nat) (B:Int->Bool) (hg:IsFn Tryz.prog g) (hB:∀ k w,Qd Tryz.prog g #[.int .i64 k] w (.bool (B k))) (v:Value) (l:List Ty) (w:World) (hv:Uf w v l) :
  Rz Tryz.prog 354 #[v,.func (.func g) #[] #[]] w (l.all (Qa B)):=by
 obtain ⟨p,c,rfl,hl,hr⟩:=hv.parts;replace hr:Hid _:=hr;refine V0 (args:=[.slice p l.length c,.func (.func g) #[] #[]]) Tryz.func354 J Tryz.ntmps354 ?_;refine Zt (Zd (Za J (Zr J) (Za J (Xv (ts J) J) (Za J (Zr J) (Zo (Zj (Yy ?_)))))));refine Vb (Vc (X:=Nat) (fun k=>[(1,.func (.func g) #[] #[]),(6,.slice p l.length c),(7,iN l.length),(8,iN k)]) _ _ (fun k=>[]) (fun k=>Asr.none) (fun k=>k<=l.length/\(l.take k).all (Qa B)=true) (fun k=>l.length - k) (0) (⟨Nat.zero_le _,J⟩) ?_) ⟨J,J,J,J,trivial⟩;intro k hI;refine Zt (Zd (Za J (Vf J J) (Zo (Zj (Zt (Xc J ?_ ?_))))))
 ·intro c1;have hk:k<l.length:=by omega
  obtain ⟨b,o,hp,hb,hc⟩:=hr.out k l[k] (List.getElem?_eq_getElem hk);subst hp;refine Xe (Zj (Zt (Yy (Zt (Zd (Za J (Qr (ts J) J J ?_) ?_))))))
  ·omega
  refine Za J (Vp (tn J) J (Rh hc hb) J) (X1 J (tz J) ?_);intro b0 hb0;refine Y5 (tn J) J J 0 J J J J (Zo (Zj (Zd (Za J (Ys (tn J) J 0 J J) (Za J (Zr J) (Z7 Zfg J J (fun w _=>T5 g B hg hB _ w (hv.ok _ (List.getElem_mem hk))) ?_ ?_))))))
  rotate_left
  ·intro o1;have hF:=Oe hk (f:=Qa B) (by assumption);refine Z3 (Z3 (Z3 (Z3 (Yf ?_))));exact hF
  intro o1;have hY:Qa B l[k]=true:=by assumption
  refine Zo (Y3 (Zj (Zd ?_)));refine Za J (Vt J J ?_) ?_;omega;refine Za J (Zr J) (Zo ?_);refine Wh (k+1) ?_ (⟨hk,Iu hk hI.2 hY⟩) 1 J (J) ⟨J,J,J,J,trivial⟩;omega
 ·intro c1;refine Vd (Va (Wo (W9 (V6 J ?_))));exact Zcc (by omega) hI.2
theorem O4 (v:Value) (l:List Ty) (w:World) (hv:Uf w v l):Rz Tryz.prog 318 #[v] w (decide ((l.length:Int)<=6)&&Vl l false):=by
 have hv0:=hv;obtain ⟨p,c,rfl,hl, -⟩:=hv.parts;refine V0 (args:=[.slice p l.length c]) Tryz.func318 J Tryz.ntmps318 ?_;refine Zt (Zd (Za J (Zr J) (Za J (Xv (ts J) J) (Za J (Xo J J) (Z7 Xq J J (fun w _=>Ym _ w) ?_ ?_)))))
 rotate_left
 ·intro o1;replace o1:=dFa o1;refine Z3 (Yf ?_);simp_all;omega
 intro o1;replace o1:=dTr o1;refine Zo (Zj (Zd (Za J (Zr J) ?_)));refine Z7 Zsr J J (fun w hs=>(Qt 246 Mr Zff Su _ l w (hv0.mono (Vu hs))).of_eq (b:=Vl l false) (by unfold Vl;congr 1;funext t;exact Df t)) ?_ ?_
 rotate_left
 ·intro o2;refine Yf ?_;simp_all;done
 intro o2;refine Zo (V6 J ?_);simp_all;done
end
section
open Go.RowKit At E
def Vr (op:Int):Int :=
 if op=1 then 1 else if op=2\/op=3 then 2 else if op=10\/op=11\/op=12\/op=13 then 3 else if op=15\/op=25\/op=26 then 4
 else if op=16\/op=17\/op=18\/op=19 then 5 else if op=20\/op=21 then 6 else 0
theorem Qg (op:Int) (w:World):Qd Tryz.prog 284 #[.int .i64 op] w (.int .i64 (Vr op)):=by
 refine V0 (args:=[.int .i64 op]) Tryz.func284 J Tryz.ntmps284 ?_;refine Zt (Zd (Za J (Zx J) (Zo (Zj (Zt (Zt (Zd (Za J (Zr J) (Zo (Zj (Yy (Zt (Zd (Za J (Xx J J) (Za J (Zx J) (Zo (Zj (Xc J ?_ ?_))))))))))))))))))
 ·intro c1;refine Zt (Zd (Za J (Zx J) (Zo (Zj (Yz (Wa (Wa (X8 J J ?_))))))));simp_all [Vr]
 ·intro c1;refine Zt (Zt (Zd (Za J (Xx J J) (Za J (Zx J) (Zo (Zj (Xc J ?_ ?_)))))))
  ·intro c2;refine Xe (Zj (Qi J (Zt (Zd (Za J (Zx J) (Zo (Zj (Yz (Wa (Wa (X8 J J ?_)))))))))));simp_all [Vr]
  ·intro c2;refine Zd (Za J (Xx J J) (Za J (Zx J) (Zo (Zj (Xc J ?_ ?_)))))
   ·intro c3;refine Zt (Zd (Za J (Zx J) (Zo (Zj (Yz (Wa (Wa (X8 J J ?_))))))));simp_all [Vr]
   ·intro c3;refine Zt (Zt (Zd (Za J (Xx J J) (Za J (Zx J) (Zo (Zj (Xc J ?_ ?_)))))))
    ·intro c4;refine Xe (Zj (Qi J (Zt (Zd (Za J (Zx J) (Zo (Zj (Yz (Wa (Wa (X8 J J ?_)))))))))));simp_all [Vr]
    ·intro c4;refine Zt (Zd (Za J (Xx J J) (Za J (Zx J) (Zo (Zj (Xc J ?_ ?_))))))
     ·intro c5;refine Xe (Zj (Qi J (Zt (Zd (Za J (Zx J) (Zo (Zj (Yz (Wa (Wa (X8 J J ?_)))))))))));simp_all [Vr]
     ·intro c5;refine Zt (Zd (Za J (Xx J J) (Za J (Zx J) (Zo (Zj (Xc J ?_ ?_))))))
      ·intro c6;refine Xe (Zj (Qi J (Zt (Zd (Za J (Zx J) (Zo (Zj (Yz (Wa (Wa (X8 J J ?_)))))))))));simp_all [Vr]
      ·intro c6;refine Zd (Za J (Xx J J) (Za J (Zx J) (Zo (Zj (Xc J ?_ ?_)))))
       ·intro c7;refine Zt (Zd (Za J (Zx J) (Zo (Zj (Yz (Wa (Wa (X8 J J ?_))))))));simp_all [Vr]
       ·intro c7;refine Zt (Zt (Zd (Za J (Xx J J) (Za J (Zx J) (Zo (Zj (Xc J ?_ ?_)))))))
        ·intro c8;refine Xe (Zj (Qi J (Zt (Zd (Za J (Zx J) (Zo (Zj (Yz (Wa (Wa (X8 J J ?_)))))))))));simp_all [Vr]
        ·intro c8;refine Zt (Zd (Za J (Xx J J) (Za J (Zx J) (Zo (Zj (Xc J ?_ ?_))))))
         ·intro c9;refine Xe (Zj (Qi J (Zt (Zd (Za J (Zx J) (Zo (Zj (Yz (Wa (Wa (X8 J J ?_)))))))))));simp_all [Vr]
         ·intro c9;refine Zd (Za J (Xx J J) (Za J (Zx J) (Zo (Zj (Xc J ?_ ?_)))))
          ·intro c10;refine Zt (Zd (Za J (Zx J) (Zo (Zj (Yz (Wa (Wa (X8 J J ?_))))))));simp_all [Vr]
          ·intro c10;refine Zt (Zt (Zd (Za J (Xx J J) (Za J (Zx J) (Zo (Zj (Xc J ?_ ?_)))))))
           ·intro c11;refine Xe (Zj (Qi J (Zt (Zd (Za J (Zx J) (Zo (Zj (Yz (Wa (Wa (X8 J J ?_)))))))))));simp_all [Vr]
           ·intro c11;refine Zt (Zd (Za J (Xx J J) (Za J (Zx J) (Zo (Zj (Xc J ?_ ?_))))))
            ·intro c12;refine Xe (Zj (Qi J (Zt (Zd (Za J (Zx J) (Zo (Zj (Yz (Wa (Wa (X8 J J ?_)))))))))));simp_all [Vr]
            ·intro c12;refine Zt (Zd (Za J (Xx J J) (Za J (Zx J) (Zo (Zj (Xc J ?_ ?_))))))
             ·intro c13;refine Xe (Zj (Qi J (Zt (Zd (Za J (Zx J) (Zo (Zj (Yz (Wa (Wa (X8 J J ?_)))))))))));simp_all [Vr]
             ·intro c13;refine Zd (Za J (Xx J J) (Za J (Zx J) (Zo (Zj (Xc J ?_ ?_)))))
              ·intro c14;refine Zt (Zd (Za J (Zx J) (Zo (Zj (Yz (Wa (Wa (X8 J J ?_))))))));simp_all [Vr]
              ·intro c14;refine Zt (Zt (Zd (Za J (Xx J J) (Za J (Zx J) (Zo (Zj (Xc J ?_ ?_)))))))
               ·intro c15;refine Xe (Zj (Qi J (Zt (Zd (Za J (Zx J) (Zo (Zj (Yz (Wa (Wa (X8 J J ?_)))))))))));simp_all [Vr]
               ·intro c15;refine Zd (Za J (Xx J J) (Za J (Zx J) (Zo (Zj (Xc J ?_ ?_)))))
                ·intro c16;refine Zt (Zd (Za J (Zx J) (Zo (Zj (Yz (Wa (Wa (X8 J J ?_))))))));simp_all [Vr]
                ·intro c16;refine Xe (Y3 (Zj (Zt (Zd (Za J (Zx J) (Zo (Zj (Yz (X8 J J ?_)))))))));simp_all [Vr]
theorem M7 (x:Int) (m:Me) (pv hv fv:Value) (p:Option Addr) (c:Nat) (w:World):Qd Tryz.prog 357 #[.int .i64 x,.agg (meV m pv (.slice p m.code.length c) hv fv).toArray] w (.bool (decide (0<=x)&&decide (x<(m.code.length:Int)))):=by
 refine V0 (args:=[.int .i64 x,.agg (meV m pv (.slice p m.code.length c) hv fv).toArray]) Tryz.func357 J Tryz.ntmps357 ?_;refine Zt (Zd (Uu J J ?_));intro b0 hb0;refine Za J (Zx J) (Zo (Zj (Zt (Zd (Za J (Zr J) (Za J (Xo J J) (Za J (Zr J) (Xl J J J ?_ ?_))))))))
 ·intro h1;refine Yd J J J (Zr J) (Yd J J J (Zy (ff J) J) (Yd J J J (Z8 (t1 J) J (Z1 0 J J)) (Yd J J J (Xv (ts J) J) (Yd J J J (Vf J J) (Za J (Xd J J) (Za J (Zx J) (Zo (Zj (Yz (X8 J J ?_))))))))));simp_all;done
 ·intro h1;refine Yk J J J (Yk J J J (Yk J J J (Yk J J J (Yk J J J (Za J (Y8 J J) (Za J (Zx J) (Zo (Zj (Yz (X8 J J ?_))))))))));simp_all;omega
theorem Uh (m:Me) (p:Option Addr) (c:Nat) (cv hv fv:Value) (w:World) (hl:m.params.length<=1048576):Qd Tryz.prog 320 #[.agg (meV m (.slice p m.params.length c) cv hv fv).toArray] w (.int .i64 (Nv m)):=by
 refine V0 (args:=[.agg (meV m (.slice p m.params.length c) cv hv fv).toArray]) Tryz.func320 J Tryz.ntmps320 ?_;refine Zt (Zd (Uu J J ?_));intro b0 hb0;refine Za J (Zx J) (Zo (Zj (Zt (Zt (Zd (Za J (Zy (ff J) J) (Za J (Z8 (t1 J) J (Z1 0 J J)) (Zo (Zj (Iw J ?_ ?_))))))))))
 ·intro c1;refine Zt (Zd (Za J (Zy (ff J) J) (Za J (Z8 (t1 J) J (Z1 0 J J)) (Za J (Xv (ts J) J) (Za J (Zx J) (Zo (Zj (Yz (Wa (X8 J J ?_))))))))));simp_all [Nv]
 ·intro c1;refine Xe (Zj (Zt (Zd (Za J (Zy (ff J) J) (Za J (Z8 (t1 J) J (Z1 0 J J)) (Za J (Xv (ts J) J) ?_))))));refine Za J (Vt J J ?_) ?_;omega;refine Za J (Zx J) (Zo (Zj (Yz (X8 J J ?_))));simp_all [Nv]
def De (i:Ins) (locals:Int) (len:Nat):Bool :=
 if Vr i.op=1 then true else if Vr i.op=2 then decide (0<=i.n)&&decide (i.n<locals) else if Vr i.op=3 then decide (0<=i.n)&&decide (i.n<(len:Int)) else decide (i.n=0)
def mtT (t:Ty):Bool:=decide (t.kind=0)&&decide (t.cls=⟨#[]⟩)
def Pn (i:Ins):Bool :=
 if Vr i.op=4 then Xz i.ref.cls&&(decide (i.ref.name=⟨#[]⟩)&&decide ((i.ref.params.length:Int)=0)&&mtT i.ref.ty)
 else if Vr i.op=5 then Xz i.ref.cls&&Xz i.ref.name&&decide ((i.ref.params.length:Int)=0)&&Vv i.ref.ty false false
 else if Vr i.op=6 then Xz i.ref.cls&&Xz i.ref.name&&(decide ((i.ref.params.length:Int)<=6)&&Vl i.ref.params false)&&Vv i.ref.ty true false
 else decide (i.ref.cls=⟨#[]⟩)&&decide (i.ref.name=⟨#[]⟩)&&decide ((i.ref.params.length:Int)=0)&&mtT i.ref.ty
theorem Ja (i:Ins) (qv:Value) (m:Me) (pv hv fv:Value) (p:Option Addr) (c:Nat) (w:World) :
  Rz Tryz.prog 355 #[.agg (D5 i qv).toArray,.agg (meV m pv (.slice p m.code.length c) hv fv).toArray] w (De i m.locals m.code.length):=by
 refine V0 (args:=[.agg (D5 i qv).toArray,.agg (meV m pv (.slice p m.code.length c) hv fv).toArray]) Tryz.func355 J Tryz.ntmps355 ?_;refine Zt (Zd (Uu J J ?_));intro b0 hb0;refine Uu J J ?_;intro b1 hb1;refine Zo (Zj (Zt (Zd (Za J (Zy (ff J) J) (Za J (Z8 (t1 J) J (Z1 1 J J)) (Vw Zkr J J (fun w _=>Qg _ w) ?_))))));refine Zo (Zj (Yy (Zt (Zd (Za J (Xx J J) (Za J (Zx J) (Zo (Zj (Xc J ?_ ?_)))))))))
 ·intro c1;refine Xe (Y3 (V6 J ?_));simp_all [De];done
 ·intro c1;refine Zt (Zd (Za J (Xx J J) (Za J (Zx J) (Zo (Zj (Xc J ?_ ?_))))))
  ·intro c2;refine Zd (Za J (Zy (ff J) J) (Za J (Z8 (t1 J) J (Z1 1 J J)) (Za J (Xo J J) (Za J (Zr J) (Xl J J J ?_ ?_)))))
   ·intro h1;refine Yd J J J (Zy (ff J) J) (Yd J J J (Z8 (t1 J) J (Z1 1 J J)) (Yd J J J (Zy (ff J) J) (Yd J J J (Z8 (t1 J) J (Z1 0 J J)) (Yd J J J (Vf J J) (Za J (Xd J J) (Z7 Xq J J (fun w _=>Ym _ w) ?_ ?_))))))
    rotate_left
    ·intro o2;replace o2:=dFa o2;refine Z3 (Yf ?_);simp_all [De];done
    intro o2;replace o2:=dTr o2;refine Zo (Y3 (V6 J ?_));simp_all [De];done
   ·intro h1;refine Yk J J J (Yk J J J (Yk J J J (Yk J J J (Yk J J J (Za J (Y8 J J) (Z7 Xq J J (fun w _=>Ym _ w) ?_ ?_))))))
    ·intro o3;cases o3
    intro _;refine Z3 (Yf ?_);simp_all [De];omega
  ·intro c2;refine Zt (Zd (Za J (Xx J J) (Za J (Zx J) (Zo (Zj (Xc J ?_ ?_))))))
   ·intro c3;refine Zd (Za J (Zy (ff J) J) (Za J (Z8 (t1 J) J (Z1 1 J J)) (Za J (Ys (tn J) J 0 J J) (Vw Zsq J J (fun w _=>M7 _ m _ _ _ _ _ w) ?_))));refine Z7 Xq J J (fun w _=>Ym _ w) ?_ ?_
    rotate_left
    ·intro o4;refine Z3 (Yf ?_);simp_all [De];done
    intro o4;refine Zo (Y3 (V6 J ?_));simp_all [De];done
   ·intro c3;refine Zd (Za J (Zy (ff J) J) (Za J (Z8 (t1 J) J (Z1 1 J J)) (Za J (Xx J J) (Z7 Xq J J (fun w _=>Ym _ w) ?_ ?_))))
    rotate_left
    ·intro o5;replace o5:=dFa o5;refine Z3 (Yf ?_);simp_all [De];done
    intro o5;replace o5:=dTr o5;refine Zo (Y3 (V6 J ?_));simp_all [De];done
set_option maxHeartbeats 1000000 in
theorem Fg (i:Ins) (pv:Value) (w:World) (hp:Uf w pv i.ref.params) (hi:Zkk i):Rz Tryz.prog 356 #[.agg (D5 i pv).toArray] w (Pn i):=by
 have hp0:=hp;obtain ⟨p,c,rfl,hl, -⟩:=hp.is;replace hp:Hid _:=hp;refine V0 (args:=[.agg (D5 i (.slice p i.ref.params.length c)).toArray]) Tryz.func356 J Tryz.ntmps356 ?_;refine Zt (Zd (Uu J J ?_));intro b0 hb0;refine Zo (Zj (Zt (Zd (Za J (Zy (ff J) J) (Za J (Ys (tn J) J 0 J J) (X1 J (tz J) ?_))))));intro b1 hb1;refine Y5 (tn J) J J 0 J J J J (Zo (Zj (Zt (Zd (Za J (Zy (ff J) J) (Za J (Z8 (t1 J) J (Z1 1 J J)) (Vw Zkr J J (fun w _=>Qg _ w) ?_)))))));refine Zo (Zj (Yy (Zt (Zd (Za J (Xx J J) (Za J (Zx J) (Zo (Zj (Xc J ?_ ?_)))))))))
 ·intro c1;refine Zt (Zd (Za J (Zy (ff J) J) (Za J (Z8 (t1 J) J (Z1 0 J J)) (Z7 Lb J J (fun w _=>Wt _ w hi.2.2.1) ?_ ?_))))
  rotate_left
  ·intro o1;refine Z3 (Z3 (Yf ?_));clear hp0;(simp_all [Pn,mtT,eqS];done)
  intro o1;refine Zo (Zj (Zd (Za J (Zy (ff J) J) (Za J (Z8 (t1 J) J (Z1 0 J J)) (Za J (Mj J J) (Za J (Zr J) (Xl J J J ?_ ?_)))))))
  ·intro h2;refine Yd J J J (Zy (ff J) J) (Yd J J J (Z8 (t1 J) J (Z1 0 J J)) (Yd J J J (Xv (ts J) J) (Yd J J J (Xx J J) (Za J (Xd J J) (Za J (Zr J) (Xl J J J ?_ ?_))))))
   ·intro h3;refine Yd J J J (Zy (ff J) J) (Yd J J J (Ys (tn J) J 0 J J) (Yd J J J (Ub (tb J) J J) (Yd J J J (C4 J J) (Za J (Xd J J) (Z7 Xq J J (fun w _=>Ym _ w) ?_ ?_)))))
    rotate_left
    ·intro o4;refine Z3 (Yf ?_);clear hp0;(simp_all [Pn,mtT,eqS];done)
    intro o4;refine Zo (Y3 (V6 J ?_));clear hp0;(simp_all [Pn,mtT,eqS];done)
   ·intro h3;refine Yk J J J (Yk J J J (Yk J J J (Yk J J J (Za J (Y8 J J) (Z7 Xq J J (fun w _=>Ym _ w) ?_ ?_)))))
    ·intro o5;cases o5
    intro _;refine Z3 (Yf ?_);clear hp0;(simp_all [Pn,mtT,eqS];done)
  ·intro h2;refine Yk J J J (Yk J J J (Yk J J J (Yk J J J (Za J (Y8 J J) (Za J (Zr J) (Yk J J J (Yk J J J (Yk J J J (Yk J J J (Za J (Y8 J J) (Z7 Xq J J (fun w _=>Ym _ w) ?_ ?_)))))))))))
   ·intro o6;cases o6
   intro _;refine Z3 (Yf ?_);clear hp0;(simp_all [Pn,mtT,eqS];done)
 ·intro c1;refine Zt (Zd (Za J (Xx J J) (Za J (Zx J) (Zo (Zj (Xc J ?_ ?_))))))
  ·intro c2;refine Zt (Zd (Za J (Zy (ff J) J) (Za J (Z8 (t1 J) J (Z1 0 J J)) (Z7 Lb J J (fun w _=>Wt _ w hi.2.2.1) ?_ ?_))))
   rotate_left
   ·intro o7;refine Z3 (Z3 (Yf ?_));clear hp0;(simp_all [Pn,mtT,eqS];done)
   intro o7;refine Zo (Zj (Zt (Zd (Za J (Zy (ff J) J) (Za J (Z8 (t1 J) J (Z1 0 J J)) (Z7 Lb J J (fun w _=>Wt _ w hi.2.2.2.1) ?_ ?_))))))
   rotate_left
   ·intro o8;refine Z3 (Z3 (Yf ?_));clear hp0;(simp_all [Pn,mtT,eqS];done)
   intro o8;refine Zo (Zj (Zt (Zd (Za J (Zy (ff J) J) (Za J (Z8 (t1 J) J (Z1 0 J J)) (Za J (Xv (ts J) J) (Za J (Xx J J) (Z7 Xq J J (fun w _=>Ym _ w) ?_ ?_))))))))
   rotate_left
   ·intro o9;replace o9:=dFa o9;refine Z3 (Z3 (Yf ?_));clear hp0;(simp_all [Pn,mtT,eqS];done)
   intro o9;replace o9:=dTr o9;refine Zo (Zj (Zd (Za J (Zy (ff J) J) (Za J (Ys (tn J) J 0 J J) (Z7 Zfg J J (fun w _=>(T5 246 Mr Zff Su i.ref.ty w hi.2.2.2.2).of_eq (Df _)) ?_ ?_)))))
   rotate_left
   ·intro o10;refine Z3 (Yf ?_);clear hp0;(simp_all [Pn,mtT,eqS];done)
   intro o10;refine Zo (Y3 (V6 J ?_));clear hp0;(simp_all [Pn,mtT,eqS];done)
  ·intro c2;refine Zt (Zd (Za J (Xx J J) (Za J (Zx J) (Zo (Zj (Xc J ?_ ?_))))))
   ·intro c3;refine Zt (Zd (Za J (Zy (ff J) J) (Za J (Z8 (t1 J) J (Z1 0 J J)) (Z7 Lb J J (fun w _=>Wt _ w hi.2.2.1) ?_ ?_))))
    rotate_left
    ·intro o11;refine Z3 (Z3 (Yf ?_));clear hp0;(simp_all [Pn,mtT,eqS];done)
    intro o11;refine Zo (Zj (Zt (Zd (Za J (Zy (ff J) J) (Za J (Z8 (t1 J) J (Z1 0 J J)) (Z7 Lb J J (fun w _=>Wt _ w hi.2.2.2.1) ?_ ?_))))))
    rotate_left
    ·intro o12;refine Z3 (Z3 (Yf ?_));clear hp0;(simp_all [Pn,mtT,eqS];done)
    intro o12;refine Zo (Zj (Zt (Zd (Za J (Zy (ff J) J) (Za J (Z8 (t1 J) J (Z1 0 J J)) (Z7 fn318 J J (fun w hs=>O4 _ i.ref.params w (Uf.mono hp0 (Vu hs))) ?_ ?_))))))
    rotate_left
    ·intro o13;refine Z3 (Z3 (Yf ?_));clear hp0;(simp_all [Pn,mtT,eqS];done)
    intro o13;refine Zo (Zj (Zd (Za J (Zy (ff J) J) (Za J (Ys (tn J) J 0 J J) (Z7 Zfg J J (fun w _=>(T5 319 resB fn319 M8 i.ref.ty w hi.2.2.2.2).of_eq (Zee _)) ?_ ?_)))))
    rotate_left
    ·intro o14;refine Z3 (Yf ?_);clear hp0;(simp_all [Pn,mtT,eqS];done)
    intro o14;refine Zo (Y3 (V6 J ?_));clear hp0;(simp_all [Pn,mtT,eqS];done)
   ·intro c3;refine Zd (Za J (Zy (ff J) J) (Za J (Z8 (t1 J) J (Z1 0 J J)) (Za J (Mj J J) (Za J (Zr J) (Xl J J J ?_ ?_)))))
    ·intro h15;refine Yd J J J (Zy (ff J) J) (Yd J J J (Z8 (t1 J) J (Z1 0 J J)) (Yd J J J (Mj J J) (Za J (Xd J J) (Za J (Zr J) (Xl J J J ?_ ?_)))))
     ·intro h16;refine Yd J J J (Zy (ff J) J) (Yd J J J (Z8 (t1 J) J (Z1 0 J J)) (Yd J J J (Xv (ts J) J) (Yd J J J (Xx J J) (Za J (Xd J J) (Za J (Zr J) (Xl J J J ?_ ?_))))))
      ·intro h17;refine Yd J J J (Zy (ff J) J) (Yd J J J (Ys (tn J) J 0 J J) (Yd J J J (Ub (tb J) J J) (Yd J J J (C4 J J) (Za J (Xd J J) (Z7 Xq J J (fun w _=>Ym _ w) ?_ ?_)))))
       rotate_left
       ·intro o18;refine Z3 (Yf ?_);clear hp0;(simp_all [Pn,mtT,eqS];done)
       intro o18;refine Zo (Y3 (V6 J ?_));clear hp0;(simp_all [Pn,mtT,eqS];done)
      ·intro h17;refine Yk J J J (Yk J J J (Yk J J J (Yk J J J (Za J (Y8 J J) (Z7 Xq J J (fun w _=>Ym _ w) ?_ ?_)))))
       ·intro o19;cases o19
       intro _;refine Z3 (Yf ?_);clear hp0;(simp_all [Pn,mtT,eqS];done)
     ·intro h16;refine Yk J J J (Yk J J J (Yk J J J (Yk J J J (Za J (Y8 J J) (Za J (Zr J) (Yk J J J (Yk J J J (Yk J J J (Yk J J J (Za J (Y8 J J) (Z7 Xq J J (fun w _=>Ym _ w) ?_ ?_)))))))))))
      ·intro o20;cases o20
      intro _;refine Z3 (Yf ?_);clear hp0;(simp_all [Pn,mtT,eqS];done)
    ·intro h15;refine Yk J J J (Yk J J J (Yk J J J (Za J (Y8 J J) (Za J (Zr J) (Yk J J J (Yk J J J (Yk J J J (Yk J J J (Za J (Y8 J J) (Za J (Zr J) (Yk J J J (Yk J J J (Yk J J J (Yk J J J (Za J (Y8 J J) (Z7 Xq J J (fun w _=>Ym _ w) ?_ ?_))))))))))))))))
     ·intro o21;cases o21
     intro _;refine Z3 (Yf ?_);clear hp0;(simp_all [Pn,mtT,eqS];done)
end
end Go.Proofs.YtpofmnfkdkmieaaGreat
