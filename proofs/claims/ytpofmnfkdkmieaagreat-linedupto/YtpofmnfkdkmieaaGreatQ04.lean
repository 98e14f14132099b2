/- What is proved here: what each operation does to memory that  -/
import Derived.Test.YtpofmnfkdkmieaaGreatQ03
import Derived.Lib.AppendStr
set_option linter.unusedVariables false
set_option linter.unusedSimpArgs false
namespace Go.Proofs.YtpofmnfkdkmieaaGreat
namespace S
open Go Go.RowKit E
theorem Qu {P:Program} {α:Type}:∀ (s:Sem α) (x:α),Wj P s=some x->∀ w,s.run P w=.ok x w
 | .pure a,x,h,w=>by simp only [Wj] at h;cases h;rfl
 | .program k,x,h,w=>by simp only [Wj] at h;exact Qu (k P) x h w
 | .mark _ k,x,h,w=>by simp only [Wj] at h;exact Qu k x h w
 | .load _ _ _,_,h,_=>by simp [Wj] at h
 | .store _ _ _ _,_,h,_=>by simp [Wj] at h
 | .new _ _,_,h,_=>by simp [Wj] at h
 | .shape _ _,_,h,_=>by simp [Wj] at h
 | .freeze _ _ _,_,h,_=>by simp [Wj] at h
 | .frozen _ _,_,h,_=>by simp [Wj] at h
 | .getObj _ _,_,h,_=>by simp [Wj] at h
 | .setObj _ _ _,_,h,_=>by simp [Wj] at h
 | .choose _ _,_,h,_=>by simp [Wj] at h
 | .sys _ _,_,h,_=>by simp [Wj] at h
 | .halt _,_,h,_=>by simp [Wj] at h
theorem clo_den {v:SV} {y:Value} (h:clo v=some y):den nob v=some y:=by
 cases v<;>exact h
theorem Pr (B:Nm) (y:Value):den B (ofV y)=some y:=by
 cases y<;>simp only [ofV,den,Te,Option.map_some,Array.toArray_toList]
theorem nob_pre (B:Nm):Pre nob B:=fun _ _ h=>by cases h
theorem Wr {B:Nm} {b k:Nat} {y:Value} (h:den B (.ptr b k)=some y):∃ p,B b=some p/\y=.pointer (some ⟨p.1,k,none⟩):=by
 simp only [den,Option.map_eq_some_iff] at h;obtain ⟨p,hp,e⟩:=h;exact ⟨p,hp,e.symm⟩
theorem V6 {B:Nm} {b o l j:Nat} {y:Value} (h:den B (.sl b o l j)=some y):∃ p,B b=some p/\y=.slice (some ⟨p.1,o,none⟩) l (p.2 - j):=by
 simp only [den,Option.map_eq_some_iff] at h;obtain ⟨p,hp,e⟩:=h;exact ⟨p,hp,e.symm⟩
theorem O5 {B:Nm} {b:Nat} {y:Value} (h:den B (.mp b)=some y):∃ p,B b=some p/\y=.map (some p.1):=by
 simp only [den,Option.map_eq_some_iff] at h;obtain ⟨p,hp,e⟩:=h;exact ⟨p,hp,e.symm⟩
theorem Xk {B:Nm} {x y:Value} (h:den B (.v x)=some y):y=x:=by simp only [den] at h;cases h;rfl
theorem Uu {B:Nm} {f:Nat} {a c:List SV} {y:Value} (h:den B (.fn f a c)=some y):∃ u v,Ym B a=some u/\Ym B c=some v/\y=.func (.func f) u.toArray v.toArray:=by
 simp only [den] at h;cases ha:Ym B a with
 | none=>rw [ha] at h;cases h
 | some u =>
  cases hc:Ym B c with
  | none=>rw [ha,hc] at h;cases h
  | some v=>rw [ha,hc] at h;cases h;exact ⟨u,v,J,J,J⟩
theorem S7 {B:Nm} {t:Nat} {x:SV} {y:Value} (h:den B (.ifc t x)=some y):∃ z,den B x=some z/\y=.iface t z:=by
 simp only [den,Option.map_eq_some_iff] at h;obtain ⟨p,hp,e⟩:=h;exact ⟨p,hp,e.symm⟩
theorem De {B:Nm} {l:List SV} {y:Value} (h:den B (.tup l)=some y):∃ xs,Ym B l=some xs/\y=.tuple xs.toArray:=by
 simp only [den,Option.map_eq_some_iff] at h;obtain ⟨p,hp,e⟩:=h;exact ⟨p,hp,e.symm⟩
theorem den_agg {B:Nm} {l:List SV} {y:Value} (h:den B (.agg l)=some y):∃ xs,Ym B l=some xs/\y=.agg xs.toArray:=by
 simp only [den,Option.map_eq_some_iff] at h;obtain ⟨p,hp,e⟩:=h;exact ⟨p,hp,e.symm⟩
theorem Sd {α:Type}:∀ (l:List α) (i:Nat),nth l i=l[i]?
 | [],i=>by simp [En]
 | x::r,0=>by simp [Qd]
 | x::r,i+1=>by
  rw [Qd,W3 (by omega)];simp only [cond_false,List.getElem?_cons_succ];exact Sd r i
def Wx (P:Program) (w0:World) (F:List Nat) (B:Nm) (a:Act) (w:World) (o:Oper):OpR->Prop
 | (σ',none,f)=>∃ x w',((execOp a.eval o).run P w=.ok (.value x) w'\/(x=undef/\(execOp a.eval o).run P w=.ok .skip w'))/\den B (f 0)=some x/\Sx w0 F B σ' w'
 | (σ',some sb,f)=>∃ x w' p,(execOp a.eval o).run P w=.ok (.value x) w'/\Sx w0 F B σ' w'/\(∀ r,B r=none->Blk (upd B r p) p sb w'.heap[p.1]?/\den (upd B r p) (f r)=some x)/\(p.1 ∈ F\/w0.heap.size<=p.1)/\∀ i y q,σ'.get i=some y->B i=some q->q.1≠p.1
section
variable {P:Program} {n:Nat} {w0 w:World} {F:List Nat} {B:Nm} {σ:St} {a:Act} {E:SE} {D:List SD} {o:Oper} {r:OpR}
theorem Y2 {v:SV} {x:Value} (hs:Sx w0 F B σ w) (hv:den B v=some x) (hr:(execOp a.eval o).run P w=.ok (.value x) w) (h:same σ v=some r):Wx P w0 F B a w o r:=by
 unfold same at h;cases h;exact ⟨x,w,.inl hr,hv,hs⟩
theorem Ru {ob:Obj} {c:Nat} {sb:SB} {f:Nat->SV} {x:Value} (hs:Sx w0 F B σ w) (hr:(execOp a.eval o).run P w=.ok (.value x) (w.alloc ob)) (hb:∀ r,B r=none->Blk (upd B r (w.heap.size,c)) (w.heap.size,c) sb (some ob)/\den (upd B r (w.heap.size,c)) (f r)=some x) :
  Wx P w0 F B a w o (σ,some sb,f):=by
 have hk:=hs.keep (w':=w.alloc ob) ((Below.refl _ w).alloc (Nat.le_refl _) _);have hn:(w.alloc ob).heap[w.heap.size]?=some ob:=by show (w.heap.push _)[w.heap.size]?=_;rw [Array.getElem?_push,if_pos rfl]
 refine ⟨x,_,(w.heap.size,c),hr,hk,fun r hr=>?_,.inr hs.low.size,fun i y q hi hq e=>?_⟩
 ·have:=hb r hr;exact ⟨by show Blk _ _ sb (w.alloc ob).heap[w.heap.size]?;rw [hn];exact this.1,this.2⟩
 ·have:=hs.lt hi hq;simp only at e;omega
theorem Xv (hs:Sx w0 F B σ w) (ha:Ags n a E D B) (h:exPlain P E σ o=some r):Wx P w0 F B a w o r:=by
 unfold exPlain at h;cases hc:o.op.operands.toList.all (fun x=>(clov E x).isSome)&&noSel o.op with
 | false=>rw [hc] at h;cases h
 | true =>
  rw [hc] at h;simp only [cond_true] at h;rw [Bool.and_eq_true] at hc
  have hev:∀ x ∈ o.op.operands,a.eval x=(clov E x).getD undef:=by
   intro x hx;have h1:=(List.all_eq_true.1 hc.1) x (by simpa using hx);unfold clov at h1 ⊢;cases hv:sev E x with
   | none=>rw [hv] at h1;cases h1
   | some v =>
    rw [hv] at h1;simp only [Option.bind_some] at h1 ⊢;cases hd:clo v with
    | none=>rw [hd] at h1;cases h1
    | some y =>
     have h2:=ha.eval hv;rw [Xl (nob_pre B) v y (clo_den hd)] at h2
     simpa using h2.symm
  have hsel:∀ cs b,o.op≠.select cs b:=fun cs b e=>by
   have:=hc.2;rw [e] at this;cases this
  have he:=execOp_congr o hsel hev;cases hp:Wj P (execOp (fun x=>(clov E x).getD undef) o) with
  | none=>rw [hp] at h;cases h
  | some nx =>
   rw [hp] at h;cases nx with
   | value y =>
    simp only [exPlainR] at h;exact Y2 hs (Pr B y) (by rw [he];exact Qu _ _ hp w) h
   | _=>cases h
/-! Values that are passed on -/
theorem Tg {v:Option SV} (h:v.bind (same σ)=some r):∃ u,v=some u/\same σ u=some r:=by
 cases v with
 | none=>cases h
 | some u=>exact ⟨u,rfl,h⟩
theorem Ek {x:Operand} (ho:o.op=.move x\/o.op=.assign x) (hs:Sx w0 F B σ w) (ha:Ags n a E D B) (h:(sev E x).bind (same σ)=some r):Wx P w0 F B a w o r:=by
 obtain ⟨v,hv,h⟩:=Tg h;exact Y2 hs (ha.eval hv) (by rcases ho with ho | ho<;>(simp only [execOp,ho];rfl)) h
theorem ok_pick {c x y:Operand} {b:Bool} (ho:o.op=.pick c x y) (hs:Sx w0 F B σ w) (ha:Ags n a E D B) (hc:sev E c=some (.v (.bool b))) (h:(sev E (bif b then x else y)).bind (same σ)=some r):Wx P w0 F B a w o r:=by
 obtain ⟨v,hv,h⟩:=Tg h;have e:=Xk (ha.eval hc);refine Y2 hs (ha.eval hv) ?_ h;simp only [execOp,ho,e];cases b<;>rfl
theorem ok_nil {x:Operand} (ho:o.op=.nilCheck x) (hs:Sx w0 F B σ w) (ha:Ags n a E D B) (h:exNil σ (sev E x)=some r):Wx P w0 F B a w o r:=by
 cases hv:sev E x with
 | none=>rw [hv] at h;cases h
 | some v =>
  rw [hv] at h;have he:=ha.eval hv;cases v with
  | ptr b k =>
   obtain ⟨p,hp,e⟩:=Wr he;exact Y2 hs he (by simp only [execOp,ho,e];rfl) h
  | fn f u c =>
   obtain ⟨p,q,_,_,e⟩:=Uu he;exact Y2 hs he (by simp only [execOp,ho,e];rfl) h
  | _=>cases h
theorem ok_ext {x:Operand} {i:Nat} (ho:o.op=.extract x i) (hs:Sx w0 F B σ w) (ha:Ags n a E D B) (h:exExt σ i (sev E x)=some r):Wx P w0 F B a w o r:=by
 cases hv:sev E x with
 | none=>rw [hv] at h;cases h
 | some v =>
  rw [hv] at h;have he:=ha.eval hv;cases v with
  | tup l =>
   simp only [exExt] at h;obtain ⟨u,hu,h⟩:=Tg h;rw [Sd] at hu;obtain ⟨xs,hxs,e⟩:=De he;obtain ⟨y,hy,hd⟩:=Vt hxs hu;refine Y2 hs hd ?_ h;simp only [execOp,ho,e,Instr.extract];simp [hy]
  | _=>cases h
/-! Addresses -/
theorem P9 {t:Nat} {i:TypeInfo} (h:P.info? t=some i) (w:World):(typeInfo t).run P w=.ok i w:=by simp [typeInfo,h]
theorem Vc {t k:Nat} (h:tSize P t=some k) (w:World):(sizeOf t).run P w=.ok k w:=by
 unfold tSize at h;cases hi:P.info? t with
 | none=>rw [hi] at h;cases h
 | some i =>
  rw [hi] at h;simp only [Option.map_some,Option.some.injEq] at h;simp [sizeOf,P9 hi,h]
theorem Zbt {x:Operand} {s f:Nat} (ho:o.op=.fieldAddr s x f) (hs:Sx w0 F B σ w) (ha:Ags n a E D B) (h:exField P σ s f (sev E x)=some r):Wx P w0 F B a w o r:=by
 cases hv:sev E x with
 | none=>rw [hv] at h;cases h
 | some v =>
  rw [hv] at h;have he:=ha.eval hv;cases v with
  | ptr b k =>
   obtain ⟨p,hp,e⟩:=Wr he;simp only [exField] at h;cases hf:fieldOff P s f with
   | none=>rw [hf] at h;cases h
   | some d =>
    rw [hf] at h;unfold fieldOff at hf;split at hf<;>try cases hf
    rename_i fs hu
    split at hf<;>try cases hf
    rename_i fd hfd
    split at hf<;>try cases hf
    rename_i m hm
    refine Y2 hs (v:=.ptr b (k+fd.offset)) (x:=.pointer (some ⟨p.1,k+fd.offset,none⟩)) (by simp [den,hp]) ?_ h;have hz:=Vc hm w;simp only [execOp,ho,e];simp [Instr.fieldAt,run_underlying hu,hfd,Instr.sureAddr,fieldPlace,hz,Addr.add_lit]
  | _=>cases h
theorem Us {v:Option SV} {i:Nat} (h:natOf v=some i):∃ k,v=some (.v (.int k (.ofNat i))):=by
 unfold natOf at h;split at h
 ·cases h;exact ⟨_,J⟩
 ·cases h
theorem Sf {t m:Nat} (h:elemSz P t=some m):∃ e,P.underlying t=some (.slice e)/\tSize P e=some m:=by
 unfold elemSz at h;split at h
 ·rename_i e he;exact ⟨e,he,h⟩
 ·cases h
theorem Fh {t:Nat} {q:Nat × Nat} (h:arrOf P t=some q):∃ e,P.underlying t=some (.array q.1 e)/\tSize P e=some q.2:=by
 unfold arrOf at h;split at h
 ·rename_i m e he
  cases hz:tSize P e with
  | none=>rw [hz] at h;cases h
  | some s=>rw [hz] at h;cases h;exact ⟨e,he,hz⟩
 ·cases h
theorem ok_idx {x y:Operand} {t:Nat} (ho:o.op=.indexAddr t x y) (hs:Sx w0 F B σ w) (ha:Ags n a E D B) (h:exIdxA P σ t (sev E x) (natOf (sev E y))=some r):Wx P w0 F B a w o r:=by
 cases hv:sev E x with
 | none=>rw [hv] at h;cases h
 | some v =>
  cases hn:natOf (sev E y) with
  | none=>rw [hv,hn] at h;cases v<;>cases h
  | some i =>
   rw [hv,hn] at h;obtain ⟨ki,hy⟩:=Us hn;have he:=ha.eval hv;have hey:=Xk (ha.eval hy);cases v with
   | sl b k l j =>
    obtain ⟨p,hp,e⟩:=V6 he;simp only [exIdxA] at h;cases hm:elemSz P t with
    | none=>rw [hm] at h;cases h
    | some m =>
     rw [hm] at h;simp only [Option.bind_some] at h;obtain ⟨e',hu,hsz⟩:=Sf hm;cases hb:Nat.blt i l with
     | false=>rw [hb] at h;cases h
     | true =>
      rw [hb] at h;have hil:i<l:=by simpa using hb
      refine Y2 hs (v:=.ptr b (k+i*m)) (x:=.pointer (some ⟨p.1,k+i*m,none⟩)) (by simp [den,hp]) ?_ h;have hz:=Vc hsz w;simp only [execOp,ho,e,hey];simp [Instr.indexAt,run_underlying hu,asIntOf,hil,hz,Addr.add_lit]
   | ptr b k =>
    obtain ⟨p,hp,e⟩:=Wr he;simp only [exIdxA] at h;cases hm:arrOf P t with
    | none=>rw [hm] at h;cases h
    | some q =>
     rw [hm] at h;simp only [Option.bind_some] at h;obtain ⟨e',hu,hsz⟩:=Fh hm;cases hb:Nat.blt i q.1 with
     | false=>rw [hb] at h;cases h
     | true =>
      rw [hb] at h;have hil:i<q.1:=by simpa using hb
      refine Y2 hs (v:=.ptr b (k+i*q.2)) (x:=.pointer (some ⟨p.1,k+i*q.2,none⟩)) (by simp [den,hp]) ?_ h;have hz:=Vc hsz w;simp only [execOp,ho,e,hey];simp [Instr.indexAt,run_underlying hu,asIntOf,hil,hz,Addr.add_lit,Instr.sureAddr]
   | _=>cases h
/-! Cells -/
theorem Qr (hs:Sx w0 F B σ w) {b k m:Nat} {sb:SB} {l:List SV} {p:Nat × Nat} (hb:σ.get b=some sb) (hl:Wa sb=some l) (hp:B b=some p) (hlen:(cutAt l k m).length=m) :
  ∃ vs,Ym B (cutAt l k m)=some vs/\(loadCells ⟨p.1,k,none⟩ m).run P w=.ok vs.toArray w:=by
 have hd:∃ us,Ym B l=some us:=by
  obtain ⟨q,hq,hk,_⟩:=hs.own b sb hb;cases sb with
  | cells l'=>cases hl;obtain ⟨vs,t,h1,_⟩:=hk;exact ⟨vs,h1⟩
  | row e sz k l'=>cases hl;obtain ⟨vs,cur,h1,_⟩:=hk;exact ⟨vs,h1⟩
  | seen l' t fr=>cases hl;obtain ⟨vs,h1,_⟩:=hk;exact ⟨vs,h1⟩
  | _=>cases hl
 obtain ⟨us,hus⟩:=hd;have h1:Ym B (cutAt l k m)=some ((us.drop k).take m):=Td m (Q3 k hus);refine ⟨_,h1,?_⟩;have hlen':((us.drop k).take m).length=m:=by rw [Y7 h1];exact hlen
 have:=run_loadCells_list (P:=P) w ⟨p.1,k,none⟩ ((us.drop k).take m) (fun j v hj=>by
  rw [Addr.add_lit]
  have hj':j<m:=by
   rcases Nat.lt_or_ge j m with h | h
   ·exact h
   ·rw [List.getElem?_eq_none (by omega)] at hj;cases hj
  have hlj:∃ u,(cutAt l k m)[j]?=some u:=by
   rw [List.getElem?_eq_getElem (by rw [hlen];exact hj')];exact ⟨_,J⟩
  obtain ⟨u,hu⟩:=hlj;obtain ⟨y,hy,hdu⟩:=Vt h1 hu;rw [hj] at hy;cases hy
  have hlu:l[k+j]?=some u:=by
   unfold cutAt at hu;rw [List.getElem?_take,if_pos hj',List.getElem?_drop] at hu;exact hu
  obtain ⟨z,hz,hc⟩:=hs.cell hb hl hp hlu;rw [hdu] at hz;cases hz;exact hc)
 rw [hlen'] at this;exact this
theorem P8 {b k t:Nat} {v:SV} {p:Nat × Nat} (hs:Sx w0 F B σ w) (hp:B b=some p) (h:ldAt P σ t (some (.ptr b k))=some v):∃ x,den B v=some x/\(loadVar t ⟨p.1,k,none⟩).run P w=.ok x w:=by
 simp only [ldAt] at h;cases hg:(σ.get b).bind Wa with
 | none=>rw [hg] at h;cases h
 | some l =>
  rw [hg] at h;simp only at h;cases hb:σ.get b with
  | none=>rw [hb] at hg;cases hg
  | some sb =>
   rw [hb] at hg;have hl:Wa sb=some l:=hg;unfold ldCells at h;split at h
   ·rename_i m hA hz
    cases hlen:Nat.beq (cutAt l k m).length m with
    | false=>rw [hlen] at h;cases h
    | true =>
     rw [hlen] at h;cases h;obtain ⟨vs,hd,hr⟩:=Qr (P:=P) hs hb hl hp (Nat.eq_of_beq_eq_true hlen);refine ⟨.agg vs.toArray,by simp [den,hd],?_⟩;unfold tAgg at hA;cases hu:P.underlying t with
     | none=>rw [hu] at hA;cases hA
     | some td =>
      rw [hu] at hA;simp only [Option.map_some,Option.some.injEq] at hA
      have hagg:(isAgg t).run P w=.ok true w:=by
       cases td<;>simp only [Gp,Bool.false_eq_true] at hA<;>simp [isAgg,run_underlying hu]
      simp [loadVar,hagg,Vc hz w,hr]
   ·rename_i hA
    rw [Sd] at h;obtain ⟨x,hx,hc⟩:=hs.cell hb hl hp h;refine ⟨x,hx,?_⟩;unfold tAgg at hA;cases hu:P.underlying t with
    | none=>rw [hu] at hA;cases hA
    | some td =>
     rw [hu] at hA;simp only [Option.map_some,Option.some.injEq] at hA
     have hagg:(isAgg t).run P w=.ok false w:=by
      cases td<;>simp only [Gp,Bool.true_eq_false] at hA<;>simp [isAgg,run_underlying hu]
     simp [loadVar,hagg,hc]
   ·cases h
theorem ok_load {x:Operand} {t:Nat} (ho:o.op=.load t x) (hs:Sx w0 F B σ w) (ha:Ags n a E D B) (h:(ldAt P σ t (sev E x)).bind (same σ)=some r):Wx P w0 F B a w o r:=by
 obtain ⟨v,hv,h⟩:=Tg h;cases hx:sev E x with
 | none=>rw [hx] at hv;cases hv
 | some u =>
  rw [hx] at hv;have he:=ha.eval hx;cases u with
  | ptr b k =>
   obtain ⟨p,hp,e⟩:=Wr he;obtain ⟨y,hy,hr⟩:=P8 hs hp hv;refine Y2 hs hy ?_ h;simp only [execOp,ho,e];simp [Instr.loadAt,Instr.sureAddr,hr]
  | _=>cases hv
theorem S8 {v:SV} {c:List SV} {y:Value} (hc:svCells v=some c) (hv:den B v=some y):∃ vs,Ym B c=some vs/\y.cells=vs.toArray:=by
 cases v with
 | agg l =>
  cases hc;obtain ⟨xs,hxs,e⟩:=den_agg hv;exact ⟨xs,hxs,by rw [e];rfl⟩
 | tup l=>cases hc
 | v x =>
  have e:=Xk hv;subst e;simp only [svCells] at hc;cases h1:y.oneCell' with
  | false=>rw [h1] at hc;cases hc
  | true =>
   rw [h1] at hc;cases hc;refine ⟨[y],by simp [Ym,den],?_⟩;cases y<;>first | rfl | cases h1
 | ptr b k=>cases hc;obtain ⟨p,hp,e⟩:=Wr hv;exact ⟨[y],by simp only [Ym,hv],by rw [e];rfl⟩
 | sl b k l j=>cases hc;obtain ⟨p,hp,e⟩:=V6 hv;exact ⟨[y],by simp only [Ym,hv],by rw [e];rfl⟩
 | mp b=>cases hc;obtain ⟨p,hp,e⟩:=O5 hv;exact ⟨[y],by simp only [Ym,hv],by rw [e];rfl⟩
 | ch b =>
  cases hc;have hv':=hv;simp only [den,Option.map_eq_some_iff] at hv';obtain ⟨p,hp,e⟩:=hv';exact ⟨[y],by simp only [Ym,hv],by rw [<- e];rfl⟩
 | yd b =>
  cases hc;have hv':=hv;simp only [den,Option.map_eq_some_iff] at hv';obtain ⟨p,hp,e⟩:=hv';exact ⟨[y],by simp only [Ym,hv],by rw [<- e];rfl⟩
 | fn f u c=>cases hc;obtain ⟨p,q,_,_,e⟩:=Uu hv;exact ⟨[y],by simp only [Ym,hv],by rw [e];rfl⟩
 | ifc t x=>cases hc;obtain ⟨z,_,e⟩:=S7 hv;exact ⟨[y],by simp only [Ym,hv],by rw [e];rfl⟩
theorem one_of {v:SV} {y:Value} (h1:sOne v=true) (hv:den B v=some y):y.oneCell'=true:=by
 cases v with
 | agg l=>cases h1
 | tup l=>cases h1
 | v x=>rw [Xk hv];exact h1
 | ptr b k=>obtain ⟨p,hp,e⟩:=Wr hv;rw [e];rfl
 | sl b k l j=>obtain ⟨p,hp,e⟩:=V6 hv;rw [e];rfl
 | mp b=>obtain ⟨p,hp,e⟩:=O5 hv;rw [e];rfl
 | ch b=>simp only [den,Option.map_eq_some_iff] at hv;obtain ⟨p,hp,e⟩:=hv;rw [<- e];rfl
 | yd b=>simp only [den,Option.map_eq_some_iff] at hv;obtain ⟨p,hp,e⟩:=hv;rw [<- e];rfl
 | fn f u c=>obtain ⟨p,q,_,_,e⟩:=Uu hv;rw [e];rfl
 | ifc t x=>obtain ⟨z,_,e⟩:=S7 hv;rw [e];rfl
theorem Ra:∀ {c:List SV} {vs:List Value},c.all sOne=true->Ym B c=some vs->∀ u ∈ vs,u.oneCell'=true
 | [],vs,_,h=>by simp only [Ym] at h;cases h;simp
 | x::r,vs,h1,h=>by
  obtain ⟨v,us,hv,hr,rfl⟩:=Y5.1 h;simp only [List.all_cons,Bool.and_eq_true] at h1;intro u hu;rcases List.mem_cons.1 hu with rfl | hu
  ·exact one_of h1.1 hv
  ·exact Ra h1.2 hr u hu
theorem Sg {l c:List SV} {us vs:List Value} (hl:Ym B l=some us) (hc:Ym B c=some vs) (k:Nat):Ym B (sput l k c)=some (us.take k++vs++us.drop (k+vs.length)):=by
 unfold sput;rw [Y7 hc];exact Y8 (Y8 (Td k hl) hc) (Q3 _ hl)
theorem Zbn {x y:Operand} {t:Nat} (ho:o.op=.store t x y) (hs:Sx w0 F B σ w) (ha:Ags n a E D B) (h:exStore σ (sev E x) ((sev E y).bind svCells) (tSize P t)=some r):Wx P w0 F B a w o r:=by
 cases hx:sev E x with
 | none=>rw [hx] at h;cases h
 | some u =>
  rw [hx] at h;have he:=ha.eval hx;cases hy:sev E y with
  | none=>rw [hy] at h;cases u<;>cases h
  | some v =>
   rw [hy] at h;simp only [Option.bind_some] at h;have hey:=ha.eval hy;cases u with
   | ptr b k =>
    obtain ⟨p,hp,e⟩:=Wr he;cases hc:svCells v with
    | none=>rw [hc] at h;cases h
    | some c =>
     rw [hc] at h;cases hz:tSize P t with
     | none=>rw [hz] at h;cases h
     | some m =>
      rw [hz] at h;simp only [exStore] at h;cases hb:σ.get b with
      | none=>rw [hb] at h;cases h
      | some sb =>
       rw [hb] at h;cases sb with
       | cells l =>
        simp only [stAt] at h;cases hg:Nat.beq c.length m&&c.all sOne&&Nat.ble (k+m) l.length with
        | false=>rw [hg] at h;cases h
        | true =>
         rw [hg] at h;simp only [cond_true] at h;cases h;simp only [Bool.and_eq_true] at hg;have h1:=Nat.eq_of_beq_eq_true hg.1.1;have h3:=Nat.le_of_ble_eq_true hg.2;obtain ⟨vs,hvs,hcel⟩:=S8 hc hey;obtain ⟨q,hq,⟨us,ty,hus,hob⟩,hF⟩:=hs.own b _ hb;rw [hp] at hq;cases hq;have hlv:vs.length=m:=by rw [Y7 hvs,h1]
         have hlu:us.length=l.length:=Y7 hus;have hst:=run_storeCells_at P p.1 k ty vs 0 us.toArray w hob (by simp;omega) (Ra hg.1.2 hvs);refine ⟨undef,w.setRow p.1 (us.take k++vs++us.drop (k+vs.length)).toArray,.inr ⟨J,?_⟩,J,?_⟩
         ·simp only [execOp,ho,e];have hz':=Vc hz w;simp only [Instr.storeAt,Instr.sureAddr,storeVar,hcel];simp [hz',hlv,hst]
         ·refine hs.turn (w':=w.setRow p.1 (us.take k++vs++us.drop (k+vs.length)).toArray) hb hp ⟨J,J,J⟩ (by simp) (fun j hj=>setRow_other w p.1 j _ hj) _ ?_;exact ⟨_,ty,Sg hus hvs k,setRow_heap w p.1 _ _ ty _ hob⟩
       | _=>cases h
   | _=>cases h
theorem ok_box {x:Operand} {t:Nat} (ho:o.op=.box t x) (hs:Sx w0 F B σ w) (ha:Ags n a E D B) (h:exBox σ ((sev E x).bind svCells)=some r):Wx P w0 F B a w o r:=by
 cases hx:sev E x with
 | none=>rw [hx] at h;cases h
 | some v =>
  rw [hx] at h;simp only [Option.bind_some] at h;have he:=ha.eval hx;cases hc:svCells v with
  | none=>rw [hc] at h;cases h
  | some c =>
   rw [hc] at h;cases h;obtain ⟨vs,hvs,hcel⟩:=S8 hc he;refine Ru (ob:=.cells vs.toArray t) (c:=0) (x:=.pointer (some ⟨w.heap.size,0,none⟩)) hs ?_ (fun r hr=>⟨⟨vs,t,Y9 (Pre.upd hr _) _ _ hvs,J⟩,by simp [den,X2]⟩);simp only [execOp,ho];simp [Instr.box,newVar,newRow,hcel]
theorem U9 {t:Nat} {z:Value} (h:tZero P t=some z) (w:World):(zeroValue t).run P w=.ok z w:=by
 unfold tZero at h;cases hi:P.info? t with
 | none=>rw [hi] at h;cases h
 | some i =>
  rw [hi] at h;have hz:i.zero=some z:=h;simp [zeroValue,P9 hi,hz]
theorem Zbv {t:Nat} (ho:o.op=.alloc t) (hs:Sx w0 F B σ w) (h:exAlloc σ (tZero P t)=some r):Wx P w0 F B a w o r:=by
 cases hz:tZero P t with
 | none=>rw [hz] at h;cases h
 | some z =>
  rw [hz] at h;cases h;refine Ru (ob:=.cells z.cells.toList.toArray t) (c:=0) (x:=.pointer (some ⟨w.heap.size,0,none⟩)) hs ?_ (fun r hr=>⟨⟨_,t,Te _,J⟩,by simp [den,X2]⟩);simp only [execOp,ho];simp [Instr.alloc,U9 hz w,newVar,newRow]
end
end S
namespace S
open Go Go.RowKit E
section
variable {P:Program} {n:Nat} {w0 w:World} {F:List Nat} {B:Nm} {σ:St} {a:Act} {E:SE} {D:List SD} {o:Oper} {r:OpR}
theorem C5 {α β:Type} (f:α->β) (u:Array α):(u.toList.map f).toArray=u.map f:=by rw [<- Array.toList_map,Array.toArray_toList]
/-! ### Laying out -/
theorem Ro (ha:Ags n a E D B):∀ {xs:List (Nat × Operand)} {vs:List (Nat × SV)},sparts E xs=some vs->∃ us:List (Nat × Value),xs.map (fun x=>(x.1,a.eval x.2))=us/\us.map (·.1)=vs.map (·.1)/\Ym B (vs.map (·.2))=some (us.map (·.2))
 | [],vs,h=>by rw [H3] at h;cases h;exact ⟨[],J,J,J⟩
 | x::r,vs,h=>by
  rw [Jq] at h;obtain ⟨y,m,hy,hm,rfl⟩:=Tu h;obtain ⟨us,h1,h2,h3⟩:=Ro ha hm;cases hv:sev E x.2 with
  | none=>rw [hv] at hy;cases hy
  | some v =>
   rw [hv] at hy;cases hy;refine ⟨(x.1,a.eval x.2)::us,by simp [h1],by simp [h2],?_⟩;simp only [List.map_cons];exact Y5.2 ⟨_,_,ha.eval hv,h3,J⟩
theorem Ug (ha:Ags n a E D B):∀ {xs:List Operand} {vs:List SV},sargs E xs=some vs->Ym B vs=some (xs.map a.eval)
 | [],vs,h=>by rw [Ck] at h;cases h;rfl
 | x::r,vs,h=>by
  rw [H4] at h;obtain ⟨y,m,hy,hm,rfl⟩:=Tu h;exact Y5.2 ⟨_,_,ha.eval hy,Ug ha hm,J⟩
theorem P5 (place:Nat->Option (Nat × Nat)):∀ {vs:List (Nat × SV)} {us:List (Nat × Value)} {cells cs:List SV} {xs:List Value},us.map (·.1)=vs.map (·.1)->Ym B (vs.map (·.2))=some (us.map (·.2))->Ym B cells=some xs->sfill place cells vs=some cs ->
  ∃ ys,Ym B cs=some ys/\Qh place xs us=some ys
 | [],us,cells,cs,xs,h1,h2,h3,h=>by
  cases us with
  | nil=>simp only [sfill] at h;cases h;exact ⟨xs,h3,J⟩
  | cons u us=>simp at h1
 | (i,v)::r,us,cells,cs,xs,h1,h2,h3,h=>by
  cases us with
  | nil=>simp at h1
  | cons u us =>
   obtain ⟨j,y⟩:=u;simp only [List.map_cons,List.cons.injEq] at h1;obtain ⟨e1,h1⟩:=h1;subst e1;simp only [List.map_cons] at h2;obtain ⟨y',us',hy,hr,e⟩:=Y5.1 h2;simp only [List.cons.injEq] at e;obtain ⟨e1,e2⟩:=e;subst e1;subst e2;simp only [sfill] at h;cases hp:place j with
   | none=>rw [hp] at h;cases h
   | some q =>
    obtain ⟨off,size⟩:=q;rw [hp] at h;cases hc:svCells v with
    | none=>rw [hc] at h;cases h
    | some c =>
     rw [hc] at h;simp only at h;obtain ⟨zs,hzs,hcel⟩:=S8 hc hy;have hlz:zs.length=c.length:=Y7 hzs;have hlx:xs.length=cells.length:=Y7 h3;cases hb:Nat.beq c.length size&&Nat.ble (off+c.length) cells.length with
     | false=>rw [hb] at h;cases h
     | true =>
      rw [hb] at h;simp only [cond_true] at h;have h3':Ym B (sput cells off c)=some (put xs off zs):=Sg h3 hzs off;obtain ⟨ys,hys,hf⟩:=P5 place h1 hr h3' h;refine ⟨ys,hys,?_⟩;simp only [Qh,hp];have e3:y.cells.toList=zs:=by rw [hcel]
      rw [e3,hlz,hlx,hb];exact hf
theorem Og:∀ {fs:List Field} {pl:List (Nat × Nat)},places P fs=some pl->(fs.mapM fun f=>do pure (f.offset,<- sizeOf f.type):Sem (List (Nat × Nat))).run P w=.ok pl w
 | [],pl,h=>by simp only [places] at h;cases h;rfl
 | f::r,pl,h=>by
  simp only [places] at h;cases hz:tSize P f.type with
  | none=>rw [hz] at h;cases h
  | some k =>
   rw [hz] at h;cases hr:places P r with
   | none=>rw [hr] at h;cases h
   | some l =>
    rw [hr] at h;cases h;have ih:=Og hr;rw [List.mapM_cons];simp only [Sem.run_bind,Vc hz w,Result.andThen_ok,Sem.run_pure];simp at ih;simp [ih]
theorem Bh {z:Value} (B:Nm):Ym B (z.cells.toList.map SV.v)=some z.cells.toList:=Te _
theorem ok_bld0 {t:Nat} {ps:Array (Nat × Operand)} (ho:o.op=.build t ps) (hs:Sx w0 F B σ w) (ha:Ags n a E D B) (h:(sparts E ps.toList).bind (exBuild P σ t)=some r):Wx P w0 F B a w o r:=by
 cases hp:sparts E ps.toList with
 | none=>rw [hp] at h;cases h
 | some vs =>
  rw [hp] at h;simp only [Option.bind_some] at h;obtain ⟨us,h1,h2,h3⟩:=Ro ha hp;unfold exBuild at h;split at h
  ·rename_i fs z hu hz
   cases hpl:places P fs.toList with
   | none=>rw [hpl] at h;cases h
   | some pl =>
    rw [hpl] at h;simp only at h;cases hf:sfill (fun i=>nth pl i) (z.cells.toList.map SV.v) vs with
    | none=>rw [hf] at h;cases h
    | some c =>
     rw [hf] at h;obtain ⟨ys,hys,hfl⟩:=P5 (fun i=>nth pl i) h2 h3 (Bh B) hf;refine Y2 hs (v:=.agg c) (x:=.agg ys.toArray) (by simp [den,hys]) ?_ h;have hfl':=Kn _ _ _ _ hfl;have hpr:=Og (P:=P) (w:=w) hpl
     have hm:(fs.mapM fun f=>do pure (f.offset,<- sizeOf f.type):Sem (Array (Nat × Nat))).run P w=.ok pl.toArray w:=by
      rw [Array.mapM_eq_mapM_toList];simp at hpr;simp [hpr]
     simp only [execOp,ho];have e2:(ps.map fun (x:Nat × Operand)=>(x.1,a.eval x.2))=us.toArray:=by rw [<- h1,C5]
     rw [show (ps.map fun x=>match x with | (i,x)=>(i,a.eval x))=us.toArray from e2];simp only [Instr.build,Sem.run_bind,U9 hz w,Result.andThen,run_underlying hu,hm];have e3:(fun i=>pl.toArray[i]?)=fun i=>nth pl i:=by funext i;rw [Sd];simp
     rw [Array.toArray_toList] at hfl';simp only [e3];simp [hfl']
  ·cases h
theorem Zbu {t:Nat} {ps:Array (Nat × Operand)} (ho:o.op=.build t ps) (hs:Sx w0 F B σ w) (ha:Ags n a E D B) (h:exBld P E σ o t ps=some r):Wx P w0 F B a w o r:=by
 unfold exBld at h;cases hb:(arrOf P t).isSome with
 | true=>rw [hb] at h;exact Xv hs ha h
 | false=>rw [hb] at h;exact ok_bld0 ho hs ha h
theorem Qn (z:List Value):∀ k,Ym B (szrow (z.map SV.v) k)=some (Tl z k)
 | 0=>rfl
 | k+1=>Y8 (Te z) (Qn z k)
theorem Eb {e sz k c:Nat} {cs:List SV} {ys rest:List Value} {p:Nat × Nat} (hys:Ym B cs=some ys) (hl:ys.length=k*sz) (hk:k<=p.2) (hm:p.2<=maxLen) (hsz:ys.length+rest.length=p.2*sz):Blk B p (.row e sz k cs) (some (.cells (ys++rest).toArray e (0,0))) :=
 ⟨ys,(ys++rest).toArray,hys,hl,rfl,hk,hm,by simpa using hsz,by rw [<- hl];simp⟩
theorem Qg (place:Nat->Option (Nat × Nat)):∀ {us:List (Nat × Value)} {xs ys:List Value},Qh place xs us=some ys->ys.length=xs.length
 | [],xs,ys,h=>by simp only [Qh] at h;cases h;rfl
 | (i,v)::r,xs,ys,h=>by
  simp only [Qh] at h;split at h
  ·cases h
  ·rename_i off size hp
   cases hb:Nat.beq v.cells.toList.length size&&Nat.ble (off+v.cells.toList.length) xs.length with
   | false=>rw [hb] at h;cases h
   | true =>
    rw [hb] at h;rw [Bool.and_eq_true] at hb;have e2:=Nat.le_of_ble_eq_true hb.2;rw [Qg place h];simp only [put,List.length_append,List.length_take,List.length_drop];omega
theorem Ct {t k:Nat} {ps:Array (Nat × Operand)} (ho:o.op=.buildSlice t k ps) (hs:Sx w0 F B σ w) (ha:Ags n a E D B) (h:(sparts E ps.toList).bind (exBuildS P σ t k)=some r):Wx P w0 F B a w o r:=by
 cases hp:sparts E ps.toList with
 | none=>rw [hp] at h;cases h
 | some vs =>
  rw [hp] at h;simp only [Option.bind_some] at h;obtain ⟨us,h1,h2,h3⟩:=Ro ha hp;unfold exBuildS at h;split at h
  ·rename_i e hu
   split at h
   ·rename_i z sz hz hsz
    cases hb:Nat.beq z.cells.size sz&&Nat.blt 0 (k*sz)&&Nat.ble (k*sz) 100000 with
    | false=>rw [hb] at h;cases h
    | true =>
     rw [hb] at h;simp only [cond_true] at h;simp only [Bool.and_eq_true] at hb;have e1:=Nat.eq_of_beq_eq_true hb.1.1;have hpos:0<k*sz:=by simpa using hb.1.2
     have hle:=Nat.le_of_ble_eq_true hb.2;have hkk:k<=k*sz:=Nat.le_mul_of_pos_right k (Nat.pos_of_mul_pos_left hpos);cases hf:sfill (fun i=>some (i*sz,sz)) (szrow (z.cells.toList.map SV.v) k) vs with
     | none=>rw [hf] at h;cases h
     | some c =>
      rw [hf] at h;cases h;obtain ⟨ys,hys,hfl⟩:=P5 (fun i=>some (i*sz,sz)) h2 h3 (Qn z.cells.toList k) hf;have hly:ys.length=k*sz:=by rw [Qg _ hfl,Vm];simp [e1]
      refine Ru (ob:=.cells ys.toArray e) (c:=k) (x:=.slice (some ⟨w.heap.size,0,none⟩) k k) hs ?_ (fun r hr=>⟨?_,by simp [den,X2]⟩)
      ·have hfl':=Kn _ _ _ _ hfl;have hze:=Fv z.cells.toList (by have:0<sz:=Nat.pos_of_mul_pos_left hpos;rw [Array.length_toList];omega) k;have hzs:z.cells.toList.length=sz:=by simp [e1]
       rw [hzs] at hze;simp only [execOp,ho];have e2:(ps.map fun (x:Nat × Operand)=>(x.1,a.eval x.2))=us.toArray:=by rw [<- h1,C5]
       rw [show (ps.map fun x=>match x with | (i,x)=>(i,a.eval x))=us.toArray from e2];have hsm:¬ k*sz>2 ^ 24:=by omega
       have hne:¬ k*sz=0:=by omega
       simp only [Instr.buildSlice,Sem.run_bind,run_underlying hu,Result.andThen,Vc hsz w,if_neg hsm,if_neg hne,Sem.run_pure,U9 hz w];rw [show (Array.range (k*sz)).map (fun i=>z.cells[i % z.cells.size]!)=(Tl z.cells.toList k).toArray by rw [<- hze]];simp [hfl',newRow]
      ·have:=Eb (B:=upd B r (w.heap.size,k)) (e:=e) (sz:=sz) (k:=k) (c:=0) (rest:=[]) (p:=(w.heap.size,k)) (Y9 (Pre.upd hr _) _ _ hys) hly (Nat.le_refl _) (by show k<=maxLen;simp only [maxLen];omega) (by simp [hly])
       simpa using this
   ·cases h
  ·cases h
theorem Zbs {t:Nat} {x:Operand} (ho:o.op=.makeInterface t x) (hs:Sx w0 F B σ w) (ha:Ags n a E D B) (h:(sev E x).bind (exIface P σ t)=some r):Wx P w0 F B a w o r:=by
 cases hx:sev E x with
 | none=>rw [hx] at h;cases h
 | some v =>
  rw [hx] at h;simp only [Option.bind_some,exIface] at h;have he:=ha.eval hx;cases hu:P.underlying t with
  | none=>rw [hu] at h;cases h
  | some td =>
   rw [hu] at h
   have hr:(∀ m,td≠.interface m)->(execOp a.eval o).run P w=.ok (.value (.iface t (a.eval x))) w:=by
    intro hne;simp only [execOp,ho]
    cases td<;>first
     | (simp [Instr.makeInterface,run_underlying hu];done)
     | exact absurd rfl (hne _)
   cases td<;>first
    | cases h;done
    | exact Y2 hs (v:=.ifc t v) (x:=.iface t (a.eval x)) (by simp [den,he]) (hr (fun m e=>by cases e)) h
theorem ok_func {fn:Fn} {u c:Array Operand} (ho:o.op=.makeFunc fn u c) (hs:Sx w0 F B σ w) (ha:Ags n a E D B) (h:acFunc E σ u c fn=some r):Wx P w0 F B a w o r:=by
 cases fn with
 | func f =>
  simp only [acFunc] at h;cases h1:sargs E u.toList with
  | none=>rw [h1] at h;cases h
  | some x =>
   rw [h1] at h;cases h2:sargs E c.toList with
   | none=>rw [h2] at h;cases h
   | some y =>
    rw [h2] at h;simp only [exFunc] at h;have e1:=Ug ha h1;have e2:=Ug ha h2;refine Y2 hs (v:=.fn f x y) (x:=.func (.func f) (u.map a.eval) (c.map a.eval)) ?_ ?_ h
    ·simp only [den,e1,e2,C5]
    ·simp only [execOp,ho];rfl
 | _=>cases h
theorem Cu {x:Operand} {xt t:Nat} {ok:Bool} (ho:o.op=.typeAssert x xt t ok) (hs:Sx w0 F B σ w) (ha:Ags n a E D B) (h:exAssert P E σ o t ok (sev E x)=some r):Wx P w0 F B a w o r:=by
 cases hx:sev E x with
 | none=>rw [hx] at h;exact Xv hs ha h
 | some v =>
  rw [hx] at h;cases v with
  | ifc u y =>
   obtain ⟨z,hz,e⟩:=S7 (ha.eval hx);simp only [exAssert] at h;cases hu:P.underlying t with
   | none=>rw [hu] at h;cases h
   | some td =>
    rw [hu] at h
    have hni:∀ {q:Option OpR},(match some td with | some (.interface _)=>none | some _=>q | none=>none)=some r->(∀ m,td≠.interface m)/\q=some r:=by
     intro q hq
     cases td<;>first
      | cases hq;done
      | exact ⟨fun m e=>(by cases e),hq⟩
    obtain ⟨hne,h⟩:=hni h;cases hb:Nat.beq u t with
    | true =>
     rw [hb] at h;have hut:=Nat.eq_of_beq_eq_true hb;subst hut;simp only [cond_true] at h
     have hr:(execOp a.eval o).run P w=.ok (.value (if ok then .tuple #[z,.bool true] else z)) w:=by
      simp only [execOp,ho,e]
      cases td<;>first
       | (cases ok<;>simp [Instr.typeAssert,run_underlying hu];done)
       | exact absurd rfl (hne _)
     cases ok with
     | true=>exact Y2 hs (v:=.tup [y,.v (.bool true)]) (x:=.tuple #[z,.bool true]) (by simp [den,Ym,hz]) hr h
     | false=>exact Y2 hs (v:=y) (x:=z) hz hr h
    | false =>
     rw [hb] at h;have hut:u≠t:=fun e=>by rw [e,Nat.beq_refl] at hb;cases hb
     simp only [cond_false] at h;cases ok with
     | false=>cases h
     | true =>
      simp only [cond_true] at h;cases hzz:tZero P t with
      | none=>rw [hzz] at h;cases h
      | some zz =>
       rw [hzz] at h;refine Y2 hs (v:=.tup [ofV zz,.v (.bool false)]) (x:=.tuple #[zz,.bool false]) (by simp [den,Ym,Pr]) ?_ h;simp only [execOp,ho,e]
       cases td<;>first
        | (simp [Instr.typeAssert,run_underlying hu,hut,U9 hzz w];done)
        | exact absurd rfl (hne _)
  | _=>exact Xv hs ha h
theorem ok_make {t:Nat} {x y:Operand} (ho:o.op=.makeSlice t x y) (hs:Sx w0 F B σ w) (ha:Ags n a E D B) (h:((natOf (sev E x)).bind fun l=>(natOf (sev E y)).bind fun c=>exMake P σ t l c)=some r):Wx P w0 F B a w o r:=by
 cases h1:natOf (sev E x) with
 | none=>rw [h1] at h;cases h
 | some l =>
  rw [h1] at h;cases h2:natOf (sev E y) with
  | none=>rw [h2] at h;cases h
  | some c =>
   rw [h2] at h;simp only [Option.bind_some,exMake] at h;obtain ⟨k1,hx⟩:=Us h1;obtain ⟨k2,hy⟩:=Us h2;have ex:=Xk (ha.eval hx);have ey:=Xk (ha.eval hy);split at h
   ·rename_i e hu
    cases hi:P.info? e with
    | none=>rw [hi] at h;cases h
    | some i =>
     rw [hi] at h;simp only at h;cases hz:i.zero with
     | none=>rw [hz] at h;cases h
     | some z =>
      rw [hz] at h;simp only at h;cases hb:Nat.ble l c&&Nat.beq z.cells.size i.size&&Nat.blt 0 i.size&&Nat.ble (c*(i.bytes+1)) 1000000 with
      | false=>rw [hb] at h;cases h
      | true =>
       rw [hb] at h;simp only [cond_true] at h;cases h;simp only [Bool.and_eq_true] at hb;have b1:=Nat.le_of_ble_eq_true hb.1.1.1;have b2:=Nat.eq_of_beq_eq_true hb.1.1.2;have b3:0<i.size:=by simpa using hb.1.2
       have b4:=Nat.le_of_ble_eq_true hb.2;have b5:c<=1000000:=Nat.le_trans (Nat.le_mul_of_pos_right c (by omega)) b4;have b6:c*i.bytes<=1000000:=Nat.le_trans (Nat.mul_le_mul_left c (by omega)) b4
       have hr:=run_make (P:=P) w t e i z hu hi hz k1 k2 (Int.ofNat l) (Int.ofNat c) (Int.natCast_nonneg l) (by simpa using b1) (by
        have:((i.bytes:Int)*(Int.ofNat c))=((c*i.bytes:Nat):Int):=by rw [Nat.mul_comm];simp
        rw [this];omega) (by simp;omega)
       have hmc:(madeCells z.cells (c*i.size))=(Tl z.cells.toList l++Tl z.cells.toList (c - l)).toArray:=by
        have hze:=Fv z.cells.toList (by simp [b2,b3]) c;have hzs:z.cells.toList.length=i.size:=by simp [b2]
        rw [hzs] at hze;unfold madeCells
        have:Tl z.cells.toList l++Tl z.cells.toList (c - l)=Tl z.cells.toList c:=by
         have key:∀ (u v:Nat),Tl z.cells.toList u++Tl z.cells.toList v=Tl z.cells.toList (u+v):=by
          intro u v;induction u with
          | zero=>simp [Tl]
          | succ u ih=>rw [Nat.succ_add];simp only [Tl,List.append_assoc,ih]
         rw [key];congr 1;omega
        rw [this,<- hze]
       refine Ru (ob:=.cells (madeCells z.cells (c*i.size)) e) (c:=c) (x:=.slice (some ⟨w.heap.size,0,none⟩) l c) hs ?_ (fun r hr=>⟨?_,by simp [den,X2]⟩)
       ·simp only [execOp,ho,ex,ey];simp only [Int.ofNat_eq_natCast,Int.toNat_natCast] at hr;simp [hr]
       ·rw [hmc];have hzs:z.cells.toList.length=i.size:=by simp [b2]
        exact Eb (B:=upd B r (w.heap.size,c)) (c:=0) (p:=(w.heap.size,c)) (Qn z.cells.toList l) (by rw [Vm,hzs]) b1 (by show c<=maxLen;simp only [maxLen];omega) (by
         rw [Vm,Vm,hzs,<- Nat.add_mul];show (l+(c - l))*i.size=c*i.size;rw [Nat.add_sub_cancel' b1])
   ·cases h
end
end S
end Go.Proofs.YtpofmnfkdkmieaaGreat
