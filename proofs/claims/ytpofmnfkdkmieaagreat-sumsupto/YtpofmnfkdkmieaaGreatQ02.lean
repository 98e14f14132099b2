/- What is proved here: what each operation gives that computes  -/
import Derived.Test.YtpofmnfkdkmieaaGreatQ01
import Derived.Lib.AppendStr
set_option linter.unusedVariables false
set_option linter.unusedSimpArgs false
namespace Go.Proofs.YtpofmnfkdkmieaaGreat
namespace E
open Go Go.RowKit
def FF (P:Program) (s f k:Nat):Prop:=∀ (b off:Nat) (w:World),(Instr.fieldAt s (.pointer (some ⟨b,off,none⟩)) f).run P w=.ok (.pointer (some ⟨b,off+k,none⟩)) w
def T1 (P:Program) (t:Nat):Prop:=∀ w:World,(isAgg t).run P w=.ok false w/\(sizeOf t).run P w=.ok 1 w
def TZ (P:Program) (t:Nat) (zs:List Value):Prop:=∀ w:World,(do pure (<- zeroValue t).cells:Sem (Array Value)).run P w=.ok zs.toArray w
def TN (P:Program) (t n:Nat):Prop:=∀ w:World,(isAgg t).run P w=.ok true w/\(sizeOf t).run P w=.ok n w
def TS (P:Program) (t e n:Nat):Prop:=P.underlying t=some (.slice e)/\∀ w:World,(sizeOf e).run P w=.ok n w
def TStr (P:Program) (t:Nat):Prop:=P.underlying t=some .string
def TI (P:Program) (t:Nat) (k:IntKind):Prop:=P.underlying t=some (.int k)
def eqS (x y:ByteArray):Bool:=decide (x=y)
theorem Ie (x y:ByteArray):(x.toList==y.toList)=eqS x y:=by
 unfold eqS;rw [ByteArray.toList_eq,ByteArray.toList_eq];by_cases h:x=y
 ·subst h;simp
 ·rw [decide_eq_false h];refine beq_eq_false_iff_ne.2 fun e=>h ?_;cases x;cases y;simp only at e;rw [Array.toList_inj] at e;rw [e]
section
variable {P:Program} {n:Nat} {E:Env} {w0:World} {F:List Nat} {H:Hp} {R:Asr}
theorem Zr {x:Operand} {v:Value} (hx:ev E x=some v):Ex P n E w0 F H R (.move x) v:=⟨fun w _ a ha _ _ _ _ _=>by
 simp only [execOp];rw [ha.eval hx];rfl⟩
theorem Zx {x:Operand} {v:Value} (hx:ev E x=some v):Ex P n E w0 F H R (.assign x) v:=⟨fun w _ a ha _ _ _ _ _=>by
 simp only [execOp];rw [ha.eval hx];rfl⟩
theorem Xd {c x y:Operand} {v:Value} (hc:ev E c=some (.bool true)) (hx:ev E x=some v):Ex P n E w0 F H R (.pick c x y) v:=⟨fun w _ a ha _ _ _ _ _=>by
 simp only [execOp];rw [ha.eval hx,ha.eval hc];rfl⟩
theorem Y8 {c x y:Operand} {v:Value} (hc:ev E c=some (.bool false)) (hy:ev E y=some v):Ex P n E w0 F H R (.pick c x y) v:=⟨fun w _ a ha _ _ _ _ _=>by
 simp only [execOp];rw [ha.eval hy,ha.eval hc];rfl⟩
theorem Lp {op:BinOp} {t t':TypeId} {x y:Operand} {k:IntKind} {i j:Int} {v:Value} (hx:ev E x=some (.int k i)) (hy:ev E y=some (.int k j))
  (h:∀ w:World,(binOp op t (.int k i) (.int k j)).run P w=.ok v w):Ex P n E w0 F H R (.binOp op t x y t') v:=⟨fun w _ a ha _ _ _ _ _=>by
 simp only [execOp];rw [ha.eval hx,ha.eval hy,eqGuard_at_int];have:=h w;simp [this]⟩
theorem Ex_add {t t':TypeId} {x y:Operand} {k:IntKind} {i j:Int} (hx:ev E x=some (.int k i)) (hy:ev E y=some (.int k j)):Ex P n E w0 F H R (.binOp .add t x y t') (.int k (k.wrap (i+j))) :=
 Lp hx hy fun w=>by simp [binOp,Op.intArith]
theorem Ex_mul {t t':TypeId} {x y:Operand} {k:IntKind} {i j:Int} (hx:ev E x=some (.int k i)) (hy:ev E y=some (.int k j)):Ex P n E w0 F H R (.binOp .mul t x y t') (.int k (k.wrap (i*j))) :=
 Lp hx hy fun w=>by simp [binOp,Op.intArith]
theorem Qz (k:Int) (h : -9223372036854775808<=k/\k<=9223372036854775807):IntKind.i64.wrap k=k:=by
 rw [IntWalk.i64_left];exact IntWalk.wrap64_in k h
theorem Vt {t t':TypeId} {x y:Operand} {k:Nat} (hx:ev E x=some (iN k)) (hy:ev E y=some (.int .i64 1)) (hk:k<9223372036854775807):Ex P n E w0 F H R (.binOp .add t x y t') (.int .i64 ((k+1:Nat):Int)):=by
 have:=Ex_add (P:=P) (n:=n) (w0:=w0) (F:=F) (H:=H) (R:=R) (t:=t) (t':=t') hx hy;rw [Qz _ (by omega)] at this;exact this
theorem Ex_mulB {t t':TypeId} {x y:Operand} {i j:Int} (hx:ev E x=some (.int .i64 i)) (hy:ev E y=some (.int .i64 j)) (hk : -9223372036854775808<=i*j/\i*j<=9223372036854775807):Ex P n E w0 F H R (.binOp .mul t x y t') (.int .i64 (i*j)):=by
 have:=Ex_mul (P:=P) (n:=n) (w0:=w0) (F:=F) (H:=H) (R:=R) (t:=t) (t':=t') hx hy;rw [Qz _ hk] at this;exact this
theorem Vf {t t':TypeId} {x y:Operand} {k:IntKind} {i j:Int} (hx:ev E x=some (.int k i)) (hy:ev E y=some (.int k j)):Ex P n E w0 F H R (.binOp .lss t x y t') (.bool (decide (i<j))) :=
 Lp hx hy fun w=>by simp [binOp,Op.intCmp]
theorem Xo {t t':TypeId} {x y:Operand} {k:IntKind} {i j:Int} (hx:ev E x=some (.int k i)) (hy:ev E y=some (.int k j)):Ex P n E w0 F H R (.binOp .leq t x y t') (.bool (decide (i<=j))) :=
 Lp hx hy fun w=>by simp [binOp,Op.intCmp]
theorem Xx {t t':TypeId} {x y:Operand} {k:IntKind} {i j:Int} (hx:ev E x=some (.int k i)) (hy:ev E y=some (.int k j)):Ex P n E w0 F H R (.binOp .eql t x y t') (.bool (decide (i=j))) :=
 Lp hx hy fun w=>by
  have e:(i==j)=decide (i=j):=by by_cases h:i=j<;>simp [h]
  simp [binOp,Op.intCmp,e]
theorem Ex_neq {t t':TypeId} {x y:Operand} {k:IntKind} {i j:Int} (hx:ev E x=some (.int k i)) (hy:ev E y=some (.int k j)):Ex P n E w0 F H R (.binOp .neq t x y t') (.bool (!decide (i=j))) :=
 Lp hx hy fun w=>by
  have e:(i != j) = !decide (i=j):=by by_cases h:i=j<;>simp [h]
  simp [binOp,Op.intCmp,e]
theorem Zvm {t:TypeId} {x:Operand} {b:Bool} (hx:ev E x=some (.bool b)):Ex P n E w0 F H R (.unOp .not t x) (.bool (!b)):=⟨fun w _ a ha _ _ _ _ _=>by
 simp only [execOp];rw [ha.eval hx];rfl⟩
theorem Oa {s d:TypeId} {x:Operand} {k k':IntKind} {i:Int} (hs:TI P s k) (hd:TI P d k') (hx:ev E x=some (.int k i)):Ex P n E w0 F H R (.convert s d x) (.int k' (k'.wrap i)):=⟨fun w _ a ha _ _ _ _ _=>by
 simp only [execOp];rw [ha.eval hx];simp [convert,run_underlying hs,run_underlying hd,Conv.intToInt]⟩
theorem Mi {t:TypeId} {x:Operand} {s:ByteArray} (ht:TStr P t) (hx:ev E x=some (.string s)):Ex P n E w0 F H R (.call ⟨.builtin .len,#[x],#[t]⟩) (.int .i64 (s.size:Int)):=⟨fun w _ a ha _ _ _ _ _=>by
 simp only [execOp,resolve,invoke,builtin];simp [ha.eval hx,Builtin.len_,run_underlying ht,goInt]⟩
theorem Xv {t e k:TypeId} {x:Operand} {p:Option Addr} {l c:Nat} (ht:TS P t e k) (hx:ev E x=some (.slice p l c)):Ex P n E w0 F H R (.call ⟨.builtin .len,#[x],#[t]⟩) (.int .i64 (l:Int)):=⟨fun w _ a ha _ _ _ _ _=>by
 simp only [execOp,resolve,invoke,builtin];simp [ha.eval hx,Builtin.len_,run_underlying ht.1,goInt]⟩
theorem Zlx {op:BinOp} {t t':TypeId} {x y:Operand} {i j:ByteArray} {v:Value} (hx:ev E x=some (.string i)) (hy:ev E y=some (.string j))
  (h:∀ w:World,(Op.stringOp op i j).run P w=.ok v w) (hb:binOp op t (.string i) (.string j)=Op.stringOp op i j):Ex P n E w0 F H R (.binOp op t x y t') v:=⟨fun w _ a ha _ _ _ _ _=>by
 simp only [execOp];rw [ha.eval hx,ha.eval hy,eqGuard_at_string];have:=h w;simp [hb,this]⟩
theorem Mj {t t':TypeId} {x y:Operand} {i j:ByteArray} (hx:ev E x=some (.string i)) (hy:ev E y=some (.string j)):Ex P n E w0 F H R (.binOp .eql t x y t') (.bool (eqS i j)) :=
 Zlx hx hy (fun w=>by simp only [Op.stringOp,Ie];rfl) (by simp [binOp])
theorem Zlw {t t':TypeId} {x y:Operand} {i j:ByteArray} (hx:ev E x=some (.string i)) (hy:ev E y=some (.string j)):Ex P n E w0 F H R (.binOp .neq t x y t') (.bool (!eqS i j)) :=
 Zlx hx hy (fun w=>by simp only [Op.stringOp,Ie];rfl) (by simp [binOp])
theorem Kn {t:TypeId} {x y:Operand} {s:ByteArray} {k:Nat} (ht:TStr P t) (hx:ev E x=some (.string s)) (hy:ev E y=some (iN k)) (hk:k<s.size) :
  Ex P n E w0 F H R (.index t x y) (.int .u8 (s[k].toNat:Int)):=⟨fun w _ a ha _ _ _ _ _=>by
 simp only [execOp];rw [ha.eval hx,ha.eval hy];have e:s[k]?=some s[k]:=ByteArray.getElem?_lt' s k hk;simp [Instr.index,asIntOf,run_underlying ht,e]⟩
theorem Zjb {t:TypeId} {x hi:Operand} {s:ByteArray} {h:Nat} (ht:TStr P t) (hx:ev E x=some (.string s)) (hh:ev E hi=some (iN h)) (h2:h<=s.size) :
  Ex P n E w0 F H R (.slice t x none (some hi) none) (.string (s.extract 0 h)):=⟨fun w _ a ha _ _ _ _ _=>by
 simp only [execOp,Option.map_some,Option.map_none];rw [ha.eval hx,ha.eval hh];simp [Instr.sliceAt,run_underlying ht,Instr.slice,Instr.sliceBounds,Instr.sliceBound,asIntOf,h2]⟩
theorem Zco {t:TypeId} {x lo:Operand} {s:ByteArray} {l:Nat} (ht:TStr P t) (hx:ev E x=some (.string s)) (hl:ev E lo=some (iN l)) (h2:l<=s.size) :
  Ex P n E w0 F H R (.slice t x (some lo) none none) (.string (s.extract l s.size)):=⟨fun w _ a ha _ _ _ _ _=>by
 simp only [execOp,Option.map_some,Option.map_none];rw [ha.eval hx,ha.eval hl];simp [Instr.sliceAt,run_underlying ht,Instr.slice,Instr.sliceBounds,Instr.sliceBound,asIntOf,h2]⟩
theorem Zac {t e k:TypeId} {x hi:Operand} {p:Option Addr} {l c h:Nat} (ht:TS P t e k) (hx:ev E x=some (.slice p l c)) (hh:ev E hi=some (iN h)) (h2:h<=c) :
  Ex P n E w0 F H R (.slice t x none (some hi) none) (.slice p h c):=⟨fun w _ a ha _ _ _ _ _=>by
 simp only [execOp,Option.map_some,Option.map_none];rw [ha.eval hx,ha.eval hh];have hz:=ht.2 w
 have hp:∀ q:Option Addr,(if c=0 then q else q.map (·.add 0))=q:=by
  intro q;split
  ·rfl
  ·cases q<;>simp [Addr.add]
 simp [Instr.sliceAt,run_underlying ht.1,Instr.slice,Instr.sliceBounds,Instr.sliceBound,asIntOf,h2,hz,hp]⟩
theorem Oj {x:Operand} {b:Addr} (hx:ev E x=some (.pointer (some b))):Ex P n E w0 F H R (.nilCheck x) (.pointer (some b)):=⟨fun w _ a ha _ _ _ _ _=>by
 simp only [execOp];rw [ha.eval hx];rfl⟩
theorem Zy {s f k:Nat} {x:Operand} {b o:Nat} (hf:FF P s f k) (hx:ev E x=some (.pointer (some ⟨b,o,none⟩))):Ex P n E w0 F H R (.fieldAddr s x f) (.pointer (some ⟨b,o+k,none⟩)):=⟨fun w _ a ha _ _ _ _ _=>by
 simp only [execOp];rw [ha.eval hx];have:=hf b o w;simp [this]⟩
theorem Qr {t e k:Nat} {x y:Operand} {b o l c i:Nat} (ht:TS P t e k) (hx:ev E x=some (.slice (some ⟨b,o,none⟩) l c)) (hy:ev E y=some (iN i)) (hi:i<l) :
  Ex P n E w0 F H R (.indexAddr t x y) (.pointer (some ⟨b,o+i*k,none⟩)):=⟨fun w _ a ha _ _ _ _ _=>by
 simp only [execOp];rw [ha.eval hx,ha.eval hy];have hz:(sizeOf e).run P w=.ok k w:=ht.2 w;simp [Instr.indexAt,run_underlying ht.1,asIntOf,hi,hz,Addr.add_lit]⟩
structure Cell (w0:World) (F:List Nat) (H:Hp) (R:Asr) (a:Addr) (v:Value):Prop where
 go:∀ w,Sat w0 F H R w->w.cell? a=some v
structure Row (w0:World) (F:List Nat) (H:Hp) (R:Asr) (b o:Nat) (vs:List Value):Prop where
 go:∀ w,Sat w0 F H R w->∀ j v,vs[j]?=some v->w.cell? ⟨b,o+j,none⟩=some v
theorem Ztz {a:Addr} {v:Value} (h:w0.cell? a=some v) (_:a.block<w0.heap.size):Cell w0 [] H R a v:=⟨fun _ hs=>hs.old h (by simp)⟩
theorem Z1 {b j:Nat} {cs:List Value} {v:Value} (i:Nat) (hp:H[i]?=some (b,cs)) (hv:cs[j]?=some v):Cell w0 F H R ⟨b,j,none⟩ v :=
 ⟨fun _ hs=>by rw [hs.mine (List.mem_of_getElem? hp)];exact hv⟩
def cut (cs:List Value) (o k:Nat):List Value:=(cs.drop o).take k
theorem Rh {b o:Nat} {vs:List Value} (h:∀ j v,vs[j]?=some v->w0.cell? ⟨b,o+j,none⟩=some v) (_:b<w0.heap.size):Row w0 [] H R b o vs:=⟨fun _ hs j v hv=>hs.old (h j v hv) (by simp)⟩
theorem Zpv {b o:Nat} {vs:List Value} (h:∀ j v,vs[j]?=some v->w0.cell? ⟨b,o+j,none⟩=some v) (hF:b ∉ F):Row w0 F H R b o vs:=⟨fun _ hs j v hv=>hs.old (h j v hv) hF⟩
theorem Zpx {b o:Nat} {cs vs:List Value} (i:Nat) (hp:H[i]?=some (b,cs)) (k:Nat) (hv:cut cs o k=vs):Row w0 F H R b o vs :=
 ⟨fun _ hs j v hj=>by
  rw [hs.mine (List.mem_of_getElem? hp)];rw [<- hv] at hj;unfold cut at hj;rw [List.getElem?_take] at hj;split at hj
  ·rwa [List.getElem?_drop] at hj
  ·cases hj⟩
theorem Z8 {t:Nat} {x:Operand} {a:Addr} {v:Value} (ht:T1 P t) (hx:ev E x=some (.pointer (some a))) (hc:Cell w0 F H R a v):Ex P n E w0 F H R (.load t x) v:=⟨fun w hs f hf _ _ _ _ _=>by
 simp only [execOp];rw [hf.eval hx];have h1:=(ht w).1;have h2:=hc.go w hs;simp [Instr.loadAt,Instr.sureAddr,loadVar,h1,h2]⟩
theorem Vp {t k:Nat} {x:Operand} {b o:Nat} {vs:List Value} (ht:TN P t k) (hx:ev E x=some (.pointer (some ⟨b,o,none⟩))) (hc:Row w0 F H R b o vs) (hl:vs.length=k) :
  Ex P n E w0 F H R (.load t x) (.agg vs.toArray):=⟨fun w hs f hf _ _ _ _ _=>by
 simp only [execOp];rw [hf.eval hx];have h1:=(ht w).1;have h2:=(ht w).2
 have h3:(loadCells ⟨b,o,none⟩ k).run P w=.ok vs.toArray w:=by
  rw [<- hl];exact run_loadCells_list w ⟨b,o,none⟩ vs fun j v hj=>by rw [Addr.add_lit];exact hc.go w hs j v hj
 simp [Instr.loadAt,Instr.sureAddr,loadVar,h1,h2,h3]⟩
theorem Ys {t k:Nat} {x:Operand} {b o:Nat} {cs:List Value} (ht:TN P t k) (hx:ev E x=some (.pointer (some ⟨b,o,none⟩))) (i:Nat) (hp:H[i]?=some (b,cs)) (hf:Nat.ble (o+k) cs.length=true) :
  Ex P n E w0 F H R (.load t x) (.agg (cut cs o k).toArray) :=
 Vp ht hx (Zpx i hp k rfl) (by have:=Nat.le_of_ble_eq_true hf;simp only [cut,List.length_take,List.length_drop];omega)
theorem Ol {x:Operand} {i:Nat} {vs:Array Value} {v:Value} (hx:ev E x=some (.tuple vs)) (hv:vs[i]?=some v):Ex P n E w0 F H R (.extract x i) v:=⟨fun w _ a ha _ _ _ _ _=>by
 simp only [execOp];rw [ha.eval hx];simp [Instr.extract,hv]⟩
theorem Ko {f:Nat} {x:Operand} {v:Value} (hx:ev E x=some v):Ex P n E w0 F H R (.makeFunc (.func f) #[x] #[]) (.func (.func f) #[v] #[]):=⟨fun w _ a ha _ _ _ _ _=>by
 simp only [execOp];simp [ha.eval hx,Instr.makeFunc]⟩
variable {fn:Func} {Z:Ending->World->Prop} {κ:List Kf}
theorem Uu {all:Array Oper} {l:List Oper} {d:Nat} {s:TypeId} {x:Operand} {t:TypeId} {p:String} {e:Array Edge} {cs:List Value} (hd:Nat.blt d n=true) (hx:ev E x=some (.agg cs.toArray))
  (h:∀ b,w0.heap.size<=b->WL P n all l ((d,pt b)::E) w0 F ((b,cs)::H) R fn Z κ):WL P n all (⟨some d,.box s x,t,p,e,none⟩::l) E w0 F H R fn Z κ :=
 ⟨fun w hs a ha=>wpList_plain rfl fun K hK=>by
  have hr:(execOp a.eval ⟨some d,.box s x,t,p,e,none⟩).run P w=.ok (.value (.pointer (some ⟨w.heap.size,0,none⟩))) (w.alloc (.cells cs.toArray s)):=by
   simp only [execOp];rw [ha.eval hx];simp [Instr.box,newVar,newRow,Value.cells]
  unfold Oper.wp;rw [hr];exact hK _ _ ((h w.heap.size hs.low.size).go (w.alloc _) (hs.alloc cs s) _ (ha.put hd _))⟩
theorem X1 {all:Array Oper} {l:List Oper} {d:Nat} {s:TypeId} {t:TypeId} {p:String} {e:Array Edge} {cs:List Value} (hd:Nat.blt d n=true) (hz:TZ P s cs)
  (h:∀ b,w0.heap.size<=b->WL P n all l ((d,pt b)::E) w0 F ((b,cs)::H) R fn Z κ):WL P n all (⟨some d,.alloc s,t,p,e,none⟩::l) E w0 F H R fn Z κ :=
 ⟨fun w hs a ha=>wpList_plain rfl fun K hK=>by
  have hz':∃ v,(zeroValue s).run P w=.ok v w/\v.cells=cs.toArray:=by
   have h1:=hz w;cases hq:(zeroValue s).run P w with
   | ok v w'=>simp [hq] at h1;exact ⟨v,by rw [h1.2],h1.1⟩
   | halt x w'=>simp [hq] at h1
  obtain ⟨v,hv,hc⟩:=hz'
  have hr:(execOp a.eval ⟨some d,.alloc s,t,p,e,none⟩).run P w=.ok (.value (.pointer (some ⟨w.heap.size,0,none⟩))) (w.alloc (.cells cs.toArray s)):=by
   simp only [execOp];simp [Instr.alloc,hv,newVar,newRow,hc]
  unfold Oper.wp;rw [hr];exact hK _ _ ((h w.heap.size hs.low.size).go (w.alloc _) (hs.alloc cs s) _ (ha.put hd _))⟩
def put (cs:List Value) (o:Nat) (vs:List Value):List Value:=cs.take o++vs++cs.drop (o+vs.length)
theorem L7:∀ {l:List Nat} (_:l.Nodup) {i j x:Nat} (_:l[i]?=some x) (_:l[j]?=some x),i=j
 | [],_,_,_,_,hi,_=>by simp at hi
 | a::r,h,i,j,x,hi,hj=>by
  rw [List.nodup_cons] at h;cases i with
  | zero =>
   cases j with
   | zero=>rfl
   | succ j =>
    simp only [List.getElem?_cons_zero,List.getElem?_cons_succ] at hi hj;cases hi;exact absurd (List.mem_of_getElem? hj) h.1
  | succ i =>
   cases j with
   | zero =>
    simp only [List.getElem?_cons_zero,List.getElem?_cons_succ] at hi hj;cases hj;exact absurd (List.mem_of_getElem? hi) h.1
   | succ j =>
    simp only [List.getElem?_cons_succ] at hi hj;rw [L7 h.2 hi hj]
theorem Ou {α:Type} {l:List α} {i:Nat} {x:α} (h:l[i]?=some x):l.set i x=l:=by
 apply List.ext_getElem?;intro j;rw [List.getElem?_set];split
 ·rename_i e
  subst e;split
  ·exact h.symm
  ·rename_i hlt;rw [List.getElem?_eq_none (by omega)] at h;cases h
 ·rfl
theorem Sat.store {w:World} (h:Sat w0 F H R w) {i b:Nat} {cs new:List Value} (hp:H[i]?=some (b,cs)):Sat w0 F (H.set i (b,new)) R (w.setRow b new.toArray):=by
 have hm:=List.mem_of_getElem? hp;have hb:=h.hi _ hm;have hne:∀ k,k≠b->(w.setRow b new.toArray).heap[k]?=w.heap[k]?:=fun k hk=>setRow_other w b k _ (fun e=>hk e)
 have hil:i<H.length:=by
  rcases Nat.lt_or_ge i H.length with h' | h'
  ·exact h'
  ·rw [List.getElem?_eq_none h'] at hp;cases hp
 have hmap:(H.set i (b,new)).map (·.1)=H.map (·.1):=by
  rw [List.map_set];exact Ou (by rw [List.getElem?_map,hp];rfl)
 refine ⟨⟨h.low.os,h.low.tape,h.low.output,Nat.le_trans h.low.size (by simp),fun k hk hF=>by rw [hne k (fun e=>hb.elim (fun hb=>hF (e ▸ hb)) (fun hb=>by simp only at hb;omega))];exact h.low.block k hk hF⟩,?_,?_,by rw [hmap];exact h.apart,?_,?_,?_⟩
 ·intro p hpm;obtain ⟨j,hj⟩:=List.mem_iff_getElem?.1 hpm;rw [List.getElem?_set] at hj;split at hj
  ·cases hj;obtain ⟨t,ht⟩:=h.own _ hm;exact ⟨t,setRow_heap w b _ _ t _ ht⟩
  ·rename_i hij
   have e:p.1≠b:=by
    intro e;have h1:(H.map (·.1))[i]?=some b:=by rw [List.getElem?_map,hp];rfl
    have h2:(H.map (·.1))[j]?=some b:=by rw [List.getElem?_map,hj,<- e];rfl
    exact hij (L7 h.apart h1 h2)
   rw [hne _ e];exact h.own p (List.mem_of_getElem? hj)
 ·intro p hpm;rcases List.mem_or_eq_of_mem_set hpm with hq | hq
  ·exact h.hi p hq
  ·subst hq;exact hb
 ·exact R.st w _ h.res (fun k hk=>hne k (fun e=>h.rapart _ hm (e ▸ hk)))
 ·intro k hk;have:=h.rhi k hk;exact ⟨this.1,by simpa using this.2⟩
 ·intro p hpm;rcases List.mem_or_eq_of_mem_set hpm with hq | hq
  ·exact h.rapart p hq
  ·subst hq;exact h.rapart (b,cs) hm
theorem Zay {vs:List Value} (h:vs.all (·.oneCell')=true):∀ v ∈ vs,v.oneCell'=true:=by
 intro v hv;exact (List.all_eq_true.1 h) v hv
theorem Ob {a:Act} {w:World} {d:Option Tmp} {t ty k:TypeId} {x y:Operand} {p:String} {e:Array Edge} {g:Option (Nat × Bool)} {b o i:Nat} {cs vs:List Value} {v:Value} (ht:∀ w:World,(sizeOf t).run P w=.ok k w) (hx:a.eval x=.pointer (some ⟨b,o,none⟩)) (hy:a.eval y=v)
  (hv:v.cells=vs.toArray) (hl:vs.length=k) (h1:vs.all (·.oneCell')=true) (hs:Sat w0 F H R w) (hp:H[i]?=some (b,cs)) (hf:Nat.ble (o+vs.length) cs.length=true) :
  (execOp a.eval ⟨d,.store t x y,ty,p,e,g⟩).run P w=.ok .skip (w.setRow b (put cs o vs).toArray):=by
 obtain ⟨u,hu⟩:=hs.own _ (List.mem_of_getElem? hp);simp only at hu;have hz:=ht w;have hst:=run_storeCells_at P b o u vs 0 cs.toArray w hu (by simpa using Nat.le_of_ble_eq_true hf) (Zay h1);simp only [execOp];rw [hx,hy];simp only [Instr.storeAt,Instr.sureAddr,storeVar,hv];simp [hz,hl,hst,put]
theorem Px {all:Array Oper} {l:List Oper} {t ty:TypeId} {x y:Operand} {p:String} {e:Array Edge} {b o:Nat} {cs:List Value} {v:Value} (ht:T1 P t) (hx:ev E x=some (.pointer (some ⟨b,o,none⟩))) (hy:ev E y=some v)
  (i:Nat) (hp:H[i]?=some (b,cs)) (hv:v.cells=#[v]) (h1:v.oneCell'=true) (hf:Nat.ble (o+1) cs.length=true) (h:WL P n all l E w0 F (H.set i (b,put cs o [v])) R fn Z κ):WL P n all (⟨none,.store t x y,ty,p,e,none⟩::l) E w0 F H R fn Z κ :=
 ⟨fun w hs a ha=>wpList_plain rfl fun K hK=>by
  unfold Oper.wp;rw [Ob (vs:=[v]) (fun w=>(ht w).2) (ha.eval hx) (ha.eval hy) hv rfl (by simp [h1]) hs hp hf];exact hK _ _ (h.go _ (hs.store hp) _ ha)⟩
theorem Y5 {all:Array Oper} {l:List Oper} {t ty k:TypeId} {x y:Operand} {p:String} {e:Array Edge} {b o:Nat} {cs vs:List Value} (ht:TN P t k) (hx:ev E x=some (.pointer (some ⟨b,o,none⟩))) (hy:ev E y=some (.agg vs.toArray))
  (i:Nat) (hp:H[i]?=some (b,cs)) (hl:vs.length=k) (h1:vs.all (·.oneCell')=true) (hf:Nat.ble (o+vs.length) cs.length=true) (h:WL P n all l E w0 F (H.set i (b,put cs o vs)) R fn Z κ):WL P n all (⟨none,.store t x y,ty,p,e,none⟩::l) E w0 F H R fn Z κ :=
 ⟨fun w hs a ha=>wpList_plain rfl fun K hK=>by
  unfold Oper.wp;rw [Ob (vs:=vs) (fun w=>(ht w).2) (ha.eval hx) (ha.eval hy) rfl hl h1 hs hp hf];exact hK _ _ (h.go _ (hs.store hp) _ ha)⟩
structure IsFn (P:Program) (f:FuncId):Prop where
 is:∃ fn,P.funcs[f]?=some fn/\fn.body.isNone=false/\(fn.name=="runtime.NumGoroutine")=false
theorem Pk {a:Act} {w:World} {o:Oper} {f:FuncId} {xs:Array Operand} {ts:Array TypeId} (ho:o.op=.call ⟨.value (.func f),xs,ts⟩) (hf:IsFn P f) :
  (execOp a.eval o).run P w=.ok (.enter f (xs.map a.eval)) w:=by
 obtain ⟨fn,hf,hb,hnm⟩:=hf.is;have e1:a.eval (.func f)=.func (.func f) #[] #[]:=rfl;simp [execOp,ho,resolve,e1,Deferred.ofValue,invoke,callFunc,hf];rw [if_neg (by simpa using hnm),if_neg (by intro h;rw [h] at hb;cases hb)]
def args (E:Env):List Operand->Option (List Value)
 | []=>some []
 | x::r=>match ev E x,args E r with | some v,some vs=>some (v::vs) | _,_=>none
theorem Rv {a:Act} (ha:Ag n a E):∀ (xs:List Operand) (vs:List Value),args E xs=some vs->(xs.toArray.map a.eval)=vs.toArray
 | [],vs,h=>by simp only [args] at h;cases h;simp
 | x::r,vs,h=>by
  simp only [args] at h;cases hx:ev E x with
  | none=>simp [hx] at h
  | some v =>
   cases hr:args E r with
   | none=>simp [hx,hr] at h
   | some us =>
    simp [hx,hr] at h;subst h;have ih:=Rv ha r us hr;have e:=ha.eval hx;have ih':r.map a.eval=us:=by simpa using ih
    simp [e,ih']
theorem Vw {all:Array Oper} {l:List Oper} {d f:Nat} {xs:List Operand} {vs:List Value} {ts:Array TypeId} {t:TypeId} {p:String} {e:Array Edge} {v:Value} (hf:IsFn P f)
  (hd:Nat.blt d n=true) (hx:args E xs=some vs) (hc:∀ w,Sat w0 F H R w->Qd P f vs.toArray w v) (h:WL P n all l ((d,v)::E) w0 F H R fn Z κ) :
  WL P n all (⟨some d,.call ⟨.value (.func f),xs.toArray,ts⟩,t,p,e,none⟩::l) E w0 F H R fn Z κ :=
 ⟨fun w hs a ha=>wpList_plain rfl fun K hK=>by
  unfold Oper.wp;rw [Pk rfl hf,Rv ha xs vs hx];refine (hc w hs).mono ?_;rintro e w' ⟨rfl,hb'⟩;exact hK _ _ (h.go w' (hs.keep hb') _ (ha.put hd v))⟩
theorem Jk {all:Array Oper} {l:List Oper} {d f j dj:Nat} {want:Bool} {xs:List Operand} {vs:List Value} {ts:Array TypeId} {t:TypeId} {p:String} {e:Array Edge} {v:Value} (hf:IsFn P f)
  (hj:(all[j]?).bind (·.dst)=some dj) (hl:Uz E dj=some (.bool want)) (hd:Nat.blt d n=true) (hx:args E xs=some vs) (hc:∀ w,Sat w0 F H R w->Qd P f vs.toArray w v) (h:WL P n all l ((d,v)::E) w0 F H R fn Z κ) :
  WL P n all (⟨some d,.call ⟨.value (.func f),xs.toArray,ts⟩,t,p,e,some (j,want)⟩::l) E w0 F H R fn Z κ :=
 ⟨fun w hs a ha=>wpList_step fun K hK=>by
  rw [if_pos (by rw [I2 rfl hj ha hl];exact beq_self_eq_true want)];unfold Oper.wp;rw [Pk rfl hf,Rv ha xs vs hx];refine (hc w hs).mono ?_;rintro e w' ⟨rfl,hb'⟩;exact hK _ _ (h.go w' (hs.keep hb') _ (ha.put hd v))⟩
end
end E
namespace E
open Go Go.RowKit
theorem Znb {w w':World} {e size n:Nat} {v:Value} {xs:List Value} (h:w.ownsRow 0 e size v n xs) (hk:∀ k ∈ v.ownBlock.toList,w'.heap[k]?=w.heap[k]?):w'.ownsRow 0 e size v n xs:=by
 refine ⟨h.1,?_⟩;rcases h.2 with h2 | ⟨g,cap,cur,hv,h0,hg,hr⟩
 ·exact .inl h2
 ·refine .inr ⟨g,cap,cur,hv,h0,?_,hr⟩;rw [hk g (by rw [hv];simp [Value.ownBlock])];exact hg
def Tz (e size:Nat) (v:Value) (n:Nat) (xs:List Value):Asr:=⟨v.ownBlock.toList,fun w=>w.ownsRow 0 e size v n xs,fun _ _ h hk=>Znb h hk⟩
def Asr.and (R1 R2:Asr):Asr:=⟨R1.S++R2.S,fun w=>R1.A w/\R2.A w/\∀ k ∈ R1.S,k ∉ R2.S,
 fun w w' h hk=>⟨R1.st w w' h.1 (fun k hm=>hk k (List.mem_append_left _ hm)),R2.st w w' h.2.1 (fun k hm=>hk k (List.mem_append_right _ hm)),h.2.2⟩⟩
structure TA (P:Program) (t e size bytes:Nat) (z:Value):Prop where
 sl:P.underlying t=some (.slice e)
 inf:(P.info? e).map (fun i=>(i.zero,i.size,i.bytes))=some (some z,size,bytes)
 zs:z.cells.size=size
 pos:0<size
section
variable {P:Program} {n:Nat} {E:Env} {w0:World} {F:List Nat} {H:Hp} {R:Asr} {fn:Func} {Z:Ending->World->Prop} {κ:List Kf}
theorem Sat.grown {w w':World} {e size n' n'':Nat} {v v':Value} {xs ys:List Value} (h:Sat w0 F H (Asr.and (Tz e size v n' xs) R) w) (ho:w'.ownsRow 0 e size v' n'' ys) (hg:w.grownBy w' v.ownBlock)
  (hv:∀ g,v'.ownBlock=some g->v.ownBlock=some g\/w.heap.size<=g) (hlt:∀ g,v'.ownBlock=some g->g<w'.heap.size):Sat w0 F H (Asr.and (Tz e size v' n'' ys) R) w':=by
 have hS:∀ k,some k=v.ownBlock->k ∈ (Asr.and (Tz e size v n' xs) R).S:=fun k hk=>List.mem_append_left _ (by show k ∈ v.ownBlock.toList;rw [<- hk];simp);have hres:=h.res;refine ⟨h.low.trans (G:=v.ownBlock.toList) ⟨hg.os,hg.tape,hg.output,hg.size,fun k hk hn=>hg.block k hk (fun e=>hn (by rw [<- e];simp))⟩ (fun x hx=>?_),?_,h.hi,h.apart,⟨ho,?_,?_⟩,?_,?_⟩
 ·have:some x=v.ownBlock:=by
   cases hb:v.ownBlock with
   | none=>rw [hb] at hx;simp at hx
   | some g=>rw [hb] at hx;simp at hx;rw [hx]
  exact (h.rhi x (hS x this)).1
 ·intro p hp;rw [hg.block p.1 (h.lt hp) (fun e=>h.rapart p hp (hS _ e))];exact h.own p hp
 ·exact R.st w w' hres.2.1 (fun k hk=>hg.block k (h.rhi k (List.mem_append_right _ hk)).2 (fun e=>hres.2.2 k (by show k ∈ v.ownBlock.toList;rw [<- e];simp) hk))
 ·intro k hk hk2
  have hk':v'.ownBlock=some k:=by
   cases hb:v'.ownBlock with
   | none=>have:k ∈ v'.ownBlock.toList:=hk;rw [hb] at this;simp at this
   | some g=>have:k ∈ v'.ownBlock.toList:=hk;rw [hb] at this;simp at this;rw [this]
  rcases hv k hk' with h1 | h1
  ·exact hres.2.2 k (by show k ∈ v.ownBlock.toList;rw [h1];simp) hk2
  ·have:=(h.rhi k (List.mem_append_right _ hk2)).2;omega
 ·intro k hk;rcases List.mem_append.1 hk with hk | hk
  ·have hk':v'.ownBlock=some k:=by
    cases hb:v'.ownBlock with
    | none=>have:k ∈ v'.ownBlock.toList:=hk;rw [hb] at this;simp at this
    | some g=>have:k ∈ v'.ownBlock.toList:=hk;rw [hb] at this;simp at this;rw [this]
   refine ⟨?_,hlt k hk'⟩;rcases hv k hk' with h1 | h1
   ·exact (h.rhi k (hS k h1.symm)).1
   ·exact .inr (Nat.le_trans h.low.size h1)
  ·have:=h.rhi k (List.mem_append_right _ hk);exact ⟨this.1,Nat.lt_of_lt_of_le this.2 hg.size⟩
 ·intro p hp hk;rcases List.mem_append.1 hk with hk | hk
  ·have hk':v'.ownBlock=some p.1:=by
    cases hb:v'.ownBlock with
    | none=>have:p.1 ∈ v'.ownBlock.toList:=hk;rw [hb] at this;simp at this
    | some g=>have:p.1 ∈ v'.ownBlock.toList:=hk;rw [hb] at this;simp at this;rw [this]
   rcases hv _ hk' with h1 | h1
   ·exact h.rapart p hp (hS _ h1.symm)
   ·have:=h.lt hp;omega
  ·exact h.rapart p hp (List.mem_append_right _ hk)
theorem Jm {c:Code} (e size:Nat) (h:WC P n c E w0 F H (Asr.and (Tz e size (.slice none 0 0) 0 []) R) fn Z κ):WC P n c E w0 F H R fn Z κ :=
 ⟨fun w hs a ha=>h.go w ⟨hs.low,hs.own,hs.hi,hs.apart,⟨World.ownsRow_nil w 0 e size,hs.res,by simp [Tz,Value.ownBlock]⟩,hs.rhi,hs.rapart⟩ a ha⟩
theorem X2 {b:Nat} {cs:List Value} (i:Nat) (hp:H[i]?=some (b,cs)):Row w0 F H R b 0 cs :=
 ⟨fun _ hs j v hj=>by rw [hs.mine (List.mem_of_getElem? hp)];simpa using hj⟩
theorem It {w w':World} {t ty e size bytes:Nat} {z v v':Value} {k m c:Nat} {xs news:List Value} {a:Addr} (ht:TA P t e size bytes z) (hown:w.ownsRow 0 e size v k xs)
  (hl:news.length=m*size) (hnews:∀ j u,news[j]?=some u->w.cell? (a.add j)=some u) (h1:∀ u ∈ news,u.oneCell'=true)
  (h63:k+m<=maxLen) (hbytes:(k+m)*bytes<=140737488355328) (hr:(Builtin.append_ #[t,t] ty #[v,.slice (some a) m c]).run P w=.ok v' w') :
  ∀ g,v'.ownBlock=some g->v.ownBlock=some g\/w.heap.size<=g:=by
 intro g hg;obtain ⟨i,hi,hz,hs,hb⟩:=info_parts ht.inf;subst hs;subst hb;have hsmall:k+m<=9223372036854775807:=by simp only [maxLen] at h63;omega
 rcases hown.2 with ⟨rfl,rfl⟩ | ⟨g0,cap,cur,rfl,_,hg0,hnc,hcm,hcs,htake⟩
 ·by_cases hm:m=0
  ·subst hm
   have hr':(Builtin.append_ #[t,t] ty #[.slice none 0 0,.slice (some a) 0 c]).run P w=.ok (.slice none 0 0) w:=by
    simp [Builtin.append_,run_underlying ht.sl,sizeOf,typeInfo,hi,Builtin.lenOf,Builtin.firstCells,loadCells,loadCellsFrom]
   rw [hr'] at hr;cases hr;simp [Value.ownBlock] at hg
  ·have hr':=run_append_nil (P:=P) w t ty e i z ht.sl hi hz a m c news hl hnews (by omega) (by omega) (by have hb:=hbytes;simp only [Nat.zero_add] at hb;omega);rw [hr] at hr';cases hr';simp only [Value.ownBlock,Option.some.injEq] at hg;exact .inr (by omega)
 ·by_cases hroom:k+m<=cap
  ·have hfit:k*i.size+news.length<=cur.size:=by rw [hl,hcs,<- Nat.add_mul];exact Nat.mul_le_mul_right _ hroom
   have hr':=run_append_room (P:=P) w t ty e i ht.sl hi g0 k cap cur hg0 a m c news hl hnews h1 hroom hfit;rw [hr] at hr';cases hr';exact .inl hg
  ·have holds:∀ j u,xs[j]?=some u->w.cell? ((⟨g0,0,none⟩:Addr).add j)=some u:=hown.cells (g:=g0) rfl;have hr':=run_append_grow (P:=P) w t ty e i z ht.sl hi hz ⟨g0,0,none⟩ k cap xs hown.1 holds a m c news hl hnews (by omega) (by omega) (growslice_fits (by omega) hbytes);rw [hr] at hr';cases hr';simp only [Value.ownBlock,Option.some.injEq] at hg;exact .inr (by omega)
theorem Zjx {w:World} {e size k:Nat} {v:Value} {xs:List Value} (h:w.ownsRow 0 e size v k xs):∀ g,v.ownBlock=some g->g<w.heap.size:=fun g hg=>(h.lt g hg).2
theorem Jl {all:Array Oper} {l:List Oper} {d:Nat} {t ty e size bytes:Nat} {z v:Value} {x y:Operand} {p:String} {g:Array Edge} {k m c b o:Nat} {xs news:List Value} (hd:Nat.blt d n=true) (ht:TA P t e size bytes z) (hx:ev E x=some v)
  (hy:ev E y=some (.slice (some ⟨b,o,none⟩) m c)) (hc:Row w0 F H (Asr.and (Tz e size v k xs) R) b o news) (hl:news.length=m*size) (h1:news.all (·.oneCell')=true) (h63:k+m<=maxLen) (hbytes:(k+m)*bytes<=140737488355328)
  (h:∀ v',WL P n all l ((d,v')::E) w0 F H (Asr.and (Tz e size v' (k+m) (xs++news)) R) fn Z κ) :
  WL P n all (⟨some d,.call ⟨.builtin .append,#[x,y],#[t,t]⟩,ty,p,g,none⟩::l) E w0 F H (Asr.and (Tz e size v k xs) R) fn Z κ :=
 ⟨fun w hs a ha=>wpList_plain rfl fun K hK=>by
  obtain ⟨i,hi,hz,hsz,hb⟩:=info_parts ht.inf;have hnews:∀ j u,news[j]?=some u->w.cell? ((⟨b,o,none⟩:Addr).add j)=some u:=fun j u hj=>by rw [Addr.add_lit];exact hc.go w hs j u hj
  have hown:w.ownsRow 0 e size v k xs:=hs.res.1;obtain ⟨v',w',hr,ho,hg,_⟩:=run_append_own w 0 t ty e i z size bytes ht.sl hi hz hsz hb ht.zs ht.pos v k xs hown ⟨b,o,none⟩ m c news hl hnews (Zay h1) h63 hbytes (Nat.zero_le _);have hw:=It ht hown hl hnews (Zay h1) h63 hbytes hr
  have he:(execOp a.eval ⟨some d,.call ⟨.builtin .append,#[x,y],#[t,t]⟩,ty,p,g,none⟩).run P w=.ok (.value v') w':=by
   simp only [execOp,resolve,invoke,builtin];simp [ha.eval hx,ha.eval hy,hr]
  unfold Oper.wp;rw [he];exact hK _ _ ((h v').go w' (hs.grown ho hg hw (Zjx ho)) _ (ha.put hd v'))⟩
end
end E
namespace E
open Go Go.RowKit
def Le (place:Nat->Option (Nat × Nat)) (cells:List Value):List (Nat × Value)->Option (List Value)
 | []=>some cells
 | (i,v)::rest =>
  match place i with
  | none=>none
  | some (off,size)=>bif Nat.beq v.cells.toList.length size&&Nat.ble (off+v.cells.toList.length) cells.length then Le place (put cells off v.cells.toList) rest else none
theorem Af (off:Nat):∀ (l:List Value) (j:Nat) (cells:List Value),off+j+l.length<=cells.length ->
  (l.zipIdx j).foldl (fun (cs:Array Value) (x:Value × Nat)=>cs.setIfInBounds (off+x.2) x.1) cells.toArray=(put cells (off+j) l).toArray
 | [],j,cells,_=>by simp [put]
 | v::r,j,cells,h=>by
  simp only [List.length_cons] at h;rw [List.zipIdx_cons,List.foldl_cons];have e:cells.toArray.setIfInBounds (off+j) v=(cells.set (off+j) v).toArray:=by simp
  simp only [e];rw [Af off r (j+1) (cells.set (off+j) v) (by rw [List.length_set];omega)];have:=list_seg_step cells (off+j) v r (by omega);unfold put;rw [List.length_cons,<- this];rw [Nat.add_assoc off j 1]
theorem Ib (place:Nat->Option (Nat × Nat)):∀ (parts:List (Nat × Value)) (cells cs:List Value),Le place cells parts=some cs->Instr.fill place cells.toArray parts=some cs.toArray
 | [],cells,cs,h=>by simp only [Le] at h;cases h;rfl
 | (i,v)::r,cells,cs,h=>by
  simp only [Le] at h;unfold Instr.fill;cases hp:place i with
  | none=>rw [hp] at h;cases h
  | some q =>
   obtain ⟨off,size⟩:=q;rw [hp] at h;simp only at h ⊢;cases hb:Nat.beq v.cells.toList.length size&&Nat.ble (off+v.cells.toList.length) cells.length with
   | false=>rw [hb] at h;cases h
   | true =>
    rw [hb] at h;rw [Bool.and_eq_true] at hb;have e1:=Nat.eq_of_beq_eq_true hb.1;have e2:=Nat.le_of_ble_eq_true hb.2;rw [Array.length_toList] at e1 e2
    have hn:¬ ((decide (v.cells.size≠size) || decide (off+v.cells.size>cells.toArray.size))=true):=by
     simp only [List.size_toArray,Bool.or_eq_true,decide_eq_true_eq];omega
    rw [if_neg hn]
    have hz:v.cells.zipIdx.foldl (fun cs (x:Value × Nat)=>cs.setIfInBounds (off+x.2) x.1) cells.toArray=(put cells off v.cells.toList).toArray:=by
     rw [<- Array.foldl_toList,Array.toList_zipIdx];exact Af off v.cells.toList 0 cells (by rw [Array.length_toList];omega)
    rw [show (v.cells.zipIdx.foldl (fun cs x=>match x with | (c,j)=>cs.setIfInBounds (off+j) c) cells.toArray)=(put cells off v.cells.toList).toArray from hz];exact Ib place r _ cs h
def parts (E:Env):List (Nat × Operand)->Option (List (Nat × Value))
 | []=>some []
 | (i,x)::r=>match ev E x,parts E r with | some v,some vs=>some ((i,v)::vs) | _,_=>none
theorem Hi {n:Nat} {E:Env} {a:Act} (ha:Ag n a E):∀ (xs:List (Nat × Operand)) (vs:List (Nat × Value)),parts E xs=some vs->(xs.map fun x=>(x.1,a.eval x.2))=vs
 | [],vs,h=>by simp only [parts] at h;cases h;rfl
 | (i,x)::r,vs,h=>by
  simp only [parts] at h;cases hx:ev E x with
  | none=>simp [hx] at h
  | some v =>
   cases hr:parts E r with
   | none=>simp [hx,hr] at h
   | some us =>
    simp [hx,hr] at h;subst h;simp [ha.eval hx,Hi ha r us hr]
structure TB (P:Program) (t:Nat) (zs:List Value) (places:List (Nat × Nat)):Prop where
 z:TZ P t zs
 pl:∃ fields,P.underlying t=some (.struct fields)/\∀ w:World,(fields.mapM fun f=>do pure (f.offset,<- sizeOf f.type):Sem (Array (Nat × Nat))).run P w=.ok places.toArray w
theorem TZ.run {P:Program} {t:Nat} {zs:List Value} (h:TZ P t zs) (w:World):∃ v,(zeroValue t).run P w=.ok v w/\v.cells=zs.toArray:=by
 have h1:=h w;cases hq:(zeroValue t).run P w with
 | ok v w'=>simp [hq] at h1;exact ⟨v,by rw [h1.2],h1.1⟩
 | halt x w'=>simp [hq] at h1
section
variable {P:Program} {n:Nat} {E:Env} {w0:World} {F:List Nat} {H:Hp} {R:Asr} {fn:Func} {Z:Ending->World->Prop} {κ:List Kf}
theorem Ub {t:Nat} {ps:List (Nat × Operand)} {vs:List (Nat × Value)} {zs cs:List Value} {places:List (Nat × Nat)} (ht:TB P t zs places) (hp:parts E ps=some vs) (hf:Le (places.toArray[·]?) zs vs=some cs) :
  Ex P n E w0 F H R (.build t ps.toArray) (.agg cs.toArray):=⟨fun w _ a ha _ _ _ _ _=>by
 obtain ⟨v,hv,hc⟩:=ht.z.run w;obtain ⟨fields,hu,hm⟩:=ht.pl;have hm':=hm w;have hfl:=Ib _ _ _ _ hf;have he:=Hi ha ps vs hp;simp only [execOp];have e2:(ps.toArray.map fun (x:Nat × Operand)=>(x.1,a.eval x.2))=vs.toArray:=by rw [<- he];simp
 rw [show (ps.toArray.map fun x=>match x with | (i,x)=>(i,a.eval x))=vs.toArray from e2];simp only [Instr.build,Sem.run_bind,hv,Result.andThen,hc,run_underlying hu,hm',hfl];simp⟩
def Om (zs:List Value):Nat->List Value
 | 0=>[]
 | k+1=>zs++Om zs k
theorem S5 (zs:List Value):∀ k,(Om zs k).length=k*zs.length
 | 0=>by simp [Om]
 | k+1=>by rw [Om,List.length_append,S5 zs k,Nat.add_mul];omega
theorem Zcp (zs:List Value) (hz:0<zs.length):∀ (k i:Nat),i<k*zs.length->(Om zs k)[i]?=zs[i % zs.length]?
 | 0,i,h=>by omega
 | k+1,i,h=>by
  rw [Om];by_cases hi:i<zs.length
  ·rw [List.getElem?_append_left hi,Nat.mod_eq_of_lt hi]
  ·rw [List.getElem?_append_right (by omega),Zcp zs hz k (i - zs.length) (by rw [Nat.add_mul] at h;omega)];rw [<- Nat.mod_eq_sub_mod (by omega)]
theorem Zad (zs:List Value) (hz:0<zs.length) (k:Nat):(Array.range (k*zs.length)).map (fun i=>zs.toArray[i % zs.toArray.size]!)=(Om zs k).toArray:=by
 apply Array.ext_getElem?;intro i;rw [Array.getElem?_map];by_cases h:i<k*zs.length
 ·rw [Array.getElem?_range];rw [if_pos h];simp only [Option.map_some,List.getElem?_toArray];rw [Zcp zs hz k i h];have hm:i % zs.length<zs.length:=Nat.mod_lt _ hz;simp [hm]
 ·rw [Array.getElem?_eq_none (by simp;omega)];simp only [Option.map_none];rw [List.getElem?_toArray,List.getElem?_eq_none (by rw [S5];omega)]
theorem Cs {all:Array Oper} {l:List Oper} {d:Nat} {t e k len ty:Nat} {p:String} {g:Array Edge} {ps:List (Nat × Operand)} {vs:List (Nat × Value)} {zs cs:List Value} (hd:Nat.blt d n=true) (ht:TS P t e k) (hz:TZ P e zs) (hk:zs.length=k) (hpos:Nat.blt 0 (len*k)=true)
  (hsm:Nat.ble (len*k) 16777216=true) (hp:parts E ps=some vs) (hf:Le (fun i=>some (i*k,k)) (Om zs len) vs=some cs)
  (h:∀ b,w0.heap.size<=b->WL P n all l ((d,.slice (some ⟨b,0,none⟩) len len)::E) w0 F ((b,cs)::H) R fn Z κ):WL P n all (⟨some d,.buildSlice t len ps.toArray,ty,p,g,none⟩::l) E w0 F H R fn Z κ :=
 ⟨fun w hs a ha=>wpList_plain rfl fun K hK=>by
  have hpos':0<len*k:=by simpa using hpos
  have hsm':¬ len*k>2 ^ 24:=by have:=Nat.le_of_ble_eq_true hsm;omega
  obtain ⟨v,hv,hc⟩:=hz.run w;have hsz:=ht.2 w;have he:=Hi ha ps vs hp;have e2:(ps.toArray.map fun (x:Nat × Operand)=>(x.1,a.eval x.2))=vs.toArray:=by rw [<- he];simp
  have hzp:0<zs.length:=by rw [hk];exact Nat.pos_of_mul_pos_left hpos' |> fun h=>h
  have hze:=Zad zs hzp len;rw [hk] at hze;have hfl:=Ib _ _ _ _ hf
  have hr:(execOp a.eval ⟨some d,.buildSlice t len ps.toArray,ty,p,g,none⟩).run P w=.ok (.value (.slice (some ⟨w.heap.size,0,none⟩) len len)) (w.alloc (.cells cs.toArray e)):=by
   simp only [execOp];rw [show (ps.toArray.map fun x=>match x with | (i,x)=>(i,a.eval x))=vs.toArray from e2];have hne:¬ len*k=0:=by omega
   simp only [Instr.buildSlice,Sem.run_bind,run_underlying ht.1,Result.andThen,hsz,if_neg hsm',if_neg hne,Sem.run_pure,hv,hc];rw [hze];simp [hfl,newRow]
  unfold Oper.wp;rw [hr];exact hK _ _ ((h w.heap.size hs.low.size).go (w.alloc _) (hs.alloc cs e) _ (ha.put hd _))⟩
theorem Je:∀ (ns:List UInt8) (s:ByteArray),(ns.map fun b=>((b.toNat:Nat):Int)).foldl (fun r (n:Int)=>r.push (UInt8.ofNat n.toNat)) s=s++⟨ns.toArray⟩
 | [],s=>by
  cases s with
  | mk d=>show ByteArray.mk d=_;rw [show (ByteArray.mk d++ByteArray.mk ([]:List UInt8).toArray)=ByteArray.mk (d++([]:List UInt8).toArray) from ByteArray.ext (ByteArray.data_append ..)];simp
 | b::r,s=>by
  simp only [List.map_cons,List.foldl_cons];rw [Je r];have e:UInt8.ofNat ((b.toNat:Nat):Int).toNat=b:=by simp
  rw [e];apply ByteArray.ext;rw [ByteArray.data_append,ByteArray.data_append,ByteArray.data_push];simp
def Si (b:UInt8):Value:=.int .u8 ((b.toNat:Nat):Int)
theorem Zvs {s d:TypeId} {x:Operand} {e k:Nat} {v:Value} {bs:List UInt8} (hs:P.underlying s=some (.slice e)) (hu:P.underlying e=some (.int .u8)) (hd:P.underlying d=some .string) (hx:ev E x=some v) (hk:bs.length=k) :
  Ex P n E w0 F H (Asr.and (Tz e 1 v k (bs.map Si)) R) (.convert s d x) (.string ⟨bs.toArray⟩):=⟨fun w hS a ha _ _ _ _ _=>by
 have hown:w.ownsRow 0 e 1 v k (bs.map Si):=hS.res.1;simp only [execOp];rw [ha.eval hx];rcases hown.2 with ⟨rfl,rfl⟩ | ⟨g,cap,cur,rfl,_,hg,_⟩
 ·have hb:bs=[]:=List.eq_nil_of_length_eq_zero hk;subst hb;have:=run_convert_bytes_string (P:=P) w s d e none 0 0 hs hu hd;simp [this,Conv.bytesToString];rfl
 ·have h1:=run_convert_bytes_string (P:=P) w s d e (some ⟨g,0,none⟩) k cap hs hu hd;have hm:bs.map Si=(bs.map fun b=>((b.toNat:Nat):Int)).map (Value.int .u8):=by rw [List.map_map];rfl
  have hl:(loadCells ⟨g,0,none⟩ k).run P w=.ok ((bs.map fun b=>((b.toNat:Nat):Int)).map (Value.int .u8)).toArray w:=by
   have:=run_loadCells_list (P:=P) w ⟨g,0,none⟩ (bs.map Si) (hown.cells (g:=g) rfl);rw [List.length_map,hk,hm] at this;exact this
  have h2:=run_bytesToString (P:=P) w ⟨g,0,none⟩ k cap _ hl;rw [Je] at h2;have e3:(ByteArray.empty++⟨bs.toArray⟩:ByteArray)=⟨bs.toArray⟩:=by apply ByteArray.ext;rw [ByteArray.data_append];simp
  rw [e3] at h2;simp [h1,h2]⟩
end
end E
namespace E
open Go Go.RowKit
def Nb:List PanicEntry:=[{ v:=.iface 48 (.int .i64 1),recovered:=false }]
def Rz (P:Program) (f:FuncId) (args:Array Value) (w:World) (ok:Bool):Prop :=
 Calls P f args w fun e w'=>((ok=true/\e=.returned (.tuple #[]))\/(ok=false/\e=.panicked Nb))/\Below w.heap.size w w'
theorem Rz.of_eq {P:Program} {f:FuncId} {args:Array Value} {w:World} {a b:Bool} (h:Rz P f args w a) (e:a=b):Rz P f args w b:=e ▸ h
section
variable {P:Program} {n:Nat} {E:Env} {w0:World} {F:List Nat} {H:Hp} {R:Asr} {fn:Func} {Z:Ending->World->Prop} {κ:List Kf}
theorem Z7 {all:Array Oper} {l:List Oper} {d f:Nat} {xs:List Operand} {vs:List Value} {ts:Array TypeId} {t:TypeId} {p:String} {e:Array Edge} {ok:Bool} (hf:IsFn P f)
  (hd:Nat.blt d n=true) (hx:args E xs=some vs) (hc:∀ w,Sat w0 F H R w->Rz P f vs.toArray w ok) (hy:ok=true->WL P n all l ((d,.tuple #[])::E) w0 F H R fn Z κ) (hn:ok=false->WQ P n (.panic Nb) E w0 F H R fn Z κ) :
  WL P n all (⟨some d,.call ⟨.value (.func f),xs.toArray,ts⟩,t,p,e,none⟩::l) E w0 F H R fn Z κ :=
 ⟨fun w hs a ha=>wpList_plain rfl fun K hK=>by
  unfold Oper.wp;rw [Pk rfl hf,Rv ha xs vs hx];refine (hc w hs).mono ?_;rintro e w' ⟨h1,hb'⟩;rcases h1 with ⟨hok,rfl⟩ | ⟨hok,rfl⟩
  ·exact hK _ _ ((hy hok).go w' (hs.keep hb') _ (ha.put hd _))
  ·exact (hn hok).go w' (hs.keep hb') _ ha⟩
theorem Zup {all:Array Oper} {l:List Oper} {d:Option Nat} {x:Operand} {t u:TypeId} {v:Value} {p:String} {e:Array Edge} (hx:ev E x=some (.iface u v)) (h:WQ P n (.panic [{ v:=.iface u v,recovered:=false }]) E w0 F H R fn Z κ) :
  WL P n all (⟨d,.panic x,t,p,e,none⟩::l) E w0 F H R fn Z κ :=
 ⟨fun w hs a ha=>wpList_plain rfl fun K hK=>by
  have hr:(execOp a.eval ⟨d,.panic x,t,p,e,none⟩).run P w=.halt (.panic (.iface u v)) w:=by
   simp only [execOp];rw [ha.eval hx];rfl
  unfold Oper.wp;rw [hr];exact h.go w hs _ ha⟩
theorem Zvq {t:TypeId} {k:IntKind} {x:Operand} {v:Value} (ht:TI P t k) (hx:ev E x=some v):Ex P n E w0 F H R (.makeInterface t x) (.iface t v):=⟨fun w _ a ha _ _ _ _ _=>by
 simp only [execOp];rw [ha.eval hx];simp [Instr.makeInterface,run_underlying ht]⟩
theorem V6 {n:Nat} {E:Env} {w0:World} {H:Hp} {R:Asr} {fn:Func} {ok:Bool} (hr:fn.results=#[]) (h:ok=true) :
  WQ P n .normal E w0 [] H R fn (fun e w'=>((ok=true/\e=.returned (.tuple #[]))\/(ok=false/\e=.panicked Nb))/\Below w0.heap.size w0 w') [] :=
 Zlo hr fun _ hs=>⟨.inl ⟨h,rfl⟩,hs.low.below⟩
theorem PP_endr {n:Nat} {E:Env} {w0:World} {H:Hp} {R:Asr} {fn:Func} {ok:Bool} (hr:fn.results=#[]) (h:ok=true) :
  WQ P n .ret E w0 [] H R fn (fun e w'=>((ok=true/\e=.returned (.tuple #[]))\/(ok=false/\e=.panicked Nb))/\Below w0.heap.size w0 w') [] :=
 Zgb hr fun _ hs=>⟨.inl ⟨h,rfl⟩,hs.low.below⟩
theorem Yf {n:Nat} {E:Env} {w0:World} {H:Hp} {R:Asr} {fn:Func} {ok:Bool} (h:ok=false) :
  WQ P n (.panic Nb) E w0 [] H R fn (fun e w'=>((ok=true/\e=.returned (.tuple #[]))\/(ok=false/\e=.panicked Nb))/\Below w0.heap.size w0 w') [] :=
 Zcj fun _ hs=>⟨.inr ⟨h,rfl⟩,hs.low.below⟩
theorem I9 {a:Act} {w:World} {o:Oper} {f:FuncId} {g:Operand} {xs:Array Operand} {ts:Array TypeId} {first cap:Array Value} (ho:o.op=.call ⟨.value g,xs,ts⟩) (hg:a.eval g=.func (.func f) first cap) (hf:IsFn P f) :
  (execOp a.eval o).run P w=.ok (.enter f (first++xs.map a.eval++cap)) w:=by
 obtain ⟨fn,hf,hb,hnm⟩:=hf.is;simp [execOp,ho,resolve,hg,Deferred.ofValue,invoke,callFunc,hf];rw [if_neg (by simpa using hnm),if_neg (by intro h;rw [h] at hb;cases hb)]
theorem Zur {all:Array Oper} {l:List Oper} {d f:Nat} {g:Operand} {xs:List Operand} {vs:List Value} {ts:Array TypeId} {t:TypeId} {p:String} {e:Array Edge} {v:Value} (hf:IsFn P f)
  (hd:Nat.blt d n=true) (hg:ev E g=some (.func (.func f) #[] #[])) (hx:args E xs=some vs) (hc:∀ w,Sat w0 F H R w->Qd P f vs.toArray w v) (h:WL P n all l ((d,v)::E) w0 F H R fn Z κ) :
  WL P n all (⟨some d,.call ⟨.value g,xs.toArray,ts⟩,t,p,e,none⟩::l) E w0 F H R fn Z κ :=
 ⟨fun w hs a ha=>wpList_plain rfl fun K hK=>by
  unfold Oper.wp;rw [I9 rfl (ha.eval hg) hf,Rv ha xs vs hx];rw [show (#[]++vs.toArray++#[]:Array Value)=vs.toArray by simp];refine (hc w hs).mono ?_;rintro e w' ⟨rfl,hb'⟩;exact hK _ _ (h.go w' (hs.keep hb') _ (ha.put hd v))⟩
theorem Ex_eqlN {t t':TypeId} {x y:Operand} {as bs:Array Value} {r:Bool} (hm:P.eqGuardType P.depth t=false) (hx:ev E x=some (.agg as)) (hy:ev E y=some (.agg bs)) (h:∀ w:World,(Op.equalIn 10000 t (.agg as) (.agg bs)).run P w=.ok r w) :
  Ex P n E w0 F H R (.binOp .eql t x y t') (.bool r):=⟨fun w _ a ha _ _ _ _ _=>by
 simp only [execOp];rw [ha.eval hx,ha.eval hy];have h1:=run_eqGuard_agg (P:=P) w .eql t x y as bs hm;have h2:=run_eql_struct (P:=P) w t as bs;have h3:=h w;simp [h1,h2,h3]⟩
theorem Ex_neqN {t t':TypeId} {x y:Operand} {as bs:Array Value} {r:Bool} (hm:P.eqGuardType P.depth t=false) (hx:ev E x=some (.agg as)) (hy:ev E y=some (.agg bs)) (h:∀ w:World,(Op.equalIn 10000 t (.agg as) (.agg bs)).run P w=.ok r w) :
  Ex P n E w0 F H R (.binOp .neq t x y t') (.bool (!r)):=⟨fun w _ a ha _ _ _ _ _=>by
 simp only [execOp];rw [ha.eval hx,ha.eval hy];have h1:=run_eqGuard_agg (P:=P) w .neq t x y as bs hm;have h2:=run_neq_struct (P:=P) w t as bs;have h3:=h w;simp [h1,h2,h3]⟩
end
end E
end Go.Proofs.YtpofmnfkdkmieaaGreat
