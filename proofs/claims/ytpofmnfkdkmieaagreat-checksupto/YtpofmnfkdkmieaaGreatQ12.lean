/- What is proved here: rules for a row of bytes that is made, w -/
import Derived.Test.YtpofmnfkdkmieaaGreatQ03
import Derived.Laws.MakeOwn
import Derived.Lib.UnsafeStr
import Derived.Lib.BufferWrite
import Derived.Test.YtpofmnfkdkmieaaGreatQ10
import Derived.Test.YtpofmnfkdkmieaaGreatQ09
import Derived.Test.YtpofmnfkdkmieaaGreatQ08
set_option linter.unusedVariables false
set_option linter.unusedSimpArgs false
namespace Go.Proofs.YtpofmnfkdkmieaaGreat
namespace E
open Go Go.RowKit
def blkA (b:Nat) (cs:List Value) (e:TypeId):Asr:=⟨[b],fun w=>w.heap[b]?=some (.cells cs.toArray e (0,0)),fun w w' h hk=>by rw [hk b List.mem_cons_self];exact h⟩
section
variable {P:Program} {n:Nat} {E:Env} {w0:World} {F:List Nat} {H:Hp} {R:Asr} {fn:Func} {Z:Ending→World→Prop} {κ:List Kf}
theorem Sat.allocR {w:World} (hs:Sat w0 F H R w) (cs:List Value) (e:TypeId):Sat w0 F H ((blkA w.heap.size cs e).and R) (w.alloc (.cells cs.toArray e)):=by
 have hk:=hs.keep (w':=w.alloc (.cells cs.toArray e)) ((Below.refl _ w).alloc (Nat.le_refl _) _);have hn:(w.alloc (.cells cs.toArray e)).heap[w.heap.size]?=some (.cells cs.toArray e (0,0)):=by show (w.heap.push _)[w.heap.size]?=_;rw [Array.getElem?_push,if_pos rfl]
 refine ⟨hk.low,hk.own,hk.hi,hk.apart,⟨hn,hk.res,?_⟩,?_,?_⟩
 ·intro k h1 h2;simp only [blkA,List.mem_singleton] at h1;have:=(hs.rhi k h2).2;omega
 ·intro k hm;rcases List.mem_append.1 hm with hm | hm
  ·simp only [blkA,List.mem_singleton] at hm;subst hm;exact ⟨.inr hs.low.size,by rcases Nat.lt_or_ge w.heap.size (w.alloc (.cells cs.toArray e)).heap.size with h | h;exact h;rw [Array.getElem?_eq_none h] at hn;cases hn⟩
  ·exact hk.rhi k hm
 ·intro q hq hm;rcases List.mem_append.1 hm with hm | hm
  ·simp only [blkA,List.mem_singleton] at hm;have:=hs.lt hq;omega
  ·exact hk.rapart q hq hm
theorem Sat.turnR {w w':World} {b:Nat} {cs:List Value} {e:TypeId} {R':Asr} (hs:Sat w0 F H ((blkA b cs e).and R) w) (ho:w'.os=w.os∧w'.tape=w.tape∧w'.output=w.output) (hsz:w'.heap.size=w.heap.size) (hne:∀ k,k≠b→w'.heap[k]?=w.heap[k]?)
  (hR:∀ k ∈ R'.S,k ∈ ((blkA b cs e).and R).S) (hA:R.A w'→(∀ k ∈ R.S,k≠b)→R'.A w'):Sat w0 F H R' w':=by
 have hbS:b ∈ ((blkA b cs e).and R).S:=List.mem_append_left _ List.mem_cons_self;have hRb:∀ k ∈ R.S,k≠b:=fun k hk e=>hs.res.2.2 k (by rw [e];exact List.mem_cons_self) hk;refine ⟨⟨ho.1.trans hs.low.os,ho.2.1.trans hs.low.tape,ho.2.2.trans hs.low.output,by rw [hsz];exact hs.low.size,fun k hk hF=>?_⟩,fun q hq=>?_,hs.hi,hs.apart,hA (R.st w w' hs.res.2.1 (fun k hk=>hne k (hRb k hk))) hRb,fun k hk=>?_,fun q hq hk=>hs.rapart q hq (hR _ hk)⟩
 ·rw [hne k (fun e=>(hs.rhi b hbS).1.elim (fun hb=>hF (by rw [e];exact hb)) (fun hb=>by omega))];exact hs.low.block k hk hF
 ·rw [hne _ (fun e=>hs.rapart q hq (by rw [e];exact hbS))];exact hs.own q hq
 ·rw [hsz];exact hs.rhi k (hR k hk)
theorem WL_make {all:Array Oper} {l:List Oper} {d t e:Nat} {x y:Operand} {ty:TypeId} {p:String} {g:Array Edge} {k:Nat} (hd:Nat.blt d n=true) (ht:TA P t e 1 1 (.int .u8 0)) (hx:ev E x=some (iN k)) (hy:ev E y=some (iN k)) (hk:k≤281474976710656)
  (h:∀ b M,M.length=k→WL P n all l ((d,.slice (some ⟨b,0,none⟩) k k)::E) w0 F H ((blkA b M e).and R) fn Z κ):WL P n all (⟨some d,.makeSlice t x y,ty,p,g,none⟩::l) E w0 F H R fn Z κ :=
 ⟨fun w hs a ha=>wpList_plain rfl fun K hK=>by
  obtain ⟨i,hi,hz,hsz,hb⟩:=info_parts ht.inf;have hr:=run_make (P:=P) w t e i (.int .u8 0) ht.sl hi hz .i64 .i64 (k:Int) (k:Int) (by omega) (by omega) (by rw [hb];omega) (by omega)
  have he:(execOp a.eval ⟨some d,.makeSlice t x y,ty,p,g,none⟩).run P w=.ok (.value (.slice (some ⟨w.heap.size,0,none⟩) k k)) (w.alloc (.cells (madeCells (Value.int .u8 0).cells (k*1)).toList.toArray e)):=by
   simp only [execOp];rw [ha.eval hx,ha.eval hy];rw [hsz] at hr;simp only [Int.toNat_natCast] at hr;simp [hr]
  unfold Oper.wp;rw [he];exact hK _ _ ((h w.heap.size (madeCells (Value.int .u8 0).cells (k*1)).toList (by rw [Array.length_toList,size_madeCells,Nat.mul_one])).go (w.alloc _) (hs.allocR _ e) _ (ha.put hd _))⟩
theorem WL_copyS {all:Array Oper} {l:List Oper} {d t u e b:Nat} {x y:Operand} {ty:TypeId} {p:String} {g:Array Edge} {s:ByteArray} {M:List Value} (hd:Nat.blt d n=true) (ht:TA P t e 1 1 (.int .u8 0)) (hx:ev E x=some (.slice (some ⟨b,0,none⟩) s.size s.size)) (hy:ev E y=some (.string s)) (hM:M.length=s.size)
  (h:WL P n all l ((d,iN s.size)::E) w0 F H ((blkA b (Go.Lib.byteCells s.data.toList) e).and R) fn Z κ):WL P n all (⟨some d,.call ⟨.builtin .copy,#[x,y],#[t,u]⟩,ty,p,g,none⟩::l) E w0 F H ((blkA b M e).and R) fn Z κ :=
 ⟨fun w hs a ha=>wpList_plain rfl fun K hK=>by
  obtain ⟨i',hi,hz,hsz,hb⟩:=info_parts ht.inf;have htt:w.heap[b]?=some (.cells M.toArray e (0,0)):=hs.res.1;have hr:=Go.Lib.run_copy_row_string (P:=P) w t u ty e b 0 s.size s.size s M.toArray e ht.sl (by rw [hi];simp [hsz]) htt (Nat.le_refl _) (by simp [hM])
  have e1:(M.toArray.toList.take 0++Go.Lib.byteCells s.data.toList++M.toArray.toList.drop (0+s.size))=Go.Lib.byteCells s.data.toList:=by
   rw [List.take_zero,List.nil_append,List.drop_of_length_le (by simp [hM]),List.append_nil]
  rw [e1] at hr
  have he:(execOp a.eval ⟨some d,.call ⟨.builtin .copy,#[x,y],#[t,u]⟩,ty,p,g,none⟩).run P w=.ok (.value (iN s.size)) (w.setRow b (Go.Lib.byteCells s.data.toList).toArray):=by
   simp only [execOp,resolve,invoke,builtin];simp [ha.eval hx,ha.eval hy,hr,goInt]
  unfold Oper.wp;rw [he];refine hK _ _ (h.go _ (hs.turnR (w':=w.setRow b (Go.Lib.byteCells s.data.toList).toArray) ⟨J,J,J⟩ (by simp) (fun k hk=>setRow_other w b k _ (fun e=>hk e)) (fun k hk=>hk) (fun hA hb=>⟨setRow_heap w b _ _ e _ htt,hA,fun k h1 h2=>?_⟩)) _ (ha.put hd _));simp only [blkA,List.mem_singleton] at h1;exact hb k h2 h1⟩
theorem WL_uString {all:Array Oper} {l:List Oper} {d t it e b:Nat} {x y:Operand} {ty:TypeId} {p:String} {g:Array Edge} {s:ByteArray} (hd:Nat.blt d n=true) (ht:P.underlying t=some (.pointer e)) (hc:P.cellsOf e=1) (hx:ev E x=some (pt b)) (hy:ev E y=some (iN s.size)) (h0:s.size≠0) (h1:s.size≤281474976710656)
  (h:WL P n all l ((d,.string s)::E) w0 F H R fn Z κ):WL P n all (⟨some d,.call ⟨.builtin .unsafeString,#[x,y],#[t,it]⟩,ty,p,g,none⟩::l) E w0 F H ((blkA b (Go.Lib.byteCells s.data.toList) e).and R) fn Z κ :=
 ⟨fun w hs a ha=>wpList_plain rfl fun K hK=>by
  have hg:w.heap[b]?=some (.cells (Go.Lib.byteCells s.data.toList).toArray e (0,0)):=hs.res.1;have hsz:s.data.toList.length=s.size:=Array.length_toList
  have hr:=Go.Lib.run_unsafeString_row (P:=P) w t it ty e ht hc b s.size (by unfold World.shape?;rw [hg];simp [Go.Lib.byteCells_length,hsz]) s.data.toList (fun e=>h0 (by rw [← hsz,e];rfl)) (by omega) (by omega)
   (fun j v hj=>by
    rw [Addr.add_lit,Nat.zero_add];simp [World.cell?,hg,Go.Lib.byteCells,hj])
  have e2:(⟨s.data.toList.toArray⟩:ByteArray)=s:=by cases s;simp
  rw [e2,hsz] at hr
  have hx':(execOp a.eval ⟨some d,.call ⟨.builtin .unsafeString,#[x,y],#[t,it]⟩,ty,p,g,none⟩).run P w=.ok (.value (.string s)) (w.freeze ⟨b,0,none⟩ s.size):=by
   simp only [execOp,resolve,invoke,builtin];simp [ha.eval hx,ha.eval hy,hr]
  unfold Oper.wp;rw [hx']
  have hne:∀ k,k≠b→(w.freeze ⟨b,0,none⟩ s.size).heap[k]?=w.heap[k]?:=fun k hk=>by
   unfold World.freeze;split
   ·rfl
   ·simp only [Array.getElem?_modify];rw [if_neg (fun e=>hk e.symm)]
  have hsize:(w.freeze ⟨b,0,none⟩ s.size).heap.size=w.heap.size:=by unfold World.freeze;split<;>simp
  have ho:(w.freeze ⟨b,0,none⟩ s.size).os=w.os∧(w.freeze ⟨b,0,none⟩ s.size).tape=w.tape∧(w.freeze ⟨b,0,none⟩ s.size).output=w.output:=by unfold World.freeze;split<;>exact ⟨rfl,rfl,rfl⟩
  exact hK _ _ (h.go _ (hs.turnR ho hsize hne (fun k hk=>List.mem_append_right _ hk) (fun hA _=>hA)) _ (ha.put hd _))⟩
theorem Ex_shl {t t':TypeId} {x y:Operand} {k k':IntKind} {i j:Int} (hx:ev E x=some (.int k i)) (hy:ev E y=some (.int k' j)) (hj:decide (j<0)=false):Ex P n E w0 F H R (.binOp .shl t x y t') (.int k (k.wrap (i*2 ^ min j.toNat k.bits))):=⟨fun w _ a ha _ _ _ _ _=>by
 simp only [execOp];rw [ha.eval hx,ha.eval hy,eqGuard_at_int];simp [binOp,Op.shift,of_decide_eq_false hj]⟩
theorem Ex_or {t t':TypeId} {x y:Operand} {k:IntKind} {i j:Int} (hx:ev E x=some (.int k i)) (hy:ev E y=some (.int k j)):Ex P n E w0 F H R (.binOp .or t x y t') (.int k (k.wrap ((BitVec.ofInt k.bits i ||| BitVec.ofInt k.bits j).toNat:Nat))) :=
 Qx hx hy fun w=>by simp [binOp,Op.intBits]
end
end E
section
open Go.RowKit At E
def rdC (r:List UInt8):List Value:=[.string ⟨r.toArray⟩]
def RdOk {α:Type} (r:List UInt8) (p:Ps α) (rep:α→Value→Asr→Prop):Value→List Value→Asr→Prop:=fun v cs' R'=>∃ x r',p r=some (x,r')∧cs'=rdC r'∧r'.length≤r.length∧rep x v R'
def RdP {α:Type} (f:FuncId) (args:Array Value) (u:World) (b:Nat) (p:Ps α) (rep:α→Value→Asr→Prop):Prop :=
 ∀ r:List UInt8,r.length≤4000000→RcP Tryz.prog f args u b (rdC r) (RdOk r p rep) (p r=none)
theorem Vb {α β:Type} {P:Ps β} {p:Ps α} {f:α→Ps β} {r r1:List UInt8} (h:Ux (some r) P (some r1) (Xg p f)) (hm:p r1=none):P r=none:=by
 have h1:P r=Xg p f r1:=h;rw [h1];unfold Xg;rw [hm]
theorem X0 {α β:Type} {P:Ps β} {p:Ps α} {f:α→Ps β} {r r1 r2:List UInt8} {x:α} (h:Ux (some r) P (some r1) (Xg p f)) (hm:p r1=some (x,r2)):Ux (some r) P (some r2) (f x):=by
 have h1:P r=Xg p f r1:=h;show P r=f x r2;rw [h1];unfold Xg;rw [hm]
theorem Vs {β:Type} {P:Ps β} {r r1:List UInt8} {x:β} (h:Ux (some r) P (some r1) (Rb x)):P r=some (x,r1):=h
theorem ba_size (r:List UInt8):(⟨r.toArray⟩:ByteArray).size=r.length:=by show r.toArray.size=r.length;simp
theorem dl_ba (r:List UInt8):dl ⟨r.toArray⟩=r:=by unfold dl;simp
theorem ext_take (r:List UInt8) (n:Nat):(⟨r.toArray⟩:ByteArray).extract 0 n=⟨(r.take n).toArray⟩:=by
 have e:=seg_text (s:=⟨r.toArray⟩) (a:=0) (n:=n);rw [Nat.zero_add] at e;rw [e];unfold seg;rw [dl_ba,List.drop_zero]
theorem ext_drop (r:List UInt8) (n:Nat) (h:n≤r.length):(⟨r.toArray⟩:ByteArray).extract n (⟨r.toArray⟩:ByteArray).size=⟨(r.drop n).toArray⟩:=by
 have e:=seg_text (s:=⟨r.toArray⟩) (a:=n) (n:=r.length - n);rw [show n+(r.length - n)=r.length by omega] at e;rw [ba_size,e];unfold seg;rw [dl_ba,List.take_of_length_le (by rw [List.length_drop];omega)]
def repTk:List UInt8→Value→Asr→Prop:=fun x v R'=>v=.string ⟨x.toArray⟩∧R'=Asr.none
theorem rdTake_any (U:World) (b n:Nat):RdP 112 #[pt b,iN n] U b (pTake n) repTk:=by
 intro r hrl w h0;have hz:=ba_size r;refine Yz (h0.sat) (args:=[pt b,iN n]) Tryz.func112 J Tryz.ntmps112 ?_;refine Zg (Zb (Za J (Zf J) (Ze (Zc (Zg (Zb (Za J (Zd J) (Za J (Zd J) (Za J (Zw J) (Za J (Zh (ff J) J) (Za J (Zj (t1 J) J (Zi 0 J J)) (Za J (S6 (Sk J) J) (Za J (Xj J J) (Z7 X1 J J (fun w _=>Yr _ w) ?_ ?_))))))))))))))
 rotate_left
 ·intro o1;replace o1:=dFa o1;refine Zy (WD_of h0.base (Vr h0) (Xq ?_));exact pTake_no (by omega)
 intro o1;replace o1:=dTr o1;refine Ze (Zc (Zg (Zb (Za J (Zd J) (Za J (Zw J) (Za J (Zh (ff J) J) (Za J (Zj (t1 J) J (Zi 0 J J)) (Za J (Zd J) (Za J (Ex_sliceTo (Sk J) J J ?_) ?_)))))))))
 ·omega
 refine Za J (Zf J) (Ze (Zc (Zg (Zb (Za J (Zd J) (Za J (Zd J) (Za J (Zw J) (Za J (Zh (ff J) J) (Za J (Zj (t1 J) J (Zi 0 J J)) (Za J (Zd J) (Za J (Ex_sliceFrom (Sk J) J J ?_) ?_)))))))))))
 ·omega
 refine Za J (Zw J) (Za J (Zh (ff J) J) (Yy (t1 J) J J 0 J J J J (Ze (Zc (Zg (Zb (Za J (Zd J) (Za J (Zf J) (Ze (Zc (Zr (Sh J J 0 J ?_))))))))))));exact ⟨r.take n,r.drop n,pTake_ok (by omega),congrArg (fun s=>[Value.string s]) (ext_drop r n (by omega)),by rw [List.length_drop];omega,congrArg Value.string (ext_take r n),rfl⟩
theorem or_step (a c i:Nat) (ha:a<256 ^ i) (hi:i<8) (hc:c<256) :
  IntKind.u64.wrap (((BitVec.ofInt IntKind.u64.bits (a:Int) ||| BitVec.ofInt IntKind.u64.bits (IntKind.u64.wrap (IntKind.u64.wrap (c:Int)*2 ^ min ((8:Int)*(i:Int)).toNat IntKind.u64.bits))).toNat:Nat):Int)=((a+256 ^ i*c:Nat):Int):=by
 have e8:(256:Nat) ^ i=2 ^ (8*i):=by rw [show (256:Nat)=2 ^ 8 by decide,← Nat.pow_mul]
 have hbits:IntKind.u64.bits=64:=rfl;have hmin:min ((8:Int)*(i:Int)).toNat IntKind.u64.bits=8*i:=by rw [hbits];omega
 have hp:2 ^ (8*i)*256≤18446744073709551616:=by
  have:2 ^ (8*i)*256=2 ^ (8*i+8):=by rw [Nat.pow_add]
  rw [this];exact Nat.le_trans (Nat.pow_le_pow_right (by omega) (show 8*i+8≤64 by omega)) (by decide)
 have hcb:2 ^ (8*i)*c≤2 ^ (8*i)*255:=Nat.mul_le_mul_left _ (by omega);rw [e8] at ha ⊢;have hw1:IntKind.u64.wrap (c:Int)=(c:Int):=by rw [IntKind.wrap_u64];omega
 have hw2:IntKind.u64.wrap ((c:Int)*2 ^ (8*i))=((2 ^ (8*i)*c:Nat):Int):=by
  have e:(c:Int)*2 ^ (8*i)=((2 ^ (8*i)*c:Nat):Int):=by
   rw [Int.natCast_mul,Int.natCast_pow,Int.mul_comm];rfl
  rw [e,IntKind.wrap_u64];omega
 rw [hmin,hw1,hw2,hbits];have hA:(BitVec.ofInt 64 (a:Int)).toNat=a:=by rw [BitVec.toNat_ofInt];omega
 have hB:(BitVec.ofInt 64 ((2 ^ (8*i)*c:Nat):Int)).toNat=2 ^ (8*i)*c:=by rw [BitVec.toNat_ofInt];omega
 rw [BitVec.toNat_or,hA,hB,Nat.or_comm,← Nat.two_pow_add_eq_or_of_lt ha,IntKind.wrap_u64];omega
def rep64 (k:Nat):Nat→Value→Asr→Prop:=fun n v R'=>v=.int .u64 (n:Nat)∧n<256 ^ k∧R'=Asr.none
theorem leN_take_succ (l:List UInt8) (i:Nat) (h:i<l.length):leN (l.take (i+1))=leN (l.take i)+256 ^ i*l[i].toNat:=by
 rw [List.take_succ_eq_append_getElem h,leN_append];have:(l.take i).length=i:=by rw [List.length_take];omega
 rw [this];simp [leN]
theorem My (U:World) (b k:Nat) (hk:k≤8):RdP 180 #[pt b,iN k] U b (pNum k) (rep64 k):=by
 intro r hrl w h0;refine Yz (h0.sat) (args:=[pt b,iN k]) Tryz.func180 J Tryz.ntmps180 ?_;refine Zg (Zb (Za J (Zf J) (Ze (Zc (Zg (Zb (Za J (Zd J) (Za J (Zd J) ?_))))))));refine Y9 fn112 J J 0 J h0.base (Vr h0) (rdTake_any U b k r hrl) (fun hm=>Yv (Xq (by unfold pNum Xg;rw [hm]))) ?_;rintro v cs' ⟨R',l,r1,hp,rfl,hr1,rfl, -⟩;refine Za J (Zf J) (Ze (Zc (Zg (Zb (Za J (Zf J) (Ze (Zc (Zg (Zg (Zb (Za J (Zd J) (Za J (Zd J) (Ze (Zc (Zn ?_)))))))))))))));obtain ⟨hl1, -,hkl⟩:=pTake_some hp;have hll:l.length=k:=by rw [hl1,List.length_take];omega
 have hz:=ba_size l;refine Yf (Yg (X:=Nat) (fun i=>[(0,pt b),(5,.string ⟨l.toArray⟩),(6,.int .u64 ((leN (l.take i):Nat):Int)),(11,iN k),(12,iN i)]) _ _ (fun i=>[(b,rdC r1)]) (fun i=>Asr.none) (fun i=>i≤k) (fun i=>k - i) (0) (Nat.zero_le _) ?_) ⟨J,J,J,J,J,trivial⟩;intro i hI;refine Zg (Zb (Za J (Yi J J) (Ze (Zc (Zg (Zu J ?_ ?_))))))
 ·intro c1;have hi:i<l.length:=by omega
  refine Zo (Zc (Zg (Zn (Zg (Zb (Za J (Zd J) (Za J (Zf J) (Ze (Zc (Zb (Za J (Zd J) (Za J (Zd J) (Za J (Zd J) (Za J (P2 (Sk J) J J ?_) ?_))))))))))))))
  ·omega
  refine Za J (Si (Sj J) (Sj J) J) (Za J (Zd J) ?_);refine Za J (Ex_mulB J J ?_) ?_;omega;refine Za J (Ex_shl J J (decide_eq_false (by omega))) ?_;refine Za J (Ex_or J J) (Za J (Zf J) (Ze (Zt (Zc (Zb ?_)))));refine Za J (Yn J J ?_) ?_;omega;refine Za J (Zd J) (Ze ?_);refine Se (s:=6) (v':=.int .u64 ((leN (l.take (i+1)):Nat):Int)) J (congrArg (Value.int .u64) (by have h9:=leN_lt (l.take i);rw [List.length_take,Nat.min_eq_left (by omega)] at h9;rw [leN_take_succ l i hi];exact or_step _ _ i h9 (by omega) (l[i].toNat_lt))) ?_;refine Z1 (i+1) ?_ (by omega) 0 J (J) ⟨J,J,J,J,J,trivial⟩;omega
 ·intro c1;refine Yd (Yc (Z5 (Yb (Zc (Zg (Zb (Za J (Zd J) (Za J (Zf J) (Ze (Zc (Zr (Sh J J 0 J ?_))))))))))));have h9:=leN_lt l;rw [hll] at h9;rw [show i=k by omega,List.take_of_length_le (by omega)];exact ⟨leN l,r1,by unfold pNum Xg;rw [hp];rfl,rfl,hr1,rfl,h9,rfl⟩
theorem Tq (U:World) (b:Nat):RdP 115 #[pt b] U b (pNum 1) (repN 1):=by
 intro r hrl w h0;have h64:(256:Nat) ^ 8=18446744073709551616:=by decide
 refine Yz (h0.sat) (args:=[pt b]) Tryz.func115 J Tryz.ntmps115 ?_;refine Zg (Zb (Za J (Zf J) (Ze (Zc (Zg (Zb (Za J (Zd J) (Y9 fn180 J J 0 J h0.base (Vr h0) (My U b 1 (by omega) r hrl) (fun hm=>Yv (Xq hm)) ?_))))))));rintro v cs' ⟨R',n,r1,hp,rfl,hr1,rfl,hn, -⟩;refine Za J (Si (Sj J) (Sj J) J) (Za J (Zf J) (Ze (Zc (Zr (Sh J J 0 J ?_)))));exact ⟨n,r1,hp,J,hr1,congrArg (Value.int .i64) (toI_wrap (by omega)),hn,J⟩
theorem rdNtwo_any (U:World) (b:Nat):RdP 185 #[pt b] U b (pNum 2) (repN 2):=by
 intro r hrl w h0;have h64:(256:Nat) ^ 8=18446744073709551616:=by decide
 refine Yz (h0.sat) (args:=[pt b]) Tryz.func185 J Tryz.ntmps185 ?_;refine Zg (Zb (Za J (Zf J) (Ze (Zc (Zg (Zb (Za J (Zd J) (Y9 fn180 J J 0 J h0.base (Vr h0) (My U b 2 (by omega) r hrl) (fun hm=>Yv (Xq hm)) ?_))))))));rintro v cs' ⟨R',n,r1,hp,rfl,hr1,rfl,hn, -⟩;refine Za J (Si (Sj J) (Sj J) J) (Za J (Zf J) (Ze (Zc (Zr (Sh J J 0 J ?_)))));exact ⟨n,r1,hp,J,hr1,congrArg (Value.int .i64) (toI_wrap (by omega)),hn,J⟩
theorem rdNeight_any (U:World) (b:Nat):RdP 285 #[pt b] U b (pNum 8) (repN 8):=by
 intro r hrl w h0;have h64:(256:Nat) ^ 8=18446744073709551616:=by decide
 refine Yz (h0.sat) (args:=[pt b]) Tryz.func285 J Tryz.ntmps285 ?_;refine Zg (Zb (Za J (Zf J) (Ze (Zc (Zg (Zb (Za J (Zd J) (Y9 fn180 J J 0 J h0.base (Vr h0) (My U b 8 (by omega) r hrl) (fun hm=>Yv (Xq hm)) ?_))))))));rintro v cs' ⟨R',n,r1,hp,rfl,hr1,rfl,hn, -⟩;refine Za J (Si (Sj J) (Sj J) J) (Za J (Zf J) (Ze (Zc (Zr (Sh J J 0 J ?_)))));exact ⟨n,r1,hp,J,hr1,congrArg (Value.int .i64) (toI_wrap (by omega)),hn,J⟩
theorem rdI_of {f:FuncId} {args:Array Value} {U:World} {b k:Nat} (hk:k≤8) (h:RdP f args U b (pNum k) (repN k)):RdP f args U b (Nu k) (repI k):=by
 intro r hrl w h0;refine Calls.mono (h r hrl w h0) ?_;rintro e w' (⟨v,cs',R',rfl,⟨n,r1,hp,rfl,hr1,rfl,hn,rfl⟩,hw⟩ | ⟨hm,rfl,hb⟩)
 ·have h8:n<18446744073709551616:=Nat.lt_of_lt_of_le hn (Nat.le_trans (Nat.pow_le_pow_right (by omega) hk) (by decide));refine .inl ⟨_,_,_,J,⟨toI n,r1,by unfold Nu Xg;rw [hp];rfl,rfl,hr1,rfl,toI_ok h8,fun h2=>?_,rfl⟩,hw⟩;have h3:n<65536:=Nat.lt_of_lt_of_le hn (Nat.le_trans (Nat.pow_le_pow_right (by omega) h2) (by decide));rw [Sx (by omega)];omega
 ·exact .inr ⟨by unfold Nu Xg;rw [hm],rfl,hb⟩
theorem Oc (U:World) (b:Nat):RdP 115 #[pt b] U b (Nu 1) (repI 1):=rdI_of (by omega) (Tq U b)
theorem Ns (U:World) (b:Nat):RdP 185 #[pt b] U b (Nu 2) (repI 2):=rdI_of (by omega) (rdNtwo_any U b)
theorem rdEight_any (U:World) (b:Nat):RdP 285 #[pt b] U b (Nu 8) (repI 8):=rdI_of (by omega) (rdNeight_any U b)
theorem rdFlag_any (U:World) (b:Nat):RdP 181 #[pt b] U b pFlag repB:=by
 intro r hrl w h0;have hS:=Ux.first (some r) pFlag
 refine Yz (h0.sat) (args:=[pt b]) Tryz.func181 J Tryz.ntmps181 ?_;refine Zg (Zb (Za J (Zf J) (Ze (Zc (Zg (Zb (Za J (Zd J) (Y9 fn115 J J 0 J h0.base (Vr h0) (Tq U b r hrl) (fun hm=>Yv (Xq (Vb hS hm))) ?_))))))));rintro v cs' ⟨R',n,r1,hp,rfl,hr1,rfl,hn, -⟩;replace hS:=X0 hS hp;rw [Sx (show n<9223372036854775808 by omega)];refine Za J (Zf J) (Ze (Zc (Zg (Zb (Za J (Zd J) (Za J (Xj J J) (Z7 X1 J J (fun w _=>Yr _ w) ?_ ?_)))))))
 rotate_left
 ·intro o1;replace o1:=dFa o1;refine Zy (WD_of h0.base (Vr h0) (Xq ?_));rw [if_pos (by omega)] at hS;exact hS
 intro o1;replace o1:=dTr o1;refine Ze (Zc (Zg (Zb (Za J (Zd J) (Za J (Ya J J) (Za J (Zf J) (Ze (Zc (Zr (Sh J J 0 J ?_))))))))));rw [if_neg (by omega)] at hS;exact ⟨_,r1,Vs hS,J,hr1,congrArg Value.bool (by rw [Bool.eq_iff_iff];simp only [decide_eq_true_eq];omega),rfl⟩
theorem t1p:Tryz.prog.underlying 403=some (.pointer 5):=by kernel_rfl
theorem c1u8:Tryz.prog.cellsOf 5=1:=by kernel_rfl
theorem litClone_any (s:ByteArray) (w:World) (hs:s.size≤4000000):Vc Tryz.prog 242 #[.string s] w (.string s):=by
 refine Xf (args:=[.string s]) Tryz.func242 J Tryz.ntmps242 ?_;refine Zg (Zb (Za J (Zf J) (Ze (Zc (Zg (Zg (Zb (Za J (Zd J) (Za J (S6 (Sk J) J) (Za J (Ya J J) (Ze (Zc (Zu J ?_ ?_)))))))))))))
 ·intro c1;refine Zg (Zb (Za J (Zf J) (Ze (Zc (Zr (Zl (Z3 J J ?_)))))));have h9:s=⟨#[]⟩:=ByteArray.ext (Array.eq_empty_of_size_eq_zero (by show s.size=0;omega));rw [h9]
 ·intro c1;have hne:s.size≠0:=by omega
  refine Zo (Zc (Zg (Zb (Za J (Zd J) (Za J (S6 (Sk J) J) (WL_make J (ta J) J J (by omega) (fun b M hM=>?_)))))));refine Za J (Zf J) (Ze (Zc (Zg (Zb (Za J (Zd J) (Za J (Zd J) (WL_copyS J (ta J) J J hM (Ze (Zc (Zg (Zb (Za J (Zd J) (Za J (Yo (i:=0) (ts J) J J (by omega)) ?_)))))))))))));refine Za J (Zd J) (Za J (Zx (ts J) J) (WL_uString J t1p c1u8 J J hne (by omega) ?_));refine Za J (Zf J) (Ze (Zc (Zr (Z3 J J ?_))));rfl
theorem clone_any (s:ByteArray) (w:World) (hs:s.size≤4000000):Vc Tryz.prog 131 #[.string s] w (.string s):=by
 refine Xf (args:=[.string s]) Tryz.func131 J Tryz.ntmps131 ?_;refine Zg (Zb (Za J (Zf J) (Ze (Zc (Zg (Zb (Za J (Zd J) (Yq fn242 J J (fun w _=>litClone_any s w hs) ?_))))))));refine Za J (Zf J) (Ze (Zc (Zr (Z3 J J ?_))));rfl
theorem Ut (U:World) (b:Nat):RdP 113 #[pt b] U b Qf repS:=by
 intro r hrl w h0;have hS:=Ux.first (some r) Qf
 refine Yz (h0.sat) (args:=[pt b]) Tryz.func113 J Tryz.ntmps113 ?_;refine Zg (Zb (Za J (Zf J) (Ze (Zc (Zg (Zb (Za J (Zd J) (Za J (Zd J) (Y9 fn115 J J 0 J h0.base (Vr h0) (Tq U b r hrl) (fun hm=>Yv (Xq (Vb hS hm))) ?_)))))))));rintro v cs' ⟨R',n,r1,hp,rfl,hr1,rfl,hn, -⟩;replace hS:=X0 hS hp;rw [Sx (show n<9223372036854775808 by omega)];refine Y9 fn112 J J 0 J h0.base (Vr h0) (rdTake_any U b n r1 (by omega)) (fun hm=>Yv (Xq (Vb hS hm))) ?_;rintro v cs' ⟨R',l,r2,hp2,rfl,hr2,rfl, -⟩;replace hS:=X0 hS hp2;have hl2:=(pTake_some hp2).1;have hll:(⟨l.toArray⟩:ByteArray).size≤255:=by rw [ba_size,hl2,List.length_take];omega
 refine Yq fn131 J J (fun w _=>clone_any _ w (by omega)) ?_;refine Za J (Zf J) (Ze (Zc (Zr (Sh J J 0 J ?_))));exact ⟨_,r2,Vs hS,J,by omega,J,hll,J⟩
theorem Nr (U:World) (b:Nat):RdP 182 #[pt b] U b (pTy false) repT:=by
 intro r hrl w h0;have hS:=Ux.first (some r) (pTy false)
 refine Yz (h0.sat) (args:=[pt b]) Tryz.func182 J Tryz.ntmps182 ?_;refine Zg (Zb (Yk J (tz J) ?_));intro b1 hb1;refine Ze (Zc (Zg (Zb (Za J (Zd J) (Y9 fn115 J J 1 J h0.base (Vr h0) (Oc U b r hrl) (fun hm=>Yv (Xq (Vb hS hm))) ?_)))));rintro v cs' ⟨R',k,r1,hp,rfl,hr1,rfl,hk, -, -⟩;replace hS:=X0 hS hp;rw [if_neg (by simp)] at hS;refine Za J (Z8 (tb J) J J) (Yk J (tz J) ?_);intro b2 hb2;refine Z2 (tn J) J J 0 J J J J (Ze (Zc (Zg (Zg (Zb (Za J (Zh (ff J) J) (Za J (Zj (t1 J) J (Zi 0 J J)) (Za J (Ya J J) (Ze (Zc (Zu J ?_ ?_)))))))))))
 ·intro c1;rw [if_pos c1] at hS;refine Zb (Za J (Zd J) (Y9 fn113 J J 2 J h0.base (Vr h0) (Ut U b r1 (by omega)) (fun hm=>Yv (Xq (Vb hS hm))) ?_));rintro v cs' ⟨R',c,r2,hp2,rfl,hr2,rfl,hc, -⟩;replace hS:=X0 hS hp2;refine Za J (Zh (ff J) J) (Yy (t1 J) J J 0 J J J J (Ze (Zc (Zg (Zb (Za J (Zv (tn J) J 0 J J) (Z2 (tn J) J J 1 J J J J (Ze (Zc (Zr (S4 (We J (Wf (tn J) J (Yl 1 J) J)) 2 J ?_)))))))))));exact ⟨⟨k,c⟩,r2,Vs hS,J,by omega,J,⟨hk,Tj hc⟩,J⟩
 ·intro c1;rw [if_neg c1] at hS;refine Zo (Zc (Zg (Zb (Za J (Zv (tn J) J 0 J J) (Z2 (tn J) J J 1 J J J J (Ze (Zc (Zr (S4 (We J (Wf (tn J) J (Yl 1 J) J)) 2 J ?_)))))))));exact ⟨⟨k,mt⟩,r1,Vs hS,J,hr1,J,⟨hk,R4⟩,J⟩
def typedS (k:Nat) (c:ByteArray):ByteArray:=(⟨#[48,49,50,51,52,53]⟩:ByteArray).extract k (k+1)++c
def T9 (t:Ty):ByteArray:=typedS t.kind.toNat t.cls
def signTo (nm:ByteArray) (l:List Ty):ByteArray:=l.foldl (fun s t=>s++⟨#[44]⟩++T9 t) nm
def signS (m:Me):ByteArray:=signTo m.name m.params++⟨#[58]⟩++T9 m.result
theorem typedS_size (k:Nat) (c:ByteArray) (hk:k≤5):(typedS k c).size=1+c.size:=by
 unfold typedS;rw [ByteArray.size_append,ByteArray.size_extract];have:(⟨#[48,49,50,51,52,53]⟩:ByteArray).size=6:=rfl;rw [this];omega
theorem typedK_any (k:Nat) (c:ByteArray) (hk:k≤5) (hc:X5 c) (w:World):Vc Tryz.prog 136 #[.agg #[iN k,.string c]] w (.string (typedS k c)):=by
 unfold X5 at hc;have h6:(⟨#[48,49,50,51,52,53]⟩:ByteArray).size=6:=rfl;refine Xf (args:=[.agg #[iN k,.string c]]) Tryz.func136 J Tryz.ntmps136 ?_;refine Zg (Zb (Y2 J J ?_));intro b0 hb0;refine Za J (Zf J) (Ze (Zc (Zg (Ws X2 (by kernel_rfl) ?_))));refine Zq J (Zh (ff J) J) (Zq J (Zj (t1 J) J (Zi 0 J J)) (Zq J (Zh (ff J) J) (Zq J (Zj (t1 J) J (Zi 0 J J)) ?_)));refine Zq J (Yn J J ?_) ?_;omega;refine Zq J (Ex_sliceS (Sk J) J J J ?_ ?_) ?_
 ·omega
 ·omega
 refine Zq J (Zh (ff J) J) (Zq J (Zj (t1 J) J (Zi 0 J J)) (Zq J (Ex_addS J J ?_) ?_))
 ·rw [ByteArray.size_extract,h6];omega
 refine Zq J (Zf J) (Wi (Zc (Zr (Z3 J J ?_))));rfl
theorem typed_any (t:Ty) (h0:0≤t.kind) (h5:t.kind≤5) (ht:Rz t) (w:World):Vc Tryz.prog 136 #[.agg (tyV t).toArray] w (.string (T9 t)):=by
 have e:tyV t=[.int .i64 ((t.kind.toNat:Nat):Int),.string t.cls]:=by unfold tyV;rw [Int.toNat_of_nonneg h0]
 rw [e];exact typedK_any t.kind.toNat t.cls (by omega) ht.2 w
theorem signTo_le (nm:ByteArray) (l:List Ty) (h:∀ t ∈ l,t.cls.size≤12∧0≤t.kind∧t.kind≤5) (hn:nm.size≤12):∀ k,(signTo nm (l.take k)).size≤12+l.length*14:=by
 intro k
 have key:∀ (l:List Ty) (s:ByteArray),(∀ t ∈ l,t.cls.size≤12∧0≤t.kind∧t.kind≤5)→(l.foldl (fun s t=>s++⟨#[44]⟩++T9 t) s).size≤s.size+l.length*14:=by
  intro l;induction l with
  | nil=>intro s _;simp
  | cons t r ih =>
   intro s h;have h1:=h t List.mem_cons_self;have h2:=ih (s++⟨#[44]⟩++T9 t) (fun u hu=>h u (List.mem_cons_of_mem _ hu));have h3:(T9 t).size=1+t.cls.size:=typedS_size _ _ (by omega);have h4:(⟨#[44]⟩:ByteArray).size=1:=rfl;simp only [ByteArray.size_append,h3,h4] at h2;simp only [List.foldl_cons,List.length_cons,Nat.add_mul,Nat.one_mul];omega
 have h1:=key (l.take k) nm (fun t ht=>h t (List.mem_of_mem_take ht));have h2:(l.take k).length*14≤l.length*14:=Nat.mul_le_mul_right _ (by rw [List.length_take];omega);unfold signTo;omega
theorem sign_any (m:Me) (pv:Value) (w:World) (hv:Yu w pv m.params) (hp:∀ t ∈ m.params,t.cls.size≤12∧0≤t.kind∧t.kind≤5) (hr:m.result.cls.size≤12∧0≤m.result.kind∧m.result.kind≤5) (hn:m.name.size≤12) (hro:Rz m.result) :
  Vc Tryz.prog 96 #[.string m.name,pv,.agg (tyV m.result).toArray] w (.string (signS m)):=by
 obtain ⟨p,c,rfl,hl,hrr⟩:=hv.parts;replace hrr:Hid _:=hrr;have hle:=signTo_le m.name m.params hp hn;replace hle:Hid _:=hle;have h1:(⟨#[44]⟩:ByteArray).size=1:=rfl;have h2:(⟨#[58]⟩:ByteArray).size=1:=rfl;have hTr:(T9 m.result).size=1+m.result.cls.size:=typedS_size _ _ (by omega);refine Xf (args:=[.string m.name,.slice p m.params.length c,.agg (tyV m.result).toArray]) Tryz.func96 J Tryz.ntmps96 ?_;refine Zg (Zb (Y2 J J ?_));intro b0 hb0;refine Za J (Zf J) (Ze (Zc (Zg (Zb (Za J (Zd J) (Za J (Zf J) (Ze (Zc (Zg (Zg (Zb (Za J (Zf J) (Ze (Zc (Zn ?_)))))))))))))));refine Yf (Yg (X:=Nat) (fun k=>[(1,.slice p m.params.length c),(5,pt b0),(7,.string (signTo m.name (m.params.take k))),(8,iN k)]) _ _ (fun k=>[(b0,tyV m.result)]) (fun k=>Asr.none) (fun k=>k≤m.params.length) (fun k=>m.params.length - k) (0) (Nat.zero_le _) ?_) ⟨J,J,J,J,trivial⟩;intro k hI;refine Zg (Zg (Zb (Za J (Zd J) (Za J (Zd J) (Za J (Zx (ts J) J) (Za J (Yi J J) (Ze (Zc (Zu J ?_ ?_)))))))))
 ·intro c1;have hk:k<m.params.length:=by omega
  obtain ⟨b,o,hp',hb,hc⟩:=hrr.out k m.params[k] (List.getElem?_eq_getElem hk);subst hp';have hT:(T9 m.params[k]).size=1+m.params[k].cls.size:=typedS_size _ _ (by have:=hp _ (List.getElem_mem hk);omega);have hT2:=(hp _ (List.getElem_mem hk)).1;refine Zo (Zc (Zg (Zn (Zb (Za J (Zd J) (Za J (Ex_addS J J ?_) ?_))))))
  ·have h3:=hle.out k;simp only [ByteArray.size_append,h1,h2];omega
  refine Za J (Zd J) (Za J (Zd J) (Za J (Yo (ts J) J J ?_) ?_))
  ·omega
  refine Za J (Yj (tn J) J (Xl hc hb) J) (Yq fn136 J J (fun w _=>typed_any _ (hp _ (List.getElem_mem hk)).2.1 (hp _ (List.getElem_mem hk)).2.2 (hv.ok _ (List.getElem_mem hk)) w) ?_);refine Za J (Ex_addS J J ?_) ?_
  ·have h3:=hle.out k;simp only [ByteArray.size_append,h1,h2];omega
  refine Za J (Zf J) (Ze (Zt (Zc (Zb (Za J (Zd J) ?_)))));refine Za J (Yn J J ?_) ?_;omega;refine Za J (Zf J) (Ze ?_);refine Se (s:=7) (v':=.string (signTo m.name (m.params.take (k+1)))) J (by rw [List.take_succ_eq_append_getElem hk];unfold signTo;rw [List.foldl_append];rfl) ?_;refine Z1 (k+1) ?_ (hk) 0 J (J) ⟨J,J,J,J,trivial⟩;omega
 ·intro c1;refine Yd (Yc (Z5 (Yb (Zc (Zg (Zb (Za J (Zd J) (Za J (Ex_addS J J ?_) ?_))))))))
  ·have h3:=hle.out k;simp only [ByteArray.size_append,h1,h2];omega
  refine Za J (Zv (tn J) J 0 J J) (Yq fn136 J J (fun w _=>typed_any m.result hr.2.1 hr.2.2 hro w) ?_);refine Za J (Ex_addS J J ?_) ?_
  ·have h3:=hle.out k;simp only [ByteArray.size_append,h1,h2];omega
  refine Za J (Zf J) (Ze (Zc (Zr (Z3 J J ?_))));rw [List.take_of_length_le (by omega)];rfl
end
section
open Go.RowKit At E
def bl (s:ByteArray):List UInt8:=s.data.toList
theorem Mk (a b:ByteArray):bl (a++b)=bl a++bl b:=by unfold bl;rw [ByteArray.data_append,Array.toList_append]
theorem bl_inj {a b:ByteArray} (h:bl a=bl b):a=b:=ByteArray.ext (Array.toList_inj.1 h)
def noSep (l:List UInt8):Prop:=∀ c ∈ l,c≠44∧c≠58
theorem okAt_sep {s:ByteArray} {k:Nat} (h:k<s.size) (ho:okAt s k=true):s[k]≠44∧s[k]≠58:=by
 unfold okAt letB digB at ho;rw [Qv h] at ho;constructor
 all_goals
  intro e;rw [e] at ho;simp at ho
theorem name_noSep {s:ByteArray} (h:X4 s=true):noSep (bl s):=by
 intro c hc;obtain ⟨k,hk⟩:=List.mem_iff_getElem?.1 hc;unfold X4 at h;simp only [Bool.and_eq_true] at h
 have hlt:k<s.size:=by
  rcases Nat.lt_or_ge k s.size with h' | h'
  ·exact h'
  ·have:(bl s).length=s.size:=Array.length_toList;rw [List.getElem?_eq_none (by omega)] at hk;cases hk
 have ho:=List.all_eq_true.1 h.2 k (List.mem_range.2 hlt)
 have e:s[k]=c:=by
  have h1:(bl s)[k]?=some s[k]:=by unfold bl;rw [Array.getElem?_toList];exact Array.getElem?_eq_getElem hlt
  rw [h1] at hk;exact Option.some.inj hk
 rw [← e];exact okAt_sep hlt ho
theorem mt_noSep:noSep (bl ⟨#[]⟩):=by intro c hc;cases hc
theorem type_noSep {t:Ty} {v o:Bool} (h:X7 t v o=true):noSep (bl t.cls)∧0≤t.kind∧t.kind≤5:=by
 unfold X7 at h;split at h
 ·simp only [Bool.and_eq_true,decide_eq_true_eq] at h;rw [h.2];exact ⟨mt_noSep,by omega,by omega⟩
 split at h
 ·simp only [decide_eq_true_eq] at h;rw [h];exact ⟨mt_noSep,by omega,by omega⟩
 split at h
 ·exact ⟨name_noSep h,by omega,by omega⟩
 split at h
 ·simp only [Bool.and_eq_true,decide_eq_true_eq] at h;rw [h.2];exact ⟨mt_noSep,by omega,by omega⟩
 ·cases h
theorem digit (k:Nat) (hk:k≤5):bl ((⟨#[48,49,50,51,52,53]⟩:ByteArray).extract k (k+1))=[UInt8.ofNat (48+k)]:=by
 match k,hk with
 | 0,_=>decide
 | 1,_=>decide
 | 2,_=>decide
 | 3,_=>decide
 | 4,_=>decide
 | 5,_=>decide
structure TyGood (t:Ty):Prop where
 sep:noSep (bl t.cls)
 lo:0≤t.kind
 hi:t.kind≤5
theorem typedT_bl {t:Ty} (h:TyGood t):bl (T9 t)=UInt8.ofNat (48+t.kind.toNat)::bl t.cls:=by
 have:=h.lo;have:=h.hi;unfold T9 typedS;rw [Mk,digit _ (by omega)];rfl
theorem typedT_sep {t:Ty} (h:TyGood t):noSep (bl (T9 t)):=by
 rw [typedT_bl h];intro c hc;cases hc with
 | head =>
  have h1:=h.lo;have h2:=h.hi;have:t.kind.toNat≤5:=by omega
  revert this;generalize t.kind.toNat=k;intro hk
  match k,hk with
  | 0,_=>decide
  | 1,_=>decide
  | 2,_=>decide
  | 3,_=>decide
  | 4,_=>decide
  | 5,_=>decide
 | tail _ hm=>exact h.sep c hm
theorem typedT_inj {t u:Ty} (ht:TyGood t) (hu:TyGood u) (h:bl (T9 t)=bl (T9 u)):t.kind=u.kind∧t.cls=u.cls:=by
 rw [typedT_bl ht,typedT_bl hu] at h;injection h with h1 h2
 refine ⟨?_,bl_inj h2⟩;have a1:=ht.lo;have a2:=ht.hi;have b1:=hu.lo;have b2:=hu.hi;have e:(UInt8.ofNat (48+t.kind.toNat)).toNat=(UInt8.ofNat (48+u.kind.toNat)).toNat:=by rw [h1]
 rw [UInt8.toNat_ofNat',UInt8.toNat_ofNat'] at e;omega
theorem sep_cut:∀ {a b r s:List UInt8} {x y:UInt8},noSep a→noSep b→(x=44∨x=58)→(y=44∨y=58)→a++x::r=b++y::s→a=b∧x=y∧r=s
 | [],[],_,_,_,_,_,_,_,_,h=>by
  simp only [List.nil_append] at h;injection h with h1 h2
  exact ⟨J,h1,h2⟩
 | [],c::b,_,_,_,_,_,hb,hx,_,h=>by
  simp only [List.nil_append,List.cons_append] at h;injection h with h1 _
  have:=hb c List.mem_cons_self;rw [← h1] at this;rcases hx with hx | hx
  ·exact absurd hx this.1
  ·exact absurd hx this.2
 | c::a,[],_,_,_,_,ha,_,_,hy,h=>by
  simp only [List.nil_append,List.cons_append] at h;injection h with h1 _
  have:=ha c List.mem_cons_self;rw [h1] at this;rcases hy with hy | hy
  ·exact absurd hy this.1
  ·exact absurd hy this.2
 | c::a,d::b,_,_,_,_,ha,hb,hx,hy,h=>by
  simp only [List.cons_append] at h;injection h with h1 h2
  have ⟨e1,e2,e3⟩:=sep_cut (fun z hz=>ha z (List.mem_cons_of_mem _ hz)) (fun z hz=>hb z (List.mem_cons_of_mem _ hz)) hx hy h2;exact ⟨by rw [h1,e1],e2,e3⟩
def Pd:List Ty→Ty→List UInt8
 | [],r=>58::bl (T9 r)
 | t::l,r=>44::(bl (T9 t)++Pd l r)
theorem signTo_bl:∀ (l:List Ty) (s:ByteArray) (r:Ty),bl (l.foldl (fun s t=>s++⟨#[44]⟩++T9 t) s++⟨#[58]⟩++T9 r)=bl s++Pd l r
 | [],s,r=>by
  show bl (s++⟨#[58]⟩++T9 r)=_;rw [Mk,Mk,List.append_assoc];rfl
 | t::l,s,r=>by
  rw [List.foldl_cons,signTo_bl l _ r,Mk,Mk,List.append_assoc,List.append_assoc];rfl
theorem tail_inj:∀ {l l':List Ty} {r r':Ty},(∀ t ∈ l,TyGood t)→(∀ t ∈ l',TyGood t)→TyGood r→TyGood r'→Pd l r=Pd l' r' →
  l.map (fun t=>(t.kind,t.cls))=l'.map (fun t=>(t.kind,t.cls))∧r.kind=r'.kind∧r.cls=r'.cls
 | [],[],_,_,_,_,hr,hr',h=>by
  simp only [Pd] at h;injection h with _ h2
  exact ⟨J,typedT_inj hr hr' h2⟩
 | [],_::_,_,_,_,_,_,_,h=>by
  simp only [Pd] at h;injection h with h1 _
  cases h1
 | _::_,[],_,_,_,_,_,_,h=>by
  simp only [Pd] at h;injection h with h1 _
  cases h1
 | t::l,u::l',r,r',hl,hl',hr,hr',h=>by
  simp only [Pd] at h;injection h with _ h2
  have key:∀ (l:List Ty) (r:Ty),∃ x s,(x=44∨x=58)∧Pd l r=x::s:=by
   intro l r;cases l with
   | nil=>exact ⟨58,_,.inr rfl,rfl⟩
   | cons a b=>exact ⟨44,_,.inl rfl,rfl⟩
  obtain ⟨x,s,hx,ex⟩:=key l r;obtain ⟨y,s',hy,ey⟩:=key l' r';rw [ex,ey] at h2;have ht:=hl t List.mem_cons_self;have hu:=hl' u List.mem_cons_self;have ⟨e1,e2,e3⟩:=sep_cut (typedT_sep ht) (typedT_sep hu) hx hy h2;have hrest:Pd l r=Pd l' r':=by rw [ex,ey,e2,e3]
  have ⟨f1,f2⟩:=tail_inj (fun z hz=>hl z (List.mem_cons_of_mem _ hz)) (fun z hz=>hl' z (List.mem_cons_of_mem _ hz)) hr hr' hrest;have ⟨g1,g2⟩:=typedT_inj ht hu e1;exact ⟨by simp [f1,g1,g2],f2⟩
structure SigGood (m:Me):Prop where
 nm:noSep (bl m.name)
 ps:∀ t ∈ m.params,TyGood t
 rs:TyGood m.result
theorem sign_eq {a b:Me} (ha:SigGood a) (hb:SigGood b):eqS (signS a) (signS b)=Ph a b:=by
 unfold eqS;have h1:bl (signS a)=bl a.name++Pd a.params a.result:=signTo_bl _ _ _;have h2:bl (signS b)=bl b.name++Pd b.params b.result:=signTo_bl _ _ _
 have key:∀ (l:List Ty) (r:Ty),∃ x s,(x=44∨x=58)∧Pd l r=x::s:=by
  intro l r;cases l with
  | nil=>exact ⟨58,_,.inr rfl,rfl⟩
  | cons a b=>exact ⟨44,_,.inl rfl,rfl⟩
 rw [Bool.eq_iff_iff];simp only [Ph,Bool.and_eq_true,decide_eq_true_eq];constructor
 ·intro h;have h3:bl (signS a)=bl (signS b):=by rw [h]
  rw [h1,h2] at h3;obtain ⟨x,s,hx,ex⟩:=key a.params a.result;obtain ⟨y,s',hy,ey⟩:=key b.params b.result;rw [ex,ey] at h3;have ⟨e1,e2,e3⟩:=sep_cut ha.nm hb.nm hx hy h3;have hrest:Pd a.params a.result=Pd b.params b.result:=by rw [ex,ey,e2,e3]
  have ⟨f1,f2,f3⟩:=tail_inj ha.ps hb.ps ha.rs hb.rs hrest;exact ⟨⟨⟨bl_inj e1,f1⟩,f2⟩,f3⟩
 ·rintro ⟨⟨⟨e1,e2⟩,e3⟩,e4⟩;apply bl_inj;rw [h1,h2,e1];congr 1
  have hr:a.result=b.result:=by
   cases ha':a.result;cases hb':b.result;rw [ha',hb'] at e3 e4;simp only at e3 e4;rw [e3,e4]
  rw [hr]
  have hp:a.params=b.params:=by
   refine List.map_inj_right ?_ |>.1 e2;intro x y hxy;cases x;cases y;simp only [Prod.mk.injEq] at hxy;rw [hxy.1,hxy.2]
  rw [hp]
theorem isMethodB_sig {m:Me} (h:Yt m=true):SigGood m:=by
 unfold Yt V7 at h;simp only [Bool.and_eq_true,decide_eq_true_eq] at h;obtain ⟨⟨⟨⟨⟨⟨⟨⟨⟨⟨⟨⟨⟨⟨h1,h2⟩,h3⟩,h4⟩,h5⟩,h6⟩,h7⟩,h8⟩,h9⟩,h10⟩,h11⟩,h12⟩,h13⟩,h14⟩,h15⟩:=h;refine ⟨name_noSep h1,fun t ht=>?_,?_⟩
 ·have:=type_noSep (List.all_eq_true.1 h2 t ht);exact ⟨this.1,this.2.1,this.2.2⟩
 ·have:=type_noSep h3;exact ⟨this.1,this.2.1,this.2.2⟩
end
end Go.Proofs.YtpofmnfkdkmieaaGreat
