/- What is proved here: the document's own answers method and By -/
import Derived.Test.YtpofmnfkdkmieaaGreatQ07
import Derived.Test.YtpofmnfkdkmieaaGreatQ08
import Derived.Test.YtpofmnfkdkmieaaGreatQ06
set_option linter.unusedVariables false
set_option linter.unusedSimpArgs false
namespace Go.Proofs.YtpofmnfkdkmieaaGreat
section
open Go.RowKit At E
theorem Ui {s:ByteArray} (h:X4 s=true):s.size≤12:=by
 unfold X4 at h;simp only [Bool.and_eq_true,decide_eq_true_eq] at h;exact h.1.2
theorem mt_size:(⟨#[]⟩:ByteArray).size=0:=rfl
theorem R8 {t:Ty} {v o:Bool} (h:X7 t v o=true):t.cls.size≤12:=by
 unfold X7 at h;split at h
 ·simp only [Bool.and_eq_true,decide_eq_true_eq] at h;rw [h.2,mt_size];omega
 split at h
 ·simp only [decide_eq_true_eq] at h;rw [h,mt_size];omega
 split at h
 ·exact Ui h
 split at h
 ·simp only [Bool.and_eq_true,decide_eq_true_eq] at h;rw [h.2,mt_size];omega
 ·cases h
theorem Qb {l:List Ty} {o:Bool} (h:Wo l o=true):∀ t ∈ l,t.cls.size≤12:=by
 intro t ht;unfold Wo at h;exact R8 (List.all_eq_true.1 h t ht)
theorem isInstrB_small {i:Ins} {a:Int} {n:Nat} (h:Y5 i a n=true):i.ref.params.length≤6∧(∀ t ∈ i.ref.params,t.cls.size≤12)∧(Uj i).size≤200:=by
 unfold Y5 at h;split at h
 ·cases h
 split at h
 ·split at h
  ·cases h
  ·rename_i h1 h2 h3
   have hp:i.ref.params.length=0:=by
    rcases Nat.eq_zero_or_pos i.ref.params.length with h0 | h0
    ·exact h0
    ·exact absurd (.inr (.inr (.inl (by omega)))) h3
   refine ⟨by omega,?_,?_⟩
   ·intro t ht;rw [List.length_eq_zero_iff.1 hp] at ht;cases ht
   ·have e4:¬ Xk i.op=4:=by omega
    have e5:¬ Xk i.op=5:=by omega
    have e6:¬ Xk i.op=6:=by omega
    unfold Uj;rw [if_neg e4,if_neg e5,if_neg e6];split
    ·simp only [ByteArray.size_append,X6];omega
    split
    ·simp only [ByteArray.size_append,X6];omega
    split
    ·simp only [ByteArray.size_append,X6];omega
    ·simp only [X6];omega
 ·rename_i h1 h2
  split at h
  ·cases h
  ·rename_i h3
   have hn:i.ref.cls.size≤12:=by
    cases hb:X4 i.ref.cls with
    | true=>exact Ui hb
    | false=>exact absurd (.inr hb) h3
   have e1:¬ Xk i.op=1:=by omega
   have e2:¬ Xk i.op=2:=by omega
   have e3:¬ Xk i.op=3:=by omega
   unfold Uj;rw [if_neg e1,if_neg e2,if_neg e3];split at h
   ·rename_i e4
    simp only [Bool.and_eq_true,decide_eq_true_eq] at h;have hp:i.ref.params.length=0:=by omega
    rw [if_pos e4];refine ⟨by omega,?_,by simp only [ByteArray.size_append,X6,Tx];omega⟩;intro t ht;rw [List.length_eq_zero_iff.1 hp] at ht;cases ht
   ·rename_i e4
    rw [if_neg e4];split at h
    ·rename_i e5
     simp only [Bool.and_eq_true,decide_eq_true_eq] at h;have hp:i.ref.params.length=0:=by omega
     rw [if_pos e5];have ho:=Q2 i.ref.ty;have ht':=R8 h.2;have hm:=Ui h.1.1;refine ⟨by omega,?_,by simp only [ByteArray.size_append,X6,Tx];omega⟩;intro t ht;rw [List.length_eq_zero_iff.1 hp] at ht;cases ht
    ·rename_i e5
     rw [if_neg e5];simp only [Bool.and_eq_true,decide_eq_true_eq] at h;have ho:=Q2 i.ref.ty;have ht':=R8 h.2;have hm:=Ui h.1.1.1;have h12:=Qb h.1.2;have hT:=typesS_le i.ref.params h12;refine ⟨by omega,h12,?_⟩;split
     ·simp only [ByteArray.size_append,X6,Tx];omega
     ·simp only [X6];omega
def hdS (s:ByteArray) (h:Hd):ByteArray:=s++W1 h.lo 2++W1 h.hi 2++W1 h.pos 2++Tt h.cls
def frS (s:ByteArray) (f:Fr):ByteArray:=s++W1 f.pos 2++P4 f.locals++P4 f.stack
def headS (m:Me):ByteArray:=Tt m.name++flagS m.stat++P4 m.params++Vv m.result++W1 m.locals 1++W1 m.stack 1++W1 (m.code.length:Nat) 2
def codeS (m:Me):ByteArray:=m.code.foldl (fun s i=>s++Uj i) (headS m)
def hdsS (m:Me):ByteArray:=m.handlers.foldl hdS (codeS m++W1 (m.handlers.length:Nat) 1)
def O3 (m:Me):ByteArray:=m.frames.foldl frS (hdsS m++W1 (m.frames.length:Nat) 1)
theorem Ma {α:Type} (g:ByteArray→α→ByteArray) (c:Nat):∀ (l:List α) (s:ByteArray),(∀ s,∀ x ∈ l,(g s x).size≤s.size+c)→(l.foldl g s).size≤s.size+l.length*c
 | [],s,_=>by simp
 | x::r,s,h=>by
  have ih:=Ma g c r (g s x) (fun s y hy=>h s y (List.mem_cons_of_mem _ hy));have hx:=h s x List.mem_cons_self;simp only [List.foldl_cons,List.length_cons,Nat.add_mul,Nat.one_mul];omega
structure MeSmall (m:Me):Prop where
 nm:m.name.size≤12
 ps:m.params.length≤6
 pt:∀ t ∈ m.params,t.cls.size≤12
 rt:m.result.cls.size≤12
 cl:m.code.length≤200
 hl:m.handlers.length≤10
 fl:m.frames.length≤60
 ci:∀ i ∈ m.code,i.ref.params.length≤6∧(∀ t ∈ i.ref.params,t.cls.size≤12)∧(Uj i).size≤200
 hi:∀ h ∈ m.handlers,h.cls.size≤12
 fi:∀ f ∈ m.frames,f.locals.length≤20∧f.stack.length≤20∧(∀ t ∈ f.locals,t.cls.size≤12)∧(∀ t ∈ f.stack,t.cls.size≤12)
theorem Ri {m:Me} (h:Yt m=true):MeSmall m:=by
 unfold Yt V7 at h;simp only [Bool.and_eq_true,decide_eq_true_eq] at h;obtain ⟨⟨⟨⟨⟨⟨⟨⟨⟨⟨⟨⟨⟨⟨h1,h2⟩,h3⟩,h4⟩,h5⟩,h6⟩,h7⟩,h8⟩,h9⟩,h10⟩,h11⟩,h12⟩,h13⟩,h14⟩,h15⟩:=h;refine ⟨Ui h1,by omega,Qb h2,R8 h3,by omega,by omega,by omega,fun i hi=>isInstrB_small (List.all_eq_true.1 h13 i hi),fun x hx=>?_,fun f hf=>?_⟩
 ·have:=List.all_eq_true.1 h14 x hx;unfold Tb at this;simp only [Bool.and_eq_true,Bool.or_eq_true,decide_eq_true_eq] at this;rcases this.2 with h' | h'
  ·exact Ui h'
  ·rw [h',mt_size];omega
 ·obtain ⟨k,hk⟩:=List.mem_iff_getElem?.1 hf
  have hkl:k<m.frames.length:=by
   rcases Nat.lt_or_ge k m.frames.length with h' | h'
   ·exact h'
   ·rw [List.getElem?_eq_none h'] at hk;cases hk
  have:=List.all_eq_true.1 h15 k (List.mem_range.2 hkl);unfold M5 at this;rw [hk] at this;simp only [Td,Bool.and_eq_true,decide_eq_true_eq] at this;obtain ⟨⟨⟨⟨⟨⟨_,_⟩,_⟩,hl⟩,hs⟩,ht1⟩,ht2⟩:=this;exact ⟨by omega,by omega,Qb ht1,Qb ht2⟩
theorem headS_le {m:Me} (h:MeSmall m):(headS m).size≤200:=by
 have h1:=typesS_le m.params h.pt;have h2:=Q2 m.result;have:=h.nm;have:=h.ps;have:=h.rt;unfold headS;simp only [ByteArray.size_append,X6,Tx,flagS_size];omega
theorem codeS_le {m:Me} (h:MeSmall m) (k:Nat):((m.code.take k).foldl (fun s i=>s++Uj i) (headS m)).size≤40200:=by
 have:=Ma (fun s i=>s++Uj i) 200 (m.code.take k) (headS m) (fun s i hi=>by have:=(h.ci i (List.mem_of_mem_take hi)).2.2;simp only [ByteArray.size_append];omega);have h1:=headS_le h;have h2:=h.cl;have h3:(m.code.take k).length≤200:=by rw [List.length_take];omega
 have h4:(m.code.take k).length*200≤200*200:=Nat.mul_le_mul_right _ h3;omega
theorem hdsS_le {m:Me} (h:MeSmall m) (k:Nat):((m.handlers.take k).foldl hdS (codeS m++W1 (m.handlers.length:Nat) 1)).size≤41000:=by
 have:=Ma hdS 30 (m.handlers.take k) (codeS m++W1 (m.handlers.length:Nat) 1) (fun s i hi=>by have:=h.hi i (List.mem_of_mem_take hi);simp only [hdS,ByteArray.size_append,X6,Tx];omega);have h1:=codeS_le h m.code.length;rw [List.take_length] at h1;have h2:=h.hl;have h3:(m.handlers.take k).length≤10:=by rw [List.length_take];omega
 have h4:(m.handlers.take k).length*30≤10*30:=Nat.mul_le_mul_right _ h3;rw [ByteArray.size_append,X6] at this;have h5:(codeS m).size≤40200:=h1;omega
theorem methodTo_le {m:Me} (h:MeSmall m) (k:Nat):((m.frames.take k).foldl frS (hdsS m++W1 (m.frames.length:Nat) 1)).size≤90000:=by
 have:=Ma frS 700 (m.frames.take k) (hdsS m++W1 (m.frames.length:Nat) 1) (fun s i hi=>by
  obtain ⟨a,b,c,d⟩:=h.fi i (List.mem_of_mem_take hi);have e1:=typesS_le i.locals c;have e2:=typesS_le i.stack d;simp only [frS,ByteArray.size_append,X6];omega)
 have h1:=hdsS_le h m.handlers.length;rw [List.take_length] at h1;have h2:=h.fl;have h3:(m.frames.take k).length≤60:=by rw [List.length_take];omega
 have h4:(m.frames.take k).length*700≤60*700:=Nat.mul_le_mul_right _ h3;rw [ByteArray.size_append,X6] at this;have h5:(hdsS m).size≤41000:=h1;omega
theorem Yr (b:Bool) (w:World):Qj Tryz.prog 111 #[.bool b] w b:=by
 refine Xf (args:=[.bool b]) Tryz.func111 J Tryz.ntmps111 ?_;refine Zg (Zb (Za J (Zd J) (Za J (Xv J) (Ze (Zc (W4 J ?_ ?_))))))
 ·intro c1;refine Zb (Za J (Ex_iface (Sj J) J) (WL_panic J (Ym ?_)));simp_all
 ·intro c1;refine Zo (Uf J ?_);simp_all
theorem isLetter_any (c:Int) (w:World):Vc Tryz.prog 243 #[.int .u8 c] w (.bool (letB c)):=by
 refine Xf (args:=[.int .u8 c]) Tryz.func243 J Tryz.ntmps243 ?_;refine Zg (Zb (Za J (Zf J) (Ze (Zc (Zg (Zb (Za J (Zd J) (Za J (Xj J J) (Za J (Zd J) (Z9 J J J ?_ ?_))))))))))
 ·intro h1;refine Zk J J J (Zd J) (Zk J J J (Xj J J) (Za J (Zp J J) (Za J (Zd J) (Z9 J J J ?_ ?_))))
  ·intro h2;refine Zm J J J (Zm J J J (Zm J J J (W7 J J J (W7 J J J (Zm J J J (Za J (Zp J J) (Za J (Zf J) (Ze (Zc (Zr (Z3 J J ?_)))))))))));congr 1;rw [Bool.eq_iff_iff];simp [letB];omega
  ·intro h2;refine Zk J J J (Zd J) (Zk J J J (Xj J J) (Zk J J J (Zd J) (Z9 J J J ?_ ?_)))
   ·intro h3;refine Zk J J J (Zd J) (Zk J J J (Xj J J) (Zk J J J (Zp J J) (Za J (Zs J J) (Za J (Zf J) (Ze (Zc (Zr (Z3 J J ?_))))))));congr 1;rw [Bool.eq_iff_iff];simp [letB];omega
   ·intro h3;refine Zm J J J (Zm J J J (Zk J J J (Zs J J) (Za J (Zs J J) (Za J (Zf J) (Ze (Zc (Zr (Z3 J J ?_))))))));congr 1;rw [Bool.eq_iff_iff];simp [letB];omega
 ·intro h1;refine Zm J J J (Zm J J J (Za J (Zs J J) (Za J (Zd J) (Zk J J J (Zd J) (Zk J J J (Xj J J) (Zk J J J (Zd J) (Z9 J J J ?_ ?_)))))))
  ·intro h4;refine Zk J J J (Zd J) (Zk J J J (Xj J J) (Zk J J J (Zp J J) (Za J (Zs J J) (Za J (Zf J) (Ze (Zc (Zr (Z3 J J ?_))))))));congr 1;rw [Bool.eq_iff_iff];simp [letB];omega
  ·intro h4;refine Zm J J J (Zm J J J (Zk J J J (Zs J J) (Za J (Zs J J) (Za J (Zf J) (Ze (Zc (Zr (Z3 J J ?_))))))));congr 1;rw [Bool.eq_iff_iff];simp [letB];omega
theorem isDigit_any (c:Int) (w:World):Vc Tryz.prog 244 #[.int .u8 c] w (.bool (digB c)):=by
 refine Xf (args:=[.int .u8 c]) Tryz.func244 J Tryz.ntmps244 ?_;refine Zg (Zb (Za J (Zf J) (Ze (Zc (Zg (Zb (Za J (Zd J) (Za J (Xj J J) (Za J (Zd J) (Z9 J J J ?_ ?_))))))))))
 ·intro h1;refine Zk J J J (Zd J) (Zk J J J (Xj J J) (Za J (Zp J J) (Za J (Zf J) (Ze (Zc (Zr (Z3 J J ?_)))))));congr 1;rw [Bool.eq_iff_iff];simp [digB];omega
 ·intro h1;refine Zm J J J (Zm J J J (Za J (Zs J J) (Za J (Zf J) (Ze (Zc (Zr (Z3 J J ?_)))))));congr 1;rw [Bool.eq_iff_iff];simp [digB];omega
theorem okAt_of {s:ByteArray} {k:Nat} (h:k<s.size):okAt s k=(letB (s[k].toNat:Int) || (!(k==0)&&digB (s[k].toNat:Int))):=by unfold okAt;rw [Qv h]
theorem name_no0 {s:ByteArray} (h0:0<s.size) (h:letB (s[0].toNat:Int)=false):X4 s=false:=V6 h0 (by rw [okAt_of h0,h];rfl)
theorem W6 (s:ByteArray) (w:World) (hs:X5 s):Qj Tryz.prog 139 #[.string s] w (X4 s):=by
 unfold X5 at hs;refine Xf (args:=[.string s]) Tryz.func139 J Tryz.ntmps139 ?_;refine Zg (Zb (Za J (Zd J) (Za J (S6 (Sk J) J) (Za J (Yi J J) (Za J (Zd J) (Z9 J J J ?_ ?_))))))
 ·intro h1;refine Zk J J J (Zd J) (Zk J J J (S6 (Sk J) J) (Zk J J J (Xj J J) (Za J (Zp J J) (Z7 X1 J J (fun w _=>Yr _ w) ?_ ?_))))
  rotate_left
  ·intro o2;replace o2:=dFa o2;have hF:=Nc (s:=s) (by omega);refine Zy (Ym ?_);exact hF
  intro o2;replace o2:=dTr o2;have hlen:0<s.size∧s.size≤12:=by omega
  refine Ze (Zc (Zg (Zb (Za J (Zd J) (Za J (P2 (Sk J) J J ?_) ?_)))))
  ·show 0<s.size;omega
  refine Yq fn243 J J (fun w _=>isLetter_any _ w) ?_;refine Z7 X1 J J (fun w _=>Yr _ w) ?_ ?_
  rotate_left
  ·intro o3;have hF:=name_no0 (s:=s) (by omega) (by assumption);refine Zy (Ym ?_);exact hF
  intro o3;have hlet:letB (s[0].toNat:Int)=true:=by assumption
  refine Ze (Zc (Zg (Zb (Za J (Zd J) (Za J (S6 (Sk J) J) (Za J (Zd J) (Ze (Zc (Zn ?_)))))))));refine Yf (Yg (X:=Nat) (fun k=>[(0,.string s),(17,iN s.size),(18,iN k)]) _ _ (fun k=>[]) (fun k=>Asr.none) (fun k=>k≤s.size∧∀ j,j<k→okAt s j=true) (fun k=>s.size - k) (0) (⟨Nat.zero_le _,fun j hj=>absurd hj (Nat.not_lt_zero j)⟩) ?_) ⟨J,J,J,trivial⟩;intro k hI;refine Zg (Zb (Za J (Yi J J) (Ze (Zc (Zg (Zu J ?_ ?_))))))
  ·intro c1;have hk:k<s.size:=by omega
   refine Zo (Zc (Zg (Zn (Zg (Zb (Za J (Zd J) (Za J (Zf J) (Ze (Zc (Zb (Za J (Zd J) (Za J (Zd J) (Za J (P2 (Sk J) J J ?_) ?_)))))))))))))
   ·omega
   refine Yq fn243 J J (fun w _=>isLetter_any _ w) ?_;refine Za J (Zd J) (Ub J J J ?_ ?_)
   ·intro h4;refine Zm J J J (Zm J J J (Zm J J J (Zm J J J (Za J (Zp J J) (Z7 X1 J J (fun w _=>Yr _ w) ?_ ?_)))))
    rotate_left
    ·intro o5;cases o5
    intro _;refine Ze (Zt (Zc (Zb ?_)));refine Za J (Yn J J ?_) ?_;omega;refine Za J (Zd J) (Ze ?_);refine Z1 (k+1) ?_ (⟨hk,S1 hI.2 (by rw [okAt_of hk];by_cases h0:k=0<;>simp_all [digB])⟩) 0 rfl (rfl) ⟨rfl,rfl,rfl,trivial⟩;omega
   ·intro h4;refine Zk J J J (Zd J) (Zk J J J (Zd J) (Zk J J J (P2 (Sk J) J J ?_) ?_))
    ·omega
    refine Oo fn244 J J J J (fun w _=>isDigit_any _ w) ?_;refine Za J (Zs J J) (Z7 X1 J J (fun w _=>Yr _ w) ?_ ?_)
    rotate_left
    ·intro o6;replace o6:=dFa o6;have hF:=V6 hk (by rw [okAt_of hk];simp_all [digB]);refine Zy (Zy (Zy (Zy (Ym ?_))));exact hF
    intro o6;replace o6:=dTr o6;refine Ze (Zt (Zc (Zb ?_)));refine Za J (Yn J J ?_) ?_;omega;refine Za J (Zd J) (Ze ?_);refine Z1 (k+1) ?_ (⟨hk,S1 hI.2 (by rw [okAt_of hk];by_cases h0:k=0<;>simp_all [digB])⟩) 0 rfl (rfl) ⟨rfl,rfl,rfl,trivial⟩;omega
  ·intro c1;refine Yd (Yc (Z5 (Yb (Uf J ?_))));exact isNameB_true (by omega) (by omega) (fun j hj=>hI.2 j (by omega))
 ·intro h1;refine Zm J J J (Zm J J J (Zm J J J (Za J (Zs J J) (Z7 X1 J J (fun w _=>Yr _ w) ?_ ?_))))
  ·intro o7;cases o7
  intro _;have hF:=Nc (s:=s) (by omega);refine Zy (Ym ?_);exact hF
def valB (k:Int):Bool:=decide (k=1∨k=2∨k=3)
theorem Rg (k:Int) (w:World):Vc Tryz.prog 246 #[.int .i64 k] w (.bool (valB k)):=by
 refine Xf (args:=[.int .i64 k]) Tryz.func246 J Tryz.ntmps246 ?_;refine Zg (Zb (Za J (Zf J) (Ze (Zc (Zg (Zb (Za J (Zd J) (Za J (Ya J J) (Za J (Zd J) (Z9 J J J ?_ ?_))))))))))
 ·intro h1;refine Zm J J J (Zm J J J (Za J (Zp J J) (Za J (Zd J) (Zm J J J (Zm J J J (Za J (Zp J J) (Za J (Zf J) (Ze (Zc (Zr (Z3 J J ?_)))))))))));congr 1;rw [Bool.eq_iff_iff];simp [valB];omega
 ·intro h1;refine Zk J J J (Zd J) (Zk J J J (Ya J J) (Za J (Zs J J) (Za J (Zd J) (Z9 J J J ?_ ?_))))
  ·intro h2;refine Zm J J J (Zm J J J (Za J (Zp J J) (Za J (Zf J) (Ze (Zc (Zr (Z3 J J ?_)))))));congr 1;rw [Bool.eq_iff_iff];simp [valB];omega
  ·intro h2;refine Zk J J J (Zd J) (Zk J J J (Ya J J) (Za J (Zs J J) (Za J (Zf J) (Ze (Zc (Zr (Z3 J J ?_)))))));congr 1;rw [Bool.eq_iff_iff];simp [valB];omega
def resB (k:Int):Bool:=valB k || decide (k=0)
theorem isOfResult_any (k:Int) (w:World):Vc Tryz.prog 319 #[.int .i64 k] w (.bool (resB k)):=by
 refine Xf (args:=[.int .i64 k]) Tryz.func319 J Tryz.ntmps319 ?_;refine Zg (Zb (Za J (Zf J) (Ze (Zc (Zg (Zb (Za J (Zd J) (Yq fn246 J J (fun w _=>Rg _ w) ?_))))))));refine Za J (Zd J) (Z9 J J J ?_ ?_)
 ·intro h1;refine Zm J J J (Zm J J J (Za J (Zp J J) (Za J (Zf J) (Ze (Zc (Zr (Z3 J J ?_)))))));congr 1;rw [Bool.eq_iff_iff];simp [resB,valB];omega
 ·intro h1;refine Zk J J J (Zd J) (Zk J J J (Ya J J) (Za J (Zs J J) (Za J (Zf J) (Ze (Zc (Zr (Z3 J J ?_)))))));congr 1;rw [Bool.eq_iff_iff];simp [resB,valB];omega
def fraB (k:Int):Bool:=valB k || decide (k=4) || decide (k=5)
theorem isOfFrame_any (k:Int) (w:World):Vc Tryz.prog 358 #[.int .i64 k] w (.bool (fraB k)):=by
 refine Xf (args:=[.int .i64 k]) Tryz.func358 J Tryz.ntmps358 ?_;refine Zg (Zb (Za J (Zf J) (Ze (Zc (Zg (Zb (Za J (Zd J) (Yq fn246 J J (fun w _=>Rg _ w) ?_))))))));refine Za J (Zd J) (Z9 J J J ?_ ?_)
 ·intro h1;refine Zm J J J (Zm J J J (Za J (Zp J J) (Za J (Zd J) (Zm J J J (Zm J J J (Za J (Zp J J) (Za J (Zf J) (Ze (Zc (Zr (Z3 J J ?_)))))))))));congr 1;rw [Bool.eq_iff_iff];simp [fraB,valB];omega
 ·intro h1;refine Zk J J J (Zd J) (Zk J J J (Ya J J) (Za J (Zs J J) (Za J (Zd J) (Z9 J J J ?_ ?_))))
  ·intro h2;refine Zm J J J (Zm J J J (Za J (Zp J J) (Za J (Zf J) (Ze (Zc (Zr (Z3 J J ?_)))))));congr 1;rw [Bool.eq_iff_iff];simp [fraB,valB];omega
  ·intro h2;refine Zk J J J (Zd J) (Zk J J J (Ya J J) (Za J (Zs J J) (Za J (Zf J) (Ze (Zc (Zr (Z3 J J ?_)))))));congr 1;rw [Bool.eq_iff_iff];simp [fraB,valB];omega
def mayB (B:Int→Bool) (t:Ty):Bool:=B t.kind&&(if t.kind=3 then X4 t.cls else decide (t.cls=⟨#[]⟩))
theorem mayB_val (t:Ty):mayB valB t=X7 t false false:=by
 rw [Bool.eq_iff_iff];unfold mayB X7 valB;by_cases h0:t.kind=0
 ·simp [h0]
 by_cases h1:t.kind=1
 ·simp [h1]
 by_cases h2:t.kind=2
 ·simp [h2]
 by_cases h3:t.kind=3
 ·simp [h3]
 ·simp [h0,h1,h2,h3]
theorem mayB_res (t:Ty):mayB resB t=X7 t true false:=by
 rw [Bool.eq_iff_iff];unfold mayB X7 resB valB;by_cases h0:t.kind=0
 ·simp [h0]
 by_cases h1:t.kind=1
 ·simp [h1]
 by_cases h2:t.kind=2
 ·simp [h2]
 by_cases h3:t.kind=3
 ·simp [h3]
 ·simp [h0,h1,h2,h3]
theorem mayB_fra (t:Ty):mayB fraB t=X7 t false true:=by
 rw [Bool.eq_iff_iff];unfold mayB X7 fraB valB;by_cases h0:t.kind=0
 ·simp [h0]
 by_cases h1:t.kind=1
 ·simp [h1]
 by_cases h2:t.kind=2
 ·simp [h2]
 by_cases h3:t.kind=3
 ·simp [h3]
 by_cases h4:t.kind=4
 ·simp [h4]
 by_cases h5:t.kind=5
 ·simp [h5]
 ·simp [h0,h1,h2,h3,h4,h5]
theorem So (g:Nat) (B:Int→Bool) (hg:IsFn Tryz.prog g) (hB:∀ k w,Vc Tryz.prog g #[.int .i64 k] w (.bool (B k))) (t:Ty) (w:World) (ht:Rz t) :
  Qj Tryz.prog 245 #[.agg (tyV t).toArray,.func (.func g) #[] #[]] w (mayB B t):=by
 refine Xf (args:=[.agg (tyV t).toArray,.func (.func g) #[] #[]]) Tryz.func245 J Tryz.ntmps245 ?_;refine Zg (Zb (Y2 J J ?_));intro b0 hb0;refine Ze (Zc (Zg (Zb (Za J (Zd J) (Za J (Zh (ff J) J) (Za J (Zj (t1 J) J (Zi 0 J J)) (WL_callV hg J J J (fun w _=>hB _ w) ?_)))))));refine Z7 X1 J J (fun w _=>Yr _ w) ?_ ?_
 rotate_left
 ·intro o1;refine Zy (Ym ?_);simp_all [mayB,eqS]
 intro o1;refine Ze (Zc (Zg (Zg (Zb (Za J (Zh (ff J) J) (Za J (Zj (t1 J) J (Zi 0 J J)) (Za J (Ya J J) (Ze (Zc (Zu J ?_ ?_))))))))))
 ·intro c1;refine Zg (Zb (Za J (Zh (ff J) J) (Za J (Zj (t1 J) J (Zi 0 J J)) (Z7 fn139 J J (fun w _=>W6 _ w ht.2) ?_ ?_))))
  rotate_left
  ·intro o2;refine Zy (Zy (Ym ?_));simp_all [mayB,eqS]
  intro o2;refine Ze (Zc (Zr (Zl (PP_endr J ?_))));simp_all [mayB,eqS]
 ·intro c1;refine Zo (Zc (Zb (Za J (Zh (ff J) J) (Za J (Zj (t1 J) J (Zi 0 J J)) (Za J (Y7 J J) (Z7 X1 J J (fun w _=>Yr _ w) ?_ ?_))))))
  rotate_left
  ·intro o3;replace o3:=dFa o3;refine Ym ?_;simp_all [mayB,eqS]
  intro o3;replace o3:=dTr o3;refine Ze (Uf J ?_);simp_all [mayB,eqS]
theorem Pb (g:Nat) (B:Int→Bool) (hg:IsFn Tryz.prog g) (hB:∀ k w,Vc Tryz.prog g #[.int .i64 k] w (.bool (B k))) (v:Value) (l:List Ty) (w:World) (hv:Yu w v l) :
  Qj Tryz.prog 354 #[v,.func (.func g) #[] #[]] w (l.all (mayB B)):=by
 obtain ⟨p,c,rfl,hl,hr⟩:=hv.parts;replace hr:Hid _:=hr;refine Xf (args:=[.slice p l.length c,.func (.func g) #[] #[]]) Tryz.func354 J Tryz.ntmps354 ?_;refine Zg (Zb (Za J (Zd J) (Za J (Zx (ts J) J) (Za J (Zd J) (Ze (Zc (Zn ?_)))))));refine Yf (Yg (X:=Nat) (fun k=>[(1,.func (.func g) #[] #[]),(6,.slice p l.length c),(7,iN l.length),(8,iN k)]) _ _ (fun k=>[]) (fun k=>Asr.none) (fun k=>k≤l.length∧(l.take k).all (mayB B)=true) (fun k=>l.length - k) (0) (⟨Nat.zero_le _,J⟩) ?_) ⟨J,J,J,J,trivial⟩;intro k hI;refine Zg (Zb (Za J (Yi J J) (Ze (Zc (Zg (Zu J ?_ ?_))))))
 ·intro c1;have hk:k<l.length:=by omega
  obtain ⟨b,o,hp,hb,hc⟩:=hr.out k l[k] (List.getElem?_eq_getElem hk);subst hp;refine Zo (Zc (Zg (Zn (Zg (Zb (Za J (Yo (ts J) J J ?_) ?_))))))
  ·omega
  refine Za J (Yj (tn J) J (Xl hc hb) J) (Yk J (tz J) ?_);intro b0 hb0;refine Z2 (tn J) J J 0 J J J J (Ze (Zc (Zb (Za J (Zv (tn J) J 0 J J) (Za J (Zd J) (Z7 fn245 J J (fun w _=>So g B hg hB _ w (hv.ok _ (List.getElem_mem hk))) ?_ ?_))))))
  rotate_left
  ·intro o1;have hF:=Sa hk (f:=mayB B) (by assumption);refine Zy (Zy (Zy (Zy (Ym ?_))));exact hF
  intro o1;have hY:mayB B l[k]=true:=by assumption
  refine Ze (Zt (Zc (Zb ?_)));refine Za J (Yn J J ?_) ?_;omega;refine Za J (Zd J) (Ze ?_);refine Z1 (k+1) ?_ (⟨hk,Ol hk hI.2 hY⟩) 1 J (J) ⟨J,J,J,J,trivial⟩;omega
 ·intro c1;refine Yd (Yc (Z5 (Yb (Uf J ?_))));exact all_end (by omega) hI.2
theorem Nw (v:Value) (l:List Ty) (w:World) (hv:Yu w v l):Qj Tryz.prog 318 #[v] w (decide ((l.length:Int)≤6)&&Wo l false):=by
 have hv0:=hv;obtain ⟨p,c,rfl,hl, -⟩:=hv.parts;refine Xf (args:=[.slice p l.length c]) Tryz.func318 J Tryz.ntmps318 ?_;refine Zg (Zb (Za J (Zd J) (Za J (Zx (ts J) J) (Za J (Xj J J) (Z7 X1 J J (fun w _=>Yr _ w) ?_ ?_)))))
 rotate_left
 ·intro o1;replace o1:=dFa o1;refine Zy (Ym ?_);simp_all;omega
 intro o1;replace o1:=dTr o1;refine Ze (Zc (Zb (Za J (Zd J) ?_)));refine Z7 fn354 J J (fun w hs=>(Pb 246 valB fn246 Rg _ l w (hv0.mono (Xx hs))).of_eq (b:=Wo l false) (by unfold Wo;congr 1;funext t;exact mayB_val t)) ?_ ?_
 rotate_left
 ·intro o2;refine Ym ?_;simp_all;done
 intro o2;refine Ze (Uf J ?_);simp_all;done
end
section
open Go.RowKit At E
def V1 (op:Int):Int :=
 if op=1 then 1 else if op=2∨op=3 then 2 else if op=10∨op=11∨op=12∨op=13 then 3 else if op=15∨op=25∨op=26 then 4
 else if op=16∨op=17∨op=18∨op=19 then 5 else if op=20∨op=21 then 6 else 0
theorem Qy (op:Int) (w:World):Vc Tryz.prog 284 #[.int .i64 op] w (.int .i64 (V1 op)):=by
 refine Xf (args:=[.int .i64 op]) Tryz.func284 J Tryz.ntmps284 ?_;refine Zg (Zb (Za J (Zf J) (Ze (Zc (Zg (Zg (Zb (Za J (Zd J) (Ze (Zc (Zn (Zg (Zb (Za J (Ya J J) (Za J (Zf J) (Ze (Zc (Zu J ?_ ?_))))))))))))))))))
 ·intro c1;refine Zg (Zb (Za J (Zf J) (Ze (Zc (Zr (Zl (Zl (Z3 J J ?_))))))));simp_all [V1]
 ·intro c1;refine Zg (Zg (Zb (Za J (Ya J J) (Za J (Zf J) (Ze (Zc (Zu J ?_ ?_)))))))
  ·intro c2;refine Zo (Zc (Yh J (Zg (Zb (Za J (Zf J) (Ze (Zc (Zr (Zl (Zl (Z3 J J ?_)))))))))));simp_all [V1]
  ·intro c2;refine Zb (Za J (Ya J J) (Za J (Zf J) (Ze (Zc (Zu J ?_ ?_)))))
   ·intro c3;refine Zg (Zb (Za J (Zf J) (Ze (Zc (Zr (Zl (Zl (Z3 J J ?_))))))));simp_all [V1]
   ·intro c3;refine Zg (Zg (Zb (Za J (Ya J J) (Za J (Zf J) (Ze (Zc (Zu J ?_ ?_)))))))
    ·intro c4;refine Zo (Zc (Yh J (Zg (Zb (Za J (Zf J) (Ze (Zc (Zr (Zl (Zl (Z3 J J ?_)))))))))));simp_all [V1]
    ·intro c4;refine Zg (Zb (Za J (Ya J J) (Za J (Zf J) (Ze (Zc (Zu J ?_ ?_))))))
     ·intro c5;refine Zo (Zc (Yh J (Zg (Zb (Za J (Zf J) (Ze (Zc (Zr (Zl (Zl (Z3 J J ?_)))))))))));simp_all [V1]
     ·intro c5;refine Zg (Zb (Za J (Ya J J) (Za J (Zf J) (Ze (Zc (Zu J ?_ ?_))))))
      ·intro c6;refine Zo (Zc (Yh J (Zg (Zb (Za J (Zf J) (Ze (Zc (Zr (Zl (Zl (Z3 J J ?_)))))))))));simp_all [V1]
      ·intro c6;refine Zb (Za J (Ya J J) (Za J (Zf J) (Ze (Zc (Zu J ?_ ?_)))))
       ·intro c7;refine Zg (Zb (Za J (Zf J) (Ze (Zc (Zr (Zl (Zl (Z3 J J ?_))))))));simp_all [V1]
       ·intro c7;refine Zg (Zg (Zb (Za J (Ya J J) (Za J (Zf J) (Ze (Zc (Zu J ?_ ?_)))))))
        ·intro c8;refine Zo (Zc (Yh J (Zg (Zb (Za J (Zf J) (Ze (Zc (Zr (Zl (Zl (Z3 J J ?_)))))))))));simp_all [V1]
        ·intro c8;refine Zg (Zb (Za J (Ya J J) (Za J (Zf J) (Ze (Zc (Zu J ?_ ?_))))))
         ·intro c9;refine Zo (Zc (Yh J (Zg (Zb (Za J (Zf J) (Ze (Zc (Zr (Zl (Zl (Z3 J J ?_)))))))))));simp_all [V1]
         ·intro c9;refine Zb (Za J (Ya J J) (Za J (Zf J) (Ze (Zc (Zu J ?_ ?_)))))
          ·intro c10;refine Zg (Zb (Za J (Zf J) (Ze (Zc (Zr (Zl (Zl (Z3 J J ?_))))))));simp_all [V1]
          ·intro c10;refine Zg (Zg (Zb (Za J (Ya J J) (Za J (Zf J) (Ze (Zc (Zu J ?_ ?_)))))))
           ·intro c11;refine Zo (Zc (Yh J (Zg (Zb (Za J (Zf J) (Ze (Zc (Zr (Zl (Zl (Z3 J J ?_)))))))))));simp_all [V1]
           ·intro c11;refine Zg (Zb (Za J (Ya J J) (Za J (Zf J) (Ze (Zc (Zu J ?_ ?_))))))
            ·intro c12;refine Zo (Zc (Yh J (Zg (Zb (Za J (Zf J) (Ze (Zc (Zr (Zl (Zl (Z3 J J ?_)))))))))));simp_all [V1]
            ·intro c12;refine Zg (Zb (Za J (Ya J J) (Za J (Zf J) (Ze (Zc (Zu J ?_ ?_))))))
             ·intro c13;refine Zo (Zc (Yh J (Zg (Zb (Za J (Zf J) (Ze (Zc (Zr (Zl (Zl (Z3 J J ?_)))))))))));simp_all [V1]
             ·intro c13;refine Zb (Za J (Ya J J) (Za J (Zf J) (Ze (Zc (Zu J ?_ ?_)))))
              ·intro c14;refine Zg (Zb (Za J (Zf J) (Ze (Zc (Zr (Zl (Zl (Z3 J J ?_))))))));simp_all [V1]
              ·intro c14;refine Zg (Zg (Zb (Za J (Ya J J) (Za J (Zf J) (Ze (Zc (Zu J ?_ ?_)))))))
               ·intro c15;refine Zo (Zc (Yh J (Zg (Zb (Za J (Zf J) (Ze (Zc (Zr (Zl (Zl (Z3 J J ?_)))))))))));simp_all [V1]
               ·intro c15;refine Zb (Za J (Ya J J) (Za J (Zf J) (Ze (Zc (Zu J ?_ ?_)))))
                ·intro c16;refine Zg (Zb (Za J (Zf J) (Ze (Zc (Zr (Zl (Zl (Z3 J J ?_))))))));simp_all [V1]
                ·intro c16;refine Zo (Zt (Zc (Zg (Zb (Za J (Zf J) (Ze (Zc (Zr (Z3 J J ?_)))))))));simp_all [V1]
theorem isPlace_any (x:Int) (m:Me) (pv hv fv:Value) (p:Option Addr) (c:Nat) (w:World):Vc Tryz.prog 357 #[.int .i64 x,.agg (meV m pv (.slice p m.code.length c) hv fv).toArray] w (.bool (decide (0≤x)&&decide (x<(m.code.length:Int)))):=by
 refine Xf (args:=[.int .i64 x,.agg (meV m pv (.slice p m.code.length c) hv fv).toArray]) Tryz.func357 J Tryz.ntmps357 ?_;refine Zg (Zb (Y2 J J ?_));intro b0 hb0;refine Za J (Zf J) (Ze (Zc (Zg (Zb (Za J (Zd J) (Za J (Xj J J) (Za J (Zd J) (Z9 J J J ?_ ?_))))))))
 ·intro h1;refine Zk J J J (Zd J) (Zk J J J (Zh (ff J) J) (Zk J J J (Zj (t1 J) J (Zi 0 J J)) (Zk J J J (Zx (ts J) J) (Zk J J J (Yi J J) (Za J (Zp J J) (Za J (Zf J) (Ze (Zc (Zr (Z3 J J ?_))))))))));simp_all;done
 ·intro h1;refine Zm J J J (Zm J J J (Zm J J J (Zm J J J (Zm J J J (Za J (Zs J J) (Za J (Zf J) (Ze (Zc (Zr (Z3 J J ?_))))))))));simp_all;omega
theorem Uo (m:Me) (p:Option Addr) (c:Nat) (cv hv fv:Value) (w:World) (hl:m.params.length≤1048576):Vc Tryz.prog 320 #[.agg (meV m (.slice p m.params.length c) cv hv fv).toArray] w (.int .i64 (Qt m)):=by
 refine Xf (args:=[.agg (meV m (.slice p m.params.length c) cv hv fv).toArray]) Tryz.func320 J Tryz.ntmps320 ?_;refine Zg (Zb (Y2 J J ?_));intro b0 hb0;refine Za J (Zf J) (Ze (Zc (Zg (Zg (Zb (Za J (Zh (ff J) J) (Za J (Zj (t1 J) J (Zi 0 J J)) (Ze (Zc (W4 J ?_ ?_))))))))))
 ·intro c1;refine Zg (Zb (Za J (Zh (ff J) J) (Za J (Zj (t1 J) J (Zi 0 J J)) (Za J (Zx (ts J) J) (Za J (Zf J) (Ze (Zc (Zr (Zl (Z3 J J ?_))))))))));simp_all [Qt]
 ·intro c1;refine Zo (Zc (Zg (Zb (Za J (Zh (ff J) J) (Za J (Zj (t1 J) J (Zi 0 J J)) (Za J (Zx (ts J) J) ?_))))));refine Za J (Yn J J ?_) ?_;omega;refine Za J (Zf J) (Ze (Zc (Zr (Z3 J J ?_))));simp_all [Qt]
def numB (i:Ins) (locals:Int) (len:Nat):Bool :=
 if V1 i.op=1 then true else if V1 i.op=2 then decide (0≤i.n)&&decide (i.n<locals) else if V1 i.op=3 then decide (0≤i.n)&&decide (i.n<(len:Int)) else decide (i.n=0)
def mtT (t:Ty):Bool:=decide (t.kind=0)&&decide (t.cls=⟨#[]⟩)
def Ob (i:Ins):Bool :=
 if V1 i.op=4 then X4 i.ref.cls&&(decide (i.ref.name=⟨#[]⟩)&&decide ((i.ref.params.length:Int)=0)&&mtT i.ref.ty)
 else if V1 i.op=5 then X4 i.ref.cls&&X4 i.ref.name&&decide ((i.ref.params.length:Int)=0)&&X7 i.ref.ty false false
 else if V1 i.op=6 then X4 i.ref.cls&&X4 i.ref.name&&(decide ((i.ref.params.length:Int)≤6)&&Wo i.ref.params false)&&X7 i.ref.ty true false
 else decide (i.ref.cls=⟨#[]⟩)&&decide (i.ref.name=⟨#[]⟩)&&decide ((i.ref.params.length:Int)=0)&&mtT i.ref.ty
theorem mustHaveNumber_any (i:Ins) (qv:Value) (m:Me) (pv hv fv:Value) (p:Option Addr) (c:Nat) (w:World) :
  Qj Tryz.prog 355 #[.agg (Wx i qv).toArray,.agg (meV m pv (.slice p m.code.length c) hv fv).toArray] w (numB i m.locals m.code.length):=by
 refine Xf (args:=[.agg (Wx i qv).toArray,.agg (meV m pv (.slice p m.code.length c) hv fv).toArray]) Tryz.func355 J Tryz.ntmps355 ?_;refine Zg (Zb (Y2 J J ?_));intro b0 hb0;refine Y2 J J ?_;intro b1 hb1;refine Ze (Zc (Zg (Zb (Za J (Zh (ff J) J) (Za J (Zj (t1 J) J (Zi 1 J J)) (Yq fn284 J J (fun w _=>Qy _ w) ?_))))));refine Ze (Zc (Zn (Zg (Zb (Za J (Ya J J) (Za J (Zf J) (Ze (Zc (Zu J ?_ ?_)))))))))
 ·intro c1;refine Zo (Zt (Uf J ?_));simp_all [numB];done
 ·intro c1;refine Zg (Zb (Za J (Ya J J) (Za J (Zf J) (Ze (Zc (Zu J ?_ ?_))))))
  ·intro c2;refine Zb (Za J (Zh (ff J) J) (Za J (Zj (t1 J) J (Zi 1 J J)) (Za J (Xj J J) (Za J (Zd J) (Z9 J J J ?_ ?_)))))
   ·intro h1;refine Zk J J J (Zh (ff J) J) (Zk J J J (Zj (t1 J) J (Zi 1 J J)) (Zk J J J (Zh (ff J) J) (Zk J J J (Zj (t1 J) J (Zi 0 J J)) (Zk J J J (Yi J J) (Za J (Zp J J) (Z7 X1 J J (fun w _=>Yr _ w) ?_ ?_))))))
    rotate_left
    ·intro o2;replace o2:=dFa o2;refine Zy (Ym ?_);simp_all [numB];done
    intro o2;replace o2:=dTr o2;refine Ze (Zt (Uf J ?_));simp_all [numB];done
   ·intro h1;refine Zm J J J (Zm J J J (Zm J J J (Zm J J J (Zm J J J (Za J (Zs J J) (Z7 X1 J J (fun w _=>Yr _ w) ?_ ?_))))))
    ·intro o3;cases o3
    intro _;refine Zy (Ym ?_);simp_all [numB];omega
  ·intro c2;refine Zg (Zb (Za J (Ya J J) (Za J (Zf J) (Ze (Zc (Zu J ?_ ?_))))))
   ·intro c3;refine Zb (Za J (Zh (ff J) J) (Za J (Zj (t1 J) J (Zi 1 J J)) (Za J (Zv (tn J) J 0 J J) (Yq fn357 J J (fun w _=>isPlace_any _ m _ _ _ _ _ w) ?_))));refine Z7 X1 J J (fun w _=>Yr _ w) ?_ ?_
    rotate_left
    ·intro o4;refine Zy (Ym ?_);simp_all [numB];done
    intro o4;refine Ze (Zt (Uf J ?_));simp_all [numB];done
   ·intro c3;refine Zb (Za J (Zh (ff J) J) (Za J (Zj (t1 J) J (Zi 1 J J)) (Za J (Ya J J) (Z7 X1 J J (fun w _=>Yr _ w) ?_ ?_))))
    rotate_left
    ·intro o5;replace o5:=dFa o5;refine Zy (Ym ?_);simp_all [numB];done
    intro o5;replace o5:=dTr o5;refine Ze (Zt (Uf J ?_));simp_all [numB];done
set_option maxHeartbeats 1000000 in
theorem mustHaveRef_any (i:Ins) (pv:Value) (w:World) (hp:Yu w pv i.ref.params) (hi:N3 i):Qj Tryz.prog 356 #[.agg (Wx i pv).toArray] w (Ob i):=by
 have hp0:=hp;obtain ⟨p,c,rfl,hl, -⟩:=hp.is;replace hp:Hid _:=hp;refine Xf (args:=[.agg (Wx i (.slice p i.ref.params.length c)).toArray]) Tryz.func356 J Tryz.ntmps356 ?_;refine Zg (Zb (Y2 J J ?_));intro b0 hb0;refine Ze (Zc (Zg (Zb (Za J (Zh (ff J) J) (Za J (Zv (tn J) J 0 J J) (Yk J (tz J) ?_))))));intro b1 hb1;refine Z2 (tn J) J J 0 J J J J (Ze (Zc (Zg (Zb (Za J (Zh (ff J) J) (Za J (Zj (t1 J) J (Zi 1 J J)) (Yq fn284 J J (fun w _=>Qy _ w) ?_)))))));refine Ze (Zc (Zn (Zg (Zb (Za J (Ya J J) (Za J (Zf J) (Ze (Zc (Zu J ?_ ?_)))))))))
 ·intro c1;refine Zg (Zb (Za J (Zh (ff J) J) (Za J (Zj (t1 J) J (Zi 0 J J)) (Z7 fn139 J J (fun w _=>W6 _ w hi.2.2.1) ?_ ?_))))
  rotate_left
  ·intro o1;refine Zy (Zy (Ym ?_));clear hp0;(simp_all [Ob,mtT,eqS];done)
  intro o1;refine Ze (Zc (Zb (Za J (Zh (ff J) J) (Za J (Zj (t1 J) J (Zi 0 J J)) (Za J (Y7 J J) (Za J (Zd J) (Z9 J J J ?_ ?_)))))))
  ·intro h2;refine Zk J J J (Zh (ff J) J) (Zk J J J (Zj (t1 J) J (Zi 0 J J)) (Zk J J J (Zx (ts J) J) (Zk J J J (Ya J J) (Za J (Zp J J) (Za J (Zd J) (Z9 J J J ?_ ?_))))))
   ·intro h3;refine Zk J J J (Zh (ff J) J) (Zk J J J (Zv (tn J) J 0 J J) (Zk J J J (Z8 (tb J) J J) (Zk J J J (Or J J) (Za J (Zp J J) (Z7 X1 J J (fun w _=>Yr _ w) ?_ ?_)))))
    rotate_left
    ·intro o4;refine Zy (Ym ?_);clear hp0;(simp_all [Ob,mtT,eqS];done)
    intro o4;refine Ze (Zt (Uf J ?_));clear hp0;(simp_all [Ob,mtT,eqS];done)
   ·intro h3;refine Zm J J J (Zm J J J (Zm J J J (Zm J J J (Za J (Zs J J) (Z7 X1 J J (fun w _=>Yr _ w) ?_ ?_)))))
    ·intro o5;cases o5
    intro _;refine Zy (Ym ?_);clear hp0;(simp_all [Ob,mtT,eqS];done)
  ·intro h2;refine Zm J J J (Zm J J J (Zm J J J (Zm J J J (Za J (Zs J J) (Za J (Zd J) (Zm J J J (Zm J J J (Zm J J J (Zm J J J (Za J (Zs J J) (Z7 X1 J J (fun w _=>Yr _ w) ?_ ?_)))))))))))
   ·intro o6;cases o6
   intro _;refine Zy (Ym ?_);clear hp0;(simp_all [Ob,mtT,eqS];done)
 ·intro c1;refine Zg (Zb (Za J (Ya J J) (Za J (Zf J) (Ze (Zc (Zu J ?_ ?_))))))
  ·intro c2;refine Zg (Zb (Za J (Zh (ff J) J) (Za J (Zj (t1 J) J (Zi 0 J J)) (Z7 fn139 J J (fun w _=>W6 _ w hi.2.2.1) ?_ ?_))))
   rotate_left
   ·intro o7;refine Zy (Zy (Ym ?_));clear hp0;(simp_all [Ob,mtT,eqS];done)
   intro o7;refine Ze (Zc (Zg (Zb (Za J (Zh (ff J) J) (Za J (Zj (t1 J) J (Zi 0 J J)) (Z7 fn139 J J (fun w _=>W6 _ w hi.2.2.2.1) ?_ ?_))))))
   rotate_left
   ·intro o8;refine Zy (Zy (Ym ?_));clear hp0;(simp_all [Ob,mtT,eqS];done)
   intro o8;refine Ze (Zc (Zg (Zb (Za J (Zh (ff J) J) (Za J (Zj (t1 J) J (Zi 0 J J)) (Za J (Zx (ts J) J) (Za J (Ya J J) (Z7 X1 J J (fun w _=>Yr _ w) ?_ ?_))))))))
   rotate_left
   ·intro o9;replace o9:=dFa o9;refine Zy (Zy (Ym ?_));clear hp0;(simp_all [Ob,mtT,eqS];done)
   intro o9;replace o9:=dTr o9;refine Ze (Zc (Zb (Za J (Zh (ff J) J) (Za J (Zv (tn J) J 0 J J) (Z7 fn245 J J (fun w _=>(So 246 valB fn246 Rg i.ref.ty w hi.2.2.2.2).of_eq (mayB_val _)) ?_ ?_)))))
   rotate_left
   ·intro o10;refine Zy (Ym ?_);clear hp0;(simp_all [Ob,mtT,eqS];done)
   intro o10;refine Ze (Zt (Uf J ?_));clear hp0;(simp_all [Ob,mtT,eqS];done)
  ·intro c2;refine Zg (Zb (Za J (Ya J J) (Za J (Zf J) (Ze (Zc (Zu J ?_ ?_))))))
   ·intro c3;refine Zg (Zb (Za J (Zh (ff J) J) (Za J (Zj (t1 J) J (Zi 0 J J)) (Z7 fn139 J J (fun w _=>W6 _ w hi.2.2.1) ?_ ?_))))
    rotate_left
    ·intro o11;refine Zy (Zy (Ym ?_));clear hp0;(simp_all [Ob,mtT,eqS];done)
    intro o11;refine Ze (Zc (Zg (Zb (Za J (Zh (ff J) J) (Za J (Zj (t1 J) J (Zi 0 J J)) (Z7 fn139 J J (fun w _=>W6 _ w hi.2.2.2.1) ?_ ?_))))))
    rotate_left
    ·intro o12;refine Zy (Zy (Ym ?_));clear hp0;(simp_all [Ob,mtT,eqS];done)
    intro o12;refine Ze (Zc (Zg (Zb (Za J (Zh (ff J) J) (Za J (Zj (t1 J) J (Zi 0 J J)) (Z7 fn318 J J (fun w hs=>Nw _ i.ref.params w (Yu.mono hp0 (Xx hs))) ?_ ?_))))))
    rotate_left
    ·intro o13;refine Zy (Zy (Ym ?_));clear hp0;(simp_all [Ob,mtT,eqS];done)
    intro o13;refine Ze (Zc (Zb (Za J (Zh (ff J) J) (Za J (Zv (tn J) J 0 J J) (Z7 fn245 J J (fun w _=>(So 319 resB fn319 isOfResult_any i.ref.ty w hi.2.2.2.2).of_eq (mayB_res _)) ?_ ?_)))))
    rotate_left
    ·intro o14;refine Zy (Ym ?_);clear hp0;(simp_all [Ob,mtT,eqS];done)
    intro o14;refine Ze (Zt (Uf J ?_));clear hp0;(simp_all [Ob,mtT,eqS];done)
   ·intro c3;refine Zb (Za J (Zh (ff J) J) (Za J (Zj (t1 J) J (Zi 0 J J)) (Za J (Y7 J J) (Za J (Zd J) (Z9 J J J ?_ ?_)))))
    ·intro h15;refine Zk J J J (Zh (ff J) J) (Zk J J J (Zj (t1 J) J (Zi 0 J J)) (Zk J J J (Y7 J J) (Za J (Zp J J) (Za J (Zd J) (Z9 J J J ?_ ?_)))))
     ·intro h16;refine Zk J J J (Zh (ff J) J) (Zk J J J (Zj (t1 J) J (Zi 0 J J)) (Zk J J J (Zx (ts J) J) (Zk J J J (Ya J J) (Za J (Zp J J) (Za J (Zd J) (Z9 J J J ?_ ?_))))))
      ·intro h17;refine Zk J J J (Zh (ff J) J) (Zk J J J (Zv (tn J) J 0 J J) (Zk J J J (Z8 (tb J) J J) (Zk J J J (Or J J) (Za J (Zp J J) (Z7 X1 J J (fun w _=>Yr _ w) ?_ ?_)))))
       rotate_left
       ·intro o18;refine Zy (Ym ?_);clear hp0;(simp_all [Ob,mtT,eqS];done)
       intro o18;refine Ze (Zt (Uf J ?_));clear hp0;(simp_all [Ob,mtT,eqS];done)
      ·intro h17;refine Zm J J J (Zm J J J (Zm J J J (Zm J J J (Za J (Zs J J) (Z7 X1 J J (fun w _=>Yr _ w) ?_ ?_)))))
       ·intro o19;cases o19
       intro _;refine Zy (Ym ?_);clear hp0;(simp_all [Ob,mtT,eqS];done)
     ·intro h16;refine Zm J J J (Zm J J J (Zm J J J (Zm J J J (Za J (Zs J J) (Za J (Zd J) (Zm J J J (Zm J J J (Zm J J J (Zm J J J (Za J (Zs J J) (Z7 X1 J J (fun w _=>Yr _ w) ?_ ?_)))))))))))
      ·intro o20;cases o20
      intro _;refine Zy (Ym ?_);clear hp0;(simp_all [Ob,mtT,eqS];done)
    ·intro h15;refine Zm J J J (Zm J J J (Zm J J J (Za J (Zs J J) (Za J (Zd J) (Zm J J J (Zm J J J (Zm J J J (Zm J J J (Za J (Zs J J) (Za J (Zd J) (Zm J J J (Zm J J J (Zm J J J (Zm J J J (Za J (Zs J J) (Z7 X1 J J (fun w _=>Yr _ w) ?_ ?_))))))))))))))))
     ·intro o21;cases o21
     intro _;refine Zy (Ym ?_);clear hp0;(simp_all [Ob,mtT,eqS];done)
def dl (s:ByteArray):List UInt8:=s.data.toList
theorem Wn (a b:ByteArray):dl (a++b)=dl a++dl b:=by unfold dl;rw [ByteArray.data_append,Array.toList_append]
theorem Uq (a:ByteArray):(dl a).length=a.size:=Array.length_toList
theorem Xb {w:World} {e size n:Nat} {v:Value} {xs:List Value} (h:w.ownsRow 0 e size v n xs):∃ p l c,v=.slice p l c:=by
 rcases h.2 with ⟨rfl,_⟩ | ⟨g,cap,cur,rfl,_⟩
 ·exact ⟨_,_,_,J⟩
 ·exact ⟨_,_,_,J⟩
section
variable {w0:World} {F:List Nat} {H:Hp} {R:Asr}
theorem U6 {u:World} {b o:Nat} {vs:List Value} (hu:Below u.heap.size u w0) (hF:∀ x ∈ F,u.heap.size≤x) (hb:b<u.heap.size) (h:∀ j v,vs[j]?=some v→u.cell? ⟨b,o+j,none⟩=some v):Row w0 F H R b o vs :=
 row_oldF (fun j v hj=>by rw [hu.cell (p:=⟨b,o+j,none⟩) hb];exact h j v hj) (fun hx=>by have:=hF b hx;omega)
end
theorem u8_low (u:Nat):IntKind.u8.wrap (u:Int)=((UInt8.ofNat (u % 256)).toNat:Int):=by
 rw [UInt8.toNat_ofNat',IntKind.wrap_u8];omega
theorem shr8 (u:Nat):((u:Nat):Int).fdiv (2 ^ min (8:Int).toNat IntKind.u64.bits)=((u/256:Nat):Int):=by
 have e:((2:Int) ^ min (8:Int).toNat IntKind.u64.bits)=256:=by decide
 rw [e,Int.fdiv_eq_ediv_of_nonneg _ (by decide)];omega
theorem wrText_any (U:World) (b:Nat) (s:ByteArray):WrP Tryz.prog 120 #[pt b,.string s] U b (dl s):=by
 intro w v bs h0 hl;rw [Uq] at hl;refine Yz (h0.sat) (args:=[pt b,.string s]) Tryz.func120 J Tryz.ntmps120 ?_;refine Zb (Za J (Zd J) (Za J (Zd J) (Za J (Zw J) (Za J (Zh (ff J) J) (Za J (Zj (t1 J) J (Zi 0 J J)) (Za J (Zd J) (WL_appS J (ta J) (Sk J) J J (by omega) (by omega) ?_)))))));intro v1;refine Za J (Zw J) (Za J (Zh (ff J) J) (Xc (p:=∃ p l c,v1=.slice p l c) (fun w hs=>Xb hs.res.1) ?_));rintro ⟨p1,l1,c1,rfl⟩;refine Yy (t1 J) J J 0 J J J J (Ze ?_);refine U8 h0 J (i:=0) J ?_;rfl
theorem Mo (U:World) (b u k:Nat) (hk:k≤8):WrP Tryz.prog 191 #[pt b,.int .u64 (u:Nat),iN k] U b (lowL u k):=by
 intro w v bs h0 hl;rw [Q5] at hl;refine Yz (h0.sat) (args:=[pt b,.int .u64 (u:Nat),iN k]) Tryz.func191 J Tryz.ntmps191 ?_;refine Zg (Zb (Za J (Zd J) (Za J (Zd J) (Ze (Zc (Zn (W9 (show wrA v bs=wrA v (bs++lowL u 0) by rw [lowL,List.append_nil]) ?_)))))));refine WC_same (s:=1) (v':=.int .u64 ((u/256 ^ 0:Nat):Int)) J (by rw [Nat.pow_zero,Nat.div_one]) ?_;refine Yf (Yg (X:=Nat × Value) (fun x:Nat × Value=>[(0,pt b),(1,.int .u64 ((u/256 ^ x.1:Nat):Int)),(6,iN k),(7,iN x.1)]) _ _ (fun x:Nat × Value=>[(b,[x.2])]) (fun x:Nat × Value=>wrA x.2 (bs++lowL u x.1)) (fun x:Nat × Value=>x.1≤k) (fun x:Nat × Value=>k - x.1) ((0,v)) (Nat.zero_le _) ?_) ⟨J,J,J,J,trivial⟩;intro x hI;refine Zg (Zb (Za J (Yi J J) (Ze (Zc (Zg (Zu J ?_ ?_))))))
 ·intro c1;have hx:x.1<k:=by omega
  refine Zo (Zc (Zg (Zn (Zg (Zb (Za J (Zd J) (Za J (Zd J) (Za J (Zw J) (Za J (Zh (ff J) J) (Za J (Zj (t1 J) J (Zi 0 J J)) (Za J (Zd J) (Za J (Si (Sj J) (Sj J) J) (Wt (s:=15) (v':=O5 (UInt8.ofNat (u/256 ^ x.1 % 256))) J (congrArg (Value.int .u8) (u8_low _)) (Wk J (ts J) (tz J) J J J J J ?_))))))))))))));intro b1 hb1;refine WL_appB J (ta J) J J 0 J (by rw [List.length_append,Q5];omega) (by rw [List.length_append,Q5];omega) ?_;intro v1;refine Za J (Zw J) (Za J (Zh (ff J) J) (Xc (p:=∃ p l c,v1=.slice p l c) (fun w hs=>Xb hs.res.1) ?_));rintro ⟨p1,l1,c1,rfl⟩;refine Yy (t1 J) J J 1 J J J J (Ze (Zc (Zb (Za J (Zd J) (Za J (Ex_shr J J J) (Za J (Zf J) (Ze (Zt (Zc (Zb ?_))))))))));refine Za J (Yn J J ?_) ?_;omega;refine Za J (Zd J) (Ze (Se (s:=1) (v':=.int .u64 ((u/256 ^ (x.1+1):Nat):Int)) J (congrArg (Value.int .u64) (by rw [shr8,Nat.div_div_eq_div_mul,Nat.pow_succ])) ?_));refine Z1 ((x.1+1,.slice p1 l1 c1)) ?_ (hx) 1 J (by show wrA _ _=wrA _ _;rw [lowL_succ,← List.append_assoc]) ⟨rfl,rfl,rfl,rfl,trivial⟩;omega
 ·intro c1;refine Yd (Yc (Z5 (Yb ?_)));refine U8 h0 J (i:=0) J ?_;rw [show x.1=k by omega]
theorem Vz (U:World) (b:Nat) (x:Int):WrP Tryz.prog 122 #[pt b,.int .i64 x] U b (dl (W1 x 1)):=by
 intro w v bs h0 hl;refine Yz (h0.sat) (args:=[pt b,.int .i64 x]) Tryz.func122 J Tryz.ntmps122 ?_;refine Zb (Za J (Zd J) (Za J (Zd J) (Za J (Si (Sj J) (Sj J) J) (Wt (s:=6) (v':=.int .u64 (u64 x:Nat)) J (congrArg (Value.int .u64) (u64_of x)) (Y6 fn191 J J 0 J h0.base h0.F (Mo U b (u64 x) 1 (by omega)) (by exact hl) ?_)))));intro v1;refine Ze ?_;refine U8 h0 J (i:=0) J ?_;rfl
theorem Pp (U:World) (b:Nat) (x:Int):WrP Tryz.prog 193 #[pt b,.int .i64 x] U b (dl (W1 x 2)):=by
 intro w v bs h0 hl;refine Yz (h0.sat) (args:=[pt b,.int .i64 x]) Tryz.func193 J Tryz.ntmps193 ?_;refine Zb (Za J (Zd J) (Za J (Zd J) (Za J (Si (Sj J) (Sj J) J) (Wt (s:=6) (v':=.int .u64 (u64 x:Nat)) J (congrArg (Value.int .u64) (u64_of x)) (Y6 fn191 J J 0 J h0.base h0.F (Mo U b (u64 x) 2 (by omega)) (by exact hl) ?_)))));intro v1;refine Ze ?_;refine U8 h0 J (i:=0) J ?_;rfl
theorem wrEight_any (U:World) (b:Nat) (x:Int):WrP Tryz.prog 286 #[pt b,.int .i64 x] U b (dl (W1 x 8)):=by
 intro w v bs h0 hl;refine Yz (h0.sat) (args:=[pt b,.int .i64 x]) Tryz.func286 J Tryz.ntmps286 ?_;refine Zb (Za J (Zd J) (Za J (Zd J) (Za J (Si (Sj J) (Sj J) J) (Wt (s:=6) (v':=.int .u64 (u64 x:Nat)) J (congrArg (Value.int .u64) (u64_of x)) (Y6 fn191 J J 0 J h0.base h0.F (Mo U b (u64 x) 8 (by omega)) (by exact hl) ?_)))));intro v1;refine Ze ?_;refine U8 h0 J (i:=0) J ?_;rfl
theorem wrFlag_any (U:World) (b:Nat) (x:Bool):WrP Tryz.prog 123 #[pt b,.bool x] U b (dl (flagS x)):=by
 intro w v bs h0 hl;rw [Uq,flagS_size] at hl;refine Yz (h0.sat) (args:=[pt b,.bool x]) Tryz.func123 J Tryz.ntmps123 ?_;refine Zg (Zg (Zb (Za J (Zd J) (Ze (Zc (W4 J ?_ ?_))))))
 ·intro c1;refine Zg (Zb (Za J (Zd J) ?_));refine Y6 Mb J J 0 J h0.base h0.F (Vz U b 1) (by rw [Uq,X6];exact hl) ?_;intro v1;refine Ze (Zc (Zr (Zl ?_)));refine wr_endr h0 J (i:=0) J ?_;unfold flagS;rw [c1];rfl
 ·intro c1;refine Zo (Zc (Zb (Za J (Zd J) ?_)));refine Y6 Mb J J 0 J h0.base h0.F (Vz U b 0) (by rw [Uq,X6];exact hl) ?_;intro v2;refine Ze ?_;refine U8 h0 J (i:=0) J ?_;unfold flagS;rw [c1];rfl
theorem Us (U:World) (b:Nat) (s:ByteArray):WrP Tryz.prog 121 #[pt b,.string s] U b (dl (Tt s)):=by
 intro w v bs h0 hl;rw [Uq,Tx] at hl;refine Yz (h0.sat) (args:=[pt b,.string s]) Tryz.func121 J Tryz.ntmps121 ?_;refine Zg (Zb (Za J (Zd J) (Za J (Zd J) (Za J (S6 (Sk J) J) ?_))));refine Y6 Mb J J 0 J h0.base h0.F (Vz U b (s.size:Nat)) (by rw [Uq,X6];omega) ?_;intro v1;refine Ze (Zc (Zb (Za J (Zd J) (Za J (Zd J) ?_))));refine Y6 fn120 J J 0 J h0.base h0.F (wrText_any U b s) (by rw [List.length_append,Uq,Uq,X6];omega) ?_;intro v2;refine Ze ?_;refine U8 h0 J (i:=0) J ?_;unfold Tt;rw [Wn,List.append_assoc]
theorem Nj (U:World) (b:Nat) (t:Ty):WrP Tryz.prog 124 #[pt b,.agg (tyV t).toArray] U b (dl (Vv t)):=by
 intro w v bs h0 hl;rw [Uq] at hl;have h3:t.kind=3→Vv t=W1 t.kind 1++Tt t.cls:=fun h=>by unfold Vv;rw [if_pos h,h]
 have h4:¬ t.kind=3→Vv t=W1 t.kind 1:=fun h=>by unfold Vv;rw [if_neg h]
 have h5:bs.length+1≤4000000:=by
  by_cases h:t.kind=3
  ·rw [h3 h,ByteArray.size_append,X6] at hl;omega
  ·rw [h4 h,X6] at hl;omega
 refine Yz (h0.sat) (args:=[pt b,.agg (tyV t).toArray]) Tryz.func124 J Tryz.ntmps124 ?_;refine Zg (Zb (Y2 J J ?_));intro b1 hb1;refine Ze (Zc (Zg (Zb (Za J (Zd J) (Za J (Zh (ff J) J) (Za J (Zj (t1 J) J (Zi 0 J J)) ?_))))));refine Y6 Mb J J 1 J h0.base h0.F (Vz U b t.kind) (by rw [Uq,X6];exact h5) ?_;intro v1;refine Ze (Zc (Zg (Zb (Za J (Zh (ff J) J) (Za J (Zj (t1 J) J (Zi 0 J J)) (Za J (Ya J J) (Ze (Zc (Zu J ?_ ?_)))))))))
 ·intro c1;refine Zb (Za J (Zd J) (Za J (Zh (ff J) J) (Za J (Zj (t1 J) J (Zi 0 J J)) ?_)));refine Y6 fn121 J J 1 J h0.base h0.F (Us U b t.cls) (by rw [h3 c1,ByteArray.size_append,X6] at hl;rw [List.length_append,Uq,Uq,X6];omega) ?_;intro v2;refine Ze ?_;refine U8 h0 J (i:=1) J ?_;rw [h3 c1,Wn,List.append_assoc]
 ·intro c1;refine Zo ?_;refine U8 h0 J (i:=1) J ?_;rw [h4 c1]
end
end Go.Proofs.YtpofmnfkdkmieaaGreat
