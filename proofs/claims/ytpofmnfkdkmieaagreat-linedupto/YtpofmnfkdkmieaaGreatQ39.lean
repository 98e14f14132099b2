/- What is proved here: bits, names and quotients as Lined recko -/
import Derived.Test.YtpofmnfkdkmieaaGreatQ38
import Derived.Test.YtpofmnfkdkmieaaGreatQ17
import Derived.Test.YtpofmnfkdkmieaaGreatQ13
import Derived.Test.YtpofmnfkdkmieaaGreatQ01
import Derived.Test.YtpofmnfkdkmieaaGreatQ14
import Derived.Test.YtpofmnfkdkmieaaGreatQ20
import Derived.Test.YtpofmnfkdkmieaaGreatQ16
import Derived.Test.YtpofmnfkdkmieaaGreatQ21
import Derived.Test.YtpofmnfkdkmieaaGreatQ15
set_option linter.unusedVariables false
set_option linter.unusedSimpArgs false
namespace Go.Proofs.YtpofmnfkdkmieaaGreat
namespace S
open Go Go.RowKit E
def Ae (x:Int):Int:=IntKind.i64.wrap (BitVec.ofInt 64 x &&& BitVec.ofInt 64 1).toNat
def bq (st:Int) (k:Nat):Bool:=ieq (Ae (st.fdiv (2 ^ k))) 1
section
variable {E:SE} {o:Oper} {t t':Nat} {p q:Operand} {x y:Int} {n:Nat}
theorem J9 {P:Program} {v:Value} {l:List Operand} (hs:act P E bare o=Ar.of (exPlain P E bare o)) (hl:o.op.operands.toList=l) (ha:l.all (fun x=>(clov E x).isSome)=true) (hn:noSel o.op=true) (hp:Wj P (execOp (fun x=>(clov E x).getD undef) o)=some (.value v)):noD P E bare o=some (ofV v):=by
 unfold noD;rw [hs];unfold exPlain;rw [hl,ha,hn,hp];rfl
theorem Uc {k:IntKind} (hx:sev E p=some (.v (.int k x))):clov E p=some (.int k x):=by unfold clov;rw [hx];rfl
theorem no_quo8 (ho:o.op=.binOp .quo t p q t') (hx:sev E p=some (Zi x)) (hy:sev E q=some (Zi 8)) (h:Wy (x.tdiv 8)):noD Tryz.prog E bare o=some (Zi (x.tdiv 8)):=by
 have e1:=Uc hx;have e2:=Uc hy;refine J9 (v:=.int .i64 (x.tdiv 8)) (l:=[p,q]) (by unfold act;rw [ho];simp only [hx,hy,exBin,Vk]) (by rw [ho];rfl) (by simp only [List.all_cons,List.all_nil,e1,e2,Option.isSome_some,Bool.and_self]) (by rw [ho];rfl) ?_;simp only [execOp,ho];rw [e1,e2]
 show Wj Tryz.prog (do
  eqGuard BinOp.quo t p q (Value.int IntKind.i64 x) (Value.int IntKind.i64 8)
  Next.value <$> binOp BinOp.quo t (Value.int IntKind.i64 x) (Value.int IntKind.i64 8))=_
 have hb:binOp BinOp.quo t (Value.int IntKind.i64 x) (Value.int IntKind.i64 8)=pure (.int .i64 (x.tdiv 8)):=by simp [binOp,Op.intDiv,Vz _ h]
 rw [hb];rfl
theorem Gg (ho:o.op=.binOp .shr t p q t') (hx:sev E p=some (Zi x)) (hy:sev E q=some (.v (.int .u64 (.ofNat n)))) (hn:n<8):noD Tryz.prog E bare o=some (Zi (x.fdiv (2 ^ n))):=by
 have e1:=Uc hx;have e2:=Uc hy;refine J9 (v:=.int .i64 (x.fdiv (2 ^ n))) (l:=[p,q]) (by unfold act;rw [ho];simp only [hx,hy,exBin,Vk]) (by rw [ho];rfl) (by simp only [List.all_cons,List.all_nil,e1,e2,Option.isSome_some,Bool.and_self]) (by rw [ho];rfl) ?_;simp only [execOp,ho];rw [e1,e2]
 show Wj Tryz.prog (do
  eqGuard BinOp.shr t p q (Value.int IntKind.i64 x) (Value.int IntKind.u64 (.ofNat n))
  Next.value <$> binOp BinOp.shr t (Value.int IntKind.i64 x) (Value.int IntKind.u64 (.ofNat n)))=_
 have hb:binOp BinOp.shr t (Value.int IntKind.i64 x) (Value.int IntKind.u64 (.ofNat n))=pure (.int .i64 (x.fdiv (2 ^ n))):=by
  show Op.shift .shr .i64 x .u64 (.ofNat n)=_;unfold Op.shift;rw [if_neg (by simp)];show pure (Value.int .i64 (x.fdiv (2 ^ min n 64)))=_;rw [Nat.min_eq_left (by omega)]
 rw [hb];rfl
theorem L9 (ho:o.op=.binOp .and t p q t') (hx:sev E p=some (Zi x)) (hy:sev E q=some (Zi 1)):noD Tryz.prog E bare o=some (Zi (Ae x)):=by
 have e1:=Uc hx;have e2:=Uc hy;refine J9 (v:=.int .i64 (Ae x)) (l:=[p,q]) (by unfold act;rw [ho];simp only [hx,hy,exBin,Vk]) (by rw [ho];rfl) (by simp only [List.all_cons,List.all_nil,e1,e2,Option.isSome_some,Bool.and_self]) (by rw [ho];rfl) ?_;simp only [execOp,ho];rw [e1,e2];rfl
theorem Gh (ho:o.op=.convert 3 103 p) (hx:sev E p=some (Zn n)) (hn:n<8):noD Tryz.prog E bare o=some (.v (.int .u64 (.ofNat n))):=by
 have e1:=Uc hx;refine J9 (v:=.int .u64 (.ofNat n)) (l:=[p]) (by unfold act;rw [ho];simp only [hx,exConv]) (by rw [ho];rfl) (by simp only [List.all_cons,List.all_nil,e1,Option.isSome_some,Bool.and_self]) (by rw [ho];rfl) ?_;simp only [execOp,ho];rw [e1];clear e1 hx;rcases (show n=0\/n=1\/n=2\/n=3\/n=4\/n=5\/n=6\/n=7 by omega) with rfl | rfl | rfl | rfl | rfl | rfl | rfl | rfl<;>kernel_rfl
theorem Ma (ho:o.op=.slice 9 (.const (.string ⟨#[97,98,99,100,101,102,103,104]⟩)) (some p) (some q) none) (hx:sev E p=some (Zi x)) (hy:sev E q=some (Zi y)) (h1:x=.ofNat n) (h2:y=.ofNat (n+1)) (hn:n<8):noD Tryz.prog E bare o=some (Zs (nmL n)):=by
 subst h1;subst h2;have e1:=Uc hx;have e2:=Uc hy;refine J9 (v:=.string (nmL n)) (l:=[.const (.string ⟨#[97,98,99,100,101,102,103,104]⟩),p,q]) (by unfold act;rw [ho];rfl) (by rw [ho];rfl) (by simp only [List.all_cons,List.all_nil,e1,e2,Option.isSome_some,Bool.and_self];rfl) (by rw [ho];rfl) ?_;simp only [execOp,ho,Option.map_some,Option.map_none];rw [e1,e2];clear e1 e2 hx hy;rcases (show n=0\/n=1\/n=2\/n=3\/n=4\/n=5\/n=6\/n=7 by omega) with rfl | rfl | rfl | rfl | rfl | rfl | rfl | rfl<;>kernel_rfl
end
theorem Zba {x:Int} (h:Wy x):Wy (x.tdiv 8):=by
 unfold Wy at h ⊢;have:=Int.tdiv_le_tdiv (a:=x) (b:=9223372036854775807) (c:=8) (by decide) h.2;have:=Int.tdiv_le_tdiv (a := -9223372036854775808) (b:=x) (c:=8) (by decide) h.1;have e1:(9223372036854775807:Int).tdiv 8=1152921504606846975:=by decide
 have e2:(-9223372036854775808:Int).tdiv 8 = -1152921504606846976:=by decide
 omega
section
variable {bt:Nat->Bool}
theorem My:∀ d k,Ye (d+1) k=Ye d k++evA (k - d)
 | 0,k=>by show evA k++[]=[]++evA (k - 0);rw [List.append_nil,List.nil_append,Nat.sub_zero]
 | d+1,k=>by
  show evA k++Ye (d+1) (k - 1)=(evA k++Ye d (k - 1))++evA (k - (d+1));rw [My d,List.append_assoc,show k - 1 - d=k - (d+1) by omega]
theorem Jj:∀ d s,upE bt (d+1) s=upE bt d s++Sa bt (s+d)
 | 0,s=>by show Sa bt s++[]=[]++Sa bt (s+0);rw [List.append_nil,List.nil_append,Nat.add_zero]
 | d+1,s=>by
  show Sa bt s++upE bt (d+1) (s+1)=(Sa bt s++upE bt d (s+1))++Sa bt (s+(d+1));rw [Jj d,List.append_assoc,show s+1+d=s+(d+1) by omega]
theorem P1:∀ d s,upN bt (d+1) s=upN bt d s+stN bt (s+d)
 | 0,s=>by show stN bt s+0=0+stN bt (s+0);rw [Nat.add_zero,Nat.add_zero,Nat.zero_add]
 | d+1,s=>by
  show stN bt s+upN bt (d+1) (s+1)=(stN bt s+upN bt d (s+1))+stN bt (s+(d+1));rw [P1 d,show s+1+d=s+(d+1) by omega];omega
theorem Hj:∀ d s,upN bt d s<=3*d
 | 0,s=>Nat.le_refl _
 | d+1,s=>by
  have:=Hj d (s+1);show stN bt s+_<=_;have:stN bt s<=3:=by unfold stN;split<;>omega
  omega
end
def W9 (way k:Nat):List Mi:=if way=0 then [.new k,.pop] else if way=1 then [.get k,.pop] else [.load,.is k,.pop]
theorem seg_len (way k:Nat):(W9 way k).length<=3:=by
 unfold W9;split
 ·simp
 ·split
  ·simp
  ·simp
structure Li where
 (th s dn wk:Nat) (b:List Mi) (E:List SV)
structure Li.Ok (x:Li) (bt:Nat->Bool) (i:Nat):Prop where
 pf:∀ r,Body r->Body (x.b++r)
 e:∀ r,es3++Xi bt (x.b++r) 0 0=x.E++Xi bt r x.th x.s
 n:∀ r,2+Y1 bt (x.b++r) 0=x.dn+Y1 bt r x.s
 ok:∀ m ∈ x.b,m.ok
 t8:x.th<=8
 s8:x.s<=8
 d:x.dn<=2+3*i+3*x.s
 l:x.b.length<=3*i
 el:x.E.length=x.wk*3
 wl:x.wk<=3+x.th+3*x.s
def T9 (way k s:Nat):Nat:=if way<2 then k+1 - s else 0
def Li.next (x:Li) (bt:Nat->Bool) (way k wk:Nat):Li:=⟨max x.th (k+1),x.s+T9 way k x.s,x.dn+(if way<2 then 2 else 3)+upN bt (T9 way k x.s) x.s,wk,x.b++W9 way k,x.E++Ye (k+1 - x.th) k++upE bt (T9 way k x.s) x.s⟩
theorem Li.Ok.next {x:Li} {bt:Nat->Bool} {i way k wk:Nat} (h:x.Ok bt i) (hk:k<8) (hw:way<3) (hl:(x.next bt way k wk).E.length=wk*3) (hwl:wk<=3+max x.th (k+1)+3*(x.s+T9 way k x.s)):(x.next bt way k wk).Ok bt (i+1):=by
 have hN:=Hj (bt:=bt) (T9 way k x.s) x.s;have hs8:=h.s8;have hsd:x.s+T9 way k x.s<=8:=by unfold T9;split<;>omega
 have hd:=h.d;refine ⟨fun r hr=>?_,fun r=>?_,fun r=>?_,fun m hm=>?_,?_,hsd,?_,?_,hl,hwl⟩
 ·show Body (x.b++W9 way k++r);rw [List.append_assoc];refine h.pf _ ?_;rcases (show way=0\/way=1\/way=2 by omega) with rfl | rfl | rfl
  ·exact .new hk hr
  ·exact .get hk hr
  ·exact .is hk hr
 ·show es3++Xi bt (x.b++W9 way k++r) 0 0=(x.E++Ye (k+1 - x.th) k++upE bt (T9 way k x.s) x.s)++Xi bt r (max x.th (k+1)) (x.s+T9 way k x.s);rw [List.append_assoc,h.e,List.append_assoc,List.append_assoc];congr 1;rcases (show way=0\/way=1\/way=2 by omega) with rfl | rfl | rfl
  ·show (Ye (k+1 - x.th) k++upE bt (k+1 - x.s) x.s)++([]++Xi bt r (max x.th (k+1)) (max x.s (k+1)))=_;rw [List.append_assoc,List.nil_append,show max x.s (k+1)=x.s+(k+1 - x.s) by omega];rfl
  ·show (Ye (k+1 - x.th) k++upE bt (k+1 - x.s) x.s)++([]++Xi bt r (max x.th (k+1)) (max x.s (k+1)))=_;rw [List.append_assoc,List.nil_append,show max x.s (k+1)=x.s+(k+1 - x.s) by omega];rfl
  ·rfl
 ·show 2+Y1 bt (x.b++W9 way k++r) 0=x.dn+(if way<2 then 2 else 3)+upN bt (T9 way k x.s) x.s+Y1 bt r (x.s+T9 way k x.s);rw [List.append_assoc,h.n];rcases (show way=0\/way=1\/way=2 by omega) with rfl | rfl | rfl
  ·show x.dn+(1+upN bt (k+1 - x.s) x.s+(1+Y1 bt r (max x.s (k+1))))=x.dn+2+upN bt (k+1 - x.s) x.s+Y1 bt r (x.s+(k+1 - x.s));rw [show max x.s (k+1)=x.s+(k+1 - x.s) by omega];omega
  ·show x.dn+(1+upN bt (k+1 - x.s) x.s+(1+Y1 bt r (max x.s (k+1))))=x.dn+2+upN bt (k+1 - x.s) x.s+Y1 bt r (x.s+(k+1 - x.s));rw [show max x.s (k+1)=x.s+(k+1 - x.s) by omega];omega
  ·show x.dn+(1+(1+(1+Y1 bt r x.s)))=x.dn+3+0+Y1 bt r (x.s+0);simp only [Nat.add_zero];omega
 ·rcases List.mem_append.1 hm with hm | hm
  ·exact h.ok m hm
  ·unfold W9 at hm;split at hm
   ·simp only [List.mem_cons,List.not_mem_nil,or_false] at hm;rcases hm with rfl | rfl
    ·exact hk
    ·trivial
   ·split at hm
    ·simp only [List.mem_cons,List.not_mem_nil,or_false] at hm;rcases hm with rfl | rfl
     ·exact hk
     ·trivial
    ·simp only [List.mem_cons,List.not_mem_nil,or_false] at hm;rcases hm with rfl | rfl | rfl
     ·trivial
     ·exact hk
     ·trivial
 ·have:=h.t8;show max x.th (k+1)<=8;omega
 ·show x.dn+(if way<2 then 2 else 3)+upN bt (T9 way k x.s) x.s<=2+3*(i+1)+3*(x.s+T9 way k x.s);split<;>omega
 ·have:=h.l;show (x.b++W9 way k).length<=3*(i+1);rw [List.length_append];have:(W9 way k).length<=3:=seg_len way k;omega
def li0:Li:=⟨0,0,2,3,[],es3⟩
theorem Gl (bt:Nat->Bool):li0.Ok bt 0:=⟨fun _ h=>h,fun _=>rfl,fun _=>rfl,(fun m h=>by cases h),by decide,by decide,by decide,Nat.le_refl _,rfl,by decide⟩
end S
namespace S
open Go Go.RowKit E At
section
set_option maxRecDepth 10000
variable {N r a k:Nat} {v:SV} {U:Ch} {raw:List Int}
theorem ieq_t {x y:Int} (h:ieq x y=true):x=y:=S5.1 h
theorem ieq_f {x y:Int} (h:ieq x y=false):x≠y:=fun e=>by rw [S5.2 e] at h;cases h
theorem Zcm {m n:Nat} (h:ieq (.ofNat m) (.ofNat n)=true):m=n:=Int.ofNat.inj (ieq_t h)
theorem Zcn {m n:Nat} (h:ieq (.ofNat m) (.ofNat n)=false):m≠n:=fun e=>ieq_f h (by rw [e])
end
end S


























namespace S
open Go Go.RowKit E At
theorem teEv (d:Nat) (a b:Int) (s:ByteArray) (w:World):(Op.equalIn (d+2) 98 (.agg #[.int .i64 a,.int .i64 b,.string s]) (.agg #[.int .i64 a,.int .i64 b,.string s])).run Tryz.prog w=.ok true w:=by
 have hs:Tryz.prog.stoodInHeld 98=false:=by kernel_rfl
 have h3:∀ (a:Int) (w:World),(Op.equalIn (d+1) 3 (.int .i64 a) (.int .i64 a)).run Tryz.prog w=.ok (a==a) w:=fun a w=>run_equalIn_int w d 3 .i64 .i64 a a (tint rfl);have h9:∀ w:World,(Op.equalIn (d+1) 9 (.string s) (.string s)).run Tryz.prog w=.ok (s.toList==s.toList) w:=fun w=>run_equalIn_string w d 9 s s (tstr rfl);have hu:=Tryz.underlying98;rw [show d+2=(d+1)+1 from rfl,Op.equalIn];simp only [Sem.run_bind,run_underlying hu,Result.andThen_ok,run_program,hs,Bool.false_eq_true,if_false];simp [part,isAgg,run_underlying (tint (t:=3) rfl),run_underlying (tstr (t:=9) rfl),h3,h9]
theorem Zbc {n N:Nat} {G:Nat->Option SB} {all:Array Oper} {o:Oper} {Er:SE} {t':Nat} {p q:Operand} {a b:Int} {s:ByteArray} (hw:wants Er all o.guard=some true) (ho:o.op=.binOp .neq 98 p q t') (hx:sev Er p=some (.agg [Zi a,Zi b,Zs s])) (hy:sev Er q=some (.agg [Zi a,Zi b,Zs s])) :
  Uv Tryz.prog n N G all o ⟨Er,Zb false⟩:=by
 refine .inr ⟨hw,(fun c e=>by rw [ho] at e;cases e),fun w0 F B D w a' hg ha=>⟨_,w,.inl ?_,rfl,hg⟩⟩;have e1:=ha.eval hx;have e2:=ha.eval hy;simp only [den,Ym,Option.map_some,Option.some.injEq] at e1 e2;simp only [execOp,ho];rw [<- e1,<- e2];have h1:=run_eqGuard_agg (P:=Tryz.prog) w .neq 98 p q #[.int .i64 a,.int .i64 b,.string s] #[.int .i64 a,.int .i64 b,.string s] (by kernel_rfl);have h2:=run_neq_struct (P:=Tryz.prog) w 98 #[.int .i64 a,.int .i64 b,.string s] #[.int .i64 a,.int .i64 b,.string s];have h3:=teEv 9998 a b s w;simp [h1,h2,h3]
section
variable {E:SE} {o:Oper} {t t':Nat} {p q:Operand} {x y:Int} {P:Program}
theorem Zbx (ho:o.op=.binOp .neq t p q t') (hx:sev E p=some (Zi x)) (hy:sev E q=some (Zi y)) (h:x=y):noD P E bare o=some (Zb false):=by
 subst h;unfold noD act;rw [ho];simp only [hx,hy,exBin,Vk,show ieq x x=true from S5.2 rfl];rfl
end
end S
namespace S
open Go Go.RowKit E At
section
set_option maxRecDepth 10000
variable {N k dm dc:Nat} {bs:ByteArray} {ins:List Mi}
theorem mainL:HF Tryz.prog 32 [Zs Zt,Zi 1,Zi 1,.sl dc 0 k 0] N [] fun u N' H'=>u=.agg [Zs Zt,Zs (nmB 0),Zz,.sl (N+1) 0 1 0]/\N'=N+2/\H'=[(N+1,Zw 134 10 1 [Zs Z4,Zb true,Zz,Zi 0,Ze,Zi 1,Zi 1,.sl dc 0 k 0,Zz,Zz])]:=by
 refine hf1 Tryz.func32 J Tryz.ntmps32 fun _ _ _ _=>?_;refine Zd (Zy 1 [] [(8,Zq N 0)] [] (N+1) [(N,Zc [Ze,Ze,Zz,Zz])] [] ?_);refine Zx (Zy 8 [1] [] [] (N+2) [((N+1),Zw 134 10 1 [Zs ((ByteArray.mk #[109,97,105,110])),Zb true,Zz,Zi 0,Ze,Zi 1,Zi 1,Zk dc 0 k 0,Zz,Zz])] [(0,Zc [Zs Zt,Zs ((ByteArray.mk #[79,98,106,101,99,116])),Zz,Zk (N+1) 0 1 0])] ?_);refine Zg (Yc (X6 (i:=1) (El:=[(8,.ptr 0 0)]) (m:=[.agg [Zs Zt,Zs ((ByteArray.mk #[79,98,106,101,99,116])),Zz,.sl (N+1) 0 1 0]]) [0] (.inr J) Zj J ⟨J,trivial⟩ (by kernel_rfl) (by decide) ?_));exact ⟨J,J,J⟩
theorem entryL (hE:∀ N,HF Tryz.prog 26 [.agg [Zs Zt,Zs (nmB 0),Zz,.sl dm 0 1 0]] N [(dm,Zw 134 10 1 [Zs Z4,Zb true,Zz,Zi 0,Ze,Zi 1,Zi 1,.sl dc 0 k 0,Zz,Zz]),(dc,.row 75 7 k (c7M ins))] fun u N' H'=>u=.tup [Zs bs,Zi 0]/\N'=N/\H'=[(dm,Zw 134 10 1 [Zs Z4,Zb true,Zz,Zi 0,Ze,Zi 1,Zi 1,.sl dc 0 k 0,Zz,Zz]),(dc,.row 75 7 k (c7M ins))]) :
  HF Tryz.prog 33 [.agg [Zs Zt,Zs (nmB 0),Zz,.sl dm 0 1 0]] N [(dm,Zw 134 10 1 [Zs Z4,Zb true,Zz,Zi 0,Ze,Zi 1,Zi 1,.sl dc 0 k 0,Zz,Zz]),(dc,.row 75 7 k (c7M ins))] fun u N' H'=>u=.tup [.agg [Zs Zt,Zs bs],Zb true]/\N'=N+2/\H'=[(dm,Zw 134 10 1 [Zs Z4,Zb true,Zz,Zi 0,Ze,Zi 1,Zi 1,.sl dc 0 k 0,Zz,Zz]),(dc,.row 75 7 k (c7M ins))]:=by
 refine hf1 Tryz.func33 J Tryz.ntmps33 fun _ _ _ _=>?_;refine Zd (Zy 3 [] [(1,Zq N 0),(2,Zq (N+1) 0),(3,Zb false)] [] (N+2) [((N+1),Zc [Ze,Ze]),(N,Zc [Zs Zt,Zs (nmB 0),Zz,Zk dm 0 1 0])] [] ?_);refine Zx (Za 1 [1] [(7,SV.agg [Zs Zt,Zs (nmB 0),Zz,Zk dm 0 1 0])] [] (Z0 [2,3] [3,2] Zj J J J J (hE _) J (Za 5 [] [(4,Zs bs),(5,Zi 0)] [] (Zx (Zy 8 [3,2] [(3,Zb true)] [] (N+2) [] [(2,Zc [Zs Zt,Zs bs])] (Zg (Yc ?_)))))));refine X6 (i:=2) (El:=[(2,.ptr 0 0),(3,sh (Zb true))]) (m:=[.agg [Zs Zt,Zs bs],Zb true]) [0,1] (.inr J) Zj J ⟨J,by rw [X7 (by unfold lim;simp)];rfl,trivial⟩ (by kernel_rfl) (by decide) ?_;exact ⟨J,J,J⟩
end
theorem Be {x:Li} {bt:Nat->Bool} {i:Nat} (h:x.Ok bt i) (hi:i<=30):∃ bs:ByteArray,
  (∀ dm dc k,k=x.b.length+3->∀ N,HF Tryz.prog 26 [.agg [Zs Zt,Zs (nmB 0),Zz,.sl dm 0 1 0]] N [(dm,Zw 134 10 1 [Zs Z4,Zb true,Zz,Zi 0,Ze,Zi 1,Zi 1,.sl dc 0 k 0,Zz,Zz]),(dc,.row 75 7 k (c7M (.newO::.store::(x.b++[.ret]))))] fun u N' H'=>u=.tup [Zs bs,Zi 0]/\N'=N/\H'=[(dm,Zw 134 10 1 [Zs Z4,Zb true,Zz,Zi 0,Ze,Zi 1,Zi 1,.sl dc 0 k 0,Zz,Zz]),(dc,.row 75 7 k (c7M (.newO::.store::(x.b++[.ret]))))]) /\
  ∀ N en U,HF Tryz.prog 34 [.agg [.sl en 0 9 0,Zs Zt,Zz,Zi 5000,Zi 10000,Zi 2]] N ([(en,Zw 89 2 9 (enC bt bs))]++U) fun u _ H'=>∃ (ev:Nat) (R:Ch),u=.tup [.agg [Zi 1,Ze,.sl ev 0 x.wk 0,Zn (x.dn+1)],Zi 0]/\H'=[(ev,.row 98 3 x.wk x.E)]++(R++U):=by
 have hb:Body (x.b++[.ret]):=h.pf _ .ret;have he:=h.e [.ret];have hn:=h.n [.ret];have hl:=h.l;have hd:=h.d;have hs:=h.s8;rw [show Xi bt [.ret] x.th x.s=[] from rfl,List.append_nil] at he;rw [show Y1 bt [.ret] x.s=1 from rfl] at hn;obtain ⟨ins,hins⟩:∃ l,l=Mi.newO::.store::(x.b++[.ret]):=⟨_,rfl⟩;have hlen:ins.length=x.b.length+3:=by rw [hins];simp only [List.length_cons,List.length_append,List.length_nil]
 have h8:∀ m ∈ ins,m.ok:=fun m hm=>by
  rw [hins] at hm;rcases List.mem_cons.1 hm with rfl | hm
  ·trivial
  ·rcases List.mem_cons.1 hm with rfl | hm
   ·trivial
   ·rcases List.mem_append.1 hm with hm | hm
    ·exact h.ok m hm
    ·rcases List.mem_singleton.1 hm with rfl;trivial
 refine ⟨⟨(byY ins).toArray⟩,fun dm dc k hk N=>?_,fun N en U=>?_⟩
 ·have hE:=enc_m (nb:=Zt) (k:=k) (ins:=ins) (by omega) (by omega) (by omega) rfl h8 (dl0 (by omega)) dm dc N;rw [<- hins];exact hE
 ·refine (atRun_m (dec_m J (by omega) (by omega) h8) (chk_m (k:=ins.length) J (by omega) (by omega) J h8 hb hins) J (by omega) hb hins (by omega)).mono ?_;rintro u N' H' ⟨ev,ek,R,rfl,rfl,h3⟩;rw [he] at h3;have hek:ek=x.wk:=by have:=h.el;omega
  subst hek;refine ⟨ev,R,?_,?_⟩
  ·rw [hn]
  ·rw [he]
end S
end Go.Proofs.YtpofmnfkdkmieaaGreat
