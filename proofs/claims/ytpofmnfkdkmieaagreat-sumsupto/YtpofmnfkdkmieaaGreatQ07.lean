/- What is proved here: the program's reader (package wire): pie -/
import Derived.Test.YtpofmnfkdkmieaaGreatQ06
import Derived.Test.YtpofmnfkdkmieaaGreatQ05
set_option linter.unusedVariables false
set_option linter.unusedSimpArgs false
namespace Go.Proofs.YtpofmnfkdkmieaaGreat
section
open Go.RowKit At E
def rdC (r:List UInt8):List Value:=[.string ⟨r.toArray⟩]
def RdOk {α:Type} (r:List UInt8) (p:Ps α) (rep:α->Value->Asr->Prop):Value->List Value->Asr->Prop:=fun v cs' R'=>∃ x r',p r=some (x,r')/\cs'=rdC r'/\r'.length<=r.length/\rep x v R'
def RdP {α:Type} (f:FuncId) (args:Array Value) (u:World) (b:Nat) (p:Ps α) (rep:α->Value->Asr->Prop):Prop :=
 ∀ r:List UInt8,r.length<=4000000->RcP Tryz.prog f args u b (rdC r) (RdOk r p rep) (p r=none)
theorem W2 {α β:Type} {P:Ps β} {p:Ps α} {f:α->Ps β} {r r1:List UInt8} (h:V7 (some r) P (some r1) (Y9 p f)) (hm:p r1=none):P r=none:=by
 have h1:P r=Y9 p f r1:=h;rw [h1];unfold Y9;rw [hm]
theorem Xn {α β:Type} {P:Ps β} {p:Ps α} {f:α->Ps β} {r r1 r2:List UInt8} {x:α} (h:V7 (some r) P (some r1) (Y9 p f)) (hm:p r1=some (x,r2)):V7 (some r) P (some r2) (f x):=by
 have h1:P r=Y9 p f r1:=h;show P r=f x r2;rw [h1];unfold Y9;rw [hm]
theorem Vm {β:Type} {P:Ps β} {r r1:List UInt8} {x:β} (h:V7 (some r) P (some r1) (Ug x)):P r=some (x,r1):=h
theorem Is (r:List UInt8):(⟨r.toArray⟩:ByteArray).size=r.length:=by show r.toArray.size=r.length;simp
theorem Ztf (r:List UInt8):dl ⟨r.toArray⟩=r:=by unfold dl;simp
theorem Zsw (r:List UInt8) (n:Nat):(⟨r.toArray⟩:ByteArray).extract 0 n=⟨(r.take n).toArray⟩:=by
 have e:=Zdj (s:=⟨r.toArray⟩) (a:=0) (n:=n);rw [Nat.zero_add] at e;rw [e];unfold seg;rw [Ztf,List.drop_zero]
theorem Zsx (r:List UInt8) (n:Nat) (h:n<=r.length):(⟨r.toArray⟩:ByteArray).extract n (⟨r.toArray⟩:ByteArray).size=⟨(r.drop n).toArray⟩:=by
 have e:=Zdj (s:=⟨r.toArray⟩) (a:=n) (n:=r.length - n);rw [show n+(r.length - n)=r.length by omega] at e;rw [Is,e];unfold seg;rw [Ztf,List.take_of_length_le (by rw [List.length_drop];omega)]
def repTk:List UInt8->Value->Asr->Prop:=fun x v R'=>v=.string ⟨x.toArray⟩/\R'=Asr.none
theorem K4 (U:World) (b n:Nat):RdP 112 #[pt b,iN n] U b (P6 n) repTk:=by
 intro r hrl w h0;have hz:=Is r;refine Wy (h0.sat) (args:=[pt b,iN n]) Tryz.func112 J Tryz.ntmps112 ?_;refine Zt (Zd (Za J (Zx J) (Zo (Zj (Zt (Zd (Za J (Zr J) (Za J (Zr J) (Za J (Oj J) (Za J (Zy (ff J) J) (Za J (Z8 (t1 J) J (Z1 0 J J)) (Za J (Mi (Np J) J) (Za J (Xo J J) (Z7 Xq J J (fun w _=>Ym _ w) ?_ ?_))))))))))))))
 rotate_left
 ·intro o1;replace o1:=dFa o1;refine Z3 (G5 h0.base (Vk h0) (Xi ?_));exact Zqn (by omega)
 intro o1;replace o1:=dTr o1;refine Zo (Zj (Zt (Zd (Za J (Zr J) (Za J (Oj J) (Za J (Zy (ff J) J) (Za J (Z8 (t1 J) J (Z1 0 J J)) (Za J (Zr J) (Za J (Zjb (Np J) J J ?_) ?_)))))))))
 ·omega
 refine Za J (Zx J) (Zo (Zj (Zt (Zd (Za J (Zr J) (Za J (Zr J) (Za J (Oj J) (Za J (Zy (ff J) J) (Za J (Z8 (t1 J) J (Z1 0 J J)) (Za J (Zr J) (Za J (Zco (Np J) J J ?_) ?_)))))))))))
 ·omega
 refine Za J (Oj J) (Za J (Zy (ff J) J) (Px (t1 J) J J 0 J J J J (Zo (Zj (Zt (Zd (Za J (Zr J) (Za J (Zx J) (Zo (Zj (Yz (Tw J J 0 J ?_))))))))))));exact ⟨r.take n,r.drop n,Zdw (by omega),congrArg (fun s=>[Value.string s]) (Zsx r n (by omega)),by rw [List.length_drop];omega,congrArg Value.string (Zsw r n),rfl⟩
theorem or_step (a c i:Nat) (ha:a<256 ^ i) (hi:i<8) (hc:c<256) :
  IntKind.u64.wrap (((BitVec.ofInt IntKind.u64.bits (a:Int) ||| BitVec.ofInt IntKind.u64.bits (IntKind.u64.wrap (IntKind.u64.wrap (c:Int)*2 ^ min ((8:Int)*(i:Int)).toNat IntKind.u64.bits))).toNat:Nat):Int)=((a+256 ^ i*c:Nat):Int):=by
 have e8:(256:Nat) ^ i=2 ^ (8*i):=by rw [show (256:Nat)=2 ^ 8 by decide,<- Nat.pow_mul]
 have hbits:IntKind.u64.bits=64:=rfl;have hmin:min ((8:Int)*(i:Int)).toNat IntKind.u64.bits=8*i:=by rw [hbits];omega
 have hp:2 ^ (8*i)*256<=18446744073709551616:=by
  have:2 ^ (8*i)*256=2 ^ (8*i+8):=by rw [Nat.pow_add]
  rw [this];exact Nat.le_trans (Nat.pow_le_pow_right (by omega) (show 8*i+8<=64 by omega)) (by decide)
 have hcb:2 ^ (8*i)*c<=2 ^ (8*i)*255:=Nat.mul_le_mul_left _ (by omega);rw [e8] at ha ⊢;have hw1:IntKind.u64.wrap (c:Int)=(c:Int):=by rw [IntKind.wrap_u64];omega
 have hw2:IntKind.u64.wrap ((c:Int)*2 ^ (8*i))=((2 ^ (8*i)*c:Nat):Int):=by
  have e:(c:Int)*2 ^ (8*i)=((2 ^ (8*i)*c:Nat):Int):=by
   rw [Int.natCast_mul,Int.natCast_pow,Int.mul_comm];rfl
  rw [e,IntKind.wrap_u64];omega
 rw [hmin,hw1,hw2,hbits];have hA:(BitVec.ofInt 64 (a:Int)).toNat=a:=by rw [BitVec.toNat_ofInt];omega
 have hB:(BitVec.ofInt 64 ((2 ^ (8*i)*c:Nat):Int)).toNat=2 ^ (8*i)*c:=by rw [BitVec.toNat_ofInt];omega
 rw [BitVec.toNat_or,hA,hB,Nat.or_comm,<- Nat.two_pow_add_eq_or_of_lt ha,IntKind.wrap_u64];omega
def rep64 (k:Nat):Nat->Value->Asr->Prop:=fun n v R'=>v=.int .u64 (n:Nat)/\n<256 ^ k/\R'=Asr.none
theorem Bd (l:List UInt8) (i:Nat) (h:i<l.length):leN (l.take (i+1))=leN (l.take i)+256 ^ i*l[i].toNat:=by
 rw [List.take_succ_eq_append_getElem h,Dw];have:(l.take i).length=i:=by rw [List.length_take];omega
 rw [this];simp [leN]
theorem Ns (U:World) (b k:Nat) (hk:k<=8):RdP 180 #[pt b,iN k] U b (M0 k) (rep64 k):=by
 intro r hrl w h0;refine Wy (h0.sat) (args:=[pt b,iN k]) Tryz.func180 J Tryz.ntmps180 ?_;refine Zt (Zd (Za J (Zx J) (Zo (Zj (Zt (Zd (Za J (Zr J) (Za J (Zr J) ?_))))))));refine Y6 Zsu J J 0 J h0.base (Vk h0) (K4 U b k r hrl) (fun hm=>Yt (Xi (by unfold M0 Y9;rw [hm]))) ?_;rintro v cs' ⟨R',l,r1,hp,rfl,hr1,rfl, -⟩;refine Za J (Zx J) (Zo (Zj (Zt (Zd (Za J (Zx J) (Zo (Zj (Zt (Zt (Zd (Za J (Zr J) (Za J (Zr J) (Zo (Zj (Yy ?_)))))))))))))));obtain ⟨hl1, -,hkl⟩:=K6 hp;have hll:l.length=k:=by rw [hl1,List.length_take];omega
 have hz:=Is l;refine Vb (Vc (X:=Nat) (fun i=>[(0,pt b),(5,.string ⟨l.toArray⟩),(6,.int .u64 ((leN (l.take i):Nat):Int)),(11,iN k),(12,iN i)]) _ _ (fun i=>[(b,rdC r1)]) (fun i=>Asr.none) (fun i=>i<=k) (fun i=>k - i) (0) (Nat.zero_le _) ?_) ⟨J,J,J,J,J,trivial⟩;intro i hI;refine Zt (Zd (Za J (Vf J J) (Zo (Zj (Zt (Xc J ?_ ?_))))))
 ·intro c1;have hi:i<l.length:=by omega
  refine Xe (Zj (Zt (Yy (Zt (Zd (Za J (Zr J) (Za J (Zx J) (Zo (Zj (Zd (Za J (Zr J) (Za J (Zr J) (Za J (Zr J) (Za J (Kn (Np J) J J ?_) ?_))))))))))))))
  ·omega
  refine Za J (Oa (P1 J) (P1 J) J) (Za J (Zr J) ?_);refine Za J (Ex_mulB J J ?_) ?_;omega;refine Za J (Ex_shl J J (decide_eq_false (by omega))) ?_;refine Za J (Ex_or J J) (Za J (Zx J) (Zo (Y3 (Zj (Zd ?_)))));refine Za J (Vt J J ?_) ?_;omega;refine Za J (Zr J) (Zo ?_);refine Q5 (s:=6) (v':=.int .u64 ((leN (l.take (i+1)):Nat):Int)) J (congrArg (Value.int .u64) (by have h9:=Zhr (l.take i);rw [List.length_take,Nat.min_eq_left (by omega)] at h9;rw [Bd l i hi];exact or_step _ _ i h9 (by omega) (l[i].toNat_lt))) ?_;refine Wh (i+1) ?_ (by omega) 0 J (J) ⟨J,J,J,J,J,trivial⟩;omega
 ·intro c1;refine Vd (Va (Wo (W9 (Zj (Zt (Zd (Za J (Zr J) (Za J (Zx J) (Zo (Zj (Yz (Tw J J 0 J ?_))))))))))));have h9:=Zhr l;rw [hll] at h9;rw [show i=k by omega,List.take_of_length_le (by omega)];exact ⟨leN l,r1,by unfold M0 Y9;rw [hp];rfl,rfl,hr1,rfl,h9,rfl⟩
theorem U8 (U:World) (b:Nat):RdP 115 #[pt b] U b (M0 1) (repN 1):=by
 intro r hrl w h0;have h64:(256:Nat) ^ 8=18446744073709551616:=by decide
 refine Wy (h0.sat) (args:=[pt b]) Tryz.func115 J Tryz.ntmps115 ?_;refine Zt (Zd (Za J (Zx J) (Zo (Zj (Zt (Zd (Za J (Zr J) (Y6 Zst J J 0 J h0.base (Vk h0) (Ns U b 1 (by omega) r hrl) (fun hm=>Yt (Xi hm)) ?_))))))));rintro v cs' ⟨R',n,r1,hp,rfl,hr1,rfl,hn, -⟩;refine Za J (Oa (P1 J) (P1 J) J) (Za J (Zx J) (Zo (Zj (Yz (Tw J J 0 J ?_)))));exact ⟨n,r1,hp,J,hr1,congrArg (Value.int .i64) (Ej (by omega)),hn,J⟩
theorem Ey (U:World) (b:Nat):RdP 185 #[pt b] U b (M0 2) (repN 2):=by
 intro r hrl w h0;have h64:(256:Nat) ^ 8=18446744073709551616:=by decide
 refine Wy (h0.sat) (args:=[pt b]) Tryz.func185 J Tryz.ntmps185 ?_;refine Zt (Zd (Za J (Zx J) (Zo (Zj (Zt (Zd (Za J (Zr J) (Y6 Zst J J 0 J h0.base (Vk h0) (Ns U b 2 (by omega) r hrl) (fun hm=>Yt (Xi hm)) ?_))))))));rintro v cs' ⟨R',n,r1,hp,rfl,hr1,rfl,hn, -⟩;refine Za J (Oa (P1 J) (P1 J) J) (Za J (Zx J) (Zo (Zj (Yz (Tw J J 0 J ?_)))));exact ⟨n,r1,hp,J,hr1,congrArg (Value.int .i64) (Ej (by omega)),hn,J⟩
theorem Zaw (U:World) (b:Nat):RdP 285 #[pt b] U b (M0 8) (repN 8):=by
 intro r hrl w h0;have h64:(256:Nat) ^ 8=18446744073709551616:=by decide
 refine Wy (h0.sat) (args:=[pt b]) Tryz.func285 J Tryz.ntmps285 ?_;refine Zt (Zd (Za J (Zx J) (Zo (Zj (Zt (Zd (Za J (Zr J) (Y6 Zst J J 0 J h0.base (Vk h0) (Ns U b 8 (by omega) r hrl) (fun hm=>Yt (Xi hm)) ?_))))))));rintro v cs' ⟨R',n,r1,hp,rfl,hr1,rfl,hn, -⟩;refine Za J (Oa (P1 J) (P1 J) J) (Za J (Zx J) (Zo (Zj (Yz (Tw J J 0 J ?_)))));exact ⟨n,r1,hp,J,hr1,congrArg (Value.int .i64) (Ej (by omega)),hn,J⟩
theorem Zhf {f:FuncId} {args:Array Value} {U:World} {b k:Nat} (hk:k<=8) (h:RdP f args U b (M0 k) (repN k)):RdP f args U b (Qm k) (repI k):=by
 intro r hrl w h0;refine Calls.mono (h r hrl w h0) ?_;rintro e w' (⟨v,cs',R',rfl,⟨n,r1,hp,rfl,hr1,rfl,hn,rfl⟩,hw⟩ | ⟨hm,rfl,hb⟩)
 ·have h8:n<18446744073709551616:=Nat.lt_of_lt_of_le hn (Nat.le_trans (Nat.pow_le_pow_right (by omega) hk) (by decide));refine .inl ⟨_,_,_,J,⟨toI n,r1,by unfold Qm Y9;rw [hp];rfl,rfl,hr1,rfl,toI_ok h8,fun h2=>?_,rfl⟩,hw⟩;have h3:n<65536:=Nat.lt_of_lt_of_le hn (Nat.le_trans (Nat.pow_le_pow_right (by omega) h2) (by decide));rw [Sa (by omega)];omega
 ·exact .inr ⟨by unfold Qm Y9;rw [hm],rfl,hb⟩
theorem Po (U:World) (b:Nat):RdP 115 #[pt b] U b (Qm 1) (repI 1):=Zhf (by omega) (U8 U b)
theorem O1 (U:World) (b:Nat):RdP 185 #[pt b] U b (Qm 2) (repI 2):=Zhf (by omega) (Ey U b)
theorem Zdq (U:World) (b:Nat):RdP 285 #[pt b] U b (Qm 8) (repI 8):=Zhf (by omega) (Zaw U b)
theorem E4 (U:World) (b:Nat):RdP 181 #[pt b] U b Dd repB:=by
 intro r hrl w h0;have hS:=V7.first (some r) Dd
 refine Wy (h0.sat) (args:=[pt b]) Tryz.func181 J Tryz.ntmps181 ?_;refine Zt (Zd (Za J (Zx J) (Zo (Zj (Zt (Zd (Za J (Zr J) (Y6 Mn J J 0 J h0.base (Vk h0) (U8 U b r hrl) (fun hm=>Yt (Xi (W2 hS hm))) ?_))))))));rintro v cs' ⟨R',n,r1,hp,rfl,hr1,rfl,hn, -⟩;replace hS:=Xn hS hp;rw [Sa (show n<9223372036854775808 by omega)];refine Za J (Zx J) (Zo (Zj (Zt (Zd (Za J (Zr J) (Za J (Xo J J) (Z7 Xq J J (fun w _=>Ym _ w) ?_ ?_)))))))
 rotate_left
 ·intro o1;replace o1:=dFa o1;refine Z3 (G5 h0.base (Vk h0) (Xi ?_));rw [if_pos (by omega)] at hS;exact hS
 intro o1;replace o1:=dTr o1;refine Zo (Zj (Zt (Zd (Za J (Zr J) (Za J (Xx J J) (Za J (Zx J) (Zo (Zj (Yz (Tw J J 0 J ?_))))))))));rw [if_neg (by omega)] at hS;exact ⟨_,r1,Vm hS,J,hr1,congrArg Value.bool (by rw [Bool.eq_iff_iff];simp only [decide_eq_true_eq];omega),rfl⟩
theorem t1p:Tryz.prog.underlying 403=some (.pointer 5):=by kernel_rfl
theorem c1u8:Tryz.prog.cellsOf 5=1:=by kernel_rfl
theorem Zbk (s:ByteArray) (w:World) (hs:s.size<=4000000):Qd Tryz.prog 242 #[.string s] w (.string s):=by
 refine V0 (args:=[.string s]) Tryz.func242 J Tryz.ntmps242 ?_;refine Zt (Zd (Za J (Zx J) (Zo (Zj (Zt (Zt (Zd (Za J (Zr J) (Za J (Mi (Np J) J) (Za J (Xx J J) (Zo (Zj (Xc J ?_ ?_)))))))))))))
 ·intro c1;refine Zt (Zd (Za J (Zx J) (Zo (Zj (Yz (Wa (X8 J J ?_)))))));have h9:s=⟨#[]⟩:=ByteArray.ext (Array.eq_empty_of_size_eq_zero (by show s.size=0;omega));rw [h9]
 ·intro c1;have hne:s.size≠0:=by omega
  refine Xe (Zj (Zt (Zd (Za J (Zr J) (Za J (Mi (Np J) J) (WL_make J (ta J) J J (by omega) (fun b M hM=>?_)))))));refine Za J (Zx J) (Zo (Zj (Zt (Zd (Za J (Zr J) (Za J (Zr J) (Zuq J (ta J) J J hM (Zo (Zj (Zt (Zd (Za J (Zr J) (Za J (Qr (i:=0) (ts J) J J (by omega)) ?_)))))))))))));refine Za J (Zr J) (Za J (Xv (ts J) J) (Ziv J t1p c1u8 J J hne (by omega) ?_));refine Za J (Zx J) (Zo (Zj (Yz (X8 J J ?_))));rfl
theorem Pf (s:ByteArray) (w:World) (hs:s.size<=4000000):Qd Tryz.prog 131 #[.string s] w (.string s):=by
 refine V0 (args:=[.string s]) Tryz.func131 J Tryz.ntmps131 ?_;refine Zt (Zd (Za J (Zx J) (Zo (Zj (Zt (Zd (Za J (Zr J) (Vw fn242 J J (fun w _=>Zbk s w hs) ?_))))))));refine Za J (Zx J) (Zo (Zj (Yz (X8 J J ?_))));rfl
theorem Un (U:World) (b:Nat):RdP 113 #[pt b] U b S9 repS:=by
 intro r hrl w h0;have hS:=V7.first (some r) S9
 refine Wy (h0.sat) (args:=[pt b]) Tryz.func113 J Tryz.ntmps113 ?_;refine Zt (Zd (Za J (Zx J) (Zo (Zj (Zt (Zd (Za J (Zr J) (Za J (Zr J) (Y6 Mn J J 0 J h0.base (Vk h0) (U8 U b r hrl) (fun hm=>Yt (Xi (W2 hS hm))) ?_)))))))));rintro v cs' ⟨R',n,r1,hp,rfl,hr1,rfl,hn, -⟩;replace hS:=Xn hS hp;rw [Sa (show n<9223372036854775808 by omega)];refine Y6 Zsu J J 0 J h0.base (Vk h0) (K4 U b n r1 (by omega)) (fun hm=>Yt (Xi (W2 hS hm))) ?_;rintro v cs' ⟨R',l,r2,hp2,rfl,hr2,rfl, -⟩;replace hS:=Xn hS hp2;have hl2:=(K6 hp2).1;have hll:(⟨l.toArray⟩:ByteArray).size<=255:=by rw [Is,hl2,List.length_take];omega
 refine Vw fn131 J J (fun w _=>Pf _ w (by omega)) ?_;refine Za J (Zx J) (Zo (Zj (Yz (Tw J J 0 J ?_))));exact ⟨_,r2,Vm hS,J,by omega,J,hll,J⟩
theorem O0 (U:World) (b:Nat):RdP 182 #[pt b] U b (pTy false) repT:=by
 intro r hrl w h0;have hS:=V7.first (some r) (pTy false)
 refine Wy (h0.sat) (args:=[pt b]) Tryz.func182 J Tryz.ntmps182 ?_;refine Zt (Zd (X1 J (tz J) ?_));intro b1 hb1;refine Zo (Zj (Zt (Zd (Za J (Zr J) (Y6 Mn J J 1 J h0.base (Vk h0) (Po U b r hrl) (fun hm=>Yt (Xi (W2 hS hm))) ?_)))));rintro v cs' ⟨R',k,r1,hp,rfl,hr1,rfl,hk, -, -⟩;replace hS:=Xn hS hp;rw [if_neg (by simp)] at hS;refine Za J (Ub (tb J) J J) (X1 J (tz J) ?_);intro b2 hb2;refine Y5 (tn J) J J 0 J J J J (Zo (Zj (Zt (Zt (Zd (Za J (Zy (ff J) J) (Za J (Z8 (t1 J) J (Z1 0 J J)) (Za J (Xx J J) (Zo (Zj (Xc J ?_ ?_)))))))))))
 ·intro c1;rw [if_pos c1] at hS;refine Zd (Za J (Zr J) (Y6 Ld J J 2 J h0.base (Vk h0) (Un U b r1 (by omega)) (fun hm=>Yt (Xi (W2 hS hm))) ?_));rintro v cs' ⟨R',c,r2,hp2,rfl,hr2,rfl,hc, -⟩;replace hS:=Xn hS hp2;refine Za J (Zy (ff J) J) (Px (t1 J) J J 0 J J J J (Zo (Zj (Zt (Zd (Za J (Ys (tn J) J 0 J J) (Y5 (tn J) J J 1 J J J J (Zo (Zj (Yz (Sf (Pz J (W8 (tn J) J (X2 1 J) J)) 2 J ?_)))))))))));exact ⟨⟨k,c⟩,r2,Vm hS,J,by omega,J,⟨hk,U3 hc⟩,J⟩
 ·intro c1;rw [if_neg c1] at hS;refine Xe (Zj (Zt (Zd (Za J (Ys (tn J) J 0 J J) (Y5 (tn J) J J 1 J J J J (Zo (Zj (Yz (Sf (Pz J (W8 (tn J) J (X2 1 J) J)) 2 J ?_)))))))));exact ⟨⟨k,mt⟩,r1,Vm hS,J,hr1,J,⟨hk,Mw⟩,J⟩
end



section
open Go.RowKit At E
def fdS (s:ByteArray) (f:Fld):ByteArray:=s++U2 f.name++Kx f.stat++W7 f.ty
def topS (c:Cl):ByteArray:=⟨#[67,76,65,83]⟩++U2 c.name++U2 c.super++Wl (c.fields.length:Nat) 1
def fdsS (c:Cl):ByteArray:=c.fields.foldl fdS (topS c)
def Tt (c:Cl):ByteArray:=c.methods.foldl (fun s m=>s++Qh m) (fdsS c++Wl (c.methods.length:Nat) 1)
structure ClSmall (c:Cl):Prop where
 nm:c.name.size<=12/\c.super.size<=12
 fl:c.fields.length<=20
 ml:c.methods.length<=20
 fi:∀ f ∈ c.fields,f.name.size<=12/\f.ty.cls.size<=12
 mi:∀ m ∈ c.methods,MeSmall m
theorem M9 {c:Cl} (h:Xg c=true):ClSmall c:=by
 unfold Xg at h;simp only [Bool.and_eq_true,decide_eq_true_eq] at h;obtain ⟨⟨⟨⟨⟨h1,h2⟩,h3⟩,h4⟩,h5⟩,h6⟩:=h;refine ⟨⟨Uc h1,Uc h2⟩,by omega,by omega,fun f hf=>?_,fun m hm=>?_⟩
 ·obtain ⟨k,hk⟩:=List.mem_iff_getElem?.1 hf
  have hkl:k<c.fields.length:=by
   rcases Nat.lt_or_ge k c.fields.length with h' | h'
   ·exact h'
   ·rw [List.getElem?_eq_none h'] at hk;cases hk
  have:=List.all_eq_true.1 h5 k (List.mem_range.2 hkl);unfold fdAt at this;rw [hk] at this;simp only [Bool.and_eq_true] at this;exact ⟨Uc this.1.1,Rn this.1.2⟩
 ·obtain ⟨k,hk⟩:=List.mem_iff_getElem?.1 hm
  have hkl:k<c.methods.length:=by
   rcases Nat.lt_or_ge k c.methods.length with h' | h'
   ·exact h'
   ·rw [List.getElem?_eq_none h'] at hk;cases hk
  have:=List.all_eq_true.1 h6 k (List.mem_range.2 hkl);unfold Bb at this;rw [hk] at this;simp only [Bool.and_eq_true] at this;exact Fi this.1
theorem topS_le {c:Cl} (h:ClSmall c):(topS c).size<=40:=by
 have:=h.nm;unfold topS;have e:(⟨#[67,76,65,83]⟩:ByteArray).size=4:=rfl;simp only [ByteArray.size_append,Xu,Tg,e];omega
theorem fdsS_le {c:Cl} (h:ClSmall c) (k:Nat):((c.fields.take k).foldl fdS (topS c)).size<=1000:=by
 have:=O8 fdS 30 (c.fields.take k) (topS c) (fun s f hf=>by have h1:=h.fi f (List.mem_of_mem_take hf);have h2:=Qn f.ty;simp only [fdS,ByteArray.size_append,Tg,Jf];omega);have h1:=topS_le h;have h2:=h.fl;have h3:(c.fields.take k).length<=20:=by rw [List.length_take];omega
 have h4:(c.fields.take k).length*30<=20*30:=Nat.mul_le_mul_right _ h3;omega
theorem Zhq {m:Me} (h:MeSmall m):(Qh m).size<=90000:=by
 have:=Zec h m.frames.length;rw [List.take_length] at this;exact this
theorem Cm {c:Cl} (h:ClSmall c) (k:Nat):((c.methods.take k).foldl (fun s m=>s++Qh m) (fdsS c++Wl (c.methods.length:Nat) 1)).size<=2000000:=by
 have:=O8 (fun s m=>s++Qh m) 90000 (c.methods.take k) (fdsS c++Wl (c.methods.length:Nat) 1) (fun s m hm=>by have h1:=Zhq (h.mi m (List.mem_of_mem_take hm));simp only [ByteArray.size_append];omega);have h1:=fdsS_le h c.fields.length;rw [List.take_length] at h1;have h5:(fdsS c).size<=1000:=h1;have h2:=h.ml;have h3:(c.methods.take k).length<=20:=by rw [List.length_take];omega
 have h4:(c.methods.take k).length*90000<=20*90000:=Nat.mul_le_mul_right _ h3;rw [ByteArray.size_append,Xu] at this;omega
theorem N6 {α:Type} (g:ByteArray->α->ByteArray) (f:α->List UInt8) (hg:∀ s x,dl (g s x)=dl s++f x):∀ (l:List α) (s:ByteArray),dl (l.foldl g s)=dl s++l.flatMap f
 | [],s=>by simp
 | x::l,s=>by rw [List.foldl_cons,N6 g f hg l,hg,List.flatMap_cons,List.append_assoc]
theorem Pc {α:Type} (g:α->List UInt8) (l:List α) (i:Nat) (hi:i<l.length):((l.take i).flatMap g).length+(g l[i]).length<=(l.flatMap g).length:=by
 have h:l.flatMap g=(l.take i).flatMap g++(g l[i]++(l.drop (i+1)).flatMap g):=by
  rw [<- List.flatMap_cons,<- List.flatMap_append,<- List.drop_eq_getElem_cons hi,List.take_append_drop]
 rw [h];simp only [List.length_append];omega
theorem Pd {α:Type} (g:α->List UInt8) (l:List α) (i:Nat) (hi:i<l.length):(l.take (i+1)).flatMap g=(l.take i).flatMap g++g l[i]:=by
 rw [List.take_succ_eq_append_getElem hi,List.flatMap_append,List.flatMap_cons,List.flatMap_nil,List.append_nil]
theorem Na {α:Type} (g:α->List UInt8) (l:List α) (i:Nat) (hi:¬ i<l.length):(l.take i).flatMap g=l.flatMap g:=by rw [List.take_of_length_le (by omega)]
def tyL (t:Ty):List UInt8:=dl (W7 t)
theorem Zny (l:List Ty):dl (R3 l)=dl (Wl (l.length:Nat) 1)++l.flatMap tyL:=N6 _ tyL (fun s t=>Wd s _) l _
theorem P3 (U:World) (b:Nat) (tv:Value) (l:List Ty) (hv:Uf U tv l):WrP Tryz.prog 192 #[pt b,tv] U b (dl (R3 l)):=by
 intro w v bs h0 hl;obtain ⟨p,e,rfl,hlen,hr1⟩:=hv.is;replace hr1:Hid _:=hr1;rw [Zny] at hl ⊢;simp only [List.length_append] at hl;refine Wy (h0.sat) (args:=[pt b,.slice p l.length e]) Tryz.func192 J Tryz.ntmps192 ?_;refine Zt (Zd (Za J (Zr J) (Za J (Zr J) (Za J (Xv (ts J) J) (Y2 O9 J J 0 J h0.base h0.F (Vq U b (l.length:Nat)) (by omega) ?_)))));intro v1;refine Zo (Zj (Zt (Zd (Za J (Zr J) (Za J (Xv (ts J) J) (Za J (Zr J) (Zo (Zj (Yy (Py (congrArg (wrA _) (show _=bs++dl (Wl (l.length:Nat) 1)++(l.take 0).flatMap tyL from by simp)) ?_))))))))));refine Vb (Vc (X:=Nat × Value) (fun x:Nat × Value=>[(0,pt b),(10,.slice p l.length e),(11,iN l.length),(12,iN x.1)]) _ _ (fun x:Nat × Value=>[(b,[x.2])]) (fun x:Nat × Value=>wrA x.2 (bs++dl (Wl (l.length:Nat) 1)++(l.take x.1).flatMap tyL)) (fun x:Nat × Value=>x.1<=l.length) (fun x:Nat × Value=>l.length - x.1) ((0,v1)) (Nat.zero_le _) ?_) ⟨J,J,J,J,trivial⟩;intro x hI;refine Zt (Zd (Za J (Vf J J) (Zo (Zj (Zt (Xc J ?_ ?_))))))
 ·intro c1;have hx:x.1<l.length:=by omega
  obtain ⟨b',o',r,hp,hb,⟨hr, -⟩,hc⟩:=hr1.out x.1 l[x.1] (List.getElem?_eq_getElem hx);subst hp;subst hr;refine Xe (Zj (Zt (Yy (Zt (Zd (Za J (Qr (ts J) J J ?_) ?_))))))
  ·omega
  refine Za J (Vp (tn J) J (Ow h0.base h0.F hb hc) J) (X1 J (tz J) ?_);intro b1 hb1;refine Y5 (tn J) J J 0 J J J J (Zo (Zj (Zd (Za J (Zr J) (Za J (Ys (tn J) J 0 J J) ?_)))));refine Y2 Zfi J J 1 J h0.base h0.F (On U b l[x.1]) (by have hr:=Pc tyL l x.1 hx;unfold tyL at hr;simp only [List.length_append];unfold tyL at *;omega) ?_;intro v2;refine Zo (Y3 (Zj (Zd ?_)));refine Za J (Vt J J ?_) ?_;omega;refine Za J (Zr J) (Zo ?_);refine Wh ((x.1+1,v2)) ?_ (hx) 1 J (congrArg (wrA v2) (by rw [Pd tyL l x.1 hx,<- List.append_assoc];rfl)) ⟨rfl,rfl,rfl,rfl,trivial⟩;omega
 ·intro c1;refine Vd (Va (Wo (W9 ?_)));refine Ux h0 J (i:=0) J ?_;rw [Na tyL l x.1 (by omega),List.append_assoc]
theorem opd_eq (op:Int):Vr op=if X3 op = -1 then 0 else X3 op:=by
 unfold Vr X3;by_cases h1:op=1
 ·rw [if_pos h1,if_pos h1];rfl
 rw [if_neg h1,if_neg h1];by_cases h2:op=2\/op=3
 ·rw [if_pos h2,if_pos h2];rfl
 rw [if_neg h2,if_neg h2];by_cases h3:op=10\/op=11\/op=12\/op=13
 ·rw [if_pos h3,if_pos h3];rfl
 rw [if_neg h3,if_neg h3];by_cases h4:op=15\/op=25\/op=26
 ·rw [if_pos h4,if_pos h4];rfl
 rw [if_neg h4,if_neg h4];by_cases h5:op=16\/op=17\/op=18\/op=19
 ·rw [if_pos h5,if_pos h5];rfl
 rw [if_neg h5,if_neg h5];by_cases h6:op=20\/op=21
 ·rw [if_pos h6,if_pos h6];rfl
 rw [if_neg h6,if_neg h6];by_cases h7:op<0\/32<op
 ·rw [if_pos h7];rfl
 ·rw [if_neg h7];rfl
theorem Wm {op k:Int} (hk:k=1\/k=2\/k=3\/k=4\/k=5\/k=6):Vr op=k↔X3 op=k:=by
 rw [opd_eq];split<;>omega
theorem Zet {i:Ins} (h:Vr i.op=1):dl (Vy i)=dl (Wl i.op 1)++dl (Wl i.n 8):=by
 have h:=(Wm (by omega)).1 h;unfold Vy;rw [if_pos h,Wd]
theorem Zes {i:Ins} (h:Vr i.op=2):dl (Vy i)=dl (Wl i.op 1)++dl (Wl i.n 1):=by
 have h:=(Wm (by omega)).1 h;unfold Vy;rw [if_neg (by omega),if_pos h,Wd]
theorem Zeq {i:Ins} (h:Vr i.op=3):dl (Vy i)=dl (Wl i.op 1)++dl (Wl i.n 2):=by
 have h:=(Wm (by omega)).1 h;unfold Vy;rw [if_neg (by omega),if_neg (by omega),if_pos h,Wd]
theorem Zep {i:Ins} (h:Vr i.op=4):dl (Vy i)=dl (Wl i.op 1)++dl (U2 i.ref.cls):=by
 have h:=(Wm (by omega)).1 h;unfold Vy;rw [if_neg (by omega),if_neg (by omega),if_neg (by omega),if_pos h,Wd]
theorem Zeo {i:Ins} (h:Vr i.op=5):dl (Vy i)=dl (Wl i.op 1)++dl (U2 i.ref.cls)++dl (U2 i.ref.name)++dl (W7 i.ref.ty):=by
 have h:=(Wm (by omega)).1 h;unfold Vy;rw [if_neg (by omega),if_neg (by omega),if_neg (by omega),if_neg (by omega),if_pos h,Wd,Wd,Wd]
theorem Zen {i:Ins} (h:Vr i.op=6):dl (Vy i)=dl (Wl i.op 1)++dl (U2 i.ref.cls)++dl (U2 i.ref.name)++dl (R3 i.ref.params)++dl (W7 i.ref.ty):=by
 have h:=(Wm (by omega)).1 h;unfold Vy;rw [if_neg (by omega),if_neg (by omega),if_neg (by omega),if_neg (by omega),if_neg (by omega),if_pos h,Wd,Wd,Wd,Wd]
theorem Zeu {i:Ins} (h1:¬ Vr i.op=1) (h2:¬ Vr i.op=2) (h3:¬ Vr i.op=3) (h4:¬ Vr i.op=4) (h5:¬ Vr i.op=5) (h6:¬ Vr i.op=6):dl (Vy i)=dl (Wl i.op 1):=by
 have h1:=fun h=>h1 ((Wm (by omega)).2 h);have h2:=fun h=>h2 ((Wm (by omega)).2 h);have h3:=fun h=>h3 ((Wm (by omega)).2 h);have h4:=fun h=>h4 ((Wm (by omega)).2 h);have h5:=fun h=>h5 ((Wm (by omega)).2 h);have h6:=fun h=>h6 ((Wm (by omega)).2 h);unfold Vy;rw [if_neg h1,if_neg h2,if_neg h3,if_neg h4,if_neg h5,if_neg h6]
theorem Zhv (i:Ins):(dl (Wl i.op 1)).length<=(dl (Vy i)).length:=by
 by_cases h1:Vr i.op=1
 ·rw [Zet h1];simp only [List.length_append];omega
 by_cases h2:Vr i.op=2
 ·rw [Zes h2];simp only [List.length_append];omega
 by_cases h3:Vr i.op=3
 ·rw [Zeq h3];simp only [List.length_append];omega
 by_cases h4:Vr i.op=4
 ·rw [Zep h4];simp only [List.length_append];omega
 by_cases h5:Vr i.op=5
 ·rw [Zeo h5];simp only [List.length_append];omega
 by_cases h6:Vr i.op=6
 ·rw [Zen h6];simp only [List.length_append];omega
 rw [Zeu h1 h2 h3 h4 h5 h6];omega
theorem Zcq (U:World) (b:Nat) (i:Ins) (pv:Value) (hp:Uf U pv i.ref.params):WrP Tryz.prog 194 #[pt b,.agg (D5 i pv).toArray] U b (dl (Vy i)):=by
 intro w v bs h0 hl;have h1:=Zhv i;refine Wy (h0.sat) (args:=[pt b,.agg (D5 i pv).toArray]) Tryz.func194 J Tryz.ntmps194 ?_;refine Zt (Zd (Uu J J ?_));intro b1 hb1;refine Zo (Zj (Zt (Zd (Za J (Zr J) (Za J (Zy (ff J) J) (Za J (Z8 (t1 J) J (Z1 0 J J)) (Y2 O9 J J 1 J h0.base h0.F (Vq U b i.op) (by omega) ?_)))))));intro v1;refine Zo (Zj (Zt (Zd (Za J (Zy (ff J) J) (Za J (Z8 (t1 J) J (Z1 0 J J)) (Vw Zkr J J (fun w _=>Qg _ w) ?_))))));refine Zo (Zj (Yy (Zt (Zd (Za J (Xx J J) (Za J (Zx J) (Zo (Zj (Xc J ?_ ?_)))))))))
 ·intro c1;have e:=Zet c1;rw [e] at hl;simp only [List.length_append] at hl;refine Zd (Za J (Zr J) (Za J (Zy (ff J) J) (Za J (Z8 (t1 J) J (Z1 0 J J)) ?_)));refine Y2 fn286 J J 1 J h0.base h0.F (Zcs U b i.n) (by (try simp only [List.length_append]);omega) ?_;intro v2;refine Zo (Y3 ?_);refine Ux h0 J (i:=1) J ?_;rw [e];simp only [List.append_assoc]
 ·intro c1;refine Zt (Zd (Za J (Xx J J) (Za J (Zx J) (Zo (Zj (Xc J ?_ ?_))))))
  ·intro c2;have e:=Zes c2;rw [e] at hl;simp only [List.length_append] at hl;refine Zd (Za J (Zr J) (Za J (Zy (ff J) J) (Za J (Z8 (t1 J) J (Z1 0 J J)) ?_)));refine Y2 O9 J J 1 J h0.base h0.F (Vq U b i.n) (by (try simp only [List.length_append]);omega) ?_;intro v3;refine Zo (Y3 ?_);refine Ux h0 J (i:=1) J ?_;rw [e];simp only [List.append_assoc]
  ·intro c2;refine Zt (Zd (Za J (Xx J J) (Za J (Zx J) (Zo (Zj (Xc J ?_ ?_))))))
   ·intro c3;have e:=Zeq c3;rw [e] at hl;simp only [List.length_append] at hl;refine Zd (Za J (Zr J) (Za J (Zy (ff J) J) (Za J (Z8 (t1 J) J (Z1 0 J J)) ?_)));refine Y2 Al J J 1 J h0.base h0.F (Q6 U b i.n) (by (try simp only [List.length_append]);omega) ?_;intro v4;refine Zo (Y3 ?_);refine Ux h0 J (i:=1) J ?_;rw [e];simp only [List.append_assoc]
   ·intro c3;refine Zt (Zd (Za J (Xx J J) (Za J (Zx J) (Zo (Zj (Xc J ?_ ?_))))))
    ·intro c4;have e:=Zep c4;rw [e] at hl;simp only [List.length_append] at hl;refine Zd (Za J (Zr J) (Za J (Zy (ff J) J) (Za J (Zy (ff J) J) (Za J (Z8 (t1 J) J (Z1 0 J J)) ?_))));refine Y2 Lc J J 1 J h0.base h0.F (Um U b i.ref.cls) (by (try simp only [List.length_append]);omega) ?_;intro v5;refine Zo (Y3 ?_);refine Ux h0 J (i:=1) J ?_;rw [e];simp only [List.append_assoc]
    ·intro c4;refine Zt (Zd (Za J (Xx J J) (Za J (Zx J) (Zo (Zj (Xc J ?_ ?_))))))
     ·intro c5;have e:=Zeo c5;rw [e] at hl;simp only [List.length_append] at hl;refine Zt (Zd (Za J (Zr J) (Za J (Zy (ff J) J) (Za J (Zy (ff J) J) (Za J (Z8 (t1 J) J (Z1 0 J J)) ?_)))));refine Y2 Lc J J 1 J h0.base h0.F (Um U b i.ref.cls) (by (try simp only [List.length_append]);omega) ?_;intro v6;refine Zo (Zj (Zt (Zd (Za J (Zr J) (Za J (Zy (ff J) J) (Za J (Zy (ff J) J) (Za J (Z8 (t1 J) J (Z1 0 J J)) ?_)))))));refine Y2 Lc J J 1 J h0.base h0.F (Um U b i.ref.name) (by (try simp only [List.length_append]);omega) ?_;intro v7;refine Zo (Zj (Zd (Za J (Zr J) (Za J (Zy (ff J) J) (Za J (Zy (ff J) J) (Za J (Ys (tn J) J 0 J J) ?_))))));refine Y2 Zfi J J 1 J h0.base h0.F (On U b i.ref.ty) (by (try simp only [List.length_append]);omega) ?_;intro v8;refine Zo (Y3 ?_);refine Ux h0 J (i:=1) J ?_;rw [e];simp only [List.append_assoc]
     ·intro c5;refine Zt (Zd (Za J (Xx J J) (Za J (Zx J) (Zo (Zj (Xc J ?_ ?_))))))
      ·intro c6;have e:=Zen c6;rw [e] at hl;simp only [List.length_append] at hl;refine Zt (Zd (Za J (Zr J) (Za J (Zy (ff J) J) (Za J (Zy (ff J) J) (Za J (Z8 (t1 J) J (Z1 0 J J)) ?_)))));refine Y2 Lc J J 1 J h0.base h0.F (Um U b i.ref.cls) (by (try simp only [List.length_append]);omega) ?_;intro v9;refine Zo (Zj (Zt (Zd (Za J (Zr J) (Za J (Zy (ff J) J) (Za J (Zy (ff J) J) (Za J (Z8 (t1 J) J (Z1 0 J J)) ?_)))))));refine Y2 Lc J J 1 J h0.base h0.F (Um U b i.ref.name) (by (try simp only [List.length_append]);omega) ?_;intro v10;refine Zo (Zj (Zt (Zd (Za J (Zr J) (Za J (Zy (ff J) J) (Za J (Zy (ff J) J) (Za J (Z8 (t1 J) J (Z1 0 J J)) ?_)))))));refine Y2 Zks J J 1 J h0.base h0.F (P3 U b pv i.ref.params hp) (by (try simp only [List.length_append]);omega) ?_;intro v11;refine Zo (Zj (Zd (Za J (Zr J) (Za J (Zy (ff J) J) (Za J (Zy (ff J) J) (Za J (Ys (tn J) J 0 J J) ?_))))));refine Y2 Zfi J J 1 J h0.base h0.F (On U b i.ref.ty) (by (try simp only [List.length_append]);omega) ?_;intro v12;refine Zo (Y3 ?_);refine Ux h0 J (i:=1) J ?_;rw [e];simp only [List.append_assoc]
      ·intro c6;have e:=Zeu c1 c2 c3 c4 c5 c6;refine Xe (Y3 ?_);refine Ux h0 J (i:=1) J ?_;rw [e];done
def hdL (h:Hd):List UInt8:=dl (Wl h.lo 2)++dl (Wl h.hi 2)++dl (Wl h.pos 2)++dl (U2 h.cls)
theorem C5 (U:World) (b:Nat) (h:Hd):WrP Tryz.prog 195 #[pt b,.agg (hdV h).toArray] U b (hdL h):=by
 intro w v bs h0 hl;unfold hdL at hl;simp only [List.length_append] at hl;refine Wy (h0.sat) (args:=[pt b,.agg (hdV h).toArray]) Tryz.func195 J Tryz.ntmps195 ?_;refine Zt (Zd (Uu J J ?_));intro b1 hb1;refine Zo (Zj (Zt (Zd (Za J (Zr J) (Za J (Zy (ff J) J) (Za J (Z8 (t1 J) J (Z1 0 J J)) ?_))))));refine Y2 Al J J 1 J h0.base h0.F (Q6 U b h.lo) (by (try simp only [List.length_append]);omega) ?_;intro v1;refine Zo (Zj (Zt (Zd (Za J (Zr J) (Za J (Zy (ff J) J) (Za J (Z8 (t1 J) J (Z1 0 J J)) ?_))))));refine Y2 Al J J 1 J h0.base h0.F (Q6 U b h.hi) (by (try simp only [List.length_append]);omega) ?_;intro v2;refine Zo (Zj (Zt (Zd (Za J (Zr J) (Za J (Zy (ff J) J) (Za J (Z8 (t1 J) J (Z1 0 J J)) ?_))))));refine Y2 Al J J 1 J h0.base h0.F (Q6 U b h.pos) (by (try simp only [List.length_append]);omega) ?_;intro v3;refine Zo (Zj (Zd (Za J (Zr J) (Za J (Zy (ff J) J) (Za J (Z8 (t1 J) J (Z1 0 J J)) ?_)))));refine Y2 Lc J J 1 J h0.base h0.F (Um U b h.cls) (by (try simp only [List.length_append]);omega) ?_;intro v4;refine Zo ?_;refine Ux h0 J (i:=1) J ?_;unfold hdL;simp only [List.append_assoc]
def frL (f:Fr):List UInt8:=dl (Wl f.pos 2)++dl (R3 f.locals)++dl (R3 f.stack)
theorem Zcr (U:World) (b:Nat) (f:Fr) (lv sv:Value) (hlv:Uf U lv f.locals) (hsv:Uf U sv f.stack):WrP Tryz.prog 196 #[pt b,.agg (frV f lv sv).toArray] U b (frL f):=by
 intro w v bs h0 hl;unfold frL at hl;simp only [List.length_append] at hl;refine Wy (h0.sat) (args:=[pt b,.agg (frV f lv sv).toArray]) Tryz.func196 J Tryz.ntmps196 ?_;refine Zt (Zd (Uu J J ?_));intro b1 hb1;refine Zo (Zj (Zt (Zd (Za J (Zr J) (Za J (Zy (ff J) J) (Za J (Z8 (t1 J) J (Z1 0 J J)) ?_))))));refine Y2 Al J J 1 J h0.base h0.F (Q6 U b f.pos) (by (try simp only [List.length_append]);omega) ?_;intro v1;refine Zo (Zj (Zt (Zd (Za J (Zr J) (Za J (Zy (ff J) J) (Za J (Z8 (t1 J) J (Z1 0 J J)) ?_))))));refine Y2 Zks J J 1 J h0.base h0.F (P3 U b lv f.locals hlv) (by (try simp only [List.length_append]);omega) ?_;intro v2;refine Zo (Zj (Zd (Za J (Zr J) (Za J (Zy (ff J) J) (Za J (Z8 (t1 J) J (Z1 0 J J)) ?_)))));refine Y2 Zks J J 1 J h0.base h0.F (P3 U b sv f.stack hsv) (by (try simp only [List.length_append]);omega) ?_;intro v3;refine Zo ?_;refine Ux h0 J (i:=1) J ?_;unfold frL;simp only [List.append_assoc]
def J7 (i:Ins):List UInt8:=dl (Vy i)
def Mm (m:Me):List UInt8:=dl (U2 m.name)++dl (Kx m.stat)++dl (R3 m.params)++dl (W7 m.result)++dl (Wl m.locals 1)++dl (Wl m.stack 1)++dl (Wl (m.code.length:Nat) 2)
theorem Zif (m:Me):dl (Qh m)=Mm m++m.code.flatMap J7++dl (Wl (m.handlers.length:Nat) 1)++m.handlers.flatMap hdL++dl (Wl (m.frames.length:Nat) 1)++m.frames.flatMap frL:=by
 unfold Qh hdsS A0
 rw [N6 frS frL (fun s f=>by unfold frS frL;simp only [Wd,List.append_assoc]),Wd,N6 hdS hdL (fun s f=>by unfold hdS hdL;simp only [Wd,List.append_assoc]),Wd,
  N6 _ J7 (fun s i=>Wd s _)]
 unfold D7 Mm;simp only [Wd,List.append_assoc]
theorem Zaf (U:World) (b:Nat) (m:Me) (pv cv hv fv:Value) (hm:MeParts U m pv cv hv fv):WrP Tryz.prog 125 #[pt b,.agg (meV m pv cv hv fv).toArray] U b (dl (Qh m)):=by
 intro w v bs h0 hl;have hps:=hm.ps;obtain ⟨p1,e1,rfl, -, -⟩:=hm.ps.is;obtain ⟨p2,e2,rfl,hk2,hr2⟩:=hm.cs.is;obtain ⟨p3,e3,rfl,hk3,hr3⟩:=hm.hs.is;obtain ⟨p4,e4,rfl,hk4,hr4⟩:=hm.fs.is;replace hr2:Hid _:=hr2;replace hr3:Hid _:=hr3;replace hr4:Hid _:=hr4;clear hm;rw [Zif] at hl ⊢;have hl':=hl;unfold Mm at hl;simp only [List.length_append] at hl hl';refine Wy (h0.sat) (args:=[pt b,.agg (meV m (.slice p1 m.params.length e1) (.slice p2 m.code.length e2) (.slice p3 m.handlers.length e3) (.slice p4 m.frames.length e4)).toArray]) Tryz.func125 J Tryz.ntmps125 ?_;refine Zt (Zd (Uu J J ?_));intro b1 hb1;refine Zo (Zj (Zt (Zd (Za J (Zr J) (Za J (Zy (ff J) J) (Za J (Z8 (t1 J) J (Z1 0 J J)) ?_))))));refine Y2 Lc J J 1 J h0.base h0.F (Um U b m.name) (by (try simp only [List.length_append]);omega) ?_;intro v1;refine Zo (Zj (Zt (Zd (Za J (Zr J) (Za J (Zy (ff J) J) (Za J (Z8 (t1 J) J (Z1 0 J J)) ?_))))));refine Y2 fn123 J J 1 J h0.base h0.F (Eg U b m.stat) (by (try simp only [List.length_append]);omega) ?_;intro v2;refine Zo (Zj (Zt (Zd (Za J (Zr J) (Za J (Zy (ff J) J) (Za J (Z8 (t1 J) J (Z1 0 J J)) ?_))))));refine Y2 Zks J J 1 J h0.base h0.F (P3 U b _ m.params hps) (by (try simp only [List.length_append]);omega) ?_;intro v3;refine Zo (Zj (Zt (Zd (Za J (Zr J) (Za J (Zy (ff J) J) (Za J (Ys (tn J) J 0 J J) ?_))))));refine Y2 Zfi J J 1 J h0.base h0.F (On U b m.result) (by (try simp only [List.length_append]);omega) ?_;intro v4;refine Zo (Zj (Zt (Zd (Za J (Zr J) (Za J (Zy (ff J) J) (Za J (Z8 (t1 J) J (Z1 0 J J)) ?_))))));refine Y2 O9 J J 1 J h0.base h0.F (Vq U b m.locals) (by (try simp only [List.length_append]);omega) ?_;intro v5;refine Zo (Zj (Zt (Zd (Za J (Zr J) (Za J (Zy (ff J) J) (Za J (Z8 (t1 J) J (Z1 0 J J)) ?_))))));refine Y2 O9 J J 1 J h0.base h0.F (Vq U b m.stack) (by (try simp only [List.length_append]);omega) ?_;intro v6;refine Zo (Zj (Zt (Zd (Za J (Zr J) (Za J (Zy (ff J) J) (Za J (Z8 (t1 J) J (Z1 0 J J)) (Za J (Xv (ts J) J) ?_)))))));refine Y2 Al J J 1 J h0.base h0.F (Q6 U b (m.code.length:Nat)) (by (try simp only [List.length_append]);omega) ?_;intro v7;refine Zo (Zj (Zt (Zt (Zd (Za J (Zy (ff J) J) (Za J (Z8 (t1 J) J (Z1 0 J J)) (Za J (Xv (ts J) J) (Za J (Zr J) (Zo (Zj (Yy ?_)))))))))));refine Py (congrArg (wrA _) (show _=bs++Mm m++(m.code.take 0).flatMap J7 from by unfold Mm;simp only [List.append_assoc,List.take_zero,List.flatMap_nil,List.append_nil])) ?_;refine Vb (Vc (X:=Nat × Value) (fun x:Nat × Value=>[(0,pt b),(3,pt b1),(40,.slice p2 m.code.length e2),(41,iN m.code.length),(42,iN x.1)]) _ _ (fun x:Nat × Value=>[(b1,meV m (.slice p1 m.params.length e1) (.slice p2 m.code.length e2) (.slice p3 m.handlers.length e3) (.slice p4 m.frames.length e4)),(b,[x.2])]) (fun x:Nat × Value=>wrA x.2 (bs++Mm m++(m.code.take x.1).flatMap J7)) (fun x:Nat × Value=>x.1<=m.code.length) (fun x:Nat × Value=>m.code.length - x.1) ((0,v7)) (Nat.zero_le _) ?_) ⟨J,J,J,J,J,trivial⟩;intro x hI;refine Zt (Zd (Za J (Vf J J) (Zo (Zj (Zt (Xc J ?_ ?_))))))
 ·intro c1;have hx:x.1<m.code.length:=by omega
  obtain ⟨b',o',r,hp,hb,⟨qv,hr,hq, -⟩,hc⟩:=hr2.out x.1 m.code[x.1] (List.getElem?_eq_getElem hx);subst hp;subst hr;obtain ⟨q1,g1,rfl, -, -⟩:=hq.is;refine Xe (Zj (Zt (Yy (Zt (Zd (Za J (Qr (ts J) J J ?_) ?_))))))
  ·omega
  refine Za J (Vp (tn J) J (Ow h0.base h0.F hb hc) J) (X1 J (tz J) ?_);intro b2 hb2;refine Y5 (tn J) J J 0 J J J J (Zo (Zj (Zd (Za J (Zr J) (Za J (Ys (tn J) J 0 J J) ?_)))));refine Y2 fn194 J J 2 J h0.base h0.F (Zcq U b m.code[x.1] _ hq) (by have hr:=Pc J7 m.code x.1 hx;unfold J7 at *;simp only [List.length_append];omega) ?_;intro v8;refine Zo (Y3 (Zj (Zd ?_)));refine Za J (Vt J J ?_) ?_;omega;refine Za J (Zr J) (Zo ?_);refine Wh ((x.1+1,v8)) ?_ (hx) 1 J (congrArg (wrA v8) (by rw [Pd J7 m.code x.1 hx,<- List.append_assoc];rfl)) ⟨rfl,rfl,rfl,rfl,rfl,trivial⟩;omega
 ·intro c1;refine Vd (Va (Wo (W9 (Zj (Zt (Py (congrArg (wrA _) (show _=bs++Mm m++m.code.flatMap J7 from by rw [Na J7 m.code x.1 (by omega)])) ?_))))));refine Zd (Za J (Zr J) (Za J (Zy (ff J) J) (Za J (Z8 (t1 J) J (Z1 0 J J)) (Za J (Xv (ts J) J) ?_))));refine Y2 O9 J J 1 J h0.base h0.F (Vq U b (m.handlers.length:Nat)) (by (try simp only [List.length_append]);omega) ?_;intro v9;refine Zo (Zj (Zt (Zt (Zd (Za J (Zy (ff J) J) (Za J (Z8 (t1 J) J (Z1 0 J J)) (Za J (Xv (ts J) J) (Za J (Zr J) (Zo (Zj (Yy (Py (congrArg (wrA _) (show _=bs++Mm m++m.code.flatMap J7++dl (Wl (m.handlers.length:Nat) 1)++(m.handlers.take 0).flatMap hdL from by simp only [List.take_zero,List.flatMap_nil,List.append_nil])) ?_))))))))))));refine Vb (Vc (X:=Nat × Value) (fun y:Nat × Value=>[(0,pt b),(3,pt b1),(56,.slice p3 m.handlers.length e3),(57,iN m.handlers.length),(58,iN y.1)]) _ _ (fun y:Nat × Value=>[(b1,meV m (.slice p1 m.params.length e1) (.slice p2 m.code.length e2) (.slice p3 m.handlers.length e3) (.slice p4 m.frames.length e4)),(b,[y.2])]) (fun y:Nat × Value=>wrA y.2 (bs++Mm m++m.code.flatMap J7++dl (Wl (m.handlers.length:Nat) 1)++(m.handlers.take y.1).flatMap hdL)) (fun y:Nat × Value=>y.1<=m.handlers.length) (fun y:Nat × Value=>m.handlers.length - y.1) ((0,v9)) (Nat.zero_le _) ?_) ⟨J,J,J,J,J,trivial⟩;intro y hI;refine Zt (Zd (Za J (Vf J J) (Zo (Zj (Zt (Xc J ?_ ?_))))))
  ·intro c2;have hy:y.1<m.handlers.length:=by omega
   obtain ⟨b',o',r,hp,hb,⟨hr, -⟩,hc⟩:=hr3.out y.1 m.handlers[y.1] (List.getElem?_eq_getElem hy);subst hp;subst hr;refine Xe (Zj (Zt (Yy (Zt (Zd (Za J (Qr (ts J) J J ?_) ?_))))))
   ·omega
   refine Za J (Vp (tn J) J (Ow h0.base h0.F hb hc) J) (X1 J (tz J) ?_);intro b2 hb2;refine Y5 (tn J) J J 0 J J J J (Zo (Zj (Zd (Za J (Zr J) (Za J (Ys (tn J) J 0 J J) ?_)))));refine Y2 fn195 J J 2 J h0.base h0.F (C5 U b m.handlers[y.1]) (by have hr:=Pc hdL m.handlers y.1 hy;simp only [List.length_append];omega) ?_;intro v10;refine Zo (Y3 (Zj (Zd ?_)));refine Za J (Vt J J ?_) ?_;omega;refine Za J (Zr J) (Zo ?_);refine Wh ((y.1+1,v10)) ?_ (hy) 1 J (congrArg (wrA v10) (by rw [Pd hdL m.handlers y.1 hy,<- List.append_assoc])) ⟨J,J,J,J,J,trivial⟩;omega
  ·intro c2;refine Vd (Va (Wo (W9 (Zj (Zt (Py (congrArg (wrA _) (show _=bs++Mm m++m.code.flatMap J7++dl (Wl (m.handlers.length:Nat) 1)++m.handlers.flatMap hdL from by rw [Na hdL m.handlers y.1 (by omega)])) ?_))))));refine Zd (Za J (Zr J) (Za J (Zy (ff J) J) (Za J (Z8 (t1 J) J (Z1 0 J J)) (Za J (Xv (ts J) J) ?_))));refine Y2 O9 J J 1 J h0.base h0.F (Vq U b (m.frames.length:Nat)) (by (try simp only [List.length_append]);omega) ?_;intro v11;refine Zo (Zj (Zt (Zd (Za J (Zy (ff J) J) (Za J (Z8 (t1 J) J (Z1 0 J J)) (Za J (Xv (ts J) J) (Za J (Zr J) (Zo (Zj (Yy (Py (congrArg (wrA _) (show _=bs++Mm m++m.code.flatMap J7++dl (Wl (m.handlers.length:Nat) 1)++m.handlers.flatMap hdL++dl (Wl (m.frames.length:Nat) 1)++(m.frames.take 0).flatMap frL from by simp only [List.take_zero,List.flatMap_nil,List.append_nil])) ?_)))))))))));refine Vb (Vc (X:=Nat × Value) (fun z:Nat × Value=>[(0,pt b),(3,pt b1),(72,.slice p4 m.frames.length e4),(73,iN m.frames.length),(74,iN z.1)]) _ _ (fun z:Nat × Value=>[(b1,meV m (.slice p1 m.params.length e1) (.slice p2 m.code.length e2) (.slice p3 m.handlers.length e3) (.slice p4 m.frames.length e4)),(b,[z.2])]) (fun z:Nat × Value=>wrA z.2 (bs++Mm m++m.code.flatMap J7++dl (Wl (m.handlers.length:Nat) 1)++m.handlers.flatMap hdL++dl (Wl (m.frames.length:Nat) 1)++(m.frames.take z.1).flatMap frL)) (fun z:Nat × Value=>z.1<=m.frames.length) (fun z:Nat × Value=>m.frames.length - z.1) ((0,v11)) (Nat.zero_le _) ?_) ⟨J,J,J,J,J,trivial⟩;intro z hI;refine Zt (Zd (Za J (Vf J J) (Zo (Zj (Zt (Xc J ?_ ?_))))))
   ·intro c3;have hz:z.1<m.frames.length:=by omega
    obtain ⟨b',o',r,hp,hb,⟨lv,sv,hr,hq1,hq2, -⟩,hc⟩:=hr4.out z.1 m.frames[z.1] (List.getElem?_eq_getElem hz);subst hp;subst hr;obtain ⟨q1,g1,rfl, -, -⟩:=hq1.is;obtain ⟨q2,g2,rfl, -, -⟩:=hq2.is;refine Xe (Zj (Zt (Yy (Zt (Zd (Za J (Qr (ts J) J J ?_) ?_))))))
    ·omega
    refine Za J (Vp (tn J) J (Ow h0.base h0.F hb hc) J) (X1 J (tz J) ?_);intro b2 hb2;refine Y5 (tn J) J J 0 J J J J (Zo (Zj (Zd (Za J (Zr J) (Za J (Ys (tn J) J 0 J J) ?_)))));refine Y2 fn196 J J 2 J h0.base h0.F (Zcr U b m.frames[z.1] _ _ hq1 hq2) (by have hr:=Pc frL m.frames z.1 hz;simp only [List.length_append];omega) ?_;intro v12;refine Zo (Y3 (Zj (Zd ?_)));refine Za J (Vt J J ?_) ?_;omega;refine Za J (Zr J) (Zo ?_);refine Wh ((z.1+1,v12)) ?_ (hz) 1 J (congrArg (wrA v12) (by rw [Pd frL m.frames z.1 hz,<- List.append_assoc])) ⟨J,J,J,J,J,trivial⟩;omega
   ·intro c3;refine Vd (Va (Wo (W9 ?_)));refine Ux h0 J (i:=1) J ?_;rw [Na frL m.frames z.1 (by omega)];simp only [List.append_assoc]
end
end Go.Proofs.YtpofmnfkdkmieaaGreat
