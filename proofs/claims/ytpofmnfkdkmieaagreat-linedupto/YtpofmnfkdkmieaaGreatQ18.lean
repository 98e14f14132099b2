/- What is proved here: a string is appended to bytes; bytes bec -/
import Derived.Test.YtpofmnfkdkmieaaGreatQ17
set_option linter.unusedVariables false
set_option linter.unusedSimpArgs false
namespace Go.Proofs.YtpofmnfkdkmieaaGreat
namespace S
open Go Go.RowKit E
noncomputable def bC (l:List UInt8):List SV:=l.map fun q=>.v (.int .u8 q.toNat)
theorem Zeq (a b:List UInt8):bC (a++b)=bC a++bC b:=by unfold bC;rw [List.map_append]
theorem Fe (a:List UInt8):(bC a).length=a.length:=by unfold bC;rw [List.length_map]
theorem Ee {f:Nat->Nat} (l:List UInt8):X3 f (bC l)=bC l:=by
 induction l with
 | nil=>rfl
 | cons x r ih=>exact congrArg (fun z=>SV.v (.int .u8 x.toNat)::z) ih
theorem Zai (l:List UInt8):shL (bC l)=bC l:=Ee l
section
variable {P:Program} {l:Option Nat} {n:Nat} {all:Array Oper} {w0 w:World} {F:List Nat} {B B0:Nm} {N0 N:Nat} {G0 G:Nat->Option SB} {T:List Nat} {Q:Exit->Act->World->Prop} {L:List Oper} {E E':SE} {D:List SD} {H:Ch} {o:Oper}
theorem GL_aps {t u e x y b k:Nat} {i:TypeInfo} {c s:List UInt8} (hw:wants E all o.guard=some true) (ho:o.op=.call ⟨.builtin .append,#[.tmp x,.tmp y],#[t,u]⟩) (ht:P.underlying t=some (.slice e)) (hi:P.info? e=some i) (hz:zeroOk i=true) (h1:i.size=1) (hu:isStrT P u=true) (h8:isU8 i=true)
  (hx:slook E x=some (.sl b 0 c.length 0)) (hy:slook E y=some (.v (.string ⟨s.toArray⟩))) (hxy:x≠y) (hb:G b=some (.row e 1 k (bC c))) (hk:c.length<=k)
  (hbd:(c.length+s.length)*(i.bytes+1)<=1000000) (hp:putD n E o.dst (.sl N 0 (c++s).length 0)=some E') (kk:GL P l n all w0 F B0 N0 Q L E' D (N+1) (apG G b N (.row e 1 (c++s).length (bC (c++s))))):GL P l n all w0 F B0 N0 Q (o::L) E D N G:=by
 intro B w a hs hg ha;have hsz:(⟨s.toArray⟩:ByteArray).size=s.length:=by show s.toArray.size=_;simp
 have hst:strC ⟨s.toArray⟩=bC s:=by unfold strC bC;simp
 have hact:act P [(x,.sl 0 0 c.length 0),(y,.v (.string ⟨s.toArray⟩))] (one (shB (.row e 1 k (bC c)))) o=some (.val ((one (shB (.row e 1 k (bC c)))).set 0 none,some (.row e 1 (c++s).length (bC (c++s))),fun r=>.sl r 0 (c++s).length 0)):=by
  unfold act;rw [ho];simp only [acCall];have s1:sev [(x,Zk 0 0 c.length 0),(y,SV.v (.string ⟨s.toArray⟩))] (.tmp x)=some (.sl 0 0 c.length 0):=by simp only [sev];rw [Z9,Nat.beq_refl];rfl
  have s2:sev [(x,Zk 0 0 c.length 0),(y,SV.v (.string ⟨s.toArray⟩))] (.tmp y)=some (.v (.string ⟨s.toArray⟩)):=by simp only [sev];rw [Z9,W3 (fun e=>hxy e.symm)];simp only [cond_false];rw [Z9,Nat.beq_refl];rfl
  have g0:rowOf (one (shB (.row e 1 k (bC c)))) 0=some (e,1,k,bC c):=by
   unfold rowOf;rw [Xj];show some (e,1,k,shL (bC c))=_;rw [Zai]
  have hk':Nat.ble c.length k=true:=Nat.ble_eq_true_of_le hk;have hbd':Nat.ble ((c.length+s.length)*(i.bytes+1)) 1000000=true:=Nat.ble_eq_true_of_le hbd
  have ea:exAppend P (one (shB (.row e 1 k (bC c)))) t u (.sl 0 0 c.length 0) (.v (.string ⟨s.toArray⟩))=some ((one (shB (.row e 1 k (bC c)))).set 0 none,some (.row e 1 (c++s).length (bC (c++s))),fun r=>.sl r 0 (c++s).length 0):=by
   unfold exAppend;rw [ht];simp only;rw [hi];simp only [hz,cond_true,apS,g0,h1,Nat.beq_refl,hk',Bool.and_self,apTo,apNew,hsz,hst,hu,h8,hbd'];rw [List.take_of_length_le (by rw [Fe];omega),<- Zeq,List.length_append]
  simp only [acBuiltin,s1,s2,ea,Ar.of]
 refine Dy hw (G2 hb) (El:=[(x,.sl 0 0 c.length 0),(y,.v (.string ⟨s.toArray⟩))]) ⟨by rw [hx];rfl,by rw [hy];rfl,trivial⟩ hact (v:=.sl 1 0 (c++s).length 0) (σ':=_) rfl hp ?_ B w a hs hg ha
 have e2:after [b] N G (((one (shB (.row e 1 k (bC c)))).set 0 none).ext 1 |>.set 1 (some (.row e 1 (c++s).length (bC (c++s)))))=apG G b N (.row e 1 (c++s).length (bC (c++s))):=by
  have gg:∀ q,((((one (shB (.row e 1 k (bC c)))).set 0 none).ext 1).set 1 (some (Zw e 1 (c++s).length (bC (c++s))))).get q=if q=1 then some (Zw e 1 (c++s).length (bC (c++s))) else if q=0 then none else (one (shB (.row e 1 k (bC c)))).get q:=by
   intro q;rw [St.get_set _ (by unfold lim;omega),St.get_ext,St.get_set _ (by unfold lim;omega)]
  have hn3:((((one (shB (.row e 1 k (bC c)))).set 0 none).ext 1).set 1 (some (Zw e 1 (c++s).length (bC (c++s))))).n=2:=rfl;funext g
  unfold after apG;rw [hn3];by_cases e1:g=b
  ·subst e1;have:=hg.lt hb;rw [if_pos (by simp),show List.idxOf g [g]=0 by simp,gg,if_neg (by omega),if_pos rfl,if_neg (by omega),if_pos rfl];rfl
  ·rw [if_neg (by simp [e1])];by_cases h:g<N
   ·rw [if_pos h,if_neg (by omega),if_neg e1]
   ·rw [if_neg h];by_cases e3:g=N
    ·subst e3;rw [if_pos (show [b].length+(g - g)<2 by simp),show [b].length+(g - g)=1 by simp,gg,if_pos rfl,if_pos rfl];simp only [Option.map_some,W4,Ee]
    ·rw [if_neg (show ¬ [b].length+(g - N)<2 by simp;omega),if_neg e3,if_neg e1,(hg.new g (by omega)).2]
 have:=kk;rw [<- e2] at this;exact this
theorem HL_aps {i t u e x y b k:Nat} {ti:TypeInfo} {js:List Nat} {c s:List UInt8} (hw:wants E all o.guard=some true) (ho:o.op=.call ⟨.builtin .append,#[.tmp x,.tmp y],#[t,u]⟩) (ht:P.underlying t=some (.slice e)) (hi:P.info? e=some ti) (hz:zeroOk ti=true) (h1:ti.size=1) (hu:isStrT P u=true) (h8:isU8 ti=true)
  (hx:slook E x=some (.sl b 0 c.length 0)) (hy:slook E y=some (.v (.string ⟨s.toArray⟩))) (hxy:x≠y) (hb:H[i]?=some (b,.row e 1 k (bC c))) (hn:(i::js).Nodup) (hk:c.length<=k)
  (hbd:(c.length+s.length)*(ti.bytes+1)<=1000000) (hp:putD n E o.dst (.sl N 0 (c++s).length 0)=some E') (kk:HL P l n all w0 F B0 N0 T G0 Q L E' D (N+1) ((N,.row e 1 (c++s).length (bC (c++s)))::Yd H js)):HL P l n all w0 F B0 N0 T G0 Q (o::L) E D N H:=fun G hG B w a hs hg ha =>
 GL_aps hw ho ht hi hz h1 hu h8 hx hy hxy (hG.hs.get hb) hk hbd hp (kk _ (hG.ap hs.le (hg.new N (Nat.le_refl _)).2 hb hn _)) B w a hs hg ha
noncomputable def apS8 (P:Program) (t u:Nat):Option (Nat × Nat):=match P.underlying t with
 | some (.slice e)=>(match P.info? e with
  | some i=>bif zeroOk i&&Nat.beq i.size 1&&isStrT P u&&isU8 i then some (e,i.bytes) else none
  | none=>none)
 | _=>none
theorem HL_as {i t u e by_ x y b k:Nat} {js:List Nat} {c s:List UInt8} (hq:apS8 P t u=some (e,by_)) (hw:wants E all o.guard=some true) (ho:o.op=.call ⟨.builtin .append,#[.tmp x,.tmp y],#[t,u]⟩)
  (hx:slook E x=some (.sl b 0 c.length 0)) (hy:slook E y=some (.v (.string ⟨s.toArray⟩))) (hxy:Nat.beq x y=false) (hb:H[i]?=some (b,.row e 1 k (bC c))) (hn:(i::js).Nodup) (hk:c.length<=k)
  (hbd:(c.length+s.length)*(by_+1)<=1000000) (hp:putD n E o.dst (.sl N 0 (c++s).length 0)=some E') (kk:HL P l n all w0 F B0 N0 T G0 Q L E' D (N+1) ((N,.row e 1 (c++s).length (bC (c++s)))::Yd H js)):HL P l n all w0 F B0 N0 T G0 Q (o::L) E D N H:=by
 unfold apS8 at hq;split at hq
 ·rename_i e' ht
  split at hq
  ·rename_i ti hi
   cases hz:(zeroOk ti&&Nat.beq ti.size 1&&isStrT P u&&isU8 ti) with
   | false=>rw [hz] at hq;cases hq
   | true =>
    rw [hz] at hq;cases hq;simp only [Bool.and_eq_true] at hz;exact HL_aps hw ho ht hi hz.1.1.1 (Nat.eq_of_beq_eq_true hz.1.1.2) hz.1.2 hz.2 hx hy (fun e=>by rw [e,Nat.beq_refl] at hxy;cases hxy) hb hn hk hbd hp kk
  ·cases hq
 ·cases hq
theorem HL_cvs {i s d x b:Nat} {c:List UInt8} (hw:wants E all o.guard=some true) (ho:o.op=.convert s d (.tmp x)) (hx:slook E x=some (.sl b 0 c.length 0)) {e:Nat} (hs:P.underlying s=some (.slice e)) (hd:P.underlying d=some .string) (he:P.underlying e=some (.int .u8)) (hb:H[i]?=some (b,.row e 1 c.length (bC c))) (hp:putD n E o.dst (.v (.string ⟨c.toArray⟩))=some E')
  (kk:HL P l n all w0 F B0 N0 T G0 Q L E' D N H):HL P l n all w0 F B0 N0 T G0 Q (o::L) E D N H:=fun G hG=>by
 have hby:∀ l:List UInt8,bytesOf (bC l)=some l:=by
  intro l;induction l with
  | nil=>rfl
  | cons x r ih =>
   have hb:byteOf (SV.v (.int .u8 x.toNat))=some x:=by
    show (bif Nat.blt x.toNat 256 then some (UInt8.ofNat x.toNat) else none)=_;rw [show Nat.blt x.toNat 256=true from Nat.ble_eq_true_of_le x.toNat_lt,UInt8.ofNat_toNat];rfl
   show (match byteOf (SV.v (.int .u8 x.toNat)),bytesOf (bC r) with | some b,some l=>some (b::l) | _,_=>none)=_;rw [hb,ih]
 have g0:rowOf (one (shB (.row e 1 c.length (bC c)))) 0=some (e,1,c.length,bC c):=by
  unfold rowOf;rw [Xj];show some (e,1,c.length,shL (bC c))=_;rw [Zai]
 have hact:act P [(x,.sl 0 0 c.length 0)] (one (shB (.row e 1 c.length (bC c)))) o=some (.val (one (shB (.row e 1 c.length (bC c))),none,fun _=>.v (.string ⟨c.toArray⟩))):=by
  unfold act;rw [ho];have s1:sev [(x,Zk 0 0 c.length 0)] (.tmp x)=some (.sl 0 0 c.length 0):=by simp only [sev];rw [Z9,Nat.beq_refl];rfl
  simp only [s1,exConv,hs,hd,g0,he,Nat.beq_refl,Bool.and_self,List.take_of_length_le (Nat.le_of_eq (Fe c)),hby,show Nat.ble c.length c.length=true from Nat.ble_eq_true_of_le (Nat.le_refl _),cond_true,Option.bind_some];rfl
 have hset:Vb G b (.row e 1 c.length (bC c))=G:=by
  funext g
  unfold Vb;split
  ·rename_i h;rw [h];exact (hG.hs.get hb).symm
  ·rfl
 refine Pa hw (hG.hs.get hb) (El:=[(x,.sl 0 0 c.length 0)]) (sb':=.row e 1 c.length (bC c)) ⟨by rw [hx];rfl,trivial⟩ hact rfl (by rw [Xj];rfl) hp ?_;rw [hset];exact kk G hG
end
end S
namespace S
open Go Go.RowKit E
section
variable {P:Program} {l:Option Nat} {n:Nat} {all:Array Oper} {w0:World} {F:List Nat} {B0:Nm} {N0 N:Nat} {G G0:Nat->Option SB} {T:List Nat} {Q:Exit->Act->World->Prop} {L:List Oper} {E E':SE} {D:List SD} {H:Ch} {o:Oper}
def Ja (P:Program) (E:SE) (o:Oper) (v:Value):Prop:=(∀ c,o.op≠.defer c)/\∀ (ev:Operand->Value) (w:World),(∀ p y,sev E p=some (.v y)->ev p=y)->(execOp ev o).run P w=.ok (.value v) w
theorem Xa {v:Value} (hw:wants E all o.guard=some true) (h:Ja P E o v) (hp:putD n E o.dst (.v v)=some E') (k:HL P l n all w0 F B0 N0 T G0 Q L E' D N H):HL P l n all w0 F B0 N0 T G0 Q (o::L) E D N H :=
 HL_val (α:=Unit) (fun _=>.v v) (fun _=>E') hw h.1 (fun _ _ B w a _ ha=>⟨(),v,h.2 a.eval w fun p y hp=>by have:=ha.eval hp;simp only [den,Option.some.injEq] at this;exact this.symm,J⟩) (fun _=>hp) (fun _=>k)
variable {p q:Operand} {x y:Int}
theorem V0 {s d:TypeId} {k k':IntKind} {z:Int} (ho:o.op=.convert s d p) (hx:sev E p=some (.v (.int k x))) (hs:P.underlying s=some (.int k)) (hd:P.underlying d=some (.int k')) (hz:k'.wrap x=z):Ja P E o (.int k' z):=by
 subst hz;refine ⟨(fun c e=>by rw [ho] at e;cases e),fun ev w h=>?_⟩;simp only [execOp,ho];rw [h _ _ hx];simp [convert,run_underlying hs,run_underlying hd,Conv.intToInt]
theorem F0 {t:TypeId} {s:ByteArray} {k:Nat} (ho:o.op=.call ⟨.builtin .len,#[p],#[t]⟩) (hx:sev E p=some (Zs s)) (ht:P.underlying t=some .string) (hk:s.size=k):Ja P E o (.int .i64 (.ofNat k)):=by
 subst hk;refine ⟨(fun c e=>by rw [ho] at e;cases e),fun ev w h=>?_⟩;simp only [execOp,ho,resolve,invoke,builtin];simp [h _ _ hx,Builtin.len_,run_underlying ht,goInt]
theorem T7 {b:BinOp} {t t':Nat} {k k':IntKind} {v:Value} (ho:o.op=.binOp b t p q t') (hx:sev E p=some (.v (.int k x))) (hy:sev E q=some (.v (.int k' y))) (hb:∀ w,(binOp b t (.int k x) (.int k' y)).run P w=.ok v w):Ja P E o v:=by
 refine ⟨(fun c e=>by rw [ho] at e;cases e),fun ev w h=>?_⟩;simp only [execOp,ho];rw [h _ _ hx,h _ _ hy]
 have:(eqGuard b t p q (Value.int k x) (Value.int k' y)).run P w=.ok () w:=by
  cases b<;>rfl
 simp [this,hb]
theorem A3 {t:TypeId} {l:List UInt8} {k:Nat} {c:UInt8} (ho:o.op=.index t p q) (hx:sev E p=some (.v (.string ⟨l.toArray⟩))) (hy:sev E q=some (Zn k)) (ht:P.underlying t=some .string) (hk:l[k]?=some c):Ja P E o (.int .u8 (.ofNat c.toNat)):=by
 refine ⟨(fun c e=>by rw [ho] at e;cases e),fun ev w h=>?_⟩;have hlt:k<(⟨l.toArray⟩:ByteArray).size:=by show k<l.toArray.size;simp;exact (List.getElem?_eq_some_iff.1 hk).1
 have e:(⟨l.toArray⟩:ByteArray)[k]?=some c:=by
  rw [ByteArray.getElem?_lt' _ k hlt]
  have:(⟨l.toArray⟩:ByteArray)[k]=c:=by
   show l.toArray[k]=c;have:=(List.getElem?_eq_some_iff.1 hk).2
   simpa using this
  rw [this]
 simp only [execOp,ho];rw [h _ _ hx,h _ _ hy];simp [Instr.index,asIntOf,run_underlying ht,e]
theorem ext_l (l:List UInt8) (a b:Nat):(⟨l.toArray⟩:ByteArray).extract a b=⟨((l.drop a).take (b - a)).toArray⟩:=by
 apply ByteArray.ext;simp [ByteArray.data_extract]
theorem sy_to {t:TypeId} {l:List UInt8} {k:Nat} (ho:o.op=.slice t p none (some q) none) (hx:sev E p=some (.v (.string ⟨l.toArray⟩))) (hy:sev E q=some (Zn k)) (ht:P.underlying t=some .string) (hk:k<=l.length):Ja P E o (.string ⟨(l.take k).toArray⟩):=by
 refine ⟨(fun c e=>by rw [ho] at e;cases e),fun ev w h=>?_⟩;have hk':k<=(⟨l.toArray⟩:ByteArray).size:=by show k<=l.toArray.size;simpa using hk
 have e:=ext_l l 0 k;rw [List.drop_zero,Nat.sub_zero] at e;simp only [execOp,ho,Option.map_some,Option.map_none];rw [h _ _ hx,h _ _ hy];simp [Instr.sliceAt,run_underlying ht,Instr.slice,Instr.sliceBounds,Instr.sliceBound,asIntOf,hk',e]
theorem sy_from {t:TypeId} {l:List UInt8} {k:Nat} (ho:o.op=.slice t p (some q) none none) (hx:sev E p=some (.v (.string ⟨l.toArray⟩))) (hy:sev E q=some (Zn k)) (ht:P.underlying t=some .string) (hk:k<=l.length):Ja P E o (.string ⟨(l.drop k).toArray⟩):=by
 refine ⟨(fun c e=>by rw [ho] at e;cases e),fun ev w h=>?_⟩;have hs:(⟨l.toArray⟩:ByteArray).size=l.length:=by show l.toArray.size=_;simp
 have e:=ext_l l k l.length;rw [List.take_of_length_le (by rw [List.length_drop];omega)] at e;simp only [execOp,ho,Option.map_some,Option.map_none];rw [h _ _ hx,h _ _ hy];simp [Instr.sliceAt,run_underlying ht,Instr.slice,Instr.sliceBounds,Instr.sliceBound,asIntOf,hs,hk,e]
end
end S
namespace S
open Go Go.RowKit E
noncomputable abbrev Wt (w b:Nat) (l:List UInt8):Ch:=[(w,.cells [.sl b 0 l.length 0]),(b,.row 5 1 l.length (bC l))]
def Wo (w:Nat) (l:List UInt8):SV->Nat->Ch->Prop:=fun u _ H'=>∃ b' l',l'=l/\u=.tup []/\H'=Wt w b' l'
theorem Ff (l:List UInt8) {q:Nat} (h:q<256):(bC l).take (l.length*1)++[.v (.int .u8 (.ofNat q))]=bC (l++[UInt8.ofNat q]):=by
 rw [List.take_of_length_le (by rw [Fe];omega),Zeq];congr 1;show _=[SV.v (.int .u8 ((UInt8.ofNat q).toNat:Nat))];rw [UInt8.toNat_ofNat',Nat.mod_eq_of_lt h];rfl
theorem w8 {q:Nat} (h:q<256):IntKind.u8.wrap (.ofNat q)=.ofNat q:=by rw [IntKind.wrap_u8];simp only [Int.ofNat_eq_natCast];omega
theorem w64 {q:Nat} (h:q<4294967296):IntKind.u64.wrap (.ofNat q)=.ofNat q:=by rw [IntKind.wrap_u64];simp only [Int.ofNat_eq_natCast];omega
theorem K3 (q:Nat) (w:World):(binOp .shr 252 (.int .u64 (.ofNat q)) (.int .u64 8)).run Tryz.prog w=.ok (.int .u64 (.ofNat (q/256))) w:=by
 show (Op.shift .shr .u64 (.ofNat q) .u64 8).run Tryz.prog w=_;unfold Op.shift;rw [if_neg (by decide)];show (pure (Value.int .u64 ((q:Int).fdiv 256)):Sem Value).run Tryz.prog w=_;rw [show (q:Int).fdiv 256=((q/256:Nat):Int) by rw [Int.fdiv_eq_ediv_of_nonneg _ (by decide)];omega];rfl
def nmY (s:List UInt8):List UInt8:=UInt8.ofNat s.length::s
section
set_option maxRecDepth 10000
variable {N w b q:Nat} {l s:List UInt8}
theorem wr_text (hl:l.length+s.length<=2000):HF Tryz.prog 120 [.ptr w 0,.v (.string ⟨s.toArray⟩)] N (Wt w b l) (Wo w (l++s)):=by
 refine hf1 Tryz.func120 J Tryz.ntmps120 fun _ _ _ _=>?_;refine Zo (Za 6 [0] [(4,Zq w 0),(8,Zk b 0 l.length 0),(9,SV.v (.string ⟨s.toArray⟩))] [] ?_);refine HL_as (i:=1) (e:=5) (by_:=1) (js:=[0]) (c:=l) (s:=s) (by kernel_rfl) J J J J J J (by decide) (Nat.le_refl _) (by omega) J ?_;refine Zy 3 [1] [] [] (N+1) [] [(1,Zc [Zk N 0 ((l++s).length) 0])] (Z7 (Z5 [1,0] (.inl J) Zj J (by decide) ?_));exact ⟨_,_,J,J,J⟩
theorem wr_num1 (hq:q<256) (hl:l.length<=2000):HF Tryz.prog 191 [.ptr w 0,.v (.int .u64 (.ofNat q)),Zi 1] N (Wt w b l) (Wo w (l++[UInt8.ofNat q])):=by
 refine hf1 Tryz.func191 J Tryz.ntmps191 fun _ _ _ _=>?_;refine Zd (Za 2 [] [(6,Zi 1),(7,Zi 0)] [] (Zg (Zv (Yv (Yg ?_)))));refine Zd (Za 1 [] [(8,Zb true)] [] (Z1 (Yj J (Ya (Zr (Z2 (Zv (Zd (Za 6 [0] [(9,Zq w 0),(13,Zk b 0 l.length 0),(14,SV.v (.int .u64 (.ofNat q)))] [] (Xa (v:=(.int .u8 (.ofNat q))) J (V0 J J (by kernel_rfl) (by kernel_rfl) (w8 hq)) J ?_))))))))));refine Zy 1 [] [(16,Zk N 0 1 0)] [] (N+1) [(N,Zw 5 1 1 [SV.v (.int .u8 (.ofNat q))])] [] (Uw (i:=2) (i':=0) (e:=5) (sz:=1) (by_:=1) (js:=[1]) (cc:=(bC (l++[UInt8.ofNat q]))) _ (by kernel_rfl) (by kernel_rfl) J J J J J J J (by decide) J (by omega) J J (by omega) (by omega) J (Ff l hq) J ?_);refine Zy 3 [1] [] [] (N+2) [] [(1,Zc [Zk (N+1) 0 (l.length+1) 0])] (Zg (Zo (Za 1 [] [(20,SV.v (.int .u64 (.ofNat q)))] [] (Xa (v:=(.int .u64 (.ofNat (q/256)))) J (T7 J J J (K3 q)) J (Za 1 [] [(1,SV.v (.int .u64 (.ofNat (q/256))))] [] (Z7 (Yb (Zr (Zo (Za 2 [] [(7,Zi 1)] [] (Zg (Yg (Zd (Za 1 [] [(8,Zb false)] [] (Z1 (Z6 J (Yz (Z8 (Z8 (Xb (z:=.exit _) J (Yi (Z5 [1,0] (.inl J) Zj J (by decide) ?_))))))))))))))))))))));exact ⟨_,_,J,J,by unfold Wt;rw [List.length_append];rfl⟩
theorem wr_num2 (hq:q<256) (hl:l.length<=2000):HF Tryz.prog 191 [.ptr w 0,.v (.int .u64 (.ofNat q)),Zi 2] N (Wt w b l) (Wo w (l++[UInt8.ofNat q,0])):=by
 refine hf1 Tryz.func191 J Tryz.ntmps191 fun _ _ _ _=>?_;refine Zd (Za 2 [] [(6,Zi 2),(7,Zi 0)] [] (Zg (Zv (Yv (Yg ?_)))));refine Zd (Za 1 [] [(8,Zb true)] [] (Z1 (Yj J (Ya (Zr (Z2 (Zv (Zd (Za 6 [0] [(9,Zq w 0),(13,Zk b 0 l.length 0),(14,SV.v (.int .u64 (.ofNat q)))] [] (Xa (v:=(.int .u8 (.ofNat q))) J (V0 J J (by kernel_rfl) (by kernel_rfl) (w8 hq)) J ?_))))))))));refine Zy 1 [] [(16,Zk N 0 1 0)] [] (N+1) [(N,Zw 5 1 1 [SV.v (.int .u8 (.ofNat q))])] [] (Uw (i:=2) (i':=0) (e:=5) (sz:=1) (by_:=1) (js:=[1]) (cc:=(bC (l++[UInt8.ofNat q]))) _ (by kernel_rfl) (by kernel_rfl) J J J J J J J (by decide) J (by omega) J J (by omega) (by omega) J (Ff l hq) J ?_);refine Zy 3 [1] [] [] (N+2) [] [(1,Zc [Zk (N+1) 0 (l.length+1) 0])] (Zg (Zo (Za 1 [] [(20,SV.v (.int .u64 (.ofNat q)))] [] (Xa (v:=(.int .u64 (.ofNat (q/256)))) J (T7 J J J (K3 q)) J (Za 1 [] [(1,SV.v (.int .u64 (.ofNat (q/256))))] [] (Z7 (Yb (Zr (Zo (Za 2 [] [(7,Zi 1)] [] (Zg (Yg (Zd (Za 1 [] [(8,Zb true)] [] (Z1 (Yj J (Ya (Zr (Z2 (Zv (Zd (Za 6 [1] [(9,Zq w 0),(13,Zk (N+1) 0 (l.length+1) 0),(14,SV.v (.int .u64 (.ofNat (q/256))))] [] ?_))))))))))))))))))))));refine Xa (v:=(.int .u8 (.ofNat 0))) J (V0 J J (by kernel_rfl) (by kernel_rfl) (by rw [show q/256=0 by omega];exact w8 (by omega))) J ?_;refine Zy 1 [] [(16,Zk (N+2) 0 1 0)] [] (N+3) [((N+2),Zw 5 1 1 [SV.v (.int .u8 (.ofNat 0))])] [] ?_;refine Uw (i:=1) (i':=0) (e:=5) (sz:=1) (by_:=1) (js:=[2]) (cc:=(bC (l++[UInt8.ofNat q]++[0]))) _ (by kernel_rfl) (by kernel_rfl) J J J J J J J (by decide) J (by omega) J J (by omega) (by omega) J (by have:=Ff (l++[UInt8.ofNat q]) (q:=0) (by omega);rw [List.length_append] at this;exact this) J ?_;refine Zy 3 [1] [] [] (N+4) [] [(1,Zc [Zk (N+3) 0 ((l.length+1)+1) 0])] (Zg (Zo (Za 1 [] [(20,SV.v (.int .u64 (.ofNat (q/256))))] [] (Xa (v:=(.int .u64 (.ofNat (q/256/256)))) J (T7 J J J (K3 (q/256))) J (Za 1 [] [(1,SV.v (.int .u64 (.ofNat (q/256/256))))] [] (Z7 (Yb (Zr (Zo (Za 2 [] [(7,Zi 2)] [] (Zg (Yg (Zd (Za 1 [] [(8,Zb false)] [] (Z1 (Z6 J (Yz (Z8 (Z8 (Xb (z:=.exit _) J (Yi (Z5 [1,0] (.inl J) Zj J (by decide) ?_))))))))))))))))))))));exact ⟨_,_,J,J,by unfold Wt;rw [show l++[UInt8.ofNat q,0]=l++[UInt8.ofNat q]++[0] by simp];simp only [List.length_append];rfl⟩
theorem Wn (hq:q<256) (hl:l.length<=2000):HF Tryz.prog 122 [.ptr w 0,Zn q] N (Wt w b l) (Wo w (l++[UInt8.ofNat q])):=by
 refine hf1 Tryz.func122 J Tryz.ntmps122 fun _ _ _ _=>?_;refine Zo (Za 2 [] [(4,Zq w 0),(5,Zn q)] [] (Xa (v:=(.int .u64 (.ofNat q))) J (V0 J J (by kernel_rfl) (by kernel_rfl) (w64 (by omega))) J ?_));refine Yn [0,1] [1,0] Zj J J J J (wr_num1 hq hl) ?_;rintro _ N1 _ ⟨b1,l1,h1,rfl,rfl⟩;refine ⟨_,J,?_⟩;refine Z7 (Z5 [0,1] (.inl J) Zj J (by decide) ?_);exact ⟨_,_,h1,J,J⟩
theorem wr_two (hq:q<256) (hl:l.length<=2000):HF Tryz.prog 193 [.ptr w 0,Zn q] N (Wt w b l) (Wo w (l++[UInt8.ofNat q,0])):=by
 refine hf1 Tryz.func193 J Tryz.ntmps193 fun _ _ _ _=>?_;refine Zo (Za 2 [] [(4,Zq w 0),(5,Zn q)] [] (Xa (v:=(.int .u64 (.ofNat q))) J (V0 J J (by kernel_rfl) (by kernel_rfl) (w64 (by omega))) J ?_));refine Yn [0,1] [1,0] Zj J J J J (wr_num2 hq hl) ?_;rintro _ N1 _ ⟨b1,l1,h1,rfl,rfl⟩;refine ⟨_,J,?_⟩;refine Z7 (Z5 [0,1] (.inl J) Zj J (by decide) ?_);exact ⟨_,_,h1,J,J⟩
theorem wr_flag (hl:l.length<=2000):HF Tryz.prog 123 [.ptr w 0,Zb true] N (Wt w b l) (Wo w (l++[1])):=by
 refine hf1 Tryz.func123 J Tryz.ntmps123 fun _ _ _ _=>?_;refine Z2 (Zd (Za 1 [] [(4,Zb true)] [] (Zg (Yj J (Zd (Za 1 [] [(5,Zq w 0)] [] (Yn [0,1] [1,0] Zj J J J J (Wn (q:=1) (by omega) hl) ?_)))))));rintro _ N1 _ ⟨b1,l1,h1,rfl,rfl⟩;refine ⟨_,J,?_⟩;refine Zg (Yc (Xg (Z5 [0,1] (.inr J) Zj J (by decide) ?_)));exact ⟨_,_,h1,J,J⟩
theorem Sl (hs:s.length<256) (hl:l.length<=1500):HF Tryz.prog 121 [.ptr w 0,.v (.string ⟨s.toArray⟩)] N (Wt w b l) (Wo w (l++nmY s)):=by
 refine hf1 Tryz.func121 J Tryz.ntmps121 fun _ _ _ _=>?_;refine Zd (Za 2 [] [(4,Zq w 0),(5,SV.v (.string ⟨s.toArray⟩))] [] ?_);refine Xa (v:=(.int .i64 (.ofNat s.length))) J (F0 (k:=s.length) J J (by kernel_rfl) (by show s.toArray.size=_;simp)) rfl ?_;refine Yn [0,1] [1,0] Zj J J J J (Wn hs (by omega)) ?_;rintro _ N1 _ ⟨b1,l1,h1,rfl,rfl⟩;refine ⟨_,J,?_⟩;refine Zg (Zo (Za 2 [] [(8,Zq w 0),(9,SV.v (.string ⟨s.toArray⟩))] [] ?_));refine Yn [0,1] [1,0] Zj J J J J (wr_text (by subst h1;rw [List.length_append];simp only [List.length_cons,List.length_nil];omega)) ?_;rintro _ N2 _ ⟨b2,l2,h2,rfl,rfl⟩;refine ⟨_,J,?_⟩;refine Z7 (Z5 [0,1] (.inl J) Zj J (by decide) ?_);exact ⟨_,_,by subst h2 h1;simp [nmY],rfl,rfl⟩
end
end S
namespace S
open Go Go.RowKit E
section
set_option maxRecDepth 10000
variable {N w b q op k dm dc:Nat} {l s:List UInt8}
theorem Ub (n:Nat) (z:Int) (h:(outV (R1 200 (.call 284 [Zn n] (stOf []))) [] N [] 0).map (·.1)=some (Zi z)):HF Tryz.prog 284 [Zn n] N [] fun u N' H'=>u=Zi z/\N'=N/\H'=[] :=
 Wq (bs:=[]) (Bs:=[]) 200 h rfl (by decide) (fun _ _=>rfl)
theorem Ak (hq:q<3) (hl:l.length<=2000):HF Tryz.prog 124 [.ptr w 0,.agg [Zn q,Ze]] N (Wt w b l) (Wo w (l++[UInt8.ofNat q])):=by
 refine hf1 Tryz.func124 J Tryz.ntmps124 fun _ _ _ _=>?_;refine Zd (Zy 1 [] [(3,Zq N 0)] [] (N+1) [(N,Zc [Zn q,Ze])] [] ?_);refine Zx (Za 3 [0] [(4,Zq w 0),(6,Zn q)] [] (Yn [1,2] [2,1] Zj J J J J (Wn (by omega) hl) ?_));rintro _ N1 _ ⟨b1,l1,h1,rfl,rfl⟩;refine ⟨_,J,?_⟩;refine Zx (Za 3 [2] [(10,SV.v (.bool (ieq (.ofNat q) 3)))] [] (Zg ?_));refine Py J (by rw [Bool.eq_false_iff,ne_eq,S5];simp only [Int.ofNat_eq_natCast];omega) ?_;refine Ya (Z5 [0,1] (.inl J) Zj J (by decide) ?_);exact ⟨_,_,h1,J,J⟩
theorem D7 (hl:l.length<=2000):HF Tryz.prog 192 [.ptr w 0,Zz] N (Wt w b l) (Wo w (l++[0])):=by
 refine hf1 Tryz.func192 J Tryz.ntmps192 fun _ _ _ _=>?_;refine Zd (Za 3 [] [(6,Zq w 0),(8,Zi 0)] [] (Yn [0,1] [1,0] Zj J J J J (Wn (q:=0) (by omega) hl) ?_));rintro _ N1 _ ⟨b1,l1,h1,rfl,rfl⟩;refine ⟨_,J,?_⟩;refine Zx (Za 3 [] [(10,Zz),(11,Zi 0),(12,Zi 0)] [] (Zg (Zv (Yv (Yg ?_)))));refine Zd (Za 1 [] [(13,Zb false)] [] (Z1 (Z6 J (Yz (Z8 (Z8 (Xb (z:=.exit _) J (Yi (Z5 [0,1] (.inl J) Zj J (by decide) ?_)))))))));exact ⟨_,_,h1,J,J⟩
theorem Fw (ho:op<33) (hO:∀ N,HF Tryz.prog 284 [Zn op] N [] fun u N' H'=>u=Zi 0/\N'=N/\H'=[]) (hl:l.length<=1400):HF Tryz.prog 194 [.ptr w 0,.agg [Zn op,Zi 0,Ze,Ze,Zz,Zi 0,Ze]] N (Wt w b l) (Wo w (l++[UInt8.ofNat op])):=by
 refine hf1 Tryz.func194 J Tryz.ntmps194 fun _ _ _ _=>?_;refine Zd (Zy 1 [] [(3,Zq N 0)] [] (N+1) [(N,Zc [Zn op,Zi 0,Ze,Ze,Zz,Zi 0,Ze])] [] ?_);refine Zx (Za 3 [0] [(4,Zq w 0),(6,Zn op)] [] (Yn [1,2] [2,1] Zj J J J J (Wn (q:=op) (by omega) (by omega)) ?_));rintro _ N1 _ ⟨b1,l1,h1,rfl,rfl⟩;refine ⟨_,J,?_⟩;refine Zx (Za 2 [2] [(9,Zn op)] [] (Z0 [] [] Zj J J J J (hO _) J (Zg (Zv (Zd (Za 2 [] [(11,Zb false)] [] (Zg (Z6 J (Zd (Za 2 [] [(17,Zb false)] [] (Zg (Z6 J (Zd (Za 2 [] [(23,Zb false)] [] (Zg (Z6 J (Zd (Za 2 [] [(29,Zb false)] [] (Zg (Z6 J (Zd (Za 2 [] [(36,Zb false)] [] (Zg (Z6 J (Zd (Za 2 [] [(53,Zb false)] [] (Zg (Z6 J (Ya ?_)))))))))))))))))))))))))))));refine Yb (Z5 [0,1] (.inl J) Zj J (by decide) ?_);exact ⟨_,_,by subst h1;simp [nmY],rfl,rfl⟩
theorem Ji (ho:op<33) (hO:∀ N,HF Tryz.prog 284 [Zn op] N [] fun u N' H'=>u=Zi 2/\N'=N/\H'=[]) (hl:l.length<=1400):HF Tryz.prog 194 [.ptr w 0,.agg [Zn op,Zi 0,Ze,Ze,Zz,Zi 0,Ze]] N (Wt w b l) (Wo w (l++[UInt8.ofNat op,0])):=by
 refine hf1 Tryz.func194 J Tryz.ntmps194 fun _ _ _ _=>?_;refine Zd (Zy 1 [] [(3,Zq N 0)] [] (N+1) [(N,Zc [Zn op,Zi 0,Ze,Ze,Zz,Zi 0,Ze])] [] ?_);refine Zx (Za 3 [0] [(4,Zq w 0),(6,Zn op)] [] (Yn [1,2] [2,1] Zj J J J J (Wn (q:=op) (by omega) (by omega)) ?_));rintro _ N1 _ ⟨b1,l1,h1,rfl,rfl⟩;refine ⟨_,J,?_⟩;refine Zx (Za 2 [2] [(9,Zn op)] [] (Z0 [] [] Zj J J J J (hO _) J (Zg (Zv (Zd (Za 2 [] [(11,Zb false)] [] (Zg (Z6 J (Zd (Za 2 [] [(17,Zb true)] [] (Zg (Yj J (Zo (Za 3 [2] [(19,Zq w 0),(21,Zi 0)] [] ?_))))))))))))));refine Yn [0,1] [1,0] Zj J J J J (Wn (q:=0) (by omega) (by subst h1;simp only [List.length_append,List.length_cons,List.length_nil,nmY];omega)) ?_;rintro _ N2 _ ⟨b2,l2,h2,rfl,rfl⟩;refine ⟨_,J,?_⟩;refine Z7 (Yb (Z5 [0,1] (.inl J) Zj J (by decide) ?_));exact ⟨_,_,by subst h2 h1;simp [nmY],rfl,rfl⟩
theorem P0 (ho:op<33) (hs:s.length<20) (hO:∀ N,HF Tryz.prog 284 [Zn op] N [] fun u N' H'=>u=Zi 4/\N'=N/\H'=[]) (hl:l.length<=1400):HF Tryz.prog 194 [.ptr w 0,.agg [Zn op,Zi 0,.v (.string ⟨s.toArray⟩),Ze,Zz,Zi 0,Ze]] N (Wt w b l) (Wo w (l++(UInt8.ofNat op::nmY s))):=by
 refine hf1 Tryz.func194 J Tryz.ntmps194 fun _ _ _ _=>?_;refine Zd (Zy 1 [] [(3,Zq N 0)] [] (N+1) [(N,Zc [Zn op,Zi 0,SV.v (.string ⟨s.toArray⟩),Ze,Zz,Zi 0,Ze])] [] ?_);refine Zx (Za 3 [0] [(4,Zq w 0),(6,Zn op)] [] (Yn [1,2] [2,1] Zj J J J J (Wn (q:=op) (by omega) (by omega)) ?_));rintro _ N1 _ ⟨b1,l1,h1,rfl,rfl⟩;refine ⟨_,J,?_⟩;refine Zx (Za 2 [2] [(9,Zn op)] [] (Z0 [] [] Zj J J J J (hO _) J (Zg (Zv (Zd (Za 2 [] [(11,Zb false)] [] (Zg (Z6 J (Zd (Za 2 [] [(17,Zb false)] [] (Zg (Z6 J (Zd (Za 2 [] [(23,Zb false)] [] (Zg (Z6 J (Zd (Za 2 [] [(29,Zb true)] [] (Zg (Yj J (Zo (Za 4 [2] [(31,Zq w 0),(34,SV.v (.string ⟨s.toArray⟩))] [] ?_))))))))))))))))))))));refine Yn [0,1] [1,0] Zj J J J J (Sl (by omega) (by subst h1;simp only [List.length_append,List.length_cons,List.length_nil,nmY];omega)) ?_;rintro _ N2 _ ⟨b2,l2,h2,rfl,rfl⟩;refine ⟨_,J,?_⟩;refine Z7 (Yb (Z5 [0,1] (.inl J) Zj J (by decide) ?_));exact ⟨_,_,by subst h2 h1;simp [nmY],rfl,rfl⟩
theorem Am (hs:s.length<20) (hl:l.length<=1400):HF Tryz.prog 194 [.ptr w 0,.agg [Zn 18,Zi 0,.v (.string ⟨s.toArray⟩),Zs xS,Zz,Zi 1,Ze]] N (Wt w b l) (Wo w (l++(18::(nmY s++[1,120,1])))):=by
 refine hf1 Tryz.func194 J Tryz.ntmps194 fun _ _ _ _=>?_;refine Zd (Zy 1 [] [(3,Zq N 0)] [] (N+1) [(N,Zc [Zn 18,Zi 0,SV.v (.string ⟨s.toArray⟩),Zs xS,Zz,Zi 1,Ze])] [] ?_);refine Zx (Za 3 [0] [(4,Zq w 0),(6,Zn 18)] [] (Yn [1,2] [2,1] Zj J J J J (Wn (q:=18) (by omega) (by omega)) ?_));rintro _ N1 _ ⟨b1,l1,h1,rfl,rfl⟩;refine ⟨_,J,?_⟩;refine Zx (Za 2 [2] [(9,Zn 18)] [] (Z0 [] [] Zj J J J J (Ub 18 5 (by kernel_rfl)) J ?_));refine Zg (Zv (Zd (Za 2 [] [(11,Zb false)] [] (Zg (Z6 J (Zd (Za 2 [] [(17,Zb false)] [] (Zg (Z6 J (Zd (Za 2 [] [(23,Zb false)] [] (Zg (Z6 J (Zd (Za 2 [] [(29,Zb false)] [] (Zg (Z6 J (Zd (Za 2 [] [(36,Zb true)] [] (Zg (Yj J (Zd (Za 4 [2] [(38,Zq w 0),(41,SV.v (.string ⟨s.toArray⟩))] [] ?_)))))))))))))))))))))));refine Yn [0,1] [1,0] Zj J J J J (Sl (by omega) (by subst h1;simp only [List.length_append,List.length_cons,List.length_nil,nmY];omega)) ?_;rintro _ N2 _ ⟨b2,l2,h2,rfl,rfl⟩;refine ⟨_,J,?_⟩;refine Zx (Za 4 [2] [(43,Zq w 0),(46,Zs xS)] [] ?_);refine Yn [0,1] [1,0] Zj J J J J (Sl (s:=[120]) (by decide) (by subst h2 h1;simp only [List.length_append,List.length_cons,List.length_nil,nmY];omega)) ?_;rintro _ N3 _ ⟨b3,l3,h3,rfl,rfl⟩;refine ⟨_,J,?_⟩;refine Zg (Zo (Za 4 [2] [(48,Zq w 0),(51,SV.agg [Zi 1,Ze])] [] ?_));refine Yn [0,1] [1,0] Zj J J J J (Ak (q:=1) (by omega) (by subst h3 h2 h1;simp only [List.length_append,List.length_cons,List.length_nil,nmY];omega)) ?_;rintro _ N4 _ ⟨b4,l4,h4,rfl,rfl⟩;refine ⟨_,J,?_⟩;refine Z7 (Yb (Z5 [0,1] (.inl J) Zj J (by decide) ?_));exact ⟨_,_,by subst h4 h3 h2 h1;simp [nmY],rfl,rfl⟩
end
end S
namespace S
open Go Go.RowKit E
def iB:Mi->List UInt8
 | .newO=>15::nmY [79,98,106,101,99,116]
 | .new k=>15::nmY [UInt8.ofNat (97+k)]
 | .is k=>26::nmY [UInt8.ofNat (97+k)]
 | .get k=>18::(nmY [UInt8.ofNat (97+k)]++[1,120,1])
 | .load=>[2,0]
 | .store=>[3,0]
 | .pop=>[4]
 | .ret=>[22]
theorem iB_len (m:Mi):(iB m).length<=8:=by cases m<;>simp [iB,nmY]
theorem R3:∀ ins:List Mi,(ins.flatMap iB).length<=8*ins.length
 | []=>Nat.le_refl _
 | m::r=>by
  have:=iB_len m;have:=R3 r;rw [List.flatMap_cons,List.length_append,List.length_cons];omega
theorem Dp {ins:List Mi} {p:Nat} {m:Mi} (h:ins[p]?=some m):cutAt (c7M ins) (0+p*7) 7=mi7 m none 0:=by
 refine cut7 (fun x hx=>?_) p _ (by rw [List.getElem?_map,h];rfl);obtain ⟨y,_,rfl⟩:=List.mem_map.1 hx;exact ⟨_,_,_,_,_,_,_,J,J⟩
def X4:List UInt8:=[109,97,105,110]
def meY (ins:List Mi):List UInt8:=nmY X4++([1,0,0,1,1,UInt8.ofNat ins.length,0]++(ins.flatMap iB++[0,0]))
def frY:List UInt8:=[67,76,65,83]++(nmY [77,97,105,110]++(nmY [79,98,106,101,99,116]++[0,1]))
def byY (ins:List Mi):List UInt8:=frY++meY ins
section
set_option maxRecDepth 10000
variable {N w b k dm dc:Nat} {l:List UInt8} {ins:List Mi}
theorem wr_ins (m:Mi) (hl:l.length<=1400):HF Tryz.prog 194 [.ptr w 0,.agg (mi7 m none 0)] N (Wt w b l) (Wo w (l++iB m)):=by
 cases m with
 | newO=>exact P0 (op:=15) (s:=[79,98,106,101,99,116]) (by omega) (by decide) (fun _=>Ub 15 4 (by kernel_rfl)) hl
 | new k=>exact P0 (op:=15) (s:=[UInt8.ofNat (97+k)]) (by omega) (by simp) (fun _=>Ub 15 4 (by kernel_rfl)) hl
 | is k=>exact P0 (op:=26) (s:=[UInt8.ofNat (97+k)]) (by omega) (by simp) (fun _=>Ub 26 4 (by kernel_rfl)) hl
 | get k=>exact Am (s:=[UInt8.ofNat (97+k)]) (by simp) hl
 | load=>exact Ji (op:=2) (by omega) (fun _=>Ub 2 2 (by kernel_rfl)) hl
 | store=>exact Ji (op:=3) (by omega) (fun _=>Ub 3 2 (by kernel_rfl)) hl
 | pop=>exact Fw (op:=4) (by omega) (fun _=>Ub 4 0 (by kernel_rfl)) hl
 | ret=>exact Fw (op:=22) (by omega) (fun _=>Ub 22 0 (by kernel_rfl)) hl
structure WL (l0:List UInt8) (ins:List Mi) where
 (p N b:Nat) (l:List UInt8) (hp:p<=ins.length) (hl:l=l0++(ins.take p).flatMap iB)
def WL.E (w bx dc k:Nat) {l0:List UInt8} {ins:List Mi}:WL l0 ins->SE
 | ⟨p,_,_,_,_,_⟩=>[(0,.ptr w 0),(3,.ptr bx 0),(40,.sl dc 0 k 0),(41,.v (.int .i64 (.ofNat k))),(42,.v (.int .i64 (.ofNat p)))]
def WL.nn {l0:List UInt8} {ins:List Mi}:WL l0 ins->Nat
 | ⟨_,N,_,_,_,_⟩=>N
noncomputable def WL.H (w bx dc k:Nat) (BX DC:SB) {l0:List UInt8} {ins:List Mi}:WL l0 ins->Ch
 | ⟨_,_,b,l,_,_⟩=>[(w,.cells [.sl b 0 l.length 0]),(b,.row 5 1 l.length (bC l)),(bx,BX),(dc,DC)]
theorem wr_meth (hk:ins.length=k) (hkb:k<=100) (hl:l.length<=100) :
  HF Tryz.prog 125 [.ptr w 0,.agg [Zs Z4,Zb true,Zz,Zi 0,Ze,Zi 1,Zi 1,.sl dc 0 k 0,Zz,Zz]] N (Wt w b l++[(dc,.row 75 7 k (c7M ins))]) fun u _ H'=>∃ b' l',l'=l++meY ins/\u=.tup []/\H'=Wt w b' l'++[(dc,.row 75 7 k (c7M ins))]:=by
 have hfl:=R3 ins;refine hf1 Tryz.func125 J Tryz.ntmps125 fun _ _ _ _=>?_;refine Zd (Zy 1 [] [(3,Zq N 0)] [] (N+1) [(N,Zc [Zs Z4,Zb true,Zz,Zi 0,Ze,Zi 1,Zi 1,Zk dc 0 k 0,Zz,Zz])] [] ?_);refine Zx (Za 3 [0] [(10,Zq w 0),(12,Zs Z4)] [] (Yn [1,2] [2,1] Zj J J J J (Sl (s:=X4) (by decide) (by omega)) ?_));rintro _ N1 _ ⟨b1,l1,h1,rfl,rfl⟩;refine ⟨_,J,?_⟩;refine Zx (Za 3 [2] [(14,Zq w 0),(16,Zb true)] [] ?_);refine Yn [0,1] [1,0] Zj J J J J (wr_flag (by have:=congrArg List.length h1;simp only [List.length_append,List.length_cons,List.length_nil,nmY,X4] at *;omega)) ?_;rintro _ N2 _ ⟨b2,l2,h2,rfl,rfl⟩;refine ⟨_,J,?_⟩;refine Zx (Za 3 [2] [(18,Zq w 0),(20,Zz)] [] ?_);refine Yn [0,1] [1,0] Zj J J J J (D7 (by have:=congrArg List.length h1;have:=congrArg List.length h2;simp only [List.length_append,List.length_cons,List.length_nil,nmY,X4] at *;omega)) ?_;rintro _ N3 _ ⟨b3,l3,h3,rfl,rfl⟩;refine ⟨_,J,?_⟩;refine Zx (Za 3 [2] [(22,Zq w 0),(24,SV.agg [Zi 0,Ze])] [] ?_);refine Yn [0,1] [1,0] Zj J J J J (Ak (q:=0) (by omega) (by have:=congrArg List.length h1;have:=congrArg List.length h2;have:=congrArg List.length h3;simp only [List.length_append,List.length_cons,List.length_nil,nmY,X4] at *;omega)) ?_;rintro _ N4 _ ⟨b4,l4,h4,rfl,rfl⟩;refine ⟨_,J,?_⟩;refine Zx (Za 3 [2] [(26,Zq w 0),(28,Zi 1)] [] ?_);refine Yn [0,1] [1,0] Zj J J J J (Wn (q:=1) (by omega) (by have:=congrArg List.length h1;have:=congrArg List.length h2;have:=congrArg List.length h3;have:=congrArg List.length h4;simp only [List.length_append,List.length_cons,List.length_nil,nmY,X4] at *;omega)) ?_;rintro _ N5 _ ⟨b5,l5,h5,rfl,rfl⟩;refine ⟨_,J,?_⟩;refine Zx (Za 3 [2] [(30,Zq w 0),(32,Zi 1)] [] ?_);refine Yn [0,1] [1,0] Zj J J J J (Wn (q:=1) (by omega) (by have:=congrArg List.length h1;have:=congrArg List.length h2;have:=congrArg List.length h3;have:=congrArg List.length h4;have:=congrArg List.length h5;simp only [List.length_append,List.length_cons,List.length_nil,nmY,X4] at *;omega)) ?_;rintro _ N6 _ ⟨b6,l6,h6,rfl,rfl⟩;refine ⟨_,J,?_⟩;refine Zx (Za 4 [2] [(34,Zq w 0),(37,Zn k)] [] ?_);refine Yn [0,1] [1,0] Zj J J J J (wr_two (q:=k) (by omega) (by have:=congrArg List.length h1;have:=congrArg List.length h2;have:=congrArg List.length h3;have:=congrArg List.length h4;have:=congrArg List.length h5;have:=congrArg List.length h6;simp only [List.length_append,List.length_cons,List.length_nil,nmY,X4] at *;omega)) ?_;rintro _ N7 _ ⟨b7,l7,h7,rfl,rfl⟩;refine ⟨_,J,?_⟩;refine Z1 (Zd (Za 4 [2] [(40,Zk dc 0 k 0),(41,Zn k),(42,Zi 0)] [] (Zg (Zv (Uy (α:=WL l7 ins) (st:=(WL.E w N dc k)) (nn:=WL.nn) (hh:=(WL.H w N dc k (.cells [Zs Z4,Zb true,Zz,Zi 0,Ze,Zi 1,Zi 1,.sl dc 0 k 0,Zz,Zz]) (.row 75 7 k (c7M ins)))) ⟨0,N7,b7,l7,Nat.zero_le _,by simp⟩ ⟨J,J,J,J,J,trivial⟩ J J ?_)))));refine T5 (α:=WL l7 ins) (fun s=>ins.length - s.p) (WL.E w N dc k) WL.nn (WL.H w N dc k (.cells [Zs Z4,Zb true,Zz,Zi 0,Ze,Zi 1,Zi 1,.sl dc 0 k 0,Zz,Zz]) (.row 75 7 k (c7M ins))) ⟨0,N7,b7,l7,Nat.zero_le _,by simp⟩ ?_;rintro (⟨p,M,c,m,hp,hm⟩)
 ·skip
  refine Zd (Za 1 [] [(43,SV.v (.bool (ilt (.ofNat p) (.ofNat k))))] [] (Z1 (V9 J (fun c1=>?_) (fun c1=>?_))))
  ·skip
   have hpl:p<ins.length:=(by rw [Xf] at c1;simp only [Int.ofNat_eq_natCast] at c1;omega);obtain ⟨i,hi⟩:∃ i,ins[p]?=some i:=⟨_,List.getElem?_eq_getElem hpl⟩;have hcut:=Dp hi;have hml:m.length<=1400:=by have h9:=R3 (ins.take p);have h8:=congrArg List.length hm;have:=congrArg List.length h1;have:=congrArg List.length h2;have:=congrArg List.length h3;have:=congrArg List.length h4;have:=congrArg List.length h5;have:=congrArg List.length h6;have:=congrArg List.length h7;simp only [List.length_append,List.length_cons,List.length_nil,nmY,X4,List.length_take] at *;omega
   refine Ya (Zr (Z2 (Zv (Zd (Zu (v:=.ptr dc (0+p*7)) J (Xe J J J (by kernel_rfl) (by omega)) J ?_)))));refine Yp (i:=3) (v:=.agg [Zn i.op,Zi 0,Zs i.cl,Zs i.nm,Zz,Zi i.ty,Ze]) J J J J (by have:=X5 (P:=Tryz.prog) (t:=75) (m:=7) (off:=0+p*7) (sb:=.row 75 7 k (c7M ins)) (c:=c7M ins) (by kernel_rfl) (by kernel_rfl) J (by rw [hcut];rfl);rw [hcut] at this;exact this) J ?_;refine Zy 2 [0] [(5,Zq M 0)] [] (M+1) [(M,Zc [Zn i.op,Zi 0,Zs i.cl,Zs i.nm,Zz,Zi i.ty,Ze])] [] ?_;refine Zg (Zo (Za 2 [0] [(46,Zq w 0),(47,SV.agg [Zn i.op,Zi 0,Zs i.cl,Zs i.nm,Zz,Zi i.ty,Ze])] [] ?_));refine Yn [1,2] [2,1] Zj J J J J (wr_ins i hml) ?_;rintro _ N8 _ ⟨b8,l8,h8,rfl,rfl⟩;refine ⟨_,J,?_⟩;refine Z7 (Yb (Zr (Zo (Zu (v:=Zn (p+1)) J (Xr J J J (by omega)) J ?_))));refine Za 1 [] [(42,Zn (p+1))] [] (Z7 ?_);exact Ti ⟨p+1,N8,b8,l8,hpl,by rw [h8,hm,List.append_assoc,List.take_add_one,hi];simp⟩ [0,1,3,4] (by show ins.length - (p+1)<ins.length - p;omega) ⟨rfl,rfl,rfl,rfl,rfl,trivial⟩ rfl (by decide) rfl
  ·skip
   have hpe:p=ins.length:=(by rw [Bool.eq_false_iff,ne_eq,Xf] at c1;simp only [Int.ofNat_eq_natCast] at c1;omega);have hml:m.length<=1400:=by have h9:=R3 (ins.take p);have h8:=congrArg List.length hm;have:=congrArg List.length h1;have:=congrArg List.length h2;have:=congrArg List.length h3;have:=congrArg List.length h4;have:=congrArg List.length h5;have:=congrArg List.length h6;have:=congrArg List.length h7;simp only [List.length_append,List.length_cons,List.length_nil,nmY,X4,List.length_take] at *;omega
   refine Yz (Z8 (Z8 (Yi (Yh (Za 4 [2] [(50,Zq w 0),(53,Zi 0)] [] (Yn [0,1] [1,0] Zj J J J J (Wn (q:=0) (by omega) (by omega)) ?_))))));rintro _ N9 _ ⟨b9,l9,h9,rfl,rfl⟩;refine ⟨_,J,?_⟩;refine Z1 (Zd (Za 4 [2] [(56,Zz),(57,Zi 0),(58,Zi 0)] [] (Zg (Zv (Yv (Yg ?_))))));refine Zd (Za 1 [] [(59,Zb false)] [] (Z1 (Z6 J (Yz (Z8 (Z8 (Xb (z:=.exit _) J (Yi (Yh (Za 4 [2] [(66,Zq w 0),(69,Zi 0)] [] ?_))))))))));refine Yn [0,1] [1,0] Zj J J J J (Wn (q:=0) (by omega) (by have:=congrArg List.length h9;simp only [List.length_append,List.length_cons,List.length_nil] at this;omega)) ?_;rintro _ N10 _ ⟨b10,l10,h10,rfl,rfl⟩;refine ⟨_,J,?_⟩;refine Zx (Za 4 [2] [(72,Zz),(73,Zi 0),(74,Zi 0)] [] (Zg (Zv (Yv (Yg ?_)))));refine Zd (Za 1 [] [(75,Zb false)] [] (Z1 (Z6 J (Yz (Z8 (Z8 (Xb (z:=.exit _) J (Yi (Z5 [0,1,3] (.inl J) Zj J (by decide) ?_)))))))));refine ⟨b10,_,?_,J,J⟩;rw [h10,h9,hm,hpe,List.take_length,h7,h6,h5,h4,h3,h2,h1,<- hk];simp [meY,nmY,X4]
end
end S
namespace S
open Go Go.RowKit E
section
set_option maxRecDepth 100000
variable {N:Nat}
theorem Vx {f:FuncId} {args:List SV} (k:Nat) (h:(outV (R1 k (.call f args (stOf []))) [] N [] 0).map (·.1)=some (.tup [])):HF Tryz.prog f (X3 (rho [] N) args) N [] fun u N' H'=>u=.tup []/\N'=N/\H'=[] :=
 Wq (bs:=[]) (Bs:=[]) k h rfl (by decide) (fun _ _=>rfl)
theorem mb_main:HF Tryz.prog 139 [Zs Zt] N [] fun u N' H'=>u=.tup []/\N'=N/\H'=[]:=Vx (args:=[Zs Zt]) 2000 (by kernel_rfl)
theorem mb_ob:HF Tryz.prog 139 [Zs (nmB 0)] N [] fun u N' H'=>u=.tup []/\N'=N/\H'=[]:=Vx (args:=[Zs (nmB 0)]) 2000 (by kernel_rfl)
theorem mb_mm:HF Tryz.prog 139 [Zs Z4] N [] fun u N' H'=>u=.tup []/\N'=N/\H'=[]:=Vx (args:=[Zs Z4]) 2000 (by kernel_rfl)
theorem C4:HF Tryz.prog 140 [Zz] N [] fun u N' H'=>u=.tup []/\N'=N/\H'=[]:=Vx (args:=[Zz]) 2000 (by kernel_rfl)
theorem C3:HF Tryz.prog 318 [Zz] N [] fun u N' H'=>u=.tup []/\N'=N/\H'=[]:=Vx (args:=[Zz]) 2000 (by kernel_rfl)
theorem mb_ref {m:Mi} (h:m.ok):HF Tryz.prog 356 [.agg (mi7 m none 0)] N [] fun u N' H'=>u=.tup []/\N'=N/\H'=[]:=by
 cases m with
 | new k | get k | is k =>
  have hk:k<8:=h;clear h;rcases (show k=0\/k=1\/k=2\/k=3\/k=4\/k=5\/k=6\/k=7 by omega) with rfl | rfl | rfl | rfl | rfl | rfl | rfl | rfl<;>exact Vx (args:=[.agg (mi7 _ none 0)]) 4000 (by kernel_rfl)
 | newO=>exact Vx (args:=[.agg (mi7 .newO none 0)]) 4000 (by kernel_rfl)
 | store=>exact Vx (args:=[.agg (mi7 .store none 0)]) 4000 (by kernel_rfl)
 | load=>exact Vx (args:=[.agg (mi7 .load none 0)]) 4000 (by kernel_rfl)
 | pop=>exact Vx (args:=[.agg (mi7 .pop none 0)]) 4000 (by kernel_rfl)
 | ret=>exact Vx (args:=[.agg (mi7 .ret none 0)]) 4000 (by kernel_rfl)
end
end S
end Go.Proofs.YtpofmnfkdkmieaaGreat
