/- What is proved here: the program's Encode answers the bytes o -/
import Derived.Test.YtpofmnfkdkmieaaGreatQ10
import Derived.Test.YtpofmnfkdkmieaaGreatQ09
import Derived.Test.YtpofmnfkdkmieaaGreatQ08
import Derived.Test.YtpofmnfkdkmieaaGreatRows
import Derived.Deep.Slices
import Derived.Carry
import Derived.ProofKit
import Derived.OpenShut
import Derived.JoinedCond
set_option linter.unusedVariables false
set_option linter.unusedSimpArgs false
namespace Go.Proofs.YtpofmnfkdkmieaaGreat
section
open Go Go.RowKit At E
section
variable {n:Nat} {E:Env} {w0:World} {F:List Nat} {H:Hp} {R:Asr}
theorem Zvo {x:Operand} (hx:ev E x=some .nilIface):Ex Tryz.prog n E w0 F H R (.binOp .eql 20 x (.const .nilIface) 20) (.bool true):=⟨fun w _ a ha _ _ _ _ _=>by
 simp only [execOp];rw [ha.eval hx,show a.eval (.const Value.nilIface)=.nilIface from rfl,eqGuard_nil_constR];kernel_rfl⟩
theorem Zvp {x:Operand} (hx:ev E x=some N5):Ex Tryz.prog n E w0 F H R (.binOp .eql 20 x (.const .nilIface) 20) (.bool false):=⟨fun w _ a ha _ _ _ _ _=>by
 simp only [execOp];rw [ha.eval hx,show a.eval (.const Value.nilIface)=.nilIface from rfl];kernel_rfl⟩
theorem Zjc {x:Operand} (hx:ev E x=some N5):Ex Tryz.prog n E w0 F H R (.typeAssert x 20 143 true) (.tuple #[.agg #[.int .i64 0,.int .i64 0],.bool false]):=⟨fun w _ a ha _ _ _ _ _=>by
 simp only [execOp];rw [ha.eval hx];kernel_rfl⟩
end
theorem Zcv (w:World):Qd Tryz.prog 59 #[.nilIface] w (.tuple #[.agg #[.int .i64 0,.int .i64 0],.int .i64 0]):=by
 refine V0 (args:=[.nilIface]) Tryz.func59 J Tryz.ntmps59 ?_;refine Zt (Zd (X1 J (tz J) ?_));intro b0 hb0;refine Za J (Zx J) (Zo (Zj (Zt (Zt (Zd (Za J (Zr J) (Zo (Zj (Yy (Zt (Zd (Za J (Zvo J) (Zo (Zj (Iw J ?_ ?_)))))))))))))))
 ·intro c1;refine Zt (Zd (Za J (Zx J) (Zo (Zj (Zt (Zd (Za J (Ub (tb J) J J) (Y5 (tn J) J J 0 J J J J (Za J (Zx J) (Zo (Zj (Yz (Wa (Wa (Zuw (Zuv J (W8 (tn J) J (X2 0 J) J) (Ziw J)) ?_)))))))))))))));rfl
 ·intro c1;cases c1
theorem Zcw (w:World):Qd Tryz.prog 59 #[N5] w (.tuple #[.agg #[.int .i64 0,.int .i64 0],.int .i64 1]):=by
 refine V0 (args:=[N5]) Tryz.func59 J Tryz.ntmps59 ?_;refine Zt (Zd (X1 J (tz J) ?_));intro b0 hb0;refine Za J (Zx J) (Zo (Zj (Zt (Zt (Zd (Za J (Zr J) (Zo (Zj (Yy (Zt (Zd (Za J (Zvp J) (Zo (Zj (Iw J ?_ ?_)))))))))))))))
 ·intro c1;cases c1
 ·intro c1;refine Zt (Zd (Za J (Zjc J) (Za J (Ol J J) (Za J (Ol J J) (Zo (Zj (Iw J ?_ ?_)))))))
  ·intro c2;cases c2
  ·intro c2;refine Xe (Y3 (Zj (Zt (Zd (Za J (Ub (tb J) J J) (Y5 (tn J) J J 0 J J J J (Za J (Zx J) (Zo (Zj (Yz (Zuw (Zuv J (W8 (tn J) J (X2 0 J) J) (Ziw J)) ?_)))))))))));rfl
theorem Zfn (c:Cl) (fv mv:Value) (b:Nat) (u w:World) (hc0:ClAt u c fv mv) (hu:Below u.heap.size u w) (hb:∀ j v,(clV c fv mv)[j]?=some v->w.cell? ⟨b,j,none⟩=some v) (hlt:b<w.heap.size) :
  Zlp Tryz.prog 70 #[pt b] w (if Xg c=true then some (.string (Tt c)) else none):=by
 refine V0 (args:=[pt b]) Tryz.func70 J Tryz.ntmps70 ?_;refine Zt (Zd (Za J (Zx J) (Zo (Zj (Zt (Zd ?_))))));refine Za J (Vp (tn J) J (Rh (o:=0) (vs:=clV c fv mv) (fun j v hj=>by rw [Nat.zero_add];exact hb j v hj) hlt) J) ?_;refine Zus fn71 J J (fun w' hs=>Zmc c fv mv w' (hc0.mono (Cn hu (Vu hs)))) (fun hn=>Z3 (Zlr hn)) ?_;intro v hv;refine Za J (Zx J) (Zo (Zj (Yz ?_)));refine Zlq J J hv
def encO (c:Cl):Option Value:=if Xg c=true then some (.string (Tt c)) else none
theorem Hj {w0 w:World} {F:List Nat} {H:Hp} {R:Asr} (hs:Sat w0 F H R w) {i b:Nat} {cs:List Value} (hp:H[i]?=some (b,cs)):(∀ j v,cs[j]?=some v->w.cell? ⟨b,j,none⟩=some v)/\b<w.heap.size :=
 ⟨fun j v hj=>by rw [hs.mine (List.mem_of_getElem? hp)];exact hj,hs.lt (List.mem_of_getElem? hp)⟩
theorem Be (c:Cl) (fv mv:Value) (b:Nat) (u w:World) (hc0:ClAt u c fv mv) (hu:Below u.heap.size u w) (hb:(∀ j v,(clV c fv mv)[j]?=some v->w.cell? ⟨b,j,none⟩=some v)/\b<w.heap.size) :
  FnP Tryz.prog 69 #[.func (.func 70) #[] #[pt b]] w (Pw (.string ⟨#[]⟩) (fun v R'=>encO c=some v/\R'=Asr.none) (encO c=none)) False :=
 H9 70 _ w _ _ fn70 fun w2 hb2=>FnP.of_Q (Zfn c fv mv b u w2 hc0 (Cn hu hb2) (fun j v hj=>by rw [hb2.cell (p:=⟨b,j,none⟩) hb.2];exact hb.1 j v hj) (Nat.lt_of_lt_of_le hb.2 hb2.size))
theorem Znw {c:Cl} {v:Value} (h:encO c=some v):Xg c=true/\v=.string (Tt c):=by
 unfold encO at h;split at h
 ·cases h;exact ⟨by assumption,J⟩
 ·cases h
theorem Znx {c:Cl} (h:encO c=none):Xg c=false:=by
 unfold encO at h;split at h
 ·cases h
 ·simpa using (by assumption:¬ Xg c=true)
theorem Zcu (y:Value) (k:Int) (w:World) (hy:(y=.nilIface/\k=0)\/(y=N5/\k=1)):Qd Tryz.prog 59 #[y] w (.tuple #[.agg #[.int .i64 0,.int .i64 0],.int .i64 k]):=by
 rcases hy with ⟨rfl,rfl⟩ | ⟨rfl,rfl⟩
 ·exact Zcv w
 ·exact Zcw w
theorem Zta {c:Cl} {v:Value} {R':Asr} (h:Pw (.string ⟨#[]⟩) (fun v R'=>encO c=some v/\R'=Asr.none) (encO c=none) v R') :
  ∃ (x:ByteArray) (y:Value) (k:Int),v=.tuple #[.string x,y]/\x=(if Xg c then Tt c else ⟨#[]⟩)/\k=(if Xg c then 0 else 1)/\((y=.nilIface/\k=0)\/(y=N5/\k=1)):=by
 rcases h with ⟨x,⟨hx, -⟩,rfl⟩ | ⟨hx, -,rfl⟩
 ·obtain ⟨h1,rfl⟩:=Znw hx;exact ⟨_,_,0,J,by rw [h1];rfl,by rw [h1];rfl,.inl ⟨rfl,rfl⟩⟩
 ·have h1:=Znx hx;exact ⟨_,_,1,J,by rw [h1];rfl,by rw [h1];rfl,.inr ⟨rfl,rfl⟩⟩
theorem Zie (c:Cl) (fv mv:Value) (w:World) (hc0:ClAt w c fv mv) :
  Qd Tryz.prog 26 #[.agg (clV c fv mv).toArray] w (.tuple #[.string (if Xg c then Tt c else ⟨#[]⟩),.int .i64 (if Xg c then 0 else 1)]):=by
 obtain ⟨p1,e1,rfl, -, -⟩:=hc0.fs.is;obtain ⟨p2,e2,rfl, -, -⟩:=hc0.ms.is;refine V0 (args:=[.agg (clV c (.slice p1 c.fields.length e1) (.slice p2 c.methods.length e2)).toArray]) Tryz.func26 J Tryz.ntmps26 ?_;refine Zt (Zd (Uu J J ?_));intro b0 hb0;refine Za J (Zx J) (Za J (Zx J) (Zo (Zj (Zt (Zd (Za J (Zvr J) (Cr fn69 J J (fun w' hs=>Be c _ _ b0 w w' hc0 (Vu hs) (Hj hs (i:=0) J)) (fun h=>h.elim) ?_)))))));intro v R' hv;refine Ud (p:=∃ (x:ByteArray) (y:Value) (k:Int),v=.tuple #[.string x,y]/\x=(if Xg c then Tt c else ⟨#[]⟩)/\k=(if Xg c then 0 else 1)/\((y=.nilIface/\k=0)\/(y=N5/\k=1))) (fun _ _=>Zta hv) ?_;rintro ⟨x,y,k,rfl,hx,hk,hy⟩;refine Za J (Zr J) (Za J (Ol J J) (Za J (Ol J J) (Za J (Zx J) (Za J (Zx J) (Zo (Zj (Zt (Zd (Za J (Zr J) (Vw fn59 J J (fun w' _=>Zcu y k w' hy) ?_))))))))));refine Za J (Zr J) (Za J (Ol J J) (Za J (Ol J J) (X1 J (tz J) ?_)));intro b1 hb1;refine Y5 (tn J) J J 0 J J J J (Za J (Zx J) (Zo (Zj (Zt (Zd (Za J (Zr J) (Za J (Zr J) (Za J (Zx J) (Za J (Zx J) (Zo (Zj (Yz (P_end2 J J J ?_)))))))))))));rw [hx,hk];rfl
end
section
open Go.RowKit At E
theorem Md {P:Program} {n:Nat} {E:Env} {w:World} {fn:Func} {ok:Value->Asr->Prop} {may:Prop} (h:may):WD P n E w fn (FnZ w ok may) [] :=
 ⟨fun _ hb _ ha=>⟨ha.no,.inr ⟨h,rfl,hb⟩⟩⟩
def Zhe (o:Option Cl):Value->Asr->Prop:=fun v R'=>∃ c k,o=some c/\v=.agg (clV c k.fv k.mv).toArray/\R'.Imp (clA c k)/\ClFit c k
theorem Zhc {r:List UInt8} (h:P6 4 r=none):Uy (Qo false true r)=none:=by
 have h4:¬ 4<=r.length:=by
  intro h9;rw [Zdw h9] at h;cases h
 unfold Qo;rw [if_neg];rfl;intro e;have:=congrArg List.length e;rw [List.length_take] at this;simp only [Il,List.length_cons,List.length_nil] at this;omega
theorem Zhd {r:List UInt8} (h:¬ r.take 4=Il):Uy (Qo false true r)=none:=by unfold Qo;rw [if_neg h];rfl
theorem Lz {r:List UInt8} (hcl:r.take 4=Il) (h:pCl false true (r.drop 4)=none):Uy (Qo false true r)=none:=by
 unfold Qo;rw [if_pos hcl,h];rfl
theorem Zqb {r r':List UInt8} {c:Cl} (hcl:r.take 4=Il) (h:pCl false true (r.drop 4)=some (c,r')):Qo false true r=if r'=[] then some c else none:=by
 unfold Qo;rw [if_pos hcl,h]
set_option maxHeartbeats 2000000 in
theorem Zqa (r:List UInt8) (w:World) (hr:r.length<=4000000):FnP Tryz.prog 68 #[.string ⟨r.toArray⟩] w (Zhe (Uy (Qo false true r))) (Uy (Qo false true r)=none):=by
 have hu:Below w.heap.size w w:=Below.refl _ w;refine V0 (args:=[.string ⟨r.toArray⟩]) Tryz.func68 J Tryz.ntmps68 ?_;refine Zt (Zd (X1 J (tz J) ?_));intro b0 hb0;refine Zo (Zj (Zt (Zd (Za J (Zr J) (Za J (Ub (tb J) J J) (Uu J J ?_))))));intro b1 hb1;refine Za J (Zx J) (Zo (Zj (Zt (Zd (Za J (Zr J) ?_)))));refine Y6 Zsu J J 0 J hu Up (K4 w b1 4 r hr) (fun hm=>Yt (Md (Zhc hm))) ?_;rintro v cs' ⟨R',l,r1,hp,rfl,hr1,rfl, -⟩;obtain ⟨hl1,hl2, -⟩:=K6 hp;refine Za J (Mj J J) (Z7 Xq J J (fun w _=>Ym _ w) ?_ ?_)
 rotate_left
 ·intro o1;replace o1:=dFa o1;have hdead:Uy (Qo false true r)=none:=Zhd (fun h=>by rw [hl1,h] at o1;exact absurd J o1);refine Z3 (Ec ?_);exact hdead
 intro o1;replace o1:=dTr o1;have hcl:r.take 4=Il:=by rw [<- hl1];have h9:=congrArg (fun b:ByteArray=>b.data.toList) o1;unfold Il;simpa using h9
 subst hl2;have hS:=V7.first (some (r.drop 4)) (pCl false true)
 refine Zo (Zj (Zt (Zd (Za J (Zr J) (Y6 Ld J J 0 J hu Up (Un w b1 (r.drop 4) (by omega)) (fun hm=>Yt (Md (Lz hcl (W2 hS hm)))) ?_)))));rintro v cs' ⟨R',nm,r2,hp,rfl,hr2,rfl,hnm, -⟩;replace hS:=Xn hS hp;refine Za J (Zr J) (Y6 Ld J J 0 J hu Up (Un w b1 r2 (by omega)) (fun hm=>Yt (Md (Lz hcl (W2 hS hm)))) ?_);rintro v cs' ⟨R',sp,r3,hp,rfl,hr3,rfl,hsp, -⟩;replace hS:=Xn hS hp;refine Za J (Zr J) ?_;refine Y6 Mn J J 0 J hu Up (U8 w b1 r3 (by omega)) (fun hm=>Yt (Md (Lz hcl (Ev hS hm)))) ?_;rintro v cs' ⟨R',n,r4,hp0,rfl,hr4,rfl,hn, -⟩;rw [Sa (show n<9223372036854775808 by omega)];refine Za J (Zr J) (Za J (Ko J) ?_);refine T9 fn114 J J 0 J hu Up (Fc w b1 n 20 (by omega) (Zdp w b1) r4 (by omega)) (fun hm=>Yt (Md (Lz hcl (Ew hS hp0 hm)))) ?_;rintro fv cs' R' ⟨fd,r5,hp,rfl,hr5,fl,hfl,hR,hfll,hflo⟩;replace hS:=Mx hS hp0 hp;refine V5 ((hR.trans (Asr.fst _ _)).left.trans (Asr.fst _ _)) ?_;refine Ud (p:=∃ p l c,fv=.slice p l c) (fun w hs=>V4 hs.res) ?_;rintro ⟨p1,l1,c1',hfv⟩;subst hfv;rw [Zbi] at hfl;subst hfl;clear hp0;refine Za J (Zr J) ?_;refine Y6 Mn J J 0 J hu Up (U8 w b1 r5 (by omega)) (fun hm=>Yt (Md (Lz hcl (Ev hS hm)))) ?_;rintro v cs' ⟨R',n2,r6,hp0,rfl,hr6,rfl,hn2, -⟩;rw [Sa (show n2<9223372036854775808 by omega)];refine Za J (Zr J) (Za J (Ko J) ?_);refine T9 fn117 J J 0 J hu Up (Hg w b1 n2 20 (by omega) (Zax w b1) r6 (by omega)) (fun hm=>Yt (Md (Lz hcl (Ew hS hp0 hm)))) ?_;rintro mv cs' R'' ⟨md,r7,hp,rfl,hr7,ml,hml,hR2,hmll,hmlo⟩;replace hS:=Mx hS hp0 hp;refine V5 hR2.left ?_;refine Ud (p:=∃ p l c,mv=.slice p l c) (fun w hs=>V4 hs.res.1.1) ?_;rintro ⟨p2,l2,c2',hmv⟩;subst hmv;have hD:=Zqb hcl (Vm hS);have hfit:ClFit ⟨nm,sp,fl,md⟩ ⟨.slice p1 l1 c1',.slice p2 l2 c2',ml⟩:=⟨hml,⟨U3 hnm,U3 hsp⟩,⟨by show fl.length<=1048576;omega,hflo⟩,⟨by show ml.length<=1048576;omega,hmlo⟩⟩;refine V5 (R':=clA ⟨nm,sp,fl,md⟩ ⟨.slice p1 l1 c1',.slice p2 l2 c2',ml⟩) (Asr.comm _ _) ?_;refine Za J (Ub (cs:=clH nm sp (.slice p1 l1 c1') (.slice p2 l2 c2')) (tb J) J (by kernel_rfl)) ?_;refine X1 J (tz J) ?_;intro b2 hb2;refine Y5 (tn J) J J 0 J J J J (Zo (Zj (Zt (Zd (Za J (Zr J) (Za J (Oj J) (Za J (Zy (ff J) J) (Za J (Z8 (t1 J) J (Z1 1 J J)) (Za J (Mj J J) (Z7 Xq J J (fun w _=>Ym _ w) ?_ ?_))))))))))
 rotate_left
 ·intro o2;replace o2:=dFa o2;have hdead:Uy (Qo false true r)=none:=by rw [hD,if_neg (fun h=>by rw [h] at o2;exact absurd J o2)];rfl
  refine Z3 (Ec ?_);exact hdead
 intro o2;replace o2:=dTr o2;have hnil:r7=[]:=by have h9:=congrArg (fun b:ByteArray=>b.data.toList) o2;simpa using h9
 rw [if_pos hnil] at hD;refine Zo (Zj (Zt (Zd (Za J (Ys (tn J) J 0 J J) (Z7 fn103 J J (fun w' hs=>Qu ⟨nm,sp,fl,md⟩ (.slice p1 l1 c1') (.slice p2 l2 c2') w' (clA_at (k:=⟨.slice p1 l1 c1',.slice p2 l2 c2',ml⟩) hs.res hfit)) ?_ ?_)))))
 rotate_left
 ·intro o3;have hdead:Uy (Qo false true r)=none:=by rw [hD];simp only [Uy];rw [if_neg (by rw [o3];simp)]
  refine Z3 (Ec ?_);exact hdead
 intro o3;refine Zo (Zj (Zt (Zd (Za J (Ys (tn J) J 0 J J) (Y5 (tn J) J J 2 J J J J (Zo (Zj (Yz (Zja (Pz J (W8 (tn J) J (X2 2 J) J)) ?_)))))))));exact ⟨⟨nm,sp,fl,md⟩,⟨.slice p1 l1 c1',.slice p2 l2 c2',ml⟩,by rw [hD];simp only [Uy];rw [if_pos o3],rfl,.refl _,hfit⟩
theorem Zlg (c:Cl) {fv mv:Value} (h1:fv.oneCell'=true) (h2:mv.oneCell'=true):(clV c fv mv).all (·.oneCell')=true:=by
 simp only [clV,List.all_cons,List.all_nil,h1,h2];rfl
theorem WL_box1 {P:Program} {n:Nat} {E:Env} {w0:World} {F:List Nat} {H:Hp} {R:Asr} {fn:Func} {Z:Ending->World->Prop} {κ:List Kf} {all:Array Oper} {l:List Oper} {d:Nat} {s:TypeId} {x:Operand} {t:TypeId} {p:String} {e:Array Edge} {v:Value} (hd:Nat.blt d n=true) (hx:ev E x=some v) (hv:v.cells=#[v])
  (h:∀ b,w0.heap.size<=b->WL P n all l ((d,pt b)::E) w0 F ((b,[v])::H) R fn Z κ):WL P n all (⟨some d,.box s x,t,p,e,none⟩::l) E w0 F H R fn Z κ :=
 ⟨fun w hs a ha=>wpList_plain rfl fun K hK=>by
  have hr:(execOp a.eval ⟨some d,.box s x,t,p,e,none⟩).run P w=.ok (.value (.pointer (some ⟨w.heap.size,0,none⟩))) (w.alloc (.cells [v].toArray s)):=by
   simp only [execOp];rw [ha.eval hx];simp [Instr.box,newVar,newRow,hv]
  unfold Oper.wp;rw [hr];exact hK _ _ ((h w.heap.size hs.low.size).go (w.alloc _) (hs.alloc [v] s) _ (ha.put hd _))⟩
theorem Zfu (r:List UInt8) (b:Nat) (w:World) (hr:r.length<=4000000) (hb:w.cell? ⟨b,0,none⟩=some (.string ⟨r.toArray⟩)) (hlt:b<w.heap.size) :
  FnP Tryz.prog 67 #[pt b] w (Zhe (Uy (Qo false true r))) (Uy (Qo false true r)=none):=by
 refine V0 (args:=[pt b]) Tryz.func67 J Tryz.ntmps67 ?_;refine Zt (Zd (X1 J (tz J) ?_));intro b0 hb0;refine Zo (Zj (Zt (Zd (Za J (Z8 (t1 J) J (Ztz hb hlt)) (Cr fn68 J J (fun w' _=>Zqa r w' hr) (fun hn=>Z3 (Ec hn)) ?_)))));rintro v R' ⟨c,⟨fv,mv,ms⟩,ho,rfl,hR,hfit⟩;refine V5 (hR.left.trans (Asr.fst _ _)) (Ud (p:=fv.oneCell'=true/\mv.oneCell'=true) (fun w hs=>⟨S0 hs.res.1,S0 hs.res.2.1.1⟩) ?_);rintro ⟨hf1,hm1⟩;refine Y5 (tn J) J J 0 J J (Zlg c hf1 hm1) J (Zo (Zj (Yz (Zja (Pz J (W8 (tn J) J (X2 0 J) J)) ?_))));exact ⟨c,⟨fv,mv,ms⟩,ho,J,.refl _,hfit⟩
def Fz (o:Option Cl):Value->Asr->Prop:=fun v R'=>∃ c k,o=some c/\v=.agg (clV c k.fv k.mv).toArray/\R'.Imp (clA c k)/\ClFit c k/\(clV c k.fv k.mv).all (·.oneCell')=true
theorem fn_one {f:FuncId} {args:Array Value} {w:World} {o:Option Cl} {may:Prop} (h:FnP Tryz.prog f args w (Zhe o) may):FnP Tryz.prog f args w (Fz o) may:=by
 refine Calls.mono h ?_;rintro e w' (⟨v,R',rfl,⟨c,k,ho,rfl,hR,hfit⟩,hw⟩ | ⟨hm,rfl,hb⟩)
 ·have h1:=hR.a w' hw.res;exact .inl ⟨_,R',J,⟨c,k,ho,J,hR,hfit,Zlg c (S0 h1.1) (S0 h1.2.1.1)⟩,hw⟩
 ·exact .inr ⟨hm,J,hb⟩
theorem Bf (r:List UInt8) (b:Nat) (w:World) (hr:r.length<=4000000) (hb:w.cell? ⟨b,0,none⟩=some (.string ⟨r.toArray⟩)) (hlt:b<w.heap.size) :
  FnP Tryz.prog 66 #[.func (.func 67) #[] #[pt b]] w (Pw (.agg Ph.toArray) (Fz (Uy (Qo false true r))) (Uy (Qo false true r)=none)) False :=
 Fm 67 _ w _ _ fn67 (fun w2 hb2=>fn_one (Zfu r b w2 hr (by rw [hb2.cell (p:=⟨b,0,none⟩) hlt];exact hb) (Nat.lt_of_lt_of_le hlt hb2.size)))
  (fun v R' ⟨c,k,_,hv,_,_,h1⟩=>⟨_,hv,rfl,h1⟩)
theorem Zti {o:Option Cl} {v:Value} {R':Asr} (h:Pw (.agg Ph.toArray) (Fz o) (o=none) v R') :
  (∃ c k,o=some c/\v=.tuple #[.agg (clV c k.fv k.mv).toArray,.nilIface]/\R'.Imp (clA c k)/\ClFit c k/\(clV c k.fv k.mv).all (·.oneCell')=true)\/(o=none/\v=.tuple #[.agg Ph.toArray,N5]):=by
 rcases h with ⟨x,⟨c,k,ho,rfl,hR,hfit,h1⟩,rfl⟩ | ⟨hx, -,rfl⟩
 ·exact .inl ⟨c,k,ho,J,hR,hfit,h1⟩
 ·exact .inr ⟨hx,J⟩
theorem Zob {o:Option Cl} {v:Value} {R':Asr} (h:Pw (.agg Ph.toArray) (Fz o) (o=none) v R') :
  ∃ (vs:List Value) (y:Value) (k:Int),v=.tuple #[.agg vs.toArray,y]/\vs.length=4/\vs.all (·.oneCell')=true/\((y=.nilIface/\k=0)\/(y=N5/\k=1))/\decOk o (.tuple #[.agg vs.toArray,.int .i64 k]) R':=by
 rcases Zti h with ⟨c,k,ho,rfl,hR,hfit,h1⟩ | ⟨ho,rfl⟩
 ·exact ⟨_,_,0,J,J,h1,.inl ⟨J,J⟩,.inl ⟨c,k,ho,J,hR,hfit⟩⟩
 ·exact ⟨Ph,_,1,J,J,J,.inr ⟨J,J⟩,.inr ⟨ho,J⟩⟩
theorem Zdr {vs:List Value} (h:vs.length=4):put [.string ⟨#[]⟩,.string ⟨#[]⟩,.slice none 0 0,.slice none 0 0] 0 vs=vs:=by unfold put;rw [h];show []++vs++[]=vs;simp
theorem Ztj {vs:List Value} (h:vs.length=4):cut vs 0 4=vs:=by unfold cut;rw [List.drop_zero,List.take_of_length_le (by omega)]
theorem Zih (s:ByteArray) (w:World) (hs:s.size<=4000000):FnP Tryz.prog 25 #[.string s] w (decOk (Uy (Qo false true (dl s)))) False:=by
 obtain ⟨r,rfl⟩:∃ r:List UInt8,s=⟨r.toArray⟩:=⟨dl s,by cases s;simp [dl]⟩;rw [Is] at hs;rw [Ztf];refine V0 (args:=[.string ⟨r.toArray⟩]) Tryz.func25 J Tryz.ntmps25 ?_;refine Zt (Zd (WL_box1 J J J ?_));intro b0 hb0;refine X1 J (tz J) ?_;intro b1 hb1;refine Za J (Zx J) (Zo (Zj (Zt (Zd (Za J (Zvr J) (Cr fn66 J J (fun w' hs'=>Bf r b0 w' hs ((Hj hs' (i:=1) J).1 0 _ J) (Hj hs' (i:=1) J).2) (fun h=>h.elim) ?_))))));intro v R' hv;obtain ⟨vs,y,k,rfl,h4,h1,hy,hok⟩:=Zob hv;refine Za J (Zr J) (Za J (Ol J J) (Za J (Ol J J) (X1 J (tz J) ?_)));intro b2 hb2;refine Y5 (tn J) J J 0 J h4 h1 (by rw [h4];rfl) ?_;rw [Zdr h4];refine Za J (Zx J) (Zo (Zj (Zt (Zd (Za J (Zr J) (Vw fn59 J J (fun w' _=>Zcu y k w' hy) ?_))))));refine Za J (Zr J) (Za J (Ol J J) (Za J (Ol J J) (X1 J (tz J) ?_)));intro b3 hb3;refine Y5 (tn J) J J 0 J J J J (Za J (Zx J) (Zo (Zj (Zt (Zd ?_)))));refine Za J (Ys (tn J) J 1 J (by rw [h4];rfl)) ?_;refine Za J (Zr J) ?_;rw [Ztj h4];refine Y5 (tn J) J J 2 J h4 h1 (by rw [h4];rfl) ?_;rw [Zdr h4];refine Za J (Zx J) (Zo (Zj (Yz (WQ_imp (Asr.fst _ _) (Zja (Zuv J (W8 (vs:=vs) (tn J) J (X2 2 J) h4) (Ziw J)) ?_)))));exact hok
end







section
open Go Go.RowKit At E
theorem one_at {α:Type} {x y:α} {i:Nat} (h:[x][i]?=some y):i=0/\y=x:=by
 match i,h with
 | 0,h=>exact ⟨rfl,(Option.some.inj h).symm⟩
end

namespace Bu
open Go
theorem one_le {H:Type} (d:DataW H):1<=Rows.uptoBulk d:=by
 cases d with
 | lit l=>cases l<;>simp [Rows.uptoBulk]
 | nil=>simp [Rows.uptoBulk]
 | ptr d=>simp [Rows.uptoBulk]
 | slice elems spare=>simp [Rows.uptoBulk]
 | agg parts=>simp [Rows.uptoBulk]
 | iface t d=>simp [Rows.uptoBulk]
 | map entries=>simp [Rows.uptoBulk]
 | held h=>simp [Rows.uptoBulk]
theorem part_le {H:Type} {d:DataW H} {l:List (DataW H)} (h:d ∈ l):Rows.uptoBulk d<=Rows.uptoBulkAll l:=by
 induction l with
 | nil=>cases h
 | cons x r ih =>
  simp only [Rows.uptoBulkAll];cases List.mem_cons.1 h with
  | inl e=>subst e;omega
  | inr e=>have:=ih e;omega
theorem sum_le {H α:Type} (μ:α->Nat):∀ (l:List α) (ds:List (DataW H)),l.length=ds.length->(∀ (i:Nat) a d,l[i]?=some a->ds[i]?=some d->μ a<=Rows.uptoBulk d)->(l.map μ).sum<=Rows.uptoBulkAll ds
 | [],[],_,_=>by simp
 | [],_::_,h,_=>by simp at h
 | _::_,[],h,_=>by simp at h
 | a::l,d::ds,h,hm=>by
  have h0:=hm 0 a d rfl rfl;have:=sum_le μ l ds (by simpa using h) (fun i a' d' hi hd=>hm (i+1) a' d' (by simpa using hi) (by simpa using hd));simp only [List.map_cons,List.sum_cons,Rows.uptoBulkAll];omega
theorem sum_one {α:Type}:∀ l:List α,(l.map fun _=>1).sum=l.length
 | []=>rfl
 | _::l=>by rw [List.map_cons,List.sum_cons,sum_one l,List.length_cons];omega
end Bu
section
open Go Go.RowKit At E
section
variable {H:Type} {enc:TypeId × Value->H} {W:World}
abbrev Rd (enc:TypeId × Value->H) (W:World) (n:Nat) (t:TypeId) (cs:List Value) (y:DataW H × List MemPlace):Prop:=DataW.trod enc Tryz.prog W 0 (fun _=>true) true n t cs=some y
theorem Zqc {t:TypeId} {n:Nat} {cs:List Value} {y:DataW H × List MemPlace} (ht:Tryz.prog.underlying t=some (.int .i64)) (h:Rd enc W n t cs y):∃ z:Int,cs=[.int .i64 z]/\Yu z/\Rows.uptoBulk y.1=1:=by
 obtain ⟨z,rfl,rfl,hw⟩:=DataW.trod_int ht h;refine ⟨z,J,?_,J⟩;simp only [Lit.wf,Bool.and_eq_true,decide_eq_true_eq] at hw;exact ⟨hw.1,hw.2⟩
theorem rd_list {α:Type} {k:Nat} {El:World->List Value->α->Prop} {Q:α->Prop} {μ:α->Nat} {t e:TypeId} {n:Nat} {cs:List Value} {x:DataW H × List MemPlace} (ht:Tryz.prog.underlying t=some (.slice e)) (hk:Tryz.prog.cellsOf e=k) (hk0:0<k)
  (rd:∀ m cs' y,Rd enc W m e cs' y->Rows.uptoBulk y.1<=1048576->∃ a,El W cs' a/\Q a/\μ a<=Rows.uptoBulk y.1) (h:Rd enc W n t cs x) (hb:Rows.uptoBulk x.1<=1048576) :
  ∃ v l,cs=[v]/\ListAt k El W v l/\(∀ a ∈ l,Q a)/\(l.map μ).sum+1<=Rows.uptoBulk x.1:=by
 rcases Deep.open_slice ht h with ⟨rfl,rfl⟩ | ⟨a,len,cap,m,nn,D,Pl,rfl, -,hlc, -,hm,rfl,hx⟩
 ·exact ⟨_,[],J,⟨none,0,J,⟨by simp,by simp⟩,fun i x hi=>by simp at hi⟩,by simp,by simp [Rows.uptoBulk]⟩
 ·have hlm:len<=m:=by rw [hm];split<;>omega
  simp only [Rows.uptoBulk] at hb ⊢
  have each:∀ i,i<len->∃ a':α,∃ cs',W.cells? 0 (a.add (i*Tryz.prog.cellsOf e)) (Tryz.prog.cellsOf e)=some cs'/\El W cs' a'/\Q a'/\μ a'<=Rows.uptoBulk (D i):=fun i hi=>by
   obtain ⟨cs',h1,h2⟩:=hx i (by omega);have hD:Rows.uptoBulk (D i)<=Rows.uptoBulkAll ((List.range len).map D):=Bu.part_le (List.mem_map_of_mem (List.mem_range.2 hi));obtain ⟨a',h3,h4,h5⟩:=rd nn cs' _ h2 (by show Rows.uptoBulk (D i)<=_;omega);exact ⟨a',cs',h1,h3,h4,h5⟩
  have hlist:∃ l:List α,l.length=len/\∀ i a',l[i]?=some a'->∃ cs',W.cells? 0 (a.add (i*Tryz.prog.cellsOf e)) (Tryz.prog.cellsOf e)=some cs'/\El W cs' a'/\Q a'/\μ a'<=Rows.uptoBulk (D i):=by
   have:∀ j,j<=len->∃ l:List α,l.length=j/\∀ i a',l[i]?=some a'->∃ cs',W.cells? 0 (a.add (i*Tryz.prog.cellsOf e)) (Tryz.prog.cellsOf e)=some cs'/\El W cs' a'/\Q a'/\μ a'<=Rows.uptoBulk (D i):=by
    intro j;induction j with
    | zero=>intro _;exact ⟨[],J,fun i a' hi=>by simp at hi⟩
    | succ j ih =>
     intro hj;obtain ⟨l,hl,hp⟩:=ih (by omega);obtain ⟨a',ha'⟩:=each j (by omega);refine ⟨l++[a'],by simp [hl],fun i b hi=>?_⟩;rcases Nat.lt_or_ge i l.length with h' | h'
     ·rw [List.getElem?_append_left h'] at hi;exact hp i b hi
     ·rw [List.getElem?_append_right h'] at hi;obtain ⟨h9,rfl⟩:=one_at hi;have:i=j:=by omega
      subst this;exact ha'
   exact this len (Nat.le_refl _)
  obtain ⟨l,hl,hp⟩:=hlist;subst hl
  have hsum:(l.map μ).sum<=Rows.uptoBulkAll ((List.range l.length).map D):=Bu.sum_le μ l _ (by simp) (fun i a' d hi hd=>by
   obtain ⟨cs', -, -, -,h5⟩:=hp i a' hi;rw [List.getElem?_map] at hd
   have hlt:i<l.length:=by
    rcases Nat.lt_or_ge i l.length with h' | h'
    ·exact h'
    ·rw [List.getElem?_eq_none h'] at hi;cases hi
   rw [List.getElem?_range hlt] at hd;cases hd;exact h5)
  have hlen:l.length<=Rows.uptoBulkAll ((List.range l.length).map D):=by
   have h9:=Bu.sum_le (fun _=>1) l ((List.range l.length).map D) (by simp) (fun i a' d _ _=>Bu.one_le d);have e:(l.map fun _=>1).sum=l.length:=Bu.sum_one l;omega
  refine ⟨_,l,J,⟨some a,cap,J,⟨by omega,hlc⟩,fun i b hi=>?_⟩,fun b hb'=>?_,by omega⟩
  ·obtain ⟨cs',h1,h2, -, -⟩:=hp i b hi;rw [hk] at h1;obtain ⟨-,hcl,hc⟩:=World.cells?_some h1
   have hpos:0<l.length:=by
    rcases Nat.lt_or_ge i l.length with h' | h'
    ·omega
    ·rw [List.getElem?_eq_none h'] at hi;cases hi
   obtain ⟨x0,hx0⟩:∃ x0,l[0]?=some x0:=⟨_,List.getElem?_eq_getElem hpos⟩;obtain ⟨cs0,h10, -, -, -⟩:=hp 0 x0 hx0;rw [hk] at h10;obtain ⟨-,hcl0,hc0⟩:=World.cells?_some h10;have h00:=hc0 0 hk0;rw [Nat.zero_mul,Addr.add_zero',Addr.add_zero',List.getElem?_eq_getElem (by omega)] at h00;have hsp:=World.cell?_spot h00;have hlt:=World.block_lt_of_cell? W a h00;obtain ⟨bb,oo,ss⟩:=a;dsimp only at hsp hlt;subst hsp;refine ⟨bb,oo,cs',J,hlt,h2,fun j u hj=>?_⟩
   have hjk:j<k:=by
    rcases Nat.lt_or_ge j k with h' | h'
    ·exact h'
    ·rw [List.getElem?_eq_none (by omega)] at hj;cases hj
   have:=hc j hjk;rw [Addr.add_lit,Addr.add_lit,hj] at this;exact this
  ·obtain ⟨i,hi⟩:=List.mem_iff_getElem?.1 hb';obtain ⟨cs', -, -,h4, -⟩:=hp i b hi;exact h4
end
end
section
open Go Go.RowKit At E
theorem ul_bool:Tryz.prog.underlying 4=some (.bool):=by kernel_rfl
end
namespace sums
open Go Go.RowKit Go.ChangeShapes Go.WideShapes Go.ChangeAt At E
theorem own:ownKnob Tryz.prog.godebug=none:=by kernel_rfl
theorem laid:laidOutB Tryz.prog=true:=by kernel_rfl
theorem pars:Tryz.f7.params=#[54,54,3]:=by kernel_rfl
theorem ress:Tryz.f7.resultTypes=#[4]:=by kernel_rfl
theorem Ft:Tryz.prog.underlying 54=some (.slice 3):=by kernel_rfl
theorem ul_i:Tryz.prog.underlying 3=some (.int .i64):=by kernel_rfl
theorem ce_i:Tryz.prog.cellsOf 3=1:=by kernel_rfl
end sums
end Go.Proofs.YtpofmnfkdkmieaaGreat
