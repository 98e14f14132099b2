/- What is proved here: the program's base: which class stands a -/
import Derived.Test.YtpofmnfkdkmieaaGreatQ33
set_option linter.unusedVariables false
set_option linter.unusedSimpArgs false
namespace Go.Proofs.YtpofmnfkdkmieaaGreat
section
open Go Go.RowKit At E
set_option maxHeartbeats 2000000 in
theorem super_any (s:ByteArray) (w:World):Vc Tryz.prog 238 #[.string s] w (aboveV s):=by
 refine Xf (args:=[.string s]) Tryz.func238 J Tryz.ntmps238 ?_;refine Zg (Zb (Za J (Zf J) (Za J (Zf J) (Ze (Zc (Zg (Zg (Zb (Za J (Zd J) (Ze (Zc (Zn (Zg (Zb (Za J (Y7 J J) (Za J (Zf J) (Ze (Zc (Zu J ?_ ?_)))))))))))))))))))
 ·intro c1;refine Zg (Zb (Za J (Zf J) (Za J (Zf J) (Ze (Zc (Zr (Zl (Zl (Wy J J J ?_)))))))))
  subst_vars;rfl
 ·intro c1;refine Zg (Zb (Za J (Y7 J J) (Za J (Zf J) (Ze (Zc (Zu J ?_ ?_))))))
  ·intro c2;refine Zg (Zb (Za J (Zf J) (Za J (Zf J) (Ze (Zc (Zr (Zl (Zl (Wy J J J ?_)))))))))
   subst_vars;rfl
  ·intro c2;refine Zg (Zb (Za J (Y7 J J) (Za J (Zf J) (Ze (Zc (Zu J ?_ ?_))))))
   ·intro c3;refine Zg (Zb (Za J (Zf J) (Za J (Zf J) (Ze (Zc (Zr (Zl (Zl (Wy J J J ?_)))))))))
    subst_vars;rfl
   ·intro c3;refine Zg (Zg (Zb (Za J (Y7 J J) (Za J (Zf J) (Ze (Zc (Zu J ?_ ?_)))))))
    ·intro c4;refine Zo (Zc (Yh J (Zg (Zb (Za J (Zf J) (Za J (Zf J) (Ze (Zc (Zr (Zl (Zl (Wy J J J ?_))))))))))))
     subst_vars;rfl
    ·intro c4;refine Zg (Zb (Za J (Y7 J J) (Za J (Zf J) (Ze (Zc (Zu J ?_ ?_))))))
     ·intro c5;refine Zo (Zc (Yh J (Zg (Zb (Za J (Zf J) (Za J (Zf J) (Ze (Zc (Zr (Zl (Zl (Wy J J J ?_))))))))))))
      subst_vars;rfl
     ·intro c5;refine Zg (Zb (Za J (Y7 J J) (Za J (Zf J) (Ze (Zc (Zu J ?_ ?_))))))
      ·intro c6;refine Zo (Zc (Yh J (Zg (Zb (Za J (Zf J) (Za J (Zf J) (Ze (Zc (Zr (Zl (Zl (Wy J J J ?_))))))))))))
       subst_vars;rfl
      ·intro c6;refine Zg (Zb (Za J (Y7 J J) (Za J (Zf J) (Ze (Zc (Zu J ?_ ?_))))))
       ·intro c7;refine Zo (Zc (Yh J (Zg (Zb (Za J (Zf J) (Za J (Zf J) (Ze (Zc (Zr (Zl (Zl (Wy J J J ?_))))))))))))
        subst_vars;rfl
       ·intro c7;refine Zg (Zb (Za J (Y7 J J) (Za J (Zf J) (Ze (Zc (Zu J ?_ ?_))))))
        ·intro c8;refine Zo (Zc (Yh J (Zg (Zb (Za J (Zf J) (Za J (Zf J) (Ze (Zc (Zr (Zl (Zl (Wy J J J ?_))))))))))))
         subst_vars;rfl
        ·intro c8;refine Zg (Zb (Za J (Y7 J J) (Za J (Zf J) (Ze (Zc (Zu J ?_ ?_))))))
         ·intro c9;refine Zo (Zc (Yh J (Zg (Zb (Za J (Zf J) (Za J (Zf J) (Ze (Zc (Zr (Zl (Zl (Wy J J J ?_))))))))))))
          subst_vars;rfl
         ·intro c9;refine Zg (Zb (Za J (Y7 J J) (Za J (Zf J) (Ze (Zc (Zu J ?_ ?_))))))
          ·intro c10;refine Zo (Zc (Yh J (Zg (Zb (Za J (Zf J) (Za J (Zf J) (Ze (Zc (Zr (Zl (Zl (Wy J J J ?_))))))))))))
           subst_vars;rfl
          ·intro c10;refine Zg (Zb (Za J (Y7 J J) (Za J (Zf J) (Ze (Zc (Zu J ?_ ?_))))))
           ·intro c11;refine Zo (Zc (Yh J (Zg (Zb (Za J (Zf J) (Za J (Zf J) (Ze (Zc (Zr (Zl (Zl (Wy J J J ?_))))))))))))
            subst_vars;rfl
           ·intro c11;refine Zg (Zb (Za J (Y7 J J) (Za J (Zf J) (Ze (Zc (Zu J ?_ ?_))))))
            ·intro c12;refine Zo (Zc (Yh J (Zg (Zb (Za J (Zf J) (Za J (Zf J) (Ze (Zc (Zr (Zl (Zl (Wy J J J ?_))))))))))))
             subst_vars;rfl
            ·intro c12;refine Zg (Zb (Za J (Y7 J J) (Za J (Zf J) (Ze (Zc (Zu J ?_ ?_))))))
             ·intro c13;refine Zo (Zc (Yh J (Zg (Zb (Za J (Zf J) (Za J (Zf J) (Ze (Zc (Zr (Zl (Zl (Wy J J J ?_))))))))))))
              subst_vars;rfl
             ·intro c13;refine Zg (Zb (Za J (Y7 J J) (Za J (Zf J) (Ze (Zc (Zu J ?_ ?_))))))
              ·intro c14;refine Zo (Zc (Yh J (Zg (Zb (Za J (Zf J) (Za J (Zf J) (Ze (Zc (Zr (Zl (Zl (Wy J J J ?_))))))))))))
               subst_vars;rfl
              ·intro c14;refine Zg (Zb (Za J (Y7 J J) (Za J (Zf J) (Ze (Zc (Zu J ?_ ?_))))))
               ·intro c15;refine Zo (Zc (Yh J (Zg (Zb (Za J (Zf J) (Za J (Zf J) (Ze (Zc (Zr (Zl (Zl (Wy J J J ?_))))))))))))
                subst_vars;rfl
               ·intro c15;refine Zg (Zb (Za J (Y7 J J) (Za J (Zf J) (Ze (Zc (Zu J ?_ ?_))))))
                ·intro c16;refine Zo (Zc (Yh J (Zg (Zb (Za J (Zf J) (Za J (Zf J) (Ze (Zc (Zr (Zl (Zl (Wy J J J ?_))))))))))))
                 subst_vars;rfl
                ·intro c16;refine Zb (Za J (Y7 J J) (Za J (Zf J) (Ze (Zc (Zu J ?_ ?_)))))
                 ·intro c17;refine Zg (Zb (Za J (Zf J) (Za J (Zf J) (Ze (Zc (Zr (Zl (Zl (Wy J J J ?_)))))))))
                  subst_vars;rfl
                 ·intro c17;refine Zo (Zt (Zc (Zg (Zb (Za J (Zf J) (Za J (Zf J) (Ze (Zc (Zr (Wy J J J ?_))))))))));exact (above_no (by assumption) (by assumption) (by assumption) (by simp only [otherS,List.any_cons,List.any_nil,Bool.or_false,Bool.or_eq_false_iff,decide_eq_false_iff_not];refine ⟨?_,?_,?_,?_,?_,?_,?_,?_,?_,?_,?_,?_,?_,?_⟩<;>assumption)).symm
theorem isThere_any (s:ByteArray) (w:World):Vc Tryz.prog 361 #[.string s] w (.bool (Vg s).isSome):=by
 refine Xf (args:=[.string s]) Tryz.func361 J Tryz.ntmps361 ?_;refine Zg (Zb (Za J (Zf J) (Ze (Zc (Zg (Zb (Za J (Zd J) (Yq fn238 J J (fun w _=>super_any _ w) ?_))))))));refine Za J (Zd J) (Za J (X3 J J) (Za J (X3 J J) (Za J (Zf J) (Za J (Zf J) (Ze (Zc (Zg (Zb (Za J (Zd J) (Za J (Zf J) (Ze (Zc (Zr (Z3 J J ?_))))))))))))));rfl
theorem chain_some {a:ByteArray} (h:¬ a=At.mt):(Vg a).isSome=true→Qk a=At.mt∨(Vg (Qk a)).isSome=true:=by
 intro h';by_cases h0:a=obS
 ·subst h0;exact .inl J
 ·by_cases h1:a=thS
  ·subst h1;exact .inr J
  ·by_cases h2:a=erS
   ·subst h2;exact .inr J
   ·by_cases h3:otherS.any (fun x=>decide (a=x))=true
    ·have e:Vg a=some erS:=by unfold Vg;rw [if_neg h0,if_neg h1,if_neg h2,if_pos h3]
     unfold Qk;rw [e];exact .inr J
    ·have e:Vg a=none:=by unfold Vg;rw [if_neg h0,if_neg h1,if_neg h2,if_neg h3]
     rw [e] at h';cases h'
def belowS (a b:ByteArray):Bool:=(Vg a).isSome&&(Oh a).any fun z=>decide (z=b)
def BelI (a b:ByteArray) (y:ByteArray × Bool):Prop:=belowS a b=(y.2&&(Oh y.1).any fun z=>decide (z=b))∧(y.2=true→y.1=At.mt∨(Vg y.1).isSome=true)
theorem bel_next {a b:ByteArray} {y:ByteArray × Bool} (h:BelI a b y) (h1:y.2=true) (h2:¬ y.1=At.mt) (h3:¬ y.1=b):BelI a b (Qk y.1,(Vg y.1).isSome):=by
 have h4:(Vg y.1).isSome=true:=(h.2 h1).resolve_left h2;refine ⟨?_,fun _=>chain_some h2 h4⟩;rw [h.1,h1,Ro h2,List.any_cons,decide_eq_false h3,Bool.false_or,h4]
theorem isBelow_any (a b:ByteArray) (w:World):Vc Tryz.prog 362 #[.string a,.string b] w (.bool (belowS a b)):=by
 refine Xf (args:=[.string a,.string b]) Tryz.func362 J Tryz.ntmps362 ?_;refine Zg (Zb (Za J (Zf J) (Ze (Zc (Zg (Zg (Zb (Za J (Zd J) (Za J (Zd J) (Yq fn361 J J (fun w _=>isThere_any _ w) ?_))))))))));refine Za J (Zf J) (Za J (Zf J) (Ze (Zc (Zn ?_))));refine Yf (Yg (X:=ByteArray × Bool) (fun y:ByteArray × Bool=>[(1,.string b),(4,.bool false),(5,.string y.1),(6,.bool y.2)]) _ _ (fun y:ByteArray × Bool=>[]) (fun y:ByteArray × Bool=>Asr.none) (fun y:ByteArray × Bool=>BelI a b y) (fun y:ByteArray × Bool=>(Oh y.1).length) ((a,(Vg a).isSome)) (⟨J,fun h=>.inr h⟩) ?_) ⟨J,J,J,J,trivial⟩;intro y hI;refine Zg (Zg (Zb (Za J (Zd J) (Za J (Zd J) (Ub J J J ?_ ?_)))))
 ·intro h1;refine Zk J J J (Zd J) (Zk J J J (S5 J J) (Za J (Zp J J) (Ze (Zc (Qw J ?_ ?_)))))
  ·intro c1;refine Zo (Zc (Zg (Zn (Zg (Zb (Za J (Zd J) (Za J (Zd J) (Za J (Y7 J J) (Ze (Zc (Zu J ?_ ?_)))))))))))
   ·intro c2;refine Zg (Zb (Za J (Zf J) (Ze (Zc (Zr (Zl (Zl (Zl (Zl (Zl (Z3 J J ?_)))))))))));rw [hI.1,h1,Ro c1,List.any_cons,decide_eq_true c2];rfl
   ·intro c2;refine Zo (Zt (Zc (Zb (Za J (Zd J) (Yq fn238 J J (fun w _=>super_any _ w) ?_)))));refine Za J (Zd J) (Za J (X3 J J) (Za J (X3 J J) (Za J (Zf J) (Za J (Zf J) (Ze ?_)))));refine Z1 ((Qk y.1,(Vg y.1).isSome)) ?_ (bel_next hI h1 c1 c2) 0 J (J) ⟨J,J,J,J,trivial⟩;rw [Ro c1];exact Nat.lt_succ_self _
  ·intro c1;refine Yd (Yc (Z5 (Yb (Zc (Zg (Zb (Za J (Zf J) (Ze (Zc (Zr (Z3 J J ?_)))))))))));rw [hI.1,h1,chain_nil c1];rfl
 ·intro h1;refine Zm J J J (Zm J J J (Za J (Zs J J) (Ze (Zc (Xn J (Yd (Yc (Z5 (Yb (Zc (Zg (Zb (Za J (Zf J) (Ze (Zc (Zr (Z3 J J ?_)))))))))))))))));rw [hI.1,h1];rfl
structure WkX where
 c:Cl
 fv:Value
 mv:Value
 gb:Nat
 n:Nat
 m:Me
 pv:Value
 cv:Value
 hv:Value
 rv:Value
structure WkM where
 gr:List Bl
 pos:Nat
 lo:List Ty
 lv:Value
 st:List Ty
 sv:Value
 alive:Bool
def wkC (x:WkX) (k:WkM):List Value:=[.string x.c.name,.string x.c.super,x.fv,x.mv,.map (some x.gb),.int .i64 x.n,.string x.m.name,.bool x.m.stat,x.pv,.int .i64 x.m.result.kind,.string x.m.result.cls,.int .i64 x.m.locals,.int .i64 x.m.stack,x.cv,x.hv,x.rv,.int .i64 k.pos,k.lv,k.sv,.bool k.alive]
def wkA (x:WkX) (k:WkM):Asr:=(Q4 x.gb k.gr).and ((lsA k.lv k.lo).and (lsA k.sv k.st))
def Vl (k:WkM):St:=⟨fun y=>y ∈ k.gr,k.lo,k.st,k.alive⟩
structure WkOk (x:WkX) (k:WkM):Prop where
 lo:(k.lo.length:Int)=x.m.locals
 st:(k.st.length:Int)≤x.m.stack
 bs:x.m.stack≤20
 bl:x.m.locals≤20
def okW (x:WkX) (k:WkM) (f:St→Option St):Value→List Value→Asr→Prop:=fun v cs' R' =>
 v=.tuple #[]∧∃ k',cs'=wkC x k'∧R'.Imp (wkA x k')∧WkOk x k'∧k'.pos=k.pos∧f (Vl k)=some (Vl k')
def Rh (f:FuncId) (args:List Value) (u:World) (b:Nat) (x:WkX) (k:WkM) (g:St→Option St):Prop :=
 RxP Tryz.prog f (pt b::args).toArray u b (wkC x k) (wkA x k) (okW x k g) (Vp x.n k.pos) (g (Vl k)=none)
theorem Ex_ifaceW {n:Nat} {E:Env} {w0:World} {F:List Nat} {H:Hp} {R:Asr} {x:Operand} {v:Value} (hx:ev E x=some v):Ex Tryz.prog n E w0 F H R (.makeInterface 143 x) (.iface 143 v):=⟨fun w _ a ha _ _ _ _ _=>by
 have hu:=Tryz.underlying143;simp only [execOp];rw [ha.eval hx];simp [Instr.makeInterface,run_underlying hu]⟩
theorem V0 (u:World) (b:Nat) (x:WkX) (k:WkM) (is:Bool) (Rin:Asr) :
  RxP Tryz.prog 163 #[pt b,.bool is] u b (wkC x k) Rin (fun v cs' R'=>v=.tuple #[]∧cs'=wkC x k∧R'=Rin∧is=true) (Vp x.n k.pos) (is=false):=by
 intro w hu hF hs0;refine Yz (hs0) (args:=[pt b,.bool is]) Tryz.func163 J Tryz.ntmps163 ?_;refine Zg (Zb (Za J (Zd J) (Za J (Xv J) (Ze (Zc (W4 J ?_ ?_))))))
 ·intro c1;refine Lk 10 X2 (by kernel_rfl) ?_;refine Xs J (Zd J) (Xs J (Zw J) (Xs J (Zh (ff J) J) (Xs J (Zj (t1 J) J (Zi 0 J J)) (Xs J (Zd J) (Xs J (Zw J) (Xs J (Zh (ff J) J) (Xs J (Zj (t1 J) J (Zi 0 J J)) (Xs J (Z8 (tb J) J J) (Xs J (Ex_ifaceW J) (WS_nil (WL_panic J ?_)))))))))));exact Rx_dies (by simpa using c1)
 ·intro c1;refine Zo (W5 J 0 J ?_);exact ⟨J,J,J,by simpa using c1⟩
def okLast (x:WkX) (k:WkM):Value→List Value→Asr→Prop:=fun v cs' R'=>∃ t s',v=.agg (tyV t).toArray∧cs'=wkC x k∧R'=wkA x k∧V9 (Vl k)=some (t,s')
theorem wlast_any (u:World) (b:Nat) (x:WkX) (k:WkM):RxP Tryz.prog 254 #[pt b] u b (wkC x k) (wkA x k) (okLast x k) (Vp x.n k.pos) (V9 (Vl k)=none):=by
 intro w hu hF hs0;obtain ⟨gr,pos,lo,lv,st,sv,al⟩:=k;have hT:(lsA sv st).A w:=hs0.res.2.1.2.1;obtain ⟨p,c,rfl,⟨hlc,hcm⟩,hps⟩:=T6 hT;replace hps:Hid _:=hps;clear hT;refine Yz (hs0) (args:=[pt b]) Tryz.func254 J Tryz.ntmps254 ?_;refine Zg (Zb (Yk J (tz J) ?_));intro b1 hb1;refine Ze (Zc (Zg (Zb (Za J (Zd J) (Za J (Zd J) (Za J (Zw J) (Za J (Zh (ff J) J) (Za J (Zh (ff J) J) (Za J (Zj (t1 J) J (Zi 1 J J)) (Za J (Zx (ts J) J) (Za J (Ug J J) ?_)))))))))));refine Y8 Pe J J 1 J hu hF (V0 u b x _ _ _) (fun hm=>by (repeat refine Wh ?_);exact Wm (pop_none (List.eq_nil_of_length_eq_zero (by show st.length=0;have:=of_decide_eq_false hm;omega)))) ?_;rintro v cs' R' ⟨rfl,rfl,rfl,hpos⟩;replace hpos:=of_decide_eq_true hpos;obtain ⟨g,hgo⟩:=hps.out (by omega);subst hgo;obtain ⟨t,hi⟩:∃ t,st[st.length - 1]?=some t:=⟨_,List.getElem?_eq_getElem (by omega)⟩;refine Ze (Zc (Zg (Lk 14 X2 (by kernel_rfl) ?_)));refine Xs J (Zd J) (Xs J (Zw J) (Xs J (Zh (ff J) J) (Xs J (Zh (ff J) J) (Xs J (Zj (t1 J) J (Zi 1 J J)) (Xs J (Zd J) (Xs J (Zw J) (Xs J (Zh (ff J) J) (Xs J (Zh (ff J) J) (Xs J (Zj (t1 J) J (Zi 1 J J)) (Xs J (Zx (ts J) J) ?_))))))))));refine Xs J (Q0 J J ?_) ?_;omega;refine WS_same (s:=23) (v':=.int .i64 ((st.length - 1:Nat):Int)) J (congrArg (Value.int .i64) (by omega)) ?_;refine Xs J (Yo (ts J) J J ?_) ?_
 ·omega
 refine Xs J (Yj (tn J) J (row_ls (fun w hs=>hs.res.2.1.2.1) hi) J) ?_;refine WS_nil (Z2 (tn J) J J 0 J J J J (Ze (Zc (Zr (Rx_endR (We J (Wf (tn J) J (Yl 0 J) J)) 1 J ?_)))));exact ⟨t,_,J,J,J,pop_some (n:=st.length - 1) (by show st.length=_;omega) hi⟩
def okTake (x:WkX) (k:WkM):Value→List Value→Asr→Prop:=fun v cs' R'=>∃ t k',v=.agg (tyV t).toArray∧cs'=wkC x k'∧R'.Imp (wkA x k')∧WkOk x k'∧k'.pos=k.pos∧V9 (Vl k)=some (t,Vl k')∧∃ st sv,k'={ k with st:=st,sv:=sv }
theorem pop_len {s s':St} {t:Ty} (h:V9 s=some (t,s')):∃ n,s.st.length=n+1∧s.st[n]?=some t∧s'={ s with st:=s.st.take n }:=by
 cases hn:s.st.length with
 | zero=>rw [pop_none (List.eq_nil_of_length_eq_zero hn)] at h;cases h
 | succ n =>
  have hi:s.st[n]?=some (s.st[n]'(by omega)):=List.getElem?_eq_getElem (by omega);rw [pop_some hn hi] at h;cases h;exact ⟨n,J,hi,J⟩
theorem wtake_any (u:World) (b:Nat) (x:WkX) (k:WkM) (hk:WkOk x k):RxP Tryz.prog 253 #[pt b] u b (wkC x k) (wkA x k) (okTake x k) (Vp x.n k.pos) (V9 (Vl k)=none):=by
 intro w hu hF hs0;obtain ⟨gr,pos,lo,lv,st,sv,al⟩:=k;have hT:(lsA sv st).A w:=hs0.res.2.1.2.1;obtain ⟨p,c,rfl,⟨hlc,hcm⟩,hps⟩:=T6 hT;replace hps:Hid _:=hps;replace hk:Hid _:=hk;clear hT;refine Yz (hs0) (args:=[pt b]) Tryz.func253 J Tryz.ntmps253 ?_;refine Zg (Zb (Yk J (tz J) ?_));intro b1 hb1;refine Ze (Zc (Zg (Zb (Za J (Zd J) ?_))));refine Y8 fn254 J J 1 J hu hF (wlast_any u b x _) (fun hm=>by (repeat refine Wh ?_);exact Wm (hm)) ?_;rintro v cs' R' ⟨t,s',rfl,rfl,rfl,hp⟩;obtain ⟨m,hm1,hm2,hm3⟩:=pop_len hp;replace hm1:st.length=m+1:=hm1;refine Yk J (tz J) ?_;intro b2 hb2;refine Z2 (tn J) J J 0 J J J J (Ze (Zc (Zg (Lk 14 X2 (by kernel_rfl) ?_))));refine Xs J (Zd J) (Xs J (Zd J) (Xs J (Zw J) (Xs J (Zh (ff J) J) (Xs J (Zh (ff J) J) (Xs J (Zj (t1 J) J (Zi 2 J J)) (Xs J (Zd J) (Xs J (Zw J) (Xs J (Zh (ff J) J) (Xs J (Zh (ff J) J) (Xs J (Zj (t1 J) J (Zi 2 J J)) (Xs J (Zx (ts J) J) ?_)))))))))));refine Xs J (Q0 J J ?_) ?_;omega;refine WS_same (s:=18) (v':=.int .i64 (m:Int)) J (congrArg (Value.int .i64) (by omega)) ?_;refine Xs J (U4 (ts J) J J ?_) ?_
 ·omega
 refine WS_nil (Za J (Zw J) (Za J (Zh (ff J) J) (Za J (Zh (ff J) J) (Yy (t1 J) J J 2 J J J J (Ze (Zc (Zg (Zb (Za J (Zv (tn J) J 0 J J) (Z2 (tn J) J J 1 J J J J (Ze (Zc (Zr (Rx_endR (We J (Wf (tn J) J (Yl 1 J) J)) 2 J ?_))))))))))))));exact ⟨t,⟨gr,pos,lo,lv,st.take m,.slice p m c,al⟩,J,J,Asr.Imp.right (Asr.Imp.right (lsA_take m (by omega) hlc)),⟨hk.out.lo,by have:=hk.out.st;dsimp only at this ⊢;rw [List.length_take];omega,hk.out.bs,hk.out.bl⟩,rfl,by rw [hp,hm3];rfl,_,_,rfl⟩
theorem wkA_st (x:WkX) (k:WkM):(wkA x k).Imp ((lsA k.sv k.st).and ((Q4 x.gb k.gr).and (lsA k.lv k.lo))):=(Asr.cossa _ _ _).trans (Asr.comm _ _)
theorem st_wkA (gr:List Bl) (gb:Nat) (lv sv:Value) (lo st:List Ty):((lsA sv st).and ((Q4 gb gr).and (lsA lv lo))).Imp ((Q4 gb gr).and ((lsA lv lo).and (lsA sv st))):=(Asr.comm _ _).trans (Asr.assoc _ _ _)
theorem lay_none {m:Me} {t:Ty} {s:St} (h:¬ (s.st.length:Int)<m.stack):U1 m t s=none:=by unfold U1;rw [if_neg h]
theorem lay_some {m:Me} {t:Ty} {s:St} (h:(s.st.length:Int)<m.stack):U1 m t s=some { s with st:=s.st++[t] }:=by unfold U1;rw [if_pos h]
theorem wlay_any (u:World) (b:Nat) (x:WkX) (k:WkM) (t:Ty) (hk:WkOk x k):Rh 252 [.agg (tyV t).toArray] u b x k (U1 x.m t):=by
 intro w hu hF hs0;obtain ⟨gr,pos,lo,lv,st,sv,al⟩:=k;have hT:(lsA sv st).A w:=hs0.res.2.1.2.1;obtain ⟨p,c,rfl,⟨hlc,hcm⟩,hps⟩:=T6 hT;have hst:(st.length:Int)≤x.m.stack:=hk.st;have hbs:=hk.bs;replace hps:Hid _:=hps;replace hk:Hid _:=hk;clear hT;refine Yz (hs0) (args:=[pt b,.agg (tyV t).toArray]) Tryz.func252 J Tryz.ntmps252 ?_;refine Zg (Zb (Y2 J J ?_));intro b1 hb1;refine Ze (Zc (Zg (Lk 13 X2 (by kernel_rfl) ?_)));refine Xs J (Zd J) (Xs J (Zd J) (Xs J (Zw J) (Xs J (Zh (ff J) J) (Xs J (Zh (ff J) J) (Xs J (Zj (t1 J) J (Zi 1 J J)) (Xs J (Zx (ts J) J) (Xs J (Zd J) (Xs J (Zw J) (Xs J (Zh (ff J) J) (Xs J (Zh (ff J) J) (Xs J (Zj (t1 J) J (Zi 1 J J)) (Xs J (Yi J J) (WS_nil ?_)))))))))))));refine Y8 Pe J J 1 J hu hF (V0 u b x _ _ _) (fun hm=>by (repeat refine Wh ?_);exact Wm (lay_none (of_decide_eq_false hm))) ?_;rintro v cs' R' ⟨rfl,rfl,rfl,hpos⟩;replace hpos:=of_decide_eq_true hpos;refine Ze (Zc (Xt (wkA_st _ _) (WC_zheld 12 X2 (V5 0 J (by kernel_rfl) (by kernel_rfl) (by kernel_rfl) (by kernel_rfl) J (fun _ hs=>lN _ (hs.drop 0)) (Zd J) ?_))));refine V5 1 J (by kernel_rfl) (by kernel_rfl) (by kernel_rfl) (by kernel_rfl) J (fun _ hs=>lN _ (hs.drop 0)) (Zd J) ?_;refine V5 2 J (by kernel_rfl) (by kernel_rfl) (by kernel_rfl) (by kernel_rfl) J (fun _ hs=>lN _ (hs.drop 0)) (Zw J) ?_;refine V5 3 J (by kernel_rfl) (by kernel_rfl) (by kernel_rfl) (by kernel_rfl) J (fun _ hs=>lN _ (hs.drop 0)) (Zh (ff J) J) ?_;refine V5 4 J (by kernel_rfl) (by kernel_rfl) (by kernel_rfl) (by kernel_rfl) J (fun _ hs=>lN _ (hs.drop 0)) (Zh (ff J) J) ?_;refine V5 5 J (by kernel_rfl) (by kernel_rfl) (by kernel_rfl) (by kernel_rfl) J (fun _ hs=>lN _ (hs.drop 0)) (Zj (t1 J) J (Zi 1 J J)) ?_;refine V5 6 J (by kernel_rfl) (by kernel_rfl) (by kernel_rfl) (by kernel_rfl) J (fun _ hs=>lN _ (hs.drop 0)) (Zv (tn J) J 0 J J) ?_;refine Tg (rs:=[7]) (by kernel_rfl) (by simp) ?_;refine Vy ?_ (Ur);refine ⟨_,J,?_⟩;refine Wk J (ts J) (tz J) J J J J J ?_;intro b2 hb2;refine Ze (Uw (.inr (fun _ hs=>lN _ (hs.drop 1))) ?_);refine Tg (rs:=[8]) (by kernel_rfl) (by simp) ?_;refine Vy ?_ (Ur);refine ⟨_,J,?_⟩;refine WL_appZ J (ta J) (by decide) J J (Yl 0 J) (by show st.length≤_;omega) ?_;intro v1;refine Ze (Uw (.inr (fun _ hs=>lN _ (hs.drop 1))) ?_);refine Tg (rs:=[9]) (by kernel_rfl) (by simp) ?_;refine Vy ?_ (Ur);refine ⟨_,J,?_⟩;refine Za J (Zw J) (Ze (Uw (.inr (fun _ hs=>lN _ (hs.drop 1))) ?_));refine Tg (rs:=[10]) (by kernel_rfl) (by simp) ?_;refine Vy ?_ (Ur);refine ⟨_,J,?_⟩;refine Za J (Zh (ff J) J) (Ze (Uw (.inr (fun _ hs=>lN _ (hs.drop 1))) ?_));refine V5 11 J (by kernel_rfl) (by kernel_rfl) (by kernel_rfl) (by kernel_rfl) J (fun _ hs=>lN _ (hs.drop 1)) (Zh (ff J) J) ?_;refine Tg (rs:=[12]) (by kernel_rfl) (by simp) ?_;refine Vy ?_ (Ur);refine ⟨_,J,?_⟩;refine Xc (p:=∃ p c,v1=.slice p (st++[t]).length c) (fun w hs=>by obtain ⟨p,c,h,_⟩:=T6 hs.res.1;exact ⟨p,c,h⟩) ?_;rintro ⟨p3,c3,hv3⟩;subst hv3;refine Yy (t1 J) J J 2 J J J J (Ze (Uw (.inl J) (WZ_done (by kernel_rfl) ?_)));refine W5 J 2 J ?_;exact ⟨J,⟨gr,pos,lo,lv,st++[t],_,al⟩,J,st_wkA _ _ _ _ _ _,⟨hk.out.lo,by show ((st++[t]).length:Int)≤_;rw [List.length_append];simp only [List.length_cons,List.length_nil];omega,hk.out.bs,hk.out.bl⟩,rfl,lay_some hpos⟩
end
section
open Go Go.RowKit At E
section
variable {c:Cl} {a b:ByteArray}
theorem fo1 (h:a=b):Wq c (Xu a) (Xu b)=some none:=by unfold Wq;rw [if_pos ⟨rfl,h⟩]
theorem fo_pre (h:¬ a=b):Wq c (Xu a) (Xu b)=(if b=obS then some none
 else match Vg a with
  | some _=>if (upS a).any (fun x=>decide (x=b)) then some none else none
  | none=>if a=c.name∧b=c.super then some none else some (some ⟨a,b⟩)):=by
 unfold Wq;rw [if_neg (fun k=>h k.2),if_neg (show ¬ (Xu a).kind=5 from (by decide:¬ (3:Int)=5)),if_neg (show ¬ (¬ (Xu a).kind=3∨¬ (Xu b).kind=3) from (by decide:¬ (¬ (3:Int)=3∨¬ (3:Int)=3)))];rfl
theorem fo2 (h:b=obS):Wq c (Xu a) (Xu b)=some none:=by
 by_cases h':a=b
 ·exact fo1 h'
 ·rw [fo_pre h',if_pos h]
theorem mt_above:(Vg At.mt).isSome=false:=by decide
theorem fo3 (h:¬ a=b) (ho:¬ b=obS) (hs:(Vg a).isSome=true):Wq c (Xu a) (Xu b)=if belowS a b=true then some none else none:=by
 rw [fo_pre h,if_neg ho];have hmt:¬ a=At.mt:=fun e=>by rw [e,mt_above] at hs;cases hs
 have hb:belowS a b=(upS a).any fun x=>decide (x=b):=by
  unfold belowS;rw [hs,Ro hmt,List.any_cons,decide_eq_false h,Bool.true_and,Bool.false_or,up_chain]
 rw [hb];cases e:Vg a with
 | none=>rw [e] at hs;cases hs
 | some _=>rfl
theorem fo4 (h:¬ a=b) (ho:¬ b=obS) (hs:(Vg a).isSome=false):Wq c (Xu a) (Xu b)=if a=c.name∧b=c.super then some none else some (some ⟨a,b⟩):=by
 rw [fo_pre h,if_neg ho];cases e:Vg a with
 | none=>rfl
 | some _=>rw [e] at hs;cases hs
end
def okBel (x:WkX) (k:WkM) (o:Option (Option Bl)):Value→List Value→Asr→Prop:=fun v cs' R' =>
 ∃ gr',v=.bool o.isSome∧cs'=wkC x { k with gr:=gr' }∧R'.Imp (wkA x { k with gr:=gr' })∧∀ y,y ∈ gr'↔y ∈ k.gr∨o=some (some y)
theorem Ld {x:WkX} {k:WkM} {o o':Option (Option Bl)} {r:Bool} (e:o=o') (h:o'=some none∨o'=none) (hr:r=o'.isSome):okBel x k o (.bool r) (wkC x k) (wkA x k):=by
 subst e;refine ⟨k.gr,by rw [hr],J,.refl _,fun y=>⟨.inl,fun h'=>h'.elim id fun e=>?_⟩⟩;rcases h with h | h<;>rw [h] at e<;>cases e
theorem bel_gr {x:WkX} {k:WkM} {o:Option (Option Bl)} {bl:Bl} {gr':List Bl} {R':Asr} (e:o=some (some bl)) (hm:bl ∈ k.gr∧gr'=k.gr∨bl ∉ k.gr∧gr'=k.gr++[bl]) (hR:R'.Imp (wkA x { k with gr:=gr' })):okBel x k o (.bool true) (wkC x k) R':=by
 subst e;refine ⟨gr',J,J,hR,fun y=>?_⟩;rcases hm with ⟨h1,rfl⟩ | ⟨h1,rfl⟩
 ·exact ⟨.inl,fun h=>h.elim id fun e=>by cases e;exact h1⟩
 ·rw [List.mem_append,List.mem_singleton];exact ⟨fun h=>h.imp_right fun e=>by rw [e],fun h=>h.imp_right fun e=>by cases e;rfl⟩
theorem wbelow_any (u:World) (b:Nat) (x:WkX) (k:WkM) (s t:ByteArray):RuP Tryz.prog 332 #[pt b,.string s,.string t] u b (wkC x k) (wkA x k) (okBel x k (Wq x.c (Xu s) (Xu t))):=by
 intro w hu hF hs0;refine Yz (hs0) (args:=[pt b,.string s,.string t]) Tryz.func332 J Tryz.ntmps332 ?_;refine Zg (Zb (Za J (Zf J) (Ze (Zc (Zg (Zn (Zg (Zb (Za J (Zd J) (Za J (Zd J) (Za J (Y7 J J) (Za J (Zd J) (Z9 J J J ?_ ?_)))))))))))))
 ·intro h1;refine Zm J J J (Zm J J J (Za J (Zp J J) (Za J (Zf J) (Ze (Zc (Yh J (Zg (Zb (Za J (Zf J) (Ze (Zc (Zr (Zl (Zl (Wp (We J (X9 J)) 0 J ?_)))))))))))))));exact Ld (fo1 h1) (.inl J) J
 ·intro h1;refine Zk J J J (Zd J) (Zk J J J (Y7 J J) (Za J (Zs J J) (Za J (Zf J) (Ze (Zc (Zu J ?_ ?_))))))
  ·intro c1;refine Zg (Zb (Za J (Zf J) (Ze (Zc (Zr (Zl (Zl (Wp (We J (X9 J)) 0 J ?_))))))));exact Ld (fo2 c1) (.inl J) J
  ·intro c1;refine Zg (Zb (Za J (Zd J) (Yq fn361 J J (fun w _=>isThere_any _ w) ?_)));refine Za J (Zf J) (Ze (Zc (W4 J ?_ ?_)))
   ·intro c2;refine Zg (Zb (Za J (Zd J) (Za J (Zd J) (Yq fn362 J J (fun w _=>isBelow_any _ _ w) ?_))));refine Za J (Zf J) (Ze (Zc (Zr (Zl (Zl (Wp (We J (X9 J)) 0 J ?_))))));exact Ld (fo3 h1 c1 c2) (by split<;>simp) (by cases belowS s t<;>rfl)
   ·intro c2;refine Zg (Zb (Za J (Zd J) (Za J (Zd J) (Za J (Zw J) (Za J (Zh (ff J) J) (Za J (Zh (ff J) J) (Za J (Zj (t1 J) J (Zi 0 J J)) (Za J (Y7 J J) (Za J (Zd J) (Z9 J J J ?_ ?_))))))))))
    ·intro h2;refine Zk J J J (Zd J) (Zk J J J (Zd J) (Zk J J J (Zw J) (Zk J J J (Zh (ff J) J) (Zk J J J (Zh (ff J) J) (Zk J J J (Zj (t1 J) J (Zi 0 J J)) (Zk J J J (Y7 J J) (Za J (Zp J J) (Za J (Zf J) (Ze (Zc (Zu J ?_ ?_)))))))))))
     ·intro c3;refine Zg (Zb (Za J (Zf J) (Ze (Zc (Zr (Zl (Zl (Wp (We J (X9 J)) 0 J ?_))))))));exact Ld ((fo4 h1 c1 c2).trans (if_pos ⟨h2,c3⟩)) (.inl J) J
     ·intro c3;refine Zo (Zt (Zc (Zg (Zb (Za J (Zd J) (Za J (Zw J) (Za J (Zh (ff J) J) (Za J (Zj (t1 J) J (Zi 0 J J)) (Za J (Zd J) (Za J (Zd J) (Za J (Z8 (tb J) J J) (Za J (Z8 (tb J) J J) ?_))))))))))));refine WL_mapUpd (bl:=⟨s,t⟩) J J J ?_;intro es' hes;refine Ze (Zc (Zg (Zb (Za J (Zf J) (Ze (Zc (Zr (Wp (We J (X9 J)) 0 J ?_))))))));exact bel_gr ((fo4 h1 c1 c2).trans (if_neg fun h=>c3 h.2)) hes (.refl _)
    ·intro h2;refine Zm J J J (Zm J J J (Zm J J J (Zm J J J (Zm J J J (Zm J J J (Zm J J J (Za J (Zs J J) (Za J (Zf J) (Ze (Zc (Xn J (Zo (Zt (Zc (Zg (Zb (Za J (Zd J) (Za J (Zw J) (Za J (Zh (ff J) J) (Za J (Zj (t1 J) J (Zi 0 J J)) (Za J (Zd J) (Za J (Zd J) (Za J (Z8 (tb J) J J) (Za J (Z8 (tb J) J J) ?_))))))))))))))))))))))));refine WL_mapUpd (bl:=⟨s,t⟩) J J J ?_;intro es' hes;refine Ze (Zc (Zg (Zb (Za J (Zf J) (Ze (Zc (Zr (Wp (We J (X9 J)) 0 J ?_))))))));exact bel_gr ((fo4 h1 c1 c2).trans (if_neg fun h=>h2 h.1)) hes (.refl _)
section
variable {c:Cl} {a b:Ty}
theorem fp2 (h:(decide (a.kind=b.kind)&&eqS a.cls b.cls)=true):Wq c a b=some none:=by unfold Wq;rw [if_pos (same_ty.1 h)]
theorem fp3 (h:(decide (a.kind=b.kind)&&eqS a.cls b.cls)=false) (h5:a.kind=5):Wq c a b=if b.kind=2∨b.kind=3 then some none else none:=by unfold Wq;rw [if_neg (Mv h),if_pos h5]
theorem fp4 (h:(decide (a.kind=b.kind)&&eqS a.cls b.cls)=false) (h5:¬ a.kind=5) (hn:¬ a.kind=3∨¬ b.kind=3):Wq c a b=none:=by unfold Wq;rw [if_neg (Mv h),if_neg h5,if_pos hn]
theorem fp5 (ha:a.kind=3) (hb:b.kind=3):Wq c (Xu a.cls) (Xu b.cls)=Wq c a b:=by
 rw [show Xu a.cls=a from Ty.ext' ha.symm rfl,show Xu b.cls=b from Ty.ext' hb.symm rfl]
end
theorem wfits_any (u:World) (b:Nat) (x:WkX) (k:WkM) (s t:Ty):RuP Tryz.prog 327 #[pt b,.agg (tyV s).toArray,.agg (tyV t).toArray] u b (wkC x k) (wkA x k) (okBel x k (Wq x.c s t)):=by
 intro w hu hF hs0;refine Yz (hs0) (args:=[pt b,.agg (tyV s).toArray,.agg (tyV t).toArray]) Tryz.func327 J Tryz.ntmps327 ?_;refine Zg (Zb (Y2 J J ?_));intro b1 hb1;refine Y2 J J ?_;intro b2 hb2;refine Za J (Zf J) (Ze (Zc (Zg (Zn (Zg (Zb (Za J (Zv (tn J) J 1 J J) (Za J (Zv (tn J) J 0 J J) (Za J (Or J J) (Za J (Zf J) (Ze (Zc (W4 J ?_ ?_)))))))))))))
 ·intro c1;refine Zg (Zb (Za J (Zf J) (Ze (Zc (Zr (Zl (Zl (Wp (We J (X9 J)) 2 J ?_))))))));exact Ld (fp2 c1) (.inl J) J
 ·intro c1;refine Zg (Zb (Za J (Zh (ff J) J) (Za J (Zj (t1 J) J (Zi 1 J J)) (Za J (Ya J J) (Za J (Zf J) (Ze (Zc (Zu J ?_ ?_))))))))
  ·intro c2;refine Zg (Zb (Za J (Zh (ff J) J) (Za J (Zj (t1 J) J (Zi 0 J J)) (Za J (Ya J J) (Za J (Zd J) (Z9 J J J ?_ ?_))))))
   ·intro h1;refine Zm J J J (Zm J J J (Zm J J J (Za J (Zp J J) (Za J (Zf J) (Ze (Zc (Zr (Zl (Zl (Wp (We J (X9 J)) 2 J ?_))))))))));exact Ld (fp3 c1 c2) (by split<;>simp) (by rw [if_pos (.inl h1)];rfl)
   ·intro h1;refine Zk J J J (Zh (ff J) J) (Zk J J J (Zj (t1 J) J (Zi 0 J J)) (Zk J J J (Ya J J) (Za J (Zs J J) (Za J (Zf J) (Ze (Zc (Zr (Zl (Zl (Wp (We J (X9 J)) 2 J ?_))))))))));exact Ld (fp3 c1 c2) (by split<;>simp) (by by_cases h9:t.kind=3<;>simp [h9,h1])
  ·intro c2;refine Zg (Zb (Za J (Zh (ff J) J) (Za J (Zj (t1 J) J (Zi 1 J J)) (Za J (Ya J J) (Za J (Zd J) (Z9 J J J ?_ ?_))))))
   ·intro h2;refine Zk J J J (Zh (ff J) J) (Zk J J J (Zj (t1 J) J (Zi 0 J J)) (Zk J J J (Ya J J) (Za J (Zp J J) (Za J (Zf J) (Ze (Zc (Zu J ?_ ?_)))))))
    ·intro c3;refine Zg (Zb (Za J (Zd J) (Za J (Zh (ff J) J) (Za J (Zj (t1 J) J (Zi 1 J J)) (Za J (Zh (ff J) J) (Za J (Zj (t1 J) J (Zi 0 J J)) ?_))))));refine Ye fn332 J J 2 J hu hF (wbelow_any u b x k s.cls t.cls) ?_;rintro v cs' R' ⟨gr',rfl,rfl,hR,hm⟩;refine Zz hR ?_;refine Za J (Zf J) (Ze (Zc (Zr (Zl (Zl (Wp (We J (X9 J)) 2 J ?_))))));rw [fp5 h2 c3] at hm ⊢;exact ⟨gr',J,J,.refl _,hm⟩
    ·intro c3;refine Zo (Zt (Zc (Zg (Zb (Za J (Zf J) (Ze (Zc (Zr (Wp (We J (X9 J)) 2 J ?_)))))))));exact Ld (fp4 c1 c2 (.inr c3)) (.inr J) J
   ·intro h2;refine Zm J J J (Zm J J J (Zm J J J (Za J (Zs J J) (Za J (Zf J) (Ze (Zc (Xn J (Zo (Zt (Zc (Zg (Zb (Za J (Zf J) (Ze (Zc (Zr (Wp (We J (X9 J)) 2 J ?_)))))))))))))))));exact Ld (fp4 c1 c2 (.inl h2)) (.inr J) J
end
section
open Go Go.RowKit At E
theorem P6 {w0 w:World} {F:List Nat} {H:Hp} {R:Asr} (hs:Sat w0 F H R w) (i:Nat):Sat w0 F (H.take i) Asr.none w :=
 ⟨hs.low,fun p hp=>hs.own p (List.mem_of_mem_take hp),fun p hp=>hs.hi p (List.mem_of_mem_take hp),by rw [List.map_take];exact hs.apart.sublist (List.take_sublist _ _),trivial,fun _ h=>(List.not_mem_nil h).elim,fun _ _ h=>(List.not_mem_nil h).elim⟩
theorem take_no {c:Cl} {t:Ty} {s:St} (h:V9 s=none):Va c t s=none:=by unfold Va;rw [h];rfl
theorem take_fit {c:Cl} {a t:Ty} {s s':St} (h:V9 s=some (a,s')):Va c t s=grF s' (Sb c (a,t) s'.gr):=by unfold Va;rw [h];rfl
theorem add_no {c:Cl} {a t:Ty} {s:St} (h:(Wq c a t).isSome=false):grF s (Sb c (a,t) s.gr)=none:=by
 unfold grF Sb;cases e:Wq c a t with
 | none=>rfl
 | some _=>rw [e] at h;cases h
theorem add_yes {c:Cl} {a t:Ty} {k:WkM} {gr':List Bl} (h:(Wq c a t).isSome=true) (hm:∀ y,y ∈ gr'↔y ∈ k.gr∨Wq c a t=some (some y)):grF (Vl k) (Sb c (a,t) (Vl k).gr)=some (Vl { k with gr:=gr' }):=by
 unfold grF Sb;cases e:Wq c a t with
 | none=>rw [e] at h;cases h
 | some o =>
  rw [e] at hm;simp only [Option.map_some,Vl];rw [gr_set hm]
theorem WkOk.gr {x:WkX} {k:WkM} (h:WkOk x k) (gr':List Bl):WkOk x { k with gr:=gr' }:=⟨h.lo,h.st,h.bs,h.bl⟩
theorem wmust_at (u:World) (b:Nat) (x:WkX) (k:WkM) (is:Bool) (Rin:Asr) {pos:Nat} (hp:k.pos=pos):RxP Tryz.prog 163 #[pt b,.bool is] u b (wkC x k) Rin (fun v cs' R'=>v=.tuple #[]∧cs'=wkC x k∧R'=Rin∧is=true) (Vp x.n pos) (is=false):=by
 subst hp;exact V0 u b x k is Rin
theorem Ov (u:World) (b:Nat) (x:WkX) (k:WkM) (t:Ty) (hk:WkOk x k):Rh 257 [.agg (tyV t).toArray] u b x k (Va x.c t):=by
 intro w hu hF hs0;replace hk:Hid _:=hk;refine Yz (hs0) (args:=[pt b,.agg (tyV t).toArray]) Tryz.func257 J Tryz.ntmps257 ?_;refine Zg (Zb (Y2 J J ?_));intro b1 hb1;refine Ze (Zc (O7 w (b::(wkA x k).S) [(b1,tyV t)] Asr.none X2 (Z4 0 J (by kernel_rfl) J (fun _ hs=>P6 hs 1) (Zd J) ?_)));refine Z4 1 J (by kernel_rfl) J (fun _ hs=>P6 hs 1) (Zd J) ?_;refine Z4 2 J (by kernel_rfl) J (fun _ hs=>P6 hs 1) (Zd J) ?_;refine Z4 4 J (by kernel_rfl) J (fun _ hs=>P6 hs 1) (Zv (tn J) J 0 J J) ?_;refine Xh 3 (by kernel_rfl) J ?_;refine Y8 fn253 J J 1 J hu hF (wtake_any u b x k hk.out) (fun hm=>by (repeat refine Wh ?_);exact Wm (take_no hm)) ?_;rintro v cs' R' ⟨s,k1,rfl,rfl,hR,hk1,hpos,hp, -⟩;refine Zz hR ?_;refine Ze (Y1 (fun _ hs=>P6 hs 1) ?_);refine Xh 5 (by kernel_rfl) J ?_;refine Ye fn327 J J 1 J hu hF (wfits_any u b x k1 s t) ?_;rintro v cs' R' ⟨gr',rfl,rfl,hR2,hm2⟩;refine Zz hR2 ?_;refine Ze (Y1 (fun _ hs=>P6 hs 1) ?_);refine Xh 6 (by kernel_rfl) J ?_;refine Y8 Pe J J 1 J hu hF (wmust_at u b x { k1 with gr:=gr' } _ _ hpos) (fun hm=>by (repeat refine Wh ?_);exact Wm (by rw [take_fit hp];exact add_no hm)) ?_;rintro v cs' R' ⟨rfl,rfl,rfl,hyes⟩;refine Ze (Y1 (fun _ hs=>P6 hs 1) ?_);refine W8 (by kernel_rfl) ?_;refine W5 J 1 J ?_;exact ⟨J,_,J,.refl _,hk1.gr gr',hpos,by rw [take_fit hp];exact add_yes hyes hm2⟩
end
end Go.Proofs.YtpofmnfkdkmieaaGreat
