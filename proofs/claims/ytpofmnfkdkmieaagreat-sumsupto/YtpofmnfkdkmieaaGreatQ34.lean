/- What is proved here: new places may be forgotten; a call that -/
import Derived.Test.YtpofmnfkdkmieaaGreatQ33
import Derived.Test.YtpofmnfkdkmieaaGreatQ25
set_option linter.unusedVariables false
set_option linter.unusedSimpArgs false
namespace Go.Proofs.YtpofmnfkdkmieaaGreat
namespace S
open Go Go.RowKit E
theorem Ay {B B':Nm} (h:Pre B B'):∀ (l:List (ByteArray × SV)) (e0 es:List MapEntry),Ii B l e0->Ii B' l es->Ii B l es
 | [],_,[],_,_=>trivial
 | [],_,_::_,_,hx=>hx
 | _::_,_,[],_,hx=>hx
 | (k,v)::r,[],_::_,h0,_=>h0.elim
 | (k,v)::r,e0::l0,e::l,h0,hx=>⟨hx.1,by rw [h0.2.1,<- Vo h v _ h0.2.1,hx.2.1],Ay h r l0 l h0.2.2 hx.2.2⟩
theorem Blk.back {B B':Nm} (h:Pre B B') {p:Nat × Nat} {o0 o:Option Obj}:∀ {sb:SB},Blk B p sb o0->Blk B' p sb o->Blk B p sb o
 | .cells l,⟨v0,t0,h0,_⟩,⟨vs,t,hl,ho⟩=>⟨vs,t,by rw [h0,<- Wq h l v0 h0,hl],ho⟩
 | .row e sz k l,⟨v0,c0,h0,_⟩,⟨vs,cur,hl,r⟩=>⟨vs,cur,by rw [h0,<- Wq h l v0 h0,hl],r⟩
 | .map es,⟨l0,c0,_,h0⟩,⟨l,c,ho,hd⟩=>⟨l,c,ho,Ay h es _ _ h0 hd⟩
 | .chan _ _,_,hx=>hx
 | .loop _ _ _ _ _ _ _,⟨r0,_,_,_,h04,_⟩,⟨r,h1,h2,h3,h4,h5⟩=>⟨r,h1,h2,h3,⟨h4.1,fun i v hv=>by
   obtain ⟨x0,hx0,_⟩:=h04.2 i v hv;obtain ⟨x,hx,ht⟩:=h4.2 i v hv;exact ⟨x,by rw [hx0,<- Vo h v x0 hx0,hx],ht⟩⟩,h5⟩
 | .defd,_,hx=>hx
 | .iter m,⟨q0,c0,hq0,_⟩,⟨q,c,hq,ho⟩=>⟨q,c,by rw [hq0,<- h m q0 hq0,hq],ho⟩
 | .seen l t fr,⟨v0,h0,_⟩,⟨vs,hl,r⟩=>⟨vs,by rw [h0,<- Wq h l v0 h0,hl],r⟩
section
variable {P:Program} {f:FuncId} {args:List SV} {N:Nat} {H:Ch}
theorem HF.forget {R:SV->Nat->Ch->Prop} {v:SV} (is:List Nat) (h:HF P f args N H R) (hn:is.Nodup) (hv:∀ B B',den B v=den B' v) (hR:∀ u N' H',R u N' H'->u=v/\∀ p ∈ Yr H is,p ∈ H') :
  HF P f args N H fun u N' H'=>u=v/\N'=N/\H'=Yr H is:=by
 refine ⟨h.1,fun G hs hfr=>⟨h.1,fun w0 F B w vs hg hd=>((h.2 G hs hfr).2 w0 F B w vs hg hd).mono ?_⟩⟩;rintro e w' ⟨u,N',G',x,B',⟨H',hR',hx⟩,rfl,hsi,hdx,hg'⟩;obtain ⟨rfl,hH⟩:=hR _ _ _ hR'
 have key:∀ i sb,(if i ∈ H.map (·.1)/\i ∉ (Yr H is).map (·.1) then none else G i)=some sb->G i=some sb/\G' i=some sb:=by
  intro i sb hi;split at hi
  ·cases hi
  ·rename_i hc
   refine ⟨hi,?_⟩;by_cases hT:i ∈ H.map (·.1)
   ·have hp:i ∈ (Yr H is).map (·.1):=Classical.byContradiction fun h=>hc ⟨hT,h⟩;obtain ⟨q,hq,rfl⟩:=List.mem_map.1 hp;have h1:=(hs.pick hn).at_ q hq;rw [hi] at h1;cases h1;exact hx.hs.at_ q (hH q hq)
   ·exact hx.old i sb hi hT
 refine ⟨u,N,fun i=>if i ∈ H.map (·.1)/\i ∉ (Yr H is).map (·.1) then none else G i,x,B,⟨Yr H is,⟨J,J,J⟩,⟨⟨fun p hp=>?_,(hs.pick hn).nd⟩,fun q sb hq hT=>?_,fun p hp=>.inl (List.mem_map_of_mem (Xs hp)),hfr⟩⟩,J,Since.refl _ _,(hv B B').trans hdx,⟨hg'.low,fun i hi=>⟨(hg.new i hi).1,?_⟩,fun i sb hi=>?_,fun i j x y p q hi hj hp hq e=>?_⟩⟩
 ·show (if _ then _ else _)=_;rw [if_neg (fun hc=>hc.2 (List.mem_map_of_mem hp))];exact (hs.pick hn).at_ p hp
 ·show (if _ then _ else _)=_;rw [if_neg (fun hc=>hT hc.1)];exact hq
 ·show (if _ then _ else _)=_;split
  ·rfl
  ·exact hfr i hi
 ·obtain ⟨h1,h2⟩:=key i sb hi;obtain ⟨p,hp,hb,ho⟩:=hg'.own i sb h2;obtain ⟨p0,hp0,hb0,_⟩:=hg.own i sb h1;have:p0=p:=by have:=hsi.pre i p0 hp0;rw [hp] at this;exact (Option.some.inj this).symm
  subst this;exact ⟨p0,hp0,hb0.back hsi.pre hb,ho⟩
 ·exact hg'.apart i j x y p q (key i x hi).2 (key j y hj).2 (hsi.pre i p hp) (hsi.pre j q hq) e
theorem HP.more {pv:Value} (is:List Nat) (h:HP P f args N (Yr H is) pv) (hn:is.Nodup):HP P f args N H pv:=by
 refine ⟨h.1,fun G hs hfr w0 F B w vs hg hd=>(h.2 G (hs.pick hn) hfr w0 F B w vs hg hd).mono ?_⟩;rintro e w' ⟨N',G',B',he,hsi,hx,hg'⟩;refine ⟨N',G',B',he,hsi,⟨hx.hs,fun q sb hq hT=>hx.old q sb hq fun hc=>hT ?_,fun p hp=>(by cases hp),hx.fr0⟩,hg'⟩;obtain ⟨y,hy,rfl⟩:=List.mem_map.1 hc;exact List.mem_map_of_mem (Xs hy)
end
section
variable {P:Program} {l:Option Nat} {n:Nat} {w0:World} {F:List Nat} {B0:Nm} {N N0:Nat} {T:List Nat} {G0:Nat->Option SB} {H H':Ch} {E:SE} {D:List SD} {Q:Exit->Act->World->Prop} {pc:List PanicEntry}
theorem HC_dm {id:Nat} {L:List Oper} {od:Oper} (kk:Nat) (vs:List SV) (Er:SE) (hm:P.follows .mixedOrders=true) (hdr:L.drop kk=[od]) (hq:QW P l n D L [] [(N,H)] 0 (L.take kk) vs E) (hdie:∀ w0 F B0 N0 T G0 Q' all,(∀ N',HQ n w0 F B0 N0 T G0 Q' (.panic pc) Er D N' H')->HL P l n all w0 F B0 N0 T G0 Q' [od] Er D N H) (k:∀ N',HQ n w0 F B0 N0 T G0 Q (.panic pc) [] D N' H') (h:(Er.map (·.1)).map (slook (Ua (L.take kk) vs E (L.take kk).length))=Er.map (fun p=>some p.2)) (h1:Ky L=true:=by kernel_rfl) (h2:Oc L=true:=by kernel_rfl) (h3:ckRd L.toArray L=true:=by kernel_rfl) (h4:ckN n L=true:=by kernel_rfl)
  (hE:(Er.all fun p=>(Ek od.op.operands.toList).any fun j=>Nat.beq p.1 j)=true:=by kernel_rfl):HC P l n w0 F B0 N0 T G0 Q (.region id L.toArray true) E D N H:=by
 have e:L.take kk++[od]=L:=by rw [<- hdr,List.take_append_drop]
 generalize L.take kk=L1 at hq h e;subst e;obtain ⟨hlen,hqs⟩:=Ct hq;refine HC_dp (vs++[.tup []]) L1.length od hm h1 h2 h3 h4 (by simp [hlen]) (by simp) (fun i o v hid hi hv G hG=>?_) (fun w0 F B0 N0 T G0 Q' hQ=>?_) k
 ·have hi':i<L1.length:=by
   have:=(List.getElem?_eq_some_iff.1 hi).1;simp only [List.length_append,List.length_cons,List.length_nil] at this;omega
  rw [List.getElem?_append_left hi'] at hi;rw [List.getElem?_append_left (by omega)] at hv;rw [Lf hlen (by omega)];have hQE:=hqs i o v hi hv;rw [Nat.zero_add] at hQE;rcases hQE with ⟨_,hq2⟩ | ⟨j,_,_,_,_,hp,_⟩
  ·exact hq2.1 (by unfold Ff;rfl) G hG
  ·cases hp
 ·rw [Lf hlen (Nat.le_refl _)];refine Zge (fun i v hi=>?_) (hdie w0 F B0 N0 T G0 Q' _ (fun N'=>Zuz (hQ N')));have hm:=List.all_eq_true.1 hE _ (Rm hi);obtain ⟨j,hj,hb⟩:=List.any_eq_true.1 hm;have e:=Nat.eq_of_beq_eq_true hb;simp only at e;subst e;exact He (M6 h i v hi) (List.mem_append_left _ hj)
end
end S
namespace S
open Go Go.RowKit E
section
variable {E:SE} {o:Oper} {t t':Nat} {p q:Operand} {x y:Int} {P:Program}
theorem no_gtB {b:Bool} (ho:o.op=.binOp .gtr t p q t') (hx:sev E p=some (Zi x)) (hy:sev E q=some (Zi y)) (h:ilt y x=b):noD P E bare o=some (Zb b):=by
 subst h;unfold noD act;rw [ho];simp only [hx,hy,exBin,Rq];rfl
theorem Zre {b:Bool} (ho:o.op=.binOp .lss t p q t') (hx:sev E p=some (Zi x)) (hy:sev E q=some (Zi y)) (h:ilt x y=b):noD P E bare o=some (Zb b):=by
 subst h;unfold noD act;rw [ho];simp only [hx,hy,exBin,Rq];rfl
theorem Zbq {m n:Int} (h:m<n):ilt m n=true:=Wb.2 h
theorem Zsh {m n:Int} (h:¬ m<n):ilt m n=false:=Bool.eq_false_iff.2 fun hc=>h (Wb.1 hc)
end
abbrev nT:List SV:=[Zi 1,Ze]
def sC:Nat->List SV
 | 0=>[]
 | n+1=>sC n++nT
theorem I8:∀ n,(sC n).length=n*2
 | 0=>rfl
 | n+1=>by
  show (sC n++nT).length=_;rw [List.length_append,I8 n];show n*2+2=_;omega
theorem Zap {m:Nat}:∀ {n:Nat},m<=n->(sC n).take (m*2)=sC m
 | 0,h=>by
  have:m=0:=by omega
  subst this;rfl
 | n+1,h=>by
  rcases Nat.lt_or_ge n m with h' | h'
  ·have:m=n+1:=by omega
   subst this;exact List.take_of_length_le (by rw [I8];omega)
  ·show (sC n++nT).take (m*2)=_;rw [List.take_append_of_le_length (by rw [I8];omega)];exact Zap h'
theorem Zpr {i n:Nat} (h:i<n):cutAt (sC n) (0+i*2) 2=nT:=by
 have h1:sC n=sC (i+1)++(sC n).drop ((i+1)*2):=by rw [<- Zap (show i+1<=n from h),List.take_append_drop]
 rw [h1];unfold cutAt;rw [Nat.zero_add,List.drop_append_of_le_length (by rw [I8];omega)];show ((sC i++nT).drop (i*2)++_).take 2=nT;rw [List.drop_append_of_le_length (by rw [I8];omega),List.drop_of_length_le (by rw [I8];omega)];rfl
section
set_option maxRecDepth 10000
variable {N w s ln:Nat} {c0 c1 c2 c3 gr m0 m1 m2 m3 m4 m5 m7 m8 m9 lo re:SV} {nu at_ dp:Int} {c:List SV} {t1 t2:SV}
theorem Rl {v:SV}:HF Tryz.prog 163 [v,Zb true] N [] fun u N' H'=>u=.tup []/\N'=N/\H'=[]:=by
 refine hf1 Tryz.func163 J Tryz.ntmps163 fun _ _ _ _=>?_;refine Zu (Zg 2 [] [(5,Zb false)] [] (Zv (Yw J (Yp (Yo [] (.inl J) Z6 J (by decide) ?_)))));exact ⟨J,J,J⟩
theorem Zke:HP Tryz.prog 163 [.ptr w 0,Zb false] N [(w,.cells [c0,c1,c2,c3,gr,Zi nu,m0,m1,m2,m3,m4,m5,Zi dp,m7,m8,m9,Zi at_,lo,t1,re])] (.iface 143 (.agg #[.int .i64 nu,.int .i64 at_])):=by
 refine hpOf Tryz.func163 J (by rw [Tryz.ntmps163];rfl) fun w0 F B0 G0=>?_;rw [Tryz.ntmps163];refine Yb (Z0 (Zg 2 [] [(5,Zb true)] [] (Yn (Z2 (Xr J ?_)))));refine Zvj 10 [0,0] [(15,.ifc 143 (.agg [Zi nu,Zi at_]))] Xy J (fun _ _ _ _ _ _ _ _ k=>HL_pn J J J (fun _=>J) ⟨_,_,J⟩ (k _)) (fun _=>Sg)
theorem Zrt {k:Nat} (hk:ln+1<=k) (hb:k<=1000):HF Tryz.prog 254 [.ptr w 0] N [(w,.cells [c0,c1,c2,c3,gr,Zi nu,m0,m1,m2,m3,m4,m5,Zi dp,m7,m8,m9,Zi at_,lo,.sl s 0 (ln+1) 0,re]),(s,.row 71 2 k (sC k))] fun u N' H'=>u=.agg nT/\N'=N+1/\H'=[(w,.cells [c0,c1,c2,c3,gr,Zi nu,m0,m1,m2,m3,m4,m5,Zi dp,m7,m8,m9,Zi at_,lo,.sl s 0 (ln+1) 0,re]),(s,.row 71 2 k (sC k))]:=by
 refine hf1 Tryz.func254 J Tryz.ntmps254 fun _ _ _ _=>?_;refine Zu (Z9 1 [] [(2,Zq N 0)] [] (N+1) [(N,Zc [Zi 0,Ze])] [] ?_);refine Yh (Zg 7 [1] [(3,Zq w 0),(9,Zn (ln+1))] [] ?_);refine Ya (v:=Zb true) J (no_gtB J J J (Zbq (by simp only [Int.ofNat_eq_natCast];omega))) rfl ?_;refine Yl [] [] Z6 J J J J (Rl) J (Yi ?_)
 refine W3 [.ptr w 0,.ptr w 0,.ptr w 17,.ptr w 18,.sl s 0 (ln+1) 0,.ptr w 0,.ptr w 0,.ptr w 17,.ptr w 18,.sl s 0 (ln+1) 0,Zn (ln+1),Zn ((ln+1) - 1),.ptr s (0+((ln+1) - 1)*2),.agg [Zi 1,Ze],.tup []] [14] [(_,_)] [1,1] [] [] [11,12,13] Xy
  ⟨fun _ _ _ _ _ _ _ kG=>Z9 1 [0] [] [] (N+1) [] [(0,Zc [Zi 1,Ze])] kG,trivial⟩
  ⟨X6 fun _ _=>Y4 rfl (R9 rfl rfl rfl (by omega) (by omega)),X6 fun _ _=>Y4 rfl (W0 rfl rfl rfl (by kernel_rfl) (by omega)),(Ws (fun _ hGG=>Yg rfl rfl rfl (hGG.get (i:=2) rfl) (by have:=Ut (P:=Tryz.prog) (t:=71) (m:=2) (off:=0+ln*2) (sb:=.row 71 2 k (sC k)) (c:=sC k) (by kernel_rfl) (by kernel_rfl) rfl (by rw [Zpr (by omega)];rfl);rw [Zpr (by omega)] at this;exact this)) (S8 (by kernel_rfl) trivial)),trivial⟩ J ?_
 refine Z2 (Yv (Qj (i:=0) (El:=[(2,.ptr 0 0)]) (m:=[.agg [Zi 1,Ze]]) [1,2] (.inr J) Z6 J ⟨J,trivial⟩ (by kernel_rfl) (by decide) ?_));exact ⟨J,J,J⟩
theorem I1 {k:Nat} (hk:ln+1<=k) (hb:k<=1000):HF Tryz.prog 253 [.ptr w 0] N [(w,.cells [c0,c1,c2,c3,gr,Zi nu,m0,m1,m2,m3,m4,m5,Zi dp,m7,m8,m9,Zi at_,lo,.sl s 0 (ln+1) 0,re]),(s,.row 71 2 k (sC k))] fun u N' H'=>u=.agg nT/\N'=N+3/\H'=[(w,.cells [c0,c1,c2,c3,gr,Zi nu,m0,m1,m2,m3,m4,m5,Zi dp,m7,m8,m9,Zi at_,lo,.sl s 0 ln 0,re]),(s,.row 71 2 k (sC k))]:=by
 refine hf1 Tryz.func253 J Tryz.ntmps253 fun _ _ _ _=>?_;refine Zu (Z9 1 [] [(2,Zq N 0)] [] (N+1) [(N,Zc [Zi 0,Ze])] [] ?_);refine Yh (Zg 1 [] [(4,Zq w 0)] [] (Yl [1,2] [2,1] Z6 J J J J (Zrt hk hb) J (Z9 2 [0] [(3,Zq (N+2) 0)] [] (N+3) [((N+2),Zc [Zi 1,Ze])] [] ?_)));refine Yi ?_
 refine W3 [.ptr w 0,.ptr w 0,.ptr w 0,.ptr w 17,.ptr w 18,.sl s 0 (ln+1) 0,.ptr w 0,.ptr w 0,.ptr w 17,.ptr w 18,.sl s 0 (ln+1) 0,Zn (ln+1),Zn ((ln+1) - 1),.sl s 0 ((ln+1) - 1) 0,.ptr w 0,.ptr w 17,.ptr w 18,.tup []] [17] [(_,_)] [1,1] [] [] [12,13] Xy
  ⟨fun _ _ _ _ _ _ _ kG=>Z9 1 [1] [] [] (N+3) [] [(1,Zc [c0,c1,c2,c3,gr,Zi nu,m0,m1,m2,m3,m4,m5,Zi dp,m7,m8,m9,Zi at_,lo,Zk s 0 ((ln+1) - 1) 0,re])] kG,trivial⟩
  ⟨X6 fun _ _=>Y4 rfl (R9 rfl rfl rfl (by omega) (by omega)),(Ws (fun _ hGG=>E5 (e:=71) (sz:=2) (k:=k) (m:=((ln+1) - 1)) rfl rfl (by kernel_rfl) (by kernel_rfl) rfl rfl rfl (hGG.get (i:=2) rfl) (by omega)) (S8 (by kernel_rfl) trivial)),trivial⟩ rfl ?_
 refine Xj (Z9 2 [0,3] [] [] (N+3) [] [(3,Zc [Zi 1,Ze])] ?_);refine Zv (Yv (Qj (i:=3) (El:=[(2,.ptr 0 0)]) (m:=[.agg [Zi 1,Ze]]) [1,2] (.inr J) Z6 J ⟨J,trivial⟩ (by kernel_rfl) (by decide) ?_));exact ⟨J,J,J⟩
theorem Zct {k:Nat} (hk:ln<=k) (hb:k<=1000) (hd:(ln:Int)<dp):HF Tryz.prog 252 [.ptr w 0,.agg nT] N [(w,.cells [c0,c1,c2,c3,gr,Zi nu,m0,m1,m2,m3,m4,m5,Zi dp,m7,m8,m9,Zi at_,lo,.sl s 0 ln 0,re]),(s,.row 71 2 k (sC k))] fun u N' H'=>u=.tup []/\N'=N+3/\H'=[(w,.cells [c0,c1,c2,c3,gr,Zi nu,m0,m1,m2,m3,m4,m5,Zi dp,m7,m8,m9,Zi at_,lo,.sl (N+2) 0 (ln+1) 0,re]),(N+2,.row 71 2 (ln+1) (sC (ln+1)))]:=by
 refine hf1 Tryz.func252 J Tryz.ntmps252 fun _ _ _ _=>?_;refine Zu (Z9 1 [] [(3,Zq N 0)] [] (N+1) [(N,Zc [Zi 1,Ze])] [] ?_);refine Yi ?_
 refine W3 [.ptr w 0,.ptr w 0,.ptr w 0,.ptr w 17,.ptr w 18,.sl s 0 ln 0,Zn ln,.ptr w 0,.ptr w 0,.ptr w 6,.ptr w 12,Zi dp,Zb true,.tup []] [13] [(_,_)] [1,1] [] [] [12] Xy
  ⟨fun _ _ _ _ _ _ _ kG=>Yl [] [] Z6 rfl rfl rfl rfl (Rl) rfl kG,trivial⟩
  ⟨X6 fun _ _=>Y4 rfl (Zre rfl rfl rfl (Zbq hd)),trivial⟩ rfl ?_
 refine Z2 ?_
 refine W3 [.ptr w 0,.ptr w 0,.ptr w 0,.ptr w 17,.ptr w 18,.sl s 0 ln 0,.agg [Zi 1,Ze],.sl (N+1) 0 1 0,.sl (N+2) 0 (ln+1) 0,.ptr w 0,.ptr w 17,.ptr w 18,.tup []] [7,8,12] [(_,_),(_,_),(_,_)] [1,2,0] [] [] [] Xy
  ⟨fun _ _ _ _ _ _ _ kG=>Z9 1 [] [(25,Zk (N+1) 0 1 0)] [] (N+2) [((N+1),Zw 71 2 1 [Zi 1,Ze])] [] kG,fun _ _ _ _ _ _ _ kG=>Ln (i:=3) (i':=0) (e:=71) (sz:=2) (by_:=24) (js:=[1,2]) (cc:=(sC (ln+1))) _ (by kernel_rfl) (by kernel_rfl) rfl rfl rfl rfl rfl rfl rfl (by decide) rfl (by omega) rfl rfl (by omega) (by omega) rfl (by rw [Zap hk];rfl) rfl kG,fun _ _ _ _ _ _ _ kG=>Z9 1 [2] [] [] (N+3) [] [(2,Zc [c0,c1,c2,c3,gr,Zi nu,m0,m1,m2,m3,m4,m5,Zi dp,m7,m8,m9,Zi at_,lo,Zk (N+2) 0 (ln+1) 0,re])] kG,trivial⟩
  trivial rfl ?_
 refine Yo [2,0] (.inl J) Z6 J (by decide) ?_;exact ⟨J,J,J⟩
theorem Zot (hd:0<dp):HF Tryz.prog 252 [.ptr w 0,.agg nT] N [(w,.cells [c0,c1,c2,c3,gr,Zi nu,m0,m1,m2,m3,m4,m5,Zi dp,m7,m8,m9,Zi at_,lo,Zz,re])] fun u N' H'=>u=.tup []/\N'=N+3/\H'=[(w,.cells [c0,c1,c2,c3,gr,Zi nu,m0,m1,m2,m3,m4,m5,Zi dp,m7,m8,m9,Zi at_,lo,.sl (N+2) 0 1 0,re]),(N+2,.row 71 2 1 (sC 1))]:=by
 refine hf1 Tryz.func252 J Tryz.ntmps252 fun _ _ _ _=>?_;refine Zu (Z9 1 [] [(3,Zq N 0)] [] (N+1) [(N,Zc [Zi 1,Ze])] [] ?_);refine Yi ?_
 refine W3 [.ptr w 0,.ptr w 0,.ptr w 0,.ptr w 17,.ptr w 18,Zz,Zi 0,.ptr w 0,.ptr w 0,.ptr w 6,.ptr w 12,Zi dp,Zb true,.tup []] [13] [(_,_)] [1,1] [] [] [12] Xy
  ⟨fun _ _ _ _ _ _ _ kG=>Yl [] [] Z6 rfl rfl rfl rfl (Rl) rfl kG,trivial⟩
  ⟨X6 fun _ _=>Y4 rfl (Zre rfl rfl rfl (Zbq hd)),trivial⟩ rfl ?_
 refine Z2 ?_
 refine W3 [.ptr w 0,.ptr w 0,.ptr w 0,.ptr w 17,.ptr w 18,Zz,.agg [Zi 1,Ze],.sl (N+1) 0 1 0,.sl (N+2) 0 1 0,.ptr w 0,.ptr w 17,.ptr w 18,.tup []] [7,8,12] [(_,_),(_,_),(_,_)] [1,2,0] [] [] [] Xy
  ⟨fun _ _ _ _ _ _ _ kG=>Z9 1 [] [(25,Zk (N+1) 0 1 0)] [] (N+2) [((N+1),Zw 71 2 1 [Zi 1,Ze])] [] kG,fun _ _ _ _ _ _ _ kG=>Gl (i':=0) (e:=71) (sz:=2) (by_:=24) (cc:=[Zi 1,Ze]) [2,3] _ (by kernel_rfl) (by kernel_rfl) rfl rfl rfl rfl rfl rfl rfl rfl (by omega) (by omega) rfl (rfl) (by decide) rfl kG,fun _ _ _ _ _ _ _ kG=>Z9 1 [2] [] [] (N+3) [] [(2,Zc [c0,c1,c2,c3,gr,Zi nu,m0,m1,m2,m3,m4,m5,Zi dp,m7,m8,m9,Zi at_,lo,Zk (N+2) 0 1 0,re])] kG,trivial⟩
  trivial rfl ?_
 refine Yo [2,0] (.inl J) Z6 J (by decide) ?_;exact ⟨J,J,J⟩
theorem Zje (hd:¬ (ln:Int)<dp):HP Tryz.prog 252 [.ptr w 0,.agg nT] N [(w,.cells [c0,c1,c2,c3,gr,Zi nu,m0,m1,m2,m3,m4,m5,Zi dp,m7,m8,m9,Zi at_,lo,.sl s 0 ln 0,re])] (.iface 143 (.agg #[.int .i64 nu,.int .i64 at_])):=by
 have hlt:=Zsh hd;refine hpOf Tryz.func252 J (by rw [Tryz.ntmps252];rfl) fun w0 F B0 G0=>?_;rw [Tryz.ntmps252];refine Yb (Z0 (Z9 1 [] [(3,Zq N 0)] [] (N+1) [(N,Zc nT)] [] (Yn (Z2 (Yb ?_)))));exact Zvj 13 [1,1] [(4,.ptr w 0),(16,.v (.bool (ilt (.ofNat ln) dp)))] Xy J (fun _ _ _ _ _ _ _ _ k=>Nk [1] [1] Z6 J J J J (by rw [show ilt (.ofNat ln) dp=false from hlt];exact Zke) k) (fun _=>Qe Sg)
theorem Zos (hd:¬ 0<dp):HP Tryz.prog 252 [.ptr w 0,.agg nT] N [(w,.cells [c0,c1,c2,c3,gr,Zi nu,m0,m1,m2,m3,m4,m5,Zi dp,m7,m8,m9,Zi at_,lo,Zz,re])] (.iface 143 (.agg #[.int .i64 nu,.int .i64 at_])):=by
 have hlt:=Zsh hd;refine hpOf Tryz.func252 J (by rw [Tryz.ntmps252];rfl) fun w0 F B0 G0=>?_;rw [Tryz.ntmps252];refine Yb (Z0 (Z9 1 [] [(3,Zq N 0)] [] (N+1) [(N,Zc nT)] [] (Yn (Z2 (Yb ?_)))));exact Zvj 13 [1,1] [(4,.ptr w 0),(16,.v (.bool (ilt 0 dp)))] Xy J (fun _ _ _ _ _ _ _ _ k=>Nk [1] [1] Z6 J J J J (by rw [show ilt 0 dp=false from hlt];exact Zke) k) (fun _=>Qe Sg)
theorem Zmh {v:SV}:HF Tryz.prog 327 [v,.agg nT,.agg nT] N [] fun u N' H'=>u=Zb true/\N'=N+2/\H'=[]:=by
 refine hf1 Tryz.func327 J Tryz.ntmps327 fun _ _ _ _=>?_;refine Zu (Z9 3 [] [(4,Zq N 0),(5,Zq (N+1) 0),(6,Zb false)] [] (N+2) [((N+1),Zc [Zi 1,Ze]),(N,Zc [Zi 1,Ze])] [] ?_);refine Yi (Ye (Zu (Zg 4 [1,0] [(7,Zb true)] [] (Zv (Xr J (Zu (Zg 1 [] [(6,Zb true)] [] (Zv (Yv (We (Xm (Yo [] (.inr J) Z6 J (by decide) ?_))))))))))));exact ⟨J,J,J⟩
theorem Zae {k:Nat} (hk:ln+1<=k) (hb:k<=1000):HF Tryz.prog 257 [.ptr w 0,.agg nT] N [(w,.cells [c0,c1,c2,c3,gr,Zi nu,m0,m1,m2,m3,m4,m5,Zi dp,m7,m8,m9,Zi at_,lo,.sl s 0 (ln+1) 0,re]),(s,.row 71 2 k (sC k))] fun u N' H'=>u=.tup []/\N'=N+6/\H'=[(w,.cells [c0,c1,c2,c3,gr,Zi nu,m0,m1,m2,m3,m4,m5,Zi dp,m7,m8,m9,Zi at_,lo,.sl s 0 ln 0,re]),(s,.row 71 2 k (sC k))]:=by
 refine hf1 Tryz.func257 J Tryz.ntmps257 fun _ _ _ _=>?_;refine Zu (Z9 1 [] [(3,Zq N 0)] [] (N+1) [(N,Zc [Zi 1,Ze])] [] ?_);refine Zv ?_
 refine W3 [.ptr w 0,.ptr w 0,.ptr w 0,.agg [Zi 1,Ze],.agg [Zi 1,Ze],Zb true,.tup []] [3,5,6] [(_,_),(_,_),(_,_)] [0,2] [] [] [] Xy
  ⟨fun _ _ _ _ _ _ _ kG=>Yl [1,2] [2,1] Z6 rfl rfl rfl rfl (I1 hk hb) rfl kG,fun _ _ _ _ _ _ _ kG=>Yl [] [] Z6 rfl rfl rfl rfl (Zmh) rfl kG,fun _ _ _ _ _ _ _ kG=>Yl [] [] Z6 rfl rfl rfl rfl (Rl) rfl kG,trivial⟩
  trivial rfl ?_
 refine Yo [0,1] (.inl J) Z6 J (by decide) ?_;exact ⟨J,J,J⟩
end
end S
namespace S
open Go Go.RowKit E
section
set_option maxRecDepth 10000
variable {N w f:Nat} {hp gp:Option Addr} {hq gq:Nat} {c0 c1 c2 c3 gr nv m0 m1 m2 m3 m4 m5 m6 m7 lo st re:SV} {at_ x:Int}
theorem Zdk {a:Int}:HF Tryz.prog 328 [Zl gp gq,Zi a,.fn f [] []] N [] fun u N' H'=>u=.tup [Zi 0,Zb false]/\N'=N/\H'=[]:=by
 refine hf1 Tryz.func328 J Tryz.ntmps328 fun _ _ _ _=>?_;refine Zu (Zg 2 [] [(6,Zi 0),(7,Zb false)] [] (Yh (Zg 3 [] [(8,Zi 0)] [] (Yh (Zg 3 [] [(9,Zi 0),(10,Zi 0)] [] (Yi (Ye (U7 (W1 ?_)))))))));refine Yb (Zu (Zg 3 [] [(17,Zb false)] [] (Zv (Yw J (Uo (Y0 (Y0 (Re (z:=.exit _) J (Wj (Xj (Zg 16 [] [(6,Zi 0),(7,Zb false)] [] (Zv (Yv (Yo [] (.inr J) Z6 J (by decide) ?_))))))))))))));exact ⟨J,J,J⟩
theorem Zhz {a:Int}:HF Tryz.prog 258 [.ptr w 0,Zi a] N [(w,.cells [c0,c1,c2,c3,gr,nv,m0,m1,m2,m3,m4,m5,m6,m7,Zl hp hq,Zl gp gq,Zi at_,lo,st,re])] fun u N' H'=>u=.tup [.agg [Zi 0,Zz,Zz],Zb false]/\N'=N+1/\H'=[(w,.cells [c0,c1,c2,c3,gr,nv,m0,m1,m2,m3,m4,m5,m6,m7,Zl hp hq,Zl gp gq,Zi at_,lo,st,re])]:=by
 refine hf1 Tryz.func258 J Tryz.ntmps258 fun _ _ _ _=>?_;refine Zu (Z9 2 [] [(4,Zq N 0),(5,Zb false)] [] (N+1) [(N,Zc [Zi 0,Zz,Zz])] [] (Yh (Zg 6 [1] [(12,Zl gp gq),(13,Zi a)] [] (Yl [] [] Z6 J J J J (Zdk) J (Zg 5 [] [(6,Zi 0),(5,Zb false)] [] (Yi (Zu (Zg 2 [] [(18,Zb true)] [] (Zv (Xr J (Zu (Zg 3 [0] [(5,Zb false)] [] (Zv (Yv (Xm ?_)))))))))))))));refine Qj (i:=0) (El:=[(4,.ptr 0 0),(5,sh (Zb false))]) (m:=[.agg [Zi 0,Zz,Zz],Zb false]) [1] (.inr J) Z6 J ⟨J,by rw [Ts (by unfold lim;simp)];rfl,trivial⟩ (by kernel_rfl) (by decide) ?_;exact ⟨J,J,J⟩
theorem V2:HF Tryz.prog 161 [.ptr w 0] N [(w,.cells [c0,c1,c2,c3,gr,nv,m0,m1,m2,m3,m4,m5,m6,m7,Zl hp hq,Zl gp gq,Zi at_,lo,st,re])] fun u N' H'=>u=.tup []/\N'=N/\H'=[(w,.cells [c0,c1,c2,c3,gr,nv,m0,m1,m2,m3,m4,m5,m6,m7,Zl hp hq,Zl gp gq,Zi at_,lo,st,re])]:=by
 refine hf1 Tryz.func161 J Tryz.ntmps161 fun _ _ _ _=>?_;refine Zu (Zg 7 [0] [(8,Zl hp hq),(9,Zi 0),(10,Zi 0)] [] (Zv (Ye (U7 (W1 ?_)))));refine Zu (Zg 1 [] [(11,Zb false)] [] (Yi (Yw J (Uo (Y0 (Y0 (Re (z:=.exit _) J (Wj (Yo [0] (.inl J) Z6 J (by decide) ?_)))))))));exact ⟨J,J,J⟩
theorem U6:HF Tryz.prog 160 [.ptr w 0] N [(w,.cells [c0,c1,c2,c3,gr,nv,m0,m1,m2,m3,m4,m5,m6,m7,Zl hp hq,Zl gp gq,Zi at_,lo,st,Zb true])] fun u N' H'=>u=.tup []/\N'=N+2/\H'=[(w,.cells [c0,c1,c2,c3,gr,nv,m0,m1,m2,m3,m4,m5,m6,m7,Zl hp hq,Zl gp gq,Zi at_,lo,st,Zb true])]:=by
 refine hf1 Tryz.func160 J Tryz.ntmps160 fun _ _ _ _=>?_;refine Zu (Zg 5 [0] [(5,Zq w 0),(9,Zi at_)] [] (Yl [0] [0] Z6 J J J J (Zhz) J (Z9 6 [0] [(2,Zq (N+1) 0),(3,Zb false)] [] (N+2) [((N+1),Zc [Zi 0,Zz,Zz])] [] (Yi (Zu (Zg 2 [] [(14,Zb true)] [] (Zv (Xr J (Zu (Zg 5 [1] [(15,Zq w 0),(19,Zb true)] [] (Yl [] [] Z6 J J J J (Rl) J (Zv (Yv (Xm (Yo [1] (.inr J) Z6 J (by decide) ?_)))))))))))))));exact ⟨J,J,J⟩
end
end S
namespace S
open Go Go.RowKit E
section
set_option maxRecDepth 10000
variable {N w:Nat} {zp:Option Addr} {zq:Nat} {c0 c1 c2 c3 gr nv m0 m3 m4 m6 m7 m8 m9 av lo st re:SV}
theorem Ao:HF Tryz.prog 159 [.ptr w 0] N [(w,.cells [c0,c1,c2,c3,gr,nv,m0,Zb true,Zl zp zq,m3,m4,Zi 3,m6,m7,m8,m9,av,lo,st,re])] fun u N' H'=>u=.agg [.sl (N+7) 0 3 0,Zz]/\N'=N+8/\H'=[(N+7,.row 71 2 3 [Zi 4,Ze,Zi 4,Ze,Zi 4,Ze]),(w,.cells [c0,c1,c2,c3,gr,nv,m0,Zb true,Zl zp zq,m3,m4,Zi 3,m6,m7,m8,m9,av,lo,st,re])]:=by
 refine hf1 Tryz.func159 J Tryz.ntmps159 fun _ _ _ _=>?_;refine Zu (Z9 1 [] [(2,Zq N 0)] [] (N+1) [(N,Zc [Zz,Zz])] [] (Yh (Z9 7 [1] [(3,Zk (N+1) 0 0 0)] [] (N+2) [((N+1),Zw 71 2 0 [])] [] (Yi (Zu (Zg 6 [2] [(15,Zb false)] [] (Zv (Yw J (Yp (Xj (Zg 6 [2] [(25,Zk (N+1) 0 0 0),(30,Zl zp zq)] [] (HL_ape (i:=0) (e:=71) (sz:=2) (by_:=24) (by kernel_rfl) (by kernel_rfl) J J J J J (by omega) J ?_))))))))))));refine Zg 1 [] [(3,Zk (N+1) 0 0 0)] [] (Yi (Ye (U7 (W1 ?_))));refine Yb (Zu (Zg 8 [2] [(39,Zb true)] [] (Zv (Xr J (Yp (Z2 (Ye (Z0 (Z9 3 [] [(40,Zk (N+1) 0 0 0),(42,Zk (N+2) 0 1 0)] [] (N+3) [((N+2),Zw 71 2 1 [Zi 4,Ze])] [] ?_)))))))));refine Ln (i:=1) (i':=0) (e:=71) (sz:=2) (by_:=24) (js:=[2,3]) (cc:=[Zi 4,Ze]) _ (by kernel_rfl) (by kernel_rfl) J J J J J J J (by decide) J (by omega) J J (by omega) (by omega) J (J) J ?_;refine Zg 1 [] [(3,Zk (N+3) 0 1 0)] [] (Yn (Y1 (Z2 (W1 (Yb (Zu (Zg 8 [2] [(39,Zb true)] [] (Zv (Xr J (Yp (Z2 (Ye (Z0 (Z9 3 [] [(40,Zk (N+3) 0 1 0),(42,Zk (N+4) 0 1 0)] [] (N+5) [((N+4),Zw 71 2 1 [Zi 4,Ze])] [] ?_))))))))))))));refine Ln (i:=1) (i':=0) (e:=71) (sz:=2) (by_:=24) (js:=[2,3]) (cc:=[Zi 4,Ze,Zi 4,Ze]) _ (by kernel_rfl) (by kernel_rfl) J J J J J J J (by decide) J (by omega) J J (by omega) (by omega) J (J) J ?_;refine Zg 1 [] [(3,Zk (N+5) 0 2 0)] [] (Yn (Y1 (Z2 (W1 (Yb (Zu (Zg 8 [2] [(39,Zb true)] [] (Zv (Xr J (Yp (Z2 (Ye (Z0 (Z9 3 [] [(40,Zk (N+5) 0 2 0),(42,Zk (N+6) 0 1 0)] [] (N+7) [((N+6),Zw 71 2 1 [Zi 4,Ze])] [] ?_))))))))))))));refine Ln (i:=1) (i':=0) (e:=71) (sz:=2) (by_:=24) (js:=[2,3]) (cc:=[Zi 4,Ze,Zi 4,Ze,Zi 4,Ze]) _ (by kernel_rfl) (by kernel_rfl) J J J J J J J (by decide) J (by omega) J J (by omega) (by omega) J (J) J ?_;refine Zg 1 [] [(3,Zk (N+7) 0 3 0)] [] (Yn (Y1 (Z2 (W1 (Yb (Zu (Zg 8 [2] [(39,Zb false)] [] (Zv (Yw J (Uo (Y0 (Y0 (Re (z:=.exit _) J (Wj (Xj (Z9 3 [1] [] [] (N+8) [] [(1,Zc [Zk (N+7) 0 3 0,Zz])] (Zv (Yv (Qj (i:=1) (El:=[(2,.ptr 0 0)]) (m:=[.agg [.sl (N+7) 0 3 0,Zz]]) [0,2] (.inr J) Z6 J ⟨J,trivial⟩ (by kernel_rfl) (by decide) ?_)))))))))))))))))));exact ⟨J,J,J⟩
end
end S
namespace S
open Go Go.RowKit E
section
set_option maxRecDepth 10000
variable {N w s ln op:Nat} {n:Int} {qa:Option Addr} {qb:Nat} {c0 c1 c2 c3 gr m0 m1 m2 m3 m4 m5 m7 m8 m9 lo re:SV} {nu at_ dp:Int}
theorem Zcz {k:Nat} (hk:ln+1<=k) (hb:k<=1000):HF Tryz.prog 146 [.ptr w 0,.agg [Zn op,Zi n,Ze,Ze,Zl qa qb,Zi 0,Ze]] N [(w,.cells [c0,c1,c2,c3,gr,Zi nu,m0,m1,m2,m3,m4,m5,Zi dp,m7,m8,m9,Zi at_,lo,.sl s 0 (ln+1) 0,re]),(s,.row 71 2 k (sC k))] fun u N' H'=>u=.tup []/\N'=N+4/\H'=[(w,.cells [c0,c1,c2,c3,gr,Zi nu,m0,m1,m2,m3,m4,m5,Zi dp,m7,m8,m9,Zi at_,lo,.sl s 0 ln 0,re]),(s,.row 71 2 k (sC k))]:=by
 refine hf1 Tryz.func146 J Tryz.ntmps146 fun _ _ _ _=>?_;refine Zu (Z9 1 [] [] [] (N+1) [(N,Zc [Zn op,Zi n,Ze,Ze,Zl qa qb,Zi 0,Ze])] [] ?_);refine Zv (Z0 (Zg 1 [] [(4,Zq w 0)] [] (Yl [1,2] [2,1] Z6 J J J J (I1 hk hb) J (Yn (Yo [0,1] (.inl J) Z6 J (by decide) ?_)))));exact ⟨J,J,J⟩
theorem Zek {k b:Nat} (hk:ln<=k) (hb:k<=1000) (hd:(ln:Int)<dp):HF Tryz.prog 251 [.ptr w 0,.agg [Zn op,Zi n,Ze,Ze,Zl qa qb,Zi 0,Ze],.ptr b 0] N [(w,.cells [c0,c1,c2,c3,gr,Zi nu,m0,m1,m2,m3,m4,m5,Zi dp,m7,m8,m9,Zi at_,lo,.sl s 0 ln 0,re]),(s,.row 71 2 k (sC k)),(b,.cells nT)] fun u N' H'=>u=.tup []/\N'=N+4/\H'=[(w,.cells [c0,c1,c2,c3,gr,Zi nu,m0,m1,m2,m3,m4,m5,Zi dp,m7,m8,m9,Zi at_,lo,.sl (N+3) 0 (ln+1) 0,re]),(N+3,.row 71 2 (ln+1) (sC (ln+1))),(b,.cells nT)]:=by
 refine hf1 Tryz.func251 J Tryz.ntmps251 fun _ _ _ _=>?_;refine Zu (Z9 1 [] [] [] (N+1) [(N,Zc [Zn op,Zi n,Ze,Ze,Zl qa qb,Zi 0,Ze])] [] ?_);refine Zv (Z0 (Zg 2 [3] [(5,Zq w 0),(6,SV.agg [Zi 1,Ze])] [] ?_));refine Yl [1,2] [2,1] Z6 J J J J (Zct hk hb hd) J (Yn (Yo [0,1,3] (.inl J) Z6 J (by decide) ?_));exact ⟨J,J,J⟩
theorem Zrs {b:Nat} (hd:0<dp):HF Tryz.prog 251 [.ptr w 0,.agg [Zn op,Zi n,Ze,Ze,Zl qa qb,Zi 0,Ze],.ptr b 0] N [(w,.cells [c0,c1,c2,c3,gr,Zi nu,m0,m1,m2,m3,m4,m5,Zi dp,m7,m8,m9,Zi at_,lo,Zz,re]),(b,.cells nT)] fun u N' H'=>u=.tup []/\N'=N+4/\H'=[(w,.cells [c0,c1,c2,c3,gr,Zi nu,m0,m1,m2,m3,m4,m5,Zi dp,m7,m8,m9,Zi at_,lo,.sl (N+3) 0 1 0,re]),(N+3,.row 71 2 1 (sC 1)),(b,.cells nT)]:=by
 refine hf1 Tryz.func251 J Tryz.ntmps251 fun _ _ _ _=>?_;refine Zu (Z9 1 [] [] [] (N+1) [(N,Zc [Zn op,Zi n,Ze,Ze,Zl qa qb,Zi 0,Ze])] [] ?_);refine Zv (Z0 (Zg 2 [2] [(5,Zq w 0),(6,SV.agg [Zi 1,Ze])] [] ?_));refine Yl [1] [1] Z6 J J J J (Zot hd) J (Yn (Yo [0,1,3] (.inl J) Z6 J (by decide) ?_));exact ⟨J,J,J⟩
end
section
set_option maxRecDepth 10000
variable {N w s ln op:Nat} {n:Int} {qa:Option Addr} {qb:Nat} {c0 c1 c2 c3 gr m0 m1 m2 m4 m5 m7 m8 m9 lo st re:SV} {nu at_ dp:Int}
theorem Zsp:HF Tryz.prog 156 [.ptr w 0,.agg [Zn op,Zi n,Ze,Ze,Zl qa qb,Zi 0,Ze]] N [(w,.cells [c0,c1,c2,c3,gr,Zi nu,m0,m1,m2,Zi 0,m4,m5,Zi dp,m7,m8,m9,Zi at_,lo,st,re])] fun u N' H'=>u=.tup []/\N'=N+1/\H'=[(w,.cells [c0,c1,c2,c3,gr,Zi nu,m0,m1,m2,Zi 0,m4,m5,Zi dp,m7,m8,m9,Zi at_,lo,st,re])]:=by
 refine hf1 Tryz.func156 J Tryz.ntmps156 fun _ _ _ _=>?_;refine Zu (Z9 1 [] [] [] (N+1) [(N,Zc [Zn op,Zi n,Ze,Ze,Zl qa qb,Zi 0,Ze])] [] ?_);refine Zv (Z0 (Zg 8 [1] [(4,Zq w 0),(11,Zb true)] [] (Yl [] [] Z6 J J J J (Rl) J (Yn (Yo [1] (.inl J) Z6 J (by decide) ?_)))));exact ⟨J,J,J⟩
end
end S
namespace S
open Go Go.RowKit E
section
set_option maxRecDepth 10000
variable {N w s ln lp op i:Nat} {qa:Option Addr} {qb:Nat} {c0 c1 c2 c3 gr m0 m1 m2 m3 m4 m5 m7 m8 m9 re:SV} {nu at_ dp:Int} {lc lc':List SV}
theorem Zbl {k:Nat} (hi:i<3) (hlc:cutAt lc (0+i*2) 2=nT) (hk:ln<=k) (hb:k<=1000) (hd:(ln:Int)<dp):HF Tryz.prog 144 [.ptr w 0,.agg [Zn op,Zn i,Ze,Ze,Zl qa qb,Zi 0,Ze]] N [(w,.cells [c0,c1,c2,c3,gr,Zi nu,m0,m1,m2,m3,m4,m5,Zi dp,m7,m8,m9,Zi at_,.sl lp 0 3 0,.sl s 0 ln 0,re]),(s,.row 71 2 k (sC k)),(lp,.row 71 2 3 lc)] fun u N' H'=>u=.tup []/\N'=N+5/\H'=[(w,.cells [c0,c1,c2,c3,gr,Zi nu,m0,m1,m2,m3,m4,m5,Zi dp,m7,m8,m9,Zi at_,.sl lp 0 3 0,.sl (N+4) 0 (ln+1) 0,re]),(N+4,.row 71 2 (ln+1) (sC (ln+1))),(lp,.row 71 2 3 lc)]:=by
 refine hf1 Tryz.func144 J Tryz.ntmps144 fun _ _ _ _=>?_;refine Zu (Z9 1 [] [(3,Zq N 0)] [] (N+1) [(N,Zc [Zn op,Zn i,Ze,Ze,Zl qa qb,Zi 0,Ze])] [] ?_);refine Yi ?_
 refine W3 [.ptr w 0,.ptr w 0,.ptr w 17,.ptr w 17,.sl lp 0 3 0,.ptr N 1,Zn i,.ptr lp (0+i*2),.agg [Zi 1,Ze],.ptr (N+1) 0,.tup []] [9,10] [(_,_),(_,_)] [1,2,0,1] [(4,Zq (N+1) 0)] [] [7,8] Xy
  ⟨fun _ _ _ _ _ _ _ kG=>Z9 1 [] [(4,Zq (N+1) 0)] [] (N+2) [((N+1),Zc [Zi 0,Ze])] [] kG,fun _ _ _ _ _ _ _ kG=>Z9 1 [0] [] [] (N+2) [] [(0,Zc [Zi 1,Ze])] kG,trivial⟩
  ⟨X6 fun _ _=>Y4 rfl (W0 rfl rfl rfl (by kernel_rfl) (by omega)),(Ws (fun _ hGG=>Yg rfl rfl rfl (hGG.get (i:=3) rfl) (by have:=Ut (P:=Tryz.prog) (t:=71) (m:=2) (off:=0+i*2) (sb:=.row 71 2 3 lc) (c:=lc) (by kernel_rfl) (by kernel_rfl) rfl (by rw [hlc];rfl);rw [hlc] at this;exact this)) (Ws (fun _ hGG=>Yg J J J (hGG.get (i:=4) J) (by have:=Ut (P:=Tryz.prog) (t:=71) (m:=2) (off:=0+i*2) (sb:=.row 71 2 3 lc) (c:=lc) (by kernel_rfl) (by kernel_rfl) J (by rw [hlc];rfl);rw [hlc] at this;exact this)) (S8 (by kernel_rfl) trivial))),trivial⟩ J ?_
 refine Xj (Zg 4 [0] [(14,Zq w 0),(17,Zb true)] [] (Yl [] [] Z6 J J J J (Rl) J (Zv (Z0 (Zg 2 [0] [(19,Zq w 0),(20,SV.agg [Zi 1,Ze])] [] ?_)))));refine Yl [2,3] [3,2] Z6 J J J J (Zct hk hb hd) J (Yn (Yo [0,1,4] (.inl J) Z6 J (by decide) ?_));exact ⟨J,J,J⟩
theorem Zak {k:Nat} (hll:lc.length=6) (hi:i<3) (hk:ln+1<=k) (hb:k<=1000):HF Tryz.prog 145 [.ptr w 0,.agg [Zn op,Zn i,Ze,Ze,Zl qa qb,Zi 0,Ze]] N [(w,.cells [c0,c1,c2,c3,gr,Zi nu,m0,m1,m2,m3,m4,m5,Zi dp,m7,m8,m9,Zi at_,.sl lp 0 3 0,.sl s 0 (ln+1) 0,re]),(s,.row 71 2 k (sC k)),(lp,.row 71 2 3 lc)] fun u N' H'=>u=.tup []/\N'=N+4/\H'=[(w,.cells [c0,c1,c2,c3,gr,Zi nu,m0,m1,m2,m3,m4,m5,Zi dp,m7,m8,m9,Zi at_,.sl lp 0 3 0,.sl s 0 ln 0,re]),(s,.row 71 2 k (sC k)),(lp,.row 71 2 3 (sput lc (0+i*2) nT))]:=by
 refine hf1 Tryz.func145 J Tryz.ntmps145 fun _ _ _ _=>?_;refine Zu (Z9 1 [] [(3,Zq N 0)] [] (N+1) [(N,Zc [Zn op,Zn i,Ze,Ze,Zl qa qb,Zi 0,Ze])] [] ?_);refine Zv ?_
 refine W3 [.ptr w 0,.ptr w 0,.ptr w 17,.ptr w 17,.sl lp 0 3 0,.ptr N 1,Zn i,.ptr w 0,.agg [Zi 1,Ze],.ptr lp (0+i*2),.tup []] [8,10] [(_,_),(_,_)] [1,0,0,2] [] [] [9] Xy
  ⟨fun _ _ _ _ _ _ _ kG=>Yl [1,2] [2,1] Z6 rfl rfl rfl rfl (I1 hk hb) rfl kG,fun _ _ _ _ _ _ _ kG=>Mh (i:=3) (m:=2) (c:=[Zi 1,Ze]) [(w,.cells [c0,c1,c2,c3,gr,Zi nu,m0,m1,m2,m3,m4,m5,Zi dp,m7,m8,m9,Zi at_,Zk lp 0 3 0,Zk s 0 ln 0,re]),(s,.row 71 2 k (sC k)),(N,.cells [Zn op,Zn i,Ze,Ze,Zl qa qb,Zi 0,Ze]),(lp,.row 71 2 3 (sput lc (0+i*2) [Zi 1,Ze]))] rfl rfl rfl rfl rfl rfl (by kernel_rfl) rfl rfl rfl (by simp [Br];omega) rfl kG,trivial⟩
  ⟨X6 fun _ _=>Y4 rfl (W0 rfl rfl rfl (by kernel_rfl) (by omega)),trivial⟩ rfl ?_
 refine Yo [0,1,3] (.inl J) Z6 J (by decide) ?_;exact ⟨J,J,J⟩
end
end S
namespace S
open Go Go.RowKit E
section
set_option maxRecDepth 10000
variable {N N1 N2 b r y w s z:Nat} {lb x0 x1 x2 y0 z0:SB}
theorem Ir {m:Nat}:HF Tryz.prog 325 [.sl r 0 m 0] N [] fun u N' H'=>u=.fn 359 [] [.ptr N 0]/\N'=N+1/\H'=[(N,.cells [.sl r 0 m 0])]:=by
 refine hf1 Tryz.func325 J Tryz.ntmps325 fun _ _ _ _=>?_;refine Zu (Z9 2 [] [(1,Zq N 0),(2,SV.v .nilFunc)] [] (N+1) [(N,Zc [Zk r 0 m 0])] [] (Yh (Zg 2 [] [(2,Zh 359 [] [Zq N 0])] [] (Zv (Yv (Yo [0] (.inr J) Z6 J (by decide) ?_))))));exact ⟨J,J,J⟩
theorem Zui (h0:HY Tryz.prog y [Zi 0,.agg nT] N [(y,lb),(w,x0),(s,y0),(z,z0)] fun u N' H'=>u=Zb true/\N'=N1/\H'=[(y,lb),(w,x1),(s,y0),(z,z0)]):HF Tryz.prog 359 [.yd y,.ptr b 0] N [(y,lb),(b,.cells [.sl r 0 1 0]),(r,.row 71 2 1 nT),(w,x0),(s,y0),(z,z0)] fun u N' H'=>u=.tup []/\N'=N1/\H'=[(y,lb),(b,.cells [.sl r 0 1 0]),(r,.row 71 2 1 nT),(w,x1),(s,y0),(z,z0)]:=by
 refine hf1 Tryz.func359 J Tryz.ntmps359 fun _ _ _ _=>?_;refine Zu (Zg 4 [1] [(3,Zi 0)] [] (Zv (Ye (U7 (W1 ?_)))));refine Yb (Zu (Zg 2 [] [(8,Zb true)] [] (Zv (Xr J (Yp (Z2 (Yb (Ye (Zu (Zg 6 [1,2] [(11,SV.yd y),(12,Zi 0),(16,SV.agg [Zi 1,Ze])] [] ?_))))))))));refine Zvc [0,3,4,5] [5,4,3,0] J J J J (h0) J (Zg 1 [] [(18,Zb false)] [] (Zv (Yw J (Yp (Y1 (Z2 (Z0 (Zg 3 [] [(3,Zi (-1))] [] (Zv (W1 (Yb (Zu (Zg 2 [] [(8,Zb false)] [] (Zv (Yw J (Uo (Y0 (Y0 (Re (z:=.exit _) J (Wj (Yo [0,4,5,1,2,3] (.inl J) Z6 J (by decide) ?_)))))))))))))))))))));exact ⟨J,J,J⟩
theorem Zuh (h0:HY Tryz.prog y [Zi 1,.agg nT] N [(y,lb),(w,x0),(s,y0),(z,z0)] fun u N' H'=>u=Zb true/\N'=N1/\H'=[(y,lb),(w,x1),(s,y0),(z,z0)]) (h1:HY Tryz.prog y [Zi 0,.agg nT] N1 [(y,lb),(w,x1),(s,y0),(z,z0)] fun u N' H'=>u=Zb true/\N'=N2/\H'=[(y,lb),(w,x2),(s,y0),(z,z0)]):HF Tryz.prog 359 [.yd y,.ptr b 0] N [(y,lb),(b,.cells [.sl r 0 2 0]),(r,.row 71 2 2 (nT++nT)),(w,x0),(s,y0),(z,z0)] fun u N' H'=>u=.tup []/\N'=N2/\H'=[(y,lb),(b,.cells [.sl r 0 2 0]),(r,.row 71 2 2 (nT++nT)),(w,x2),(s,y0),(z,z0)]:=by
 refine hf1 Tryz.func359 J Tryz.ntmps359 fun _ _ _ _=>?_;refine Zu (Zg 4 [1] [(3,Zi 1)] [] (Zv (Ye (U7 (W1 ?_)))));refine Yb (Zu (Zg 2 [] [(8,Zb true)] [] (Zv (Xr J (Yp (Z2 (Yb (Ye (Zu (Zg 6 [1,2] [(11,SV.yd y),(12,Zi 1),(16,SV.agg [Zi 1,Ze])] [] ?_))))))))));refine Zvc [0,3,4,5] [5,4,3,0] J J J J (h0) J (Zg 1 [] [(18,Zb false)] [] (Zv (Yw J (Yp (Y1 (Z2 (Z0 (Zg 3 [] [(3,Zi 0)] [] (Zv (W1 (Yb (Zu (Zg 2 [] [(8,Zb true)] [] (Zv (Xr J (Yp (Z2 (Yb (Ye (Zu (Zg 6 [4,5] [(11,SV.yd y),(12,Zi 0),(16,SV.agg [Zi 1,Ze])] [] ?_)))))))))))))))))))));refine Zvc [0,1,2,3] [3,2,1,0] J J J J (h1) J (Zg 1 [] [(18,Zb false)] [] (Zv (Yw J (Yp (Y1 (Z2 (Z0 (Zg 3 [] [(3,Zi (-1))] [] (Zv (W1 (Yb (Zu (Zg 2 [] [(8,Zb false)] [] (Zv (Yw J (Uo (Y0 (Y0 (Re (z:=.exit _) J (Wj (Yo [0,4,5,1,2,3] (.inl J) Z6 J (by decide) ?_)))))))))))))))))))));exact ⟨J,J,J⟩
end
end S
namespace S
open Go Go.RowKit E
section
set_option maxRecDepth 10000
variable {N w s r ln:Nat} {c0 c1 c2 c3 gr m0 m1 m2 m3 m4 m5 m7 m8 m9 lo re:SV} {nu at_ dp:Int}
theorem Zdb {k:Nat} (hk:ln+1<=k) (hb:k<=1000):HF Tryz.prog 250 [.ptr w 0,.sl r 0 1 0] N [(w,.cells [c0,c1,c2,c3,gr,Zi nu,m0,m1,m2,m3,m4,m5,Zi dp,m7,m8,m9,Zi at_,lo,.sl s 0 (ln+1) 0,re]),(s,.row 71 2 k (sC k)),(r,.row 71 2 1 nT)] fun u N' H'=>u=.tup []/\N'=N+11/\H'=[(w,.cells [c0,c1,c2,c3,gr,Zi nu,m0,m1,m2,m3,m4,m5,Zi dp,m7,m8,m9,Zi at_,lo,.sl s 0 ln 0,re]),(s,.row 71 2 k (sC k)),(r,.row 71 2 1 nT)]:=by
 refine hfOf Tryz.func250 J (by rw [Tryz.ntmps250];rfl) fun w0 F B0 G0=>?_;rw [Tryz.ntmps250];refine Yb (Z0 (Z9 1 [] [(2,Zq N 0)] [] (N+1) [(N,Zc [Zq w 0])] [] (Yn (Z2 (Yb (Z0 (Zg 1 [] [(6,Zk r 0 1 0)] [] (Yl [] [] Z6 J J J J (Ir) J (Yn (Z2 (Ye (Zgf [0,4,2,3,1] [4,3,2,1,0] Z6 J (Zui (N1:=N+11) (x1:=.cells [c0,c1,c2,c3,gr,Zi nu,m0,m1,m2,m3,m4,m5,Zi dp,m7,m8,m9,Zi at_,lo,.sl s 0 ln 0,re]) ?_) ?_))))))))))))
 ·refine hyOf (E2:=[(2,.ptr N 0),(5,.ptr (N+4) 0)]) (N2:=N+5) (H2:=[(N+4,.cells nT),(w,.cells [c0,c1,c2,c3,gr,Zi nu,m0,m1,m2,m3,m4,m5,Zi dp,m7,m8,m9,Zi at_,lo,.sl s 0 (ln+1) 0,re]),(s,.row 71 2 k (sC k)),(N,.cells [.ptr w 0])]) J ?_ ?_
  ·intro q w0 F B0 G0;refine Z0 (Z9 2 [0] [(5,Zq (N+4) 0)] [] (N+5) [(N+4,Zc nT)] [] (Iy (is:=[1,0,2,3,4]) (by decide) ?_));refine Yn ?_;exact Zvb ⟨J,J,trivial⟩
  ·intro q w0 F B0 G0;refine Ye (Z0 (Zg 2 [4,1] [(10,Zq w 0),(11,SV.agg nT)] [] (Yl [2,3] [3,2] Z6 J J J J (Zae hk hb) J (Yn (Y1 ?_)))));exact Zuy [2,0,1,4] (by decide) J ⟨J,J,J⟩
 ·rintro _ _ _ ⟨rfl,rfl,rfl⟩;refine ⟨_,_,_,_,_,_,_,_,J,(fun h=>by cases h),?_⟩;refine Y1 ?_;exact Zlt (i:=0) [3,4,2] (.inl J) Z6 J J (by decide) ⟨J,J,J⟩
theorem Zda {k:Nat} (hk:ln+2<=k) (hb:k<=1000):HF Tryz.prog 250 [.ptr w 0,.sl r 0 2 0] N [(w,.cells [c0,c1,c2,c3,gr,Zi nu,m0,m1,m2,m3,m4,m5,Zi dp,m7,m8,m9,Zi at_,lo,.sl s 0 (ln+1+1) 0,re]),(s,.row 71 2 k (sC k)),(r,.row 71 2 2 (nT++nT))] fun u N' H'=>u=.tup []/\N'=N+18/\H'=[(w,.cells [c0,c1,c2,c3,gr,Zi nu,m0,m1,m2,m3,m4,m5,Zi dp,m7,m8,m9,Zi at_,lo,.sl s 0 ln 0,re]),(s,.row 71 2 k (sC k)),(r,.row 71 2 2 (nT++nT))]:=by
 refine hfOf Tryz.func250 J (by rw [Tryz.ntmps250];rfl) fun w0 F B0 G0=>?_;rw [Tryz.ntmps250];refine Yb (Z0 (Z9 1 [] [(2,Zq N 0)] [] (N+1) [(N,Zc [Zq w 0])] [] (Yn (Z2 (Yb (Z0 (Zg 1 [] [(6,Zk r 0 2 0)] [] (Yl [] [] Z6 J J J J (Ir) J (Yn (Z2 (Ye (Zgf [0,4,2,3,1] [4,3,2,1,0] Z6 J (Zuh (N1:=N+11) (x1:=.cells [c0,c1,c2,c3,gr,Zi nu,m0,m1,m2,m3,m4,m5,Zi dp,m7,m8,m9,Zi at_,lo,.sl s 0 (ln+1) 0,re]) (N2:=N+18) (x2:=.cells [c0,c1,c2,c3,gr,Zi nu,m0,m1,m2,m3,m4,m5,Zi dp,m7,m8,m9,Zi at_,lo,.sl s 0 ln 0,re]) ?_ ?_) ?_))))))))))))
 ·refine hyOf (E2:=[(2,.ptr N 0),(5,.ptr (N+4) 0)]) (N2:=N+5) (H2:=[(N+4,.cells nT),(w,.cells [c0,c1,c2,c3,gr,Zi nu,m0,m1,m2,m3,m4,m5,Zi dp,m7,m8,m9,Zi at_,lo,.sl s 0 (ln+1+1) 0,re]),(s,.row 71 2 k (sC k)),(N,.cells [.ptr w 0])]) J ?_ ?_
  ·intro q w0 F B0 G0;refine Z0 (Z9 2 [0] [(5,Zq (N+4) 0)] [] (N+5) [(N+4,Zc nT)] [] (Iy (is:=[1,0,2,3,4]) (by decide) ?_));refine Yn ?_;exact Zvb ⟨J,J,trivial⟩
  ·intro q w0 F B0 G0;refine Ye (Z0 (Zg 2 [4,1] [(10,Zq w 0),(11,SV.agg nT)] [] (Yl [2,3] [3,2] Z6 J J J J (Zae hk hb) J (Yn (Y1 ?_)))));exact Zuy [2,0,1,4] (by decide) J ⟨J,J,J⟩
 ·refine hyOf (E2:=[(2,.ptr N 0),(5,.ptr (N+11) 0)]) (N2:=N+12) (H2:=[(N+11,.cells nT),(w,.cells [c0,c1,c2,c3,gr,Zi nu,m0,m1,m2,m3,m4,m5,Zi dp,m7,m8,m9,Zi at_,lo,.sl s 0 (ln+1) 0,re]),(s,.row 71 2 k (sC k)),(N,.cells [.ptr w 0])]) J ?_ ?_
  ·intro q w0 F B0 G0;refine Z0 (Z9 2 [0] [(5,Zq (N+11) 0)] [] (N+12) [(N+11,Zc nT)] [] (Iy (is:=[1,0,2,3,4]) (by decide) ?_));refine Yn ?_;exact Zvb ⟨J,J,trivial⟩
  ·intro q w0 F B0 G0;refine Ye (Z0 (Zg 2 [4,1] [(10,Zq w 0),(11,SV.agg nT)] [] (Yl [2,3] [3,2] Z6 J J J J (Zae (by omega) hb) J ?_)));refine Yn (Y1 ?_);exact Zuy [2,0,1,4] (by decide) J ⟨J,J,J⟩
 ·rintro _ _ _ ⟨rfl,rfl,rfl⟩;refine ⟨_,_,_,_,_,_,_,_,J,(fun h=>by cases h),?_⟩;refine Y1 ?_;exact Zlt (i:=0) [3,4,2] (.inl J) Z6 J J (by decide) ⟨J,J,J⟩
theorem Zmn {k b op:Nat} {n:Int} {qa:Option Addr} {qb:Nat} (hk:ln+1<=k) (hb:k<=1000):HF Tryz.prog 249 [.ptr w 0,.agg [Zn op,Zi n,Ze,Ze,Zl qa qb,Zi 0,Ze],.ptr b 0] N [(w,.cells [c0,c1,c2,c3,gr,Zi nu,m0,m1,m2,m3,m4,m5,Zi dp,m7,m8,m9,Zi at_,lo,.sl s 0 (ln+1) 0,re]),(s,.row 71 2 k (sC k)),(b,.cells [.sl r 0 1 0]),(r,.row 71 2 1 nT)] fun u N' H'=>u=.tup []/\N'=N+12/\H'=[(w,.cells [c0,c1,c2,c3,gr,Zi nu,m0,m1,m2,m3,m4,m5,Zi dp,m7,m8,m9,Zi at_,lo,.sl s 0 ln 0,re]),(s,.row 71 2 k (sC k)),(b,.cells [.sl r 0 1 0]),(r,.row 71 2 1 nT)]:=by
 refine hf1 Tryz.func249 J Tryz.ntmps249 fun _ _ _ _=>?_;refine Zu (Z9 1 [] [] [] (N+1) [(N,Zc [Zn op,Zi n,Ze,Ze,Zl qa qb,Zi 0,Ze])] [] ?_);refine Zv (Z0 (Zg 2 [3] [(5,Zq w 0),(6,Zk r 0 1 0)] [] (Yl [1,2,4] [4,2,1] Z6 J J J J (Zdb hk hb) J (Yn (Yo [0,1,4,2] (.inl J) Z6 J (by decide) ?_)))));exact ⟨J,J,J⟩
theorem Zmm {k b op:Nat} {n:Int} {qa:Option Addr} {qb:Nat} (hk:ln+2<=k) (hb:k<=1000):HF Tryz.prog 249 [.ptr w 0,.agg [Zn op,Zi n,Ze,Ze,Zl qa qb,Zi 0,Ze],.ptr b 0] N [(w,.cells [c0,c1,c2,c3,gr,Zi nu,m0,m1,m2,m3,m4,m5,Zi dp,m7,m8,m9,Zi at_,lo,.sl s 0 (ln+1+1) 0,re]),(s,.row 71 2 k (sC k)),(b,.cells [.sl r 0 2 0]),(r,.row 71 2 2 (nT++nT))] fun u N' H'=>u=.tup []/\N'=N+19/\H'=[(w,.cells [c0,c1,c2,c3,gr,Zi nu,m0,m1,m2,m3,m4,m5,Zi dp,m7,m8,m9,Zi at_,lo,.sl s 0 ln 0,re]),(s,.row 71 2 k (sC k)),(b,.cells [.sl r 0 2 0]),(r,.row 71 2 2 (nT++nT))]:=by
 refine hf1 Tryz.func249 J Tryz.ntmps249 fun _ _ _ _=>?_;refine Zu (Z9 1 [] [] [] (N+1) [(N,Zc [Zn op,Zi n,Ze,Ze,Zl qa qb,Zi 0,Ze])] [] ?_);refine Zv (Z0 (Zg 2 [3] [(5,Zq w 0),(6,Zk r 0 2 0)] [] (Yl [1,2,4] [4,2,1] Z6 J J J J (Zda hk hb) J (Yn (Yo [0,1,4,2] (.inl J) Z6 J (by decide) ?_)))));exact ⟨J,J,J⟩
end
end S
end Go.Proofs.YtpofmnfkdkmieaaGreat
