/- What is proved here: the document's own Check: what was taken -/
import Derived.Test.YtpofmnfkdkmieaaGreatQ32
import Derived.Test.YtpofmnfkdkmieaaGreatQ27
set_option linter.unusedVariables false
set_option linter.unusedSimpArgs false
namespace Go.Proofs.YtpofmnfkdkmieaaGreat
namespace E
open Go Go.RowKit
theorem results_4 {P:Program} {fn:Func} {a:Act} {w:World} {r s q t:Tmp} {v x y z:Value} (hr:fn.results=#[.tmp r,.tmp s,.tmp q,.tmp t]) (h1:a.tmps.getD r undef=v) (h2:a.tmps.getD s undef=x) (h3:a.tmps.getD q undef=y) (h4:a.tmps.getD t undef=z):(results fn a.tmps).run P w=.ok (.tuple #[v,x,y,z]) w:=by
 unfold results;rw [hr];simp only [List.mapM_toArray,Sem.run_bind,List.mapM_cons,List.mapM_nil];simp [h1,h2,h3,h4]
theorem Res_4 {P:Program} {n:Nat} {E:Env} {w0:World} {F:List Nat} {H:Hp} {R:Asr} {fn:Func} {r s q t:Tmp} {v x y z:Value} (hr:fn.results=#[.tmp r,.tmp s,.tmp q,.tmp t]) (h1:look E r=some v) (h2:look E s=some x) (h3:look E q=some y) (h4:look E t=some z):Res P n E w0 F H R fn (.tuple #[v,x,y,z]) :=
 ⟨fun w _ a ha=>results_4 hr (ha.eval (x:=.tmp r) h1) (ha.eval (x:=.tmp s) h2) (ha.eval (x:=.tmp q) h3) (ha.eval (x:=.tmp t) h4)⟩
end E
section
open Go Go.RowKit At E
def CheckO (c:Cl) (l:List Bl) (n pos e:Int):Prop :=
 (Xm c=false∧l=[]∧n=0∧pos=0∧e=1) ∨
 (Xm c=true∧∃ a b:Nat,Fails c a b∧l=[]∧n=a∧pos=b∧e=2) ∨
 (Xm c=true∧n=0∧pos=0∧e=0∧Srt l∧∃ G,V3 c c.methods.length=some G∧∀ x,x ∈ l↔G x)
theorem CheckO.one {c:Cl} {l l':List Bl} {n n' pos pos' e e':Int} (h:CheckO c l n pos e) (h':CheckO c l' n' pos' e'):l=l'∧n=n'∧pos=pos'∧e=e':=by
 have nf:∀ a b,Fails c a b→V3 c c.methods.length=none:=fun a b hf=>by
  obtain ⟨m,_,_,_,hm,_⟩:=id hf;exact hf.grant (Wa hm)
 rcases h with ⟨hc,rfl,rfl,rfl,rfl⟩ | ⟨hc,a,b,hf,rfl,rfl,rfl,rfl⟩ | ⟨hc,rfl,rfl,rfl,hs,G,hG,hm⟩<;>rcases h' with ⟨hc',rfl,rfl,rfl,rfl⟩ | ⟨hc',a',b',hf',rfl,rfl,rfl,rfl⟩ | ⟨hc',rfl,rfl,rfl,hs',G',hG',hm'⟩
 ·exact ⟨J,J,J,J⟩
 ·rw [hc] at hc';cases hc'
 ·rw [hc] at hc';cases hc'
 ·rw [hc] at hc';cases hc'
 ·obtain ⟨h1,h2⟩:=hf.one hf';subst h1;subst h2;exact ⟨J,J,J,J⟩
 ·rw [nf _ _ hf] at hG';cases hG'
 ·rw [hc] at hc';cases hc'
 ·rw [nf _ _ hf'] at hG;cases hG
 ·rw [hG] at hG';cases hG';exact ⟨srt_one hs hs' (fun x=>(hm x).trans (hm' x).symm),J,J,J⟩
theorem cl_method {c:Cl} {n:Nat} {m:Me} (h:Xm c=true) (hm:c.methods[n]?=some m):Yt m=true:=by
 unfold Xm at h;simp only [Bool.and_eq_true] at h;have h1:=List.all_eq_true.1 h.2 n (List.mem_range.2 (Wa hm));unfold meAt at h1;rw [hm] at h1;simp only [Bool.and_eq_true] at h1;exact h1.1
theorem cl_bounds {c:Cl} (h:Xm c=true):c.methods.length≤20∧X4 c.name=true:=by
 unfold Xm at h;simp only [Bool.and_eq_true,decide_eq_true_eq] at h;exact ⟨by omega,h.1.1.1.1.1⟩
theorem ty_not0 {t:Ty} {o:Bool} (h:X7 t false o=true):¬ t.kind=0:=by
 intro h0;unfold X7 at h;rw [if_pos h0] at h;simp at h
theorem first_len {c:Cl} {m:Me} (h:Yt m=true):((Uk c m).length:Int)≤m.locals:=by
 have hb:=(Nx h).2.2.2.2.2.2.2;unfold Uk;unfold Qt at hb;cases hs:m.stat
 ·rw [hs] at hb;rw [if_neg (by simp)] at hb ⊢;rw [List.length_append,List.length_cons,List.length_nil];omega
 ·rw [hs] at hb;rw [if_pos rfl] at hb ⊢;rw [List.length_append,List.length_nil];omega
theorem first_ok {c:Cl} {m:Me} (h:Yt m=true) (G:Set Bl):StOk m (Ng c m G):=by
 have hb:=Nx h;refine ⟨?_,(fun t ht=>by cases ht),fun t ht=>?_⟩
 ·have h0:0≤m.stack:=by
   unfold Yt V7 at h;simp only [Bool.and_eq_true,decide_eq_true_eq] at h;exact h.1.1.1.1.1.1.1.1.2
  exact h0
 ·unfold Ng at ht;rcases List.mem_append.1 ht with ht | ht
  ·unfold Uk at ht;rcases List.mem_append.1 ht with ht | ht
   ·cases hs:m.stat
    ·rw [hs] at ht;simp at ht;subst ht;show ¬ (3:Int)=0;decide
    ·rw [hs] at ht;simp at ht
   ·exact ty_not0 (List.all_eq_true.1 hb.2.2.2.2.2.2.1 t ht)
  ·rw [List.mem_replicate] at ht;rw [ht.2];show ¬ (4:Int)=0;decide
structure CmL where
 n:Nat
 m:Me
 pv:Value
 cv:Value
 hv:Value
 rv:Value
 k:CkM
structure LpL where
 l:List Ty
 v:Value
structure CpL where
 pos:Nat
 k:CkM
theorem nil_ty (w:World):Yu w (.slice none 0 0) []:=⟨none,0,rfl,⟨by decide,by decide⟩,fun i x hi=>by simp at hi⟩
def k00:CkM:=⟨[],.slice none 0 0,[],.slice none 0 0,[],[],.slice none 0 0,[],false,false⟩
def me0:Me:=⟨At.mt,false,[],⟨0,At.mt⟩,0,0,[],[],[]⟩
theorem bls_nil (R:Asr):R.Imp (U2 (.slice none 0 0) []):=⟨fun x hx=>by simp [U2,Y0,Value.ownBlock] at hx,fun w _=>World.ownsRow_nil w 0 136 2⟩
theorem ck_nil (u:World):Asr.none.Imp (ckA u k00):=by
 refine (bls_nil Asr.none).trans ?_;refine (roA_old (u:=u) (Q:=(Yu · (.slice none 0 0) [])) (fun w _=>nil_ty w) _).trans ?_;refine (roA_old (u:=u) (Q:=(Yu · (.slice none 0 0) [])) (fun w _=>nil_ty w) _).trans ?_;exact (Asr.cossa _ _ _).trans (Asr.comm _ _)
theorem ck_own {u:World} {k:CkM}:(ckA u k).Imp ((T4 (.slice none 0 0) []).and (U2 k.gv k.gr)) :=
 (Asr.fst _ _).trans ⟨fun x hx=>by simpa [T4,Y0,Value.ownBlock,Asr.and] using hx,fun w hw=>⟨World.ownsRow_nil w 0 71 2,hw,fun x hx=>by simp [T4,Y0,Value.ownBlock] at hx⟩⟩
theorem ck_back {u:World} {gr:List Bl} {gv v:Value} {l:List Ty} (ho:Q1 l):((T4 v l).and (U2 gv gr)).Imp (ckA u ⟨gr,gv,l,v,v.ownBlock.toList,[],.slice none 0 0,[],true,false⟩):=by
 refine (Asr.Imp.left (tysA_ro (u:=u) ho)).trans ?_;refine (roA_old (u:=u) (Q:=(Yu · (.slice none 0 0) [])) (fun w _=>nil_ty w) _).trans ?_;exact (Asr.swap _ _ _).trans ((Asr.cossa _ _ _).trans (Asr.comm _ _))
theorem first_tys {u:World} {c:Cl} {m:Me} {pv cv hv rv:Value} (hp:MeParts u m pv cv hv rv) (hn:X5 c.name) (hm:Yt m=true):Q1 (Ng c m (fun _=>False)).lo:=by
 have hb:=Nx hm;have hl:=first_len (c:=c) hm;refine ⟨?_,fun t ht=>?_⟩
 ·unfold Ng;simp only [List.length_append,List.length_replicate];omega
 ·unfold Ng at ht;rcases List.mem_append.1 ht with ht | ht
  ·unfold Uk at ht;rcases List.mem_append.1 ht with ht | ht
   ·cases hs:m.stat
    ·rw [hs] at ht;simp at ht;subst ht;exact ⟨by show Wc 3;unfold Wc;decide,hn⟩
    ·rw [hs] at ht;simp at ht
   ·exact hp.ps.ok t ht
  ·rw [List.mem_replicate] at ht;rw [ht.2];exact ⟨by show Wc 4;unfold Wc;decide,by show X5 At.mt;unfold X5 At.mt;decide⟩
theorem first_lo {c:Cl} {m:Me} {l:List Ty} {j:Nat} (hm:Yt m=true) (hl:l=Uk c m++List.replicate j P5) (h1:¬ (l.length:Int)<m.locals) (h2:(l.length:Int)≤m.locals) (G:Set Bl):l=(Ng c m G).lo∧(l.length:Int)=m.locals:=by
 have e:(l.length:Int)=m.locals:=by omega
 refine ⟨?_,e⟩
 have hj:j=m.locals.toNat - (Uk c m).length:=by
  rw [hl,List.length_append,List.length_replicate] at e;omega
 rw [hl,hj];rfl
theorem tys_snoc {v:Value} {l:List Ty} {t:Ty}:Y0 71 2 v (l.length+1) (l.flatMap tyV++tyV t)=T4 v (l++[t]):=by
 unfold T4;rw [List.length_append,List.flatMap_append,List.flatMap_cons,List.flatMap_nil,List.append_nil];rfl
def lim6 (a b:Nat):Nat:=a+600*b
def lim2 (n:Nat):Nat:=120000*n
theorem lim6_add (a b:Nat):lim6 a (b+1)=lim6 a b+600:=by unfold lim6;rw [Nat.mul_add,Nat.mul_one,Nat.add_assoc]
theorem lim6_next {x y a b:Nat} (h:x≤lim6 a b) (k:y≤x+600):y≤lim6 a (b+1):=by rw [lim6_add];omega
theorem lim6_le {x a b:Nat} (h:x≤lim6 a b) (hb:b≤200):x≤a+120000:=by unfold lim6 at h;omega
theorem lim2_next {a x b n:Nat} (h:a≤lim2 n) (k:x≤lim6 a b) (hb:b≤200):x≤lim2 (n+1):=by unfold lim6 lim2 at *;omega
theorem lim2_le {a n:Nat} (h:a≤lim2 n) (hn:n≤20):a≤2400000:=by unfold lim2 at h;omega
theorem grant_next {c:Cl} {n:Nat} {m:Me} {G:Set Bl} {s:St} (hm:c.methods[n]?=some m) (hG:V3 c n=some G) (hs:stF c m G m.code.length=some s):V3 c (n+1)=some s.gr:=by
 show (match c.methods[n]? with | none=>none | some m=>(V3 c n).bind fun G=>(stF c m G m.code.length).map St.gr)=_;rw [hm,hG];show (stF c m G m.code.length).map St.gr=_;rw [hs];rfl
theorem st_next {c:Cl} {m:Me} {G:Set Bl} {pos:Nat} {i:Ins} {s:St} (hi:m.code[pos]?=some i) (hs:stF c m G pos=some s):stF c m G (pos+1)=R5 c m pos i s:=by
 show (match m.code[pos]? with | none=>none | some i=>(stF c m G pos).bind (R5 c m pos i))=_;rw [hi,hs];rfl
set_option maxHeartbeats 2000000 in
theorem refCheck_any (c:Cl) (fv mv:Value) (w:World) (hcl:ClAt w c fv mv) :
  FnP Tryz.prog 60 #[.agg (clV c fv mv).toArray] w (fun v R'=>∃ l gv n pos e,v=.tuple #[gv,.int .i64 n,.int .i64 pos,.int .i64 e]∧CheckO c l n pos e∧R'.Imp (U2 gv l)∧l.length≤2400000) False:=by
 obtain ⟨qf,ef,rfl, -, -⟩:=hcl.fs.is;obtain ⟨qm,em,rfl,hml,hmr⟩:=hcl.ms.is;have hu:Below w.heap.size w w:=Below.refl _ w;have hF:∀ x ∈ ([]:List Nat),w.heap.size≤x:=fun x hx=>by cases hx
 replace hmr:Hid _:=hmr;replace hcl:Hid _:=hcl;refine Xf (args:=[.agg (clV c (.slice qf c.fields.length ef) (.slice qm c.methods.length em)).toArray]) Tryz.func60 J Tryz.ntmps60 ?_;refine Zg (Zb (Y2 J J ?_));intro b0 hb0;refine Za J (Zf J) (Za J (Zf J) (Za J (Zf J) (Za J (Zf J) (Ze (Zc (Zg (Zb (Za J (Zv (tn J) J 0 J J) (Yq fn54 J J (fun w' hs=>isClass_any c _ _ w' (hcl.out.mono (Xx hs))) ?_)))))))));refine Za J (Zf J) (Ze (Zc (Zg (Zg (Zb (Za J (Zd J) (Za J (Xv J) (Ze (Zc (W4 J ?_ ?_))))))))))
 ·intro c1;replace c1:Xm c=false:=by simpa using c1
  refine Zg (Zb (Za J (Zf J) (Za J (Zf J) (Za J (Zf J) (Za J (Zf J) (Ze (Zc (Zr (Zl (T0 (Res_4 J J J J J) ?_))))))))));exact ⟨[],_,0,0,1,J,.inl ⟨c1,J,J,J,J⟩,bls_nil _,Nat.zero_le _⟩
 ·intro c1;replace c1:Xm c=true:=by simpa using c1
  obtain ⟨hcb,hcn⟩:=cl_bounds c1;refine Zo (Zc (Zg (Zb (Za J (Zv (tn J) J 0 J J) (Za J (Z8 (cs:=ckC ⟨c,.slice qf c.fields.length ef,.slice qm c.methods.length em,me0,.slice none 0 0,.slice none 0 0,.slice none 0 0,.slice none 0 0⟩ k00) (tb J) J (by kernel_rfl)) ?_)))));refine Y2 J J ?_;intro b1 hb1;refine Za J (Zf J) (Ze (Zc (Zg (Zg (Zb (Za J (Zf J) (Ze (Zc (Zn (Xt (ck_nil w) ?_))))))))));refine Yf (Yg (X:=CmL) (fun y=>[(1,pt b0),(7,pt b1),(8,iN y.n)]) _ _ (fun y=>[(b1,ckC ⟨c,.slice qf c.fields.length ef,.slice qm c.methods.length em,y.m,y.pv,y.cv,y.hv,y.rv⟩ y.k),(b0,clV c (.slice qf c.fields.length ef) (.slice qm c.methods.length em))]) (fun y=>ckA w y.k) (fun y=>y.n≤c.methods.length∧y.k.bad=false∧y.k.gr.length≤lim2 y.n∧Hid (Srt y.k.gr)∧Hid (V3 c y.n=some fun z=>z ∈ y.k.gr)) (fun y=>c.methods.length - y.n) (⟨0,me0,.slice none 0 0,.slice none 0 0,.slice none 0 0,.slice none 0 0,k00⟩) (⟨Nat.zero_le _,J,Nat.le_refl _,List.Pairwise.nil,by show some _=some _;congr 1;funext z;simp [k00]⟩) ?_) ⟨rfl,rfl,rfl,trivial⟩;intro y hI;obtain ⟨n,m0,pv0,cv0,hv0,rv0,k0⟩:=y;obtain ⟨hI1,hI2,hI3,hI4,hI5⟩:=hI;dsimp only at hI1 hI2 hI3 hI4 hI5;have hnn:(CmL.mk n m0 pv0 cv0 hv0 rv0 k0).n=n:=rfl;refine Zg (Zg (Zb (Za J (Zd J) (Za J (Zh (ff J) J) (Za J (Zj (t1 J) J (Zi 1 J J)) (Za J (Zx (ts J) J) (Za J (Yi J J) (Ze (Zc (Zu J ?_ ?_))))))))))
  ·intro c2;obtain ⟨m,hmn⟩:∃ m,c.methods[n]?=some m:=⟨_,List.getElem?_eq_getElem (by omega)⟩;obtain ⟨bm,om,rm,hqm,hbm,⟨pv,cv,hv,rv,hrm,hmp⟩,hcc⟩:=hmr.out n m hmn;subst hqm;subst hrm;obtain ⟨p1,e1,hp1, -, -⟩:=hmp.ps.is;obtain ⟨p2,e2,hp2, -, -⟩:=hmp.cs.is;obtain ⟨p3,e3,hp3, -, -⟩:=hmp.hs.is;obtain ⟨p4,e4,hp4, -, -⟩:=hmp.fs.is;subst hp1;subst hp2;subst hp3;subst hp4;have hm:=cl_method c1 hmn;have hbd:=Nx hm;have hfl:=first_len (c:=c) hm;have hpl:m.params.length≤20:=by have h9:=hfl;have h8:=hbd.1;unfold Uk at h9;rw [List.length_append] at h9;omega
   obtain ⟨gr,gv,lo0,lv0,lb0,st0,sv0,sb0,al0,bd0⟩:=k0;dsimp only at hI2 hI3 hI4 hI5;subst hI2;replace hmp:Hid _:=hmp;refine Zo (Zc (Zg (Zn (Zg (Zb (Za J (Zd J) (Za J (Zh (ff J) J) (Za J (Zj (t1 J) J (Zi 1 J J)) (Za J (Zd J) (Za J (Yo (ts J) J J ?_) ?_))))))))))
   ·omega
   refine Za J (Yj (tn J) J (U6 hu hF hbm hcc) J) (Za J (Zw J) (Za J (Zh (ff J) J) (Z2 (tn J) J J 0 J J J J (Ze (Zc (Zg (Xt ck_own (Zb (Za J (Zd J) (Za J (Zw J) (Za J (Zh (ff J) J) (Yy (t1 J) J J 0 J J J J (Ze (Zc (Zg (Zb (Za J (Zd J) (Za J (Zw J) (Za J (Zh (ff J) J) (Yy (t1 J) J J 0 J J J J (Ze (Zc (Zg (Zb (Za J (Zd J) (Za J (Zw J) (Za J (Zh (ff J) J) (Yy (t1 J) J J 0 J J J J (Ze ?_)))))))))))))))))))))))))))));refine Zc (Sg (Y:=LpL) (fun z:LpL=>[(1,pt b0),(7,pt b1),(8,iN n)]) (fun z:LpL=>[(b1,ckC ⟨c,.slice qf c.fields.length ef,.slice (some ⟨bm,om,none⟩) c.methods.length em,m,(.slice p1 m.params.length e1),(.slice p2 m.code.length e2),(.slice p3 m.handlers.length e3),(.slice p4 m.frames.length e4)⟩ ⟨gr,gv,z.l,z.v,[],[],.slice none 0 0,[],true,false⟩),(b0,clV c (.slice qf c.fields.length ef) (.slice (some ⟨bm,om,none⟩) c.methods.length em))]) (fun z:LpL=>(T4 z.v z.l).and (U2 gv gr)) (fun z:LpL=>z.l=(if m.stat then [] else [Xu c.name])) ?_ ?_)
   ·skip
    refine Zg (Zb (Za J (Zd J) (Za J (Zw J) (Za J (Zh (ff J) J) (Za J (Zh (ff J) J) (Za J (Zj (t1 J) J (Zi 0 J J)) (Za J (Xv J) (Ze (Zc (W4 J ?_ ?_))))))))))
    ·intro c3;refine WC_zheld 12 X2 (V5 0 J (by kernel_rfl) (by kernel_rfl) (by kernel_rfl) (by kernel_rfl) J (fun _ hs=>lN _ (hs.drop 0)) (Zd J) ?_);refine V5 1 J (by kernel_rfl) (by kernel_rfl) (by kernel_rfl) (by kernel_rfl) J (fun _ hs=>lN _ (hs.drop 0)) (Zd J) ?_;refine V5 2 J (by kernel_rfl) (by kernel_rfl) (by kernel_rfl) (by kernel_rfl) J (fun _ hs=>lN _ (hs.drop 0)) (Zw J) ?_;refine V5 3 J (by kernel_rfl) (by kernel_rfl) (by kernel_rfl) (by kernel_rfl) J (fun _ hs=>lN _ (hs.drop 0)) (Zh (ff J) J) ?_;refine V5 4 J (by kernel_rfl) (by kernel_rfl) (by kernel_rfl) (by kernel_rfl) J (fun _ hs=>lN _ (hs.drop 0)) (Zj (t1 J) J (Zi 0 J J)) ?_;refine V5 5 J (by kernel_rfl) (by kernel_rfl) (by kernel_rfl) (by kernel_rfl) J (fun _ hs=>lN _ (hs.drop 0)) (Zh (ff J) J) ?_;refine V5 6 J (by kernel_rfl) (by kernel_rfl) (by kernel_rfl) (by kernel_rfl) J (fun _ hs=>lN _ (hs.drop 0)) (Zj (t1 J) J (Zi 1 J J)) ?_;refine Tg (rs:=[7]) (by kernel_rfl) (by simp) ?_;refine Vy ?_ (Ur);refine ⟨_,J,?_⟩;refine Yq fn107 J J (fun w' _=>Vd _ w') ?_;refine Ze (Uw (.inr (fun _ hs=>lN _ (hs.drop 0))) ?_);refine Tg (rs:=[8]) (by kernel_rfl) (by simp) ?_;refine Vy ?_ (Ur);refine ⟨_,J,?_⟩;refine Wk J (ts J) (tz J) J J J J J ?_;intro b2 hb2;refine Ze (Uw (.inr (fun _ hs=>lN _ (hs.drop 1))) ?_);refine Tg (rs:=[9]) (by kernel_rfl) (by simp) ?_;refine Vy ?_ (Ur);refine ⟨_,J,?_⟩;refine Ww J (ta J) J J (Yl 0 J) J J (by show 0+1≤_;unfold maxLen;omega) (by show (0+1)*24≤_;omega) ?_;intro v1;refine Ze (Uw (.inr (fun _ hs=>lN _ (hs.drop 1))) ?_);refine Tg (rs:=[10]) (by kernel_rfl) (by simp) ?_;refine Vy ?_ (Ur);refine ⟨_,J,?_⟩;refine Za J (Zw J) (Ze (Uw (.inr (fun _ hs=>lN _ (hs.drop 1))) ?_));refine V5 11 J (by kernel_rfl) (by kernel_rfl) (by kernel_rfl) (by kernel_rfl) J (fun _ hs=>lN _ (hs.drop 1)) (Zh (ff J) J) ?_;refine Tg (rs:=[12]) (by kernel_rfl) (by simp) ?_;refine Vy ?_ (Ur);refine ⟨_,J,?_⟩;refine Xc (p:=∃ p c,v1=.slice p 1 c) (fun w hs=>by obtain ⟨p,c,h,_⟩:=Xr hs.res.1;exact ⟨p,c,h⟩) ?_;rintro ⟨p5,c5,hv5⟩;subst hv5;refine Yy (t1 J) J J 1 J J J J (Ze (Uw (.inl J) (WZ_done (by kernel_rfl) ?_)));refine Wj (⟨[Xu c.name],.slice p5 1 c5⟩) 1 J J ⟨J,J,J,trivial⟩ ?_;exact (if_neg (by rw [show m.stat=false by simpa using c3];simp)).symm
    ·intro c3;refine Zo ?_;refine Wj (⟨[],.slice none 0 0⟩) 0 J J ⟨J,J,J,trivial⟩ ?_;exact (if_pos (by simpa using c3)).symm
   intro z hJ;obtain ⟨l1,v1'⟩:=z;replace hJ:l1=(if m.stat then [] else [Xu c.name]):=hJ;have hl1:l1.length≤1:=by rw [hJ];split<;>simp
   refine Zg (WC_zheld 13 X2 (V5 0 J (by kernel_rfl) (by kernel_rfl) (by kernel_rfl) (by kernel_rfl) J (fun _ hs=>lN _ (hs.drop 0)) (Zd J) ?_));refine V5 1 J (by kernel_rfl) (by kernel_rfl) (by kernel_rfl) (by kernel_rfl) J (fun _ hs=>lN _ (hs.drop 0)) (Zd J) ?_;refine V5 2 J (by kernel_rfl) (by kernel_rfl) (by kernel_rfl) (by kernel_rfl) J (fun _ hs=>lN _ (hs.drop 0)) (Zw J) ?_;refine V5 3 J (by kernel_rfl) (by kernel_rfl) (by kernel_rfl) (by kernel_rfl) J (fun _ hs=>lN _ (hs.drop 0)) (Zh (ff J) J) ?_;refine V5 4 J (by kernel_rfl) (by kernel_rfl) (by kernel_rfl) (by kernel_rfl) J (fun _ hs=>lN _ (hs.drop 0)) (Zj (t1 J) J (Zi 0 J J)) ?_;refine V5 5 J (by kernel_rfl) (by kernel_rfl) (by kernel_rfl) (by kernel_rfl) J (fun _ hs=>lN _ (hs.drop 0)) (Zd J) ?_;refine V5 6 J (by kernel_rfl) (by kernel_rfl) (by kernel_rfl) (by kernel_rfl) J (fun _ hs=>lN _ (hs.drop 0)) (Zw J) ?_;refine V5 7 J (by kernel_rfl) (by kernel_rfl) (by kernel_rfl) (by kernel_rfl) J (fun _ hs=>lN _ (hs.drop 0)) (Zh (ff J) J) ?_;refine V5 8 J (by kernel_rfl) (by kernel_rfl) (by kernel_rfl) (by kernel_rfl) J (fun _ hs=>lN _ (hs.drop 0)) (Zh (ff J) J) ?_;refine V5 9 J (by kernel_rfl) (by kernel_rfl) (by kernel_rfl) (by kernel_rfl) J (fun _ hs=>lN _ (hs.drop 0)) (Zj (t1 J) J (Zi 0 J J)) ?_;refine Tg (rs:=[10]) (by kernel_rfl) (by simp) ?_;refine Vy ?_ (Ur);refine ⟨_,J,?_⟩;refine WL_appX (news:=m.params.flatMap tyV) J (ta J) J J (old_rows tyV hu hF hmp.out.ps (fun r x h=>h.1) (fun _ _=>J)) (Ox _) (tyV_all _) (by show l1.length+m.params.length≤_;unfold maxLen;omega) (by show (l1.length+m.params.length)*24≤_;omega) ?_;intro v2;refine Ze (Uw (.inr (fun _ hs=>lN _ (hs.drop 0))) ?_);refine Tg (rs:=[11]) (by kernel_rfl) (by simp) ?_;refine Vy ?_ (Ur);refine ⟨_,J,?_⟩;refine Za J (Zw J) (Ze (Uw (.inr (fun _ hs=>lN _ (hs.drop 0))) ?_));refine V5 12 J (by kernel_rfl) (by kernel_rfl) (by kernel_rfl) (by kernel_rfl) J (fun _ hs=>lN _ (hs.drop 0)) (Zh (ff J) J) ?_;refine Tg (rs:=[13]) (by kernel_rfl) (by simp) ?_;refine Vy ?_ (Ur);refine ⟨_,J,?_⟩;refine Xc (p:=∃ p c,v2=.slice p (l1.length+m.params.length) c) (fun w hs=>by obtain ⟨p,c,h,_⟩:=Xr hs.res.1;exact ⟨p,c,h⟩) ?_;rintro ⟨p6,c6,hv6⟩;subst hv6;refine Yy (t1 J) J J 0 J J J J (Ze (Uw (.inl J) (WZ_done (by kernel_rfl) ?_)));refine Zc (Zg (Zn ?_));refine W9 (R':=(T4 (.slice p6 (l1.length+m.params.length) c6) (l1++m.params)).and (U2 gv gr)) (by unfold T4;rw [List.length_append,List.flatMap_append]) ?_;refine Yf (Yg (X:=LpL) (fun q=>[(1,pt b0),(7,pt b1),(8,iN n)]) _ _ (fun q=>[(b1,ckC ⟨c,.slice qf c.fields.length ef,.slice (some ⟨bm,om,none⟩) c.methods.length em,m,(.slice p1 m.params.length e1),(.slice p2 m.code.length e2),(.slice p3 m.handlers.length e3),(.slice p4 m.frames.length e4)⟩ ⟨gr,gv,q.l,q.v,[],[],.slice none 0 0,[],true,false⟩),(b0,clV c (.slice qf c.fields.length ef) (.slice (some ⟨bm,om,none⟩) c.methods.length em))]) (fun q=>(T4 q.v q.l).and (U2 gv gr)) (fun q=>(q.l.length:Int)≤m.locals∧∃ j,q.l=Uk c m++List.replicate j P5) (fun q=>m.locals.toNat - q.l.length) (⟨l1++m.params,.slice p6 (l1.length+m.params.length) c6⟩) (⟨by show ((l1++m.params).length:Int)≤m.locals;rw [hJ];exact hfl,0,by show l1++m.params=_;rw [hJ];simp [Uk]⟩) ?_) ⟨rfl,rfl,rfl,trivial⟩;intro q hI;obtain ⟨l2,w2⟩:=q;obtain ⟨hq1,j,hq2⟩:=hI;dsimp only at hq1 hq2;have hll:(LpL.mk l2 w2).l.length=l2.length:=rfl;refine Zg (Zg ?_);refine Th (p:=∃ p c,w2=.slice p l2.length c) (fun w hs=>by obtain ⟨p,c,h,_⟩:=Xr hs.res.1;exact ⟨p,c,h⟩) ?_;rintro ⟨p7,c7,hw7⟩;subst hw7;refine Ws X2 (by kernel_rfl) ?_;refine Zq J (Zd J) (Zq J (Zw J) (Zq J (Zh (ff J) J) (Zq J (Zj (t1 J) J (Zi 0 J J)) (Zq J (Zx (ts J) J) (Zq J (Zd J) (Zq J (Zw J) (Zq J (Zh (ff J) J) (Zq J (Zh (ff J) J) (Zq J (Zj (t1 J) J (Zi 0 J J)) (Zq J (Yi J J) (Wi (Zc (Zu J ?_ ?_)))))))))))))
   ·intro c4;replace c4:(l2.length:Int)<m.locals:=c4;refine Zo (Zc (Zn (Zb (Za J (Zd J) (Za J (Zd J) (Za J (Zw J) (Za J (Zh (ff J) J) (Za J (Zj (t1 J) J (Zi 0 J J)) (Za J (Z8 (tb J) J J) (Wk J (ts J) (tz J) J J J J J ?_))))))))));intro b2 hb2;refine Ww J (ta J) J J (Yl 0 J) J J (by show l2.length+1≤_;unfold maxLen;omega) (by show (l2.length+1)*24≤_;omega) ?_;intro v3;refine Za J (Zw J) (Za J (Zh (ff J) J) ?_);refine Xc (p:=∃ p c,v3=.slice p (l2.length+1) c) (fun w hs=>by obtain ⟨p,c,h,_⟩:=Xr hs.res.1;exact ⟨p,c,h⟩) ?_;rintro ⟨p8,c8,hv8⟩;subst hv8;refine Yy (t1 J) J J 1 J J J J (Ze (Zt ?_));refine Z1 (⟨l2++[P5],.slice p8 (l2.length+1) c8⟩) ?_ (⟨by show ((l2++[P5]).length:Int)≤m.locals;rw [List.length_append,List.length_cons,List.length_nil];omega,j+1,by show l2++[P5]=_;rw [hq2,List.append_assoc,List.replicate_succ']⟩) 1 rfl (by show (T4 _ (l2++[P5])).and _=_;rw [← tys_snoc];rfl) ⟨rfl,rfl,rfl,trivial⟩;show m.locals.toNat - (l2++[P5]).length<m.locals.toNat - l2.length;rw [List.length_append,List.length_cons,List.length_nil];omega
   ·intro c4;replace c4:¬ (l2.length:Int)<m.locals:=c4;refine Yd (Yc (Z5 (Yb (Zc (Zg ?_)))));obtain ⟨hlo,hlen⟩:=first_lo hm hq2 c4 hq1 (fun _=>False);refine Xt (ck_back (u:=w) (by rw [hlo];exact first_tys hmp.out hcl.out.ok.1 hm)) ?_;refine Zb (Za J (Zf J) (Ze (Zc (Zn ?_))));refine Yf (Yg (X:=CpL) (fun q=>[(1,pt b0),(7,pt b1),(8,iN n),(9,iN q.pos)]) _ _ (fun q=>[(b1,ckC ⟨c,.slice qf c.fields.length ef,.slice (some ⟨bm,om,none⟩) c.methods.length em,m,(.slice p1 m.params.length e1),(.slice p2 m.code.length e2),(.slice p3 m.handlers.length e3),(.slice p4 m.frames.length e4)⟩ q.k),(b0,clV c (.slice qf c.fields.length ef) (.slice (some ⟨bm,om,none⟩) c.methods.length em))]) (fun q=>ckA w q.k) (fun q=>q.pos≤m.code.length∧q.k.bad=false∧q.k.gr.length≤lim6 gr.length q.pos∧CkOk ⟨c,.slice qf c.fields.length ef,.slice (some ⟨bm,om,none⟩) c.methods.length em,m,(.slice p1 m.params.length e1),(.slice p2 m.code.length e2),(.slice p3 m.handlers.length e3),(.slice p4 m.frames.length e4)⟩ q.k∧sem q.k=stF c m (fun z=>z ∈ gr) q.pos) (fun q=>m.code.length - q.pos) (⟨0,⟨gr,gv,l2,.slice p7 l2.length c7,(Value.slice p7 l2.length c7).ownBlock.toList,[],.slice none 0 0,[],true,false⟩⟩) (⟨Nat.zero_le _,J,Nat.le_refl _,⟨hlen,hI4.out,fun s hs=>by cases hs;rw [hlo];exact first_ok hm _⟩,by show some _=some (Ng c m _);rw [hlo];rfl⟩) ?_) ⟨rfl,rfl,rfl,rfl,trivial⟩;intro q hI;obtain ⟨pos,kq⟩:=q;obtain ⟨hr1,hr2,hr3,hr4,hr5⟩:=hI;dsimp only at hr1 hr2 hr3 hr4 hr5;have hpp:(CpL.mk pos kq).pos=pos:=rfl;have hr6:=lim6_le hr3 (by have h9:=hbd.2.2.2.1;omega);have hr7:=lim2_le hI3 (by omega);refine Zg (Zg (Zb (Za J (Zd J) (Za J (Zd J) (Za J (Zw J) (Za J (Zh (ff J) J) (Za J (Zh (ff J) J) (Za J (Zj (t1 J) J (Zi 0 J J)) (Za J (Zx (ts J) J) (Za J (Yi J J) (Ze (Zc (Zu J ?_ ?_)))))))))))))
    ·intro c5;obtain ⟨i,hi⟩:∃ i,m.code[pos]?=some i:=⟨_,List.getElem?_eq_getElem (by omega)⟩;have hsl:=(hr4.ok _ (Xi hr2)).len;dsimp only at hsl;refine Zo (Zc (Zg (Zn (Zg (Zb (Za J (Zd J) (Za J (Zd J) ?_)))))));refine Ye fn108 J J 0 J hu hF (step_any w b1 _ kq pos i hr4 hr2 hm hmp.out hi (by have h9:=hbd.2.1;omega) (by omega)) ?_;rintro v cs' R' ⟨rfl,k1,rfl,hR,hk1,hg1,hst1,hs1⟩;refine Zz hR ?_;refine Ze (Zc (Zg (Zb (Za J (Zd J) (Za J (Zw J) (Za J (Zh (ff J) J) (Za J (Zj (t1 J) J (Zi 0 J J)) (Ze (Zc (W4 J ?_ ?_))))))))))
     ·intro c6;refine Zg (Zb (Za J (Zd J) (Za J (Zd J) (Za J (Zf J) (Za J (Zf J) (Za J (Zf J) (Za J (Zf J) (Ze (Zc (Zr (Zl (Zl (Zl (Zl (Zl (Zl (Zl (Zl (Zl (T0 (Res_4 J J J J J) ?_))))))))))))))))))));exact ⟨[],_,n,pos,2,J,.inr (.inl ⟨c1,n,pos,⟨m,i,_,_,hmn,hi,hI5.out,by rw [← hr5,Xi hr2],by have h9:=hs1;rw [Vu c6,Xi hr2] at h9;exact h9.symm⟩,J,J,J,J⟩),bls_nil _,Nat.zero_le _⟩
     ·intro c6;refine Zo (Zt (Zc (Zb (Za J (Zd J) ?_))));refine Za J (Yn J J ?_) ?_;omega;refine Za J (Zf J) (Ze ?_);refine Z1 (⟨pos+1,k1⟩) ?_ (⟨by show pos+1≤_;omega,c6,lim6_next hr3 hg1,hk1,by show sem k1=_;rw [hs1,Xi hr2];rw [Xi hr2] at hr5;exact (st_next hi hr5.symm).symm⟩) 0 J (J) ⟨J,J,J,J,trivial⟩;show m.code.length - (pos+1)<m.code.length - pos;omega
    ·intro c5;refine Yd (Yc (Z5 (Yb (Zt (Zc (Zb (Za J (Zd J) ?_)))))));refine Za J (Yn J J ?_) ?_;omega;refine Za J (Zf J) (Ze ?_);refine Z1 (⟨n+1,m,.slice p1 m.params.length e1,.slice p2 m.code.length e2,.slice p3 m.handlers.length e3,.slice p4 m.frames.length e4,kq⟩) ?_ (⟨by show n+1≤_;omega,hr2,lim2_next hI3 hr3 (by have h9:=hbd.2.2.2.1;omega),hr4.srt,by show V3 c (n+1)=_;have h9:=hr5;rw [Xi hr2,show pos=m.code.length by omega] at h9;exact grant_next hmn hI5.out h9.symm⟩) 0 J (J) ⟨J,J,J,trivial⟩;show c.methods.length - (n+1)<c.methods.length - n;omega
  ·intro c2;refine Yd (Yc (Z5 (Yb (Zc (Zg (Zb (Za J (Zd J) (Za J (Zw J) (Za J (Zh (ff J) J) (Za J (Zj (t1 J) J (Zi 0 J J)) (Za J (Zf J) (Za J (Zf J) (Za J (Zf J) (Za J (Zf J) (Ze (Zc (Zr (T0 (Res_4 J J J J J) ?_))))))))))))))))));exact ⟨k0.gr,k0.gv,0,0,0,J,.inr (.inr ⟨c1,J,J,J,hI4.out,_,by rw [show c.methods.length=n by omega];exact hI5.out,fun x=>Iff.rfl⟩),Asr.fst _ _,lim2_le hI3 (by omega)⟩
end
namespace E
open Go Go.RowKit
def RxZ (b:Nat) (w:World) (Rin:Asr) (ok:Value→List Value→Asr→Prop) (pc:List PanicEntry) (may:Prop):Ending→World→Prop:=fun e w' =>
 (∃ v cs' R',e=.returned v∧ok v cs' R'∧Sat w (b::Rin.S) [(b,cs')] R' w')∨(may∧e=.panicked pc∧Fr (b::Rin.S) w w')
def RxP (P:Program) (f:FuncId) (args:Array Value) (u:World) (b:Nat) (cs:List Value) (Rin:Asr) (ok:Value→List Value→Asr→Prop) (pc:List PanicEntry) (may:Prop):Prop :=
 ∀ w,Below u.heap.size u w→(∀ x ∈ b::Rin.S,u.heap.size≤x)→Sat w (b::Rin.S) [(b,cs)] Rin w→Calls P f args w (RxZ b w Rin ok pc may)
structure WX (P:Program) (n:Nat) (E:Env) (w0:World) (F:List Nat) (pc:List PanicEntry) (fn:Func) (Z:Ending→World→Prop) (κ:List Kf):Prop where
 go:∀ w,Fr F w0 w→∀ a,Ag n a E→den P fn Z κ (.panic pc) a w
section
variable {P:Program} {n:Nat} {E:Env} {w0:World} {F:List Nat} {H:Hp} {R:Asr} {fn:Func} {Z:Ending→World→Prop} {κ:List Kf} {pc:List PanicEntry}
theorem Wh {k:Kf} (h:WX P n E w0 F pc fn Z κ):WX P n E w0 F pc fn Z (k::κ) :=
 ⟨fun w hb a ha=>by
  have:=h.go w hb a ha;obtain ⟨tag,_,_,_⟩:=k
  match tag with
  | 0=>exact this
  | 1=>exact this
  | _+2=>exact this⟩
theorem Wm {w:World} {b:Nat} {Rin:Asr} {ok:Value→List Value→Asr→Prop} {may:Prop} (h:may):WX P n E w (b::Rin.S) pc fn (RxZ b w Rin ok pc may) [] :=
 ⟨fun _ hb _ ha=>⟨ha.no,.inr ⟨h,rfl,hb⟩⟩⟩
theorem WX_of (h:WX P n E w0 F pc fn Z κ):WQ P n (.panic pc) E w0 F H R fn Z κ :=
 ⟨fun w hs a ha=>h.go w hs.low a ha⟩
theorem W5 {w:World} {b:Nat} {cs':List Value} {Rin:Asr} {ok:Value→List Value→Asr→Prop} {may:Prop} (hr:fn.results=#[]) (i:Nat) (hp:H[i]?=some (b,cs')) (h:ok (.tuple #[]) cs' R) :
  WQ P n .normal E w (b::Rin.S) H R fn (RxZ b w Rin ok pc may) [] :=
 WQ_end0 hr fun _ hs=>.inl ⟨_,cs',R,rfl,h,hs.only hp⟩
theorem Rx_end0r {w:World} {b:Nat} {cs':List Value} {Rin:Asr} {ok:Value→List Value→Asr→Prop} {may:Prop} (hr:fn.results=#[]) (i:Nat) (hp:H[i]?=some (b,cs')) (h:ok (.tuple #[]) cs' R) :
  WQ P n .ret E w (b::Rin.S) H R fn (RxZ b w Rin ok pc may) [] :=
 WQ_end0r hr fun _ hs=>.inl ⟨_,cs',R,rfl,h,hs.only hp⟩
theorem Rx_endR {w:World} {b:Nat} {cs':List Value} {Rin:Asr} {ok:Value→List Value→Asr→Prop} {may:Prop} {v:Value} (hr:Res P n E w (b::Rin.S) H R fn v) (i:Nat) (hp:H[i]?=some (b,cs')) (h:ok v cs' R) :
  WQ P n .ret E w (b::Rin.S) H R fn (RxZ b w Rin ok pc may) [] :=
 WQ_res' hr fun _ hs=>.inl ⟨v,cs',R,rfl,h,hs.only hp⟩
theorem Rx_dies {w:World} {b:Nat} {Rin:Asr} {ok:Value→List Value→Asr→Prop} {may:Prop} (h:may):WQ P n (.panic pc) E w (b::Rin.S) H R fn (RxZ b w Rin ok pc may) [] :=
 WX_of (Wm h)
theorem WL_callX {all:Array Oper} {l:List Oper} {d f b:Nat} {xs:List Operand} {vs:List Value} {ts:Array TypeId} {t:TypeId} {p:String} {e:Array Edge} {cs:List Value} {u:World} {Rin:Asr} {ok:Value→List Value→Asr→Prop} {may:Prop} (hf:IsFn P f)
  (hd:Nat.blt d n=true) (hx:args E xs=some vs) (i:Nat) (hp:H[i]?=some (b,cs)) (hu:Below u.heap.size u w0) (hF:∀ x ∈ F,u.heap.size≤x) (hc:RxP P f vs.toArray u b cs Rin ok pc may)
  (hn:may→WX P n E w0 F pc fn Z κ)
  (h:∀ v cs' R',ok v cs' R'→WL P n all l ((d,v)::E) w0 F (H.set i (b,cs')) (R'.and R) fn Z κ) :
  WL P n all (⟨some d,.call ⟨.value (.func f),xs.toArray,ts⟩,t,p,e,none⟩::l) E w0 F H (Rin.and R) fn Z κ :=
 ⟨fun w hs a ha=>wpList_plain rfl fun K hK=>by
  unfold Oper.wp;rw [V8 rfl hf,Ve ha xs vs hx];refine Calls.mono (hc w (Xp hu hF hs) (ru_F hu hF hs hp) (rk_now hs hp)) ?_;rintro e w' (⟨v,cs',R',rfl,hok,hw⟩ | ⟨hm,rfl,hb⟩)
  ·exact hK _ _ ((h v cs' R' hok).go w' (Oz hs hp hw) _ (ha.put hd _))
  ·refine (hn hm).go w' (hs.low.trans hb fun x hx=>?_) _ ha;rcases List.mem_cons.1 hx with rfl | hx
   ·exact hs.hi _ (List.mem_of_getElem? hp)
   ·exact (hs.rhi x (List.mem_append_left _ hx)).1⟩
theorem Y8 {all:Array Oper} {l:List Oper} {d f b:Nat} {xs:List Operand} {vs:List Value} {ts:Array TypeId} {t:TypeId} {p:String} {e:Array Edge} {cs:List Value} {u:World} {ok:Value→List Value→Asr→Prop} {may:Prop} (hf:IsFn P f)
  (hd:Nat.blt d n=true) (hx:args E xs=some vs) (i:Nat) (hp:H[i]?=some (b,cs)) (hu:Below u.heap.size u w0) (hF:∀ x ∈ F,u.heap.size≤x) (hc:RxP P f vs.toArray u b cs R ok pc may)
  (hn:may→WX P n E w0 F pc fn Z κ)
  (h:∀ v cs' R',ok v cs' R'→WL P n all l ((d,v)::E) w0 F (H.set i (b,cs')) R' fn Z κ) :
  WL P n all (⟨some d,.call ⟨.value (.func f),xs.toArray,ts⟩,t,p,e,none⟩::l) E w0 F H R fn Z κ :=
 Zz (Asr.addNone R) (WL_callX hf hd hx i hp hu hF hc hn fun v cs' R' hok=>Zz (Asr.fst R' Asr.none) (h v cs' R' hok))
end
theorem app_empty {P:Program} {w:World} {t ty e:TypeId} {i:TypeInfo} {z:Value} (ht:P.underlying t=some (.slice e)) (hi:P.info? e=some i) (hz:i.zero=some z) (p:Option Addr) {a:Addr} {m c:Nat} {news:List Value} (hl:news.length=m*i.size) (hnews:∀ j v,news[j]?=some v→w.cell? (a.add j)=some v) (hm:0<m) (h63:m≤maxLen) (hb:m*i.bytes≤140737488355328) :
  (Builtin.append_ #[t,t] ty #[.slice p 0 0,.slice (some a) m c]).run P w=(Builtin.append_ #[t,t] ty #[.slice none 0 0,.slice (some a) m c]).run P w:=by
 have h63':m≤9223372036854775807:=by simp only [maxLen] at h63;omega
 cases p with
 | none=>rfl
 | some b =>
  rw [run_append_nil w t ty e i z ht hi hz a m c news hl hnews hm (by omega) (by omega)];rw [run_append_grow w t ty e i z ht hi hz b 0 0 [] (by simp) (by simp) a m c news hl hnews (by omega) (by omega) (by rw [Nat.zero_add,nextslicecap_zero hm];omega)];simp
theorem WL_app0 {P:Program} {n:Nat} {E:Env} {w0:World} {F:List Nat} {H:Hp} {R:Asr} {fn:Func} {Z:Ending→World→Prop} {κ:List Kf} {all:Array Oper} {l:List Oper} {d:Nat} {t ty e size bytes:Nat} {z:Value} {q:Option Addr} {x y:Operand} {p:String} {g:Array Edge} {m c b o:Nat} {news:List Value} (hd:Nat.blt d n=true) (ht:TA P t e size bytes z) (hx:ev E x=some (.slice q 0 0))
  (hy:ev E y=some (.slice (some ⟨b,o,none⟩) m c)) (hc:Row w0 F H R b o news) (hl:news.length=m*size) (h1:news.all (·.oneCell')=true) (hm:0<m) (h63:m≤maxLen) (hbytes:m*bytes≤140737488355328)
  (h:∀ v',WL P n all l ((d,v')::E) w0 F H (Asr.and (Y0 e size v' m news) R) fn Z κ) :
  WL P n all (⟨some d,.call ⟨.builtin .append,#[x,y],#[t,t]⟩,ty,p,g,none⟩::l) E w0 F H R fn Z κ :=
 ⟨fun w hs a ha=>wpList_plain rfl fun K hK=>by
  obtain ⟨i,hi,hz,hsz,hb⟩:=info_parts ht.inf;have hnews:∀ j u,news[j]?=some u→w.cell? ((⟨b,o,none⟩:Addr).add j)=some u:=fun j u hj=>by rw [Addr.add_lit];exact hc.go w hs j u hj
  have hown:w.ownsRow 0 e size (.slice none 0 0) 0 []:=World.ownsRow_nil w 0 e size;have hs':Sat w0 F H ((Y0 e size (.slice none 0 0) 0 []).and R) w:=⟨hs.low,hs.own,hs.hi,hs.apart,⟨World.ownsRow_nil w 0 e size,hs.res,by simp [Y0,Value.ownBlock]⟩,hs.rhi,hs.rapart⟩;have h63':0+m≤maxLen:=by rw [Nat.zero_add];exact h63
  have hby':(0+m)*bytes≤140737488355328:=by rw [Nat.zero_add];exact hbytes
  obtain ⟨v',w',hr,ho,hg,_⟩:=run_append_own w 0 t ty e i z size bytes ht.sl hi hz hsz hb ht.zs ht.pos (.slice none 0 0) 0 [] hown ⟨b,o,none⟩ m c news hl hnews (Pj h1) h63' hby' (Nat.zero_le _);have hw:=Le ht hown hl hnews (Pj h1) h63' hby' hr
  have he:(execOp a.eval ⟨some d,.call ⟨.builtin .append,#[x,y],#[t,t]⟩,ty,p,g,none⟩).run P w=.ok (.value v') w':=by
   have h9:=app_empty (w:=w) (ty:=ty) (c:=c) ht.sl hi hz q (by rw [hsz];exact hl) hnews hm h63 (by rw [hb];exact hbytes);rw [← h9] at hr;simp only [execOp,resolve,invoke,builtin];simp [ha.eval hx,ha.eval hy,hr]
  unfold Oper.wp;rw [he];rw [Nat.zero_add,List.nil_append] at ho;exact hK _ _ ((h v').go w' (hs'.grown ho hg hw (owns_lt ho)) _ (ha.put hd v'))⟩
end E
section
open Go Go.RowKit At E
def Vp (n pos:Int):List PanicEntry:=[{ v:=.iface 143 (.agg #[.int .i64 n,.int .i64 pos]),recovered:=false }]
def isZ:Value→Bool
 | .slice _ n c=>Nat.beq n 0&&Nat.beq c 0
 | _=>false
theorem isZ_slice {v:Value} (h:isZ v=true):∃ p,v=.slice p 0 0:=by
 cases v<;>try (cases h)
 rename_i p n c
 simp only [isZ,Bool.and_eq_true,Nat.beq_eq] at h;obtain ⟨rfl,rfl⟩:=h;exact ⟨p,J⟩
def lsA (v:Value) (l:List Ty):Asr:=bif isZ v then ⟨[],fun _=>l=[],fun _ _ h _=>h⟩ else T4 v l
theorem lsA_z {v:Value} {l:List Ty} (h:isZ v=true):lsA v l=⟨[],fun _=>l=[],fun _ _ h _=>h⟩:=by unfold lsA;rw [h];rfl
theorem lsA_n {v:Value} {l:List Ty} (h:isZ v=false):lsA v l=T4 v l:=by unfold lsA;rw [h];rfl
theorem tysA_form {w:World} {v:Value} {l:List Ty} (h:(T4 v l).A w):∃ p c,v=.slice p l.length c∧(l.length≤c∧c≤9223372036854775807)∧(0<l.length→∃ g,p=some ⟨g,0,none⟩):=by
 rcases h.2 with ⟨hv,hn⟩ | ⟨g,cap,cur,hv,_,_,hnc,hm,_⟩
 ·exact ⟨none,0,by rw [hv,hn],⟨by omega,by omega⟩,fun h=>by omega⟩
 ·exact ⟨_,cap,hv,⟨hnc,by simp only [maxLen] at hm;omega⟩,fun _=>⟨g,rfl⟩⟩
theorem T6 {w:World} {v:Value} {l:List Ty} (h:(lsA v l).A w):∃ p c,v=.slice p l.length c∧(l.length≤c∧c≤9223372036854775807)∧(0<l.length→∃ g,p=some ⟨g,0,none⟩):=by
 cases hz:isZ v with
 | true =>
  rw [lsA_z hz] at h;obtain ⟨p,rfl⟩:=isZ_slice hz;cases h;exact ⟨p,0,J,⟨Nat.le_refl _,by omega⟩,fun h=>by cases h⟩
 | false=>rw [lsA_n hz] at h;exact tysA_form h
theorem lsA_pos {v:Value} {l:List Ty} {p:Option Addr} {n c:Nat} (hv:v=.slice p n c) (h:0<c):lsA v l=T4 v l:=lsA_n (by
 subst hv;cases c with
 | zero=>omega
 | succ c=>cases n<;>rfl)
theorem Mr (v:Value) (l:List Ty):(T4 v l).Imp (lsA v l):=by
 cases hz:isZ v with
 | false=>rw [lsA_n hz];exact .refl _
 | true =>
  rw [lsA_z hz];obtain ⟨p,rfl⟩:=isZ_slice hz;refine ⟨fun _ h=>(List.not_mem_nil h).elim,fun w h=>?_⟩;show l=[];obtain ⟨_,_,hv,_⟩:=tysA_form h;cases hv':l.length with
  | zero=>exact List.eq_nil_of_length_eq_zero hv'
  | succ n=>rw [hv'] at hv;cases hv
theorem tysA_take {p:Option Addr} {c:Nat} {l:List Ty} (k:Nat) (hk:k≤l.length):(T4 (.slice p l.length c) l).Imp (T4 (.slice p k c) (l.take k)):=by
 refine ⟨fun _ h=>by cases p<;>exact h,fun w h=>?_⟩;have hlen:(l.take k).length=k:=by rw [List.length_take];omega
 have hfl:((l.take k).flatMap tyV)=(l.flatMap tyV).take (k*2):=by
  have h1:l.flatMap tyV=(l.take k).flatMap tyV++(l.drop k).flatMap tyV:=by rw [← List.flatMap_append,List.take_append_drop]
  have h2:((l.take k).flatMap tyV).length=k*2:=by rw [Ox,hlen]
  rw [h1,← h2];exact List.take_left.symm
 refine ⟨by rw [Ox],?_⟩;rw [hlen];rcases h.2 with ⟨hv,hn⟩ | ⟨g,cap,cur,hv,h0,hg,hnc,hm,hcs,ht⟩
 ·have h0:k=0:=by omega
  subst h0;rw [hn] at hv;exact .inl ⟨hv,J⟩
 ·obtain ⟨rfl, -,rfl⟩:p=some ⟨g,0,none⟩∧l.length=l.length∧c=cap:=by injection hv with a1 a2 a3;exact ⟨a1,a2,a3⟩
  refine .inr ⟨g,c,cur,J,h0,hg,by omega,hm,hcs,?_⟩;rw [hfl,← ht,List.take_take];congr 1;omega
theorem lsA_take {p:Option Addr} {c:Nat} {l:List Ty} (k:Nat) (hk:k<l.length) (hc:l.length≤c):(lsA (.slice p l.length c) l).Imp (lsA (.slice p k c) (l.take k)):=by
 rw [lsA_pos rfl (by omega:0<c),lsA_pos rfl (by omega:0<c)];exact tysA_take k (by omega)
theorem tysA_cell {w:World} {g n c i j:Nat} {l:List Ty} {t:Ty} {v:Value} (h:(T4 (.slice (some ⟨g,0,none⟩) n c) l).A w) (hi:l[i]?=some t) (hj:(tyV t)[j]?=some v):w.cell? ⟨g,0+i*2+j,none⟩=some v:=by
 have h1:=World.ownsRow.cells h (g:=g) rfl (i*2+j) v (Mc tyV 2 l (fun _ _=>rfl) i j t v hi hj);rw [Addr.add_lit,Nat.zero_add] at h1;rw [Nat.zero_add];exact h1
theorem row_ls {w0:World} {F:List Nat} {H:Hp} {R:Asr} {g n c i:Nat} {l:List Ty} {t:Ty} (h:∀ w,Sat w0 F H R w→(lsA (.slice (some ⟨g,0,none⟩) n c) l).A w) (hi:l[i]?=some t):Row w0 F H R g (0+i*2) (tyV t) :=
 ⟨fun w hs j v hj=>by
  have h1:=h w hs;cases hz:isZ (.slice (some ⟨g,0,none⟩) n c) with
  | true=>rw [lsA_z hz] at h1;cases h1;cases hi
  | false =>
   rw [lsA_n hz] at h1;obtain ⟨_,_,hv,_⟩:=tysA_form h1;injection hv with a1 a2 a3
   subst a2;exact tysA_cell h1 hi hj⟩
theorem WL_appZ {n:Nat} {E:Env} {w0:World} {F:List Nat} {H:Hp} {R:Asr} {fn:Func} {Z:Ending→World→Prop} {κ:List Kf} {all:Array Oper} {l:List Oper} {d:Nat} {ty:TypeId} {v:Value} {x y:Operand} {p:String} {g:Array Edge} {c b o:Nat} {xs:List Ty} {t:Ty} {bytes:Nat} {z:Value} (hd:Nat.blt d n=true) (ht:TA Tryz.prog 69 71 2 bytes z) (hby:bytes≤100) (hx:ev E x=some v)
  (hy:ev E y=some (.slice (some ⟨b,o,none⟩) 1 c)) (hc:Row w0 F H ((lsA v xs).and R) b o (tyV t)) (hl:xs.length≤2000000)
  (h:∀ v',WL Tryz.prog n all l ((d,v')::E) w0 F H ((lsA v' (xs++[t])).and R) fn Z κ) :
  WL Tryz.prog n all (⟨some d,.call ⟨.builtin .append,#[x,y],#[69,69]⟩,ty,p,g,none⟩::l) E w0 F H ((lsA v xs).and R) fn Z κ:=by
 have hone:(tyV t).all (·.oneCell')=true:=rfl;cases hz:isZ v with
 | true =>
  obtain ⟨q,rfl⟩:=isZ_slice hz;refine Xc (p:=xs=[]) (fun w hs=>by have h1:=hs.res.1;rw [lsA_z hz] at h1;exact h1) ?_;rintro rfl;have hi:((lsA (.slice q 0 0) []).and R).Imp R:=Asr.snd _ _;refine WL_app0 hd ht hx hy hc J hone (by omega) (by simp [maxLen]) (by omega) fun v'=>?_;refine Zz ?_ (h v');refine (Asr.Imp.right hi).trans (Asr.Imp.left ?_);exact Mr v' [t]
 | false =>
  rw [lsA_n hz] at hc ⊢;have hm:(xs.length+1)*bytes≤140737488355328:=Nat.le_trans (Nat.mul_le_mul (by omega:xs.length+1≤2000001) hby) (by decide);refine Ww (k:=xs.length) (xs:=xs.flatMap tyV) hd ht hx hy hc J hone (by simp [maxLen];omega) hm fun v'=>?_;refine Zz ?_ (h v');refine Asr.Imp.left ?_
  have he:Y0 71 2 v' (xs.length+1) (xs.flatMap tyV++tyV t)=T4 v' (xs++[t]):=by
   unfold T4;rw [List.flatMap_append,List.length_append];simp
  rw [he];exact Mr v' (xs++[t])
end
end Go.Proofs.YtpofmnfkdkmieaaGreat
