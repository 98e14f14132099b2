/- What is proved here: rules for functions that leave the world -/
import Derived.Test.YtpofmnfkdkmieaaGreatQ41
import Derived.Shelf.SlSortCmp.WholeK
set_option linter.unusedVariables false
set_option linter.unusedSimpArgs false
namespace Go.Proofs.YtpofmnfkdkmieaaGreat
namespace E
open Go Go.RowKit
structure XC (P:Program) (n:Nat) (c:Code) (E:Env) (w0:World) (F:List Nat) (H:Hp) (R:Asr) (fn:Func) (Z:Ending→World→Prop) (κ:List Kf):Prop where
 go:∀ a,Ag n a E→c.wp P (den P fn Z κ) a w0
structure XL (P:Program) (n:Nat) (all:Array Oper) (l:List Oper) (E:Env) (w0:World) (F:List Nat) (H:Hp) (R:Asr) (fn:Func) (Z:Ending→World→Prop) (κ:List Kf):Prop where
 go:∀ a,Ag n a E→wpList P all (den P fn Z κ) l a w0
structure XQ (P:Program) (n:Nat) (e:Exit) (E:Env) (w0:World) (F:List Nat) (H:Hp) (R:Asr) (fn:Func) (Z:Ending→World→Prop) (κ:List Kf):Prop where
 go:∀ a,Ag n a E→den P fn Z κ e a w0
def Exact (P:Program) (f:FuncId) (args:Array Value) (w:World) (v:Value):Prop:=Calls P f args w fun e w'=>e=.returned v∧w'=w
section
variable {P:Program} {n:Nat} {E:Env} {w0:World} {F:List Nat} {H:Hp} {R:Asr} {fn:Func} {Z:Ending→World→Prop} {κ:List Kf}
theorem Vq {x y:Code} (h:XC P n x E w0 F H R fn Z (⟨0,0,y,fun _ _=>True⟩::κ)):XC P n (.seq x y) E w0 F H R fn Z κ:=⟨fun a ha=>wp_seq (h.go a ha)⟩
theorem XC_block {id:Nat} {c:Code} (h:XC P n c E w0 F H R fn Z (⟨1,id,.skip,fun _ _=>True⟩::κ)):XC P n (.block id c) E w0 F H R fn Z κ:=⟨fun a ha=>wp_block (h.go a ha)⟩
theorem XC_exit {id:Nat} (h:XQ P n (.exit id) E w0 F H R fn Z κ):XC P n (.exit id) E w0 F H R fn Z κ:=⟨fun a ha=>wp_exit (h.go a ha)⟩
theorem XC_if {s:Nat} {x y:Code} {t:Bool} (hc:look E s=some (.bool t)) (ht:t=true→XC P n x ((s,.bool true)::E) w0 F H R fn Z κ) (hf:t=false→XC P n y ((s,.bool false)::E) w0 F H R fn Z κ) :
  XC P n (.cond (.tmp s) x y) E w0 F H R fn Z κ :=
 ⟨fun a ha=>wp_cond_split (ha.eval (x:=.tmp s) hc) (fun h=>(ht h).go a (ha.known (by rw [hc,h]))) (fun h=>(hf h).go a (ha.known (by rw [hc,h])))⟩
theorem Wu {id:Nat} {l:List Oper} (h:XL P n l.toArray l E w0 F H R fn Z κ):XC P n (.region id l.toArray false) E w0 F H R fn Z κ:=⟨fun a ha=>wp_region_lit (h.go a ha)⟩
theorem XC_ret (h:XQ P n .ret E w0 F H R fn Z κ):XC P n .ret E w0 F H R fn Z κ:=⟨fun a ha=>wp_ret (h.go a ha)⟩
theorem XC_skip (h:XQ P n .normal E w0 F H R fn Z κ):XC P n .skip E w0 F H R fn Z κ:=⟨fun a ha=>wp_skip (h.go a ha)⟩
theorem XC_sub {c:Code} {E':Env} (hs:Sub E' E) (h:XC P n c E' w0 F H R fn Z κ):XC P n c E w0 F H R fn Z κ:=⟨fun a ha=>h.go a (ha.sub hs)⟩
theorem XC_loop {X:Type} {n:Nat} {c:Code} {fn:Func} {Z:Ending→World→Prop} {κ:List Kf} (E:X→Env) (w0:World) (F:List Nat) (H:X→Hp) (R:X→Asr) (I:X→Prop) (m:X→Nat) (x0:X) (hI:I x0)
  (h:∀ x,I x→XC P n c (E x) w0 F (H x) (R x) fn Z (⟨2,0,.skip,fun a w=>∃ y,m y<m x∧I y∧w=w0∧Ag n a (E y)⟩::κ)):XC P n (.loop c) (E x0) w0 F (H x0) (R x0) fn Z κ:=by
 refine ⟨?_⟩;intro a ha b k cs
 have key:∀ N x a,m x=N→I x→Ag n a (E x) →
   ∃ e a' w',den P fn Z κ e a' w'∧Arrives P (lone (b.at a (.code c::.inLoop c::k)) cs w0) b k cs e a' w':=by
  intro N;induction N using Nat.strongRecOn with
  | _ N ih =>
   intro x a hN hIx ha;obtain ⟨e,a₁,w₁,hq,harr⟩:=(h x hIx).go a ha b (.inLoop c::k) cs;cases e with
   | normal =>
    obtain ⟨y,hlt,hIy,rfl,ha₁⟩:=hq;obtain ⟨e₂,a₂,w₂,hq₂,harr₂⟩:=ih (m y) (hN ▸ hlt) y a₁ rfl hIy ha₁;exact ⟨e₂,a₂,w₂,hq₂,.of_steps (Steps.trans harr (.one step_inLoop)) harr₂⟩
   | exit id=>exact ⟨_,a₁,w₁,hq,.pass (x:=.inLoop c) rfl (fun _ _=>.inl (by simp)) harr⟩
   | goto l=>exact ⟨_,a₁,w₁,hq,.pass (x:=.inLoop c) rfl (fun _ _=>.inl (by simp)) harr⟩
   | ret=>exact ⟨_,a₁,w₁,hq,.pass (x:=.inLoop c) rfl (fun _ _=>.inl (by simp)) harr⟩
   | panic ch=>exact ⟨_,a₁,w₁,hq,.pass (x:=.inLoop c) rfl (fun _ _=>.inl (by simp)) harr⟩
   | outgrown=>exact ⟨_,a₁,w₁,hq,.pass (x:=.inLoop c) rfl (fun _ _=>.inl (by simp)) harr⟩
 obtain ⟨e,a',w',hq,harr⟩:=key _ x0 a rfl hI ha;exact ⟨e,a',w',hq,.of_steps (.one step_loop) harr⟩
theorem XL_call {all:Array Oper} {l:List Oper} {d f:Nat} {xs:List Operand} {vs:List Value} {ts:Array TypeId} {t:TypeId} {p:String} {e:Array Edge} {v:Value} (hf:IsFn P f)
  (hd:Nat.blt d n=true) (hx:args E xs=some vs) (hc:∀ w,w=w0→Exact P f vs.toArray w v) (h:XL P n all l ((d,v)::E) w0 F H R fn Z κ) :
  XL P n all (⟨some d,.call ⟨.value (.func f),xs.toArray,ts⟩,t,p,e,none⟩::l) E w0 F H R fn Z κ :=
 ⟨fun a ha=>wpList_plain rfl fun K hK=>by
  unfold Oper.wp;rw [V8 rfl hf,Ve ha xs vs hx];refine (hc w0 J).mono ?_;rintro e w' ⟨rfl,rfl⟩;exact hK _ _ (h.go _ (ha.put hd v))⟩
theorem U3 {all:Array Oper} (h:XQ P n .normal E w0 F H R fn Z κ):XL P n all [] E w0 F H R fn Z κ:=⟨fun a ha=>wpList_nil (h.go a ha)⟩
theorem Vo {all:Array Oper} {l:List Oper} {d:Nat} {o:Op} {t:TypeId} {p:String} {x:Array Edge} {v:Value} (hd:Nat.blt d n=true) (he:Ex P n E w0 [] [] Asr.none o v)
  (h:XL P n all l ((d,v)::E) w0 F H R fn Z κ):XL P n all (⟨some d,o,t,p,x,none⟩::l) E w0 F H R fn Z κ :=
 ⟨fun a ha=>wpList_plain rfl fun K hK=>by
  unfold Oper.wp;rw [he.go w0 (Sat.first w0 []) a ha];exact hK _ _ (h.go _ (ha.put hd v))⟩
theorem XQ_again {X:Type} {n:Nat} {E₀:Env} {w0:World} {F:List Nat} {H₀:Hp} {R₀:Asr} {fn:Func} {Z:Ending→World→Prop} {κ:List Kf} {E:X→Env} {I:X→Prop} {m:X→Nat} {x:X} (y:X) (hm:m y<m x) (hI:I y)
  (j:Nat) (_:j=j) (_:j=j) (hs:Sub (E y) E₀):XQ P n .normal E₀ w0 F H₀ R₀ fn Z (⟨2,0,.skip,fun a w=>∃ y,m y<m x∧I y∧w=w0∧Ag n a (E y)⟩::κ) :=
 ⟨fun _ ha=>⟨y,hm,hI,rfl,ha.sub hs⟩⟩
theorem XQ_bnext {id:Nat} {x:Code} {i:Act→World→Prop} (h:XQ P n .normal E w0 F H R fn Z κ):XQ P n .normal E w0 F H R fn Z (⟨1,id,x,i⟩::κ):=⟨h.go⟩
theorem XQ_exit {x:Code} {i:Act→World→Prop} {id d:Nat} (h:XQ P n (.exit id) E w0 F H R fn Z κ):XQ P n (.exit id) E w0 F H R fn Z (⟨0,d,x,i⟩::κ):=⟨h.go⟩
theorem XQ_here {id:Nat} {x:Code} {i:Act→World→Prop} (h:XQ P n .normal E w0 F H R fn Z κ):XQ P n (.exit id) E w0 F H R fn Z (⟨1,id,x,i⟩::κ) :=
 ⟨fun a ha=>by show (if id=id then _ else _);rw [if_pos rfl];exact h.go a ha⟩
theorem XQ_lexit {x:Code} {i:Act→World→Prop} {id d:Nat} (h:XQ P n (.exit id) E w0 F H R fn Z κ):XQ P n (.exit id) E w0 F H R fn Z (⟨2,d,x,i⟩::κ):=⟨h.go⟩
theorem W3 {x:Code} {i:Act→World→Prop} {d:Nat} (h:XC P n x E w0 F H R fn Z κ):XQ P n .normal E w0 F H R fn Z (⟨0,d,x,i⟩::κ):=⟨h.go⟩
theorem XQ_ret {k:Kf} (h:XQ P n .ret E w0 F H R fn Z κ):XQ P n .ret E w0 F H R fn Z (k::κ) :=
 ⟨fun a ha=>by
  have:=h.go a ha;obtain ⟨tag,_,_,_⟩:=k
  match tag with
  | 0=>exact this
  | 1=>exact this
  | _+2=>exact this⟩
theorem X_end1 {t:Tmp} {v v':Value} (hr:fn.results=#[.tmp t]) (hv:look E t=some v) (h:v=v') :
  XQ P n .ret E w0 F H R fn (fun e w'=>e=.returned v'∧w'=w0) [] :=
 ⟨fun a ha=>by
  refine bodyPost_ret (?_:_=Result.ok v w0) ha.no ⟨by rw [h],J⟩;rw [results_tmp hr];exact congrArg (fun u=>Result.ok u w0) (ha.eval (x:=.tmp t) hv)⟩
theorem xopens {f:FuncId} {fn:Func} {c:Code} {args:List Value} {w:World} {Z:Ending→World→Prop} {n:Nat}
  (hf:P.funcs[f]?=some fn) (hb:fn.body=some c) (hn:fn.ntmps=n)
  (h:XC P n c (Nb 0 args) w [] [] Asr.none fn Z []):Calls P f args.toArray w Z:=by
 refine calls_of_wp hf hb (h.go _ ⟨?_,J,?_⟩)
 ·simp only [Array.size_append,Array.size_replicate,hn];omega
 ·intro i v hv;have h1:args.toArray[i]?=some v:=by have:=(Q6 args 0 i v hv).2;simpa using this
  have hi:i<args.toArray.size:=by
   rcases Nat.lt_or_ge i args.toArray.size with h' | h'
   ·exact h'
   ·rw [Array.getElem?_eq_none h'] at h1;cases h1
  rw [Array.getElem?_append_left hi];exact h1
theorem gt_is (i j:ByteArray):(!(Op.bytesLess i.toList j.toList || i.toList==j.toList))=At.ltS j i:=by
 unfold At.ltS
 have no:∀ {a b:List UInt8},Op.bytesLess a b=true→Op.bytesLess b a=false:=fun {a b} h=>by
  cases e:Op.bytesLess b a with
  | false=>rfl
  | true =>
   have:=At.bl_trans _ _ _ h e;rw [At.bl_irrefl] at this;cases this
 rcases At.bl_tri i.toList j.toList with h | h | h
 ·rw [h,no h];rfl
 ·rw [h,At.bl_irrefl];simp
 ·have h3:¬ i.toList=j.toList:=fun e=>by rw [e,At.bl_irrefl] at h;cases h
  rw [h,no h];simp [h3]
theorem Ex_gtrS {t t':TypeId} {x y:Operand} {i j:ByteArray} (hx:ev E x=some (.string i)) (hy:ev E y=some (.string j)):Ex P n E w0 F H R (.binOp .gtr t x y t') (.bool (At.ltS j i)) :=
 Ex_binS hx hy (fun w=>by simp only [Op.stringOp];rw [gt_is];rfl) (by simp [binOp])
end
end E
section
open Go Go.RowKit At E
def M9 (a b:ByteArray):Int:=if ltS a b then -1 else if ltS b a then 1 else 0
theorem nanS_x (s:ByteArray) (w:World):Exact Tryz.prog 268 #[.string s] w (.bool false):=by
 refine xopens (args:=[.string s]) Tryz.func268 J Tryz.ntmps268 ?_;refine Vq (Wu (Vo J (Zf J) (U3 (W3 (Vq (Wu (Vo J (Zd J) (Vo J (Zd J) (Vo J (S5 J J) (Vo J (Zf J) (U3 (W3 (XC_ret (X_end1 J J ?_))))))))))))));simp [eqS]
theorem cmpS_x (a b:ByteArray) (w:World):Exact Tryz.prog 168 #[.string a,.string b] w (.int .i64 (M9 a b)):=by
 refine xopens (args:=[.string a,.string b]) Tryz.func168 J Tryz.ntmps168 ?_;refine Vq (Wu (Vo J (Zf J) (U3 (W3 (Vq (Wu (Vo J (Zd J) (XL_call fn268 J J (fun w _=>nanS_x _ w) ?_))))))));refine Vo J (Zf J) (U3 (W3 (Vq (Wu (Vo J (Zd J) (XL_call fn268 J J (fun w _=>nanS_x _ w) ?_))))));refine Vo J (Zf J) (U3 (W3 (Vq (Vq (Wu (Vo J (Zd J) (U3 (W3 (XC_if J ?_ ?_)))))))))
 ·intro c1;cases c1
 ·intro c1;refine XC_skip (W3 (Vq (Vq (Wu (Vo J (Zd J) (U3 (W3 (XC_if J ?_ ?_))))))))
  ·intro c3;cases c3
  ·intro c3;refine XC_skip (W3 (Vq (Vq (Wu (Vo J (Zd J) (Vo J (Zd J) (Vo J (Ex_lssS J J) (U3 (W3 (XC_if J ?_ ?_))))))))))
   ·intro c4;refine Vq (Wu (Vo J (Zf J) (U3 (W3 (XC_ret (XQ_ret (X_end1 J J ?_)))))))
    (unfold M9;simp_all)
   ·intro c4;refine XC_skip (W3 (Vq (Vq (Wu (Vo J (Zd J) (Vo J (Zd J) (Vo J (Ex_gtrS J J) (U3 (W3 (XC_if J ?_ ?_))))))))))
    ·intro c5;refine Vq (Wu (Vo J (Zf J) (U3 (W3 (XC_ret (XQ_ret (X_end1 J J ?_)))))))
     (unfold M9;simp_all)
    ·intro c5;refine XC_skip (W3 (Vq (Wu (Vo J (Zf J) (U3 (W3 (XC_ret (X_end1 J J ?_))))))))
     (unfold M9;simp_all)
def orI (s t:Int) (i:Nat):Int:=if i=0 then s else t
theorem orI_l1 {s t:Int} {i:Nat} (hi:i<2) (hI:∀ j<i,orI s t j=0) (h:¬ orI s t i=0):(.int .i64 (orI s t i):Value)=.int .i64 (if s=0 then t else s):=by
 by_cases h0:i=0
 ·subst h0;rw [if_neg (show ¬ s=0 from h)];rfl
 ·have h1:i=1:=by omega
  subst h1;rw [if_pos (show s=0 from hI 0 (by omega))];rfl
theorem orI_l2 {s t:Int} {i:Nat} (hi:2≤i) (hI:∀ j<i,orI s t j=0):(.int .i64 0:Value)=.int .i64 (if s=0 then t else s):=by
 rw [if_pos (show s=0 from hI 0 (by omega)),show t=0 from hI 1 (by omega)]
theorem orI_x (g:Nat) (s t:Int) (w:World) (hg:g<w.heap.size) (hc:∀ i<2,w.cell? ⟨g,0+i*1,none⟩=some (.int .i64 (orI s t i))):Exact Tryz.prog 167 #[.slice (some ⟨g,0,none⟩) 2 2] w (.int .i64 (if s=0 then t else s)):=by
 replace hc:Hid _:=hc;refine xopens (args:=[.slice (some ⟨g,0,none⟩) 2 2]) Tryz.func167 J Tryz.ntmps167 ?_;refine Vq (Wu (Vo J (Zf J) (U3 (W3 (Vq (Wu (Vo J (Zf J) (U3 (W3 (Vq (Vq (Wu (Vo J (Zd J) (Vo J (Zx (ts J) J) (Vo J (Zd J) (U3 (W3 (XC_block (XC_sub (E':=(fun i=>[(3,.int .i64 0),(6,.slice (some ⟨g,0,none⟩) 2 2),(7,.int .i64 2),(8,iN i)]) (0)) ⟨J,J,J,J,trivial⟩ (XC_loop (X:=Nat) (fun i=>[(3,.int .i64 0),(6,.slice (some ⟨g,0,none⟩) 2 2),(7,.int .i64 2),(8,iN i)]) _ _ (fun i=>[]) (fun i=>Asr.none) (fun i=>i≤2∧∀ j<i,orI s t j=0) (fun i=>2 - i) (0) (⟨Nat.zero_le _,fun j hj=>by omega⟩) ?_))))))))))))))))))));intro i hI;refine Vq (Wu (Vo J (Yi J J) (U3 (W3 (Vq (XC_if J ?_ ?_))))))
 ·intro c1;replace c1:=dTr c1;have hi:i<2:=by omega
  refine XC_skip (W3 (Vq (XC_block (Vq (Wu (Vo J (Yo (ts J) J J ?_) ?_))))))
  ·omega
  refine Vo J (Zj (t1 J) J (Z6 (hc.out i hi) hg)) (Vo J (Zf J) (U3 (W3 (Vq (Wu (Vo J (Zd J) (Vo J (Zd J) (Vo J (T3 J J) (U3 (W3 (XC_if J ?_ ?_)))))))))))
  ·intro c2;replace c2:=Rm c2;refine Vq (Wu (Vo J (Zd J) (Vo J (Zf J) (U3 (W3 (XC_ret (XQ_ret (XQ_ret (XQ_ret (XQ_ret (XQ_ret (X_end1 J J ?_))))))))))));exact orI_l1 hi hI.2 c2
  ·intro c2;replace c2:=Sn c2;refine XC_skip (XQ_bnext (W3 (Wu ?_)));refine Vo J (Yn J J ?_) ?_;omega;refine Vo J (Zd J) (U3 ?_);refine XQ_again (i+1) ?_ (⟨by omega,fun j hj=>by rcases Nat.lt_or_ge j i with h9 | h9;exact hI.2 j h9;(have h8:j=i:=by omega);subst h8;exact c2⟩) 0 J (J) ⟨J,J,J,J,trivial⟩;omega
 ·intro c1;replace c1:=dFa c1;refine XC_exit (XQ_exit (XQ_lexit (XQ_here (W3 (Vq (Wu (Vo J (Zd J) (Vo J (Zf J) (U3 (W3 (XC_ret (X_end1 J J ?_))))))))))));exact orI_l2 (by omega) hI.2
end
namespace E
open Go Go.RowKit
def GrW (w w':World):Prop:=Below w.heap.size w w'∧w.drawn≤w'.drawn
theorem GrW.refl (w:World):GrW w w:=⟨Below.refl _ _,Nat.le_refl _⟩
theorem GrW.trans {a b c:World} (h:GrW a b) (k:GrW b c):GrW a c:=⟨((Fr.of_below h.1 []).trans (Fr.of_below k.1 []) (by simp)).below,Nat.le_trans h.2 k.2⟩
theorem GrW.alloc (w:World) (o:Obj):GrW w (w.alloc o):=⟨(Below.refl _ w).alloc (Nat.le_refl _) _,Nat.le_refl _⟩
theorem GrW.is {w w':World} (h:GrW w w'):∃ q os',w'=Go.Sort.grow (w.drewN q) os':=by
 refine ⟨w'.drawn - w.drawn,w'.heap.extract w.heap.size w'.heap.size,?_⟩;obtain ⟨hb,hd⟩:=h;obtain ⟨heap',tape',drawn',os',out'⟩:=w';obtain ⟨heap,tape,drawn,os,out⟩:=w;have h1:=hb.os;have h2:=hb.tape;have h3:=hb.output;have h4:=hb.size;have h5:=hb.block;dsimp only at h1 h2 h3 h4 h5 hd;subst h1;subst h2;subst h3;unfold Go.Sort.grow World.drewN;dsimp only;congr 1
 ·apply Array.ext_getElem?;intro i;rw [Array.getElem?_append];split
  ·next hi=>exact h5 i hi
  ·next hi =>
   rw [Array.getElem?_extract];by_cases hlt:i<heap'.size
   ·rw [if_pos (by omega),show heap.size+(i - heap.size)=i by omega]
   ·rw [if_neg (by omega),Array.getElem?_eq_none (by omega)]
 ·omega
section
variable {P:Program} {n:Nat} {E:Env} {ops:Array Oper} {Q:Exit→Act→World→Prop} {a:Act} {w w':World} {K:Act→World→Prop} {i d:Nat} {o:Op} {ty:TypeId} {p:String} {x:Array Edge} {v:Value}
theorem Re (hi:ops[i]?=some ⟨some d,o,ty,p,x,none⟩) (hr:(execOp a.eval ⟨some d,o,ty,p,x,none⟩).run P w=.ok (.value v) w') (h:K (a.put (some d) v) w'):wpOp P ops Q i K a w:=by
 unfold wpOp;rw [hi];show (if Region.wanted _ _=true then _ else _);rw [if_pos (show Region.wanted _ _=true from rfl)];left;unfold Oper.wp;rw [hr];exact h
theorem wpOp_call {f:FuncId} {xs:List Operand} {vs:List Value} {ts:Array TypeId} (hi:ops[i]?=some ⟨some d,.call ⟨.value (.func f),xs.toArray,ts⟩,ty,p,x,none⟩) (hf:IsFn P f) (ha:Ag n a E) (hx:args E xs=some vs) (hc:Calls P f vs.toArray w fun e w'=>∃ v,e=.returned v∧K (a.put (some d) v) w'):wpOp P ops Q i K a w:=by
 unfold wpOp;rw [hi];show (if Region.wanted _ _=true then _ else _);rw [if_pos (show Region.wanted _ _=true from rfl)];left;unfold Oper.wp;rw [V8 rfl hf,Ve ha xs vs hx];refine Calls.mono hc ?_;rintro e w' ⟨v,rfl,h⟩;exact h
theorem run_bs {t e k len:Nat} {ps:List (Nat × Operand)} {vs:List (Nat × Value)} {zs cs:List Value} (ha:Ag n a E) (ht:TS P t e k) (hz:TZ P e zs) (hk:zs.length=k) (hpos:Nat.blt 0 (len*k)=true)
  (hsm:Nat.ble (len*k) 16777216=true) (hp:parts E ps=some vs) (hf:fillL (fun i=>some (i*k,k)) (zrow zs len) vs=some cs) :
  (execOp a.eval ⟨some d,.buildSlice t len ps.toArray,ty,p,x,none⟩).run P w=.ok (.value (.slice (some ⟨w.heap.size,0,none⟩) len len)) (w.alloc (.cells cs.toArray e)):=by
 have hpos':0<len*k:=by simpa using hpos
 have hsm':¬ len*k>2 ^ 24:=by have:=Nat.le_of_ble_eq_true hsm;omega
 obtain ⟨v,hv,hc⟩:=hz.run w;have hsz:=ht.2 w;have he:=parts_map ha ps vs hp;have e2:(ps.toArray.map fun (x:Nat × Operand)=>(x.1,a.eval x.2))=vs.toArray:=by rw [← he];simp
 have hzp:0<zs.length:=by rw [hk];exact Nat.pos_of_mul_pos_left hpos' |> fun h=>h
 have hze:=zrow_eq zs hzp len;rw [hk] at hze;have hfl:=fill_eq _ _ _ _ hf;simp only [execOp];rw [show (ps.toArray.map fun x=>match x with | (i,x)=>(i,a.eval x))=vs.toArray from e2];have hne:¬ len*k=0:=by omega
 simp only [Instr.buildSlice,Sem.run_bind,run_underlying ht.1,Result.andThen,hsz,if_neg hsm',if_neg hne,Sem.run_pure,hv,hc];rw [hze];simp [hfl,newRow]
theorem XL_box {F:List Nat} {H:Hp} {R:Asr} {fn:Func} {Z:Ending→World→Prop} {κ:List Kf} {all:Array Oper} {l:List Oper} {s:TypeId} {y:Operand} {cs:List Value} (hd:Nat.blt d n=true) (hx:ev E y=some (.agg cs.toArray))
  (h:XL P n all l ((d,.pointer (some ⟨w.heap.size,0,none⟩))::E) (w.alloc (.cells cs.toArray s)) F H R fn Z κ):XL P n all (⟨some d,.box s y,ty,p,x,none⟩::l) E w F H R fn Z κ :=
 ⟨fun a ha=>wpList_plain rfl fun K hK=>by
  have hr:(execOp a.eval ⟨some d,.box s y,ty,p,x,none⟩).run P w=.ok (.value (.pointer (some ⟨w.heap.size,0,none⟩))) (w.alloc (.cells cs.toArray s)):=by
   simp only [execOp];rw [ha.eval hx];simp [Instr.box,newVar,newRow,Value.cells]
  unfold Oper.wp;rw [hr];exact hK _ _ (h.go _ (ha.put hd _))⟩
theorem X_endG {F:List Nat} {H:Hp} {R:Asr} {fn:Func} {w0:World} {t:Tmp} {v:Value} (hr:fn.results=#[.tmp t]) (hv:look E t=some v) (hg:GrW w0 w) :
  XQ P n .ret E w F H R fn (fun e w'=>e=.returned v∧GrW w0 w') [] :=
 ⟨fun a ha=>by
  refine bodyPost_ret (?_:_=Result.ok v w) ha.no ⟨J,hg⟩;rw [results_tmp hr];exact congrArg (fun u=>Result.ok u w) (ha.eval (x:=.tmp t) hv)⟩
end
end E
section
open Go Go.RowKit At E
def cmpB (x y:Bl):Int:=if M9 x.cls y.cls=0 then M9 x.above y.above else M9 x.cls y.cls
def Tv:Option Code→Array Oper
 | some (.seq _ (.seq (.region _ ops _) _))=>ops
 | _=>#[]
def ptrO (b o:Nat):Value:=.pointer (some ⟨b,o,none⟩)
def CmAt (x y:Bl) (b1 b2:Nat) (w:World) (v:Value):Nat→Prop
 | 0=>v=ptrO b1 (0+0)
 | 1=>v=.string x.cls
 | 2=>v=ptrO b2 (0+0)
 | 3=>v=.string y.cls
 | 4=>v=.int .i64 (M9 x.cls y.cls)
 | 5=>v=ptrO b1 (0+1)
 | 6=>v=.string x.above
 | 7=>v=ptrO b2 (0+1)
 | 8=>v=.string y.above
 | 9=>v=.int .i64 (M9 x.above y.above)
 | 10=>∃ g,v=.slice (some ⟨g,0,none⟩) 2 2∧g<w.heap.size∧∀ i<2,w.cell? ⟨g,0+i*1,none⟩=some (.int .i64 (orI (M9 x.cls y.cls) (M9 x.above y.above) i))
 | _=>v=.int .i64 (cmpB x y)
theorem CmAt.mono {x y:Bl} {b1 b2:Nat} {w w':World} {v:Value}:∀ {j:Nat},CmAt x y b1 b2 w v j→Below w.heap.size w w'→CmAt x y b1 b2 w' v j
 | 10,h,hb=>by obtain ⟨g,h1,h2,h3⟩:=h;exact ⟨g,h1,Nat.lt_of_lt_of_le h2 hb.size,fun i hi=>V4 hb (h3 i hi)⟩
 | 0,h,_=>h | 1,h,_=>h | 2,h,_=>h | 3,h,_=>h | 4,h,_=>h | 5,h,_=>h | 6,h,_=>h | 7,h,_=>h | 8,h,_=>h | 9,h,_=>h
 | _+11,h,_=>h
def Mh (j:Nat):Nat:=bif Nat.beq j 12 then 4 else j+5
structure CI (W:World) (x y:Bl) (b1 b2:Nat) (l:Array Bool) (a:Act) (w:World):Prop where
 sz:l.size=13
 ag:Ag 17 a [(2,ptrO b1 0),(3,ptrO b2 0)]
 g:GrW W w
 n1:∀ j z,(blV x)[j]?=some z→w.cell? ⟨b1,0+j,none⟩=some z
 n2:∀ j z,(blV y)[j]?=some z→w.cell? ⟨b2,0+j,none⟩=some z
 sp:∀ j,j<13→l.getD j false=true→∃ v,a.tmps[Mh j]?=some v∧CmAt x y b1 b2 w v j
section
variable {W:World} {x y:Bl} {b1 b2:Nat} {l:Array Bool} {a:Act} {w w':World} {i d:Nat} {v:Value}
theorem CI.next (hI:CI W x y b1 b2 l a w) (hg:GrW w w') (hi:i<13) (hd:Mh i=d) (hv:CmAt x y b1 b2 w' v i):CI W x y b1 b2 (l.setIfInBounds i true) (a.put (some d) v) w':=by
 subst hd
 have hput:∀ j,j≠Mh i→(a.put (some (Mh i)) v).tmps[j]?=a.tmps[j]?:=fun j hj=>by
  show (a.tmps.setIfInBounds (Mh i) v)[j]?=_;rw [Array.getElem?_setIfInBounds_ne (fun e=>hj e.symm)]
 have hlt:Mh i<a.tmps.size:=by
  have h1:=hI.ag.room;have:Mh i<17:=by unfold Mh;cases h2:Nat.beq i 12<;>simp only [cond_true,cond_false]<;>simp only [Nat.beq_eq,Bool.eq_false_iff,ne_eq] at h2<;>omega
  omega
 have hself:(a.put (some (Mh i)) v).tmps[Mh i]?=some v:=by
  show (a.tmps.setIfInBounds (Mh i) v)[Mh i]?=_;rw [Array.getElem?_setIfInBounds_self_of_lt hlt]
 have hne:∀ j,j<13→j≠i→Mh j≠Mh i:=fun j hj hji=>by
  unfold Mh;cases h1:Nat.beq j 12<;>cases h2:Nat.beq i 12<;>simp only [cond_true,cond_false]<;>simp only [Nat.beq_eq,Bool.eq_false_iff,ne_eq] at h1 h2<;>omega
 have h23:Mh i≠2∧Mh i≠3:=by unfold Mh;cases Nat.beq i 12<;>simp only [cond_true,cond_false]<;>omega
 refine ⟨by rw [Array.size_setIfInBounds];exact hI.sz,⟨?_,hI.ag.no,fun j u hu=>?_⟩,hI.g.trans hg,fun j z hz=>V4 hg.1 (hI.n1 j z hz),fun j z hz=>V4 hg.1 (hI.n2 j z hz),fun j hj hl=>?_⟩
 ·show 17≤(a.tmps.setIfInBounds (Mh i) v).size;rw [Array.size_setIfInBounds];exact hI.ag.room
 ·have h1:=hI.ag.has j u hu
  have h2:j=2∨j=3:=by
   by_cases e1:j=2
   ·exact .inl e1
   ·by_cases e2:j=3
    ·exact .inr e2
    ·exfalso;have f1:Nat.beq j 2=false:=Bool.eq_false_iff.2 fun h=>e1 (Nat.eq_of_beq_eq_true h);have f2:Nat.beq j 3=false:=Bool.eq_false_iff.2 fun h=>e2 (Nat.eq_of_beq_eq_true h);simp [E.look,f1,f2] at hu
  rw [hput j (by rcases h2 with rfl | rfl;exact fun e=>h23.1 e.symm;exact fun e=>h23.2 e.symm)];exact h1
 ·by_cases hji:j=i
  ·subst hji;exact ⟨v,hself,hv⟩
  ·rcases set_true hl with h | h
   ·exact absurd h hji
   ·obtain ⟨u,hu,hc⟩:=hI.sp j hj h;exact ⟨u,by rw [hput _ (hne j hj hji)];exact hu,hc.mono hg.1⟩
theorem CI.dep (hI:CI W x y b1 b2 l a w) {ops:Array Oper} {o:Oper} (h0:ops[i]?=some o) (k:Nat) {j:Nat} (he:o.after[k]?=some ⟨j,.data⟩) (hr:i ∈ Region.ready .any ops l) (hj:j<13):∃ v,a.tmps[Mh j]?=some v∧CmAt x y b1 b2 w v j:=by
 obtain ⟨o',ho',h⟩:=(mem_ready.1 hr).2;rw [h0] at ho';cases ho';exact hI.sp j hj (h ⟨j,.data⟩ (Array.mem_of_getElem? he) J)
theorem CI.known (hI:CI W x y b1 b2 l a w) {s:Nat} {v:Value} (hs:a.tmps[s]?=some v):Ag 17 a [(s,v)] :=
 ⟨hI.ag.room,hI.ag.no,fun j u hu=>by
  replace hu:(bif Nat.beq j s then some v else none)=some u:=hu;cases hb:Nat.beq j s with
  | true=>rw [hb] at hu;cases hu;rw [Nat.eq_of_beq_eq_true hb];exact hs
  | false=>rw [hb] at hu;cases hu⟩
theorem CI.known2 (hI:CI W x y b1 b2 l a w) {s t:Nat} {v u:Value} (hs:a.tmps[s]?=some v) (ht:a.tmps[t]?=some u):Ag 17 a [(s,v),(t,u)] :=
 ⟨hI.ag.room,hI.ag.no,fun j z hz=>by
  replace hz:(bif Nat.beq j s then some v else bif Nat.beq j t then some u else none)=some z:=hz;cases hb:Nat.beq j s with
  | true=>rw [hb] at hz;cases hz;rw [Nat.eq_of_beq_eq_true hb];exact hs
  | false =>
   rw [hb] at hz;cases hc:Nat.beq j t with
   | true=>rw [hc] at hz;cases hz;rw [Nat.eq_of_beq_eq_true hc];exact ht
   | false=>rw [hc] at hz;cases hz⟩
end
abbrev CmS (i:Nat):Prop:=∀ (W:World) (x y:Bl) (b1 b2:Nat) (Q:Exit→Act→World→Prop) (l:Array Bool) (a:Act) (w:World),CI W x y b1 b2 l a w→i ∈ Region.ready .any (Tv Tryz.f166.body) l →
 wpOp Tryz.prog (Tv Tryz.f166.body) Q i (fun a' w'=>CI W x y b1 b2 (l.setIfInBounds i true) a' w') a w
theorem cm0:CmS 0:=by
 intro W x y b1 b2 Q l a w hI hr;have h0:(Tv Tryz.f166.body)[0]?=some ⟨some 5,.fieldAddr 136 (.tmp 2) 0,0,"check.go:41",#[],none⟩:=by kernel_rfl
 exact Re h0 ((Zh (E:=[(2,ptrO b1 0),(3,ptrO b2 0)]) (w0:=w) (F:=[]) (H:=[]) (R:=Asr.none) (ff J) J).go w (Sat.first w []) a hI.ag _ _ _ _ _) (hI.next (GrW.refl w) (by decide) J J)
theorem cm2:CmS 2:=by
 intro W x y b1 b2 Q l a w hI hr;have h0:(Tv Tryz.f166.body)[2]?=some ⟨some 7,.fieldAddr 136 (.tmp 3) 0,0,"check.go:41",#[],none⟩:=by kernel_rfl
 exact Re h0 ((Zh (E:=[(2,ptrO b1 0),(3,ptrO b2 0)]) (w0:=w) (F:=[]) (H:=[]) (R:=Asr.none) (ff J) J).go w (Sat.first w []) a hI.ag _ _ _ _ _) (hI.next (GrW.refl w) (by decide) J J)
theorem cm5:CmS 5:=by
 intro W x y b1 b2 Q l a w hI hr;have h0:(Tv Tryz.f166.body)[5]?=some ⟨some 10,.fieldAddr 136 (.tmp 2) 1,0,"check.go:41",#[],none⟩:=by kernel_rfl
 exact Re h0 ((Zh (E:=[(2,ptrO b1 0),(3,ptrO b2 0)]) (w0:=w) (F:=[]) (H:=[]) (R:=Asr.none) (ff J) J).go w (Sat.first w []) a hI.ag _ _ _ _ _) (hI.next (GrW.refl w) (by decide) J J)
theorem cm7:CmS 7:=by
 intro W x y b1 b2 Q l a w hI hr;have h0:(Tv Tryz.f166.body)[7]?=some ⟨some 12,.fieldAddr 136 (.tmp 3) 1,0,"check.go:41",#[],none⟩:=by kernel_rfl
 exact Re h0 ((Zh (E:=[(2,ptrO b1 0),(3,ptrO b2 0)]) (w0:=w) (F:=[]) (H:=[]) (R:=Asr.none) (ff J) J).go w (Sat.first w []) a hI.ag _ _ _ _ _) (hI.next (GrW.refl w) (by decide) J J)
theorem cm1:CmS 1:=by
 intro W x y b1 b2 Q l a w hI hr;have h0:(Tv Tryz.f166.body)[1]?=some ⟨some 6,.load 9 (.tmp 5),9,"check.go:41",#[⟨0,.data⟩],none⟩:=by kernel_rfl
 obtain ⟨v,hv,rfl⟩:=hI.dep h0 0 rfl hr (j:=0) (by decide);exact Re h0 ((Zj (E:=[(5,_)]) (w0:=w) (F:=[]) (H:=[]) (R:=Asr.none) (t1 J) J (Z6 (hI.n1 0 _ J) (World.block_lt_of_cell? w _ (hI.n1 0 _ J)))).go w (Sat.first w []) a (hI.known hv) _ _ _ _ _) (hI.next (GrW.refl w) (by decide) J J)
theorem cm3:CmS 3:=by
 intro W x y b1 b2 Q l a w hI hr;have h0:(Tv Tryz.f166.body)[3]?=some ⟨some 8,.load 9 (.tmp 7),9,"check.go:41",#[⟨2,.data⟩],none⟩:=by kernel_rfl
 obtain ⟨v,hv,rfl⟩:=hI.dep h0 0 rfl hr (j:=2) (by decide);exact Re h0 ((Zj (E:=[(7,_)]) (w0:=w) (F:=[]) (H:=[]) (R:=Asr.none) (t1 J) J (Z6 (hI.n2 0 _ J) (World.block_lt_of_cell? w _ (hI.n2 0 _ J)))).go w (Sat.first w []) a (hI.known hv) _ _ _ _ _) (hI.next (GrW.refl w) (by decide) J J)
theorem cm6:CmS 6:=by
 intro W x y b1 b2 Q l a w hI hr;have h0:(Tv Tryz.f166.body)[6]?=some ⟨some 11,.load 9 (.tmp 10),9,"check.go:41",#[⟨5,.data⟩],none⟩:=by kernel_rfl
 obtain ⟨v,hv,rfl⟩:=hI.dep h0 0 rfl hr (j:=5) (by decide);exact Re h0 ((Zj (E:=[(10,_)]) (w0:=w) (F:=[]) (H:=[]) (R:=Asr.none) (t1 J) J (Z6 (hI.n1 1 _ J) (World.block_lt_of_cell? w _ (hI.n1 1 _ J)))).go w (Sat.first w []) a (hI.known hv) _ _ _ _ _) (hI.next (GrW.refl w) (by decide) J J)
theorem cm8:CmS 8:=by
 intro W x y b1 b2 Q l a w hI hr;have h0:(Tv Tryz.f166.body)[8]?=some ⟨some 13,.load 9 (.tmp 12),9,"check.go:41",#[⟨7,.data⟩],none⟩:=by kernel_rfl
 obtain ⟨v,hv,rfl⟩:=hI.dep h0 0 rfl hr (j:=7) (by decide);exact Re h0 ((Zj (E:=[(12,_)]) (w0:=w) (F:=[]) (H:=[]) (R:=Asr.none) (t1 J) J (Z6 (hI.n2 1 _ J) (World.block_lt_of_cell? w _ (hI.n2 1 _ J)))).go w (Sat.first w []) a (hI.known hv) _ _ _ _ _) (hI.next (GrW.refl w) (by decide) J J)
theorem cm4:CmS 4:=by
 intro W x y b1 b2 Q l a w hI hr;have h0:(Tv Tryz.f166.body)[4]?=some ⟨some 9,.call ⟨.value (.func 168),#[.tmp 6,.tmp 8],#[9,9]⟩,3,"check.go:41",#[⟨1,.data⟩,⟨3,.data⟩],none⟩:=by kernel_rfl
 obtain ⟨v,hv,rfl⟩:=hI.dep h0 0 rfl hr (j:=1) (by decide);obtain ⟨u,hu,rfl⟩:=hI.dep h0 1 rfl hr (j:=3) (by decide);refine wpOp_call h0 fn168 (hI.known2 hv hu) J (Calls.mono (cmpS_x _ _ w) ?_);rintro e w' ⟨rfl,rfl⟩;exact ⟨_,J,hI.next (GrW.refl _) (by decide) J J⟩
theorem cm9:CmS 9:=by
 intro W x y b1 b2 Q l a w hI hr;have h0:(Tv Tryz.f166.body)[9]?=some ⟨some 14,.call ⟨.value (.func 168),#[.tmp 11,.tmp 13],#[9,9]⟩,3,"check.go:41",#[⟨6,.data⟩,⟨8,.data⟩,⟨4,.chain⟩],none⟩:=by kernel_rfl
 obtain ⟨v,hv,rfl⟩:=hI.dep h0 0 rfl hr (j:=6) (by decide);obtain ⟨u,hu,rfl⟩:=hI.dep h0 1 rfl hr (j:=8) (by decide);refine wpOp_call h0 fn168 (hI.known2 hv hu) J (Calls.mono (cmpS_x _ _ w) ?_);rintro e w' ⟨rfl,rfl⟩;exact ⟨_,J,hI.next (GrW.refl _) (by decide) J J⟩
theorem cm10:CmS 10:=by
 intro W x y b1 b2 Q l a w hI hr;have h0:(Tv Tryz.f166.body)[10]?=some ⟨some 15,.buildSlice 54 2 #[(0,.tmp 9),(1,.tmp 14)],54,"check.go:41",#[⟨4,.data⟩,⟨9,.data⟩],none⟩:=by kernel_rfl
 obtain ⟨v,hv,rfl⟩:=hI.dep h0 0 rfl hr (j:=4) (by decide);obtain ⟨u,hu,rfl⟩:=hI.dep h0 1 rfl hr (j:=9) (by decide);refine Re h0 (run_bs (E:=[(9,_),(14,_)]) (ps:=[(0,.tmp 9),(1,.tmp 14)]) (cs:=[.int .i64 (M9 x.cls y.cls),.int .i64 (M9 x.above y.above)]) (hI.known2 hv hu) (ts J) (tz J) J J J J (by kernel_rfl)) (hI.next (GrW.alloc w _) (by decide) J ⟨w.heap.size,J,by rw [World.size_alloc];omega,fun i hi=>?_⟩);have hn:=heap_alloc_new w (.cells [Value.int .i64 (M9 x.cls y.cls),Value.int .i64 (M9 x.above y.above)].toArray 3);simp only [World.cell?,hn];rcases Nat.lt_or_ge 0 i with h | h
 ·have h1:i=1:=by omega
  subst h1;rfl
 ·have h1:i=0:=by omega
  subst h1;rfl
theorem cm11:CmS 11:=by
 intro W x y b1 b2 Q l a w hI hr;have h0:(Tv Tryz.f166.body)[11]?=some ⟨some 16,.call ⟨.value (.func 167),#[.tmp 15],#[54]⟩,3,"check.go:41",#[⟨10,.data⟩,⟨9,.chain⟩],none⟩:=by kernel_rfl
 obtain ⟨v,hv,g,rfl,hg,hc⟩:=hI.dep h0 0 rfl hr (j:=10) (by decide);refine wpOp_call h0 fn167 (hI.known hv) J (Calls.mono (orI_x g _ _ w hg hc) ?_);rintro e w' ⟨rfl,rfl⟩;exact ⟨_,J,hI.next (GrW.refl _) (by decide) J J⟩
theorem cm12:CmS 12:=by
 intro W x y b1 b2 Q l a w hI hr;have h0:(Tv Tryz.f166.body)[12]?=some ⟨some 4,.assign (.tmp 16),3,"check.go:41",#[⟨11,.data⟩,⟨11,.chain⟩,⟨0,.phase⟩,⟨1,.phase⟩,⟨2,.phase⟩,⟨3,.phase⟩,⟨4,.phase⟩,⟨5,.phase⟩,⟨6,.phase⟩,⟨7,.phase⟩,⟨8,.phase⟩,⟨9,.phase⟩,⟨10,.phase⟩,⟨11,.phase⟩],none⟩:=by kernel_rfl
 obtain ⟨v,hv,rfl⟩:=hI.dep h0 0 rfl hr (j:=11) (by decide);exact Re h0 ((Zf (E:=[(16,_)]) (w0:=w) (F:=[]) (H:=[]) (R:=Asr.none) J).go w (Sat.first w []) a (hI.known hv) _ _ _ _ _) (hI.next (GrW.refl w) (by decide) J J)
theorem cm_all:∀ i,i<13→CmS i
 | 0,_=>cm0
 | 1,_=>cm1
 | 2,_=>cm2
 | 3,_=>cm3
 | 4,_=>cm4
 | 5,_=>cm5
 | 6,_=>cm6
 | 7,_=>cm7
 | 8,_=>cm8
 | 9,_=>cm9
 | 10,_=>cm10
 | 11,_=>cm11
 | 12,_=>cm12
 | n+13,h=>by omega
theorem cm_size:(Tv Tryz.f166.body).size=13:=by kernel_rfl
theorem cm_ordB:(List.range 13).all (fun i=>match (Tv Tryz.f166.body)[i]? with | some o=>o.after.toList.all (fun e => !Region.binds .any e || Nat.blt e.on i) | none=>true)=true:=by kernel_rfl
theorem cm_ord (i:Nat) (o:Oper) (e:Edge) (h:(Tv Tryz.f166.body)[i]?=some o) (he:e ∈ o.after) (hb:Region.binds .any e=true):e.on<i:=by
 have hi:i<13:=by rw [← cm_size];exact (Array.getElem?_eq_some_iff.1 h).1
 have h1:=List.all_eq_true.1 cm_ordB i (List.mem_range.2 hi);rw [h] at h1;have h2:=List.all_eq_true.1 h1 e (by simpa using he);rw [hb] at h2
 simpa using h2
theorem cm_region {En:Env} {W w:World} {x y:Bl} {b1 b2:Nat} {fn:Func} {Z:Ending→World→Prop} {κ:List Kf} (hE:Sub [(2,ptrO b1 0),(3,ptrO b2 0)] En) (hg:GrW W w)
  (h1:∀ j z,(blV x)[j]?=some z→w.cell? ⟨b1,0+j,none⟩=some z) (h2:∀ j z,(blV y)[j]?=some z→w.cell? ⟨b2,0+j,none⟩=some z)
  (h:∀ w',GrW W w'→XQ Tryz.prog 17 .normal [(4,.int .i64 (cmpB x y))] w' [] [] Asr.none fn Z κ):XC Tryz.prog 17 (.region 1 (Tv Tryz.f166.body) true) En w [] [] Asr.none fn Z κ :=
 ⟨fun a ha=>wp_region_any X2 (by
  have hd:GrW w { w with drawn:=w.drawn+1 }:=⟨⟨rfl,rfl,rfl,Nat.le_refl _,fun _ _=>rfl⟩,Nat.le_succ _⟩;refine any_inv (I:=CI W x y b1 b2) (fun l a w hI=>by rw [hI.sz,cm_size]) cm_ord (fun l a w i hI hi=>?_) (fun l a w hI hall=>?_) _ _ a _ ⟨by rw [Array.size_replicate,cm_size],ha.sub hE,hg.trans hd,h1,h2,fun j hj hl=>?_⟩ ?_
  ·refine cm_all i ?_ W x y b1 b2 _ l a w hI hi;obtain ⟨o,ho,_⟩:=(mem_ready.1 hi).2;rw [← cm_size];exact (Array.getElem?_eq_some_iff.1 ho).1
  ·obtain ⟨v,hv,rfl⟩:=hI.sp 12 (by decide) (hall 12 (by rw [cm_size];decide));exact (h w hI.g).go a (hI.known hv)
  ·rw [Array.getD_eq_getD_getElem?] at hl;rw [Array.getElem?_replicate] at hl;split at hl<;>cases hl
  ·rw [Array.toList_replicate,List.count_replicate];simp)⟩
theorem ordC1 (x y:Bl) (W:World):Calls Tryz.prog 166 #[.agg (blV x).toArray,.agg (blV y).toArray] W fun e w'=>e=.returned (.int .i64 (cmpB x y))∧GrW W w':=by
 refine xopens (args:=[.agg (blV x).toArray,.agg (blV y).toArray]) Tryz.func166 J Tryz.ntmps166 ?_;refine Vq (Wu (XL_box J J (XL_box J J (Vo J (Zf J) (U3 (W3 (Vq ?_)))))));have g1:GrW W (W.alloc (.cells (blV x).toArray 136)):=GrW.alloc _ _;have hn1:=heap_alloc_new W (.cells (blV x).toArray 136);have hn2:=heap_alloc_new (W.alloc (.cells (blV x).toArray 136)) (.cells (blV y).toArray 136);refine cm_region (W:=W) (x:=x) (y:=y) (b1:=W.heap.size) (b2:=(W.alloc (.cells (blV x).toArray 136)).heap.size) ⟨J,J,trivial⟩ (g1.trans (GrW.alloc _ _)) (fun j z hz=>?_) (fun j z hz=>?_) fun w' hg=>?_
 ·refine V4 (GrW.alloc (W.alloc (.cells (blV x).toArray 136)) (.cells (blV y).toArray 136)).1 ?_;simp only [World.cell?,hn1]
  simpa using hz
 ·simp only [World.cell?,hn2]
  simpa using hz
 ·exact W3 (XC_ret (X_endG J J hg))
end
section
open Go Go.Shelf
def sortBl_ren:Go.Shelf.Ren:=⟨fun | 6=>266 | 15=>335 | 14=>334 | 28=>371 | 29=>372 | 20=>363 | 21=>364 | 22=>365 | 23=>366 | 24=>367 | 25=>368 | 26=>369 | 27=>370 | 46=>386 | 47=>387 | 48=>388 | 49=>389 | 50=>390 | 57=>399 | n=>n,fun | 22=>47 | 24=>136 | 25=>276 | 3=>3 | 39=>103 | 0=>0 | 53=>448 | 55=>252 | 4=>4 | 46=>442 | 45=>441 | 50=>410 | 5=>5 | 9=>9 | 66=>464 | 70=>468 | 76=>480 | 77=>371 | n=>n,fun | n=>n⟩
theorem sortBl:Go.Proofs.SlLaysF0.n6 Tryz.prog sortBl_ren:={
 mixed:=by kernel_rfl
 f6:=⟨Tryz.f266.name,by decide,Tryz.func266.trans (congrArg some (by kernel_rfl))⟩
 f14:=⟨Tryz.f334.name,by decide,Tryz.func334.trans (congrArg some (by kernel_rfl))⟩
 f15:=Tryz.func335.trans (congrArg some (by kernel_rfl))
 f20:=⟨Tryz.f363.name,by decide,Tryz.func363.trans (congrArg some (by kernel_rfl))⟩
 f21:=⟨Tryz.f364.name,by decide,Tryz.func364.trans (congrArg some (by kernel_rfl))⟩
 f22:=⟨Tryz.f365.name,by decide,Tryz.func365.trans (congrArg some (by kernel_rfl))⟩
 f23:=⟨Tryz.f366.name,by decide,Tryz.func366.trans (congrArg some (by kernel_rfl))⟩
 f24:=⟨Tryz.f367.name,by decide,Tryz.func367.trans (congrArg some (by kernel_rfl))⟩
 f25:=⟨Tryz.f368.name,by decide,Tryz.func368.trans (congrArg some (by kernel_rfl))⟩
 f26:=⟨Tryz.f369.name,by decide,Tryz.func369.trans (congrArg some (by kernel_rfl))⟩
 f27:=⟨Tryz.f370.name,by decide,Tryz.func370.trans (congrArg some (by kernel_rfl))⟩
 f28:=Tryz.func371.trans (congrArg some (by kernel_rfl))
 f29:=Tryz.func372.trans (congrArg some (by kernel_rfl))
 f46:=⟨Tryz.f386.name,by decide,Tryz.func386.trans (congrArg some (by kernel_rfl))⟩
 f47:=Tryz.func387.trans (congrArg some (by kernel_rfl))
 f48:=Tryz.func388.trans (congrArg some (by kernel_rfl))
 f49:=⟨Tryz.f389.name,by decide,Tryz.func389.trans (congrArg some (by kernel_rfl))⟩
 f50:=⟨Tryz.f390.name,by decide,Tryz.func390.trans (congrArg some (by kernel_rfl))⟩
 f57:=⟨Tryz.f399.name,by decide,Tryz.func399.trans (congrArg some (by kernel_rfl))⟩
 t0:=Tryz.underlying0
 a0:=Tryz.isAgg0
 z0:=Tryz.sizeOf0
 v0:=Tryz.zeroValue0
 t3:=Tryz.underlying3
 a3:=Tryz.isAgg3
 z3:=Tryz.sizeOf3
 v3:=Tryz.zeroValue3
 t4:=Tryz.underlying4
 a4:=Tryz.isAgg4
 z4:=Tryz.sizeOf4
 v4:=Tryz.zeroValue4
 t5:=Tryz.underlying5
 a5:=Tryz.isAgg5
 z5:=Tryz.sizeOf5
 v5:=Tryz.zeroValue5
 t9:=Tryz.underlying9
 a9:=Tryz.isAgg9
 z9:=Tryz.sizeOf9
 v9:=Tryz.zeroValue9
 t22:=Tryz.underlying47
 a22:=Tryz.isAgg47
 z22:=Tryz.sizeOf47
 v22:=Tryz.zeroValue47
 t25:=Tryz.underlying276
 a25:=Tryz.isAgg276
 z25:=Tryz.sizeOf276
 v25:=Tryz.zeroValue276
 t39:=Tryz.underlying103
 a39:=Tryz.isAgg103
 z39:=Tryz.sizeOf103
 v39:=Tryz.zeroValue103
 t45:=Tryz.underlying441
 a45:=Tryz.isAgg441
 z45:=Tryz.sizeOf441
 v45:=Tryz.zeroValue441
 t46:=Tryz.underlying442
 a46:=Tryz.isAgg442
 z46:=Tryz.sizeOf442
 v46:=Tryz.zeroValue442
 t50:=Tryz.underlying410
 a50:=Tryz.isAgg410
 z50:=Tryz.sizeOf410
 v50:=Tryz.zeroValue410
 t53:=Tryz.underlying448
 a53:=Tryz.isAgg448
 z53:=Tryz.sizeOf448
 v53:=Tryz.zeroValue448
 t55:=Tryz.underlying252
 a55:=Tryz.isAgg252
 z55:=Tryz.sizeOf252
 v55:=Tryz.zeroValue252
 t66:=Tryz.underlying464
 a66:=Tryz.isAgg464
 z66:=Tryz.sizeOf464
 v66:=Tryz.zeroValue464
 t70:=Tryz.underlying468
 a70:=Tryz.isAgg468
 z70:=Tryz.sizeOf468
 v70:=Tryz.zeroValue468
 t76:=Tryz.underlying480
 a76:=Tryz.isAgg480
 z76:=Tryz.sizeOf480
 v76:=Tryz.zeroValue480
 t77:=Tryz.underlying371
 a77:=Tryz.isAgg371
 z77:=Tryz.sizeOf371
 v77:=Tryz.zeroValue371 }
end
section
open Go Go.RowKit At E Go.Sort
theorem cmpS_lt {a b:ByteArray}:M9 a b<0↔ltS a b=true:=by
 unfold M9;split
 ·next h=>simp [h]
 ·next h =>
  split
  ·simp [h]
  ·simp [h]
theorem cmpS_eq {a b:ByteArray}:M9 a b=0↔a=b:=by
 unfold M9;constructor
 ·intro h;split at h
  ·cases h
  ·next h1 =>
   split at h
   ·cases h
   ·next h2 =>
    rcases ltS_tri a b with k | k | k
    ·exact absurd k h1
    ·exact k
    ·exact absurd k h2
 ·intro h;subst h;rw [ltS_irrefl];rfl
theorem cmpB_lt (x y:Bl):ltOf cmpB x y=ltB x y:=by
 unfold ltOf cmpB ltB;by_cases h:x.cls=y.cls
 ·rw [if_pos (cmpS_eq.2 h),decide_eq_true h,h,ltS_irrefl];simp only [Bool.true_and,Bool.false_or];rw [Bool.eq_iff_iff,decide_eq_true_eq];exact cmpS_lt
 ·rw [if_neg (fun k=>h (cmpS_eq.1 k)),decide_eq_false h];simp only [Bool.false_and,Bool.or_false];rw [Bool.eq_iff_iff,decide_eq_true_eq];exact cmpS_lt
theorem ltB_no {x y:Bl} (h:ltB x y=false):x=y∨ltB y x=true:=by
 rcases ltB_tri x y with k | k | k
 ·rw [h] at k;cases k
 ·exact .inl k
 ·exact .inr k
theorem swoB:SWO (ltOf cmpB) where
 irrefl x:=by rw [cmpB_lt,Qs]
 trans x y z h1 h2:=by rw [cmpB_lt] at *;exact Pw h1 h2
 ntrans x y z h1 h2:=by
  rw [cmpB_lt] at *;cases e:ltB x z with
  | false=>rfl
  | true =>
   rcases ltB_no h1 with rfl | k1
   ·rw [e] at h2;cases h2
   ·rcases ltB_no h2 with rfl | k2
    ·rw [e] at h1;cases h1
    ·have:=Pw (Pw e k2) k1;rw [Qs] at this;cases this
theorem cmpLaysB (blk off size:Nat) (w:World) (hI:Inhabited Bl):CmpLays Tryz.prog 166 #[] blV 2 cmpB blk off size w:=fun m os dk _ x y=>(ordC1 x y _).mono fun _ _ ⟨he,hg⟩=>⟨he,hg.is⟩
end
end Go.Proofs.YtpofmnfkdkmieaaGreat
