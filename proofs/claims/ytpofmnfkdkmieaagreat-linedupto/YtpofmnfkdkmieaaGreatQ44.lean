/- What is proved here: LinedUptoSaid: for all lists of ints and -/
import Derived.Test.YtpofmnfkdkmieaaGreatQ01
import Derived.Test.YtpofmnfkdkmieaaGreatQ42
import Derived.Test.YtpofmnfkdkmieaaGreatQ43
set_option linter.unusedVariables false
set_option linter.unusedSimpArgs false
namespace Go.Proofs.YtpofmnfkdkmieaaGreat
namespace lined
open Go Go.RowKit Go.ChangeShapes Go.WideShapes Go.ChangeAt At E
section
variable {H:Type} {enc:TypeId × Value->H} {W:World}
theorem R5 {b o:Nat} {u:Value} (h:W.cell? ⟨b,o,none⟩=some u):∃ cur t fr,W.heap[b]?=some (.cells cur t fr)/\cur[o]?=some u:=by
 unfold World.cell? at h;split at h
 ·rename_i c t fr ho
  exact ⟨c,t,fr,ho,by simpa using h⟩
 ·cases h
theorem rd_ints {n:Nat} {cs:List Value} {x:DataW H × List MemPlace} (h:Rd enc W n 54 cs x) (hb:Rows.uptoBulk x.1<=1048576):∃ v l,cs=[v]/\S.IntsIn W v l/\∀ z ∈ l,Wy z:=by
 obtain ⟨v,l,rfl,hL,hQ, -⟩:=rd_list (α:=Int) (k:=1) (El:=fun _ r x=>r=[.int .i64 x]) (Q:=Wy) (μ:=fun _=>1) Le ce_i (by omega) (fun m cs' y hy _=>by
  obtain ⟨z,rfl,hz,hb⟩:=Zax ul_i hy;exact ⟨z,J,hz,by rw [hb];exact Nat.le_refl _⟩) h hb
 obtain ⟨p,c,rfl,⟨hl1,hl2⟩,hcell⟩:=hL.is;refine ⟨_,l,J,?_,hQ⟩;cases l with
 | nil=>exact .nil p c
 | cons y r =>
  obtain ⟨b,o,rr,rfl,hb',rfl,hc0⟩:=hcell 0 y rfl;obtain ⟨cur,t,fr,ho, -⟩:=R5 (hc0 0 _ rfl);refine .row b o c t fr cur (y::r) ho (fun i z hz=>?_) hl2 ?_ (by omega)
  ·obtain ⟨b',o',rr',e,_,rfl,hc⟩:=hcell i z hz;cases e;obtain ⟨cur',t',fr',ho',hu⟩:=R5 (hc 0 _ rfl);rw [ho] at ho';cases ho';rw [show o+i*1+0=o+i by omega] at hu;exact hu
  ·rcases Deep.open_slice1 Le ce_i h with ⟨e,_⟩ | ⟨a,len,cap,m,nn,V,D,Pl,e, -,hlc, -,hm, -,hx⟩
   ·cases e
   ·cases e;have hm':m=c:=by rw [hm];rfl
    have hc1:0<c:=by simp only [List.length_cons] at hl2;omega
    have:=(hx (c - 1) (by omega)).1;rw [Addr.add_lit] at this;obtain ⟨cur',t',fr',ho',hu⟩:=R5 this;rw [ho] at ho';cases ho';have:=(Array.getElem?_eq_some_iff.1 hu).1;omega
end
set_option maxRecDepth 100000 in
theorem Zdx (H:Type) (enc:TypeId × Value->H) (W:World) (base:Nat) (args:Array Value) (ds gs:List (DataW H)) (before:List MemPlace)
  (hval:∀ (j:Nat) t v,Tryz.f8.params[j]?=some t->args[j]?=some v->Value.okWide Tryz.prog W .any base t v)
  (hW:DataW.Whole enc Tryz.prog Tryz.f8.params.toList Rows.linedSpec.vars false W args.toList ds gs before) (hk:Rows.uptoSmall H (ds++gs)=true) :
  Calls Tryz.prog 8 args W fun e W'=>∃ v,e=.returned v/\Rows.linedSpec.post enc Tryz.prog Tryz.f8 false true false false W args v W':=by
 have hW':=hW;obtain ⟨p,q,hA0,hV,rfl,hfz,hnd⟩:=hW;have hA:DataW.TrodAll enc Tryz.prog W 0 (fun _=>true) true Tryz.f8.params.toList args.toList ds p:=hA0;rw [pars] at hA hval;obtain ⟨v0,vs0,d0,ds0,p0,q0,hargs,rfl,rfl,h0,r0⟩:=trodAll_cons hA;obtain ⟨v1,vs1,d1,ds1,p1,q1,hargs1,rfl,rfl,h1,r1⟩:=trodAll_cons r0;obtain ⟨rfl,rfl,rfl⟩:=trodAll_nil r1;subst hargs1;obtain rfl:args=#[v0,v1]:=by cases args;simp_all
 obtain ⟨rfl,rfl⟩:=trodVars_none hV;have hbulk:Rows.uptoBulkAll ([d0,d1]++[])<=1048576:=of_decide_eq_true hk;simp only [List.append_nil,Rows.uptoBulkAll] at hbulk;have k0:=h0;have k1:=h1;have hlt:=hW'.lt;obtain ⟨n0,g0⟩:=h0;obtain ⟨n1,g1⟩:=h1;have hv0:Value.okWide Tryz.prog W .any base 54 v0:=hval 0 54 v0 rfl rfl;have hv1:Value.okWide Tryz.prog W .any base 3 v1:=hval 1 3 v1 rfl rfl;obtain ⟨a0,l0,c0,rfl⟩:=okWide_slice Le hv0;have e0:(Value.slice a0 l0 c0).cells.toList=[.slice a0 l0 c0]:=rfl;rw [e0] at g0;obtain ⟨w0,raw,hw0,hi0,hr0⟩:=rd_ints g0 (show Rows.uptoBulk d0<=1048576 by omega);cases hw0;obtain ⟨z,rfl⟩:=okWide_int ul_i hv1;have e1:(Value.int .i64 z).cells.toList=[.int .i64 z]:=rfl;rw [e1] at g1;obtain ⟨z',hz',hok, -⟩:=Zax ul_i g1;cases hz';refine Calls.mono (S.lined_pure S.begin_any hi0 hr0 hok) ?_;rintro e W' ⟨rfl,hb⟩;have l0:∀ x ∈ p0,x.block<W.heap.size:=fun x hx=>hlt x (by simp [hx]);have l1:∀ x ∈ p1,x.block<W.heap.size:=fun x hx=>hlt x (by simp [hx]);refine ⟨_,J,[d0,d1],[],_,[],p0++(p1++[]),[],hW',?_,?_,J,hb.frame _,fun h=>by cases h⟩
 ·rw [ress];exact trodAll_cons_mk (shut_bool ul_bool true) trodAll_mk0
 ·rw [pars];exact ⟨p0,p1++[],Below.trod C9 (by kernel_rfl) (of_decide_eq_true (by kernel_rfl)) k0 hb l0,⟨p1,[],Below.trod C9 (by kernel_rfl) (of_decide_eq_true (by kernel_rfl)) k1 hb l1,J,J⟩,J⟩
end lined
end Go.Proofs.YtpofmnfkdkmieaaGreat
