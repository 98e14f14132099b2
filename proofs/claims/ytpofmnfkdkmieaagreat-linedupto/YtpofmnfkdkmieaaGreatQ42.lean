/- What is proved here: Sums gives true for all lists of ints, a -/
import Derived.Test.YtpofmnfkdkmieaaGreatQ41
import Derived.Test.YtpofmnfkdkmieaaGreatQ40
set_option linter.unusedVariables false
set_option linter.unusedSimpArgs false
namespace Go.Proofs.YtpofmnfkdkmieaaGreat
namespace S
open Go Go.RowKit E At
inductive IntsIn (W:World):Value->List Int->Prop
 | nil (p:Option Addr) (q:Nat):IntsIn W (.slice p 0 q) []
 | row (g off cap t:Nat) (fr:Nat × Nat) (cur:Array Value) (l:List Int) (hg:W.heap[g]?=some (.cells cur t fr)) (hc:∀ i x,l[i]?=some x->cur[off+i]?=some (.int .i64 x)) (h1:l.length<=cap) (h2:off+cap<=cur.size) (hb:l.length<=4000000):IntsIn W (.slice (some ⟨g,off,none⟩) l.length cap) l
def blOf:Value->List Nat
 | .slice (some a) (_+1) _=>[a.block]
 | _=>[]
section
variable (W:World) (bs:List Nat)
def Cw (g:Nat):SB:=match W.heap[g]? with
 | some (.cells cur t fr)=>.seen (cur.toList.map SV.v) t fr
 | _=>.defd
def sizS (g:Nat):Nat:=match W.heap[g]? with
 | some (.cells cur _ _)=>cur.size
 | _=>0
def bnS:Nm:=fun i=>bs[i]?.map fun g=>(g,sizS W g)
def gmS:Nat->Option SB:=fun i=>bs[i]?.map (Cw W)
def chS:Nat->List Nat->Ch
 | _,[]=>[]
 | n,g::r=>(n,Cw W g)::chS (n+1) r
end
section
variable {W:World} {bs:List Nat}
theorem Kt:∀ {bs:List Nat} {n:Nat} {p:Nat × SB},p ∈ chS W n bs->∃ i g,bs[i]?=some g/\p=(n+i,Cw W g)
 | [],n,p,h=>by cases h
 | g::r,n,p,h=>by
  rcases List.mem_cons.1 h with rfl | h
  ·exact ⟨0,g,J,J⟩
  ·obtain ⟨i,g',hi,rfl⟩:=Kt h;exact ⟨i+1,g',hi,by rw [Nat.add_assoc,Nat.add_comm 1 i]⟩
theorem G9:∀ {bs:List Nat} {n i g:Nat},bs[i]?=some g->(n+i,Cw W g) ∈ chS W n bs
 | [],n,i,g,h=>by cases h
 | a::r,n,0,g,h=>by cases h;exact List.mem_cons_self
 | a::r,n,i+1,g,h=>by
  have:=G9 (n:=n+1) (bs:=r) (i:=i) h;rw [show n+(i+1)=n+1+i by omega];exact List.mem_cons_of_mem _ this
theorem Zei:∀ (bs:List Nat) (n:Nat),((chS W n bs).map (·.1)).Nodup
 | [],n=>List.nodup_nil
 | g::r,n=>by
  show (n::(chS W (n+1) r).map (·.1)).Nodup;rw [List.nodup_cons];refine ⟨fun h=>?_,Zei r (n+1)⟩;obtain ⟨p,hp,e⟩:=List.mem_map.1 h;obtain ⟨i,g',_,rfl⟩:=Kt hp;simp only at e;omega
theorem L6 {g t:Nat} {fr:Nat × Nat} {cur:Array Value} (h:W.heap[g]?=some (.cells cur t fr)):Cw W g=.seen (cur.toList.map SV.v) t fr:=by unfold Cw;rw [h]
theorem F6 {g t:Nat} {fr:Nat × Nat} {cur:Array Value} (h:W.heap[g]?=some (.cells cur t fr)):sizS W g=cur.size:=by unfold sizS;rw [h]
theorem hsS:Hs (chS W 0 bs) (gmS W bs):=by
 refine ⟨fun p hp=>?_,Zei bs 0⟩;obtain ⟨i,g,hi,rfl⟩:=Kt hp;show (bs[0+i]?).map _=_;rw [Nat.zero_add,hi];rfl
theorem gxS (hn:bs.Nodup) (hc:∀ g ∈ bs,∃ cur t fr,W.heap[g]?=some (.cells cur t fr)):Gx W bs (bnS W bs) bs.length (gmS W bs) W:=by
 refine ⟨Fr.refl _ _,fun i hi=>?_,fun i sb hi=>?_,fun i j x y p q hi hj hp hq e=>?_⟩
 ·have:bs[i]?=none:=List.getElem?_eq_none hi;exact ⟨by unfold bnS;rw [this];rfl,by unfold gmS;rw [this];rfl⟩
 ·unfold gmS at hi;obtain ⟨g,hg,rfl⟩:=Option.map_eq_some_iff.1 hi;obtain ⟨cur,t,fr,ho⟩:=hc g (List.mem_of_getElem? hg);refine ⟨(g,sizS W g),by unfold bnS;rw [hg];rfl,?_,.inl (List.mem_of_getElem? hg)⟩;rw [L6 ho,F6 ho];exact ⟨cur.toList,G7 _ _,by rw [ho],by simp⟩
 ·unfold bnS at hp hq;obtain ⟨g,hg,rfl⟩:=Option.map_eq_some_iff.1 hp;obtain ⟨g',hg',rfl⟩:=Option.map_eq_some_iff.1 hq;simp only at e;subst e;exact (List.getElem?_inj (List.getElem?_eq_some_iff.1 hg).1 hn).1 (by rw [hg,hg'])
theorem IntsIn.wi {v:Value} {l:List Int} (h:IntsIn W v l) (hb:∀ g ∈ blOf v,g ∈ bs):∃ x,Wi x (chS W 0 bs) l/\den (bnS W bs) x=some v:=by
 cases h with
 | nil p q=>exact ⟨.v (.slice p 0 q),⟨[],_,.nil p q,List.Perm.refl _⟩,rfl⟩
 | row g off cap t fr cur l hg hc h1 h2 hb' =>
  match l,hc,h1,hb' with
  | [],hc,h1,hb'=>exact ⟨.v (.slice (some ⟨g,off,none⟩) 0 cap),⟨[],_,.nil _ _,List.Perm.refl _⟩,rfl⟩
  | y::r,hc,h1,hb' =>
   obtain ⟨i,hi⟩:=List.mem_iff_getElem?.1 (hb g List.mem_cons_self);have hin:=G9 (W:=W) (n:=0) hi;rw [Nat.zero_add,L6 hg] at hin;obtain ⟨s,t',hst⟩:=List.append_of_mem hin;refine ⟨.sl i off (y::r).length (cur.size - cap),⟨_,s++t',.row i off (cur.size - cap) t fr (cur.toList.map SV.v) (y::r) (fun k x hx=>?_) hb' ?_,?_⟩,?_⟩
   ·rw [Nat.mul_one,List.getElem?_map,Array.getElem?_toList,hc k x hx];rfl
   ·have e1:(cur.toList.map SV.v).length=cur.size:=by rw [List.length_map,Array.length_toList]
    have e2:(y::r).length<=cap:=h1;rw [e1];omega
   ·rw [hst];exact List.perm_middle
   ·show (bnS W bs i).map _=_;unfold bnS;rw [hi];simp only [Option.map_some,F6 hg,Option.some.injEq];rw [show cur.size - (cur.size - cap)=cap by omega]
theorem IntsIn.cells {v:Value} {l:List Int} (h:IntsIn W v l):∀ g ∈ blOf v,∃ cur t fr,W.heap[g]?=some (.cells cur t fr):=by
 intro g hm;cases h with
 | nil p q=>cases p<;>cases hm
 | row g' off cap t fr cur l hg hc h1 h2 hb' =>
  cases hl:l.length with
  | zero=>rw [hl] at hm;cases hm
  | succ n =>
   rw [hl] at hm;cases List.mem_singleton.1 hm;exact ⟨cur,t,fr,hg⟩
end
theorem Zel {W:World} {bs:List Nat} {f:FuncId} {args:List SV} {vs:List Value} {r:Value} (hn:bs.Nodup) (hc:∀ g ∈ bs,∃ cur t fr,W.heap[g]?=some (.cells cur t fr)) (hd:Ym (bnS W bs) args=some vs)
  (h:HF Tryz.prog f args bs.length (chS W 0 bs) fun u _ H'=>∃ Hz,u=.v r/\H'=Hz++chS W 0 bs):Jd Tryz.prog f vs.toArray W r:=by
 have hg:=gxS hn hc;have h1:=(h.2 (gmS W bs) hsS (fun i hi=>(hg.new i hi).2)).2 W bs (bnS W bs) W vs hg hd;refine (callsIn_wide.1 h1).mono ?_;rintro e w' ⟨v,N',G',x,B',⟨H',⟨Hz,rfl,rfl⟩,hx⟩,rfl,hsi,hdx,hg'⟩;have e1:=Xk hdx;subst e1;refine ⟨J,⟨hg'.low.os,hg'.low.tape,hg'.low.output,hg'.low.size,fun k hk=>?_⟩⟩;by_cases hm:k ∈ bs
 ·obtain ⟨i,hi⟩:=List.mem_iff_getElem?.1 hm;obtain ⟨cur,t,fr,ho⟩:=hc k hm;have hin:=G9 (W:=W) (n:=0) hi;rw [Nat.zero_add,L6 ho] at hin;have hG':G' i=some (.seen (cur.toList.map SV.v) t fr):=hx.hs.at_ _ (List.mem_append_right Hz hin);obtain ⟨p,hp,⟨us,hus,hob,_⟩,_⟩:=hg'.own i _ hG';have hil:i<bs.length:=(List.getElem?_eq_some_iff.1 hi).1;rw [hsi.old i hil] at hp;unfold bnS at hp;rw [hi] at hp;cases hp;rw [G7] at hus;cases hus;rw [hob,ho]
 ·exact hg'.low.block k hk hm
theorem hf_pure {f:FuncId} (hb:∃ fn,Tryz.prog.funcs[f]?=some fn/\fn.body.isNone=false) (h:∀ w,Jd Tryz.prog f #[] w (.bool true)) (N:Nat):HF Tryz.prog f [] N [] fun u N' H'=>u=Zb true/\N'=N/\H'=[]:=by
 refine ⟨hb,fun G hsG hfr=>⟨hb,fun w0 F B w vs hg hd=>?_⟩⟩;have hvs:vs=[]:=by simp only [Ym] at hd;cases hd;rfl
 subst hvs;refine CallsIn.mono (callsIn_wide.2 (h w)) ?_;rintro e w' ⟨rfl,hb'⟩;exact ⟨_,_,G,_,B,⟨_,⟨J,J,J⟩,⟨hsG,fun _ _ h _=>h,(fun p hp=>by cases hp),hfr⟩⟩,J,Since.refl _ _,J,hg.keep hb'⟩
theorem blOf_nd (v:Value):(blOf v).Nodup:=by
 unfold blOf;split
 ·exact List.nodup_cons.2 ⟨(fun h=>by cases h),List.nodup_nil⟩
 ·exact List.nodup_nil
end S
namespace S
open Go Go.RowKit E At
theorem lined_pure (hbeg:∀ w,Jd Tryz.prog 24 #[] w (.bool true)) {W:World} {v0:Value} {raw:List Int} {st:Int} (h0:IntsIn W v0 raw) (hi:∀ x ∈ raw,Wy x) (hl:Wy st):Jd Tryz.prog 8 #[v0,.int .i64 st] W (.bool true):=by
 have hn:=blOf_nd v0;have hc:=h0.cells;obtain ⟨x0,hw0,hd0⟩:=h0.wi (bs:=blOf v0) (fun g hg=>hg);exact Zel (args:=[x0,Zi st]) hn hc (by simp only [Ym,hd0,den]) (C8 (fun N=>hf_pure ⟨_,Tryz.func24,J⟩ hbeg N) hw0 hi hl)
end S
end Go.Proofs.YtpofmnfkdkmieaaGreat
