/- What is proved here: what each operation does to memory that  -/
import Derived.Test.YtpofmnfkdkmieaaGreatQ04
import Derived.Laws.BytesString
set_option linter.unusedVariables false
set_option linter.unusedSimpArgs false
namespace Go.Proofs.YtpofmnfkdkmieaaGreat
namespace S
open Go Go.RowKit E
section
variable {P:Program} {n:Nat} {w0 w w':World} {F:List Nat} {B:Nm} {σ:St} {a:Act} {E:SE} {D:List SD} {o:Oper} {r:OpR}
theorem arr1 {α:Type} {xs:Array α} {x:α} (h:xs.toList=[x]):xs=#[x]:=by rw [<- Array.toArray_toList (xs:=xs),h]
theorem Ha {α:Type} {xs:Array α} {x y:α} (h:xs.toList=[x,y]):xs=#[x,y]:=by rw [<- Array.toArray_toList (xs:=xs),h]
/-! ### Slices -/
theorem Rq {b e sz k:Nat} {c:List SV} (h:rowOf σ b=some (e,sz,k,c)):σ.get b=some (.row e sz k c):=by
 unfold rowOf at h;split at h
 ·rename_i hg;cases h;exact hg
 ·cases h
theorem Sx.row (hs:Sx w0 F B σ w) {b e sz k:Nat} {c:List SV} {p:Nat × Nat} (hb:σ.get b=some (.row e sz k c)) (hp:B b=some p) :
  ∃ vs cur,Ym B c=some vs/\vs.length=k*sz/\w.heap[p.1]?=some (.cells cur e (0,0))/\k<=p.2/\p.2<=maxLen/\cur.size=p.2*sz/\cur.toList.take (k*sz)=vs:=by
 obtain ⟨q,hq,hk,_⟩:=hs.own b _ hb;rw [hp] at hq;cases hq;exact hk
/-- One block may have changed; it is let go. -/
theorem Sx.loose (h:Sx w0 F B σ w) {i:Nat} {old:SB} {p:Nat × Nat} (hi:σ.get i=some old) (hp:B i=some p) (hg:w.grownBy w' (some p.1)):Sx w0 F B (σ.set i none) w':=by
 obtain ⟨q,hq,_,hF⟩:=h.own i old hi;rw [hp] at hq;cases hq;have hl:=h.idl hi;refine ⟨h.low.trans (G:=[p.1]) ⟨hg.os,hg.tape,hg.output,hg.size,fun k hk hn=>hg.block k hk (fun e=>hn (by cases e;simp))⟩ (fun x hx=>by simp at hx;subst hx;exact hF),h.bd,fun k hk=>⟨(h.new k hk).1,Qz hl (h.new k hk).2⟩,fun j x hj=>?_,fun j k x y p q hj hk=>h.apart j k x y p q (W2 hl hj).2 (W2 hl hk).2⟩;obtain ⟨hne,hj⟩:=W2 hl hj;obtain ⟨q,hq,hk,hF'⟩:=h.own j x hj;exact ⟨q,hq,by rw [hg.block q.1 (h.lt hj hq) (fun e=>hne (h.apart j i x old q p hj hi hq hp (Option.some.inj e)))];exact hk,hF'⟩
theorem Sx.loose0 (h:Sx w0 F B σ w) (hg:w.grownBy w' none):Sx w0 F B σ w':=h.keep ⟨hg.os,hg.tape,hg.output,hg.size,fun k hk=>hg.block k hk (by simp)⟩
theorem Ge {e sz k:Nat} {v:Value} {xs:List Value} (h:w.ownsRow 0 e sz v k xs) (hn:v≠.slice none 0 0):∃ g c cur,v=.slice (some ⟨g,0,none⟩) k c/\w.heap[g]?=some (.cells cur e (0,0))/\k<=c/\c<=maxLen/\cur.size=c*sz/\cur.toList.take (k*sz)=xs/\xs.length=k*sz:=by
 rcases h.2 with ⟨e1,_⟩ | ⟨g,c,cur,hv,_,hg,h1,h2,h3,h4⟩
 ·exact absurd e1 hn
 ·exact ⟨g,c,cur,hv,hg,h1,h2,h3,h4,h.1⟩
/-- What an append leaves. -/
theorem J4 {b e sz k:Nat} {old:SB} {p:Nat × Nat} {v':Value} {cs:List SV} {xs:List Value} (hs:Sx w0 F B σ w) (hb:σ.get b=some old) (hp:B b=some p) (hr:(execOp a.eval o).run P w=.ok (.value v') w') (hg:w.grownBy w' (some p.1)) (ho:w'.ownsRow 0 e sz v' k xs) (hn:v'≠.slice none 0 0)
  (hw:∀ g,v'.ownBlock=some g->g=p.1\/w.heap.size<=g) (hd:Ym B cs=some xs):Wx P w0 F B a w o (σ.set b none,some (.row e sz k cs),fun r=>.sl r 0 k 0):=by
 obtain ⟨g,c,cur,hv,hgb,h1,h2,h3,h4,h5⟩:=Ge ho hn;have hwg:=hw g (by rw [hv];rfl);obtain ⟨q,hq,_,hF⟩:=hs.own b old hb;rw [hp] at hq;cases hq;have hl:=hs.idl hb;refine ⟨v',w',(g,c),hr,hs.loose hb hp hg,fun r hr=>⟨⟨xs,cur,Y9 (Pre.upd hr _) _ _ hd,h5,hgb,h1,h2,h3,h4⟩,by simp [den,X2,hv]⟩,?_,fun i y q hi hq e=>?_⟩
 ·rcases hwg with e | e
  ·show g ∈ F\/_<=g;rw [e];exact hF
  ·exact .inr (Nat.le_trans hs.low.size e)
 ·obtain ⟨hne,hi⟩:=W2 hl hi;rcases hwg with e' | e'
  ·exact hne (hs.apart i b y old q p hi hb hq hp (by rw [e];exact e'))
  ·have:=hs.lt hi hq;simp only at e;omega
theorem Nz {e sz k:Nat} {v':Value} {cs:List SV} {xs:List Value} (hs:Sx w0 F B σ w) (hr:(execOp a.eval o).run P w=.ok (.value v') w') (hg:w.grownBy w' none) (ho:w'.ownsRow w.heap.size e sz v' k xs) (hn:v'≠.slice none 0 0)
  (hd:Ym B cs=some xs):Wx P w0 F B a w o (σ,some (.row e sz k cs),fun r=>.sl r 0 k 0):=by
 rcases ho.2 with ⟨e1,_⟩ | ⟨g,c,cur,hv,hge,hgb,h1,h2,h3,h4⟩
 ·exact absurd e1 hn
 ·refine ⟨v',w',(g,c),hr,hs.loose0 hg,fun r hr=>⟨⟨xs,cur,Y9 (Pre.upd hr _) _ _ hd,ho.1,hgb,h1,h2,h3,h4⟩,by simp [den,X2,hv]⟩,.inr (Nat.le_trans hs.low.size hge),fun i y q hi hq e=>?_⟩;have:=hs.lt hi hq;simp only at e;omega
theorem Vv {x y:Operand} {xs:Array Operand} {ts:Array TypeId} {v':Value} (ho:o.op=.call ⟨.builtin .append,xs,ts⟩) (hx:xs.toList=[x,y]) (h:(Builtin.append_ ts o.type #[a.eval x,a.eval y]).run P w=.ok v' w') :
  (execOp a.eval o).run P w=.ok (.value v') w':=by
 simp only [execOp,ho,resolve,invoke,builtin,Ha hx];simp [h]
theorem Np {t u ty e:Nat} {i:TypeInfo} {v v':Value} {k:Nat} {xs:List Value} {s:ByteArray} (ht:P.underlying t=some (.slice e)) (hu:P.underlying u=some .string) (hi:P.info? e=some i) (hz:i.zero=some (.int .u8 0)) (hsz:i.size=1) (hb:i.bytes=1) (hown:w.ownsRow 0 e 1 v k xs)
  (h63:k+s.size<=maxLen) (hbytes:k+s.size<=140737488355328) (hr:(Builtin.append_ #[t,u] ty #[v,.string s]).run P w=.ok v' w') (hne:v≠.slice none 0 0) :
  ∀ g,v'.ownBlock=some g->v.ownBlock=some g\/w.heap.size<=g:=by
 intro g hg;have hsmall:k+s.size<=9223372036854775807:=by simp only [maxLen] at h63;omega
 have hxl:xs.length=k:=by simpa using hown.1
 rcases hown.2 with ⟨rfl,rfl⟩ | ⟨g0,cap,cur,rfl,_,hg0,hnc,hcm,hcs,htake⟩
 ·exact absurd J hne
 ·by_cases hroom:k+s.size<=cap
  ·have hcs':cur.size=cap:=by simpa using hcs
   have hr':=Go.Lib.run_append_room_string (P:=P) w t u ty e i ht hu hi hsz g0 k cap cur hg0 s hroom (by omega);rw [hr] at hr';cases hr';exact .inl hg
  ·have holds:∀ j u,xs[j]?=some u->w.cell? ((⟨g0,0,none⟩:Addr).add j)=some u:=hown.cells (g:=g0) rfl;have hr':=Go.Lib.run_append_grow_string (P:=P) w t u ty e i (.int .u8 0) ht hu hi hz ⟨g0,0,none⟩ k cap xs (by rw [hsz];simpa using hxl) holds s (by omega) (by omega) (by rw [hb];exact growslice_fits (by omega) (by omega));rw [hr] at hr';cases hr';simp only [Value.ownBlock,Option.some.injEq] at hg;exact .inr (by omega)
theorem Mk {i:TypeInfo} (h:isU8 i=true):i.zero=some (.int .u8 0)/\i.size=1/\i.bytes=1:=by
 unfold isU8 at h;split at h
 ·rename_i hz
  rw [Bool.and_eq_true] at h;exact ⟨hz,Nat.eq_of_beq_eq_true h.1,Nat.eq_of_beq_eq_true h.2⟩
 ·cases h
theorem Ov {u:Nat} (h:isStrT P u=true):P.underlying u=some .string:=by
 unfold isStrT at h;split at h
 ·rename_i hu;exact hu
 ·cases h
theorem Jm (y:ByteArray):Ym B (strC y)=some (Go.Lib.strCells y):=by
 unfold strC Go.Lib.strCells;rw [show (y.data.toList.map fun q=>SV.v (.int .u8 q.toNat))=(y.data.toList.map fun q=>Value.int .u8 q.toNat).map SV.v by rw [List.map_map];rfl];exact Te _
theorem Tv {e sz k:Nat} {l:List SV} {ok:Bool} {τ:St} (h:apNew τ ok e sz k l=some r):ok=true/\r=(τ,some (.row e sz k l),fun r=>.sl r 0 k 0):=by
 unfold apNew at h;cases ok with
 | false=>cases h
 | true=>cases h;exact ⟨J,J⟩
theorem Es (P:Program) (hs:Sx w0 F B σ w) {b' o' m:Nat} {c':List SV} {p':Nat × Nat} (hg:(σ.get b').bind Wa=some c') (hp':B b'=some p') (hlen:(cutAt c' o' m).length=m) :
  ∃ news,Ym B (cutAt c' o' m)=some news/\news.length=m/\∀ j u,news[j]?=some u->w.cell? ((⟨p'.1,o',none⟩:Addr).add j)=some u:=by
 cases hb:σ.get b' with
 | none=>rw [hb] at hg;cases hg
 | some sb =>
  rw [hb] at hg;have hl:Wa sb=some c':=hg;obtain ⟨vs,hd,_⟩:=Qr (P:=P) hs hb hl hp' hlen;refine ⟨vs,hd,by rw [Y7 hd,hlen],fun j u hj=>?_⟩;rw [Addr.add_lit]
  have hjl:j<m:=by
   have h1:=(List.getElem?_eq_some_iff.1 hj).1;rw [Y7 hd,hlen] at h1;exact h1
  have hu':∃ z,(cutAt c' o' m)[j]?=some z:=by rw [List.getElem?_eq_getElem (by rw [hlen];exact hjl)];exact ⟨_,J⟩
  obtain ⟨z,hz⟩:=hu';obtain ⟨y,hy,hdy⟩:=Vt hd hz;rw [hj] at hy;cases hy;unfold cutAt at hz;rw [List.getElem?_take,if_pos hjl,List.getElem?_drop] at hz;obtain ⟨q,hq,hc⟩:=hs.cell hb hl hp' hz;rw [hdy] at hq;cases hq;exact hc
theorem Cv {x y:Operand} {t u:Nat} {xs:Array Operand} {ts:Array TypeId} {s v:SV} (ho:o.op=.call ⟨.builtin .append,xs,ts⟩) (hxs:xs.toList=[x,y]) (hts:ts.toList=[t,u]) (hs:Sx w0 F B σ w) (ha:Ags n a E D B) (hx:sev E x=some s) (hy:sev E y=some v)
  (h:exAppend P σ t u s v=some r):Wx P w0 F B a w o r:=by
 have ex:=ha.eval hx;have ey:=ha.eval hy;unfold exAppend at h;split at h
 ·rename_i e hu
  cases hi:P.info? e with
  | none=>rw [hi] at h;cases h
  | some i =>
   rw [hi] at h;simp only at h;cases hzk:zeroOk i with
   | false=>rw [hzk] at h;cases h
   | true =>
    rw [hzk] at h;simp only [cond_true] at h;unfold zeroOk at hzk;cases hz:i.zero with
    | none=>rw [hz] at hzk;cases hzk
    | some z =>
     rw [hz] at hzk;simp only [Bool.and_eq_true] at hzk;have hpos:0<i.size:=by simpa using hzk.1
     have hzs:=Nat.eq_of_beq_eq_true hzk.2;have hTA:TA P t e i.size i.bytes z:=⟨hu,by simp [hi,hz],hzs,hpos⟩;unfold apS at h;split at h
     ·rename_i b l
      cases hro:rowOf σ b with
      | none=>rw [hro] at h;cases h
      | some q =>
       obtain ⟨e',sz,k,c⟩:=q;rw [hro] at h;simp only at h;have hb:=Rq hro;obtain ⟨p,hp,hv⟩:=V6 ex;cases hg:Nat.beq e e'&&Nat.beq sz i.size&&Nat.ble l k with
       | false=>rw [hg] at h;cases h
       | true =>
        rw [hg] at h;simp only [cond_true] at h;simp only [Bool.and_eq_true] at hg;have e1:=Nat.eq_of_beq_eq_true hg.1.1;have e2:=Nat.eq_of_beq_eq_true hg.1.2;have hlk:=Nat.le_of_ble_eq_true hg.2;subst e1;subst e2;obtain ⟨vs,cur,hvs,hlen,hob,hkc,hcm,hcs,htk⟩:=hs.row hb hp;have hlz:l*i.size<=k*i.size:=Nat.mul_le_mul_right _ hlk
        have hown:w.ownsRow 0 e i.size (.slice (some ⟨p.1,0,none⟩) l (p.2 - 0)) l (vs.take (l*i.size)):=by
         refine ⟨by rw [List.length_take,hlen];omega,.inr ⟨p.1,p.2,cur,rfl,Nat.zero_le _,hob,Nat.le_trans hlk hkc,hcm,hcs,?_⟩⟩;rw [<- htk,List.take_take];congr 1;omega
        have hdc:Ym B (c.take (l*i.size))=some (vs.take (l*i.size)):=Td _ hvs;unfold apTo at h;split at h
        ·-- nothing is appended
         cases htu:Nat.beq t u with
         | false=>rw [htu] at h;cases h
         | true =>
          rw [htu] at h;have:=Nat.eq_of_beq_eq_true htu;subst this;simp only [cond_true] at h;have ey':=Xk ey;refine Y2 hs ex (Vv ho hxs ?_) h;rw [Ha hts,hv,ey'];have hle:l<=p.2:=Nat.le_trans hlk hkc;simp [Builtin.append_,run_underlying hu,sizeOf,typeInfo,hi,Builtin.lenOf,Builtin.firstCells,storeCells,hle]
        ·-- a text
         rename_i q
         obtain ⟨hok,rfl⟩:=Tv h;simp only [Bool.and_eq_true] at hok;have hus:=Ov hok.1.1;obtain ⟨hz8,hs1,hb1⟩:=Mk hok.1.2;have hbd:=Nat.le_of_ble_eq_true hok.2;rw [hb1] at hbd;have ey':=Xk ey;rw [hs1] at hown hdc;rw [Nat.mul_one] at hown hdc;obtain ⟨v',w',hr,how,hgr,hne⟩:=Go.Lib.run_append_own_string w 0 t u o.type e i hu hus hi hz8 hs1 hb1 _ l _ hown q (by simp only [maxLen];omega) (by omega) (Nat.zero_le _);have hw:=Np hu hus hi hz8 hs1 hb1 hown (by simp only [maxLen];omega) (by omega) hr (by simp);rw [hs1]
         exact J4 hs hb hp (Vv ho hxs (by rw [Ha hts,hv,ey'];exact hr)) hgr how (fun e=>by simp [e] at hne) (fun g hgg=>by
          rcases hw g hgg with h1 | h1
          ·exact .inl (by simp only [Value.ownBlock,Option.some.injEq] at h1;exact h1.symm)
          ·exact .inr h1) (Y8 hdc (Jm q))
        ·-- a slice
         rename_i b' o' m j'
         cases hgc:(σ.get b').bind Wa with
         | none=>rw [hgc] at h;cases h
         | some c' =>
          rw [hgc] at h;simp only at h;obtain ⟨hok,rfl⟩:=Tv h;simp only [Bool.and_eq_true] at hok;have htu:=Nat.eq_of_beq_eq_true hok.1.1.1.1;subst htu;have hcl:=Nat.eq_of_beq_eq_true hok.1.1.1.2;have hon:=hok.1.1.2;have hbd:=Nat.le_of_ble_eq_true hok.1.2;have hm0:0<m:=by simpa using hok.2
          obtain ⟨p',hp',hv'⟩:=V6 ey;obtain ⟨news,hdn,hln,hcn⟩:=Es P hs hgc hp' hcl;have hbd1:l+m<=1000000:=Nat.le_trans (Nat.le_mul_of_pos_right (l+m) (by omega)) hbd;have hbd2:(l+m)*i.bytes<=1000000:=Nat.le_trans (Nat.mul_le_mul_left _ (by omega)) hbd;obtain ⟨v',w',hr,how,hgr,hne⟩:=run_append_own w 0 t o.type e i z i.size i.bytes hu hi hz rfl rfl hzs hpos _ l _ hown ⟨p'.1,o',none⟩ m (p'.2 - j') news hln hcn (Ra hon hdn) (by simp only [maxLen];omega) (by omega) (Nat.zero_le _);have hw:=K6 hTA hown hln hcn (Ra hon hdn) (by simp only [maxLen];omega) (by omega) hr
          exact J4 hs hb hp (Vv ho hxs (by rw [Ha hts,hv,hv'];exact hr)) hgr how (fun e=>by simp [e] at hne) (fun g hgg=>by
           rcases hw g hgg with h1 | h1
           ·exact .inl (by simp only [Value.ownBlock,Option.some.injEq] at h1;exact h1.symm)
           ·exact .inr h1) (Y8 hdc hdn)
        ·cases h
     ·-- to nothing
      have ex':=Xk ex;unfold apNil at h;split at h
      ·rename_i q
       obtain ⟨hok,rfl⟩:=Tv h;simp only [Bool.and_eq_true] at hok;have hus:=Ov hok.1.1.1;obtain ⟨hz8,hs1,hb1⟩:=Mk hok.1.1.2;have hbd:=Nat.le_of_ble_eq_true hok.1.2;have hq0:0<q.size:=by simpa using hok.2
       rw [hb1] at hbd;have ey':=Xk ey;obtain ⟨v',w',hr,how,hgr,hne⟩:=Go.Lib.run_append_own_string w w.heap.size t u o.type e i hu hus hi hz8 hs1 hb1 _ 0 _ (World.ownsRow_nil w w.heap.size e 1) q (by simp only [maxLen];omega) (by omega) (Nat.le_refl _);simp only [Nat.zero_add,List.nil_append] at how;rw [hs1];exact Nz hs (Vv ho hxs (by rw [Ha hts,ex',ey'];exact hr)) hgr how (fun e=>by rw [hne] at e;omega) (Jm q)
      ·rename_i b' o' m j'
       cases hgc:(σ.get b').bind Wa with
       | none=>rw [hgc] at h;cases h
       | some c' =>
        rw [hgc] at h;simp only at h;obtain ⟨hok,rfl⟩:=Tv h;simp only [Bool.and_eq_true] at hok;have htu:=Nat.eq_of_beq_eq_true hok.1.1.1.1;subst htu;have hcl:=Nat.eq_of_beq_eq_true hok.1.1.1.2;have hon:=hok.1.1.2;have hbd:=Nat.le_of_ble_eq_true hok.1.2;have hm0:0<m:=by simpa using hok.2
        obtain ⟨p',hp',hv'⟩:=V6 ey;obtain ⟨news,hdn,hln,hcn⟩:=Es P hs hgc hp' hcl;have hbd1:m<=1000000:=Nat.le_trans (Nat.le_mul_of_pos_right m (by omega)) hbd;have hbd2:m*i.bytes<=1000000:=Nat.le_trans (Nat.mul_le_mul_left _ (by omega)) hbd;obtain ⟨v',w',hr,how,hgr,hne⟩:=run_append_own w w.heap.size t o.type e i z i.size i.bytes hu hi hz rfl rfl hzs hpos _ 0 _ (World.ownsRow_nil w w.heap.size e i.size) ⟨p'.1,o',none⟩ m (p'.2 - j') news hln hcn (Ra hon hdn) (by simp only [maxLen];omega) (by simp only [Nat.zero_add];omega) (Nat.le_refl _);simp only [Nat.zero_add,List.nil_append] at how;exact Nz hs (Vv ho hxs (by rw [Ha hts,ex',hv'];exact hr)) hgr how (fun e=>by rw [hne] at e;omega) hdn
      ·cases h
     ·cases h
 ·cases h
end
end S
namespace S
open Go Go.RowKit E
section
variable {P:Program} {n:Nat} {w0 w w':World} {F:List Nat} {B:Nm} {σ:St} {a:Act} {E:SE} {D:List SD} {o:Oper} {r:OpR}
/-! ### Parts of slices -/
theorem I8 {d m:Nat} {x:Option Operand} (h:bnd E d x=some m):(x=none/\m=d)\/∃ y k,x=some y/\sev E y=some (.v (.int k (.ofNat m))):=by
 cases x with
 | none=>simp only [bnd] at h;cases h;exact .inl ⟨J,J⟩
 | some y =>
  obtain ⟨k,hk⟩:=Us h;exact .inr ⟨y,k,J,hk⟩
theorem Zbo {x:Operand} {t:Nat} {lo hi mx:Option Operand} (ho:o.op=.slice t x lo hi mx) (hs:Sx w0 F B σ w) (ha:Ags n a E D B) (h:exSlice P E σ o t lo hi mx (sev E x)=some r):Wx P w0 F B a w o r:=by
 cases hx:sev E x with
 | none=>rw [hx] at h;exact Xv hs ha h
 | some v =>
  rw [hx] at h;cases v with
  | sl b k l j =>
   obtain ⟨p,hp,e⟩:=V6 (ha.eval hx);simp only [exSlice] at h;split at h
   ·rename_i m q hlo hhi
    unfold exSliceL at h;split at h
    ·rename_i e0 e' sz k' c' hu hro
     have hb:=Rq hro;cases hg:Nat.beq e0 e'&&szIs P e0 sz&&Nat.ble m q&&Nat.ble (j+q) k'&&(Nat.beq m 0 || Nat.blt (j+m) k') with
     | false=>rw [hg] at h;cases h
     | true =>
      rw [hg] at h;simp only [cond_true] at h;simp only [Bool.and_eq_true,Bool.or_eq_true] at hg;obtain ⟨⟨⟨⟨h1,h2⟩,h3⟩,h4⟩,h5⟩:=hg;have e1:=Nat.eq_of_beq_eq_true h1;subst e1;have hmq:=Nat.le_of_ble_eq_true h3;have hjq:=Nat.le_of_ble_eq_true h4
      have hsz:tSize P e0=some sz:=by
       unfold szIs at h2;cases hz:tSize P e0 with
       | none=>rw [hz] at h2;cases h2
       | some n=>rw [hz] at h2;rw [Nat.eq_of_beq_eq_true h2]
      obtain ⟨vs,cur,_,_,_,hkc,_⟩:=hs.row hb hp;have hq:q<=p.2 - j:=by omega
      have h5':m=0\/j+m<k':=by
       rcases h5 with h | h
       ·exact .inl (Nat.eq_of_beq_eq_true h)
       ·exact .inr (by simpa using h)
      refine Y2 hs (v:=.sl b (k+m*sz) (q - m) (j+m)) (x:=.slice (some ⟨p.1,k+m*sz,none⟩) (q - m) (p.2 - (j+m))) (by simp [den,hp]) ?_ h;have hz:=Vc hsz w
      have hptr:(if p.2 - j=m then (some ⟨p.1,k,none⟩:Option Addr) else some ((⟨p.1,k,none⟩:Addr).add (m*sz)))=some ⟨p.1,k+m*sz,none⟩:=by
       rcases h5' with h0 | h0
       ·subst h0;split<;>simp [Addr.add]
       ·rw [if_neg (by omega)];simp [Addr.add_lit]
      have hsub:p.2 - j - m=p.2 - (j+m):=by omega
      simp only [execOp,ho,e];rcases I8 hlo with ⟨rfl,rfl⟩ | ⟨y,ky,rfl,hy⟩<;>rcases I8 hhi with ⟨rfl,rfl⟩ | ⟨z,kz,rfl,hzz⟩
      ·simp only [Option.map_none,Instr.sliceAt,Sem.run_bind,run_underlying hu,Result.andThen_ok,Instr.slice,Instr.sliceBounds,Sem.run_pure,hz];simp [hsub,Addr.add]
      ·have ez:=Xk (ha.eval hzz);simp only [Option.map_none,Option.map_some,ez,Instr.sliceAt,Sem.run_bind,run_underlying hu,Result.andThen_ok,Instr.slice,Instr.sliceBounds,Sem.run_pure,Instr.sliceBound,asIntOf];simp [hq,hz,hsub,Addr.add]
      ·have ey:=Xk (ha.eval hy);simp only [Option.map_none,Option.map_some,ey,Instr.sliceAt,Sem.run_bind,run_underlying hu,Result.andThen_ok,Instr.slice,Instr.sliceBounds,Sem.run_pure,Instr.sliceBound,asIntOf];simp [hmq,hz,hptr,hsub]
      ·have ez:=Xk (ha.eval hzz);have ey:=Xk (ha.eval hy);simp only [Option.map_some,Option.map_none,ez,ey,Instr.sliceAt,Sem.run_bind,run_underlying hu,Result.andThen_ok,Instr.slice,Instr.sliceBounds,Sem.run_pure,Instr.sliceBound,asIntOf];simp [hq,hmq,hz,hptr,hsub]
    ·cases h
   ·cases h
  | _=>exact Xv hs ha h
theorem ok_len {x:Operand} {t:Nat} {xs:Array Operand} {ts:Array TypeId} (ho:o.op=.call ⟨.builtin .len,xs,ts⟩) (hxs:xs.toList=[x]) (hts:ts.toList=[t]) (hs:Sx w0 F B σ w) (ha:Ags n a E D B) (h:exLen P E σ o t (sev E x)=some r):Wx P w0 F B a w o r:=by
 cases hx:sev E x with
 | none=>rw [hx] at h;exact Xv hs ha h
 | some v =>
  rw [hx] at h;cases v with
  | sl b k l j =>
   obtain ⟨p,hp,e⟩:=V6 (ha.eval hx);simp only [exLen] at h;cases hm:elemSz P t with
   | none=>rw [hm] at h;cases h
   | some m =>
    rw [hm] at h;simp only [Option.bind_some] at h;obtain ⟨e',hu,_⟩:=Sf hm;refine Y2 hs (v:=.v (.int .i64 (.ofNat l))) (x:=.int .i64 (.ofNat l)) J ?_ h;simp only [execOp,ho,resolve,invoke,builtin,arr1 hxs,arr1 hts];simp [e,Builtin.len_,run_underlying hu,goInt]
  | _=>exact Xv hs ha h
theorem ok_copy {x y:Operand} {t u:Nat} {xs:Array Operand} {ts:Array TypeId} (ho:o.op=.call ⟨.builtin .copy,xs,ts⟩) (hxs:xs.toList=[x,y]) (hts:ts.toList=[t,u]) (hs:Sx w0 F B σ w) (ha:Ags n a E D B) (h:exCopy P E σ o t (sev E x) (sev E y)=some r):Wx P w0 F B a w o r:=by
 unfold exCopy at h;split at h
 ·rename_i b k l j hx hy
  obtain ⟨p,hp,e⟩:=V6 (ha.eval hx);have ey:=Xk (ha.eval hy);cases hm:elemSz P t with
  | none=>rw [hm] at h;cases h
  | some m =>
   rw [hm] at h;simp only [Option.bind_some] at h;obtain ⟨e',hu,hsz⟩:=Sf hm;refine Y2 hs (v:=.v (.int .i64 (.ofNat 0))) (x:=.int .i64 (.ofNat 0)) J ?_ h;have hz:=Vc hsz w;simp only [execOp,ho,resolve,invoke,builtin,Ha hxs,Ha hts];simp [e,ey,Builtin.copy_,run_underlying hu,Builtin.lenOf,hz,Builtin.firstCells,storeCells,goInt]
 ·exact Xv hs ha h
/-! ### Maps -/
theorem Zbq {t:Nat} (ho:o.op=.makeMap t none) (hs:Sx w0 F B σ w) (h:(some (σ,some (.map []),fun r=>SV.mp r):Option OpR)=some r):Wx P w0 F B a w o r:=by
 cases h;refine Ru (ob:=.map #[] 0) (c:=0) (x:=.map (some w.heap.size)) hs ?_ (fun r hr=>⟨⟨#[],0,J,trivial⟩,by simp [den,X2]⟩);simp only [execOp,ho,Option.map_none];simp [Instr.makeMap,newObj];rfl
theorem Pc {t e:Nat} (h:strMap P t=some e):∃ kt,P.underlying t=some (.map kt e)/\P.underlying kt=some .string:=by
 unfold strMap at h;split at h
 ·rename_i kt e' hu
  split at h
  ·rename_i hk;cases h;exact ⟨kt,hu,hk⟩
  ·cases h
 ·cases h
theorem Ko (s k:ByteArray):(s==k)=eqS s k:=by
 rcases s with ⟨d⟩;rcases k with ⟨d'⟩;show (d==d')=decide (ByteArray.mk d=ByteArray.mk d');by_cases h:d=d'
 ·subst h;simp
 ·rw [decide_eq_false (by intro e;cases e;exact h J)];exact beq_eq_false_iff_ne.2 h
theorem O1 (s:ByteArray):∀ {es:List (ByteArray × SV)} {l:List MapEntry} (i:Nat),Qi B es l->∃ q,Instr.findNow .string (.string s) l i=some q/\(match findS s es with
  | none=>q=none
  | some v=>∃ j y,q=some (j,y)/\den B v=some y)
 | [],[],i,_=>⟨none,rfl,rfl⟩
 | [],_::_,i,h=>h.elim
 | _::_,[],i,h=>h.elim
 | (k,v)::es,x::l,i,h=>by
  obtain ⟨h1,h2,h3⟩:=h;simp only [Instr.findNow,h1,Instr.sameNow,findS,Ko];cases hb:eqS s k with
  | true=>exact ⟨some (i,x.val),rfl,i,x.val,rfl,h2⟩
  | false=>exact O1 s (i+1) h3
theorem Sx.mapAt (hs:Sx w0 F B σ w) {b:Nat} {es:List (ByteArray × SV)} {p:Nat × Nat} (hb:σ.get b=some (.map es)) (hp:B b=some p):∃ l c,w.heap[p.1]?=some (.map l c)/\Qi B es l.toList:=by
 obtain ⟨q,hq,hk,_⟩:=hs.own b _ hb;rw [hp] at hq;cases hq;exact hk
theorem Nr {kt:Nat} (hk:P.underlying kt=some .string) (em:Bool) (s:ByteArray):(Instr.checkKey em 10000 kt (.string s)).run P w=.ok () w:=by
 show (Instr.checkKey em (9999+1) kt (.string s)).run P w=.ok () w;rw [Instr.checkKey];simp [run_underlying hk]
theorem ok_look {t:Nat} {x y:Operand} {ok:Bool} (ho:o.op=.lookup t x y ok) (hs:Sx w0 F B σ w) (ha:Ags n a E D B) (h:exLook P σ t ok (sev E x) (sev E y)=some r):Wx P w0 F B a w o r:=by
 unfold exLook at h;split at h
 ·rename_i b s hx hy
  split at h
  ·rename_i e es hm hb
   obtain ⟨kt,hu,hk⟩:=Pc hm;obtain ⟨p,hp,ex⟩:=O5 (ha.eval hx);have ey:=Xk (ha.eval hy);obtain ⟨l,c,hob,hden⟩:=hs.mapAt hb hp;cases hz:tZero P e with
   | none=>rw [hz] at h;cases h
   | some z =>
    rw [hz] at h;simp only [Option.bind_some] at h;obtain ⟨q,hq,hf⟩:=O1 (B:=B) s 0 hden;have hg:(getObj p.1).run P w=.ok (.map l c) w:=by simp [getObj,Sem.run,hob]
    have hch:=Nr (P:=P) (w:=w) hk l.isEmpty s;have hfk:(Instr.findKey kt (.string s) l.toList).run P w=.ok q w:=by simp [Instr.findKey,run_underlying hk,hq]
    cases hfs:findS s es with
    | none =>
     rw [hfs] at hf h;simp only at hf;subst hf
     have hr:(execOp a.eval o).run P w=.ok (.value (if ok then .tuple #[z,.bool false] else z)) w:=by
      simp only [execOp,ho,ex,ey];cases ok<;>simp [Instr.lookup,run_underlying hu,hg,hch,hfk,U9 hz w]
     cases ok with
     | true=>exact Y2 hs (v:=.tup [ofV z,.v (.bool false)]) (x:=.tuple #[z,.bool false]) (by simp [den,Ym,Pr]) hr h
     | false=>exact Y2 hs (v:=ofV z) (x:=z) (Pr B z) hr h
    | some v =>
     rw [hfs] at hf h;obtain ⟨j,y',hq',hd⟩:=hf;subst hq'
     have hr:(execOp a.eval o).run P w=.ok (.value (if ok then .tuple #[y',.bool true] else y')) w:=by
      simp only [execOp,ho,ex,ey];cases ok<;>simp [Instr.lookup,run_underlying hu,hg,hch,hfk]
     cases ok with
     | true=>exact Y2 hs (v:=.tup [v,.v (.bool true)]) (x:=.tuple #[y',.bool true]) (by simp [den,Ym,hd]) hr h
     | false=>exact Y2 hs (v:=v) (x:=y') hd hr h
  ·cases h
 ·cases h
theorem I2 (s:ByteArray) {v:SV} {y:Value} (hv:den B v=some y):∀ {es:List (ByteArray × SV)} {l:List MapEntry} (i:Nat),Qi B es l ->
  (∃ q,Instr.findNow .string (.string s) l i=some q/\((q=none/\∀ c,Qi B (putM s v es) (l++[{ key:=.string s,val:=y,born:=c }]))\/∃ j z,q=some (i+j,z)/\(l[j]?).map (·.key)=some (.string s)/\Qi B (putM s v es) (l.modify j fun e=>{ e with key:=.string s,val:=y })))
 | [],[],i,_=>⟨none,rfl,.inl ⟨rfl,fun c=>⟨rfl,hv,trivial⟩⟩⟩
 | [],_::_,i,h=>h.elim
 | _::_,[],i,h=>h.elim
 | (k,u)::es,x::l,i,h=>by
  obtain ⟨h1,h2,h3⟩:=h;simp only [Instr.findNow,h1,Instr.sameNow,putM,Ko];cases hb:eqS s k with
  | true =>
   have hsk:s=k:=of_decide_eq_true hb;refine ⟨some (i,x.val),J,.inr ⟨0,x.val,J,by simp [h1,hsk],?_⟩⟩;simp only [cond_true];exact ⟨J,hv,h3⟩
  | false =>
   obtain ⟨q,hq,hr⟩:=I2 s hv (i+1) h3;refine ⟨q,hq,?_⟩;rcases hr with ⟨e,hr⟩ | ⟨j,z,e,hkey,hr⟩
   ·exact .inl ⟨e,fun c=>⟨h1,h2,hr c⟩⟩
   ·refine .inr ⟨j+1,z,by rw [e];congr 2;omega,by simpa using hkey,?_⟩;simp only [cond_false];exact ⟨h1,h2,hr⟩
theorem Sx.putObj (hs:Sx w0 F B σ w) {b:Nat} {old:SB} {p:Nat × Nat} (hb:σ.get b=some old) (hp:B b=some p) (ob:Obj) (new:SB) (hn:Blk B p new (some ob)):Sx w0 F B (σ.set b (some new)) (w.putObj p.1 ob) :=
 hs.turn (w':=w.putObj p.1 ob) hb hp ⟨rfl,rfl,rfl⟩ World.putObj_size (fun _ hk=>World.putObj_heap_other hk) new (by rw [World.putObj_heap_same (hs.lt hb hp)];exact hn)
theorem P7 {r:Nat} {ob o':Obj} (h:w.heap[r]?=some ob) (hc:∀ c t f,ob≠.cells c t f):(setObj r o').run P w=.ok () (w.putObj r o'):=by
 cases ob with
 | cells c t f=>exact absurd rfl (hc c t f)
 | _=>simp [setObj,Sem.run,h,World.putObj]
theorem ba_beq (x:ByteArray):(x==x)=true:=by rw [Ko];simp [eqS]
theorem Zbr {t:Nat} {x y z:Operand} (ho:o.op=.mapUpdate t x y z) (hs:Sx w0 F B σ w) (ha:Ags n a E D B) (h:exMapUp P σ t (sev E x) (sev E y) (sev E z)=some r):Wx P w0 F B a w o r:=by
 unfold exMapUp at h;split at h
 ·rename_i b s v hx hy hz
  split at h
  ·rename_i e es hm hb
   cases h;obtain ⟨kt,hu,hk⟩:=Pc hm;obtain ⟨p,hp,ex⟩:=O5 (ha.eval hx);have ey:=Xk (ha.eval hy);have ez:=ha.eval hz;obtain ⟨l,c,hob,hden⟩:=hs.mapAt hb hp;have hg:(getObj p.1).run P w=.ok (.map l c) w:=by simp [getObj,Sem.run,hob]
   have hch:=Nr (P:=P) (w:=w) hk false s;obtain ⟨q,hq,hcase⟩:=I2 s ez 0 hden;have hfk:(Instr.findKey kt (.string s) l.toList).run P w=.ok q w:=by simp [Instr.findKey,run_underlying hk,hq]
   rcases hcase with ⟨rfl,hd⟩ | ⟨j,zz,rfl,hkey,hd⟩
   ·refine ⟨undef,w.putObj p.1 (.map (l.push { key:=.string s,val:=a.eval z,born:=c }) (c+1)),.inr ⟨J,?_⟩,J,hs.putObj hb hp _ _ ⟨_,_,J,by simpa using hd c⟩⟩;have hset:=P7 (P:=P) (w:=w) (o':=.map (l.push { key:=.string s,val:=a.eval z,born:=c }) (c+1)) hob (by simp);simp only [execOp,ho,ex,ey];simp [Instr.mapUpdate,run_underlying hu,hg,hch,hfk,hset]
   ·rw [Nat.zero_add] at hfk;have hkey':(l[j]?).map (·.key)=some (.string s):=by simpa using hkey
    refine ⟨undef,w.putObj p.1 (.map (l.modify j fun e=>{ e with key:=.string s,val:=a.eval z }) c),.inr ⟨J,?_⟩,J,hs.putObj hb hp _ _ ⟨_,_,J,by simpa using hd⟩⟩;have hset:=P7 (P:=P) (w:=w) (o':=.map (l.modify j fun e=>{ e with key:=.string s,val:=a.eval z }) c) hob (by simp)
    have hstay:(Instr.keyThatStays (.string s) (.string s)).run P w=.ok (.string s) w:=by
     have:Instr.sameBits 10000 (.string s) (.string s)=true:=by simp [Instr.sameBits,ba_beq]
     simp [Instr.keyThatStays,this]
    simp only [execOp,ho,ex,ey];simp [Instr.mapUpdate,run_underlying hu,hg,hch,hfk,hkey',hstay,hset]
  ·cases h
 ·cases h
theorem Zbp {t:Nat} {x:Operand} (ho:o.op=.range t x) (hs:Sx w0 F B σ w) (ha:Ags n a E D B) (h:exRange P σ t (sev E x)=some r):Wx P w0 F B a w o r:=by
 unfold exRange at h;split at h
 ·rename_i b hx
  split at h
  ·rename_i kt e es hu hb
   cases h;obtain ⟨p,hp,ex⟩:=O5 (ha.eval hx);obtain ⟨l,c,hob,_⟩:=hs.mapAt hb hp;have hg:(getObj p.1).run P w=.ok (.map l c) w:=by simp [getObj,Sem.run,hob]
   refine Ru (ob:=.mapIter (some p.1) c #[] c) (c:=0) (x:=.pointer (some ⟨w.heap.size,0,none⟩)) hs ?_ (fun r hr=>⟨⟨p,c,Pre.upd hr _ b p hp,J⟩,by simp [den,X2]⟩);simp only [execOp,ho,ex];simp [Instr.range,run_underlying hu,hg,newObj];rfl
  ·cases h
 ·cases h
theorem ok_next {x:Operand} {s:Bool} (ho:o.op=.next x s) (hs:Sx w0 F B σ w) (ha:Ags n a E D B) (h:exNext σ s (sev E x)=some r):Wx P w0 F B a w o r:=by
 unfold exNext at h;split at h
 ·rename_i q hx
  cases s with
  | true=>cases h
  | false =>
   simp only [cond_false] at h;split at h
   ·rename_i b hq
    split at h
    ·rename_i hb
     obtain ⟨p,hp,ex⟩:=Wr (ha.eval hx);obtain ⟨p',hp',⟨m,c,hm,hob⟩,_⟩:=hs.own q _ hq;rw [hp] at hp';cases hp';obtain ⟨l,c',hob',hden⟩:=hs.mapAt hb hm
     have hl:l=#[]:=by
      cases hll:l.toList with
      | nil=>rw [<- Array.toArray_toList (xs:=l),hll]
      | cons u us=>rw [hll] at hden;exact hden.elim
     subst hl;have hg:(getObj p.1).run P w=.ok (.mapIter (some m.1) c #[] c) w:=by simp [getObj,Sem.run,hob]
     have hg':(getObj m.1).run P w=.ok (.map #[] c') w:=by simp [getObj,Sem.run,hob']
     refine Y2 hs (v:=.tup [.v (.bool false)]) (x:=.tuple #[.bool false]) (by simp [den,Ym]) ?_ h;have hch:(Question.mapNext 1).forced=true:=rfl;simp only [execOp,ho,ex];simp [Instr.next,hg,hg',hch]
    ·cases h
   ·cases h
 ·cases h
end
end S
namespace S
open Go Go.RowKit E
section
variable {P:Program} {n:Nat} {w0 w w':World} {F:List Nat} {B:Nm} {σ:St} {a:Act} {E:SE} {D:List SD} {o:Oper} {r:OpR}
theorem ok_chan {t:Nat} {x:Operand} (ho:o.op=.makeChan t x) (hs:Sx w0 F B σ w) (ha:Ags n a E D B) (h:(natOf (sev E x)).bind (exChan P σ t)=some r):Wx P w0 F B a w o r:=by
 cases h1:natOf (sev E x) with
 | none=>rw [h1] at h;cases h
 | some k =>
  rw [h1] at h;simp only [Option.bind_some] at h;obtain ⟨ki,hx⟩:=Us h1;have ex:=Xk (ha.eval hx);unfold exChan at h;split at h
  ·rename_i d e hu
   cases hi:P.info? e with
   | none=>rw [hi] at h;cases h
   | some i =>
    rw [hi] at h;simp only at h;cases hb:Nat.ble (k*(i.bytes+1)) 1000000 with
    | false=>rw [hb] at h;cases h
    | true =>
     rw [hb] at h;simp only [cond_true] at h;cases h;have b4:=Nat.le_of_ble_eq_true hb;have b5:k<=1000000:=Nat.le_trans (Nat.le_mul_of_pos_right k (by omega)) b4;have b6:i.bytes*k<=1000000:=by rw [Nat.mul_comm];exact Nat.le_trans (Nat.mul_le_mul_left k (by omega)) b4
     refine Ru (ob:=.chan k #[] false 0 0 false) (c:=0) (x:=.chan (some w.heap.size)) hs ?_ (fun r hr=>⟨⟨#[],0,0,J,J⟩,by simp [den,X2]⟩);have h1:¬ ((k:Int)<0):=by omega
     have h2:¬ (9223372036854775807<(k:Int)):=by omega
     have h3:¬ (281474976710544<(i.bytes:Int)*(k:Int)):=by
      have:(i.bytes:Int)*(k:Int)=((i.bytes*k:Nat):Int):=by simp
      rw [this];omega
     have hi':=P9 hi w;simp only [execOp,ho,ex];simp [Instr.makeChan,asInt,asIntOf,run_underlying hu,hi',h1,h2,h3,newObj];rfl
  ·cases h
/-! ### Numbers -/
theorem Pz (k:IntKind) (x:Nat) (h:x<128):k.wrap (Int.ofNat x)=Int.ofNat x:=by
 simp only [Int.ofNat_eq_natCast];cases k<;>simp only [IntKind.wrap,IntKind.bits,IntKind.signed]<;>simp<;>omega
theorem iadd_eq (k:IntKind) (i j:Int):Bc k i j=k.wrap (i+j):=by
 unfold Bc;split
 ·rename_i x y
  cases hb:Nat.blt (Nat.add x y) 128 with
  | false=>rfl
  | true =>
   have h:Nat.add x y<128:=by simpa using hb
   rw [cond_true];exact (Pz k _ h).symm
 ·rfl
theorem isub_eq (k:IntKind) (i j:Int):Ba k i j=k.wrap (i - j):=by
 unfold Ba;split
 ·rename_i x y
  cases hb:Nat.ble y x&&Nat.blt x 128 with
  | false=>rfl
  | true =>
   rw [Bool.and_eq_true] at hb;have h1:=Nat.le_of_ble_eq_true hb.1;have h2:x<128:=by simpa using hb.2
   rw [cond_true]
   have e:(Int.ofNat x - Int.ofNat y:Int)=Int.ofNat (Nat.sub x y):=by
    simp only [Int.ofNat_eq_natCast];have:(Nat.sub x y)=x - y:=rfl;omega
   rw [e];exact (Pz k _ (by have:(Nat.sub x y)=x - y:=J;omega)).symm
 ·rfl
theorem Gt (i j:Int):ilt i j=decide (i<j):=by
 unfold ilt;split
 ·rename_i x y
  by_cases h:x<y
  ·rw [show Nat.blt x y=true by simpa using h,decide_eq_true (by simpa using h)]
  ·rw [show Nat.blt x y=false by
    cases hb:Nat.blt x y with
    | false=>rfl
    | true=>exact absurd (by simpa using hb) h,decide_eq_false (by simpa using h)]
 ·rfl
theorem Gu (i j:Int):ieq i j=decide (i=j):=by
 unfold ieq;split
 ·rename_i x y
  by_cases h:x=y
  ·subst h;rw [Nat.beq_refl];simp
  ·rw [W3 h,decide_eq_false (fun e=>h (by cases e;rfl))]
 ·rfl
theorem Gq {op:BinOp} {t:Nat} {k:IntKind} {i j:Int} {v:Value} (h:Vk k i j op=some v):(binOp op t (.int k i) (.int k j)).run P w=.ok v w:=by
 have e1:(i==j)=decide (i=j):=by by_cases h:i=j<;>simp [h]
 have e2:(i != j) = !decide (i=j):=by by_cases h:i=j<;>simp [h]
 cases op<;>simp only [Vk] at h<;>first
  | cases h;done
  | (cases h;simp [binOp,Op.intArith,iadd_eq];done)
  | (cases h;simp [binOp,Op.intArith,isub_eq];done)
  | (cases h;simp [binOp,Op.intCmp,Gt];done)
  | (cases h;simp [binOp,Op.intCmp,Gt];by_cases h':j<i<;>simp [h']<;>omega)
  | (cases h;simp [binOp,Op.intCmp,Gt];by_cases h':i<j<;>simp [h']<;>omega)
  | (cases h;simp [binOp,Op.intCmp,Gu,e1];done)
  | (cases h;simp [binOp,Op.intCmp,Gu,e2];done)
theorem R4 {t:Nat} {d:TypeDesc} {u v:Value} {q:Bool} (hu:P.underlying t=some d) (h:∀ k,(Op.equalIn (k+1) t u v).run P w=.ok q w) (g h':Operand) (hg:∀ op,(eqGuard op t g h' u v).run P w=.ok () w) (hb:binOp .eql t u v=(do pure (.bool (<- Op.equal t u v)))/\binOp .neq t u v=(do pure (.bool (!(<- Op.equal t u v))))) :
  (do eqGuard .eql t g h' u v;binOp .eql t u v:Sem Value).run P w=.ok (.bool q) w/\(do eqGuard .neq t g h' u v;binOp .neq t u v:Sem Value).run P w=.ok (.bool (!q)) w:=by
 have he:(Op.equal t u v).run P w=.ok q w:=h 9999;rw [hb.1,hb.2];simp [hg,he]
theorem Ia {t:Nat} {x y:SV} {u v:Value} (hx:den B x=some u) (hy:den B y=some v) (h:nilKind P t x y=true) (g h':Operand) :
  (do eqGuard .eql t g h' u v;binOp .eql t u v:Sem Value).run P w=.ok (.bool false) w/\(do eqGuard .neq t g h' u v;binOp .neq t u v:Sem Value).run P w=.ok (.bool true) w:=by
 unfold nilKind at h;split at h
 ·rename_i e hu
  unfold nilPtr at h;split at h
  ·obtain ⟨p,hp,rfl⟩:=Wr hx;have:=Xk hy;subst this;exact R4 hu (fun k=>by rw [Op.equalIn];simp [run_underlying hu]) g h' (fun op=>by cases op<;>rfl) ⟨rfl,rfl⟩
  ·obtain ⟨p,hp,rfl⟩:=Wr hy;have:=Xk hx;subst this;exact R4 hu (fun k=>by rw [Op.equalIn];simp [run_underlying hu]) g h' (fun op=>by cases op<;>rfl) ⟨rfl,rfl⟩
  ·cases h
 ·rename_i e hu
  unfold nilFn at h;split at h
  ·obtain ⟨p,q,_,_,rfl⟩:=Uu hx;have:=Xk hy;subst this;exact R4 hu (fun k=>by rw [Op.equalIn];simp [run_underlying hu]) g h' (fun op=>by cases op<;>rfl) ⟨rfl,rfl⟩
  ·obtain ⟨p,q,_,_,rfl⟩:=Uu hy;have:=Xk hx;subst this;exact R4 hu (fun k=>by rw [Op.equalIn];simp [run_underlying hu]) g h' (fun op=>by cases op<;>rfl) ⟨rfl,rfl⟩
  ·cases h
 ·rename_i e hu
  unfold nilIf at h;split at h
  ·obtain ⟨p,_,rfl⟩:=S7 hx;have:=Xk hy;subst this;exact R4 hu (fun k=>by rw [Op.equalIn];simp [run_underlying hu]) g h' (fun op=>by cases op<;>rfl) ⟨rfl,rfl⟩
  ·obtain ⟨p,_,rfl⟩:=S7 hy;have:=Xk hx;subst this;exact R4 hu (fun k=>by rw [Op.equalIn];simp [run_underlying hu]) g h' (fun op=>by cases op<;>rfl) ⟨rfl,rfl⟩
  ·cases h
 ·rename_i e hu
  unfold nilSl at h;split at h
  ·obtain ⟨p,hp,rfl⟩:=V6 hx;have:=Xk hy;subst this;exact R4 hu (fun k=>by rw [Op.equalIn];simp [run_underlying hu]) g h' (fun op=>by cases op<;>rfl) ⟨rfl,rfl⟩
  ·cases h
 ·cases h
theorem ok_eq {t t':Nat} {x y:Operand} {b:BinOp} {q:Bool} (hb:(b=.eql/\q=false)\/(b=.neq/\q=true)) (ho:o.op=.binOp b t x y t') (hs:Sx w0 F B σ w) (ha:Ags n a E D B) (h:exEq P E σ o t q (sev E x) (sev E y)=some r):Wx P w0 F B a w o r:=by
 unfold exEq at h;split at h
 ·rename_i v u hx hy
  cases hn:nilKind P t v u with
  | false=>rw [hn] at h;exact Xv hs ha h
  | true =>
   rw [hn] at h;simp only [cond_true] at h;have hr:=Ia (P:=P) (w:=w) (ha.eval hx) (ha.eval hy) hn x y;refine Y2 hs (v:=.v (.bool q)) (x:=.bool q) J ?_ h;rcases hb with ⟨rfl,rfl⟩ | ⟨rfl,rfl⟩
   ·have:=hr.1;simp only [execOp,ho];rw [Sem.run_bind,this];rfl
   ·have:=hr.2;simp only [execOp,ho];rw [Sem.run_bind,this];rfl
 ·cases h
theorem ok_bin {t t':Nat} {x y:Operand} {b:BinOp} (ho:o.op=.binOp b t x y t') (hs:Sx w0 F B σ w) (ha:Ags n a E D B) (h:exBin P E σ o t x y b (sev E x) (sev E y)=some r):Wx P w0 F B a w o r:=by
 unfold exBin at h;split at h
 ·rename_i k i k' j hx hy
  split at h
  ·rename_i v hv
   cases hk:decide (k=k') with
   | false=>rw [hk] at h;cases h
   | true =>
    rw [hk] at h;have e:=of_decide_eq_true hk;subst e;simp only [cond_true] at h;have ex:=Xk (ha.eval hx);have ey:=Xk (ha.eval hy);have hr:=Gq (P:=P) (w:=w) (t:=t) hv;refine Y2 hs (v:=.v v) (x:=v) J ?_ h;simp only [execOp,ho,ex,ey,eqGuard_at_int];simp [hr]
  ·exact Xv hs ha h
 ·cases b with
  | eql=>exact ok_eq (.inl ⟨rfl,rfl⟩) ho hs ha h
  | neq=>exact ok_eq (.inr ⟨rfl,rfl⟩) ho hs ha h
  | _=>exact Xv hs ha h
theorem ok_un {t:Nat} {x:Operand} {u:UnOp} (ho:o.op=.unOp u t x) (hs:Sx w0 F B σ w) (ha:Ags n a E D B) (h:exUn P E σ o u (sev E x)=some r):Wx P w0 F B a w o r:=by
 unfold exUn at h;split at h
 ·rename_i b hx
  have ex:=Xk (ha.eval hx);cases u with
  | not =>
   refine Y2 hs (v:=.v (.bool (!b))) (x:=.bool (!b)) J ?_ h;simp only [execOp,ho,ex];rfl
  | _=>cases h
 ·exact Xv hs ha h
theorem I7 {v:SV} {b:UInt8} (h:byteOf v=some b):v=.v (Pf b):=by
 unfold byteOf at h;split at h
 ·rename_i k
  cases hb:Nat.blt k 256 with
  | false=>rw [hb] at h;cases h
  | true =>
   rw [hb] at h;have hk:k<256:=by simpa using hb
   cases h;unfold Pf;rw [UInt8.toNat_ofNat_of_lt' hk];rfl
 ·cases h
theorem Qk:∀ {l:List SV} {bs:List UInt8},bytesOf l=some bs->l=bs.map fun b=>.v (Pf b)
 | [],bs,h=>by simp only [bytesOf] at h;cases h;rfl
 | x::r,bs,h=>by
  simp only [bytesOf] at h;cases h1:byteOf x with
  | none=>rw [h1] at h;cases h
  | some b =>
   rw [h1] at h;cases h2:bytesOf r with
   | none=>rw [h2] at h;cases h
   | some l =>
    rw [h2] at h;cases h;rw [I7 h1,Qk h2];rfl
theorem ok_conv {s d:Nat} {x:Operand} (ho:o.op=.convert s d x) (hs:Sx w0 F B σ w) (ha:Ags n a E D B) (h:exConv P E σ o s d (sev E x)=some r):Wx P w0 F B a w o r:=by
 unfold exConv at h;split at h
 ·rename_i b l hx
  split at h
  ·rename_i e e' sz k c hu hd hro
   split at h
   ·rename_i he
    cases hg:Nat.beq e e'&&Nat.beq sz 1&&Nat.ble l k with
    | false=>rw [hg] at h;cases h
    | true =>
     rw [hg] at h;simp only [cond_true] at h;simp only [Bool.and_eq_true] at hg;have e1:=Nat.eq_of_beq_eq_true hg.1.1;have e2:=Nat.eq_of_beq_eq_true hg.1.2;have hlk:=Nat.le_of_ble_eq_true hg.2;subst e1;subst e2;cases hbs:bytesOf (c.take l) with
     | none=>rw [hbs] at h;cases h
     | some bs =>
      rw [hbs] at h;simp only [Option.bind_some] at h;have hb:=Rq hro;obtain ⟨p,hp,ex⟩:=V6 (ha.eval hx);obtain ⟨vs,cur,hvs,hlen,_⟩:=hs.row hb hp
      have hcl:(cutAt c 0 l).length=l:=by
       unfold cutAt;rw [List.drop_zero,List.length_take,<- Y7 hvs,hlen];omega
      obtain ⟨us,hus,hld⟩:=Qr (P:=P) hs hb rfl hp hcl;have hcut:cutAt c 0 l=bs.map fun b=>.v (Pf b):=by unfold cutAt;rw [List.drop_zero];exact Qk hbs
      have hus':us=bs.map Pf:=by
       rw [hcut,show (bs.map fun b=>SV.v (Pf b))=(bs.map Pf).map SV.v by rw [List.map_map];rfl,Te] at hus;cases hus;rfl
      subst hus';have h1:=run_convert_bytes_string (P:=P) w s d e (some ⟨p.1,0,none⟩) l (p.2 - 0) hu he hd;have hm:bs.map Pf=(bs.map fun b=>((b.toNat:Nat):Int)).map (Value.int .u8):=by rw [List.map_map];rfl
      rw [hm] at hld;have h2:=run_bytesToString (P:=P) w ⟨p.1,0,none⟩ l (p.2 - 0) _ hld;rw [Oz] at h2;have e3:(ByteArray.empty++⟨bs.toArray⟩:ByteArray)=⟨bs.toArray⟩:=by apply ByteArray.ext;rw [ByteArray.data_append];simp
      rw [e3] at h2;refine Y2 hs (v:=.v (.string ⟨bs.toArray⟩)) (x:=.string ⟨bs.toArray⟩) J ?_ h;simp only [Nat.sub_zero] at h1 h2 ex;simp only [execOp,ho,ex];simp [h1,h2]
   ·cases h
  ·cases h
 ·exact Xv hs ha h
/-! ### All of them -/
theorem Xc {q:Option OpR} (h:Ar.of q=some (.val r)):q=some r:=by
 cases q with
 | none=>cases h
 | some x=>cases h;rfl
theorem U7 (hs:Sx w0 F B σ w) (ha:Ags n a E D B) (h:act P E σ o=some (.val r)):Wx P w0 F B a w o r:=by
 unfold act at h;split at h
 ·rename_i x ho;exact Ek (.inl ho) hs ha (Xc h)
 ·rename_i x ho;exact Ek (.inr ho) hs ha (Xc h)
 ·rename_i c x y ho
  split at h
  ·rename_i b hc;exact ok_pick ho hs ha hc (Xc h)
  ·cases h
 ·rename_i x ho;exact ok_nil ho hs ha (Xc h)
 ·rename_i x i ho;exact ok_ext ho hs ha (Xc h)
 ·rename_i s x f ho;exact Zbt ho hs ha (Xc h)
 ·rename_i t x y ho;exact ok_idx ho hs ha (Xc h)
 ·rename_i t x ho;exact ok_load ho hs ha (Xc h)
 ·rename_i t x y ho;exact Zbn ho hs ha (Xc h)
 ·rename_i t x ho;exact ok_box ho hs ha (Xc h)
 ·rename_i t ho;exact Zbv ho hs (Xc h)
 ·rename_i t ps ho;exact Zbu ho hs ha (Xc h)
 ·rename_i t k ps ho;exact Ct ho hs ha (Xc h)
 ·rename_i t x ho;exact Zbs ho hs ha (Xc h)
 ·rename_i fn u c ho;exact ok_func ho hs ha (Xc h)
 ·rename_i x xt t ok ho;exact Cu ho hs ha (Xc h)
 ·rename_i t x y ho;exact ok_make ho hs ha (Xc h)
 ·rename_i t x lo hi mx ho;exact Zbo ho hs ha (Xc h)
 ·rename_i t q ho
  cases q with
  | none=>exact Zbq ho hs (Xc h)
  | some _=>cases h
 ·rename_i t x ho;exact ok_chan ho hs ha (Xc h)
 ·rename_i t x y ok ho;exact ok_look ho hs ha (Xc h)
 ·rename_i t x y z ho;exact Zbr ho hs ha (Xc h)
 ·rename_i t x ho;exact Zbp ho hs ha (Xc h)
 ·rename_i x s ho;exact ok_next ho hs ha (Xc h)
 ·rename_i b t x y t' ho;exact ok_bin ho hs ha (Xc h)
 ·rename_i u t x ho;exact ok_un ho hs ha (Xc h)
 ·exact Xv hs ha (Xc h)
 ·rename_i s d x ho;exact ok_conv ho hs ha (Xc h)
 ·rename_i c ho
  obtain ⟨callee,xs,ts⟩:=c;cases callee with
  | value g =>
   simp only [acCall] at h;split at h
   ·cases h
   ·cases h
  | invoke _ _=>cases h
  | builtin b =>
   have h:=Xc h;simp only at h;cases b with
   | len =>
    simp only [acBuiltin] at h;split at h
    ·rename_i x t hx ht;exact ok_len ho hx ht hs ha h
    ·cases h
   | copy =>
    simp only [acBuiltin] at h;split at h
    ·rename_i x y t u hx ht;exact ok_copy ho hx ht hs ha h
    ·cases h
   | append =>
    simp only [acBuiltin] at h;split at h
    ·rename_i x y t u hx ht
     split at h
     ·rename_i s v h1 h2
      split at h
      ·rename_i q hq
       cases h;exact Cv ho hx ht hs ha h1 h2 hq
      ·exact Xv hs ha h
     ·cases h
    ·cases h
   | _=>exact Xv hs ha h
 ·rename_i c ho
  unfold acDefer at h;split at h
  ·split at h
   ·cases h
   ·cases h
  ·cases h
 ·cases h
end
end S
end Go.Proofs.YtpofmnfkdkmieaaGreat
