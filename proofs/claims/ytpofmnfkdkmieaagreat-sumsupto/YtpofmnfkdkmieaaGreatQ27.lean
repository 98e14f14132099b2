/- What is proved here: steps of the machine, in a run of one me -/
import Derived.Test.YtpofmnfkdkmieaaGreatQ26
set_option linter.unusedVariables false
set_option linter.unusedSimpArgs false
namespace Go.Proofs.YtpofmnfkdkmieaaGreat
namespace S
open Go Go.RowKit E
def P9 (tab:List SV) (op:Nat) (g:FuncId) (cap:List SV):Prop:=cutAt tab (0+op*7) 7=[.v .nilFunc,.v .nilFunc,Zb false,.fn g [] cap,.v .nilFunc,.v .nilFunc,.v .nilFunc]
structure TabOk (tab:List SV) (wa ws wm:Nat):Prop where
 push:P9 tab 1 198 []
 load:P9 tab 2 199 []
 store:P9 tab 3 200 []
 pop:P9 tab 4 201 []
 add:P9 tab 6 290 [.ptr wa 0]
 sub:P9 tab 7 290 [.ptr ws 0]
 mul:P9 tab 8 290 [.ptr wm 0]
 div:P9 tab 9 207 []
 back:P9 tab 22 223 []
 print:P9 tab 27 230 []
 read:P9 tab 28 231 []
inductive InpOf:SV->Ch->List Int->Prop
 | nil (p:Option Addr) (q:Nat):InpOf (.v (.slice p 0 q)) [] []
 | row (b io ij st:Nat) (sf:Nat × Nat) (ins:List SV) (l:List Int) (h:∀ (i:Nat) (x:Int),l[i]?=some x->ins[io+i*1]?=some (.v (.int .i64 x))) (hb:l.length<=4000000) (hj:ij+l.length<=ins.length):InpOf (.sl b io l.length ij) [(b,.seen ins st sf)] l
structure Cf where
 (mc f me cd tb un mt ch lo wa ws wm nm cl fu:Nat)
 (m0 m1 vi m3 m4 m5 m6 m7 m10 m13:SV)
 (e0 e1 e2 e3 e4 e5 e6 e7 e9:SV)
 (hp:Option Addr) (hq:Nat)
 (k1 k2 k3 k4 k5 k6 k7 k8 k9 k10:SV)
 (code tab:List SV)
 (ins:List (Nat × Int))
 (nms:List (ByteArray × SV))
 (U:Ch)
 (inp:List Int)
structure Cok (x:Cf):Prop where
 k:x.ins.length<=1000
 code:∀ (p op:Nat) (n:Int),x.ins[p]?=some (op,n)->x.code[8*p]?=some (Zn op)/\x.code[8*p+1]?=some (Zi n)
 tab:TabOk x.tab x.wa x.ws x.wm
 ar:findS Xk x.nms=some (.ifc 323 (.agg [.ptr x.cl 0]))
 io:InpOf x.vi x.U x.inp
abbrev Cf.M (x:Cf) (und:SV) (i ev ek:Nat) (unc:SV):SB:=.cells [x.m0,x.m1,x.vi,x.m3,x.m4,x.m5,x.m6,x.m7,.sl x.tb 0 33 0,.mp x.nm,x.m10,und,.ptr x.mt 0,x.m13,Zn i,.sl ev 0 ek 0,unc]
abbrev Cf.Fr (x:Cf) (a1:SV) (p:Nat) (st:SV):SB:=.cells [.ptr x.me 0,a1,Zn p,.sl x.lo 0 3 0,st,Zp,Zp]
abbrev Cf.Me (x:Cf):SB:=.cells [x.e0,x.e1,x.e2,x.e3,x.e4,x.e5,x.e6,x.e7,Zl x.hp x.hq,x.e9,.sl x.cd 0 x.ins.length 0]
abbrev Cf.Cl (x:Cf):SB:=.cells [Zs Xk,x.k1,x.k2,x.k3,x.k4,x.k5,x.k6,x.k7,x.k8,x.k9,x.k10]
abbrev Cf.Ho (x:Cf) (d:List SV) (s ln:Nat) (c:List SV) (ev ek:Nat) (es:List SV):Ch:=[(x.lo,.row 366 1 3 d),(s,.row 366 1 ln c),(ev,.row 98 3 ek es),(x.wa,.cells [.fn 204 [] []]),(x.ws,.cells [.fn 205 [] []]),(x.wm,.cells [.fn 206 [] []]),(x.nm,.map x.nms),(x.cl,x.Cl)]++x.U
abbrev Cf.A8 (x:Cf) (M Fr:SB) (un:SB) (dn:Nat):Ch:=[(x.mc,M),(x.f,Fr),(x.me,x.Me),(x.cd,.row 475 8 x.ins.length x.code),(x.tb,.row 307 7 33 x.tab),(x.un,un),(x.mt,.cells [Zi x.fu,Zn dn,.ch x.ch]),(x.ch,.chan 1 0)]
abbrev un1 (x:Cf):SB:=.row 364 1 1 [.ptr x.f 0]
section
set_option maxRecDepth 10000
variable {x:Cf} {p op dn s ln ev ek i N N1:Nat} {n a b:Int} {a1 st v r11:SV} {c d es:List SV} {Ho Ho1:Ch} {g:FuncId} {cap:List SV} {F1 U1:SB} {i' ev' ek':Nat}
theorem Cf.step (hx:Cok x) (hi:x.ins[p]?=some (op,n)) (ht:P9 x.tab op g cap) (ho:op<33) (hd:dn+1<x.fu) (hdb:x.fu<=100000)
  (hg:HF Tryz.prog g ([.ptr x.mc 0,.ptr x.f 0,Zi n]++cap) (N+1) ([(x.mc,x.M (.sl x.un 0 1 0) i ev ek (Zp)),(x.f,x.Fr (Zn p) (p+1) st)]++((x.un,un1 x)::Ho)) (fun a b c=>a=Zp/\b=N1/\c=[(x.mc,x.M r11 i' ev' ek' (Zp)),(x.f,F1)]++((x.un,U1)::Ho1))) :
  HF Tryz.prog 353 [.ptr x.mc 0] N (x.A8 (x.M (.sl x.un 0 1 0) i ev ek (Zp)) (x.Fr a1 p st) (un1 x) dn++Ho) (fun a b c=>a=.tup []/\b=N1/\c=x.A8 (x.M r11 i' ev' ek' (Zp)) F1 U1 (dn+1)++Ho1):=by
 have hlt:p<x.ins.length:=(List.getElem?_eq_some_iff.1 hi).1;obtain ⟨h1,h2⟩:=hx.code p op n hi;exact Zgs (us:=[]) (q:=0) J (by omega) hlt hx.k h1 h2 ho J J J J J ht (by omega) (by omega) hg
theorem Cf.throw (hx:Cok x) (hi:x.ins[p]?=some (op,n)) (ht:P9 x.tab op g cap) (ho:op<33) (hd:dn+1<x.fu) (hdb:x.fu<=100000) {ob:Nat}
  (hg:HF Tryz.prog g ([.ptr x.mc 0,.ptr x.f 0,Zi n]++cap) (N+1) ([(x.mc,x.M (.sl x.un 0 1 0) i ev ek (Zp)),(x.f,x.Fr (Zn p) (p+1) st)]++((x.un,un1 x)::Ho)) (fun a b c=>a=.ptr ob 0/\b=N1/\c=[(x.mc,x.M (.sl x.un 0 1 0) i ev ek (Zp)),(x.f,x.Fr (Zn p) (p+1) v)]++((x.un,un1 x)::Ho1))) :
  HF Tryz.prog 353 [.ptr x.mc 0] N (x.A8 (x.M (.sl x.un 0 1 0) i ev ek (Zp)) (x.Fr a1 p st) (un1 x) dn++Ho) (fun a b c=>a=.tup []/\b=N1/\c=x.A8 (x.M (.sl x.un 0 0 0) i ev ek (.ptr ob 0)) (x.Fr (Zn p) (p+1) v) (.row 364 1 0 []) (dn+1)++Ho1):=by
 have hlt:p<x.ins.length:=(List.getElem?_eq_some_iff.1 hi).1;obtain ⟨h1,h2⟩:=hx.code p op n hi;exact Zgr hlt hx.k h1 h2 ho J J J J J ht (by omega) (by omega) hg
theorem Zpi:∀ {d:List SV} {j:Nat},j<d.length->∀ v,sput d (0+j*1) [v]=d.set j v:=by
 intro d j h v;unfold sput;rw [Nat.zero_add,Nat.mul_one];simp only [List.length_cons,List.length_nil,Nat.zero_add];rw [List.set_eq_take_append_cons_drop,if_pos h];simp
theorem Cf.push (hx:Cok x) (hi:x.ins[p]?=some (1,n)) (hd:dn+1<x.fu) (hdb:x.fu<=10000) (hln:ln<=dn) (hc:c.length=ln) :
  HF Tryz.prog 353 [.ptr x.mc 0] N (x.A8 (x.M (.sl x.un 0 1 0) i ev ek (Zp)) (x.Fr a1 p (.sl s 0 ln 0)) (un1 x) dn++x.Ho d s ln c ev ek es) (fun u' n' h'=>u'=.tup []/\n'=N+3/\h'=x.A8 (x.M (.sl x.un 0 1 0) i ev ek (Zp)) (x.Fr (Zn p) (p+1) (.sl (N+2) 0 (ln+1) 0)) (un1 x) (dn+1)++x.Ho d (N+2) (ln+1) (c++[SV.ifc 3 (Zi n)]) ev ek es):=by
 refine Cf.step hx hi hx.tab.push (by decide) hd (by omega) ?_;exact HF.pickT (k:=11) (k2:=11) (A:=[(x.mc,x.M (.sl x.un 0 1 0) i ev ek (Zp)),(x.f,x.Fr (Zn p) (p+1) (.sl s 0 ln 0)),(x.un,un1 x),(x.lo,.row 366 1 3 d),(s,.row 366 1 ln c),(ev,.row 98 3 ek es),(x.wa,.cells [.fn 204 [] []]),(x.ws,.cells [.fn 205 [] []]),(x.wm,.cells [.fn 206 [] []]),(x.nm,.map x.nms),(x.cl,x.Cl)]) (U:=x.U) [1,4] [0,2,3,5,6,7,8,9,10] [2,0,3,4,1,5,6,7,8,9,10] (Zqj hc (by omega)) J (by decide) J (by decide) J
theorem Cf.load (hx:Cok x) {j:Nat} (hi:x.ins[p]?=some (2,(.ofNat j))) (hj:d[j]?=some (iV a)) (hj3:j<3) (hd:dn+1<x.fu) (hdb:x.fu<=10000) (hln:ln<=dn) (hc:c.length=ln) :
  HF Tryz.prog 353 [.ptr x.mc 0] N (x.A8 (x.M (.sl x.un 0 1 0) i ev ek (Zp)) (x.Fr a1 p (.sl s 0 ln 0)) (un1 x) dn++x.Ho d s ln c ev ek es) (fun u' n' h'=>u'=.tup []/\n'=N+3/\h'=x.A8 (x.M (.sl x.un 0 1 0) i ev ek (Zp)) (x.Fr (Zn p) (p+1) (.sl (N+2) 0 (ln+1) 0)) (un1 x) (dn+1)++x.Ho d (N+2) (ln+1) (c++[SV.ifc 3 (Zi a)]) ev ek es):=by
 refine Cf.step hx hi hx.tab.load (by decide) hd (by omega) ?_;exact HF.pickT (k:=11) (k2:=11) (A:=[(x.mc,x.M (.sl x.un 0 1 0) i ev ek (Zp)),(x.f,x.Fr (Zn p) (p+1) (.sl s 0 ln 0)),(x.un,un1 x),(x.lo,.row 366 1 3 d),(s,.row 366 1 ln c),(ev,.row 98 3 ek es),(x.wa,.cells [.fn 204 [] []]),(x.ws,.cells [.fn 205 [] []]),(x.wm,.cells [.fn 206 [] []]),(x.nm,.map x.nms),(x.cl,x.Cl)]) (U:=x.U) [1,3,4] [0,2,5,6,7,8,9,10] [3,0,4,1,2,5,6,7,8,9,10] (Zrn hc (by omega) hj hj3) J (by decide) J (by decide) J
theorem Cf.store (hx:Cok x) {j:Nat} (hi:x.ins[p]?=some (3,(.ofNat j))) (hj3:j<3) (hd3:d.length=3) (hd:dn+1<x.fu) (hdb:x.fu<=10000) (hln:ln<=dn) (hc:c.length=ln) :
  HF Tryz.prog 353 [.ptr x.mc 0] N (x.A8 (x.M (.sl x.un 0 1 0) i ev ek (Zp)) (x.Fr a1 p (.sl s 0 (ln+1) 0)) (un1 x) dn++x.Ho d s (ln+1) (c++[SV.ifc 3 (Zi a)]) ev ek es) (fun u' n' h'=>u'=.tup []/\n'=N+1/\h'=x.A8 (x.M (.sl x.un 0 1 0) i ev ek (Zp)) (x.Fr (Zn p) (p+1) (.sl s 0 ln 0)) (un1 x) (dn+1)++x.Ho (d.set j (iV a)) s ln c ev ek es):=by
 refine Cf.step hx hi hx.tab.store (by decide) hd (by omega) ?_;rw [<- Zpi (by omega) (iV a)];exact HF.pickT (k:=11) (k2:=11) (A:=[(x.mc,x.M (.sl x.un 0 1 0) i ev ek (Zp)),(x.f,x.Fr (Zn p) (p+1) (.sl s 0 (ln+1) 0)),(x.un,un1 x),(x.lo,.row 366 1 3 d),(s,.row 366 1 (ln+1) (c++[SV.ifc 3 (Zi a)])),(ev,.row 98 3 ek es),(x.wa,.cells [.fn 204 [] []]),(x.ws,.cells [.fn 205 [] []]),(x.wm,.cells [.fn 206 [] []]),(x.nm,.map x.nms),(x.cl,x.Cl)]) (U:=x.U) [1,3,4] [0,2,5,6,7,8,9,10] [3,0,4,1,2,5,6,7,8,9,10] (Zmp hc (by omega) hd3 hj3) J (by decide) J (by decide) J
theorem Cf.pop (hx:Cok x) (hi:x.ins[p]?=some (4,n)) (hd:dn+1<x.fu) (hdb:x.fu<=10000) (hln:ln<=dn) (hc:c.length=ln) :
  HF Tryz.prog 353 [.ptr x.mc 0] N (x.A8 (x.M (.sl x.un 0 1 0) i ev ek (Zp)) (x.Fr a1 p (.sl s 0 (ln+1) 0)) (un1 x) dn++x.Ho d s (ln+1) (c++[SV.ifc 3 (Zi a)]) ev ek es) (fun u' n' h'=>u'=.tup []/\n'=N+1/\h'=x.A8 (x.M (.sl x.un 0 1 0) i ev ek (Zp)) (x.Fr (Zn p) (p+1) (.sl s 0 ln 0)) (un1 x) (dn+1)++x.Ho d s ln c ev ek es):=by
 refine Cf.step hx hi hx.tab.pop (by decide) hd (by omega) ?_;exact HF.pickT (k:=11) (k2:=11) (A:=[(x.mc,x.M (.sl x.un 0 1 0) i ev ek (Zp)),(x.f,x.Fr (Zn p) (p+1) (.sl s 0 (ln+1) 0)),(x.un,un1 x),(x.lo,.row 366 1 3 d),(s,.row 366 1 (ln+1) (c++[SV.ifc 3 (Zi a)])),(ev,.row 98 3 ek es),(x.wa,.cells [.fn 204 [] []]),(x.ws,.cells [.fn 205 [] []]),(x.wm,.cells [.fn 206 [] []]),(x.nm,.map x.nms),(x.cl,x.Cl)]) (U:=x.U) [1,4] [0,2,3,5,6,7,8,9,10] [2,0,3,4,1,5,6,7,8,9,10] (pop_row hc (by omega)) J (by decide) J (by decide) J
theorem Cf.add (hx:Cok x) (hi:x.ins[p]?=some (6,n)) (hd:dn+1<x.fu) (hdb:x.fu<=10000) (hln:ln<=dn) (hc:c.length=ln) :
  HF Tryz.prog 353 [.ptr x.mc 0] N (x.A8 (x.M (.sl x.un 0 1 0) i ev ek (Zp)) (x.Fr a1 p (.sl s 0 (ln+2) 0)) (un1 x) dn++x.Ho d s (ln+2) (c++[SV.ifc 3 (Zi a),SV.ifc 3 (Zi b)]) ev ek es) (fun u' n' h'=>u'=.tup []/\n'=N+3/\h'=x.A8 (x.M (.sl x.un 0 1 0) i ev ek (Zp)) (x.Fr (Zn p) (p+1) (.sl (N+2) 0 (ln+1) 0)) (un1 x) (dn+1)++x.Ho d (N+2) (ln+1) (c++[SV.ifc 3 (Zi (Jd .i64 a b))]) ev ek es):=by
 refine Cf.step hx hi hx.tab.add (by decide) hd (by omega) ?_;exact HF.pickT (k:=11) (k2:=11) (A:=[(x.mc,x.M (.sl x.un 0 1 0) i ev ek (Zp)),(x.f,x.Fr (Zn p) (p+1) (.sl s 0 (ln+2) 0)),(x.un,un1 x),(x.lo,.row 366 1 3 d),(s,.row 366 1 (ln+2) (c++[SV.ifc 3 (Zi a),SV.ifc 3 (Zi b)])),(ev,.row 98 3 ek es),(x.wa,.cells [.fn 204 [] []]),(x.ws,.cells [.fn 205 [] []]),(x.wm,.cells [.fn 206 [] []]),(x.nm,.map x.nms),(x.cl,x.Cl)]) (U:=x.U) [6,1,4] [0,2,3,5,7,8,9,10] [3,1,4,5,2,6,0,7,8,9,10] (K3 hc (by omega) (fun _=>op_add)) J (by decide) J (by decide) J
theorem Cf.sub (hx:Cok x) (hi:x.ins[p]?=some (7,n)) (hd:dn+1<x.fu) (hdb:x.fu<=10000) (hln:ln<=dn) (hc:c.length=ln) :
  HF Tryz.prog 353 [.ptr x.mc 0] N (x.A8 (x.M (.sl x.un 0 1 0) i ev ek (Zp)) (x.Fr a1 p (.sl s 0 (ln+2) 0)) (un1 x) dn++x.Ho d s (ln+2) (c++[SV.ifc 3 (Zi a),SV.ifc 3 (Zi b)]) ev ek es) (fun u' n' h'=>u'=.tup []/\n'=N+3/\h'=x.A8 (x.M (.sl x.un 0 1 0) i ev ek (Zp)) (x.Fr (Zn p) (p+1) (.sl (N+2) 0 (ln+1) 0)) (un1 x) (dn+1)++x.Ho d (N+2) (ln+1) (c++[SV.ifc 3 (Zi (Jc .i64 a b))]) ev ek es):=by
 refine Cf.step hx hi hx.tab.sub (by decide) hd (by omega) ?_;exact HF.pickT (k:=11) (k2:=11) (A:=[(x.mc,x.M (.sl x.un 0 1 0) i ev ek (Zp)),(x.f,x.Fr (Zn p) (p+1) (.sl s 0 (ln+2) 0)),(x.un,un1 x),(x.lo,.row 366 1 3 d),(s,.row 366 1 (ln+2) (c++[SV.ifc 3 (Zi a),SV.ifc 3 (Zi b)])),(ev,.row 98 3 ek es),(x.wa,.cells [.fn 204 [] []]),(x.ws,.cells [.fn 205 [] []]),(x.wm,.cells [.fn 206 [] []]),(x.nm,.map x.nms),(x.cl,x.Cl)]) (U:=x.U) [7,1,4] [0,2,3,5,6,8,9,10] [3,1,4,5,2,6,7,0,8,9,10] (K3 hc (by omega) (fun _=>op_sub)) J (by decide) J (by decide) J
theorem Cf.mul (hx:Cok x) (hi:x.ins[p]?=some (8,n)) (hd:dn+1<x.fu) (hdb:x.fu<=10000) (hln:ln<=dn) (hc:c.length=ln) :
  HF Tryz.prog 353 [.ptr x.mc 0] N (x.A8 (x.M (.sl x.un 0 1 0) i ev ek (Zp)) (x.Fr a1 p (.sl s 0 (ln+2) 0)) (un1 x) dn++x.Ho d s (ln+2) (c++[SV.ifc 3 (Zi a),SV.ifc 3 (Zi b)]) ev ek es) (fun u' n' h'=>u'=.tup []/\n'=N+3/\h'=x.A8 (x.M (.sl x.un 0 1 0) i ev ek (Zp)) (x.Fr (Zn p) (p+1) (.sl (N+2) 0 (ln+1) 0)) (un1 x) (dn+1)++x.Ho d (N+2) (ln+1) (c++[SV.ifc 3 (Zi (IntKind.i64.wrap (a*b)))]) ev ek es):=by
 refine Cf.step hx hi hx.tab.mul (by decide) hd (by omega) ?_;exact HF.pickT (k:=11) (k2:=11) (A:=[(x.mc,x.M (.sl x.un 0 1 0) i ev ek (Zp)),(x.f,x.Fr (Zn p) (p+1) (.sl s 0 (ln+2) 0)),(x.un,un1 x),(x.lo,.row 366 1 3 d),(s,.row 366 1 (ln+2) (c++[SV.ifc 3 (Zi a),SV.ifc 3 (Zi b)])),(ev,.row 98 3 ek es),(x.wa,.cells [.fn 204 [] []]),(x.ws,.cells [.fn 205 [] []]),(x.wm,.cells [.fn 206 [] []]),(x.nm,.map x.nms),(x.cl,x.Cl)]) (U:=x.U) [8,1,4] [0,2,3,5,6,7,9,10] [3,1,4,5,2,6,7,8,0,9,10] (K3 hc (by omega) (fun _=>op_mul)) J (by decide) J (by decide) J
theorem Cf.div (hx:Cok x) (hi:x.ins[p]?=some (9,n)) (hb:b≠0) (hd:dn+1<x.fu) (hdb:x.fu<=10000) (hln:ln<=dn) (hc:c.length=ln) :
  HF Tryz.prog 353 [.ptr x.mc 0] N (x.A8 (x.M (.sl x.un 0 1 0) i ev ek (Zp)) (x.Fr a1 p (.sl s 0 (ln+2) 0)) (un1 x) dn++x.Ho d s (ln+2) (c++[SV.ifc 3 (Zi a),SV.ifc 3 (Zi b)]) ev ek es) (fun u' n' h'=>u'=.tup []/\n'=N+3/\h'=x.A8 (x.M (.sl x.un 0 1 0) i ev ek (Zp)) (x.Fr (Zn p) (p+1) (.sl (N+2) 0 (ln+1) 0)) (un1 x) (dn+1)++x.Ho d (N+2) (ln+1) (c++[SV.ifc 3 (Zi (IntKind.i64.wrap (a.tdiv b)))]) ev ek es):=by
 refine Cf.step hx hi hx.tab.div (by decide) hd (by omega) ?_;exact HF.pickT (k:=11) (k2:=11) (A:=[(x.mc,x.M (.sl x.un 0 1 0) i ev ek (Zp)),(x.f,x.Fr (Zn p) (p+1) (.sl s 0 (ln+2) 0)),(x.un,un1 x),(x.lo,.row 366 1 3 d),(s,.row 366 1 (ln+2) (c++[SV.ifc 3 (Zi a),SV.ifc 3 (Zi b)])),(ev,.row 98 3 ek es),(x.wa,.cells [.fn 204 [] []]),(x.ws,.cells [.fn 205 [] []]),(x.wm,.cells [.fn 206 [] []]),(x.nm,.map x.nms),(x.cl,x.Cl)]) (U:=x.U) [1,4] [0,2,3,5,6,7,8,9,10] [2,0,3,4,1,5,6,7,8,9,10] (Zig hc (by omega) hb) J (by decide) J (by decide) J
theorem Cf.print (hx:Cok x) (hi:x.ins[p]?=some (27,n)) (he:es.length=ek*3) (hek:ek<=dn+3) (hd:dn+1<x.fu) (hdb:x.fu<=10000) (hln:ln<=dn) (hc:c.length=ln) :
  HF Tryz.prog 353 [.ptr x.mc 0] N (x.A8 (x.M (.sl x.un 0 1 0) i ev ek (Zp)) (x.Fr a1 p (.sl s 0 (ln+1) 0)) (un1 x) dn++x.Ho d s (ln+1) (c++[SV.ifc 3 (Zi a)]) ev ek es) (fun u' n' h'=>u'=.tup []/\n'=N+3/\h'=x.A8 (x.M (.sl x.un 0 1 0) i (N+2) (ek+1) (Zp)) (x.Fr (Zn p) (p+1) (.sl s 0 ln 0)) (un1 x) (dn+1)++x.Ho d s ln c (N+2) (ek+1) (es++[Zi 1,Zi a,Ze])):=by
 refine Cf.step hx hi hx.tab.print (by decide) hd (by omega) ?_;exact HF.pickT (k:=11) (k2:=11) (A:=[(x.mc,x.M (.sl x.un 0 1 0) i ev ek (Zp)),(x.f,x.Fr (Zn p) (p+1) (.sl s 0 (ln+1) 0)),(x.un,un1 x),(x.lo,.row 366 1 3 d),(s,.row 366 1 (ln+1) (c++[SV.ifc 3 (Zi a)])),(ev,.row 98 3 ek es),(x.wa,.cells [.fn 204 [] []]),(x.ws,.cells [.fn 205 [] []]),(x.wm,.cells [.fn 206 [] []]),(x.nm,.map x.nms),(x.cl,x.Cl)]) (U:=x.U) [0,5,1,4] [2,3,6,7,8,9,10] [0,2,4,5,3,1,6,7,8,9,10] (Zpl hc (by omega) he (by omega)) J (by decide) J (by decide) J
theorem Cf.back (hx:Cok x) (hi:x.ins[p]?=some (22,n)) (hd:dn+1<x.fu) (hdb:x.fu<=10000) (hln:ln<=dn) (hc:c.length=ln) :
  HF Tryz.prog 353 [.ptr x.mc 0] N (x.A8 (x.M (.sl x.un 0 1 0) i ev ek (Zp)) (x.Fr a1 p (.sl s 0 ln 0)) (un1 x) dn++x.Ho d s ln c ev ek es) (fun u' n' h'=>u'=.tup []/\n'=N+1/\h'=x.A8 (x.M (.sl x.un 0 0 0) i ev ek (Zp)) (x.Fr (Zn p) (p+1) (.sl s 0 ln 0)) (.row 364 1 0 []) (dn+1)++x.Ho d s ln c ev ek es):=by
 refine Cf.step hx hi hx.tab.back (by decide) hd (by omega) ?_;exact HF.pickT (k:=11) (k2:=11) (A:=[(x.mc,x.M (.sl x.un 0 1 0) i ev ek (Zp)),(x.f,x.Fr (Zn p) (p+1) (.sl s 0 ln 0)),(x.un,un1 x),(x.lo,.row 366 1 3 d),(s,.row 366 1 ln c),(ev,.row 98 3 ek es),(x.wa,.cells [.fn 204 [] []]),(x.ws,.cells [.fn 205 [] []]),(x.wm,.cells [.fn 206 [] []]),(x.nm,.map x.nms),(x.cl,x.Cl)]) (U:=x.U) [0,1,2] [3,4,5,6,7,8,9,10] [0,1,2,3,4,5,6,7,8,9,10] (Zuj (us:=[]) (q:=0) J (by omega)) J (by decide) J (by decide) J
theorem Cf.first (hx:Cok x) (hi:x.ins[p]?=some (1,n)) (hd:dn+1<x.fu) (hdb:x.fu<=10000) :
  HF Tryz.prog 353 [.ptr x.mc 0] N (x.A8 (x.M (.sl x.un 0 1 0) i ev ek (Zp)) (x.Fr a1 p (Zz)) (un1 x) dn++([(x.lo,.row 366 1 3 d),(ev,.row 98 3 ek es),(x.wa,.cells [.fn 204 [] []]),(x.ws,.cells [.fn 205 [] []]),(x.wm,.cells [.fn 206 [] []]),(x.nm,.map x.nms),(x.cl,x.Cl)]++x.U)) (fun u' n' h'=>u'=.tup []/\n'=N+3/\h'=x.A8 (x.M (.sl x.un 0 1 0) i ev ek (Zp)) (x.Fr (Zn p) (p+1) (.sl (N+2) 0 1 0)) (un1 x) (dn+1)++x.Ho d (N+2) 1 [SV.ifc 3 (Zi n)] ev ek es):=by
 refine Cf.step hx hi hx.tab.push (by decide) hd (by omega) ?_;exact HF.pickT (k:=10) (k2:=11) (A:=[(x.mc,x.M (.sl x.un 0 1 0) i ev ek (Zp)),(x.f,x.Fr (Zn p) (p+1) (Zz)),(x.un,un1 x),(x.lo,.row 366 1 3 d),(ev,.row 98 3 ek es),(x.wa,.cells [.fn 204 [] []]),(x.ws,.cells [.fn 205 [] []]),(x.wm,.cells [.fn 206 [] []]),(x.nm,.map x.nms),(x.cl,x.Cl)]) (U:=x.U) [1] [0,2,3,4,5,6,7,8,9] [2,0,3,4,1,5,6,7,8,9,10] Zqk J (by decide) J (by decide) J
theorem Cf.divz (hx:Cok x) (hi:x.ins[p]?=some (9,n)) (hd:dn+1<x.fu) (hdb:x.fu<=10000) (hln:ln<=dn) (hc:c.length=ln) :
  HF Tryz.prog 353 [.ptr x.mc 0] N (x.A8 (x.M (.sl x.un 0 1 0) i ev ek (Zp)) (x.Fr a1 p (.sl s 0 (ln+2) 0)) (un1 x) dn++x.Ho d s (ln+2) (c++[SV.ifc 3 (Zi a),SV.ifc 3 (Zi 0)]) ev ek es) (fun u' n' h'=>u'=.tup []/\n'=N+3/\h'=x.A8 (x.M (.sl x.un 0 0 0) i ev ek (.ptr (N+2) 0)) (x.Fr (Zn p) (p+1) (.sl s 0 ln 0)) (.row 364 1 0 []) (dn+1)++((N+2,.cells [.ptr x.cl 0,Zz])::x.Ho d s ln c ev ek es)):=by
 refine Cf.throw hx hi hx.tab.div (by decide) hd (by omega) ?_;exact HF.pickT (k:=11) (k2:=12) (A:=[(x.mc,x.M (.sl x.un 0 1 0) i ev ek (Zp)),(x.f,x.Fr (Zn p) (p+1) (.sl s 0 (ln+2) 0)),(x.un,un1 x),(x.lo,.row 366 1 3 d),(s,.row 366 1 (ln+2) (c++[SV.ifc 3 (Zi a),SV.ifc 3 (Zi 0)])),(ev,.row 98 3 ek es),(x.wa,.cells [.fn 204 [] []]),(x.ws,.cells [.fn 205 [] []]),(x.wm,.cells [.fn 206 [] []]),(x.nm,.map x.nms),(x.cl,x.Cl)]) (U:=x.U) [0,9,1,4] [2,3,5,6,7,8,10] [0,2,5,4,6,3,7,8,9,10,1,11] (Zfq hc (by omega) hx.ar) J (by decide) J (by decide) J
theorem Cf.readS (hx:Cok x) (hi:x.ins[p]?=some (28,n)) (hv:x.inp[i]?=some a) (hd:dn+1<x.fu) (hdb:x.fu<=10000) (hln:ln<=dn) (hc:c.length=ln) :
  HF Tryz.prog 353 [.ptr x.mc 0] N (x.A8 (x.M (.sl x.un 0 1 0) i ev ek (Zp)) (x.Fr a1 p (.sl s 0 ln 0)) (un1 x) dn++x.Ho d s ln c ev ek es) (fun u' n' h'=>u'=.tup []/\n'=N+3/\h'=x.A8 (x.M (.sl x.un 0 1 0) (i+1) ev ek (Zp)) (x.Fr (Zn p) (p+1) (.sl (N+2) 0 (ln+1) 0)) (un1 x) (dn+1)++x.Ho d (N+2) (ln+1) (c++[SV.ifc 3 (Zi a)]) ev ek es):=by
 refine Cf.step hx hi hx.tab.read (by decide) hd (by omega) ?_;have hio:=hx.io;obtain ⟨mc,f,me,cd,tb,un,mt,ch,lo,wa,ws,wm,nm,cl,fu,m0,m1,vi,m3,m4,m5,m6,m7,m10,m13,e0,e1,e2,e3,e4,e5,e6,e7,e9,hp,hq,k1,k2,k3,k4,k5,k6,k7,k8,k9,k10,code,tab,ins,nms,U,inp⟩:=x;simp only at hio hv;generalize hU:U=U' at hio;generalize hI:inp=inp' at hio;generalize hV:vi=vi' at hio;cases hio with
 | nil=>rw [hI] at hv;simp at hv
 | row b io ij st sf ins' l h hb _ =>
  subst hI;subst hU;subst hV;exact HF.pick (k:=12) (k2:=12) (H:=[(mc,Cf.M ⟨mc,f,me,cd,tb,un,mt,ch,lo,wa,ws,wm,nm,cl,fu,m0,m1,.sl b io inp.length ij,m3,m4,m5,m6,m7,m10,m13,e0,e1,e2,e3,e4,e5,e6,e7,e9,hp,hq,k1,k2,k3,k4,k5,k6,k7,k8,k9,k10,code,tab,ins,nms,[(b,.seen ins' st sf)],inp⟩ (.sl un 0 1 0) i ev ek (Zp)),(f,Cf.Fr ⟨mc,f,me,cd,tb,un,mt,ch,lo,wa,ws,wm,nm,cl,fu,m0,m1,.sl b io inp.length ij,m3,m4,m5,m6,m7,m10,m13,e0,e1,e2,e3,e4,e5,e6,e7,e9,hp,hq,k1,k2,k3,k4,k5,k6,k7,k8,k9,k10,code,tab,ins,nms,[(b,.seen ins' st sf)],inp⟩ (Zn p) (p+1) (.sl s 0 ln 0)),(un,.row 364 1 1 [.ptr f 0]),(lo,.row 366 1 3 d),(s,.row 366 1 ln c),(ev,.row 98 3 ek es),(wa,.cells [.fn 204 [] []]),(ws,.cells [.fn 205 [] []]),(wm,.cells [.fn 206 [] []]),(nm,.map nms),(cl,.cells [Zs Xk,k1,k2,k3,k4,k5,k6,k7,k8,k9,k10])]++[(b,.seen ins' st sf)]) [0,1,4,11] [2,3,5,6,7,8,9,10] [0,1,4,5,2,6,7,8,9,10,11,3] (Zmx hc (by omega) hb ((List.getElem?_eq_some_iff.1 hv).1) (h _ _ hv)) J (by decide) J (by decide) J
theorem Cf.readN (hx:Cok x) (hi:x.ins[p]?=some (28,n)) (hv:i=x.inp.length) (hd:dn+1<x.fu) (hdb:x.fu<=10000) (hln:ln<=dn) (hc:c.length=ln) :
  HF Tryz.prog 353 [.ptr x.mc 0] N (x.A8 (x.M (.sl x.un 0 1 0) i ev ek (Zp)) (x.Fr a1 p (.sl s 0 ln 0)) (un1 x) dn++x.Ho d s ln c ev ek es) (fun u' n' h'=>u'=.tup []/\n'=N+3/\h'=x.A8 (x.M (.sl x.un 0 1 0) i ev ek (Zp)) (x.Fr (Zn p) (p+1) (.sl (N+2) 0 (ln+1) 0)) (un1 x) (dn+1)++x.Ho d (N+2) (ln+1) (c++[SV.ifc 3 (Zi 0)]) ev ek es):=by
 refine Cf.step hx hi hx.tab.read (by decide) hd (by omega) ?_;have hio:=hx.io;obtain ⟨mc,f,me,cd,tb,un,mt,ch,lo,wa,ws,wm,nm,cl,fu,m0,m1,vi,m3,m4,m5,m6,m7,m10,m13,e0,e1,e2,e3,e4,e5,e6,e7,e9,hp,hq,k1,k2,k3,k4,k5,k6,k7,k8,k9,k10,code,tab,ins,nms,U,inp⟩:=x;simp only at hio hv;generalize hU:U=U' at hio;generalize hI:inp=inp' at hio;generalize hV:vi=vi' at hio;cases hio with
 | nil ip iq =>
  subst hI;subst hU;subst hV;have hi0:i=0:=hv;subst hi0;exact HF.pickT (k:=11) (k2:=11) (A:=[(mc,Cf.M ⟨mc,f,me,cd,tb,un,mt,ch,lo,wa,ws,wm,nm,cl,fu,m0,m1,Zl ip iq,m3,m4,m5,m6,m7,m10,m13,e0,e1,e2,e3,e4,e5,e6,e7,e9,hp,hq,k1,k2,k3,k4,k5,k6,k7,k8,k9,k10,code,tab,ins,nms,[],[]⟩ (.sl un 0 1 0) 0 ev ek (Zp)),(f,Cf.Fr ⟨mc,f,me,cd,tb,un,mt,ch,lo,wa,ws,wm,nm,cl,fu,m0,m1,Zl ip iq,m3,m4,m5,m6,m7,m10,m13,e0,e1,e2,e3,e4,e5,e6,e7,e9,hp,hq,k1,k2,k3,k4,k5,k6,k7,k8,k9,k10,code,tab,ins,nms,[],[]⟩ (Zn p) (p+1) (.sl s 0 ln 0)),(un,.row 364 1 1 [.ptr f 0]),(lo,.row 366 1 3 d),(s,.row 366 1 ln c),(ev,.row 98 3 ek es),(wa,.cells [.fn 204 [] []]),(ws,.cells [.fn 205 [] []]),(wm,.cells [.fn 206 [] []]),(nm,.map nms),(cl,.cells [Zs Xk,k1,k2,k3,k4,k5,k6,k7,k8,k9,k10])]) (U:=[]) [0,1,4] [2,3,5,6,7,8,9,10] [0,1,3,4,2,5,6,7,8,9,10] (Zpz hc (by omega)) J (by decide) J (by decide) J
 | row b io ij st sf ins' l h hb _ =>
  subst hI;subst hU;subst hV;subst hv;exact HF.pickT (k:=11) (k2:=11) (A:=[(mc,Cf.M ⟨mc,f,me,cd,tb,un,mt,ch,lo,wa,ws,wm,nm,cl,fu,m0,m1,.sl b io inp.length ij,m3,m4,m5,m6,m7,m10,m13,e0,e1,e2,e3,e4,e5,e6,e7,e9,hp,hq,k1,k2,k3,k4,k5,k6,k7,k8,k9,k10,code,tab,ins,nms,[(b,.seen ins' st sf)],inp⟩ (.sl un 0 1 0) inp.length ev ek (Zp)),(f,Cf.Fr ⟨mc,f,me,cd,tb,un,mt,ch,lo,wa,ws,wm,nm,cl,fu,m0,m1,.sl b io inp.length ij,m3,m4,m5,m6,m7,m10,m13,e0,e1,e2,e3,e4,e5,e6,e7,e9,hp,hq,k1,k2,k3,k4,k5,k6,k7,k8,k9,k10,code,tab,ins,nms,[(b,.seen ins' st sf)],inp⟩ (Zn p) (p+1) (.sl s 0 ln 0)),(un,.row 364 1 1 [.ptr f 0]),(lo,.row 366 1 3 d),(s,.row 366 1 ln c),(ev,.row 98 3 ek es),(wa,.cells [.fn 204 [] []]),(ws,.cells [.fn 205 [] []]),(wm,.cells [.fn 206 [] []]),(nm,.map nms),(cl,.cells [Zs Xk,k1,k2,k3,k4,k5,k6,k7,k8,k9,k10])]) (U:=[(b,.seen ins' st sf)]) [0,1,4] [2,3,5,6,7,8,9,10] [0,1,3,4,2,5,6,7,8,9,10] (Zmy hc (by omega)) J (by decide) J (by decide) J
end
end S
namespace S
open Go Go.RowKit E
inductive Gos (ins:List (Nat × Int)) (inp:List Int) (fd:Nat) (fe:List SV) (bad:Bool):Nat->Nat->List Int->List SV->Nat->List SV->Nat->Prop
 | push {k p:Nat} {c:List Int} {d:List SV} {i:Nat} {es:List SV} {dn:Nat} {n:Int} (hi:ins[p]?=some (1,n)) (h:Gos ins inp fd fe bad k (p+1) (c++[n]) d i es (dn+1)):Gos ins inp fd fe bad (k+1) p c d i es dn
 | load {k p:Nat} {c:List Int} {d:List SV} {i:Nat} {es:List SV} {dn j:Nat} {a:Int} (hi:ins[p]?=some (2,.ofNat j)) (hj:d[j]?=some (iV a)) (hj3:j<3) (h:Gos ins inp fd fe bad k (p+1) (c++[a]) d i es (dn+1)):Gos ins inp fd fe bad (k+1) p c d i es dn
 | store {k p:Nat} {c:List Int} {d:List SV} {i:Nat} {es:List SV} {dn j:Nat} {a:Int} (hi:ins[p]?=some (3,.ofNat j)) (hj3:j<3) (h:Gos ins inp fd fe bad k (p+1) c (d.set j (iV a)) i es (dn+1)):Gos ins inp fd fe bad (k+1) p (c++[a]) d i es dn
 | pop {k p:Nat} {c:List Int} {d:List SV} {i:Nat} {es:List SV} {dn:Nat} {n a:Int} (hi:ins[p]?=some (4,n)) (h:Gos ins inp fd fe bad k (p+1) c d i es (dn+1)):Gos ins inp fd fe bad (k+1) p (c++[a]) d i es dn
 | add {k p:Nat} {c:List Int} {d:List SV} {i:Nat} {es:List SV} {dn:Nat} {n a b:Int} (hi:ins[p]?=some (6,n)) (h:Gos ins inp fd fe bad k (p+1) (c++[Jd .i64 a b]) d i es (dn+1)):Gos ins inp fd fe bad (k+1) p (c++[a,b]) d i es dn
 | sub {k p:Nat} {c:List Int} {d:List SV} {i:Nat} {es:List SV} {dn:Nat} {n a b:Int} (hi:ins[p]?=some (7,n)) (h:Gos ins inp fd fe bad k (p+1) (c++[Jc .i64 a b]) d i es (dn+1)):Gos ins inp fd fe bad (k+1) p (c++[a,b]) d i es dn
 | mul {k p:Nat} {c:List Int} {d:List SV} {i:Nat} {es:List SV} {dn:Nat} {n a b:Int} (hi:ins[p]?=some (8,n)) (h:Gos ins inp fd fe bad k (p+1) (c++[IntKind.i64.wrap (a*b)]) d i es (dn+1)):Gos ins inp fd fe bad (k+1) p (c++[a,b]) d i es dn
 | div {k p:Nat} {c:List Int} {d:List SV} {i:Nat} {es:List SV} {dn:Nat} {n a b:Int} (hi:ins[p]?=some (9,n)) (hb:b≠0) (h:Gos ins inp fd fe bad k (p+1) (c++[IntKind.i64.wrap (a.tdiv b)]) d i es (dn+1)):Gos ins inp fd fe bad (k+1) p (c++[a,b]) d i es dn
 | print {k p:Nat} {c:List Int} {d:List SV} {i:Nat} {es:List SV} {dn:Nat} {n a:Int} (hi:ins[p]?=some (27,n)) (h:Gos ins inp fd fe bad k (p+1) c d i (es++[SV.v (.int .i64 1),SV.v (.int .i64 a),SV.v (.string ⟨#[]⟩)]) (dn+1)):Gos ins inp fd fe bad (k+1) p (c++[a]) d i es dn
 | readS {k p:Nat} {c:List Int} {d:List SV} {i:Nat} {es:List SV} {dn:Nat} {n a:Int} (hi:ins[p]?=some (28,n)) (hv:inp[i]?=some a) (h:Gos ins inp fd fe bad k (p+1) (c++[a]) d (i+1) es (dn+1)):Gos ins inp fd fe bad (k+1) p c d i es dn
 | readN {k p:Nat} {c:List Int} {d:List SV} {i:Nat} {es:List SV} {dn:Nat} {n:Int} (hi:ins[p]?=some (28,n)) (hv:i=inp.length) (h:Gos ins inp fd fe bad k (p+1) (c++[0]) d i es (dn+1)):Gos ins inp fd fe bad (k+1) p c d i es dn
 | divz {p:Nat} {c:List Int} {d:List SV} {i dn:Nat} {n a:Int} (hi:ins[p]?=some (9,n)) (hb:bad=true) (hf:fd=dn+1):Gos ins inp fd fe bad 1 p (c++[a,0]) d i fe dn
 | back {p:Nat} {c:List Int} {d:List SV} {i dn:Nat} {n:Int} (hi:ins[p]?=some (22,n)) (hb:bad=false) (hf:fd=dn+1):Gos ins inp fd fe bad 1 p c d i fe dn
inductive FinS (x:Cf) (fd:Nat) (fe:List SV) (bad:Bool):Type
 | run (k p:Nat) (c:List Int) (d:List SV) (i:Nat) (es:List SV) (dn s ev ek N:Nat) (a1:SV) (cs:List SV) (ln:Nat) (h:Gos x.ins x.inp fd fe bad k p c d i es dn) (hd:d.length=3) (he:es.length=ek*3) (hek:ek<=dn+3) (hcd:ln<=dn) (hk:dn+k<x.fu) (hcs:cs=c.map iV) (hln:ln=c.length)
 | first (k:Nat) (n:Int) (d:List SV) (i:Nat) (es:List SV) (dn ev ek N:Nat) (a1:SV) (hi:x.ins[0]?=some (1,n)) (h:Gos x.ins x.inp fd fe bad k 1 [n] d i es (dn+1)) (hd:d.length=3) (he:es.length=ek*3) (hek:ek<=dn+3) (hk:dn+1+k<x.fu)
 | halted (i ev ek N s ln:Nat) (c d:List SV) (Fb:SB) (hb:bad=false) (he:fe.length=ek*3) (hek:ek<=fd+3)
 | threw (i ev ek N s ln ob:Nat) (c d:List SV) (Fb:SB) (hb:bad=true) (he:fe.length=ek*3) (hek:ek<=fd+3)
section
variable {x:Cf} {fd:Nat} {fe:List SV} {bad:Bool}
def FinS.nn:FinS x fd fe bad->Nat
 | .run _ _ _ _ _ _ _ _ _ _ N _ _ _ _ _ _ _ _ _ _ _=>N
 | .first _ _ _ _ _ _ _ _ N _ _ _ _ _ _ _=>N
 | .halted _ _ _ N _ _ _ _ _ _ _ _=>N
 | .threw _ _ _ N _ _ _ _ _ _ _ _ _=>N
def FinS.mu:FinS x fd fe bad->Nat
 | .run k _ _ _ _ _ _ _ _ _ _ _ _ _ _ _ _ _ _ _ _ _=>k+1
 | .first k _ _ _ _ _ _ _ _ _ _ _ _ _ _ _=>k+2
 | .halted ..=>0
 | .threw ..=>0
def FinS.hh:FinS x fd fe bad->Ch
 | .run _ p _ d i es dn s ev ek _ a1 cs ln _ _ _ _ _ _ _ _=>x.A8 (x.M (.sl x.un 0 1 0) i ev ek (.v (.pointer none))) (x.Fr a1 p (.sl s 0 ln 0)) (un1 x) dn++x.Ho d s ln cs ev ek es
 | .first _ _ d i es dn ev ek _ a1 _ _ _ _ _ _=>x.A8 (x.M (.sl x.un 0 1 0) i ev ek (.v (.pointer none))) (x.Fr a1 0 (.v (.slice none 0 0))) (un1 x) dn++([(x.lo,.row 366 1 3 d),(ev,.row 98 3 ek es),(x.wa,.cells [.fn 204 [] []]),(x.ws,.cells [.fn 205 [] []]),(x.wm,.cells [.fn 206 [] []]),(x.nm,.map x.nms),(x.cl,x.Cl)]++x.U)
 | .halted i ev ek _ s ln c d Fb _ _ _=>x.A8 (x.M (.sl x.un 0 0 0) i ev ek (.v (.pointer none))) Fb (.row 364 1 0 []) fd++x.Ho d s ln c ev ek fe
 | .threw i ev ek _ s ln ob c d Fb _ _ _=>x.A8 (x.M (.sl x.un 0 0 0) i ev ek (.ptr ob 0)) Fb (.row 364 1 0 []) fd++((ob,.cells [.ptr x.cl 0,.v (.slice none 0 0)])::x.Ho d s ln c ev ek fe)
set_option maxRecDepth 10000
theorem Zpt (hx:Cok x) (hfu:x.fu<=10000) {k p:Nat} {c:List Int} {d:List SV} {i:Nat} {es:List SV} {dn s ev ek N:Nat} {a1:SV} {cs:List SV} {ln:Nat} (h:Gos x.ins x.inp fd fe bad k p c d i es dn) (hd:d.length=3) (he:es.length=ek*3) (hek:ek<=dn+3) (hcd:ln<=dn) (hk:dn+k<x.fu) (hcs:cs=c.map iV) (hln:ln=c.length) :
  ∃ s':FinS x fd fe bad,s'.mu<k+1/\HF Tryz.prog 353 [.ptr x.mc 0] N (x.A8 (x.M (.sl x.un 0 1 0) i ev ek (Zp)) (x.Fr a1 p (.sl s 0 ln 0)) (un1 x) dn++x.Ho d s ln cs ev ek es) (fun a b c=>a=.tup []/\b=s'.nn/\c=s'.hh):=by
 cases h with
 | @push k _ _ _ _ _ _ n hi h =>
  subst hcs;subst hln;refine ⟨.run k (p+1) (c++[n]) d i es (dn+1) (N+2) ev ek (N+3) (Zn p) (c.map iV++[iV n]) (c.length+1) h (hd) (he) (by omega) (by omega) (by omega) (by simp) (by simp),by show k+1<k+1+1;omega,?_⟩;exact Cf.push hx hi (by omega) hfu (by omega) (by simp)
 | @load k _ _ _ _ _ _ j a hi hj hj3 h =>
  subst hcs;subst hln;refine ⟨.run k (p+1) (c++[a]) d i es (dn+1) (N+2) ev ek (N+3) (Zn p) (c.map iV++[iV a]) (c.length+1) h (hd) (he) (by omega) (by omega) (by omega) (by simp) (by simp),by show k+1<k+1+1;omega,?_⟩;exact Cf.load hx hi hj hj3 (by omega) hfu (by omega) (by simp)
 | @store k _ c _ _ _ _ j a hi hj3 h =>
  rw [List.map_append] at hcs;subst hcs;have hln2:ln=c.length+1:=by rw [hln];simp
  subst hln2;refine ⟨.run k (p+1) c (d.set j (iV a)) i es (dn+1) s ev ek (N+1) (Zn p) (c.map iV) c.length h (by rw [List.length_set];exact hd) (he) (by omega) (by omega) (by omega) (by simp) (by simp),by show k+1<k+1+1;omega,?_⟩;exact Cf.store hx hi hj3 hd (by omega) hfu (by omega) (by simp)
 | @pop k _ c _ _ _ _ n a hi h =>
  rw [List.map_append] at hcs;subst hcs;have hln2:ln=c.length+1:=by rw [hln];simp
  subst hln2;refine ⟨.run k (p+1) c d i es (dn+1) s ev ek (N+1) (Zn p) (c.map iV) c.length h (hd) (he) (by omega) (by omega) (by omega) (by simp) (by simp),by show k+1<k+1+1;omega,?_⟩;exact Cf.pop hx hi (by omega) hfu (by omega) (by simp)
 | @add k _ c _ _ _ _ n a b hi h =>
  rw [List.map_append] at hcs;subst hcs;have hln2:ln=c.length+2:=by rw [hln];simp
  subst hln2;refine ⟨.run k (p+1) (c++[(Jd .i64 a b)]) d i es (dn+1) (N+2) ev ek (N+3) (Zn p) (c.map iV++[iV (Jd .i64 a b)]) (c.length+1) h (hd) (he) (by omega) (by omega) (by omega) (by simp) (by simp),by show k+1<k+1+1;omega,?_⟩;exact Cf.add hx hi (by omega) hfu (by omega) (by simp)
 | @sub k _ c _ _ _ _ n a b hi h =>
  rw [List.map_append] at hcs;subst hcs;have hln2:ln=c.length+2:=by rw [hln];simp
  subst hln2;refine ⟨.run k (p+1) (c++[(Jc .i64 a b)]) d i es (dn+1) (N+2) ev ek (N+3) (Zn p) (c.map iV++[iV (Jc .i64 a b)]) (c.length+1) h (hd) (he) (by omega) (by omega) (by omega) (by simp) (by simp),by show k+1<k+1+1;omega,?_⟩;exact Cf.sub hx hi (by omega) hfu (by omega) (by simp)
 | @mul k _ c _ _ _ _ n a b hi h =>
  rw [List.map_append] at hcs;subst hcs;have hln2:ln=c.length+2:=by rw [hln];simp
  subst hln2;refine ⟨.run k (p+1) (c++[(IntKind.i64.wrap (a*b))]) d i es (dn+1) (N+2) ev ek (N+3) (Zn p) (c.map iV++[iV (IntKind.i64.wrap (a*b))]) (c.length+1) h (hd) (he) (by omega) (by omega) (by omega) (by simp) (by simp),by show k+1<k+1+1;omega,?_⟩;exact Cf.mul hx hi (by omega) hfu (by omega) (by simp)
 | @div k _ c _ _ _ _ n a b hi hb h =>
  rw [List.map_append] at hcs;subst hcs;have hln2:ln=c.length+2:=by rw [hln];simp
  subst hln2;refine ⟨.run k (p+1) (c++[(IntKind.i64.wrap (a.tdiv b))]) d i es (dn+1) (N+2) ev ek (N+3) (Zn p) (c.map iV++[iV (IntKind.i64.wrap (a.tdiv b))]) (c.length+1) h (hd) (he) (by omega) (by omega) (by omega) (by simp) (by simp),by show k+1<k+1+1;omega,?_⟩;exact Cf.div hx hi hb (by omega) hfu (by omega) (by simp)
 | @print k _ c _ _ _ _ n a hi h =>
  rw [List.map_append] at hcs;subst hcs;have hln2:ln=c.length+1:=by rw [hln];simp
  subst hln2;refine ⟨.run k (p+1) c d i (es++[Zi 1,Zi a,Ze]) (dn+1) s (N+2) (ek+1) (N+3) (Zn p) (c.map iV) c.length h (hd) (by simp only [List.length_append,List.length_cons,List.length_nil];omega) (by omega) (by omega) (by omega) (by simp) (by simp),by show k+1<k+1+1;omega,?_⟩;exact Cf.print hx hi he hek (by omega) hfu (by omega) (by simp)
 | @readS k _ _ _ _ _ _ n a hi hv h =>
  subst hcs;subst hln;refine ⟨.run k (p+1) (c++[a]) d (i+1) es (dn+1) (N+2) ev ek (N+3) (Zn p) (c.map iV++[iV a]) (c.length+1) h (hd) (he) (by omega) (by omega) (by omega) (by simp) (by simp),by show k+1<k+1+1;omega,?_⟩;exact Cf.readS hx hi hv (by omega) hfu (by omega) (by simp)
 | @readN k _ _ _ _ _ _ n hi hv h =>
  subst hcs;subst hln;refine ⟨.run k (p+1) (c++[0]) d i es (dn+1) (N+2) ev ek (N+3) (Zn p) (c.map iV++[iV 0]) (c.length+1) h (hd) (he) (by omega) (by omega) (by omega) (by simp) (by simp),by show k+1<k+1+1;omega,?_⟩;exact Cf.readN hx hi hv (by omega) hfu (by omega) (by simp)
 | @divz _ c _ _ _ n a hi hb hf =>
  rw [List.map_append] at hcs;subst hcs;have hln2:ln=c.length+2:=by rw [hln];simp
  subst hln2;subst hf;refine ⟨.threw i ev ek (N+3) s c.length (N+2) (c.map iV) d (x.Fr (Zn p) (p+1) (.sl s 0 c.length 0)) hb he (by omega),by show 0<_;omega,?_⟩;exact Cf.divz hx hi (by omega) hfu (by omega) (by simp)
 | @back _ _ _ _ _ n hi hb hf =>
  subst hcs;subst hln;subst hf;refine ⟨.halted i ev ek (N+1) s c.length (c.map iV) d (x.Fr (Zn p) (p+1) (.sl s 0 c.length 0)) hb he (by omega),by show 0<_;omega,?_⟩;exact Cf.back hx hi (by omega) hfu (by omega) (by simp)
theorem Zib (hx:Cok x) (hfu:x.fu<=10000) {k:Nat} {n:Int} {d:List SV} {i:Nat} {es:List SV} {dn ev ek N:Nat} {a1:SV} (hi:x.ins[0]?=some (1,n)) (h:Gos x.ins x.inp fd fe bad k 1 [n] d i es (dn+1)) (hd:d.length=3) (he:es.length=ek*3) (hek:ek<=dn+3) (hk:dn+1+k<x.fu) :
  ∃ s':FinS x fd fe bad,s'.mu<k+2/\HF Tryz.prog 353 [.ptr x.mc 0] N (x.A8 (x.M (.sl x.un 0 1 0) i ev ek (Zp)) (x.Fr a1 0 (Zz)) (un1 x) dn++([(x.lo,.row 366 1 3 d),(ev,.row 98 3 ek es),(x.wa,.cells [.fn 204 [] []]),(x.ws,.cells [.fn 205 [] []]),(x.wm,.cells [.fn 206 [] []]),(x.nm,.map x.nms),(x.cl,x.Cl)]++x.U)) (fun a b c=>a=.tup []/\b=s'.nn/\c=s'.hh):=by
 refine ⟨.run k 1 [n] d i es (dn+1) (N+2) ev ek (N+3) (Zn 0) [iV n] 1 h hd he (by omega) (by omega) (by omega) J J,by show k+1<k+2;omega,?_⟩;exact Cf.first hx hi (by omega) hfu
def FinS.over:FinS x fd fe bad->Prop
 | .halted ..=>True
 | .threw ..=>True
 | _=>False
def outS (bad:Bool):SV:=.tup [Zi (if bad then 2 else 1),Zs (if bad then Xk else ⟨#[]⟩)]
theorem Zic {u0 uc0:SV} {i0 ev0 ek0:Nat} (hx:Cok x) (hfu:x.fu<=10000) (s0:FinS x fd fe bad) {N:Nat} {U:Ch} (hN:s0.nn=N) (h0:s0.hh=[(x.mc,x.M u0 i0 ev0 ek0 uc0)]++U):HF Tryz.prog 317 [.ptr x.mc 0] N ([(x.mc,x.M u0 i0 ev0 ek0 uc0)]++U) fun u N' H'=>u=outS bad/\∃ s':FinS x fd fe bad,s'.over/\N'=s'.nn/\H'=s'.hh:=by
 refine hf1 Tryz.func317 J Tryz.ntmps317 fun _ _ _ _=>?_;refine Zu (Zg 2 [] [(2,Zi 0),(3,Zs ((ByteArray.mk #[])))] [] (Yi (Ye (Gm (α:=FinS x fd fe bad) (st:=(fun _=>[(0,.ptr x.mc 0),(2,Zi 0),(3,Ze)])) (nn:=FinS.nn) (hh:=FinS.hh) s0 ⟨J,J,J,trivial⟩ hN h0 ?_))));refine Iz (α:=FinS x fd fe bad) FinS.mu (fun _=>[(0,.ptr x.mc 0),(2,Zi 0),(3,Ze)]) FinS.nn FinS.hh s0 ?_;rintro (⟨k,p,c,d,i,es,dn,s,ev,ek,N,a1,cs,ln,h,hd,he,hek,hcd,hk,hcs,hln⟩ | ⟨k,n,d,i,es,dn,ev,ek,N,a1,hi,h,hd,he,hek,hk⟩ | ⟨i,ev,ek,N,s,ln,c,d,Fb,hb,he,hek⟩ | ⟨i,ev,ek,N,s,ln,ob,c,d,Fb,hb,he,hek⟩)
 ·skip
  obtain ⟨s',hμ,hst⟩:=Zpt (N:=N) (s:=s) (ev:=ev) (a1:=a1) hx hfu h hd he hek hcd hk hcs hln;refine Yb (Zu (Zg 6 [0] [(9,Zb true)] [] (Zv (Xr J (Yp (Z2 (Ye (Yb (Zu (Zg 4 [0] [(13,Zq x.mt 0)] [] (Yl [6,7] [7,6] Z6 J J J J (Zqq) J (Zv (Yw J (Yp (Z2 (Z0 (Zg 1 [] [(15,Zq x.mc 0)] [] (Sz 8 0 [2,3,4,5,6,7,0,1] [] Z6 J J J J (hst) J (Yn (Y1 ?_))))))))))))))))))));show HQ _ _ _ _ _ _ _ _ _ _ _ _ ([]++s'.hh);exact Xb s' hμ ⟨J,J,J,trivial⟩ J J
 ·skip
  obtain ⟨s',hμ,hst⟩:=Zib (N:=N) (ev:=ev) (a1:=a1) hx hfu hi h hd he hek hk;refine Yb (Zu (Zg 6 [0] [(9,Zb true)] [] (Zv (Xr J (Yp (Z2 (Ye (Yb (Zu (Zg 4 [0] [(13,Zq x.mt 0)] [] (Yl [6,7] [7,6] Z6 J J J J (Zqq) J (Zv (Yw J (Yp (Z2 (Z0 (Zg 1 [] [(15,Zq x.mc 0)] [] (Sz 8 0 [2,3,4,5,6,7,0,1] [] Z6 J J J J (hst) J (Yn (Y1 ?_))))))))))))))))))));show HQ _ _ _ _ _ _ _ _ _ _ _ _ ([]++s'.hh);exact Xb s' hμ ⟨J,J,J,trivial⟩ J J
 ·skip
  refine Yb (Zu (Zg 6 [0] [(9,Zb false)] [] (Zv (Yw J (Uo (Y0 (Y0 (Wj (Z2 (Yb (Zu (Zg 5 [0] [(21,Zb false)] [] (Zv (Yw J (Yp (Xj (Zg 2 [] [(2,Zi 1),(3,Zs ((ByteArray.mk #[])))] [] (Zv (Yv (V3 8 [0,1,2,3,4,5,6,7] (.inr J) Z6 J ?_))))))))))))))))))));subst hb;exact ⟨J,.halted i ev ek N s ln c d Fb J he hek,trivial,J,J⟩
 ·skip
  refine Yb (Zu (Zg 6 [0] [(9,Zb false)] [] (Zv (Yw J (Uo (Y0 (Y0 (Wj (Z2 (Yb (Zu (Zg 5 [0] [(21,Zb true)] [] (Zv (Xr J (Yb (I0 Xy [0,8,16] [(2,Zi 2),(3,Zs Xk)] [] (Z2 (Yv (Xm (V3 17 [0,1,2,3,4,5,6,7,8,9,10,11,12,13,14,15,16] (.inr J) Z6 J ?_))))))))))))))))))));subst hb;exact ⟨J,.threw i ev ek N s ln ob c d Fb J he hek,trivial,J,J⟩
end
end S
namespace S
open Go Go.RowKit E
inductive Xp where
 | num (n:Int)
 | inp
 | loc (j:Nat)
 | two (o:Nat) (a b:Xp)
def Gd:Xp->Prop
 | .num _=>True
 | .inp=>True
 | .loc j=>j<3
 | .two o a b=>(o=6\/o=7\/o=8\/o=9)/\Gd a/\Gd b
def Z4:Xp->List (Nat × Int)
 | .num n=>[(1,n)]
 | .inp=>[(28,0)]
 | .loc j=>[(2,.ofNat j)]
 | .two o a b=>Z4 a++Z4 b++[(o,0)]
structure Dk where
 lo:List Int
 inp:List Int
 done:Nat
 wrong:Bool
def Ms (o:Nat) (x y:Int) (d:Dk):Int × Dk :=
 if o=6 then (Jd .i64 x y,{ d with done:=d.done+1 }) else if o=7 then (Jc .i64 x y,{ d with done:=d.done+1 }) else if o=8 then (IntKind.i64.wrap (x*y),{ d with done:=d.done+1 })
 else if y=0 then (0,{ d with done:=d.done+1,wrong:=true }) else (IntKind.i64.wrap (x.tdiv y),{ d with done:=d.done+1 })
def Yc:Xp->Dk->Int × Dk
 | .num n,d=>if d.wrong then (0,d) else (n,{ d with done:=d.done+1 })
 | .inp,d=>if d.wrong then (0,d) else (d.inp.head?.getD 0,{ d with done:=d.done+1,inp:=d.inp.tail })
 | .loc j,d=>if d.wrong then (0,d) else (d.lo[j]?.getD 0,{ d with done:=d.done+1 })
 | .two o a b,d=>if d.wrong then (0,d) else if (Yc b (Yc a d).2).2.wrong then (0,(Yc b (Yc a d).2).2) else Ms o (Yc a d).1 (Yc b (Yc a d).2).1 (Yc b (Yc a d).2).2
theorem Gp:∀ (t:Xp) (d:Dk),d.wrong=true->Yc t d=(0,d)
 | .num _,d,h=>by simp only [Yc,h,if_pos]
 | .inp,d,h=>by simp only [Yc,h,if_pos]
 | .loc _,d,h=>by simp only [Yc,h,if_pos]
 | .two _ _ _,d,h=>by rw [Yc,if_pos h]
theorem twoW_lo (o:Nat) (x y:Int) (d:Dk):(Ms o x y d).2.lo=d.lo/\(Ms o x y d).2.inp=d.inp:=by
 unfold Ms;split
 ·exact ⟨J,J⟩
 split
 ·exact ⟨J,J⟩
 split
 ·exact ⟨J,J⟩
 split
 ·exact ⟨J,J⟩
 ·exact ⟨J,J⟩
theorem Sn:∀ (t:Xp) (d:Dk),(Yc t d).2.lo=d.lo
 | .num _,d=>by unfold Yc;split<;>rfl
 | .inp,d=>by unfold Yc;split<;>rfl
 | .loc _,d=>by unfold Yc;split<;>rfl
 | .two o a b,d=>by
  unfold Yc;split
  ·rfl
  ·split
   ·exact (Sn b _).trans (Sn a d)
   ·exact ((twoW_lo ..).1).trans ((Sn b _).trans (Sn a d))
def Fs (ins:List (Nat × Int)) (p:Nat) (l:List (Nat × Int)):Prop:=∀ j x,l[j]?=some x->ins[p+j]?=some x
theorem Fs.left {ins:List (Nat × Int)} {p:Nat} {a b:List (Nat × Int)} (h:Fs ins p (a++b)):Fs ins p a:=fun j x hj=>h j x (by rw [List.getElem?_append_left (List.getElem?_eq_some_iff.1 hj).1];exact hj)
theorem Fs.right {ins:List (Nat × Int)} {p:Nat} {a b:List (Nat × Int)} (h:Fs ins p (a++b)):Fs ins (p+a.length) b:=fun j x hj=>by
 rw [Nat.add_assoc];exact h (a.length+j) x (by rw [List.getElem?_append_right (by omega),Nat.add_sub_cancel_left];exact hj)
theorem Fs.head {ins:List (Nat × Int)} {p:Nat} {x:Nat × Int} {l:List (Nat × Int)} (h:Fs ins p (x::l)):ins[p]?=some x:=h 0 x rfl
structure V7 (ins:List (Nat × Int)) (inp:List Int) (t:Xp) (d:Dk) (p:Nat) (c:List Int) (i i':Nat):Prop where
 le:i'<=inp.length
 left:(Yc t d).2.inp=inp.drop i'
 well:(Yc t d).2.wrong=false->(Yc t d).2.done=d.done+(Z4 t).length/\∀ fd fe bad k es,Gos ins inp fd fe bad k (p+(Z4 t).length) (c++[(Yc t d).1]) (d.lo.map iV) i' es (Yc t d).2.done->Gos ins inp fd fe bad (k+(Z4 t).length) p c (d.lo.map iV) i es d.done
 ill:(Yc t d).2.wrong=true->∃ k,k<=(Z4 t).length/\∀ fe,Gos ins inp (Yc t d).2.done fe true k p c (d.lo.map iV) i fe d.done
theorem goes (ins:List (Nat × Int)) (inp:List Int):∀ (t:Xp) (d:Dk) (p:Nat) (c:List Int) (i:Nat),Gd t->Fs ins p (Z4 t)->d.wrong=false->d.lo.length=3->i<=inp.length->d.inp=inp.drop i->∃ i',V7 ins inp t d p c i i'
 | .num n,d,p,c,i,_,hl,hw,_,hi,hd=>by
  have e:Yc (.num n) d=(n,{ d with done:=d.done+1 }):=by unfold Yc;rw [if_neg (by rw [hw];simp)]
  refine ⟨i,hi,by rw [e];exact hd,fun _=>⟨by rw [e];rfl,fun fd fe bad k es h=>?_⟩,fun h=>?_⟩
  ·rw [e] at h;exact .push hl.head h
  ·rw [e] at h;simp only [hw] at h;cases h
 | .loc j,d,p,c,i,ht,hl,hw,h3,hi,hd=>by
  have e:Yc (.loc j) d=(d.lo[j]?.getD 0,{ d with done:=d.done+1 }):=by unfold Yc;rw [if_neg (by rw [hw];simp)]
  refine ⟨i,hi,by rw [e];exact hd,fun _=>⟨by rw [e];rfl,fun fd fe bad k es h=>?_⟩,fun h=>?_⟩
  ·rw [e] at h;have hj:j<3:=ht;have hx:d.lo[j]?=some (d.lo[j]'(by omega)):=List.getElem?_eq_getElem (by omega);rw [hx] at h;exact .load hl.head (by rw [List.getElem?_map,hx];rfl) hj h
  ·rw [e] at h;simp only [hw] at h;cases h
 | .inp,d,p,c,i,_,hl,hw,_,hi,hd=>by
  have e:Yc .inp d=(d.inp.head?.getD 0,{ d with done:=d.done+1,inp:=d.inp.tail }):=by unfold Yc;rw [if_neg (by rw [hw];simp)]
  by_cases hn:i=inp.length
  ·have h0:d.inp=[]:=by rw [hd,hn,List.drop_length]
   refine ⟨i,hi,by rw [e,hd,hn];simp,fun _=>⟨by rw [e];rfl,fun fd fe bad k es h=>?_⟩,fun h=>?_⟩
   ·rw [e,h0] at h;exact .readN hl.head hn h
   ·rw [e] at h;simp only [hw] at h;cases h
  ·have hlt:i<inp.length:=by omega
   refine ⟨i+1,hlt,by rw [e,hd];simp,fun _=>⟨by rw [e];rfl,fun fd fe bad k es h=>?_⟩,fun h=>?_⟩
   ·rw [e,hd,List.head?_drop,List.getElem?_eq_getElem hlt] at h;exact .readS hl.head (List.getElem?_eq_getElem hlt) h
   ·rw [e] at h;simp only [hw] at h;cases h
 | .two o a b,d,p,c,i,⟨ho,ha,hb⟩,hl,hw,h3,hi,hd=>by
  obtain ⟨i1,g1⟩:=goes ins inp a d p c i ha hl.left.left hw h3 hi hd;cases hw1:(Yc a d).2.wrong with
  | true =>
   have e:Yc (.two o a b) d=(0,(Yc a d).2):=by
    rw [Yc,if_neg (by rw [hw];simp),Gp b _ hw1,if_pos hw1]
   refine ⟨i1,g1.le,by rw [e];exact g1.left,fun h=>?_,fun _=>?_⟩
   ·rw [e] at h;simp only [hw1] at h;cases h
   ·obtain ⟨k,hk,hg⟩:=g1.ill hw1;exact ⟨k,by simp only [Z4,List.length_append];omega,fun fe=>by rw [e];exact hg fe⟩
  | false =>
   have hlo:=Sn a d;obtain ⟨hd1,hg1⟩:=g1.well hw1;obtain ⟨i2,g2⟩:=goes ins inp b (Yc a d).2 (p+(Z4 a).length) (c++[(Yc a d).1]) i1 hb hl.left.right hw1 (by rw [hlo];exact h3) g1.le g1.left;have hlb:(Yc b (Yc a d).2).2.lo=d.lo:=(Sn b _).trans hlo;cases hw2:(Yc b (Yc a d).2).2.wrong with
   | true =>
    have e:Yc (.two o a b) d=(0,(Yc b (Yc a d).2).2):=by
     rw [Yc,if_neg (by rw [hw];simp),if_pos hw2]
    refine ⟨i2,g2.le,by rw [e];exact g2.left,fun h=>?_,fun _=>?_⟩
    ·rw [e] at h;simp only [hw2] at h;cases h
    ·obtain ⟨k,hk,hg⟩:=g2.ill hw2;refine ⟨k+(Z4 a).length,by simp only [Z4,List.length_append];omega,fun fe=>?_⟩;rw [e];refine hg1 _ _ _ _ _ ?_;have:=hg fe;rw [hlo] at this;exact this
   | false =>
    obtain ⟨hd2,hg2⟩:=g2.well hw2;rw [hlo] at hg2
    have e:Yc (.two o a b) d=Ms o (Yc a d).1 (Yc b (Yc a d).2).1 (Yc b (Yc a d).2).2:=by
     rw [Yc,if_neg (by rw [hw];simp),if_neg (by rw [hw2];simp)]
    have hop:ins[p+(Z4 a).length+(Z4 b).length]?=some (o,0):=by
     have:=hl.right.head;rw [List.length_append,<- Nat.add_assoc] at this;exact this
    generalize hx:(Yc a d).1=x at *;generalize hy:(Yc b (Yc a d).2).1=y at *;generalize hz:(Yc b (Yc a d).2).2=z at *;have hlen:(Z4 (.two o a b)).length=(Z4 a).length+(Z4 b).length+1:=by simp only [Z4,List.length_append,List.length_cons,List.length_nil]
    have bk:∀ fd fe bad k es,Gos ins inp fd fe bad (k+1) (p+(Z4 a).length+(Z4 b).length) (c++[x,y]) (d.lo.map iV) i2 es z.done->Gos ins inp fd fe bad (k+(Z4 (.two o a b)).length) p c (d.lo.map iV) i es d.done:=fun fd fe bad k es h=>by
     have h':=hg1 fd fe bad _ es (hg2 fd fe bad (k+1) es (by rw [List.append_assoc];exact h));rw [hlen,show k+((Z4 a).length+(Z4 b).length+1)=k+1+(Z4 b).length+(Z4 a).length by omega];exact h'
    have hpl:p+(Z4 (.two o a b)).length=p+(Z4 a).length+(Z4 b).length+1:=by omega
    have key:∀ v,Yc (.two o a b) d=(v,{ z with done:=z.done+1 })->(∀ fd fe bad k es,Gos ins inp fd fe bad k (p+(Z4 a).length+(Z4 b).length+1) (c++[v]) (d.lo.map iV) i2 es (z.done+1)->Gos ins inp fd fe bad (k+1) (p+(Z4 a).length+(Z4 b).length) (c++[x,y]) (d.lo.map iV) i2 es z.done)->∃ i',V7 ins inp (.two o a b) d p c i i':=by
     intro v ev hv;refine ⟨i2,g2.le,by rw [ev];exact hz ▸ g2.left,fun _=>⟨?_,fun fd fe bad k es hG=>bk fd fe bad k es ?_⟩,fun h=>?_⟩
     ·rw [ev,hlen];simp only;omega
     ·rw [ev,hpl] at hG;exact hv fd fe bad k es hG
     ·rw [ev] at h;simp only [hw2] at h;cases h
    rcases ho with rfl | rfl | rfl | rfl
    ·exact key (Jd .i64 x y) (by rw [e,Ms,if_pos rfl]) (fun _ _ _ _ _ h=>.add hop h)
    ·exact key (Jc .i64 x y) (by rw [e,Ms,if_neg (by decide),if_pos rfl]) (fun _ _ _ _ _ h=>.sub hop h)
    ·exact key (IntKind.i64.wrap (x*y)) (by rw [e,Ms,if_neg (by decide),if_neg (by decide),if_pos rfl]) (fun _ _ _ _ _ h=>.mul hop h)
    ·by_cases hy0:y=0
     ·have ev:Yc (.two 9 a b) d=(0,{ z with done:=z.done+1,wrong:=true }):=by rw [e,Ms,if_neg (by decide),if_neg (by decide),if_neg (by decide),if_pos hy0]
      refine ⟨i2,g2.le,by rw [ev];exact hz ▸ g2.left,fun h=>?_,fun _=>⟨0+(Z4 (.two 9 a b)).length,by omega,fun fe=>bk _ _ _ 0 _ ?_⟩⟩
      ·rw [ev] at h;cases h
      ·rw [ev,hy0];exact .divz hop J J
     ·exact key (IntKind.i64.wrap (x.tdiv y)) (by rw [e,Ms,if_neg (by decide),if_neg (by decide),if_neg (by decide),if_neg hy0]) (fun _ _ _ _ _ h=>.div hop hy0 h)
end S
end Go.Proofs.YtpofmnfkdkmieaaGreat
