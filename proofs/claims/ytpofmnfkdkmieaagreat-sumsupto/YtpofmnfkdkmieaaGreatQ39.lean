/- What is proved here: handlers, frames, fields and instruction -/
import Derived.Test.YtpofmnfkdkmieaaGreatQ38
import Derived.Test.YtpofmnfkdkmieaaGreatQ05
import Derived.Test.YtpofmnfkdkmieaaGreatQ23
import Derived.Test.YtpofmnfkdkmieaaGreatQ04
import Derived.Test.YtpofmnfkdkmieaaGreatQ07
set_option linter.unusedVariables false
set_option linter.unusedSimpArgs false
namespace Go.Proofs.YtpofmnfkdkmieaaGreat
namespace At
open Go
theorem Td {α:Type} {x y:α} {s r:List UInt8} (h:Ug x s=some (y,r)):x=y/\s=r:=by
 simpa only [Ug,Option.some.injEq,Prod.mk.injEq] using h
abbrev In2 (n:Int):Prop:=0<=n/\n<65536
abbrev In1 (n:Int):Prop:=0<=n/\n<256
def wHd (h:Hd):List UInt8:=Tq 2 h.lo++(Tq 2 h.hi++(Tq 2 h.pos++Qw h.cls))
structure HdG (h:Hd):Prop where
 a:In2 h.lo
 b:In2 h.hi
 c:In2 h.pos
 d:h.cls.size<256
theorem cod_hd:Cod pHd wHd HdG:=by
 refine ⟨fun x r g=>?_,fun s x r h g=>?_⟩
 ·unfold wHd;simp only [List.append_assoc];exact Z5.2 ⟨_,_,Sy.wr _ _ g.a,Z5.2 ⟨_,_,Sy.wr _ _ g.b,Z5.2 ⟨_,_,Sy.wr _ _ g.c,Z5.2 ⟨_,_,Wx.wr _ _ g.d,J⟩⟩⟩⟩
 ·obtain ⟨a,s1,h1,h⟩:=Z5.1 h;obtain ⟨b,s2,h2,h⟩:=Z5.1 h;obtain ⟨c,s3,h3,h⟩:=Z5.1 h;obtain ⟨d,s4,h4,h⟩:=Z5.1 h;obtain ⟨rfl,rfl⟩:=Td h;rw [Sy.rd _ _ _ h1 g.a,Sy.rd _ _ _ h2 g.b,Sy.rd _ _ _ h3 g.c,Wx.rd _ _ _ h4 g.d];simp only [wHd,List.append_assoc]
abbrev TysG (most:Nat) (l:List Ty):Prop:=l.length<=most/\∀ x ∈ l,TyG x
theorem P7 (chk lim:Bool) (most:Nat) (h:most<256):Cod (Tl lim 1 most (pTy chk)) (Sh 1 wTy) (TysG most):=Nh (M:=256) rfl (by omega) h (N9 chk)
def wFr (f:Fr):List UInt8:=Tq 2 f.pos++(Sh 1 wTy f.locals++Sh 1 wTy f.stack)
structure FrG (f:Fr):Prop where
 a:In2 f.pos
 b:TysG 20 f.locals
 c:TysG 20 f.stack
theorem cod_fr (chk lim:Bool):Cod (pFr chk lim) wFr FrG:=by
 refine ⟨fun x r g=>?_,fun s x r h g=>?_⟩
 ·unfold wFr;simp only [List.append_assoc];exact Z5.2 ⟨_,_,Sy.wr _ _ g.a,Z5.2 ⟨_,_,(P7 chk lim 20 (by omega)).wr _ _ g.b,Z5.2 ⟨_,_,(P7 chk lim 20 (by omega)).wr _ _ g.c,J⟩⟩⟩
 ·obtain ⟨a,s1,h1,h⟩:=Z5.1 h;obtain ⟨b,s2,h2,h⟩:=Z5.1 h;obtain ⟨c,s3,h3,h⟩:=Z5.1 h;obtain ⟨rfl,rfl⟩:=Td h;rw [Sy.rd _ _ _ h1 g.a,(P7 chk lim 20 (by omega)).rd _ _ _ h2 g.b,(P7 chk lim 20 (by omega)).rd _ _ _ h3 g.c];simp only [wFr,List.append_assoc]
def wFd (f:Fld):List UInt8:=Qw f.name++(Zjg f.stat++wTy f.ty)
structure FdG (f:Fld):Prop where
 a:f.name.size<256
 b:TyG f.ty
theorem cod_fd (chk:Bool):Cod (pFd chk) wFd FdG:=by
 refine ⟨fun x r g=>?_,fun s x r h g=>?_⟩
 ·unfold wFd;simp only [List.append_assoc];exact Z5.2 ⟨_,_,Wx.wr _ _ g.a,Z5.2 ⟨_,_,Ik.wr _ _ trivial,Z5.2 ⟨_,_,(N9 chk).wr _ _ g.b,J⟩⟩⟩
 ·obtain ⟨a,s1,h1,h⟩:=Z5.1 h;obtain ⟨b,s2,h2,h⟩:=Z5.1 h;obtain ⟨c,s3,h3,h⟩:=Z5.1 h;obtain ⟨rfl,rfl⟩:=Td h;rw [Wx.rd _ _ _ h1 g.a,Ik.rd _ _ _ h2 trivial,(N9 chk).rd _ _ _ h3 g.b];simp only [wFd,List.append_assoc]
end At
namespace At
open Go
def Mq (i:Ins):List UInt8 :=
 if X3 i.op=1 then Tq 8 i.n
 else if X3 i.op=2 then Tq 1 i.n
 else if X3 i.op=3 then Tq 2 i.n
 else if X3 i.op=4 then Qw i.ref.cls
 else if X3 i.op=5 then Qw i.ref.cls++(Qw i.ref.name++wTy i.ref.ty)
 else if X3 i.op=6 then Qw i.ref.cls++(Qw i.ref.name++(Sh 1 wTy i.ref.params++wTy i.ref.ty))
 else []
def wIns (i:Ins):List UInt8:=Tq 1 i.op++Mq i
inductive InsG:Ins->Prop
 | s1 (op n:Int) (h:In1 op) (hs:X3 op=1) (hn : -9223372036854775808<=n/\n<9223372036854775808):InsG ⟨op,n,rf0⟩
 | s2 (op n:Int) (h:In1 op) (hs:X3 op=2) (hn:In1 n):InsG ⟨op,n,rf0⟩
 | s3 (op n:Int) (h:In1 op) (hs:X3 op=3) (hn:In2 n):InsG ⟨op,n,rf0⟩
 | s4 (op:Int) (c:ByteArray) (h:In1 op) (hs:X3 op=4) (hc:c.size<256):InsG ⟨op,0,⟨c,mt,[],⟨0,mt⟩⟩⟩
 | s5 (op:Int) (c n:ByteArray) (t:Ty) (h:In1 op) (hs:X3 op=5) (hc:c.size<256) (hn:n.size<256) (ht:TyG t):InsG ⟨op,0,⟨c,n,[],t⟩⟩
 | s6 (op:Int) (c n:ByteArray) (ps:List Ty) (t:Ty) (h:In1 op) (hs:X3 op=6) (hc:c.size<256) (hn:n.size<256) (hp:TysG 6 ps) (ht:TyG t):InsG ⟨op,0,⟨c,n,ps,t⟩⟩
 | s0 (op:Int) (h:In1 op) (hs:X3 op=0):InsG ⟨op,0,rf0⟩
theorem InsG.op {i:Ins} (h:InsG i):In1 i.op:=by cases h<;>assumption
theorem ins_wr (chk lim:Bool) {i:Ins} (h:InsG i) (r:List UInt8):Nz chk lim i.op (Mq i++r)=some (i,r):=by
 cases h with
 | s1 op n h hs hn =>
  rw [Zsf hs];unfold Mq;rw [if_pos hs];exact Z5.2 ⟨_,_,Zfw.wr _ _ hn,J⟩
 | s2 op n h hs hn =>
  rw [Zse hs];unfold Mq;rw [if_neg (by dsimp only;omega),if_pos hs];exact Z5.2 ⟨_,_,To.wr _ _ hn,J⟩
 | s3 op n h hs hn =>
  rw [Zsd hs];unfold Mq;rw [if_neg (by dsimp only;omega),if_neg (by dsimp only;omega),if_pos hs];exact Z5.2 ⟨_,_,Sy.wr _ _ hn,J⟩
 | s4 op c h hs hc =>
  rw [Zsc hs];unfold Mq;rw [if_neg (by dsimp only;omega),if_neg (by dsimp only;omega),if_neg (by dsimp only;omega),if_pos hs];exact Z5.2 ⟨_,_,Wx.wr _ _ hc,J⟩
 | s5 op c n t h hs hc hn ht =>
  rw [Zsb hs];unfold Mq;rw [if_neg (by dsimp only;omega),if_neg (by dsimp only;omega),if_neg (by dsimp only;omega),if_neg (by dsimp only;omega),if_pos hs];simp only [List.append_assoc];exact Z5.2 ⟨_,_,Wx.wr _ _ hc,Z5.2 ⟨_,_,Wx.wr _ _ hn,Z5.2 ⟨_,_,(N9 chk).wr _ _ ht,J⟩⟩⟩
 | s6 op c n ps t h hs hc hn hp ht =>
  rw [Zsa hs];unfold Mq;rw [if_neg (by dsimp only;omega),if_neg (by dsimp only;omega),if_neg (by dsimp only;omega),if_neg (by dsimp only;omega),if_neg (by dsimp only;omega),if_pos hs];simp only [List.append_assoc];exact Z5.2 ⟨_,_,Wx.wr _ _ hc,Z5.2 ⟨_,_,Wx.wr _ _ hn,Z5.2 ⟨_,_,(P7 chk lim 6 (by omega)).wr _ _ hp,Z5.2 ⟨_,_,(N9 chk).wr _ _ ht,J⟩⟩⟩⟩
 | s0 op h hs =>
  rw [Zsg (by dsimp only;omega) (by dsimp only;omega) (by dsimp only;omega) (by dsimp only;omega) (by dsimp only;omega) (by dsimp only;omega) (fun _=>by dsimp only;omega)];unfold Mq;rw [if_neg (by dsimp only;omega),if_neg (by dsimp only;omega),if_neg (by dsimp only;omega),if_neg (by dsimp only;omega),if_neg (by dsimp only;omega),if_neg (by dsimp only;omega)];rfl
theorem ins_rd (chk lim:Bool) {op:Int} {i:Ins} {s r:List UInt8} (h:Nz chk lim op s=some (i,r)) (g:InsG i) (ho:i.op=op):s=Mq i++r:=by
 subst ho;cases g with
 | s1 op n h0 hs hn =>
  rw [Zsf hs] at h;obtain ⟨a,s1,h1,h⟩:=Z5.1 h;obtain ⟨e,rfl⟩:=Td h;injection e with e1 e2 e3;subst e2
  unfold Mq;rw [if_pos hs];exact Zfw.rd _ _ _ h1 hn
 | s2 op n h0 hs hn =>
  rw [Zse hs] at h;obtain ⟨a,s1,h1,h⟩:=Z5.1 h;obtain ⟨e,rfl⟩:=Td h;injection e with e1 e2 e3;subst e2
  unfold Mq;rw [if_neg (by dsimp only;omega),if_pos hs];exact To.rd _ _ _ h1 hn
 | s3 op n h0 hs hn =>
  rw [Zsd hs] at h;obtain ⟨a,s1,h1,h⟩:=Z5.1 h;obtain ⟨e,rfl⟩:=Td h;injection e with e1 e2 e3;subst e2
  unfold Mq;rw [if_neg (by dsimp only;omega),if_neg (by dsimp only;omega),if_pos hs];exact Sy.rd _ _ _ h1 hn
 | s4 op c h0 hs hc =>
  rw [Zsc hs] at h;obtain ⟨a,s1,h1,h⟩:=Z5.1 h;obtain ⟨e,rfl⟩:=Td h;injection e with e1 e2 e3
  injection e3 with e4;subst e4
  unfold Mq;rw [if_neg (by dsimp only;omega),if_neg (by dsimp only;omega),if_neg (by dsimp only;omega),if_pos hs];exact Wx.rd _ _ _ h1 hc
 | s5 op c n t h0 hs hc hn ht =>
  rw [Zsb hs] at h;obtain ⟨a,s1,h1,h⟩:=Z5.1 h;obtain ⟨b,s2,h2,h⟩:=Z5.1 h;obtain ⟨d,s3,h3,h⟩:=Z5.1 h;obtain ⟨e,rfl⟩:=Td h;injection e with e1 e2 e3
  injection e3 with e4 e5 e6 e7;subst e4;subst e5;subst e7
  unfold Mq;rw [if_neg (by dsimp only;omega),if_neg (by dsimp only;omega),if_neg (by dsimp only;omega),if_neg (by dsimp only;omega),if_pos hs];rw [Wx.rd _ _ _ h1 hc,Wx.rd _ _ _ h2 hn,(N9 chk).rd _ _ _ h3 ht];simp only [List.append_assoc]
 | s6 op c n ps t h0 hs hc hn hp ht =>
  rw [Zsa hs] at h;obtain ⟨a,s1,h1,h⟩:=Z5.1 h;obtain ⟨b,s2,h2,h⟩:=Z5.1 h;obtain ⟨q,s3,h3,h⟩:=Z5.1 h;obtain ⟨d,s4,h4,h⟩:=Z5.1 h;obtain ⟨e,rfl⟩:=Td h;injection e with e1 e2 e3
  injection e3 with e4 e5 e6 e7;subst e4;subst e5;subst e6;subst e7
  unfold Mq;rw [if_neg (by dsimp only;omega),if_neg (by dsimp only;omega),if_neg (by dsimp only;omega),if_neg (by dsimp only;omega),if_neg (by dsimp only;omega),if_pos hs];rw [Wx.rd _ _ _ h1 hc,Wx.rd _ _ _ h2 hn,(P7 chk lim 6 (by omega)).rd _ _ _ h3 hp,(N9 chk).rd _ _ _ h4 ht];simp only [List.append_assoc]
 | s0 op h0 hs =>
  rw [Zsg (by dsimp only;omega) (by dsimp only;omega) (by dsimp only;omega) (by dsimp only;omega) (by dsimp only;omega) (by dsimp only;omega) (fun _=>by dsimp only;omega)] at h;obtain ⟨-,rfl⟩:=Td h;unfold Mq;rw [if_neg (by dsimp only;omega),if_neg (by dsimp only;omega),if_neg (by dsimp only;omega),if_neg (by dsimp only;omega),if_neg (by dsimp only;omega),if_neg (by dsimp only;omega)];rfl
theorem insP_op {chk lim:Bool} {op:Int} {i:Ins} {s r:List UInt8} (h:Nz chk lim op s=some (i,r)):i.op=op:=by
 unfold Nz at h;split at h
 ·obtain ⟨a,s1,h1,h⟩:=Z5.1 h;obtain ⟨rfl, -⟩:=Td h;rfl
 split at h
 ·obtain ⟨a,s1,h1,h⟩:=Z5.1 h;obtain ⟨rfl, -⟩:=Td h;rfl
 split at h
 ·obtain ⟨a,s1,h1,h⟩:=Z5.1 h;obtain ⟨rfl, -⟩:=Td h;rfl
 split at h
 ·obtain ⟨a,s1,h1,h⟩:=Z5.1 h;obtain ⟨rfl, -⟩:=Td h;rfl
 split at h
 ·obtain ⟨a,s1,h1,h⟩:=Z5.1 h;obtain ⟨b,s2,h2,h⟩:=Z5.1 h;obtain ⟨c,s3,h3,h⟩:=Z5.1 h;obtain ⟨rfl, -⟩:=Td h;rfl
 split at h
 ·obtain ⟨a,s1,h1,h⟩:=Z5.1 h;obtain ⟨b,s2,h2,h⟩:=Z5.1 h;obtain ⟨c,s3,h3,h⟩:=Z5.1 h;obtain ⟨d,s4,h4,h⟩:=Z5.1 h;obtain ⟨rfl, -⟩:=Td h;rfl
 split at h
 ·cases h
 ·obtain ⟨rfl, -⟩:=Td h;rfl
theorem cod_ins (chk lim:Bool):Cod (Fe chk lim) wIns InsG:=by
 refine ⟨fun x r g=>?_,fun s x r h g=>?_⟩
 ·unfold wIns;rw [List.append_assoc];exact Z5.2 ⟨_,_,To.wr _ _ g.op,ins_wr chk lim g r⟩
 ·obtain ⟨a,s1,h1,h⟩:=Z5.1 h;have e:=insP_op h;have h2:=ins_rd chk lim h g e;subst e;rw [To.rd _ _ _ h1 g.op,h2];simp only [wIns,List.append_assoc]
end At
namespace At
open Go
abbrev Bg {α:Type} (most:Nat) (g:α->Prop) (l:List α):Prop:=l.length<=most/\∀ x ∈ l,g x
def wMe (m:Me):List UInt8:=Qw m.name++(Zjg m.stat++(Sh 1 wTy m.params++(wTy m.result++(Tq 1 m.locals++(Tq 1 m.stack++(Sh 2 wIns m.code++(Sh 1 wHd m.handlers++Sh 1 wFr m.frames)))))))
structure MeG (m:Me):Prop where
 nm:m.name.size<256
 ps:TysG 6 m.params
 rs:TyG m.result
 lo:In1 m.locals
 sk:In1 m.stack
 cs:Bg 200 InsG m.code
 hs:Bg 10 HdG m.handlers
 fs:Bg 60 FrG m.frames
theorem Ztr (chk lim:Bool):Cod (Tl lim 2 200 (Fe chk lim)) (Sh 2 wIns) (Bg 200 InsG):=Nh (M:=65536) rfl (by omega) (by omega) (cod_ins chk lim)
theorem Ztq (lim:Bool):Cod (Tl lim 1 10 pHd) (Sh 1 wHd) (Bg 10 HdG):=Nh (M:=256) rfl (by omega) (by omega) cod_hd
theorem Zle (chk lim:Bool):Cod (Tl lim 1 60 (pFr chk lim)) (Sh 1 wFr) (Bg 60 FrG):=Nh (M:=256) rfl (by omega) (by omega) (cod_fr chk lim)
theorem cod_me (chk lim:Bool):Cod (pMe chk lim) wMe MeG:=by
 refine ⟨fun x r g=>?_,fun s x r h g=>?_⟩
 ·unfold wMe;simp only [List.append_assoc]
  exact Z5.2 ⟨_,_,Wx.wr _ _ g.nm,Z5.2 ⟨_,_,Ik.wr _ _ trivial,Z5.2 ⟨_,_,(P7 chk lim 6 (by omega)).wr _ _ g.ps,Z5.2 ⟨_,_,(N9 chk).wr _ _ g.rs,
   Z5.2 ⟨_,_,To.wr _ _ g.lo,Z5.2 ⟨_,_,To.wr _ _ g.sk,Z5.2 ⟨_,_,(Ztr chk lim).wr _ _ g.cs,Z5.2 ⟨_,_,(Ztq lim).wr _ _ g.hs,Z5.2 ⟨_,_,(Zle chk lim).wr _ _ g.fs,rfl⟩⟩⟩⟩⟩⟩⟩⟩⟩
 ·obtain ⟨a1,s1,h1,h⟩:=Z5.1 h;obtain ⟨a2,s2,h2,h⟩:=Z5.1 h;obtain ⟨a3,s3,h3,h⟩:=Z5.1 h;obtain ⟨a4,s4,h4,h⟩:=Z5.1 h;obtain ⟨a5,s5,h5,h⟩:=Z5.1 h;obtain ⟨a6,s6,h6,h⟩:=Z5.1 h;obtain ⟨a7,s7,h7,h⟩:=Z5.1 h;obtain ⟨a8,s8,h8,h⟩:=Z5.1 h;obtain ⟨a9,s9,h9,h⟩:=Z5.1 h;obtain ⟨rfl,rfl⟩:=Td h;rw [Wx.rd _ _ _ h1 g.nm,Ik.rd _ _ _ h2 trivial,(P7 chk lim 6 (by omega)).rd _ _ _ h3 g.ps,(N9 chk).rd _ _ _ h4 g.rs,To.rd _ _ _ h5 g.lo,To.rd _ _ _ h6 g.sk,(Ztr chk lim).rd _ _ _ h7 g.cs,(Ztq lim).rd _ _ _ h8 g.hs,(Zle chk lim).rd _ _ _ h9 g.fs];simp only [wMe,List.append_assoc]
def wCl (c:Cl):List UInt8:=Qw c.name++(Qw c.super++(Sh 1 wFd c.fields++Sh 1 wMe c.methods))
structure ClG (c:Cl):Prop where
 nm:c.name.size<256
 sp:c.super.size<256
 fs:Bg 20 FdG c.fields
 ms:Bg 20 MeG c.methods
theorem Zlf (chk lim:Bool):Cod (Tl lim 1 20 (pFd chk)) (Sh 1 wFd) (Bg 20 FdG):=Nh (M:=256) rfl (by omega) (by omega) (cod_fd chk)
theorem Zlc (chk lim:Bool):Cod (Tl lim 1 20 (pMe chk lim)) (Sh 1 wMe) (Bg 20 MeG):=Nh (M:=256) rfl (by omega) (by omega) (cod_me chk lim)
theorem cod_cl (chk lim:Bool):Cod (pCl chk lim) wCl ClG:=by
 refine ⟨fun x r g=>?_,fun s x r h g=>?_⟩
 ·unfold wCl;simp only [List.append_assoc];exact Z5.2 ⟨_,_,Wx.wr _ _ g.nm,Z5.2 ⟨_,_,Wx.wr _ _ g.sp,Z5.2 ⟨_,_,(Zlf chk lim).wr _ _ g.fs,Z5.2 ⟨_,_,(Zlc chk lim).wr _ _ g.ms,J⟩⟩⟩⟩
 ·obtain ⟨a1,s1,h1,h⟩:=Z5.1 h;obtain ⟨a2,s2,h2,h⟩:=Z5.1 h;obtain ⟨a3,s3,h3,h⟩:=Z5.1 h;obtain ⟨a4,s4,h4,h⟩:=Z5.1 h;obtain ⟨rfl,rfl⟩:=Td h;rw [Wx.rd _ _ _ h1 g.nm,Wx.rd _ _ _ h2 g.sp,(Zlf chk lim).rd _ _ _ h3 g.fs,(Zlc chk lim).rd _ _ _ h4 g.ms];simp only [wCl,List.append_assoc]
theorem decL_wr (chk lim:Bool) {c:Cl} (g:ClG c):Qo chk lim (Il++wCl c)=some c:=by
 have h1:=(cod_cl chk lim).wr c [] g;rw [List.append_nil] at h1;have e1:(Il++wCl c).take 4=Il:=List.take_left (l₁:=Il);have e2:(Il++wCl c).drop 4=wCl c:=List.drop_left (l₁:=Il);unfold Qo;rw [e1,if_pos rfl,e2,h1];rfl
end At
namespace At
open Go
def bl (s:ByteArray):List UInt8:=s.data.toList
theorem Ru (a b:ByteArray):bl (a++b)=bl a++bl b:=by unfold bl;rw [ByteArray.data_append,Array.toList_append]
theorem Ll (n:Int) (k:Nat):bl (Wl n k)=Tq k n:=rfl
theorem Kg (s:ByteArray):bl (U2 s)=Qw s:=by unfold U2 Qw;rw [Ru,Ll];rfl
theorem Zlj (b:Bool):bl (Kx b)=Zjg b:=by cases b<;>rfl
theorem Zli (t:Ty):bl (W7 t)=wTy t:=by
 unfold W7 wTy;split
 ·rw [Ru,Ll,Kg]
 ·rfl
theorem Mb {α:Type} (F:ByteArray->α->ByteArray) (w:α->List UInt8) (hF:∀ s x,bl (F s x)=bl s++w x):∀ (l:List α) (s:ByteArray),bl (l.foldl F s)=bl s++l.flatMap w
 | [],s=>by simp
 | x::l,s=>by rw [List.foldl_cons,Mb F w hF l,hF,List.flatMap_cons,List.append_assoc]
theorem Zio (l:List Ty):bl (R3 l)=Sh 1 wTy l:=by
 unfold R3 Sh;rw [Mb _ wTy (fun s x=>by rw [Ru,Zli]),Ll]
theorem bl_ins (i:Ins):bl (Vy i)=wIns i:=by
 unfold Vy wIns Mq;repeat' split
 all_goals simp only [Ru,Ll,Kg,Zli,Zio,List.append_assoc,List.append_nil]
theorem bl_hd (s:ByteArray) (h:Hd):bl (hdS s h)=bl s++wHd h:=by unfold hdS wHd;simp only [Ru,Ll,Kg,List.append_assoc]
theorem bl_fr (s:ByteArray) (f:Fr):bl (frS s f)=bl s++wFr f:=by unfold frS wFr;simp only [Ru,Ll,Zio,List.append_assoc]
theorem bl_fd (s:ByteArray) (f:Fld):bl (fdS s f)=bl s++wFd f:=by unfold fdS wFd;simp only [Ru,Kg,Zlj,Zli,List.append_assoc]
theorem bl_me (m:Me):bl (Qh m)=wMe m:=by
 unfold Qh hdsS A0 D7;rw [Mb _ wFr bl_fr,Ru,Mb _ wHd bl_hd,Ru,Mb _ wIns (fun s x=>by rw [Ru,bl_ins])];simp only [Ru,Ll,Kg,Zlj,Zli,Zio,wMe,Sh,List.append_assoc]
theorem Zue (c:Cl):bl (Tt c)=Il++wCl c:=by
 unfold Tt fdsS topS;rw [Mb _ wMe (fun s x=>by rw [Ru,bl_me]),Ru,Mb _ wFd bl_fd];simp only [Ru,Ll,Kg,wCl,Sh,List.append_assoc];rfl
end At
namespace At
open Go
theorem Rk {s:ByteArray} (h:Xz s=true):s.size<256:=by
 unfold Xz at h;simp only [Bool.and_eq_true,decide_eq_true_eq] at h;omega
theorem ty_G {t:Ty} {v o:Bool} (h:Vv t v o=true):TyG t:=by
 obtain ⟨k,c⟩:=t;unfold Vv at h;dsimp only at h;split at h
 ·rename_i hk
  simp only [Bool.and_eq_true,decide_eq_true_eq] at h;exact ⟨⟨by dsimp only;omega,by dsimp only;omega⟩,fun e=>by dsimp only at e;omega,fun _=>h.2⟩
 split at h
 ·rename_i hk
  simp only [decide_eq_true_eq] at h;exact ⟨⟨by dsimp only;omega,by dsimp only;omega⟩,fun e=>by dsimp only at e;omega,fun _=>h⟩
 split at h
 ·rename_i hk
  exact ⟨⟨by dsimp only;omega,by dsimp only;omega⟩,fun _=>Rk h,fun e=>absurd hk e⟩
 split at h
 ·rename_i hk
  simp only [Bool.and_eq_true,decide_eq_true_eq] at h;exact ⟨⟨by dsimp only;omega,by dsimp only;omega⟩,fun e=>by dsimp only at e;omega,fun _=>h.2⟩
 ·cases h
theorem Zjh {l:List Ty} {o:Bool} (h:Vl l o=true):∀ t ∈ l,TyG t:=fun t ht=>ty_G (List.all_eq_true.1 h t ht)
theorem sort_in {op:Int} (h:¬ X3 op<0):In1 op:=by
 unfold X3 at h;constructor<;>(repeat' split at h)<;>omega
theorem rf_is {r:Rf} (h1:r.cls=mt) (h2:r.name=mt) (h3:r.params=[]) (h4:r.ty.kind=0) (h5:r.ty.cls=mt):r=rf0:=by
 obtain ⟨c,n,p,⟨k,tc⟩⟩:=r;simp_all [rf0]
theorem sort_le (op:Int):X3 op<=6:=by unfold X3;(repeat' split)<;>omega
theorem ins_G {i:Ins} {lo:Int} {len:Nat} (h:V9 i lo len=true) (hlo:lo<=256) (hlen:len<=65536) (hn:Yu i.n):InsG i:=by
 obtain ⟨op,n,r⟩:=i;unfold V9 at h;dsimp only at h hn;have hle:=sort_le op;split at h
 ·cases h
 rename_i hs
 have hop:=sort_in hs;split at h
 ·rename_i hs4
  split at h
  ·cases h
  rename_i hr
  simp only [not_or,Decidable.not_not] at hr;have e:r=rf0:=rf_is hr.1 hr.2.1 (List.length_eq_zero_iff.1 (by have:=hr.2.2.1;omega)) hr.2.2.2.1 hr.2.2.2.2;subst e;split at h
  ·rename_i h0
   simp only [decide_eq_true_eq] at h;subst h;exact .s0 op hop h0
  split at h
  ·rename_i h2
   simp only [Bool.and_eq_true,decide_eq_true_eq] at h;exact .s2 op n hop h2 ⟨h.1,by omega⟩
  split at h
  ·rename_i h3
   simp only [Bool.and_eq_true,decide_eq_true_eq] at h;exact .s3 op n hop h3 ⟨h.1,by omega⟩
  ·unfold Yu at hn;exact .s1 op n hop (by omega) ⟨hn.1,by omega⟩
 ·rename_i hs4
  split at h
  ·cases h
  rename_i hr
  simp only [not_or,Decidable.not_not,Bool.not_eq_false] at hr;obtain ⟨rfl,hc⟩:=hr;obtain ⟨c,nm,ps,t⟩:=r;dsimp only at h hc;split at h
  ·rename_i h4
   simp only [Bool.and_eq_true,decide_eq_true_eq] at h;obtain ⟨⟨⟨e1,e2⟩,e3⟩,e4⟩:=h;obtain ⟨tk,tc⟩:=t;dsimp only at e3 e4;obtain rfl:=e1;obtain rfl:ps=[]:=List.length_eq_zero_iff.1 (by omega);subst e3;subst e4;exact .s4 op c hop h4 (Rk hc)
  split at h
  ·rename_i h5
   simp only [Bool.and_eq_true,decide_eq_true_eq] at h;obtain ⟨⟨e1,e2⟩,e3⟩:=h;obtain rfl:ps=[]:=List.length_eq_zero_iff.1 (by omega);exact .s5 op c nm t hop h5 (Rk hc) (Rk e1) (ty_G e3)
  ·simp only [Bool.and_eq_true,decide_eq_true_eq] at h;obtain ⟨⟨⟨e1,e2⟩,e3⟩,e4⟩:=h;exact .s6 op c nm ps t hop (by omega) (Rk hc) (Rk e1) ⟨by omega,Zjh e3⟩ (ty_G e4)
end At
namespace At
open Go
theorem hd_G {h:Hd} {len:Nat} (hh:Ro h len=true) (hl:len<=200):HdG h:=by
 unfold Ro at hh;simp only [Bool.and_eq_true,Bool.or_eq_true,decide_eq_true_eq] at hh;obtain ⟨⟨⟨⟨⟨h1,h2⟩,h3⟩,h4⟩,h5⟩,h6⟩:=hh;refine ⟨⟨h1,by omega⟩,⟨by omega,by omega⟩,⟨h4,by omega⟩,?_⟩;rcases h6 with h6 | h6
 ·exact Rk h6
 ·rw [h6];decide
theorem fr_G {f:Fr} {prev lo sk:Int} {len:Nat} (hf:Ml prev f lo sk len=true) (hlo:lo<=20) (hsk:sk<=20) (hl:len<=200):FrG f:=by
 unfold Ml at hf;simp only [Bool.and_eq_true,decide_eq_true_eq] at hf;obtain ⟨⟨⟨⟨⟨⟨h1,h2⟩,h3⟩,h4⟩,h5⟩,h6⟩,h7⟩:=hf;exact ⟨⟨h1,by omega⟩,⟨by omega,Zjh h6⟩,⟨by omega,Zjh h7⟩⟩
theorem me_G {m:Me} (h:Uk m=true) (hn:∀ i ∈ m.code,Yu i.n):MeG m:=by
 unfold Uk L9 at h;simp only [Bool.and_eq_true,decide_eq_true_eq] at h;obtain ⟨⟨⟨⟨⟨⟨⟨⟨⟨⟨⟨⟨⟨⟨h1,h2⟩,h3⟩,h4⟩,h5⟩,h6⟩,h7⟩,h8⟩,h9⟩,h10⟩,h11⟩,h12⟩,h13⟩,h14⟩,h15⟩:=h;have h0:0<=Nv m:=by unfold Nv;split<;>omega
 refine ⟨Rk h1,⟨by omega,Zjh h2⟩,ty_G h3,⟨by omega,by omega⟩,⟨by omega,by omega⟩,⟨by omega,fun i hi=>ins_G (List.all_eq_true.1 h13 i hi) (by omega) (by omega) (hn i hi)⟩,⟨by omega,fun x hx=>hd_G (List.all_eq_true.1 h14 x hx) (by omega)⟩,⟨by omega,fun f hf=>?_⟩⟩;obtain ⟨k,hk,e⟩:=List.mem_iff_getElem.1 hf;have h16:=List.all_eq_true.1 h15 k (List.mem_range.2 hk);unfold J8 at h16;rw [List.getElem?_eq_getElem hk,e] at h16;exact fr_G h16 (by omega) (by omega) (by omega)
theorem cl_G {c:Cl} (h:Xg c=true) (hn:∀ m ∈ c.methods,∀ i ∈ m.code,Yu i.n):ClG c:=by
 unfold Xg at h;simp only [Bool.and_eq_true,decide_eq_true_eq] at h;obtain ⟨⟨⟨⟨⟨h1,h2⟩,h3⟩,h4⟩,h5⟩,h6⟩:=h;refine ⟨Rk h1,Rk h2,⟨by omega,fun f hf=>?_⟩,⟨by omega,fun m hm=>?_⟩⟩
 ·obtain ⟨k,hk,e⟩:=List.mem_iff_getElem.1 hf;have h7:=List.all_eq_true.1 h5 k (List.mem_range.2 hk);unfold fdAt at h7;rw [List.getElem?_eq_getElem hk,e] at h7;simp only [Bool.and_eq_true] at h7;exact ⟨Rk h7.1.1,ty_G h7.1.2⟩
 ·obtain ⟨k,hk,e⟩:=List.mem_iff_getElem.1 hm;have h7:=List.all_eq_true.1 h6 k (List.mem_range.2 hk);unfold Bb at h7;rw [List.getElem?_eq_getElem hk,e] at h7;simp only [Bool.and_eq_true] at h7;exact me_G h7.1 (hn m hm)
theorem dec_enc (chk lim:Bool) {c:Cl} (h:Xg c=true) (hn:∀ m ∈ c.methods,∀ i ∈ m.code,Yu i.n):Uy (Qo chk lim (bl (Tt c)))=some c:=by
 rw [Zue,decL_wr chk lim (cl_G h hn)];show (if Xg c=true then some c else none)=some c;rw [if_pos h]
end At
namespace S
open Go Go.RowKit E At
section
variable {n deep:Nat} {raw rst rs2 want:List Int} {code:List (Nat × Int)} {d d1:Dk} {xt:Xp} {y:Int} {k3:Nat}
theorem Ht (hx:X5 3 raw=(xt,rst)) (hw:Yc xt d=(y,d1)) (hb:d1.wrong=true):T6 (n+1) raw code d want deep=(code++Z4 xt,d1,want,max deep (X4 xt)):=by
 rw [T6];simp only [hx,hw,hb,if_true]
theorem Di (hx:X5 3 raw=(xt,rst)) (hw:Yc xt d=(y,d1)) (hb:d1.wrong=false) (he:(n+1) % 2=0):T6 (n+1) raw code d want deep=T6 n rst (code++Z4 xt++[(27,0)]) { d1 with done:=d1.done+1 } (want++[y]) (max deep (X4 xt)):=by
 rw [T6];simp only [hx,hw,hb,Bool.false_eq_true,if_false,he,if_true]
theorem B8 (hx:X5 3 raw=(xt,rst)) (hw:Yc xt d=(y,d1)) (hb:d1.wrong=false) (he:¬ (n+1) % 2=0) (hk:Xf 3 rst=(k3,rs2)):T6 (n+1) raw code d want deep=T6 n rs2 (code++Z4 xt++[(3,.ofNat k3)]) { d1 with done:=d1.done+1,lo:=d1.lo.set k3 y } want (max deep (X4 xt)):=by
 rw [T6];simp only [hx,hw,hb,Bool.false_eq_true,if_false,he,hk]
end
theorem F5:∀ (n:Nat) (raw:List Int) (code:List (Nat × Int)) (d:Dk) (want:List Int) (deep:Nat),(T6 n raw code d want deep).2.1.done<=d.done+16*n/\want.length<=(T6 n raw code d want deep).2.2.1.length/\(T6 n raw code d want deep).2.2.1.length<=want.length+n
 | 0,raw,code,d,want,deep=>by
  show d.done<=d.done+16*0/\want.length<=want.length/\want.length<=want.length+0;omega
 | n+1,raw,code,d,want,deep=>by
  have hB:=Qk 3 raw;obtain ⟨⟨xt,rst⟩,hx⟩:∃ z,X5 3 raw=z:=⟨_,rfl⟩;rw [hx] at hB;have h1:(Z4 xt).length+1<=16:=hB.len;have h2:=Tc xt d;obtain ⟨⟨y,d1⟩,hw⟩:∃ z,Yc xt d=z:=⟨_,rfl⟩;rw [hw] at h2;have h3:d1.done<=d.done+(Z4 xt).length:=h2;cases hb:d1.wrong with
  | true =>
   rw [Ht hx hw hb];simp only;omega
  | false =>
   by_cases he:(n+1) % 2=0
   ·rw [Di hx hw hb he];have:=F5 n rst (code++Z4 xt++[(27,0)]) { d1 with done:=d1.done+1 } (want++[y]) (max deep (X4 xt));simp only [List.length_append,List.length_cons,List.length_nil] at this;omega
   ·obtain ⟨⟨k3,rs2⟩,hk⟩:∃ z,Xf 3 rst=z:=⟨_,rfl⟩;rw [B8 hx hw hb he hk];have:=F5 n rs2 (code++Z4 xt++[(3,.ofNat k3)]) { d1 with done:=d1.done+1,lo:=d1.lo.set k3 y } want (max deep (X4 xt));simp only at this;omega
def Sk (k:Nat) (y x:Int) (i:Nat):Int:=if k=i then y else x
theorem set_loc {k:Nat} {y x0 x1 x2:Int} (h:k<3):[x0,x1,x2].set k y=[Sk k y x0 0,Sk k y x1 1,Sk k y x2 2]:=by
 match k,h with
 | 0,_=>rfl
 | 1,_=>rfl
 | 2,_=>rfl
theorem Zjt {k:Nat} {y x0 x1 x2:Int} {vi:SV} {dn:Nat} {wr:Bool} (h:k<3):putB (0+k*1) [Zi y] (DkC x0 x1 x2 vi dn wr)=DkC (Sk k y x0 0) (Sk k y x1 1) (Sk k y x2 2) vi dn wr:=by
 match k,h with
 | 0,_=>rfl
 | 1,_=>rfl
 | 2,_=>rfl
def wC (l:List Int):List SV:=l.map fun x=>Zi x
theorem wC_len (l:List Int):(wC l).length=l.length:=List.length_map _
theorem wC_at {l:List Int} {i:Nat} {x:Int} (h:l[i]?=some x):(wC l)[0+i*1]?=some (Zi x):=by
 rw [Nat.zero_add,Nat.mul_one];unfold wC;rw [List.getElem?_map,h];rfl
theorem Zou {l:List Int} {m:Nat} {y:Int} (h:l.length=m):(wC l).take (m*1)++cutAt [Zi y] 0 (1*1)=wC (l++[y]):=by
 rw [Zul (by rw [wC_len];exact h)];unfold wC;rw [List.map_append];rfl
def W5 (c:List (Nat × Int)) (b:Bool):List (Nat × Int):=cond b (c++[(4,0)]) c
def Nc (dn:Nat) (b:Bool):Nat:=cond b dn (dn+1)
section
variable {rc:List (Nat × Int)} {rlo rinp rw inp:List Int} {rdn rdp:Nat} {rwr:Bool}
theorem Ig:Q4 (rc,⟨rlo,rinp,rdn,rwr⟩,rw,rdp)=W5 rc rwr++[(22,0)]:=by cases rwr<;>rfl
theorem endD_is:endD (rc,⟨rlo,rinp,rdn,rwr⟩,rw,rdp)=Nc rdn rwr:=by cases rwr<;>rfl
theorem E7:∀ l:List Int,(Vh l).length=l.length*3
 | []=>rfl
 | x::r=>by
  have:=E7 r;show (_::_::_::Vh r).length=_;simp only [List.length_cons,this];omega
theorem Bw:∀ {l:List Int} {i:Nat} {x:Int},l[i]?=some x->cutAt (Vh l) (i*3) 3=[Zi 1,Zi x,Ze]
 | [],i,x,h=>by cases h
 | a::r,0,x,h=>by cases h;rfl
 | a::r,i+1,x,h=>by
  have:=Bw (l:=r) (i:=i) h;rw [show (i+1)*3=i*3+1+1+1 by omega];exact this
theorem ev_at {nb:ByteArray} {l:List Int} {i:Nat} {x:Int} (h:l[i]?=some x):cutAt (es0 nb++Vh l) (0+(3+i)*3) 3=[Zi 1,Zi x,Ze]:=by
 rw [<- Bw h,show 0+(3+i)*3=i*3+1+1+1+1+1+1+1+1+1 by omega];rfl
theorem Zdl {N en:Nat} {bs:ByteArray} {U:Ch} {vi:SV} (h:FinC Xw inp (rc,⟨rlo,rinp,rdn,rwr⟩,rw,rdp)) (hb:bs.size<=4000000) (hdec:Uy (Qo false true (dl bs))=some ⟨Xw,nmB 0,[],[Wk rdp ((W5 rc rwr++[(22,0)]).map Ww)]⟩) (hio:Wi vi U inp) :
  HF Tryz.prog 34 [.agg [.sl en 0 1 0,Zs Xw,vi,Zi 5000,Zi 0,Zi 1]] N ([(en,.row 89 2 1 [Zs Xw,Zs bs])]++U) fun u _ H'=>∃ (ev:Nat) (Hz:Ch),u=.tup [.agg [Zi (cond rwr 2 1),Zs (cond rwr Xk ⟨#[]⟩),.sl ev 0 (3+rw.length) 0,Zn (Nc rdn rwr)],Zi 0]/\H'=[(ev,.row 98 3 (3+rw.length) (es0 Xw++Vh rw))]++(Hz++U):=by
 have h1:=hio.one;obtain ⟨Ui,Ur,hi,hp⟩:=hio;have:=Zps (N:=N) (en:=en) (bs:=bs) (U:=Ui) (vi:=vi) h hb (by rw [Ig];exact hdec) hi h1;refine (this.conv (K:=Ur) (hp.cons _)).permR ?_;rintro u N' H1 ⟨H0,⟨ev,ek,Hz,rfl,rfl,hl⟩,hq⟩
 have hek:ek=3+rw.length:=by
  have h2:(es0 Xw++Vh rw).length=ek*3:=hl;rw [List.length_append,E7] at h2;have h3:(es0 Xw).length=9:=rfl;omega
 subst hek;refine ⟨_,hq.symm.trans ?_,ev,Hz,?_,J⟩
 ·rw [List.append_assoc,List.append_assoc];exact (hp.symm.append_left Hz).append_left _
 ·rw [endD_is];cases rwr<;>rfl
end
theorem teEv (d:Nat) (a b:Int) (s:ByteArray) (w:World):(Op.equalIn (d+2) 98 (.agg #[.int .i64 a,.int .i64 b,.string s]) (.agg #[.int .i64 a,.int .i64 b,.string s])).run Tryz.prog w=.ok true w:=by
 have hs:Tryz.prog.stoodInHeld 98=false:=by kernel_rfl
 have h3:∀ (a:Int) (w:World),(Op.equalIn (d+1) 3 (.int .i64 a) (.int .i64 a)).run Tryz.prog w=.ok (a==a) w:=fun a w=>run_equalIn_int w d 3 .i64 .i64 a a (P1 rfl);have h9:∀ w:World,(Op.equalIn (d+1) 9 (.string s) (.string s)).run Tryz.prog w=.ok (s.toList==s.toList) w:=fun w=>run_equalIn_string w d 9 s s (Np rfl);have hu:=Tryz.underlying98;rw [show d+2=(d+1)+1 from rfl,Op.equalIn];simp only [Sem.run_bind,run_underlying hu,Result.andThen_ok,run_program,hs,Bool.false_eq_true,if_false];simp [part,isAgg,run_underlying (P1 (t:=3) rfl),run_underlying (Np (t:=9) rfl),h3,h9]
theorem Zqh {n N:Nat} {G:Nat->Option SB} {all:Array Oper} {o:Oper} {Er:SE} {t':Nat} {p q:Operand} {a b:Int} {s:ByteArray} (hw:wants Er all o.guard=some true) (ho:o.op=.binOp .neq 98 p q t') (hx:sev Er p=some (.agg [Zi a,Zi b,Zs s])) (hy:sev Er q=some (.agg [Zi a,Zi b,Zs s])) :
  P0 Tryz.prog n N G all o ⟨Er,Zb false⟩:=by
 refine .inr ⟨hw,(fun c e=>by rw [ho] at e;cases e),fun w0 F B D w a' hg ha=>⟨_,w,.inl ?_,rfl,hg⟩⟩;have e1:=ha.eval hx;have e2:=ha.eval hy;simp only [den,Xh,Option.map_some,Option.some.injEq] at e1 e2;simp only [execOp,ho];rw [<- e1,<- e2];have h1:=run_eqGuard_agg (P:=Tryz.prog) w .neq 98 p q #[.int .i64 a,.int .i64 b,.string s] #[.int .i64 a,.int .i64 b,.string s] (by kernel_rfl);have h2:=run_neq_struct (P:=Tryz.prog) w 98 #[.int .i64 a,.int .i64 b,.string s] #[.int .i64 a,.int .i64 b,.string s];have h3:=teEv 9998 a b s w;simp [h1,h2,h3]
structure LpD where
 (a cp N deep dn:Nat)
 (x0 x1 x2:Int)
 vi:SV
 code:List (Nat × Int)
 (inp want:List Int)
structure LpD.Ok (x:LpD) (U:Ch) (raw:List Int) (r:List (Nat × Int) × Dk × List Int × Nat) (n:Nat):Prop where
 wi:Wi x.vi U x.inp
 len:x.code.length+16*n<=150
 deep:x.deep<=4
 dn:x.dn+16*n<=1000
 eq:T6 n (raw.drop x.a) x.code ⟨[x.x0,x.x1,x.x2],x.inp,x.dn,false⟩ x.want x.deep=r
inductive LpS (U:Ch) (raw:List Int) (r:List (Nat × Int) × Dk × List Int × Nat):Type
 | nil0 (x:LpD) (h:x.Ok U raw r 0) (hw:x.want=[]):LpS U raw r
 | nilS (n:Nat) (x:LpD) (h:x.Ok U raw r (n+1)) (hw:x.want=[]):LpS U raw r
 | row0 (wp m:Nat) (x:LpD) (h:x.Ok U raw r 0) (hw:x.want.length=m) (hm:0<m):LpS U raw r
 | rowS (n wp m:Nat) (x:LpD) (h:x.Ok U raw r (n+1)) (hw:x.want.length=m) (hm:0<m):LpS U raw r
def LpD.E (vi less:SV) (b n:Nat) (w:SV) (x:LpD):SE:=[(1,vi),(2,less),(8,.ptr b 0),(9,.sl x.cp 0 x.code.length 0),(10,.ptr (b+2) 0),(11,w),(12,Zn x.deep),(13,Zn n)]
def LpD.H (vr:SV) (b:Nat) (x:LpD):Ch:=[(b,.cells [vr,Zn x.a]),(b+2,DkC x.x0 x.x1 x.x2 x.vi x.dn false),(x.cp,.row 75 7 x.code.length (c7 x.code))]
section
variable {U:Ch} {raw:List Int} {r:List (Nat × Int) × Dk × List Int × Nat}
def LpS.E (vi less:SV) (b:Nat):LpS U raw r->SE
 | .nil0 x _ _=>x.E vi less b 0 (.v (.slice none 0 0))
 | .nilS n x _ _=>x.E vi less b (n+1) (.v (.slice none 0 0))
 | .row0 wp m x _ _ _=>x.E vi less b 0 (.sl wp 0 m 0)
 | .rowS n wp m x _ _ _=>x.E vi less b (n+1) (.sl wp 0 m 0)
def LpS.N:LpS U raw r->Nat
 | .nil0 x _ _=>x.N
 | .nilS _ x _ _=>x.N
 | .row0 _ _ x _ _ _=>x.N
 | .rowS _ _ _ x _ _ _=>x.N
def LpS.H (vr:SV) (b:Nat):LpS U raw r->Ch
 | .nil0 x _ _=>x.H vr b++U
 | .nilS _ x _ _=>x.H vr b++U
 | .row0 wp m x _ _ _=>(x.H vr b++[(wp,.row 3 1 m (wC x.want))])++U
 | .rowS _ wp m x _ _ _=>(x.H vr b++[(wp,.row 3 1 m (wC x.want))])++U
def LpS.mu:LpS U raw r->Nat
 | .nil0 _ _ _=>0
 | .nilS n _ _ _=>n+1
 | .row0 _ _ _ _ _ _=>0
 | .rowS n _ _ _ _ _ _=>n+1
end
inductive CtS (rw:List Int):Type
 | nil (cp N:Nat) (vi:SV) (x0 x1 x2:Int) (hw:rw=[]):CtS rw
 | row (wp cp N:Nat) (vi:SV) (x0 x1 x2:Int) (hm:0<rw.length):CtS rw
def CtS.E (vi0 less:SV) (b k deep:Nat) {rw:List Int}:CtS rw->SE
 | .nil cp _ _ _ _ _ _=>[(1,vi0),(2,less),(9,.sl cp 0 k 0),(10,.ptr (b+2) 0),(11,.v (.slice none 0 0)),(12,.v (.int .i64 (.ofNat deep)))]
 | .row wp cp _ _ _ _ _ _=>[(1,vi0),(2,less),(9,.sl cp 0 k 0),(10,.ptr (b+2) 0),(11,.sl wp 0 rw.length 0),(12,.v (.int .i64 (.ofNat deep)))]
def CtS.N {rw:List Int}:CtS rw->Nat
 | .nil _ N _ _ _ _ _=>N
 | .row _ _ N _ _ _ _ _=>N
def CtS.H (U:Ch) (b:Nat) (code:List (Nat × Int)) (dn:Nat) (wr:Bool) {rw:List Int}:CtS rw->Ch
 | .nil cp _ vi x0 x1 x2 _=>[(b+2,DkC x0 x1 x2 vi dn wr),(cp,.row 75 7 code.length (c7 code))]++U
 | .row wp cp _ vi x0 x1 x2 _=>[(b+2,DkC x0 x1 x2 vi dn wr),(cp,.row 75 7 code.length (c7 code)),(wp,.row 3 1 rw.length (wC rw))]++U
section
variable {U:Ch} {raw rst rs2:List Int} {r:List (Nat × Int) × Dk × List Int × Nat} {n a1 cp' N' dn1 k3:Nat} {xt:Xp} {y:Int} {lo1 inp2:List Int} {vi2:SV} {x:LpD}
theorem LpD.Ok.even (h:x.Ok U raw r (n+1)) (hx:X5 3 (raw.drop x.a)=(xt,rst)) (hw:Yc xt ⟨[x.x0,x.x1,x.x2],x.inp,x.dn,false⟩=(y,⟨lo1,inp2,dn1,false⟩)) (he:(n+1) % 2=0) (ha:raw.drop a1=rst) (hwi:Wi vi2 U inp2):(LpD.mk a1 cp' N' (max x.deep (X4 xt)) (dn1+1) x.x0 x.x1 x.x2 vi2 (x.code++Z4 xt++[(27,0)]) inp2 (x.want++[y])).Ok U raw r n:=by
 have hB:=Qk 3 (raw.drop x.a);rw [hx] at hB;have h1:(Z4 xt).length+1<=16:=hB.len;have h2:X4 xt<=4:=hB.deep;have h3:=Tc xt ⟨[x.x0,x.x1,x.x2],x.inp,x.dn,false⟩;have h4:=Sn xt ⟨[x.x0,x.x1,x.x2],x.inp,x.dn,false⟩;rw [hw] at h3 h4;have h3':dn1<=x.dn+(Z4 xt).length:=h3;have h4':lo1=[x.x0,x.x1,x.x2]:=h4;have hl:=h.len;have hd:=h.deep;have hn:=h.dn;refine ⟨hwi,?_,?_,?_,?_⟩
 ·simp only [List.length_append,List.length_cons,List.length_nil];omega
 ·simp only;omega
 ·simp only;omega
 ·have:=h.eq;rw [Di hx hw rfl he,h4',<- ha] at this;exact this
theorem LpD.Ok.odd (h:x.Ok U raw r (n+1)) (hx:X5 3 (raw.drop x.a)=(xt,rst)) (hw:Yc xt ⟨[x.x0,x.x1,x.x2],x.inp,x.dn,false⟩=(y,⟨lo1,inp2,dn1,false⟩)) (he:¬ (n+1) % 2=0) (ha:raw.drop a1=rst) (hk:Xf 3 rst=(k3,rs2)) (hk3:k3<3) (hwi:Wi vi2 U inp2):(LpD.mk (nx raw a1) cp' N' (max x.deep (X4 xt)) (dn1+1) (Sk k3 y x.x0 0) (Sk k3 y x.x1 1) (Sk k3 y x.x2 2) vi2 (x.code++Z4 xt++[(3,.ofNat k3)]) inp2 x.want).Ok U raw r n:=by
 have hB:=Qk 3 (raw.drop x.a);rw [hx] at hB;have h1:(Z4 xt).length+1<=16:=hB.len;have h2:X4 xt<=4:=hB.deep;have h3:=Tc xt ⟨[x.x0,x.x1,x.x2],x.inp,x.dn,false⟩;have h4:=Sn xt ⟨[x.x0,x.x1,x.x2],x.inp,x.dn,false⟩;rw [hw] at h3 h4;have h3':dn1<=x.dn+(Z4 xt).length:=h3;have h4':lo1=[x.x0,x.x1,x.x2]:=h4;have hl:=h.len;have hd:=h.deep;have hn:=h.dn;refine ⟨hwi,?_,?_,?_,?_⟩
 ·simp only [List.length_append,List.length_cons,List.length_nil];omega
 ·simp only;omega
 ·simp only;omega
 ·have:=h.eq;have e1:rs2=raw.drop (nx raw a1):=by rw [Rj raw a1 3,ha,hk]
  rw [B8 hx hw rfl he hk,e1] at this;simp only [h4',set_loc hk3] at this;exact this
def LpS.nilOf (n:Nat) (x:LpD) (h:x.Ok U raw r n) (hw:x.want=[]):LpS U raw r:=match n,h with
 | 0,h=>.nil0 x h hw
 | n+1,h=>.nilS n x h hw
def LpS.rowOf (n wp m:Nat) (x:LpD) (h:x.Ok U raw r n) (hw:x.want.length=m) (hm:0<m):LpS U raw r:=match n,h with
 | 0,h=>.row0 wp m x h hw hm
 | n+1,h=>.rowS n wp m x h hw hm
end
section
variable {n':Nat} {w0:World} {F:List Nat} {B0:Nm} {N0 N b:Nat} {T:List Nat} {G0:Nat->Option SB} {E:SE} {D:List SD} {Q:Exit->Act->World->Prop} {U H:Ch} {raw:List Int} {r:List (Nat × Int) × Dk × List Int × Nat} {n wp m:Nat} {x:LpD} {vr vi less:SV} {s:LpS U raw r}
theorem Zom (h:x.Ok U raw r n) (hw:x.want=[]) (hs:n<s.mu) (hE:Lk E (x.E vi less b n (Zz))) (hN:x.N=N) (hH:x.H vr b++U=H) :
  HQ n' w0 F B0 N0 T G0 (Exit.then (fun a w=>∃ s':LpS U raw r,s'.mu<s.mu/\HA n' w0 F B0 N0 T G0 (s'.E vi less b) D s'.N (s'.H vr b) a w) Q) .normal E D N H:=by
 refine Xb (μ:=LpS.mu) (st:=fun s=>s.E vi less b) (nn:=LpS.N) (hh:=fun s=>s.H vr b) (LpS.nilOf n x h hw) ?_ ?_ ?_ ?_
 ·cases n<;>exact hs
 ·cases n<;>exact hE
 ·cases n<;>exact hN
 ·cases n<;>exact hH
theorem Gc (h:x.Ok U raw r n) (hw:x.want.length=m) (hm:0<m) (hs:n<s.mu) (hE:Lk E (x.E vi less b n (.sl wp 0 m 0))) (hN:x.N=N) (hH:(x.H vr b++[(wp,.row 3 1 m (wC x.want))])++U=H) :
  HQ n' w0 F B0 N0 T G0 (Exit.then (fun a w=>∃ s':LpS U raw r,s'.mu<s.mu/\HA n' w0 F B0 N0 T G0 (s'.E vi less b) D s'.N (s'.H vr b) a w) Q) .normal E D N H:=by
 refine Xb (μ:=LpS.mu) (st:=fun s=>s.E vi less b) (nn:=LpS.N) (hh:=fun s=>s.H vr b) (LpS.rowOf n wp m x h hw hm) ?_ ?_ ?_ ?_
 ·cases n<;>exact hs
 ·cases n<;>exact hE
 ·cases n<;>exact hN
 ·cases n<;>exact hH
theorem Zab {e:Exit} {A V:Ch} (js:List Nat) (hn:js.Nodup) (hb:js.all (fun i=>Nat.blt i A.length)=true) (h:HQ n' w0 F B0 N0 T G0 Q e E D N (Yr (A++(V++U)) js++U)):HQ n' w0 F B0 N0 T G0 Q e E D N (A++(V++U)) :=
 Ix (U:=V++U) _ hn hb rfl (HQ_letT h)
end
section
variable {E:SE} {o:Oper} {t t':Nat} {p q:Operand} {x y:Int} {P:Program}
theorem Zbd (ho:o.op=.binOp .neq t p q t') (hx:sev E p=some (Zi x)) (hy:sev E q=some (Zi y)) (h:x=y):noD P E bare o=some (Zb false):=by
 subst h;unfold noD act;rw [ho];simp only [hx,hy,exBin,Rq,show ieq x x=true from Q3.2 rfl];rfl
theorem Zbf {b:Bool} (ho:o.op=.binOp .gtr t p q t') (hx:sev E p=some (Zi x)) (hy:sev E q=some (Zi y)) (h:ilt y x=b):noD P E bare o=some (Zb b):=by
 subst h;unfold noD act;rw [ho];simp only [hx,hy,exBin,Rq];rfl
theorem no_1add {k:Nat} (ho:o.op=.binOp .add t p q t') (hx:sev E p=some (Zn 1)) (hy:sev E q=some (Zn k)) (h:k<1000):noD P E bare o=some (Zn (k+1)):=by
 rw [X7 ho hx hy (by omega),Nat.add_comm]
end
abbrev Fh (dp:Int) (dc k:Nat):SB:=.row 134 10 1 [Zs Xa,Zb true,Zz,Zi 0,Ze,Zi 3,Zi dp,.sl dc 0 k 0,Zz,Zz]
section
variable {rc:List (Nat × Int)} {rlo rinp rw inp:List Int} {rdn rdp:Nat} {rwr:Bool}
theorem fin_pos (h:FinC Xw inp (rc,⟨rlo,rinp,rdn,rwr⟩,rw,rdp)):0<rdp:=by
 have h0:=h.fst;have h1:=h.le 1 (by have:=(List.getElem?_eq_some_iff.1 h0).1;omega);rw [show (1:Nat)=0+1 from rfl,U0 h0] at h1;have h2:(1:Nat)<=rdp:=h1;omega
theorem Zud {c:At.Cl} (h:Xg c=true):(Tt c).size<=4000000:=by
 have h1:=Cm (M9 h) c.methods.length;rw [List.take_length] at h1;have:(Tt c).size<=2000000:=h1;omega
theorem Zoc {c:At.Cl} (h:Xg c=true) (hn:∀ m ∈ c.methods,∀ i ∈ m.code,Yu i.n):Uy (Qo false true (dl (Tt c)))=some c:=At.dec_enc false true h hn
theorem fin_enc (h:FinC Xw inp (rc,⟨rlo,rinp,rdn,rwr⟩,rw,rdp)):∃ bs:ByteArray,bs.size<=4000000/\Uy (Qo false true (dl bs))=some ⟨Xw,nmB 0,[],[Wk rdp ((W5 rc rwr++[(22,0)]).map Ww)]⟩ /\
  ∀ dm dc N,HF Tryz.prog 26 [.agg [Zs Xw,Zs (nmB 0),Zz,.sl dm 0 1 0]] N [(dm,Fh (.ofNat rdp) dc ((W5 rc rwr).length+1)),(dc,.row 75 7 ((W5 rc rwr).length+1) (c7 (W5 rc rwr++[(22,0)])))] fun u N' H'=>u=.tup [Zs bs,Zi 0]/\N'=N/\H'=[(dm,Fh (.ofNat rdp) dc ((W5 rc rwr).length+1)),(dc,.row 75 7 ((W5 rc rwr).length+1) (c7 (W5 rc rwr++[(22,0)])))]:=by
 have hc:=Ma h (dp:=rdp) (by have:=h.deep;simp only at this;omega);have hin:=h.ints;have hlen:=h.len;rw [Ig] at hc hin hlen;have hk:(W5 rc rwr++[((22:Nat),(0:Int))]).length=(W5 rc rwr).length+1:=by simp only [List.length_append,List.length_cons,List.length_nil]
 have hn:∀ m ∈ (⟨Xw,nmB 0,[],[Wk rdp ((W5 rc rwr++[(22,0)]).map Ww)]⟩:At.Cl).methods,∀ i ∈ m.code,Yu i.n:=by
  intro m hm i hi;cases List.mem_singleton.1 hm;obtain ⟨z,hz,rfl⟩:=List.mem_map.1 hi;exact (hin z hz).2
 have h1:=Zud hc;have h2:=Zoc hc hn;have h3:=enc_hf hk (by omega) (Nu rfl) (Hk rdp (Nat.ble_eq_true_of_le (by have:=h.deep;simp only at this;omega))) hin hc (dg0 hk);clear hn hin hlen;generalize hb:Tt ⟨Xw,nmB 0,[],[Wk rdp ((W5 rc rwr++[(22,0)]).map Ww)]⟩=bs at h1 h2 h3;exact ⟨bs,h1,h2,h3⟩
theorem fin_chk (h:FinC Xw inp (rc,⟨rlo,rinp,rdn,rwr⟩,rw,rdp)):∀ dm dc N,HF Tryz.prog 18 [.agg [Zs Xw,Zs (nmB 0),Zz,.sl dm 0 1 0]] N [(dm,Fh (.ofNat rdp) dc ((W5 rc rwr).length+1)),(dc,.row 75 7 ((W5 rc rwr).length+1) (c7 (W5 rc rwr++[(22,0)])))] fun u N' H'=>u=.tup [Zz,Zi 0,Zi 0,Zi 0]/\N'=N/\H'=[(dm,Fh (.ofNat rdp) dc ((W5 rc rwr).length+1)),(dc,.row 75 7 ((W5 rc rwr).length+1) (c7 (W5 rc rwr++[(22,0)])))]:=by
 have hc:=Ma h (dp:=rdp) (by have:=h.deep;simp only at this;omega);have hin:=h.ints;have hlen:=h.len;have hpl:=h.plain;have hle:=h.le;rw [Ig] at hc hin hlen hpl hle;have hk:(W5 rc rwr++[((22:Nat),(0:Int))]).length=(W5 rc rwr).length+1:=by simp only [List.length_append,List.length_cons,List.length_nil]
 exact fun dm dc N=>Zlh hk (by omega) (Nu J) (Hk rdp (Nat.ble_eq_true_of_le (by have:=h.deep;simp only at this;omega))) hin hc hpl (fun q hq=>Int.ofNat_le.2 (hle q (by omega))) (dg0 hk) dm dc N
theorem Ia (h:FinC Xw inp (rc,⟨rlo,rinp,rdn,rwr⟩,rw,rdp)) {s:Nat} (hs:s<rdp) {dm dc N:Nat}:HF Tryz.prog 35 [.agg [Zs Xw,Zs (nmB 0),Zz,.sl dm 0 1 0],Zn s] N [(dm,Fh (.ofNat rdp) dc ((W5 rc rwr).length+1)),(dc,.row 75 7 ((W5 rc rwr).length+1) (c7 (W5 rc rwr++[(22,0)])))] fun u N' H'=>u=Zb true/\N'=N+1/\H'=[]:=by
 obtain ⟨p,h1,h2,h3⟩:=Zan h hs;have h4:=Ma h (dp:=s) (by have:=h.deep;simp only at this;omega);have hin:=h.ints;have hlen:=h.len;have hpl:=h.plain;have hd:=h.deep;rw [Ig] at h1 h2 h3 h4 hin hlen hpl;simp only at hd;have hk:(W5 rc rwr++[((22:Nat),(0:Int))]).length=(W5 rc rwr).length+1:=by simp only [List.length_append,List.length_cons,List.length_nil]
 exact Zdg hk (by omega) hpl (by omega) h2 h3 (by omega) (fun N=>chk_hfN hk (by omega) (Nu J) (Hk _ (Nat.ble_eq_true_of_le (by omega))) hin h4 hpl (by omega) (fun q hq=>Int.ofNat_le.2 (h2 q hq)) (fun hc=>by have:=Int.ofNat_le.1 hc;omega) (dg0 hk) dm dc N)
end
end S
end Go.Proofs.YtpofmnfkdkmieaaGreat
