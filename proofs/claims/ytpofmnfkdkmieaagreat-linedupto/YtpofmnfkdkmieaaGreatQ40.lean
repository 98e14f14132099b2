/- What is proved here: Lined gives true, over blocks of one's o -/
import Derived.Test.YtpofmnfkdkmieaaGreatQ39
import Derived.Test.YtpofmnfkdkmieaaGreatQ17
set_option linter.unusedVariables false
set_option linter.unusedSimpArgs false
namespace Go.Proofs.YtpofmnfkdkmieaaGreat
namespace S
open Go Go.RowKit E At
def enA (bt:Nat->Bool) (j:Nat):List SV:=(List.range j).flatMap fun j=>[Zs (nmL j),Zs (lbL j (bt j))]
theorem Iv (bt:Nat->Bool) (j:Nat):enA bt (j+1)=enA bt j++[Zs (nmL j),Zs (lbL j (bt j))]:=by
 unfold enA;rw [List.range_succ,List.flatMap_append];rfl
theorem Kp (bt:Nat->Bool):∀ j,(enA bt j).length=j*2
 | 0=>rfl
 | j+1=>by
  rw [Iv,List.length_append,Kp bt j];show j*2+2=_;omega
theorem enA_cat (bt:Nat->Bool) (j:Nat):(enA bt j).take (j*2)++[Zs (nmL j),Zs (lbL j (bt j))]=enA bt (j+1):=by rw [List.take_of_length_le (by rw [Kp];omega),Iv]
theorem enA_all (bt:Nat->Bool) (bs:ByteArray):(enA bt 8).take (8*2)++[Zs Zt,Zs bs]=enC bt bs:=by rw [List.take_of_length_le (by rw [Kp];omega)];rfl
abbrev pc (b:List Mi):List Mi:=.newO::.store::b
theorem Dm (b s:List Mi):(c7M (pc b)).take ((b.length+2)*7)++c7M s=c7M (pc (b++s)):=by
 have:=cat7M (pc b) s;exact this
theorem Kx {E l:List SV} {k:Nat} (h:E.length=k*3):E.take (k*3)++l=E++l:=by rw [List.take_of_length_le (by omega)]
theorem Wi.at_ {v:SV} {U:Ch} {raw:List Int} {i:Nat} {c:Int} (h:Wi v U raw) (hi:raw[i]?=some c):∃ b io ij ins st sf,v=.sl b io raw.length ij/\(b,SB.seen ins st sf) ∈ U/\ins[io+i*1]?=some (Zi c):=by
 obtain ⟨Ui,Ur,h1,h2⟩:=h;cases h1 with
 | nil p q=>simp at hi
 | row b io ij st sf ins l h hb hj=>exact ⟨b,io,ij,ins,st,sf,rfl,(h2.mem_iff).2 (List.mem_append_left _ List.mem_cons_self),h i c hi⟩
inductive LA (st:Int):Type
 | nil (N:Nat)
 | row (j en N:Nat) (h1:1<=j) (h8:j<8)
 | fin (en N:Nat)
section
variable {st:Int}
def LA.E (vr:SV):LA st->SE
 | .nil _=>[(0,vr),(1,SV.v (.int .i64 st)),(6,SV.v (.slice none 0 0)),(7,SV.v (.int .i64 (.ofNat 0)))]
 | .row j en _ _ _=>[(0,vr),(1,SV.v (.int .i64 st)),(6,SV.sl en 0 j 0),(7,SV.v (.int .i64 (.ofNat j)))]
 | .fin en _=>[(0,vr),(1,SV.v (.int .i64 st)),(6,SV.sl en 0 8 0),(7,SV.v (.int .i64 (.ofNat 8)))]
def LA.nn:LA st->Nat
 | .nil N=>N
 | .row _ _ N _ _=>N
 | .fin _ N=>N
noncomputable def LA.hh (U:Ch):LA st->Ch
 | .nil _=>[]++U
 | .row j en _ _ _=>[(en,.row 89 2 j (enA (bq st) j))]++U
 | .fin en _=>[(en,.row 89 2 8 (enA (bq st) 8))]++U
def LA.mu:LA st->Nat
 | .nil _=>9
 | .row j _ _ _ _=>9 - j
 | .fin _ _=>0
end
inductive LB (st:Int) (raw:List Int):Type
 | go (i N dc wp:Nat) (x:Li) (h:x.Ok (bq st) i) (h1:i<raw.length) (h2:i<30)
 | endL (i N dc wp:Nat) (x:Li) (h:x.Ok (bq st) i) (h1:¬ i<raw.length) (h2:i<=30)
 | endT (i N dc wp:Nat) (x:Li) (h:x.Ok (bq st) i) (h1:i<raw.length) (h2:i=30)
section
variable {st:Int} {raw:List Int}
def liE (vr:SV) (st:Int) (en i dc wp:Nat) (x:Li):SE:=[(0,vr),(1,Zi st),(6,Zk en 0 8 0),(10,Zk dc 0 (x.b.length+2) 0),(11,Zk wp 0 x.wk 0),(12,Zn x.th),(13,Zn x.s),(14,Zn x.dn),(15,Zn i)]
noncomputable def liH (st:Int) (U:Ch) (en dc wp:Nat) (x:Li):Ch:=[(wp,Zw 98 3 x.wk x.E),(dc,Zw 75 7 (x.b.length+2) (c7M (pc x.b))),(en,Zw 89 2 8 (enA (bq st) 8))]++U
def LB.E (vr:SV) (en:Nat):LB st raw->SE
 | .go i _ dc wp x _ _ _=>liE vr st en i dc wp x
 | .endL i _ dc wp x _ _ _=>liE vr st en i dc wp x
 | .endT i _ dc wp x _ _ _=>liE vr st en i dc wp x
def LB.nn:LB st raw->Nat
 | .go _ N _ _ _ _ _ _=>N
 | .endL _ N _ _ _ _ _ _=>N
 | .endT _ N _ _ _ _ _ _=>N
noncomputable def LB.hh (U:Ch) (en:Nat):LB st raw->Ch
 | .go _ _ dc wp x _ _ _=>liH st U en dc wp x
 | .endL _ _ dc wp x _ _ _=>liH st U en dc wp x
 | .endT _ _ dc wp x _ _ _=>liH st U en dc wp x
def LB.mu:LB st raw->Nat
 | .go i _ _ _ _ _ _ _=>31 - i
 | .endL _ _ _ _ _ _ _ _=>0
 | .endT _ _ _ _ _ _ _ _=>0
theorem Ik (raw:List Int) (i N dc wp:Nat) (x:Li) (h:x.Ok (bq st) i) (hi:i<=30):∃ s:LB st raw,(∀ vr en,s.E vr en=liE vr st en i dc wp x)/\s.nn=N/\(∀ U en,s.hh U en=liH st U en dc wp x)/\s.mu<=31 - i:=by
 by_cases h1:i<raw.length
 ·by_cases h2:i<30
  ·exact ⟨.go i N dc wp x h h1 h2,fun _ _=>J,J,fun _ _=>J,Nat.le_refl _⟩
  ·exact ⟨.endT i N dc wp x h h1 (by omega),fun _ _=>J,J,fun _ _=>J,Nat.zero_le _⟩
 ·exact ⟨.endL i N dc wp x h h1 hi,fun _ _=>J,J,fun _ _=>J,Nat.zero_le _⟩
end
inductive Ev3:List SV->Prop
 | nil:Ev3 []
 | cons (a b:Int) (s:ByteArray) {l:List SV} (h:Ev3 l):Ev3 (.v (.int .i64 a)::.v (.int .i64 b)::.v (.string s)::l)
theorem Ev3.app {l r:List SV} (h:Ev3 l) (hr:Ev3 r):Ev3 (l++r):=by
 induction h with
 | nil=>exact hr
 | cons a b s _ ih=>exact .cons a b s ih
theorem Ev3.at_ {l:List SV} (h:Ev3 l):∀ q,q*3<l.length->∃ a b s,cutAt l (0+q*3) 3=[Zi a,Zi b,Zs s]:=by
 induction h with
 | nil=>intro q hq;simp at hq
 | cons a b s _ ih =>
  intro q hq;cases q with
  | zero=>exact ⟨a,b,s,rfl⟩
  | succ q =>
   simp only [List.length_cons] at hq;obtain ⟨a',b',s',e⟩:=ih q (by omega);refine ⟨a',b',s',?_⟩;rw [<- e];unfold cutAt;rw [show 0+(q+1)*3=(0+q*3)+3 by omega];rfl
theorem G3:∀ d k,Ev3 (Ye d k)
 | 0,_=>.nil
 | d+1,k=>.cons _ _ _ (G3 d (k - 1))
theorem ev_st (bt:Nat->Bool) (j:Nat):Ev3 (Sa bt j):=by
 unfold Sa;refine Ev3.app (.cons _ _ _ .nil) (Ev3.app ?_ (.cons _ _ _ .nil));split
 ·exact .cons _ _ _ .nil
 ·exact .nil
theorem ev_up (bt:Nat->Bool):∀ d s,Ev3 (upE bt d s)
 | 0,_=>.nil
 | d+1,s=>(ev_st bt s).app (ev_up bt d (s+1))
theorem Zdk (bt:Nat->Bool):∀ (b:List Mi) (t s:Nat),Ev3 (Xi bt b t s)
 | [],_,_=>.nil
 | m::b,t,s=>by
  refine Ev3.app ?_ (Zdk bt b _ _);cases m;all_goals first | exact .nil | exact (G3 _ _).app (ev_up _ _ _) | exact G3 _ _
theorem Li.Ok.ev {x:Li} {bt:Nat->Bool} {i:Nat} (h:x.Ok bt i):Ev3 x.E:=by
 have:=h.e [];simp only [show Xi bt [] x.th x.s=[] from rfl,List.append_nil] at this;rw [<- this];exact Ev3.app (.cons _ _ _ (.cons _ _ _ (.cons _ _ _ .nil))) (Zdk _ _ _ _)
theorem ask_cat {E:List SV} {w d k:Nat} (h:E.length=w*3):(E++Ye d k).take ((w+d)*3)++evA (k - d)=E++Ye (d+1) k:=by
 rw [List.take_of_length_le (by rw [List.length_append,X9,h];omega),List.append_assoc,My]
theorem Zce {k d t:Nat} (h:(!(ilt ((k:Int) - (d:Int)) (.ofNat t)))=true):d<k+1 - t:=by
 rw [Bool.not_eq_true',Bool.eq_false_iff,ne_eq,Xf] at h;simp only [Int.ofNat_eq_natCast] at h;omega
theorem Zdo {k d t:Nat} (hd:d<=k+1 - t) (h:(!(ilt ((k:Int) - (d:Int)) (.ofNat t)))=false):d=k+1 - t:=by
 rw [Bool.not_eq_false',Xf] at h;simp only [Int.ofNat_eq_natCast] at h;omega
structure LE (st:Int) where
 (i N dc wp:Nat) (x:Li) (h:x.Ok (bq st) i) (hi:i<=30)
def LE.E {st:Int} (en:Nat):LE st->SE
 | ⟨_,_,dc,wp,x,_,_⟩=>[(6,SV.sl en 0 8 0),(10,SV.sl dc 0 (x.b.length+2) 0),(11,SV.sl wp 0 x.wk 0),(14,SV.v (.int .i64 (.ofNat x.dn)))]
def LE.nn {st:Int}:LE st->Nat
 | ⟨_,N,_,_,_,_,_⟩=>N
noncomputable def LE.H {st:Int} (U:Ch) (en:Nat):LE st->Ch
 | ⟨_,_,dc,wp,x,_,_⟩=>liH st U en dc wp x
inductive CK (way:Nat):Type
 | w (N dq wq:Nat) (h:way<2)
 | v (N dq wq:Nat) (h:way=2)
def CK.N {way:Nat}:CK way->Nat
 | .w N _ _ _=>N
 | .v N _ _ _=>N
def CK.E (vr:SV) (st:Int) (en i k:Nat) (x:Li) {way:Nat}:CK way->SE
 | .w _ dq wq _=>[(0,vr),(1,SV.v (.int .i64 st)),(6,SV.sl en 0 8 0),(10,SV.sl dq 0 ((x.b++W9 way k).length+2) 0),(11,SV.sl wq 0 (x.wk+(k+1 - x.th)) 0),(12,SV.v (.int .i64 (.ofNat (max x.th (k+1))))),(13,SV.v (.int .i64 (.ofNat x.s))),(14,SV.v (.int .i64 (.ofNat x.dn))),(15,SV.v (.int .i64 (.ofNat i))),(16,SV.v (.int .i64 (.ofNat k))),(18,SV.v (.int .i64 (.ofNat way)))]
 | .v _ dq wq _=>[(0,vr),(1,SV.v (.int .i64 st)),(6,SV.sl en 0 8 0),(10,SV.sl dq 0 ((x.b++W9 way k).length+2) 0),(11,SV.sl wq 0 (x.wk+(k+1 - x.th)) 0),(12,SV.v (.int .i64 (.ofNat (max x.th (k+1))))),(13,SV.v (.int .i64 (.ofNat x.s))),(14,SV.v (.int .i64 (.ofNat (x.dn+1)))),(15,SV.v (.int .i64 (.ofNat i))),(16,SV.v (.int .i64 (.ofNat k))),(18,SV.v (.int .i64 (.ofNat way)))]
noncomputable def CK.H (st:Int) (U:Ch) (en k:Nat) (x:Li) {way:Nat}:CK way->Ch
 | .w _ dq wq _=>[(wq,SB.row 98 3 (x.wk+(k+1 - x.th)) (x.E++Ye (k+1 - x.th) k)),(dq,SB.row 75 7 ((x.b++W9 way k).length+2) (c7M (pc (x.b++W9 way k)))),(en,SB.row 89 2 8 (enA (bq st) 8))]++U
 | .v _ dq wq _=>[(wq,SB.row 98 3 (x.wk+(k+1 - x.th)) (x.E++Ye (k+1 - x.th) k)),(dq,SB.row 75 7 ((x.b++W9 way k).length+2) (c7M (pc (x.b++W9 way k)))),(en,SB.row 89 2 8 (enA (bq st) 8))]++U
structure LC (D:Nat) where
 (d N wq:Nat) (h:d<=D)
def LC.E (vr:SV) (st:Int) (en dc i k:Nat) (x:Li) {D:Nat}:LC D->SE
 | ⟨d,_,wq,_⟩=>[(0,vr),(1,SV.v (.int .i64 st)),(6,SV.sl en 0 8 0),(10,SV.sl dc 0 (x.b.length+2) 0),(11,SV.sl wq 0 (x.wk+d) 0),(12,SV.v (.int .i64 (.ofNat x.th))),(13,SV.v (.int .i64 (.ofNat x.s))),(14,SV.v (.int .i64 (.ofNat x.dn))),(15,SV.v (.int .i64 (.ofNat i))),(16,SV.v (.int .i64 (.ofNat k))),(17,SV.v (.int .i64 ((k:Int) - (d:Int))))]
def LC.nn {D:Nat}:LC D->Nat
 | ⟨_,N,_,_⟩=>N
noncomputable def LC.H (st:Int) (U:Ch) (en dc k:Nat) (x:Li) {D:Nat}:LC D->Ch
 | ⟨d,_,wq,_⟩=>[(wq,SB.row 98 3 (x.wk+d) (x.E++Ye d k)),(dc,SB.row 75 7 (x.b.length+2) (c7M (pc x.b))),(en,SB.row 89 2 8 (enA (bq st) 8))]++U
def c27E (vr:SV) (st:Int) (en dc i k:Nat) (x:Li):Nat × Nat->SE
 | (_,wq)=>[(0,vr),(1,SV.v (.int .i64 st)),(6,SV.sl en 0 8 0),(10,SV.sl dc 0 (x.b.length+2) 0),(11,SV.sl wq 0 (x.wk+(k+1 - x.th)) 0),(12,SV.v (.int .i64 (.ofNat (max x.th (k+1))))),(13,SV.v (.int .i64 (.ofNat x.s))),(14,SV.v (.int .i64 (.ofNat x.dn))),(15,SV.v (.int .i64 (.ofNat i))),(16,SV.v (.int .i64 (.ofNat k)))]
def c27N:Nat × Nat->Nat
 | (N,_)=>N
noncomputable def c27H (st:Int) (U:Ch) (en dc k:Nat) (x:Li):Nat × Nat->Ch
 | (_,wq)=>[(wq,SB.row 98 3 (x.wk+(k+1 - x.th)) (x.E++Ye (k+1 - x.th) k)),(dc,SB.row 75 7 (x.b.length+2) (c7M (pc x.b))),(en,SB.row 89 2 8 (enA (bq st) 8))]++U
structure LD (D w1 s:Nat) (bt:Nat->Bool) (E1:List SV) where
 (j N wz wk:Nat) (h:j<=D) (hl:(E1++upE bt j s).length=wk*3) (hb:wk<=w1+3*j)
def LD.E (vr:SV) (st:Int) (en dq i k way:Nat) (x:Li) {D w1 s:Nat} {bt:Nat->Bool} {E1:List SV}:LD D w1 s bt E1->SE
 | ⟨j,_,wz,wk,_,_,_⟩=>[(0,vr),(1,SV.v (.int .i64 st)),(6,SV.sl en 0 8 0),(10,SV.sl dq 0 ((x.b++W9 way k).length+2) 0),(11,SV.sl wz 0 wk 0),(12,SV.v (.int .i64 (.ofNat (max x.th (k+1))))),(13,SV.v (.int .i64 (.ofNat (x.s+j)))),(14,SV.v (.int .i64 (.ofNat (x.dn+2+upN (bq st) j x.s)))),(15,SV.v (.int .i64 (.ofNat i))),(16,SV.v (.int .i64 (.ofNat k))),(18,SV.v (.int .i64 (.ofNat way)))]
def LD.nn {D w1 s:Nat} {bt:Nat->Bool} {E1:List SV}:LD D w1 s bt E1->Nat
 | ⟨_,N,_,_,_,_,_⟩=>N
noncomputable def LD.H (st:Int) (U:Ch) (en dq k way:Nat) (x:Li) {D w1 s:Nat} {bt:Nat->Bool} {E1:List SV}:LD D w1 s bt E1->Ch
 | ⟨j,_,wz,wk,_,_,_⟩=>[(wz,SB.row 98 3 wk (x.E++Ye (k+1 - x.th) k++upE (bq st) j x.s)),(dq,SB.row 75 7 ((x.b++W9 way k).length+2) (c7M (pc (x.b++W9 way k)))),(en,SB.row 89 2 8 (enA (bq st) 8))]++U
structure LF (L w:Nat) where
 (N wy wk:Nat) (hl:L=wk*3) (hb:wk<=w)
def LF.E (vr:SV) (st:Int) (en dq i k way j:Nat) (x:Li) {L w:Nat}:LF L w->SE
 | ⟨_,wy,wk2,_,_⟩=>[(0,vr),(1,SV.v (.int .i64 st)),(6,SV.sl en 0 8 0),(10,SV.sl dq 0 ((x.b++W9 way k).length+2) 0),(12,SV.v (.int .i64 (.ofNat (max x.th (k+1))))),(13,SV.v (.int .i64 (.ofNat (x.s+j)))),(15,SV.v (.int .i64 (.ofNat i))),(16,SV.v (.int .i64 (.ofNat k))),(18,SV.v (.int .i64 (.ofNat way))),(11,SV.sl wy 0 wk2 0),(14,SV.v (.int .i64 (.ofNat (x.dn+2+upN (bq st) (j+1) x.s))))]
def LF.nn {L w:Nat}:LF L w->Nat
 | ⟨N,_,_,_,_⟩=>N
noncomputable def LF.H (st:Int) (U:Ch) (en dq k way j:Nat) (x:Li) {L w:Nat}:LF L w->Ch
 | ⟨_,wy,wk2,_,_⟩=>[(wy,SB.row 98 3 wk2 (x.E++Ye (k+1 - x.th) k++upE (bq st) j x.s++evS (x.s+j)++(if bq st (x.s+j) then evP (x.s+j) else []))),(dq,SB.row 75 7 ((x.b++W9 way k).length+2) (c7M (pc (x.b++W9 way k)))),(en,SB.row 89 2 8 (enA (bq st) 8))]++U
section
variable {x:Li} {bt:Nat->Bool} {i way k wk j:Nat}
theorem Li.Ok.w (h:x.Ok bt i) (hk:k<8) (hw:way<2) (hj:j=k+1 - x.s) (hl:(x.E++Ye (k+1 - x.th) k++upE bt j x.s).length=wk*3) (hb:wk<=x.wk+(k+1 - x.th)+3*j):(Li.mk (max x.th (k+1)) (x.s+j) (x.dn+2+upN bt j x.s) wk (x.b++W9 way k) (x.E++Ye (k+1 - x.th) k++upE bt j x.s)).Ok bt (i+1):=by
 have hD:T9 way k x.s=j:=by unfold T9;rw [if_pos hw,hj]
 have hwl:=h.wl;have:=h.next (way:=way) (wk:=wk) hk (by omega) (by unfold Li.next;rw [hD];exact hl) (by rw [hD];omega);unfold Li.next at this;rw [hD,if_pos hw] at this;exact this
theorem Li.Ok.v (h:x.Ok bt i) (hk:k<8) (hw:way=2):(Li.mk (max x.th (k+1)) x.s (x.dn+1+2) (x.wk+(k+1 - x.th)) (x.b++W9 way k) (x.E++Ye (k+1 - x.th) k)).Ok bt (i+1):=by
 have hD:T9 way k x.s=0:=by unfold T9;rw [if_neg (by omega)]
 have hwl:=h.wl;have hel:=h.el;have:=h.next (way:=way) (wk:=x.wk+(k+1 - x.th)) hk (by omega) (by unfold Li.next;rw [hD,show upE bt 0 x.s=[] from rfl,List.append_nil];rw [List.length_append,X9,hel];omega) (by rw [hD];omega);unfold Li.next at this;rw [hD,if_neg (by omega),show upE bt 0 x.s=[] from rfl,List.append_nil] at this;exact this
theorem Aq {E1:List SV} {s:Nat} (hl:(E1++upE bt j s++evS (s+j)++(if bt (s+j) then evP (s+j) else [])).length=wk*3):(E1++upE bt j s++evS (s+j)++(if bt (s+j) then evP (s+j) else [])).take (wk*3)++evE (s+j)=E1++upE bt (j+1) s:=by
 rw [Kx hl,Jj];unfold Sa;simp only [List.append_assoc]
theorem up_len {E1:List SV} {s:Nat} (hl:(E1++upE bt j s++evS (s+j)++(if bt (s+j) then evP (s+j) else [])).length=wk*3):(E1++upE bt (j+1) s).length=(wk+1)*3:=by
 rw [<- Aq hl,Kx hl,List.length_append,hl];show _+3=_;omega
theorem upN_T {s:Nat} (h:bt (s+j)=true):upN bt (j+1) s=upN bt j s+3:=by rw [P1];unfold stN;rw [if_pos h]
theorem upN_F {s:Nat} (h:bt (s+j)=false):upN bt (j+1) s=upN bt j s:=by rw [P1];unfold stN;rw [if_neg (by rw [h];decide)];rfl
theorem Ev {a b:Nat} (h:(!(ilt (.ofNat b) (.ofNat a)))=true):a<=b:=by
 rw [Bool.not_eq_true',Bool.eq_false_iff,ne_eq,Xf] at h;simp only [Int.ofNat_eq_natCast] at h;omega
theorem E9 {a b:Nat} (h:(!(ilt (.ofNat b) (.ofNat a)))=false):b<a:=by
 rw [Bool.not_eq_false',Xf] at h;simp only [Int.ofNat_eq_natCast] at h;omega
end
section
set_option maxRecDepth 10000
variable {N:Nat} {U:Ch} {vr:SV} {raw:List Int} {st:Int}
theorem C8 (hbeg:∀ N,HF Tryz.prog 24 [] N [] fun u N' H'=>u=Zb true/\N'=N/\H'=[]) (hvr:Wi vr U raw) (hri:∀ x ∈ raw,Wy x) (hst:Wy st) :
  HF Tryz.prog 8 [vr,Zi st] N ([]++U) fun u _ H'=>∃ Hz,u=Zb true/\H'=Hz++U:=by
 refine hf1 Tryz.func8 J Tryz.ntmps8 fun _ _ _ _=>?_;refine Zd (Za 1 [] [(4,Zb false)] [] (Zx (Z0 [] [] Zj J J J J (hbeg _) J (Za 1 [] [(5,Zb true)] [] (Z1 (Zd (Za 2 [] [(26,Zb false)] [] (Zg (Z6 J (Ya (Yh (Za 1 [] [(6,Zz)] [] (Z1 (Zd (Za 1 [] [(7,Zi 0)] [] (Zg (Zv (Uy (α:=LA st) (st:=(fun s=>s.E vr)) (nn:=LA.nn) (hh:=(LA.hh U)) (.nil N) ⟨J,J,J,J,trivial⟩ J J ?_))))))))))))))))));refine T5 (α:=LA st) LA.mu (fun s=>s.E vr) LA.nn (LA.hh U) (.nil N) ?_;rintro (⟨M⟩ | ⟨j,en,M,hj1,hj8⟩ | ⟨en,M⟩)
 ·skip
  refine Z2 (Zd (Za 2 [] [(28,Zb true)] [] (Zg (Yj J (Ya (Zr (Z2 (Zv (Zd (Za 3 [] [(32,Zn 0),(33,Zi st),(34,Zn 0)] [] (Zu (v:=.v (.int .u64 (.ofNat 0))) J (Gh J J (by omega)) J ?_)))))))))));refine Zu (v:=Zi (st.fdiv (2 ^ 0))) J (Gg J J J (by omega)) J ?_;refine Zu (v:=Zi (Ae (st.fdiv (2 ^ 0)))) J (L9 J J J) J (Za 1 [] [(38,SV.v (.bool (bq st 0)))] [] (Qm 0 0 [] [] Zj J J J J ((HF.fr U (Ii 0 (bq st 0) (by omega)))) J ?_));refine Qm 0 0 [] [] Zj J J J J ((HF.fr U (Db 0 (bq st 0) (by omega)))) J ?_;refine Zy 6 [0] [(8,Zq (lnN M (bq st 0)) 0),(9,Zb true)] [] ((lnN M (bq st 0))+1) [((lnN M (bq st 0)),Zc [Zs (nmL 0),Zs (lbL 0 (bq st 0))])] [] (Z1 (Zd (Za 2 [] [(44,Zb false)] [] (Zg (Z6 J (Ya (Zr (Zo (Zy 3 [0] [(45,Zz),(47,Zk ((lnN M (bq st 0))+1) 0 1 0)] [] ((lnN M (bq st 0))+2) [(((lnN M (bq st 0))+1),Zw 89 2 1 [Zs (nmL 0),Zs (lbL 0 (bq st 0))])] [] (HL_a0t (i':=0) (e:=89) (sz:=2) (by_:=32) (cc:=(enA (bq st) 1)) 2 [2] (by kernel_rfl) (by kernel_rfl) J J J J J J J J (by omega) (by omega) J (J) (by decide) J ?_))))))))));refine Za 1 [] [(6,Zk ((lnN M (bq st 0))+2) 0 1 0)] [] (Z7 (Yb (Zr (Zo (Za 3 [] [(7,Zn 1)] [] (Z7 ?_))))));show HQ _ _ _ _ _ _ _ _ _ _ _ _ ([(((lnN M (bq st 0))+2),Zw 89 2 1 (enA (bq st) 1)),((lnN M (bq st 0)),Zc [Zs (nmL 0),Zs (lbL 0 (bq st 0))])]++U);exact Rb (js:=[0]) _ (by decide) J J (X1 (.row 1 _ _ (Nat.le_refl _) (by omega)) (by show 8<9;omega) ⟨rfl,rfl,rfl,rfl,trivial⟩ rfl rfl)
 ·skip
  refine Z2 (Zd (Za 1 [] [(27,Zn j)] [] (Zu (v:=Zb true) J (U5 J J J (Ry hj8)) J (Zg (Yj J (Ya (Zr (Z2 (Zv (Zd (Za 3 [] [(32,Zn j),(33,Zi st),(34,Zn j)] [] (Zu (v:=.v (.int .u64 (.ofNat j))) J (Gh J J hj8) J (Zu (v:=Zi (st.fdiv (2 ^ j))) J (Gg J J J hj8) J (Zu (v:=Zi (Ae (st.fdiv (2 ^ j)))) J (L9 J J J) J (Za 1 [] [(38,SV.v (.bool (bq st j)))] [] (Qm 1 0 [] [0] Zj J J J J ((HF.fr U (Ii j (bq st j) hj8))) J (Qm 1 0 [] [0] Zj J J J J ((HF.fr U (Db j (bq st j) hj8))) J (Zy 6 [0] [(8,Zq (lnN M (bq st j)) 0),(9,Zb true)] [] ((lnN M (bq st j))+1) [((lnN M (bq st j)),Zc [Zs (nmL j),Zs (lbL j (bq st j))])] [] (Z1 (Zd (Za 2 [] [(44,Zb false)] [] (Zg (Z6 J (Ya (Zr (Zo (Zy 3 [0] [(45,Zk en 0 j 0),(47,Zk ((lnN M (bq st j))+1) 0 1 0)] [] ((lnN M (bq st j))+2) [(((lnN M (bq st j))+1),Zw 89 2 1 [Zs (nmL j),Zs (lbL j (bq st j))])] [] (Rl (i:=2) (i':=0) (e:=89) (sz:=2) (by_:=32) (js:=[1]) (cc:=(enA (bq st) (j+1))) 3 (by kernel_rfl) (by kernel_rfl) J J J J J J J (by decide) J J (by omega) J J (by omega) (by omega) J (enA_cat (bq st) j) ?_))))))))))))))))))))))))))));refine Za 1 [] [(6,Zk ((lnN M (bq st j))+2) 0 (j+1) 0)] [] (Z7 (Yb (Zr (Zo (Za 1 [] [(29,Zn j)] [] (Zu (v:=Zn (j+1)) J (Xr J J J (by omega)) J ?_))))));refine Za 1 [] [(7,Zn (j+1))] [] (Z7 ?_);show HQ _ _ _ _ _ _ _ _ _ _ _ _ ([(((lnN M (bq st j))+2),Zw 89 2 (j+1) (enA (bq st) (j+1))),((lnN M (bq st j)),Zc [Zs (nmL j),Zs (lbL j (bq st j))])]++U);rcases Nat.lt_or_ge (j+1) 8 with h | h
  ·exact Rb (js:=[0]) _ (by decide) J J (X1 (.row (j+1) _ _ (by omega) h) (by show 9 - (j+1)<9 - j;omega) ⟨rfl,rfl,rfl,rfl,trivial⟩ rfl rfl)
  ·have hj:j=7:=(by omega);subst hj;exact Rb (js:=[0]) _ (by decide) J J (X1 (.fin _ _) (by show 0<9 - 7;omega) ⟨rfl,rfl,rfl,rfl,trivial⟩ rfl rfl)
 ·skip
  refine Z2 (Zd (Za 2 [] [(28,Zb false)] [] (Zg (Z6 J (Yz (Z8 (Z8 (Yi (Yh (Zy 5 [] [(10,Zk M 0 2 0)] [] (M+1) [(M,Zw 75 7 2 [Zi 15,Zi 0,Zs ((ByteArray.mk #[79,98,106,101,99,116])),Ze,Zz,Zi 0,Ze,Zi 3,Zi 0,Ze,Ze,Zz,Zi 0,Ze])] [] ?_))))))))));refine Zx (Zy 5 [] [(11,Zk (M+1) 0 3 0)] [] (M+2) [((M+1),Zw 98 3 3 [Zi 2,Zi 0,Zs ((ByteArray.mk #[77,97,105,110])),Zi 3,Zi 0,Zs ((ByteArray.mk #[77,97,105,110])),Zi 4,Zi 0,Zs ((ByteArray.mk #[77,97,105,110]))])] [] (Zx (Za 1 [] [(12,Zi 0)] [] (Zx (Za 1 [] [(13,Zi 0)] [] (Zx (Za 1 [] [(14,Zi 2)] [] (Zg (Jg (α:=LE st) (LE.E en) LE.nn (LE.H U en) ?_ ?_)))))))))
  ·skip
   rintro (⟨i,M2,dc,wp,x,hx,hi⟩)
   ·skip
    obtain ⟨bs,hEn,hRn⟩:=Be hx hi;have hel:=hx.el;have hwl:=hx.wl;have ht8:=hx.t8;have hs8:=hx.s8;have hbl:=hx.l;have hdn:=hx.d;have hev:=hx.ev;refine Zd (Zy 3 [] [(176,Zk dc 0 (x.b.length+2) 0),(178,Zk M2 0 1 0)] [] (M2+1) [(M2,Zw 75 7 1 [Zi 22,Zi 0,Ze,Ze,Zz,Zi 0,Ze])] [] ?_);refine Rl (i:=2) (i':=0) (e:=75) (sz:=7) (by_:=96) (js:=[1,3]) (cc:=(c7M (pc (x.b++[Mi.ret])))) 4 (by kernel_rfl) (by kernel_rfl) J J J J J J J (by decide) J J (by omega) J J (by omega) (by omega) J (Dm x.b [Mi.ret]) ?_;refine Za 1 [] [(10,Zk (M2+1) 0 ((x.b.length+2)+1) 0)] [] (Zx (Za 1 [] [(181,Zk (M2+1) 0 ((x.b.length+2)+1) 0)] [] (Z0 [] [] Zj J J J J (mainL) J (Z0 [0,1] [1,0] Zj J J J J (entryL (hEn _ _ _ J)) J (Zy 6 [0] [(19,Zq (M2+6) 0),(20,Zb true)] [] (M2+7) [((M2+6),Zc [Zs Zt,Zs bs])] [] (Zx (Zy 3 [0] [(186,Zk en 0 8 0),(188,Zk (M2+7) 0 1 0)] [] (M2+8) [((M2+7),Zw 89 2 1 [Zs Zt,Zs bs])] [] (Rl (i:=5) (i':=0) (e:=89) (sz:=2) (by_:=32) (js:=[1,2,3,4]) (cc:=(enC (bq st) bs)) 6 (by kernel_rfl) (by kernel_rfl) J J J J J J J (by decide) J J (by omega) J J (by omega) (by omega) J (enA_all (bq st) bs) ?_))))))));refine Za 1 [] [(6,Zk (M2+8) 0 9 0)] [] (Zx (Za 2 [] [(192,SV.agg [Zk (M2+8) 0 9 0,Zs ((ByteArray.mk #[77,97,105,110])),Zz,Zi 5000,Zi 10000,Zi 2])] [] (Xo 5 [0] [1,2,3,4] Zj J J J J ((hRn _ _ _)) ?_)));rintro _ N9 _ ⟨ev,R,rfl,rfl⟩;refine ⟨_,([(ev,Zw 98 3 x.wk x.E),((M2+6),Zc [Zs Zt,Zs bs]),((M2+3),Zw 134 10 1 [Zs Z4,Zb true,Zz,Zi 0,Ze,Zi 1,Zi 1,Zk (M2+1) 0 (x.b.length+2+1) 0,Zz,Zz]),((M2+1),Zw 75 7 (x.b.length+2+1) (c7M (pc (x.b++[Mi.ret])))),(wp,Zw 98 3 x.wk x.E)]++(R++U)),J,Yo (A:=[(ev,.row 98 3 x.wk x.E)]) (R:=[((M2+6),.cells [Zs Zt,Zs bs]),((M2+3),.row 134 10 1 [Zs Z4,Zb true,Zz,Zi 0,Ze,Zi 1,Zi 1,Zk (M2+1) 0 (x.b.length+2+1) 0,Zz,Zz]),((M2+1),.row 75 7 (x.b.length+2+1) (c7M (pc (x.b++[Mi.ret])))),(wp,.row 98 3 x.wk x.E)]) (T:=(R++U)),?_⟩;refine Zy 6 [0] [(21,Zq N9 0),(22,Zi 0)] [] (N9+1) [(N9,Zc [Zi 1,Ze,Zk ev 0 x.wk 0,Zn (x.dn+1)])] [] ?_;refine Z1 (Zd (Za 15 [0,0] [(207,Zb false),(209,Zn (x.dn+1)),(210,Zn x.dn)] [] (Zu (v:=Zn (x.dn+1)) J (Xr J J J (by omega)) J ?_)));refine Zu (v:=Zb false) J (Zbx J J J J) J (Za 7 [0] [(214,Zb false),(217,Zn x.wk),(219,Zn x.wk)] [] (Zu (v:=Zb false) J (Zbx J J J J) J (Za 1 [] [(221,Zb false)] [] (Zg (Z6 J (Ya (Zr (Z2 (Zd (Za 1 [] [(23,Zi 0)] [] (Zg (Zv (Uy (α:={q:Nat // q<=x.wk}) (st:=(fun s=>[(11,Zk wp 0 x.wk 0),(21,Zq N9 0),(23,Zn s.1)])) (nn:=(fun _=>N9+1)) (hh:=(fun _=>[(N9,Zc [Zi 1,Ze,.sl ev 0 x.wk 0,Zn (x.dn+1)]),(ev,Zw 98 3 x.wk x.E),((M2+6),Zc [Zs Zt,Zs bs]),((M2+3),Zw 134 10 1 [Zs Z4,Zb true,Zz,Zi 0,Ze,Zi 1,Zi 1,.sl (M2+1) 0 (x.b.length+2+1) 0,Zz,Zz]),((M2+1),Zw 75 7 (x.b.length+2+1) (c7M (pc (x.b++[Mi.ret])))),(wp,Zw 98 3 x.wk x.E)]++(R++U))) ⟨0,Nat.zero_le _⟩ ⟨J,J,J,trivial⟩ J J ?_)))))))))))));refine T5 (α:={q:Nat // q<=x.wk}) (fun s=>x.wk - s.1) (fun s=>[(11,Zk wp 0 x.wk 0),(21,Zq N9 0),(23,Zn s.1)]) (fun _=>N9+1) (fun _=>[(N9,Zc [Zi 1,Ze,.sl ev 0 x.wk 0,Zn (x.dn+1)]),(ev,Zw 98 3 x.wk x.E),((M2+6),Zc [Zs Zt,Zs bs]),((M2+3),Zw 134 10 1 [Zs Z4,Zb true,Zz,Zi 0,Ze,Zi 1,Zi 1,.sl (M2+1) 0 (x.b.length+2+1) 0,Zz,Zz]),((M2+1),Zw 75 7 (x.b.length+2+1) (c7M (pc (x.b++[Mi.ret])))),(wp,Zw 98 3 x.wk x.E)]++(R++U)) ⟨0,Nat.zero_le _⟩ ?_;rintro (⟨q,hq⟩)
    ·skip
     refine Z2 (Zd (Za 4 [] [(225,SV.v (.bool (ilt (.ofNat q) (.ofNat x.wk))))] [] (Zg (V9 J (fun c8=>?_) (fun c8=>?_)))))
     ·skip
      have hqk:q<x.wk:=(by rw [Xf] at c8;simp only [Int.ofNat_eq_natCast] at c8;omega);obtain ⟨ea,eb,es,hcut⟩:=hev.at_ q (by omega);refine Ya (Zr (Z2 (Zv (Z2 ?_))))
      refine Y0 [.ptr N9 2,.sl ev 0 x.wk 0,Zn q,.ptr ev (0+q*3),.agg [Zi ea,Zi eb,Zs es],.sl wp 0 x.wk 0,Zn q,.ptr wp (0+q*3),.agg [Zi ea,Zi eb,Zs es],Zb false] [] [] [0] [(237,Zb false)] [] [3,4,7,8,9] Yt
       trivial
       ⟨Y4 fun _ _=>Yl rfl (Xe rfl rfl rfl (by kernel_rfl) (by omega)),(Ys (fun _ hGG=>Z3 rfl rfl rfl (hGG.get (i:=1) rfl) (by have:=X5 (P:=Tryz.prog) (t:=98) (m:=3) (off:=0+q*3) (sb:=.row 98 3 x.wk x.E) (c:=x.E) (by kernel_rfl) (by kernel_rfl) rfl (by rw [hcut];rfl);rw [hcut] at this;exact this)) trivial),Y4 fun _ _=>Yl J (Xe J J J (by kernel_rfl) (by omega)),(Ys (fun _ hGG=>Z3 J J J (hGG.get (i:=5) J) (by have:=X5 (P:=Tryz.prog) (t:=98) (m:=3) (off:=0+q*3) (sb:=.row 98 3 x.wk x.E) (c:=x.E) (by kernel_rfl) (by kernel_rfl) J (by rw [hcut];rfl);rw [hcut] at this;exact this)) trivial),(Ys (fun _ hGG=>(Zbc J J J J)) trivial),trivial⟩ J ?_
      refine Zr (Z6 J (Ya (Yb (Zr (Zo (Za 1 [] [(226,Zn q)] [] (Zu (v:=Zn (q+1)) J (Xr J J J (by omega)) J ?_)))))));refine Za 1 [] [(23,Zn (q+1))] [] (Z7 ?_);show HQ _ _ _ _ _ _ _ _ _ _ _ _ ([(N9,Zc [Zi 1,Ze,Zk ev 0 x.wk 0,Zn (x.dn+1)]),(ev,Zw 98 3 x.wk x.E),((M2+6),Zc [Zs Zt,Zs bs]),((M2+3),Zw 134 10 1 [Zs Z4,Zb true,Zz,Zi 0,Ze,Zi 1,Zi 1,Zk (M2+1) 0 (x.b.length+2+1) 0,Zz,Zz]),((M2+1),Zw 75 7 (x.b.length+2+1) (c7M (pc (x.b++[Mi.ret])))),(wp,Zw 98 3 x.wk x.E)]++(R++U));exact X1 ⟨q+1,hqk⟩ (by show x.wk - (q+1)<x.wk - q;omega) ⟨rfl,rfl,rfl,trivial⟩ rfl rfl
     ·skip
      refine Yz (Z8 (Z8 (Yi (Yh (Za 1 [] [(4,Zb true)] [] (Zg (Yc (Wk 6 [] (.inr J) Zj J ?_))))))));exact ⟨R,J,J⟩
  ·skip
   refine Zd ?_;obtain ⟨s0,hE0,hN0,hH0,hm0⟩:=Ik (st:=st) raw 0 (M+2) M (M+1) li0 (Gl _) (by omega);refine Za 1 [] [(15,Zi 0)] [] (Zg (Zv ?_));refine Uy (α:=LB st raw) (st:=(fun s=>s.E vr en)) (nn:=LB.nn) (hh:=(LB.hh U en)) s0 (by rw [hE0];exact ⟨J,J,J,J,J,J,J,J,J,trivial⟩) hN0 ((hH0 U en).trans J) ?_;refine T5 (α:=LB st raw) LB.mu (fun s=>s.E vr en) LB.nn (LB.hh U en) s0 ?_;rintro (⟨i,M2,dc,wp,x,hx,h1,h2⟩ | ⟨i,M2,dc,wp,x,hx,h1,h2⟩ | ⟨i,M2,dc,wp,x,hx,h1,h2⟩)
   ·skip
    obtain ⟨c,hc⟩:∃ c,raw[i]?=some c:=⟨_,List.getElem?_eq_getElem h1⟩;obtain ⟨rb,io,ij,rins,rst,rsf,hv,hmem,hcell⟩:=hvr.at_ hc;have hci:=hri c (List.mem_of_getElem? hc);obtain ⟨k,hk⟩:∃ k,Tb c 8=k:=⟨_,rfl⟩;have hk8:k<8:=by rw [<- hk];exact J2 c (by omega)
    obtain ⟨way,hway⟩:∃ k,Tb (c.tdiv 8) 3=k:=⟨_,rfl⟩;have hw3:way<3:=by rw [<- hway];exact J2 _ (by omega)
    have hpk:=fun N=>J1 (N:=N) (n:=8) hci (by omega);have hpw:=fun N=>J1 (N:=N) (n:=3) (Zba hci) (by omega);rw [hk] at hpk;rw [hway] at hpw;have hel:=hx.el;have hwl:=hx.wl;have ht8:=hx.t8;have hs8:=hx.s8;have hbl:=hx.l;have hdn:=hx.d;refine Z2 (Zd (Za 2 [] [(57,Zn i),(58,vr)] [] ?_));refine Zu (v:=Zn raw.length) J (by obtain ⟨_,_,hI,_⟩:=hvr;cases hI<;>kernel_rfl) rfl ?_;refine Zu (v:=Zb true) J (U5 J J J (Ry h1)) J (Za 2 [] [(61,Zb true),(62,Zn i)] [] (Zu (v:=Zb true) J (U5 J J J (Ry (n:=30) h2)) J (Za 1 [] [(64,Zb true)] [] (Zg (Yj J (Ya (Zr (Z2 (Zv (Zd (Za 2 [] [(67,vr),(68,Zn i)] [] (Zu (v:=.ptr rb (io+i*1)) J (Xe J (congrArg some hv) J (by kernel_rfl) h1) J ?_))))))))))));refine Zey (v:=Zi c) J J J (List.mem_append_right _ hmem) (Ew (by kernel_rfl) hcell) J ?_;refine Z0 [] [] Zj J J J J ((hpk _)) J (Za 1 [] [(16,Zn k)] [] (Z1 (Zd (Za 2 [] [(17,Zn k)] [] (Zg (Zv ?_))))));refine Uy (α:=LC (k+1 - x.th)) (st:=(LC.E vr st en dc i k x)) (nn:=LC.nn) (hh:=(LC.H st U en dc k x)) ⟨0,M2,wp,Nat.zero_le _⟩ ⟨J,J,J,J,J,J,J,J,J,J,J,trivial⟩ J (by show [(wp,Zw 98 3 x.wk (x.E++[])),_,_]++U=_;rw [List.append_nil];rfl) ?_;refine T5 (α:=LC (k+1 - x.th)) (fun s=>k+1 - x.th - s.d) (LC.E vr st en dc i k x) LC.nn (LC.H st U en dc k x) ⟨0,M2,wp,Nat.zero_le _⟩ ?_;rintro (⟨d,M3,wq,hd⟩)
    ·skip
     refine Z2 (Zd (Za 3 [] [(75,SV.v (.bool (!(ilt ((k:Int) - (d:Int)) (.ofNat x.th)))))] [] (Zg (V9 J (fun c11=>?_) (fun c11=>?_)))))
     ·skip
      have hdl:=Zce c11;refine Ya (Zr (Z2 (Zv (Zo (Za 3 [] [(78,Zk wq 0 (x.wk+d) 0),(79,Zi ((k:Int) - (d:Int))),(80,Zi ((k:Int) - (d:Int)))] [] ?_)))));refine Zu (v:=Zi ((k:Int) - (d:Int)+1)) J (Ep J J J (by unfold Wy;omega)) rfl ?_;refine Zu (v:=Zs (nmL (k - d))) J (Ma J J J (by simp only [Int.ofNat_eq_natCast];omega) (by simp only [Int.ofNat_eq_natCast];omega) (by omega)) rfl ?_;refine Zy 2 [] [(84,Zk M3 0 1 0)] [] (M3+1) [(M3,Zw 98 3 1 [Zi 2,Zi 0,Zs (nmL (k - d))])] [] (Rl (i:=1) (i':=0) (e:=98) (sz:=3) (by_:=32) (js:=[2,3]) (cc:=(x.E++Ye (d+1) k)) 4 (by kernel_rfl) (by kernel_rfl) J J J J J J J (by decide) J J (by omega) J J (by omega) (by omega) J (ask_cat hel) ?_);refine Za 1 [] [(11,Zk (M3+1) 0 ((x.wk+d)+1) 0)] [] (Z7 (Yb (Zr (Zo (Za 1 [] [(76,Zi ((k:Int) - (d:Int)))] [] ?_)))));refine Zu (v:=Zi ((k:Int) - ((d+1:Nat):Int))) J (by rw [no_subI J J J (by unfold Wy;omega)];exact congrArg (fun z=>some (Zi z)) (by omega)) J ?_;refine Za 1 [] [(17,Zi ((k:Int) - ((d+1:Nat):Int)))] [] (Z7 ?_);show HQ _ _ _ _ _ _ _ _ _ _ _ _ ([((M3+1),Zw 98 3 ((x.wk+d)+1) (x.E++Ye (d+1) k)),(dc,Zw 75 7 (x.b.length+2) (c7M (pc x.b))),(en,Zw 89 2 8 (enA (bq st) 8))]++U);exact X1 ⟨d+1,_,_,by omega⟩ (by show k+1 - x.th - (d+1)<k+1 - x.th - d;omega) ⟨rfl,rfl,rfl,rfl,rfl,rfl,rfl,rfl,rfl,rfl,rfl,trivial⟩ rfl rfl
     ·skip
      have hde:=Zdo hd c11;refine Yz (Z8 (Z8 (Yi (Zr (Jg (α:=Nat × Nat) (c27E vr st en dc i k x) c27N (c27H st U en dc k x) ?_ ?_)))))
      ·skip
       rintro (⟨M4,wq⟩)
       ·skip
        refine Zd (Za 2 [] [(91,vr),(92,Zn i)] [] (Zu (v:=.ptr rb (io+i*1)) J (Xe J (congrArg some hv) J (by kernel_rfl) h1) J ?_));refine Zey (v:=Zi c) J J J (List.mem_append_right _ hmem) (Ew (by kernel_rfl) hcell) J ?_;refine Zu (v:=Zi (c.tdiv 8)) J (no_quo8 J J J (Zba hci)) J (Z0 [] [] Zj J J J J ((hpw _)) J (Za 1 [] [(18,Zn way)] [] (Zg (Jg (α:=CK way) (CK.E vr st en i k x) CK.N (CK.H st U en k x) ?_ ?_))))
        ·skip
         rintro (⟨M5,dq,wq,hwy⟩ | ⟨M5,dq,wq,hwy⟩)
         ·skip
          refine Zd (Za 1 [] [(136,Zn x.dn)] [] (Zu (v:=Zn (x.dn+2)) J (Xr J J J (by omega)) J ?_));refine Za 1 [] [(14,Zn (x.dn+2))] [] (Zg (Zv ?_));refine Uy (α:=LD (k+1 - x.s) (x.wk+(k+1 - x.th)) x.s (bq st) (x.E++Ye (k+1 - x.th) k)) (st:=(LD.E vr st en dq i k way x)) (nn:=LD.nn) (hh:=(LD.H st U en dq k way x)) ⟨0,M5,wq,x.wk+(k+1 - x.th),Nat.zero_le _,by rw [show upE (bq st) 0 x.s=[] from J,List.append_nil,List.length_append,X9,hel];omega,Nat.le_refl _⟩ ⟨rfl,rfl,rfl,rfl,rfl,rfl,rfl,rfl,rfl,rfl,rfl,trivial⟩ rfl (by show [(wq,Zw 98 3 _ (_++[])),_,_]++U=_;rw [List.append_nil];rfl) ?_;refine T5 (α:=LD (k+1 - x.s) (x.wk+(k+1 - x.th)) x.s (bq st) (x.E++Ye (k+1 - x.th) k)) (fun s=>k+1 - x.s - s.j) (LD.E vr st en dq i k way x) LD.nn (LD.H st U en dq k way x) ⟨0,M5,wq,x.wk+(k+1 - x.th),Nat.zero_le _,by rw [show upE (bq st) 0 x.s=[] from J,List.append_nil,List.length_append,X9,hel];omega,Nat.le_refl _⟩ ?_;rintro (⟨j,M6,wz,wk,hj,hwk,hwb⟩)
          ·skip
           have hun:=Hj (bt:=bq st) j x.s;refine Z2 (Zd (Za 1 [] [(138,Zn way)] [] (Zu (v:=Zb true) J (U5 J J J (Ry (n:=2) hwy)) J (Za 5 [] [(144,SV.v (.bool (!(ilt (.ofNat k) (.ofNat (x.s+j))))))] [] (Zg (V9 J (fun c12=>?_) (fun c12=>?_)))))))
           ·skip
            have hjl:x.s+j<=k:=Ev c12;refine Ya (Zr (Zv (Zd (Za 3 [] [(145,Zk wz 0 wk 0),(146,Zn (x.s+j)),(147,Zn (x.s+j))] [] (Zu (v:=Zn ((x.s+j)+1)) J (Xr J J J (by omega)) J ?_)))));refine Zu (v:=Zs (nmL (x.s+j))) J (Ma J J J J J (by omega)) J ?_;refine Zy 2 [] [(151,Zk M6 0 1 0)] [] (M6+1) [(M6,Zw 98 3 1 [Zi 3,Zi 0,Zs (nmL (x.s+j))])] [] (Rl (i:=1) (i':=0) (e:=98) (sz:=3) (by_:=32) (js:=[2,3]) (cc:=(x.E++Ye (k+1 - x.th) k++upE (bq st) j x.s++evS (x.s+j))) 4 (by kernel_rfl) (by kernel_rfl) J J J J J J J (by decide) J J (by omega) J J (by omega) (by omega) J (Kx hwk) ?_);refine Za 1 [] [(11,Zk (M6+1) 0 (wk+1) 0)] [] (Zg (Jg (α:=LF (x.E++Ye (k+1 - x.th) k++upE (bq st) j x.s++evS (x.s+j)++(if bq st (x.s+j) then evP (x.s+j) else [])).length (wk+2)) (LF.E vr st en dq i k way j x) LF.nn (LF.H st U en dq k way j x) ?_ ?_))
            ·skip
             rintro (⟨M7,wy,wk2,hl2,hb2⟩)
             ·skip
              refine Zd (Za 3 [] [(166,Zk wy 0 wk2 0),(167,Zn (x.s+j)),(168,Zn (x.s+j))] [] (Zu (v:=Zn ((x.s+j)+1)) J (Xr J J J (by omega)) J ?_));refine Zu (v:=Zs (nmL (x.s+j))) J (Ma J J J J J (by omega)) J ?_;refine Zy 2 [] [(172,Zk M7 0 1 0)] [] (M7+1) [(M7,Zw 98 3 1 [Zi 4,Zi 0,Zs (nmL (x.s+j))])] [] (Rl (i:=1) (i':=0) (e:=98) (sz:=3) (by_:=32) (js:=[2,3]) (cc:=(x.E++Ye (k+1 - x.th) k++upE (bq st) (j+1) x.s)) 4 (by kernel_rfl) (by kernel_rfl) J J J J J J J (by decide) J J (by omega) J J (by omega) (by omega) J (Aq hl2) ?_);refine Za 1 [] [(11,Zk (M7+1) 0 (wk2+1) 0)] [] (Zg (Zo (Za 1 [] [(174,Zn (x.s+j))] [] (Zu (v:=Zn ((x.s+j)+1)) J (Xr J J J (by omega)) J ?_))));refine Za 1 [] [(13,Zn ((x.s+j)+1))] [] (Z7 (Yb ?_));show HQ _ _ _ _ _ _ _ _ _ _ _ _ ([((M7+1),Zw 98 3 (wk2+1) (x.E++Ye (k+1 - x.th) k++upE (bq st) (j+1) x.s)),(dq,Zw 75 7 ((x.b++W9 way k).length+2) (c7M (pc (x.b++W9 way k)))),(en,Zw 89 2 8 (enA (bq st) 8))]++U);exact X1 ⟨j+1,_,_,wk2+1,by omega,up_len hl2,by omega⟩ (by show k+1 - x.s - (j+1)<k+1 - x.s - j;omega) ⟨rfl,rfl,rfl,rfl,rfl,rfl,rfl,rfl,rfl,rfl,rfl,trivial⟩ rfl rfl
            ·skip
             refine Zd (Za 2 [] [(153,Zi st),(154,Zn (x.s+j))] [] (Zu (v:=.v (.int .u64 (.ofNat (x.s+j)))) J (Gh J J (by omega)) J ?_));refine Zu (v:=Zi (st.fdiv (2 ^ (x.s+j)))) J (Gg J J J (by omega)) J ?_;refine Zu (v:=.v (.int .i64 (Ae (st.fdiv (2 ^ (x.s+j)))))) J (L9 J J J) J (Za 1 [] [(158,SV.v (.bool (bq st (x.s+j))))] [] (Zg (V9 J (fun c13=>?_) (fun c13=>?_))))
             ·skip
              refine Zd (Zy 4 [] [(159,Zk (M6+1) 0 (wk+1) 0),(162,Zk (M6+2) 0 1 0)] [] (M6+3) [((M6+2),Zw 98 3 1 [Zi 1,Zn (x.s+j),Ze])] [] ?_);refine Rl (i:=1) (i':=0) (e:=98) (sz:=3) (by_:=32) (js:=[2,3]) (cc:=(x.E++Ye (k+1 - x.th) k++upE (bq st) j x.s++evS (x.s+j)++evP (x.s+j))) 4 (by kernel_rfl) (by kernel_rfl) J J J J J J J (by decide) J J (by omega) J J (by omega) (by omega) J (Kx (by rw [List.length_append,hwk];show _+3=_;omega)) ?_;refine Za 1 [] [(11,Zk (M6+3) 0 ((wk+1)+1) 0)] [] (Zg (Zo (Za 1 [] [(164,Zn (x.dn+2+upN (bq st) j x.s))] [] (Zu (v:=Zn ((x.dn+2+upN (bq st) j x.s)+3)) J (Xr J J J (by omega)) J ?_))));refine Za 1 [] [(14,Zn ((x.dn+2+upN (bq st) j x.s)+3))] [] (Z7 ?_);show HQ _ _ _ _ _ _ _ _ _ _ _ _ ([((M6+3),Zw 98 3 ((wk+1)+1) (x.E++Ye (k+1 - x.th) k++upE (bq st) j x.s++evS (x.s+j)++evP (x.s+j))),(dq,Zw 75 7 ((x.b++W9 way k).length+2) (c7M (pc (x.b++W9 way k)))),(en,Zw 89 2 8 (enA (bq st) 8))]++U);refine Ue ⟨_,_,wk+1+1,?_,Nat.le_refl _⟩ ⟨J,J,J,J,J,J,J,J,J,J,?_,trivial⟩ J ?_
              ·rw [if_pos c13,List.length_append,List.length_append,hwk];show _+3+3=_;omega
              ·show slook _ _=some (Zn (x.dn+2+upN (bq st) (j+1) x.s));rw [upN_T c13];rfl
              ·show [(_,Zw 98 3 _ (x.E++Ye (k+1 - x.th) k++upE (bq st) j x.s++evS (x.s+j)++(if bq st (x.s+j) then evP (x.s+j) else []))),_,_]++U=_;rw [if_pos c13]
             ·skip
              refine Ya ?_;show HQ _ _ _ _ _ _ _ _ _ _ _ _ ([((M6+1),Zw 98 3 (wk+1) (x.E++Ye (k+1 - x.th) k++upE (bq st) j x.s++evS (x.s+j))),(dq,Zw 75 7 ((x.b++W9 way k).length+2) (c7M (pc (x.b++W9 way k)))),(en,Zw 89 2 8 (enA (bq st) 8))]++U);refine Ue ⟨_,_,wk+1,?_,by omega⟩ ⟨J,J,J,J,J,J,J,J,J,J,?_,trivial⟩ J ?_
              ·rw [if_neg (by rw [c13];decide),List.append_nil,List.length_append,hwk];show _+3=_;omega
              ·show slook _ _=some (Zn (x.dn+2+upN (bq st) (j+1) x.s));rw [upN_F c13];rfl
              ·show [(_,Zw 98 3 _ (x.E++Ye (k+1 - x.th) k++upE (bq st) j x.s++evS (x.s+j)++(if bq st (x.s+j) then evP (x.s+j) else []))),_,_]++U=_;rw [if_neg (by rw [c13];decide),List.append_nil]
           ·skip
            have hjd:j=k+1 - x.s:=(by have:=E9 c12;omega);refine Yz (Z8 (Z8 (Yi (Yb (Zr (Zo (Za 1 [] [(65,Zn i)] [] (Zu (v:=Zn (i+1)) J (Xr J J J (by omega)) J ?_))))))));obtain ⟨s0,hE0,hN0,hH0,hm0⟩:=Ik (st:=st) raw 0 (M+2) M (M+1) li0 (Gl _) (by omega);refine Za 1 [] [(15,Zn (i+1))] [] (Z7 ?_);show HQ _ _ _ _ _ _ _ _ _ _ _ _ ([(wz,Zw 98 3 wk (x.E++Ye (k+1 - x.th) k++upE (bq st) j x.s)),(dq,Zw 75 7 ((x.b++W9 way k).length+2) (c7M (pc (x.b++W9 way k)))),(en,Zw 89 2 8 (enA (bq st) 8))]++U);obtain ⟨s1,hE1,hN1,hH1,hm1⟩:=Ik (st:=st) raw (i+1) M6 dq wz _ (hx.w hk8 hwy hjd hwk hwb) (by omega);exact X1 s1 (by show s1.mu<31 - i;omega) (by rw [hE1];exact ⟨J,J,J,J,J,J,J,J,J,trivial⟩) hN1 ((hH1 U en).trans J)
         ·skip
          refine Zd (Za 1 [] [(136,Zn (x.dn+1))] [] (Zu (v:=Zn (x.dn+1+2)) J (Xr J J J (by omega)) J ?_));refine Za 1 [] [(14,Zn (x.dn+1+2))] [] (Zg (Zv (Yv (Yg ?_))));refine Z2 (Zd (Za 1 [] [(138,Zn way)] [] (Zu (v:=Zb false) J (U5 J J J (Gs (n:=2) (by omega))) J ?_)));refine Za 5 [] [(144,Zb false)] [] (Zg (Z6 J (Yz (Z8 (Z8 (Xb (z:=.exit _) J (Yi (Yb (Zr (Zo (Za 1 [] [(65,Zn i)] [] (Zu (v:=Zn (i+1)) J (Xr J J J (by omega)) J ?_))))))))))));obtain ⟨s0,hE0,hN0,hH0,hm0⟩:=Ik (st:=st) raw 0 (M+2) M (M+1) li0 (Gl _) (by omega);refine Za 1 [] [(15,Zn (i+1))] [] (Z7 ?_);show HQ _ _ _ _ _ _ _ _ _ _ _ _ ([(wq,Zw 98 3 (x.wk+(k+1 - x.th)) (x.E++Ye (k+1 - x.th) k)),(dq,Zw 75 7 ((x.b++W9 way k).length+2) (c7M (pc (x.b++W9 way k)))),(en,Zw 89 2 8 (enA (bq st) 8))]++U);obtain ⟨s1,hE1,hN1,hH1,hm1⟩:=Ik (st:=st) raw (i+1) M5 dq wq _ (hx.v hk8 hwy) (by omega);exact X1 s1 (by show s1.mu<31 - i;omega) (by rw [hE1];exact ⟨J,J,J,J,J,J,J,J,J,trivial⟩) hN1 ((hH1 U en).trans J)
        ·skip
         refine Zd (Za 1 [] [(97,Zn way)] [] (Zg (Zv (Zd (Za 2 [] [(111,SV.v (.bool (ieq (.ofNat way) 0)))] [] (Zg (V9 J (fun c15=>?_) (fun c15=>?_))))))))
         ·skip
          have hw0:way=0:=Zcm (n:=0) c15;refine Zo (Za 3 [] [(113,Zk dc 0 (x.b.length+2) 0),(114,Zn k),(115,Zn k)] [] (Zu (v:=Zn (k+1)) J (Xr J J J (by omega)) J ?_));refine Zu (v:=Zs (nmL k)) J (Ma J J J J J hk8) J (Zy 4 [] [(121,Zk M4 0 2 0)] [] (M4+1) [(M4,Zw 75 7 2 [Zi 15,Zi 0,Zs (nmL k),Ze,Zz,Zi 0,Ze,Zi 4,Zi 0,Ze,Ze,Zz,Zi 0,Ze])] [] ?_);refine Rl (i:=2) (i':=0) (e:=75) (sz:=7) (by_:=96) (js:=[1,3]) (cc:=(c7M (pc (x.b++[Mi.new k,Mi.pop])))) 4 (by kernel_rfl) (by kernel_rfl) J J J J J J J (by decide) J J (by omega) J J (by omega) (by omega) J (Dm x.b [Mi.new k,Mi.pop]) ?_;refine Za 1 [] [(10,Zk (M4+1) 0 ((x.b.length+2)+2) 0)] [] (Z7 (Yb ?_));show HQ _ _ _ _ _ _ _ _ _ _ _ _ ([((M4+1),Zw 75 7 ((x.b.length+2)+2) (c7M (pc (x.b++[Mi.new k,Mi.pop])))),(wq,Zw 98 3 (x.wk+(k+1 - x.th)) (x.E++Ye (k+1 - x.th) k)),(en,Zw 89 2 8 (enA (bq st) 8))]++U);subst hw0;refine Rb (js:=[1,0,2]) _ (by decide) J J (Ue (.w _ (M4+1) wq (by omega)) ⟨J,J,J,?_,J,J,J,J,J,J,J,trivial⟩ J ?_)
          ·exact congrArg (fun n=>some (Zk (M4+1) 0 n 0)) (show x.b.length+2+2=(x.b++[Mi.new k,Mi.pop]).length+2 by rw [List.length_append];rfl)
          ·show [_,(_,Zw 75 7 ((x.b++[Mi.new k,Mi.pop]).length+2) (c7M (pc (x.b++[Mi.new k,Mi.pop])))),_]++U=_;rw [List.length_append];rfl
         ·skip
          have hw0:way≠0:=Zcn (n:=0) c15;refine Zd (Za 2 [] [(123,SV.v (.bool (ieq (.ofNat way) 1)))] [] (Zg (V9 J (fun c16=>?_) (fun c16=>?_))))
          ·skip
           have hw1:way=1:=Zcm (n:=1) c16;refine Zo (Za 3 [] [(125,Zk dc 0 (x.b.length+2) 0),(126,Zn k),(127,Zn k)] [] (Zu (v:=Zn (k+1)) J (Xr J J J (by omega)) J ?_));refine Zu (v:=Zs (nmL k)) J (Ma J J J J J hk8) J (Zy 5 [] [(134,Zk M4 0 2 0)] [] (M4+1) [(M4,Zw 75 7 2 [Zi 18,Zi 0,Zs (nmL k),Zs ((ByteArray.mk #[120])),Zz,Zi 1,Ze,Zi 4,Zi 0,Ze,Ze,Zz,Zi 0,Ze])] [] ?_);refine Rl (i:=2) (i':=0) (e:=75) (sz:=7) (by_:=96) (js:=[1,3]) (cc:=(c7M (pc (x.b++[Mi.get k,Mi.pop])))) 4 (by kernel_rfl) (by kernel_rfl) J J J J J J J (by decide) J J (by omega) J J (by omega) (by omega) J (Dm x.b [Mi.get k,Mi.pop]) ?_;refine Za 1 [] [(10,Zk (M4+1) 0 ((x.b.length+2)+2) 0)] [] (Z7 (Yb ?_));show HQ _ _ _ _ _ _ _ _ _ _ _ _ ([((M4+1),Zw 75 7 ((x.b.length+2)+2) (c7M (pc (x.b++[Mi.get k,Mi.pop])))),(wq,Zw 98 3 (x.wk+(k+1 - x.th)) (x.E++Ye (k+1 - x.th) k)),(en,Zw 89 2 8 (enA (bq st) 8))]++U);subst hw1;refine Rb (js:=[1,0,2]) _ (by decide) J J (Ue (.w _ (M4+1) wq (by omega)) ⟨J,J,J,?_,J,J,J,J,J,J,J,trivial⟩ J ?_)
           ·exact congrArg (fun n=>some (Zk (M4+1) 0 n 0)) (show x.b.length+2+2=(x.b++[Mi.get k,Mi.pop]).length+2 by rw [List.length_append];rfl)
           ·show [_,(_,Zw 75 7 ((x.b++[Mi.get k,Mi.pop]).length+2) (c7M (pc (x.b++[Mi.get k,Mi.pop])))),_]++U=_;rw [List.length_append];rfl
          ·skip
           have hw1:way≠1:=Zcn (n:=1) c16;refine Zd (Za 4 [] [(98,Zk dc 0 (x.b.length+2) 0),(99,SV.agg [Zi 2,Zi 0,Ze,Ze,Zz,Zi 0,Ze]),(100,Zn k),(101,Zn k)] [] ?_);refine Zu (v:=Zn (k+1)) J (Xr J J J (by omega)) J ?_;refine Zu (v:=Zs (nmL k)) J (Ma J J J J J hk8) J (Zy 4 [] [(107,Zk M4 0 3 0)] [] (M4+1) [(M4,Zw 75 7 3 [Zi 2,Zi 0,Ze,Ze,Zz,Zi 0,Ze,Zi 26,Zi 0,Zs (nmL k),Ze,Zz,Zi 0,Ze,Zi 4,Zi 0,Ze,Ze,Zz,Zi 0,Ze])] [] ?_);refine Rl (i:=2) (i':=0) (e:=75) (sz:=7) (by_:=96) (js:=[1,3]) (cc:=(c7M (pc (x.b++[Mi.load,Mi.is k,Mi.pop])))) 4 (by kernel_rfl) (by kernel_rfl) J J J J J J J (by decide) J J (by omega) J J (by omega) (by omega) J (Dm x.b [Mi.load,Mi.is k,Mi.pop]) ?_;refine Za 1 [] [(10,Zk (M4+1) 0 ((x.b.length+2)+3) 0)] [] (Zg (Zo (Za 1 [] [(109,Zn x.dn)] [] (Zu (v:=Zn (x.dn+1)) J (Xr J J J (by omega)) J ?_))));refine Za 1 [] [(14,Zn (x.dn+1))] [] (Z7 (Yb ?_));show HQ _ _ _ _ _ _ _ _ _ _ _ _ ([((M4+1),Zw 75 7 ((x.b.length+2)+3) (c7M (pc (x.b++[Mi.load,Mi.is k,Mi.pop])))),(wq,Zw 98 3 (x.wk+(k+1 - x.th)) (x.E++Ye (k+1 - x.th) k)),(en,Zw 89 2 8 (enA (bq st) 8))]++U);have hw2:way=2:=by omega
           subst hw2;refine Rb (js:=[1,0,2]) _ (by decide) J J (Ue (.v _ (M4+1) wq J) ⟨J,J,J,?_,J,J,J,J,J,J,J,trivial⟩ J ?_)
           ·exact congrArg (fun n=>some (Zk (M4+1) 0 n 0)) (show x.b.length+2+3=(x.b++[Mi.load,Mi.is k,Mi.pop]).length+2 by rw [List.length_append];rfl)
           ·show [_,(_,Zw 75 7 ((x.b++[Mi.load,Mi.is k,Mi.pop]).length+2) (c7M (pc (x.b++[Mi.load,Mi.is k,Mi.pop])))),_]++U=_;rw [List.length_append];rfl
      ·skip
       refine Zd (Za 3 [] [(88,SV.v (.bool (!(ilt (.ofNat k) (.ofNat x.th)))))] [] (Zg (V9 J (fun c17=>?_) (fun c17=>?_))))
       ·skip
        have hkt:x.th<=k:=Ev c17;refine Zo (Za 1 [] [(89,Zn k)] [] (Zu (v:=Zn (k+1)) J (Xr J J J (by omega)) J ?_));refine Za 1 [] [(12,Zn (k+1))] [] (Z7 ?_);show HQ _ _ _ _ _ _ _ _ _ _ _ _ ([(wq,Zw 98 3 (x.wk+d) (x.E++Ye d k)),(dc,Zw 75 7 (x.b.length+2) (c7M (pc x.b))),(en,Zw 89 2 8 (enA (bq st) 8))]++U);subst hde;refine Ue (M3,wq) ⟨J,J,J,J,J,?_,J,J,J,J,trivial⟩ J J;show slook _ _=some (Zn (max x.th (k+1)));rw [Nat.max_eq_right (by omega)];rfl
       ·skip
        have hkt:k<x.th:=E9 c17;refine Ya ?_;show HQ _ _ _ _ _ _ _ _ _ _ _ _ ([(wq,Zw 98 3 (x.wk+d) (x.E++Ye d k)),(dc,Zw 75 7 (x.b.length+2) (c7M (pc x.b))),(en,Zw 89 2 8 (enA (bq st) 8))]++U);subst hde;refine Ue (M3,wq) ⟨J,J,J,J,J,?_,J,J,J,J,trivial⟩ J J;show slook _ _=some (Zn (max x.th (k+1)));rw [Nat.max_eq_left (by omega)];rfl
   ·skip
    refine Z2 (Zd (Za 2 [] [(57,Zn i),(58,vr)] [] ?_));refine Zu (v:=Zn raw.length) J (by obtain ⟨_,_,hI,_⟩:=hvr;cases hI<;>kernel_rfl) rfl ?_;refine Zu (v:=Zb false) J (U5 J J J (Gs h1)) J (Za 4 [] [(64,Zb false)] [] (Zg (Z6 J (Yz (Z8 (Z8 (Yi ?_)))))));show HQ _ _ _ _ _ _ _ _ _ _ _ _ ([(wp,Zw 98 3 x.wk x.E),(dc,Zw 75 7 (x.b.length+2) (c7M (pc x.b))),(en,Zw 89 2 8 (enA (bq st) 8))]++U);exact Ue ⟨i,M2,dc,wp,x,hx,by omega⟩ ⟨J,J,J,J,trivial⟩ J J
   ·skip
    refine Z2 (Zd (Za 2 [] [(57,Zn i),(58,vr)] [] ?_));refine Zu (v:=Zn raw.length) J (by obtain ⟨_,_,hI,_⟩:=hvr;cases hI<;>kernel_rfl) rfl ?_;refine Zu (v:=Zb true) J (U5 J J J (Ry h1)) J (Za 2 [] [(61,Zb true),(62,Zn i)] [] (Zu (v:=Zb false) J (U5 J J J (Gs (n:=30) (by omega))) J ?_));refine Za 1 [] [(64,Zb false)] [] (Zg (Z6 J (Yz (Z8 (Z8 (Yi ?_))))));show HQ _ _ _ _ _ _ _ _ _ _ _ _ ([(wp,Zw 98 3 x.wk x.E),(dc,Zw 75 7 (x.b.length+2) (c7M (pc x.b))),(en,Zw 89 2 8 (enA (bq st) 8))]++U);exact Ue ⟨i,M2,dc,wp,x,hx,by omega⟩ ⟨J,J,J,J,trivial⟩ J J
end
end S
end Go.Proofs.YtpofmnfkdkmieaaGreat
