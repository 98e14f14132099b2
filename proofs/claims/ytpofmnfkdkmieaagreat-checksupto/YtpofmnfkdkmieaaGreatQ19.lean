/- What is proved here: package shape's MustBeClass goes through -/
import Derived.Test.YtpofmnfkdkmieaaGreatQ18
import Derived.Test.YtpofmnfkdkmieaaGreatQ13
import Derived.Test.YtpofmnfkdkmieaaGreatQ03
import Derived.Tactics2
import Derived.Test.YtpofmnfkdkmieaaGreatQ10
import Derived.Test.YtpofmnfkdkmieaaGreatQ17
set_option linter.unusedVariables false
set_option linter.unusedSimpArgs false
namespace Go.Proofs.YtpofmnfkdkmieaaGreat
section
open Go.RowKit At E
def mesB (l:List Me):Bool:=decide ((l.length:Int)≤20)&&(List.range l.length).all (meAt l)
theorem mustBeMethods_any (v:Value) (l:List Me) (w:World) (hv:Mn w v l):Qj Tryz.prog 141 #[v] w (mesB l):=by
 obtain ⟨p,e,rfl,hl,hr1⟩:=hv.is;replace hr1:Hid _:=hr1;clear hv;refine Xf (args:=[.slice p l.length e]) Tryz.func141 J Tryz.ntmps141 ?_;refine Zg (Zb (Za J (Zd J) (Za J (Zx (ts J) J) (Za J (Xj J J) (Z7 X1 J J (fun w _=>Yr _ w) ?_ ?_)))))
 rotate_left
 ·intro o1;replace o1:=dFa o1;have hF:mesB l=false:=by (simp_all [mesB];omega)
  refine Zy (Ym ?_);exact hF
 intro o1;replace o1:=dTr o1;have hZ:decide ((l.length:Int)≤20)=true:=by simp_all
 refine Ze (Zc (Zg (Zb (Za J (Zd J) (Za J (Zx (ts J) J) (Za J (Zd J) (Ze (Zc (Zn ?_)))))))));refine Yf (Yg (X:=Nat) (fun i=>[(0,.slice p l.length e),(10,.slice p l.length e),(11,iN l.length),(12,iN i)]) _ _ (fun i=>[]) (fun i=>Asr.none) (fun i=>i≤l.length∧(List.range i).all (meAt l)=true) (fun i=>l.length - i) (0) (⟨Nat.zero_le _,J⟩) ?_) ⟨J,J,J,J,trivial⟩;intro i hI;refine Zg (Zb (Za J (Yi J J) (Ze (Zc (Zg (Zu J ?_ ?_))))))
 ·intro c1;have hi:i<l.length:=by omega
  obtain ⟨b,o,r,hp,hb,⟨pv,cv,hv,fv,hr,hmp⟩,hc⟩:=hr1.out i l[i] (List.getElem?_eq_getElem hi);obtain ⟨q1,g1,hq1, -, -⟩:=hmp.ps.is;obtain ⟨q2,g2,hq2, -, -⟩:=hmp.cs.is;obtain ⟨q3,g3,hq3, -, -⟩:=hmp.hs.is;obtain ⟨q4,g4,hq4, -, -⟩:=hmp.fs.is;subst hp;subst hr;subst hq1;subst hq2;subst hq3;subst hq4;refine Zo (Zc (Zg (Zn (Zg (Zb (Za J (Zd J) (Za J (Yo (ts J) J J ?_) ?_)))))))
  ·omega
  refine Za J (Yj (tn J) J (Xl hc hb) J) (Yk J (tz J) ?_);intro b0 hb0;refine Za J (Zf J) (Z2 (tn J) J J 0 J J J J (Ze (Zc (Zg (Zb (Za J (Zv (tn J) J 0 J J) (Z7 fn247 J J (fun w hs=>mustBeMethod_any _ _ _ _ _ w (hmp.mono (Xx hs))) ?_ ?_)))))))
  rotate_left
  ·intro o2;have hF:mesB l=false:=by unfold mesB;rw [Wb hi (by rw [Qr hi];simp_all)];simp
   refine Zy (Zy (Zy (Zy (Zy (Ym ?_)))));exact hF
  intro o2;have hmb:Yt l[i]=true:=by assumption
  refine Ze (Zc (Zg (Zb (Za J (Zd J) (Za J (Zd J) (Za J (U4 (ts J) J J ?_) ?_))))))
  ·omega
  refine Za J (Zx (ts J) J) (Za J (Zd J) (Ze (Zc (Zn ?_))));have hO:=hI;refine Yf (Yg (X:=Nat) (fun k=>[(0,.slice (some ⟨b,o,none⟩) l.length e),(3,pt b0),(10,.slice (some ⟨b,o,none⟩) l.length e),(11,iN l.length),(12,iN i),(21,.slice (some ⟨b,o,none⟩) i e),(22,iN i),(23,iN k)]) _ _ (fun k=>[(b0,meV l[i] (.slice q1 l[i].params.length g1) (.slice q2 l[i].code.length g2) (.slice q3 l[i].handlers.length g3) (.slice q4 l[i].frames.length g4))]) (fun k=>Asr.none) (fun k=>k≤i∧(List.range k).all (meNe l i)=true) (fun k=>i - k) (0) (⟨Nat.zero_le _,J⟩) ?_) ⟨J,J,J,J,J,J,J,J,trivial⟩;intro k hI;refine Zg (Zb (Za J (Yi J J) (Ze (Zc (Zg (Zu J ?_ ?_))))))
  ·intro c2;have hki:k<i:=by omega
   have hk:k<l.length:=by omega
   obtain ⟨b',o',r',hp',hb',⟨pv',cv',hv',fv',hr',hmp'⟩,hc'⟩:=hr1.out k l[k] (List.getElem?_eq_getElem hk);obtain ⟨u1,d1,hu1, -, -⟩:=hmp'.ps.is;obtain ⟨u2,d2,hu2, -, -⟩:=hmp'.cs.is;obtain ⟨u3,d3,hu3, -, -⟩:=hmp'.hs.is;obtain ⟨u4,d4,hu4, -, -⟩:=hmp'.fs.is;cases hp';subst hr';subst hu1;subst hu2;subst hu3;subst hu4;refine Zo (Zc (Zg (Zn (Zg (Zb (Za J (Yo (ts J) J J ?_) ?_))))))
   ·omega
   refine Za J (Yj (tn J) J (Xl hc' hb') J) (Yk J (tz J) ?_);intro b1 hb1;refine Z2 (tn J) J J 0 J J J J (Ze (Zc (Zb (Za J (Zv (tn J) J 0 J J) (Za J (Zv (tn J) J 1 J J) (Yq fn248 J J (fun w hs=>haveOne_any _ _ _ _ _ _ _ _ _ _ w (Yu.mono hmp'.ps (Xx hs)) (Yu.mono hmp.ps (Xx hs))) ?_))))));refine Za J (Xv J) (Z7 X1 J J (fun w _=>Yr _ w) ?_ ?_)
   rotate_left
   ·intro o3;have hF:mesB l=false:=by unfold mesB;rw [Wb hi (by rw [Qr hi,show meNew l i=false from Wb hki (by rw [meNe_some hi hk];assumption)];simp)];simp
    refine Zy (Zy (Zy (Zy (Zy (Zy (Zy (Zy (Ym ?_))))))));exact hF
   intro o3;have hY:(!Ph l[k] l[i])=true:=by assumption
   refine Ze (Zt (Zc (Zb ?_)));refine Za J (Yn J J ?_) ?_;omega;refine Za J (Zd J) (Ze ?_);refine Z1 (k+1) ?_ (⟨hki,Ud hI.2 (by rw [meNe_some hi hk];exact hY)⟩) 1 J (J) ⟨J,J,J,J,J,J,J,J,trivial⟩;omega
  ·intro c2;have hN:meNew l i=true:=Tl hI.1 (by omega) hI.2;have hA:meAt l i=true:=by rw [Qr hi,hN,hmb];rfl
   refine Yd (Yc (Z5 (Yb (Zt (Zc (Zb ?_))))));refine Za J (Yn J J ?_) ?_;omega;refine Za J (Zd J) (Ze ?_);refine Z1 (i+1) ?_ (⟨hi,Ud hO.2 hA⟩) 1 J (J) ⟨J,J,J,J,trivial⟩;omega
 ·intro c1;have hFd:=Tl hI.1 (by omega) hI.2;refine Yd (Yc (Z5 (Yb (Uf J ?_))));unfold mesB;rw [hZ,hFd];rfl
theorem isClassB_parts (c:Cl):Xm c=(X4 c.name&&X4 c.super&&fdsB c.fields&&mesB c.methods):=by
 unfold Xm fdsB mesB;generalize X4 c.name=b1;generalize X4 c.super=b2;generalize decide ((c.fields.length:Int)≤20)=b3;generalize decide ((c.methods.length:Int)≤20)=b4;generalize (List.range c.fields.length).all (fdAt c.fields)=b5;generalize (List.range c.methods.length).all (meAt c.methods)=b6;cases b1<;>cases b2<;>cases b3<;>cases b4<;>cases b5<;>cases b6<;>rfl
theorem Pc (c:Cl) (fv mv:Value) (w:World) (hc0:ClAt w c fv mv):Qj Tryz.prog 103 #[.agg (clV c fv mv).toArray] w (Xm c):=by
 rw [isClassB_parts];have hok:=hc0.ok;replace hc0:Hid _:=hc0;refine Xf (args:=[.agg (clV c fv mv).toArray]) Tryz.func103 J Tryz.ntmps103 ?_;refine Zg (Zb (Y2 J J ?_));intro b0 hb0;refine Ze (Zc (Zg (Zb (Za J (Zh (ff J) J) (Za J (Zj (t1 J) J (Zi 0 J J)) (Z7 fn139 J J (fun w _=>W6 _ w hok.1) ?_ ?_))))))
 rotate_left
 ·intro o1;refine Zy (Ym ?_);simp_all
 intro o1;refine Ze (Zc (Zg (Zb (Za J (Zh (ff J) J) (Za J (Zj (t1 J) J (Zi 0 J J)) (Z7 fn139 J J (fun w _=>W6 _ w hok.2) ?_ ?_))))))
 rotate_left
 ·intro o2;refine Zy (Ym ?_);simp_all
 intro o2;refine Ze (Zc (Zg (Zb (Za J (Zh (ff J) J) (Za J (Zj (t1 J) J (Zi 0 J J)) (Z7 fn140 J J (fun w hs=>mustBeFields_any _ c.fields w (FdsAt.mono hc0.out.fs (Xx hs))) ?_ ?_))))))
 rotate_left
 ·intro o3;refine Zy (Ym ?_);simp_all
 intro o3;refine Ze (Zc (Zb (Za J (Zh (ff J) J) (Za J (Zj (t1 J) J (Zi 0 J J)) (Z7 fn141 J J (fun w hs=>mustBeMethods_any _ c.methods w (Mn.mono hc0.out.ms (Xx hs))) ?_ ?_)))))
 rotate_left
 ·intro o4;refine Ym ?_;simp_all
 intro o4;refine Ze (Uf J ?_);simp_all
def fdL (f:Fld):List UInt8:=dl (Tt f.name)++dl (flagS f.stat)++dl (Vv f.ty)
def meL (m:Me):List UInt8:=dl (O3 m)
def clas4:ByteArray:=⟨#[67,76,65,83]⟩
def topL (c:Cl):List UInt8:=dl clas4++dl (Tt c.name)++dl (Tt c.super)++dl (W1 (c.fields.length:Nat) 1)
theorem dl_bytesS (c:Cl):dl (Oj c)=topL c++c.fields.flatMap fdL++dl (W1 (c.methods.length:Nat) 1)++c.methods.flatMap meL:=by
 unfold Oj fdsS;rw [M6 _ meL (fun s m=>Wn s _),Wn,M6 fdS fdL (fun s f=>by unfold fdS fdL;simp only [Wn,List.append_assoc])];unfold topS topL clas4;simp only [Wn,List.append_assoc]
theorem of_dl {s:ByteArray} {l:List UInt8} (h:l=dl s):(⟨l.toArray⟩:ByteArray)=s:=by subst h;cases s;simp [dl]
theorem Uz {α:Type} {p:α→Prop}:∀ x ∈ ([]:List α),p x:=fun _ h=>by cases h
set_option maxHeartbeats 1000000 in
theorem write_any (c:Cl) (fv mv:Value) (w:World) (hc0:ClAt w c fv mv):PureQ Tryz.prog 71 #[.agg (clV c fv mv).toArray] w (if Xm c=true then some (.string (Oj c)) else none):=by
 obtain ⟨p1,e1,rfl,hk1,hr1⟩:=hc0.fs.is;obtain ⟨p2,e2,rfl,hk2,hr2⟩:=hc0.ms.is;replace hr1:Hid _:=hr1;replace hr2:Hid _:=hr2;replace hc0:Hid _:=hc0;have hu:Below w.heap.size w w:=Below.refl _ w;refine Xf (args:=[.agg (clV c (.slice p1 c.fields.length e1) (.slice p2 c.methods.length e2)).toArray]) Tryz.func71 J Tryz.ntmps71 ?_;refine Zg (Zb (Y2 J J ?_));intro b0 hb0;refine Za J (Zf J) (Ze (Zc (Zg (Zb (Za J (Zv (tn J) J 0 J J) (Z7 fn103 J J (fun w hs=>Pc c _ _ w (hc0.out.mono (Xx hs))) ?_ ?_))))))
 rotate_left
 ·intro o1;refine Zy (PQ_dies ?_);rw [o1];rfl
 intro o1;have hS:=isClassB_small o1;have hl:(dl (Oj c)).length≤2000000:=by rw [Uq];have h9:=bytesTo_le hS c.methods.length;rw [List.take_length] at h9;exact h9
 rw [dl_bytesS] at hl;have hl':=hl;unfold topL at hl;simp only [List.length_append] at hl hl';refine Ze (Zc (Zg (Zb (Za J (Z8 (tb J) J J) (Y2 J J ?_)))));intro b1 hb1;refine Za J (Zf J) (Ze (Zc (Zg (Ni 5 1 (W9 (R':=wrA (.slice none 0 0) []) J (Zb (Za J (Zd J) ?_)))))));refine Y6 fn120 J J 0 J hu Uz (wrText_any w _ clas4) (by (try simp only [List.length_append,List.length_nil]);omega) ?_;intro v1;refine Ze (Zc (Zg (Zb (Za J (Zd J) (Za J (Zh (ff J) J) (Za J (Zj (t1 J) J (Zi 1 J J)) ?_))))));refine Y6 fn121 J J 0 J hu Uz (Us w _ c.name) (by (try simp only [List.length_append,List.length_nil]);omega) ?_;intro v2;refine Ze (Zc (Zg (Zb (Za J (Zd J) (Za J (Zh (ff J) J) (Za J (Zj (t1 J) J (Zi 1 J J)) ?_))))));refine Y6 fn121 J J 0 J hu Uz (Us w _ c.super) (by (try simp only [List.length_append,List.length_nil]);omega) ?_;intro v3;refine Ze (Zc (Zg (Zb (Za J (Zd J) (Za J (Zh (ff J) J) (Za J (Zj (t1 J) J (Zi 1 J J)) (Za J (Zx (ts J) J) ?_)))))));refine Y6 Mb J J 0 J hu Uz (Vz w _ (c.fields.length:Nat)) (by (try simp only [List.length_append,List.length_nil]);omega) ?_;intro v4;refine Ze (Zc (Zg (Zg (Zb (Za J (Zh (ff J) J) (Za J (Zj (t1 J) J (Zi 1 J J)) (Za J (Zx (ts J) J) (Za J (Zd J) (Ze (Zc (Zn ?_)))))))))));refine W9 (congrArg (wrA _) (show _=topL c++(c.fields.take 0).flatMap fdL from by unfold topL;simp only [List.nil_append,List.append_assoc,List.take_zero,List.flatMap_nil,List.append_nil])) ?_;refine Yf (Yg (X:=Nat × Value) (fun x:Nat × Value=>[(1,pt b0),(3,pt b1),(28,.slice p1 c.fields.length e1),(29,iN c.fields.length),(30,iN x.1)]) _ _ (fun x:Nat × Value=>[(b1,[x.2]),(b0,clV c (.slice p1 c.fields.length e1) (.slice p2 c.methods.length e2))]) (fun x:Nat × Value=>wrA x.2 (topL c++(c.fields.take x.1).flatMap fdL)) (fun x:Nat × Value=>x.1≤c.fields.length) (fun x:Nat × Value=>c.fields.length - x.1) ((0,v4)) (Nat.zero_le _) ?_) ⟨J,J,J,J,J,trivial⟩;intro x hI;refine Zg (Zb (Za J (Yi J J) (Ze (Zc (Zg (Zu J ?_ ?_))))))
 ·intro c1;have hx:x.1<c.fields.length:=by omega
  obtain ⟨b',o',r,hp,hb,⟨hr, -⟩,hc⟩:=hr1.out x.1 c.fields[x.1] (List.getElem?_eq_getElem hx);subst hp;subst hr;have hr:=Py fdL c.fields x.1 hx;unfold fdL at hr;simp only [List.length_append] at hr;refine Zo (Zc (Zg (Zn (Zg (Zb (Za J (Yo (ts J) J J ?_) ?_))))))
  ·omega
  refine Za J (Yj (tn J) J (U6 hu Uz hb hc) J) (Yk J (tz J) ?_);intro b2 hb2;refine Z2 (tn J) J J 0 J J J J (Ze (Zc (Zg (Zb (Za J (Zd J) (Za J (Zh (ff J) J) (Za J (Zj (t1 J) J (Zi 0 J J)) ?_)))))));refine Y6 fn121 J J 1 J hu Uz (Us w _ c.fields[x.1].name) (by unfold fdL at *;simp only [List.length_append];omega) ?_;intro v5;refine Ze (Zc (Zg (Zb (Za J (Zd J) (Za J (Zh (ff J) J) (Za J (Zj (t1 J) J (Zi 0 J J)) ?_))))));refine Y6 fn123 J J 1 J hu Uz (wrFlag_any w _ c.fields[x.1].stat) (by unfold fdL at *;simp only [List.length_append];omega) ?_;intro v6;refine Ze (Zc (Zb (Za J (Zd J) (Za J (Zh (ff J) J) (Za J (Zv (tn J) J 0 J J) ?_)))));refine Y6 fn124 J J 1 J hu Uz (Nj w _ c.fields[x.1].ty) (by unfold fdL at *;simp only [List.length_append];omega) ?_;intro v7;refine Ze (Zt (Zc (Zb ?_)));refine Za J (Yn J J ?_) ?_;omega;refine Za J (Zd J) (Ze ?_);refine Z1 ((x.1+1,v7)) ?_ (hx) 1 J (congrArg (wrA v7) (by rw [Pz fdL c.fields x.1 hx];unfold fdL;simp only [List.append_assoc])) ⟨rfl,rfl,rfl,rfl,rfl,trivial⟩;omega
 ·intro c1;refine Yd (Yc (Z5 (Yb (Zc (Zg (W9 (congrArg (wrA _) (show _=topL c++c.fields.flatMap fdL from by rw [Md fdL c.fields x.1 (by omega)])) ?_))))));refine Zb (Za J (Zd J) (Za J (Zh (ff J) J) (Za J (Zj (t1 J) J (Zi 1 J J)) (Za J (Zx (ts J) J) ?_))));refine Y6 Mb J J 0 J hu Uz (Vz w _ (c.methods.length:Nat)) (by (try simp only [List.length_append,List.length_nil]);omega) ?_;intro v8;refine Ze (Zc (Zg (Zg (Zb (Za J (Zh (ff J) J) (Za J (Zj (t1 J) J (Zi 1 J J)) (Za J (Zx (ts J) J) (Za J (Zd J) (Ze (Zc (Zn (W9 (congrArg (wrA _) (show _=topL c++c.fields.flatMap fdL++dl (W1 (c.methods.length:Nat) 1)++(c.methods.take 0).flatMap meL from by simp only [List.take_zero,List.flatMap_nil,List.append_nil])) ?_))))))))))));refine Yf (Yg (X:=Nat × Value) (fun y:Nat × Value=>[(1,pt b0),(3,pt b1),(53,.slice p2 c.methods.length e2),(54,iN c.methods.length),(55,iN y.1)]) _ _ (fun y:Nat × Value=>[(b1,[y.2]),(b0,clV c (.slice p1 c.fields.length e1) (.slice p2 c.methods.length e2))]) (fun y:Nat × Value=>wrA y.2 (topL c++c.fields.flatMap fdL++dl (W1 (c.methods.length:Nat) 1)++(c.methods.take y.1).flatMap meL)) (fun y:Nat × Value=>y.1≤c.methods.length) (fun y:Nat × Value=>c.methods.length - y.1) ((0,v8)) (Nat.zero_le _) ?_) ⟨J,J,J,J,J,trivial⟩;intro y hI;refine Zg (Zb (Za J (Yi J J) (Ze (Zc (Zg (Zu J ?_ ?_))))))
  ·intro c2;have hy:y.1<c.methods.length:=by omega
   obtain ⟨b',o',r,hp,hb,⟨pv,cv,hv,gv,hr,hmp⟩,hc⟩:=hr2.out y.1 c.methods[y.1] (List.getElem?_eq_getElem hy);obtain ⟨q1,g1,hq1, -, -⟩:=hmp.ps.is;obtain ⟨q2,g2,hq2, -, -⟩:=hmp.cs.is;obtain ⟨q3,g3,hq3, -, -⟩:=hmp.hs.is;obtain ⟨q4,g4,hq4, -, -⟩:=hmp.fs.is;subst hp;subst hr;subst hq1;subst hq2;subst hq3;subst hq4;refine Zo (Zc (Zg (Zn (Zg (Zb (Za J (Yo (ts J) J J ?_) ?_))))))
   ·omega
   refine Za J (Yj (tn J) J (U6 hu Uz hb hc) J) (Yk J (tz J) ?_);intro b2 hb2;refine Z2 (tn J) J J 0 J J J J (Ze (Zc (Zb (Za J (Zd J) (Za J (Zv (tn J) J 0 J J) ?_)))));refine Y6 fn125 J J 1 J hu Uz (wrMethod_any w _ c.methods[y.1] _ _ _ _ hmp) (by have hr:=Py meL c.methods y.1 hy;unfold meL at *;simp only [List.length_append];omega) ?_;intro v9;refine Ze (Zt (Zc (Zb ?_)));refine Za J (Yn J J ?_) ?_;omega;refine Za J (Zd J) (Ze ?_);refine Z1 ((y.1+1,v9)) ?_ (hy) 1 J (congrArg (wrA v9) (by rw [Pz meL c.methods y.1 hy,← List.append_assoc];rfl)) ⟨rfl,rfl,rfl,rfl,rfl,trivial⟩;omega
  ·intro c2;refine Yd (Yc (Z5 (Yb (Zc (Zg (Zb (Za J (Zd J) (Za J (Zw J) (Za J (Zh (ff J) J) (Za J (Zj (t1 J) J (Zi 0 J J)) (Za J (Ex_bytes (ta J).sl (Sj J) (Sk J) J J) (Za J (Zf J) (Ze (Zc (Zr (PQ_end1 J J ?_))))))))))))))));rw [if_pos o1];refine congrArg (fun s=>some (Value.string s)) (of_dl ?_).symm;rw [dl_bytesS,Md meL c.methods y.1 (by omega)]
end
section
open Go Go.RowKit At E
set_option maxRecDepth 4000
theorem catchstring_panicking (p:Addr) (x:Value) (u:TypeId) (pv:Value) (w:World) (hc:w.cell? p=some x) (hz:w.frozen? p=false) :
  CallsD Tryz.prog 119 #[.pointer (some p)] (.panicking ({ v:=.iface u pv,recovered:=false }::[])) w fun e u' w' =>
   e=.returned (.tuple #[])∧u'=.panicking ({ v:=.iface u pv,recovered:=true }::[])∧w'=w.setCell p (.iface u pv):=by
 refine callsD_of_wpS Tryz.func119 J fun c₀ cs hu=>?_;apply wpS_region;simp [wpOpsS,go_sem,recoverD,hu,Tryz.ntmps119,hc,hz,bodyPostS,results,Tryz.results119]
theorem catchstring_idle (p:Addr) (x:Value) (w:World) (hc:w.cell? p=some x) (hz:w.frozen? p=false) :
  CallsD Tryz.prog 119 #[.pointer (some p)] .returning w fun e u' w'=>e=.returned (.tuple #[])∧u'=.returning∧w'=w.setCell p .nilIface:=by
 refine callsD_of_wpS Tryz.func119 J fun c₀ cs hu=>?_;apply wpS_region;simp [wpOpsS,go_sem,recoverD,hu,Tryz.ntmps119,hc,hz,bodyPostS,results,Tryz.results119];cases c₀;simp_all
theorem catchClass_panicking (p:Addr) (x:Value) (u:TypeId) (pv:Value) (w:World) (hc:w.cell? p=some x) (hz:w.frozen? p=false) :
  CallsD Tryz.prog 110 #[.pointer (some p)] (.panicking ({ v:=.iface u pv,recovered:=false }::[])) w fun e u' w' =>
   e=.returned (.tuple #[])∧u'=.panicking ({ v:=.iface u pv,recovered:=true }::[])∧w'=w.setCell p (.iface u pv):=by
 refine callsD_of_wpS Tryz.func110 J fun c₀ cs hu=>?_;apply wpS_region;simp [wpOpsS,go_sem,recoverD,hu,Tryz.ntmps110,hc,hz,bodyPostS,results,Tryz.results110]
theorem catchClass_idle (p:Addr) (x:Value) (w:World) (hc:w.cell? p=some x) (hz:w.frozen? p=false) :
  CallsD Tryz.prog 110 #[.pointer (some p)] .returning w fun e u' w'=>e=.returned (.tuple #[])∧u'=.returning∧w'=w.setCell p .nilIface:=by
 refine callsD_of_wpS Tryz.func110 J fun c₀ cs hu=>?_;apply wpS_region;simp [wpOpsS,go_sem,recoverD,hu,Tryz.ntmps110,hc,hz,bodyPostS,results,Tryz.results110];cases c₀;simp_all
def Ot:Value:=.iface 48 (.int .i64 1)
def Oi (zero:Value) (ok:Value→Asr→Prop) (may:Prop):Value→Asr→Prop:=fun v R'=>(∃ x,ok x R'∧v=.tuple #[x,.nilIface])∨(may∧R'=Asr.none∧v=.tuple #[zero,Ot])
theorem t1any:T1 Tryz.prog 20:=fun w=>⟨by kernel_rfl,by kernel_rfl⟩
theorem tzany:TZ Tryz.prog 20 [.nilIface]:=fun w=>by kernel_rfl
theorem caughtString_any (g:Nat) (cap:Value) (w:World) (ok:Value→Asr→Prop) (may:Prop) (hgf:IsFn Tryz.prog g) (hg:∀ w',Below w.heap.size w w'→FnP Tryz.prog g #[cap] w' ok may) :
  FnP Tryz.prog 69 #[.func (.func g) #[] #[cap]] w (Oi (.string ⟨#[]⟩) ok may) False:=by
 refine calls_of_wp_defers Tryz.func69 J ?_;rw [Tryz.ntmps69]
 have ha0:AgD [] 7 { tmps:=#[.func (.func g) #[] #[cap]]++Array.replicate (7 - 1) undef,defers:=[] } [(0,.func (.func g) #[] #[cap])]:=by
  refine ⟨⟨by simp,J,fun i v hv=>?_⟩,J⟩;have h1:=look_mem hv;simp only [List.mem_singleton,Prod.mk.injEq] at h1;obtain ⟨rfl,rfl⟩:=h1;simp
 refine wp_seq (wp_region_lit ?_);refine WLD.go (F:=[]) (H:=[]) (R:=Asr.none) ?_ w (Sat.first w []) _ ha0;refine Nh J (Zf J) (WLD_alloc J tzany fun b hb=>?_);refine Po fun w1 hs1 a1 ha1=>?_;refine wp_seq (wp_region_lit ?_);refine WLD.go ?_ w1 hs1 _ ha1;refine Nh (v:=.func (.func 119) #[] #[pt b]) J ?_ ?_
 ·exact ⟨fun w _ a ha _ _ _ _ _=>by simp only [execOp];simp [ha.eval (x:=.tmp 3) rfl,Instr.makeFunc]⟩
 refine WLD_defer J (Po fun w2 hs2 a2 ha2=>?_);refine wp_seq (wp_region_lit ?_);refine WLD.go ?_ w2 hs2 _ ha2;refine Nh J (Zd J) (WLD_call hgf J J (fun w' hs=>hg w' (Xx hs)) ?_ ?_)
 ·intro hm w3 hs3 a3 ha3;show Leaves _ _ a3.tmps _ a3.defers (.panicking Ou) w3;rw [ha3.no];have hc:=hs3.cell1 (i:=0) rfl;refine leaves_cons (f:=119) (args:=#[pt b]) (by simp) (by simp [invoke,callFunc,Tryz.func119];rfl) ?_;refine (catchstring_panicking ⟨b,0,none⟩ _ _ _ w3 hc.1 hc.2).mono ?_;rintro e u' w4 ⟨rfl,rfl,rfl⟩;have hs4:=hs3.set1 (i:=0) (v:=Ot) rfl;refine ⟨.tuple #[.string ⟨#[]⟩,Ot],Qo J (ha3.ag.eval (x:=.tmp 2) J) ⟨⟨b,0,none⟩,ha3.ag.eval (x:=.tmp 3) J,?_⟩,.inl ⟨_,Asr.none,J,.inr ⟨hm,J,J⟩,hs4.bare⟩⟩;have h1:=(t1any (w3.setCell ⟨b,0,none⟩ Ot)).1;have h2:=(hs4.cell1 (i:=0) rfl).1;simp only [Ot] at h1 h2 ⊢;simp [loadVar,h1,h2]
 ·intro v R' hok;refine Nh J (Zf J) (WLD_store (vs:=[.nilIface]) (fun w=>(t1any w).2) J J J J J 0 J J ?_);refine Po fun w3 hs3 a3 ha3=>?_;refine wp_ret ?_;show Leaves _ _ a3.tmps _ a3.defers .returning w3;rw [ha3.no];have hc:=hs3.cell1 (i:=0) (old:=.nilIface) rfl;refine leaves_cons (f:=119) (args:=#[pt b]) (by simp) (by simp [invoke,callFunc,Tryz.func119];rfl) ?_;refine (catchstring_idle ⟨b,0,none⟩ _ w3 hc.1 hc.2).mono ?_;rintro e u' w4 ⟨rfl,rfl,rfl⟩;have hs4:=hs3.set1 (i:=0) (old:=.nilIface) (v:=.nilIface) rfl;refine ⟨.tuple #[v,.nilIface],Qo J (ha3.ag.eval (x:=.tmp 2) J) ⟨⟨b,0,none⟩,ha3.ag.eval (x:=.tmp 3) J,?_⟩,.inl ⟨_,R',J,.inl ⟨v,hok,J⟩,(hs4.leads (Asr.fst R' Asr.none)).bare⟩⟩;have h1:=(t1any (w3.setCell ⟨b,0,none⟩ .nilIface)).1;have h2:=(hs4.cell1 (i:=0) (old:=.nilIface) rfl).1;simp [loadVar,h1,h2]
def P3:List Value:=[.string ⟨#[]⟩,.string ⟨#[]⟩,.slice none 0 0,.slice none 0 0]
theorem caughtClass_any (g:Nat) (cap:Value) (w:World) (ok:Value→Asr→Prop) (may:Prop) (hgf:IsFn Tryz.prog g) (hg:∀ w',Below w.heap.size w w'→FnP Tryz.prog g #[cap] w' ok may)
  (hok4:∀ v R',ok v R'→∃ vs:List Value,v=.agg vs.toArray∧vs.length=4∧vs.all (·.oneCell')=true) :
  FnP Tryz.prog 66 #[.func (.func g) #[] #[cap]] w (Oi (.agg P3.toArray) ok may) False:=by
 refine calls_of_wp_defers Tryz.func66 J ?_;rw [Tryz.ntmps66]
 have ha0:AgD [] 7 { tmps:=#[.func (.func g) #[] #[cap]]++Array.replicate (7 - 1) undef,defers:=[] } [(0,.func (.func g) #[] #[cap])]:=by
  refine ⟨⟨by simp,J,fun i v hv=>?_⟩,J⟩;have h1:=look_mem hv;simp only [List.mem_singleton,Prod.mk.injEq] at h1;obtain ⟨rfl,rfl⟩:=h1;simp
 have htn:TN Tryz.prog 25 4:=tn rfl;refine wp_seq (wp_region_lit ?_);refine WLD.go (F:=[]) (H:=[]) (R:=Asr.none) ?_ w (Sat.first w []) _ ha0;refine WLD_alloc (cs:=P3) J (tz J) fun b0 hb0=>?_;refine WLD_alloc J tzany fun b hb=>?_;refine Po fun w1 hs1 a1 ha1=>?_;refine wp_seq (wp_region_lit ?_);refine WLD.go ?_ w1 hs1 _ ha1;refine Nh (v:=.func (.func 110) #[] #[pt b]) J ?_ ?_
 ·exact ⟨fun w _ a ha _ _ _ _ _=>by simp only [execOp];simp [ha.eval (x:=.tmp 3) rfl,Instr.makeFunc]⟩
 refine WLD_defer J (Po fun w2 hs2 a2 ha2=>?_);refine wp_seq (wp_region_lit ?_);refine WLD.go ?_ w2 hs2 _ ha2;refine Nh J (Zd J) (WLD_call hgf J J (fun w' hs=>hg w' (Xx hs)) ?_ ?_)
 ·intro hm w3 hs3 a3 ha3;show Leaves _ _ a3.tmps _ a3.defers (.panicking Ou) w3;rw [ha3.no];have hc:=hs3.cell1 (i:=0) rfl;refine leaves_cons (f:=110) (args:=#[pt b]) (by simp) (by simp [invoke,callFunc,Tryz.func110];rfl) ?_;refine (catchClass_panicking ⟨b,0,none⟩ _ _ _ w3 hc.1 hc.2).mono ?_;rintro e u' w4 ⟨rfl,rfl,rfl⟩;have hs4:=hs3.set1 (i:=0) (v:=Ot) rfl;have hrow:RV Tryz.prog 7 [(2,pt b0)] w [] [(b,[Ot]),(b0,P3)] Asr.none (.cell 2 25) (.agg P3.toArray):=Wf htn (b:=b0) (o:=0) (vs:=P3) rfl (Yl 1 rfl) rfl;refine ⟨.tuple #[.agg P3.toArray,Ot],Qo J (hrow.go _ hs4 { a3 with defers:=[] } (ha3.ag.sub (E':=[(2,pt b0)]) ⟨J,trivial⟩)) ⟨⟨b,0,none⟩,ha3.ag.eval (x:=.tmp 3) J,?_⟩,.inl ⟨_,Asr.none,J,.inr ⟨hm,J,J⟩,hs4.bare⟩⟩;have h1:=(t1any (w3.setCell ⟨b,0,none⟩ Ot)).1;have h2:=(hs4.cell1 (i:=0) rfl).1;simp only [Ot] at h1 h2 ⊢;simp [loadVar,h1,h2]
 ·intro v R' hok;obtain ⟨vs,rfl,hvl,hv1⟩:=hok4 v R' hok;refine WLD_store (vs:=vs) (fun w=>(htn w).2) J J J hvl hv1 1 J (by rw [hvl];rfl) ?_;have hput:put P3 0 vs=vs:=by unfold put;rw [hvl];show []++vs++[]=vs;simp
  rw [show (List.set [(b,[Value.nilIface]),(b0,P3)] 1 (b0,put P3 0 vs))=[(b,[Value.nilIface]),(b0,vs)] by rw [hput];rfl];refine WLD_store (vs:=[.nilIface]) (fun w=>(t1any w).2) J J J J J 0 J J ?_;refine Po fun w3 hs3 a3 ha3=>?_;refine wp_ret ?_;show Leaves _ _ a3.tmps _ a3.defers .returning w3;rw [ha3.no];have hc:=hs3.cell1 (i:=0) (old:=.nilIface) rfl;refine leaves_cons (f:=110) (args:=#[pt b]) (by simp) (by simp [invoke,callFunc,Tryz.func110];rfl) ?_;refine (catchClass_idle ⟨b,0,none⟩ _ w3 hc.1 hc.2).mono ?_;rintro e u' w4 ⟨rfl,rfl,rfl⟩;have hs4:=hs3.set1 (i:=0) (old:=.nilIface) (v:=.nilIface) rfl;have hrow:RV Tryz.prog 7 [(2,pt b0)] w [] [(b,[Value.nilIface]),(b0,vs)] (R'.and Asr.none) (.cell 2 25) (.agg vs.toArray):=Wf htn (b:=b0) (o:=0) (vs:=vs) rfl (Yl 1 rfl) hvl;refine ⟨.tuple #[.agg vs.toArray,.nilIface],Qo J (hrow.go _ hs4 { a3 with defers:=[] } (ha3.ag.sub (E':=[(2,pt b0)]) ⟨J,trivial⟩)) ⟨⟨b,0,none⟩,ha3.ag.eval (x:=.tmp 3) J,?_⟩,.inl ⟨_,R',J,.inl ⟨_,hok,J⟩,(hs4.leads (Asr.fst R' Asr.none)).bare⟩⟩;have h1:=(t1any (w3.setCell ⟨b,0,none⟩ .nilIface)).1;have h2:=(hs4.cell1 (i:=0) (old:=.nilIface) rfl).1;simp [loadVar,h1,h2]
end
section
open Go.RowKit At E
def decOk (o:Option Cl):Value→Asr→Prop:=fun v R' =>
 (∃ c k,o=some c∧v=.tuple #[.agg (clV c k.fv k.mv).toArray,.int .i64 0]∧R'.Imp (clA c k)∧ClFit c k)∨(o=none∧v=.tuple #[.agg P3.toArray,.int .i64 1])
def clH (nm sp:ByteArray) (fv mv:Value):List Value:=[.string nm,.string sp,fv,mv]
end
section
open Go Go.RowKit At E
section
variable {n:Nat} {E:Env} {w0:World} {F:List Nat} {H:Hp} {R:Asr}
theorem Ex_isNil {x:Operand} (hx:ev E x=some .nilIface):Ex Tryz.prog n E w0 F H R (.binOp .eql 20 x (.const .nilIface) 20) (.bool true):=⟨fun w _ a ha _ _ _ _ _=>by
 simp only [execOp];rw [ha.eval hx,show a.eval (.const Value.nilIface)=.nilIface from rfl,eqGuard_nil_constR];kernel_rfl⟩
theorem Ex_isErr {x:Operand} (hx:ev E x=some Ot):Ex Tryz.prog n E w0 F H R (.binOp .eql 20 x (.const .nilIface) 20) (.bool false):=⟨fun w _ a ha _ _ _ _ _=>by
 simp only [execOp];rw [ha.eval hx,show a.eval (.const Value.nilIface)=.nilIface from rfl];kernel_rfl⟩
theorem Ex_noWrong {x:Operand} (hx:ev E x=some Ot):Ex Tryz.prog n E w0 F H R (.typeAssert x 20 143 true) (.tuple #[.agg #[.int .i64 0,.int .i64 0],.bool false]):=⟨fun w _ a ha _ _ _ _ _=>by
 simp only [execOp];rw [ha.eval hx];kernel_rfl⟩
end
theorem toldNil_any (w:World):Vc Tryz.prog 59 #[.nilIface] w (.tuple #[.agg #[.int .i64 0,.int .i64 0],.int .i64 0]):=by
 refine Xf (args:=[.nilIface]) Tryz.func59 J Tryz.ntmps59 ?_;refine Zg (Zb (Yk J (tz J) ?_));intro b0 hb0;refine Za J (Zf J) (Ze (Zc (Zg (Zg (Zb (Za J (Zd J) (Ze (Zc (Zn (Zg (Zb (Za J (Ex_isNil J) (Ze (Zc (W4 J ?_ ?_)))))))))))))))
 ·intro c1;refine Zg (Zb (Za J (Zf J) (Ze (Zc (Zg (Zb (Za J (Z8 (tb J) J J) (Z2 (tn J) J J 0 J J J J (Za J (Zf J) (Ze (Zc (Zr (Zl (Zl (P_endR (Res_2 J (Wf (tn J) J (Yl 0 J) J) (X9 J)) ?_)))))))))))))));rfl
 ·intro c1;cases c1
theorem toldErr_any (w:World):Vc Tryz.prog 59 #[Ot] w (.tuple #[.agg #[.int .i64 0,.int .i64 0],.int .i64 1]):=by
 refine Xf (args:=[Ot]) Tryz.func59 J Tryz.ntmps59 ?_;refine Zg (Zb (Yk J (tz J) ?_));intro b0 hb0;refine Za J (Zf J) (Ze (Zc (Zg (Zg (Zb (Za J (Zd J) (Ze (Zc (Zn (Zg (Zb (Za J (Ex_isErr J) (Ze (Zc (W4 J ?_ ?_)))))))))))))))
 ·intro c1;cases c1
 ·intro c1;refine Zg (Zb (Za J (Ex_noWrong J) (Za J (X3 J J) (Za J (X3 J J) (Ze (Zc (W4 J ?_ ?_)))))))
  ·intro c2;cases c2
  ·intro c2;refine Zo (Zt (Zc (Zg (Zb (Za J (Z8 (tb J) J J) (Z2 (tn J) J J 0 J J J J (Za J (Zf J) (Ze (Zc (Zr (P_endR (Res_2 J (Wf (tn J) J (Yl 0 J) J) (X9 J)) ?_)))))))))));rfl
theorem encode1_any (c:Cl) (fv mv:Value) (b:Nat) (u w:World) (hc0:ClAt u c fv mv) (hu:Below u.heap.size u w) (hb:∀ j v,(clV c fv mv)[j]?=some v→w.cell? ⟨b,j,none⟩=some v) (hlt:b<w.heap.size) :
  PureQ Tryz.prog 70 #[pt b] w (if Xm c=true then some (.string (Oj c)) else none):=by
 refine Xf (args:=[pt b]) Tryz.func70 J Tryz.ntmps70 ?_;refine Zg (Zb (Za J (Zf J) (Ze (Zc (Zg (Zb ?_))))));refine Za J (Yj (tn J) J (Xl (o:=0) (vs:=clV c fv mv) (fun j v hj=>by rw [Nat.zero_add];exact hb j v hj) hlt) J) ?_;refine WL_callQ fn71 J J (fun w' hs=>write_any c fv mv w' (hc0.mono (below_then hu (Xx hs)))) (fun hn=>Zy (PQ_dies hn)) ?_;intro v hv;refine Za J (Zf J) (Ze (Zc (Zr ?_)));refine PQ_end1 J J hv
def encO (c:Cl):Option Value:=if Xm c=true then some (.string (Oj c)) else none
theorem S0 {w0 w:World} {F:List Nat} {H:Hp} {R:Asr} (hs:Sat w0 F H R w) {i b:Nat} {cs:List Value} (hp:H[i]?=some (b,cs)):(∀ j v,cs[j]?=some v→w.cell? ⟨b,j,none⟩=some v)∧b<w.heap.size :=
 ⟨fun j v hj=>by rw [hs.mine (List.mem_of_getElem? hp)];exact hj,hs.lt (List.mem_of_getElem? hp)⟩
theorem encCaught_any (c:Cl) (fv mv:Value) (b:Nat) (u w:World) (hc0:ClAt u c fv mv) (hu:Below u.heap.size u w) (hb:(∀ j v,(clV c fv mv)[j]?=some v→w.cell? ⟨b,j,none⟩=some v)∧b<w.heap.size) :
  FnP Tryz.prog 69 #[.func (.func 70) #[] #[pt b]] w (Oi (.string ⟨#[]⟩) (fun v R'=>encO c=some v∧R'=Asr.none) (encO c=none)) False :=
 caughtString_any 70 _ w _ _ fn70 fun w2 hb2=>FnP.of_Q (encode1_any c fv mv b u w2 hc0 (below_then hu hb2) (fun j v hj=>by rw [hb2.cell (p:=⟨b,j,none⟩) hb.2];exact hb.1 j v hj) (Nat.lt_of_lt_of_le hb.2 hb2.size))
theorem encO_some {c:Cl} {v:Value} (h:encO c=some v):Xm c=true∧v=.string (Oj c):=by
 unfold encO at h;split at h
 ·cases h;exact ⟨by assumption,J⟩
 ·cases h
theorem encO_none {c:Cl} (h:encO c=none):Xm c=false:=by
 unfold encO at h;split at h
 ·cases h
 ·simpa using (by assumption:¬ Xm c=true)
theorem told_any (y:Value) (k:Int) (w:World) (hy:(y=.nilIface∧k=0)∨(y=Ot∧k=1)):Vc Tryz.prog 59 #[y] w (.tuple #[.agg #[.int .i64 0,.int .i64 0],.int .i64 k]):=by
 rcases hy with ⟨rfl,rfl⟩ | ⟨rfl,rfl⟩
 ·exact toldNil_any w
 ·exact toldErr_any w
theorem enc_know {c:Cl} {v:Value} {R':Asr} (h:Oi (.string ⟨#[]⟩) (fun v R'=>encO c=some v∧R'=Asr.none) (encO c=none) v R') :
  ∃ (x:ByteArray) (y:Value) (k:Int),v=.tuple #[.string x,y]∧x=(if Xm c then Oj c else ⟨#[]⟩)∧k=(if Xm c then 0 else 1)∧((y=.nilIface∧k=0)∨(y=Ot∧k=1)):=by
 rcases h with ⟨x,⟨hx, -⟩,rfl⟩ | ⟨hx, -,rfl⟩
 ·obtain ⟨h1,rfl⟩:=encO_some hx;exact ⟨_,_,0,J,by rw [h1];rfl,by rw [h1];rfl,.inl ⟨rfl,rfl⟩⟩
 ·have h1:=encO_none hx;exact ⟨_,_,1,J,by rw [h1];rfl,by rw [h1];rfl,.inr ⟨rfl,rfl⟩⟩
theorem encode_any (c:Cl) (fv mv:Value) (w:World) (hc0:ClAt w c fv mv) :
  Vc Tryz.prog 26 #[.agg (clV c fv mv).toArray] w (.tuple #[.string (if Xm c then Oj c else ⟨#[]⟩),.int .i64 (if Xm c then 0 else 1)]):=by
 obtain ⟨p1,e1,rfl, -, -⟩:=hc0.fs.is;obtain ⟨p2,e2,rfl, -, -⟩:=hc0.ms.is;refine Xf (args:=[.agg (clV c (.slice p1 c.fields.length e1) (.slice p2 c.methods.length e2)).toArray]) Tryz.func26 J Tryz.ntmps26 ?_;refine Zg (Zb (Y2 J J ?_));intro b0 hb0;refine Za J (Zf J) (Za J (Zf J) (Ze (Zc (Zg (Zb (Za J (Ex_cap J) (X8 fn69 J J (fun w' hs=>encCaught_any c _ _ b0 w w' hc0 (Xx hs) (S0 hs (i:=0) J)) (fun h=>h.elim) ?_)))))));intro v R' hv;refine Xc (p:=∃ (x:ByteArray) (y:Value) (k:Int),v=.tuple #[.string x,y]∧x=(if Xm c then Oj c else ⟨#[]⟩)∧k=(if Xm c then 0 else 1)∧((y=.nilIface∧k=0)∨(y=Ot∧k=1))) (fun _ _=>enc_know hv) ?_;rintro ⟨x,y,k,rfl,hx,hk,hy⟩;refine Za J (Zd J) (Za J (X3 J J) (Za J (X3 J J) (Za J (Zf J) (Za J (Zf J) (Ze (Zc (Zg (Zb (Za J (Zd J) (Yq fn59 J J (fun w' _=>told_any y k w' hy) ?_))))))))));refine Za J (Zd J) (Za J (X3 J J) (Za J (X3 J J) (Yk J (tz J) ?_)));intro b1 hb1;refine Z2 (tn J) J J 0 J J J J (Za J (Zf J) (Ze (Zc (Zg (Zb (Za J (Zd J) (Za J (Zd J) (Za J (Zf J) (Za J (Zf J) (Ze (Zc (Zr (Wy J J J ?_)))))))))))));rw [hx,hk];rfl
end
section
open Go.RowKit At E
theorem Lj {P:Program} {n:Nat} {E:Env} {w:World} {fn:Func} {ok:Value→Asr→Prop} {may:Prop} (h:may):WD P n E w fn (FnZ w ok may) [] :=
 ⟨fun _ hb _ ha=>⟨ha.no,.inr ⟨h,rfl,hb⟩⟩⟩
def readOk (o:Option Cl):Value→Asr→Prop:=fun v R'=>∃ c k,o=some c∧v=.agg (clV c k.fv k.mv).toArray∧R'.Imp (clA c k)∧ClFit c k
theorem read_short {r:List UInt8} (h:pTake 4 r=none):Rc (M8 false true r)=none:=by
 have h4:¬ 4≤r.length:=by
  intro h9;rw [pTake_ok h9] at h;cases h
 unfold M8;rw [if_neg];rfl;intro e;have:=congrArg List.length e;rw [List.length_take] at this;simp only [clas,List.length_cons,List.length_nil] at this;omega
theorem read_front {r:List UInt8} (h:¬ r.take 4=clas):Rc (M8 false true r)=none:=by unfold M8;rw [if_neg h];rfl
theorem read_no {r:List UInt8} (hcl:r.take 4=clas) (h:pCl false true (r.drop 4)=none):Rc (M8 false true r)=none:=by
 unfold M8;rw [if_pos hcl,h];rfl
theorem read_all {r r':List UInt8} {c:Cl} (hcl:r.take 4=clas) (h:pCl false true (r.drop 4)=some (c,r')):M8 false true r=if r'=[] then some c else none:=by
 unfold M8;rw [if_pos hcl,h]
set_option maxHeartbeats 2000000 in
theorem read_any (r:List UInt8) (w:World) (hr:r.length≤4000000):FnP Tryz.prog 68 #[.string ⟨r.toArray⟩] w (readOk (Rc (M8 false true r))) (Rc (M8 false true r)=none):=by
 have hu:Below w.heap.size w w:=Below.refl _ w;refine Xf (args:=[.string ⟨r.toArray⟩]) Tryz.func68 J Tryz.ntmps68 ?_;refine Zg (Zb (Yk J (tz J) ?_));intro b0 hb0;refine Ze (Zc (Zg (Zb (Za J (Zd J) (Za J (Z8 (tb J) J J) (Y2 J J ?_))))));intro b1 hb1;refine Za J (Zf J) (Ze (Zc (Zg (Zb (Za J (Zd J) ?_)))));refine Y9 fn112 J J 0 J hu Uz (rdTake_any w b1 4 r hr) (fun hm=>Yv (Lj (read_short hm))) ?_;rintro v cs' ⟨R',l,r1,hp,rfl,hr1,rfl, -⟩;obtain ⟨hl1,hl2, -⟩:=pTake_some hp;refine Za J (Y7 J J) (Z7 X1 J J (fun w _=>Yr _ w) ?_ ?_)
 rotate_left
 ·intro o1;replace o1:=dFa o1;have hdead:Rc (M8 false true r)=none:=read_front (fun h=>by rw [hl1,h] at o1;exact absurd J o1);refine Zy (Fn_dies ?_);exact hdead
 intro o1;replace o1:=dTr o1;have hcl:r.take 4=clas:=by rw [← hl1];have h9:=congrArg (fun b:ByteArray=>b.data.toList) o1;unfold clas;simpa using h9
 subst hl2;have hS:=Ux.first (some (r.drop 4)) (pCl false true)
 refine Ze (Zc (Zg (Zb (Za J (Zd J) (Y9 fn113 J J 0 J hu Uz (Ut w b1 (r.drop 4) (by omega)) (fun hm=>Yv (Lj (read_no hcl (Vb hS hm)))) ?_)))));rintro v cs' ⟨R',nm,r2,hp,rfl,hr2,rfl,hnm, -⟩;replace hS:=X0 hS hp;refine Za J (Zd J) (Y9 fn113 J J 0 J hu Uz (Ut w b1 r2 (by omega)) (fun hm=>Yv (Lj (read_no hcl (Vb hS hm)))) ?_);rintro v cs' ⟨R',sp,r3,hp,rfl,hr3,rfl,hsp, -⟩;replace hS:=X0 hS hp;refine Za J (Zd J) ?_;refine Y9 fn115 J J 0 J hu Uz (Tq w b1 r3 (by omega)) (fun hm=>Yv (Lj (read_no hcl (rd_nno hS hm)))) ?_;rintro v cs' ⟨R',n,r4,hp0,rfl,hr4,rfl,hn, -⟩;rw [Sx (show n<9223372036854775808 by omega)];refine Za J (Zd J) (Za J (Ex_func J) ?_);refine Ss fn114 J J 0 J hu Uz (rdListField_any w b1 n 20 (by omega) (rdField_any w b1) r4 (by omega)) (fun hm=>Yv (Lj (read_no hcl (rd_lno hS hp0 hm)))) ?_;rintro fv cs' R' ⟨fd,r5,hp,rfl,hr5,fl,hfl,hR,hfll,hflo⟩;replace hS:=rd_lnext hS hp0 hp;refine Zz ((hR.trans (Asr.fst _ _)).left.trans (Asr.fst _ _)) ?_;refine Xc (p:=∃ p l c,fv=.slice p l c) (fun w hs=>Xb hs.res) ?_;rintro ⟨p1,l1,c1',hfv⟩;subst hfv;rw [map_fId] at hfl;subst hfl;clear hp0;refine Za J (Zd J) ?_;refine Y9 fn115 J J 0 J hu Uz (Tq w b1 r5 (by omega)) (fun hm=>Yv (Lj (read_no hcl (rd_nno hS hm)))) ?_;rintro v cs' ⟨R',n2,r6,hp0,rfl,hr6,rfl,hn2, -⟩;rw [Sx (show n2<9223372036854775808 by omega)];refine Za J (Zd J) (Za J (Ex_func J) ?_);refine Ss fn117 J J 0 J hu Uz (rdListMethod_any w b1 n2 20 (by omega) (rdMethod_any w b1) r6 (by omega)) (fun hm=>Yv (Lj (read_no hcl (rd_lno hS hp0 hm)))) ?_;rintro mv cs' R'' ⟨md,r7,hp,rfl,hr7,ml,hml,hR2,hmll,hmlo⟩;replace hS:=rd_lnext hS hp0 hp;refine Zz hR2.left ?_;refine Xc (p:=∃ p l c,mv=.slice p l c) (fun w hs=>Xb hs.res.1.1) ?_;rintro ⟨p2,l2,c2',hmv⟩;subst hmv;have hD:=read_all hcl (Vs hS);have hfit:ClFit ⟨nm,sp,fl,md⟩ ⟨.slice p1 l1 c1',.slice p2 l2 c2',ml⟩:=⟨hml,⟨Tj hnm,Tj hsp⟩,⟨by show fl.length≤1048576;omega,hflo⟩,⟨by show ml.length≤1048576;omega,hmlo⟩⟩;refine Zz (R':=clA ⟨nm,sp,fl,md⟩ ⟨.slice p1 l1 c1',.slice p2 l2 c2',ml⟩) (Asr.comm _ _) ?_;refine Za J (Z8 (cs:=clH nm sp (.slice p1 l1 c1') (.slice p2 l2 c2')) (tb J) J (by kernel_rfl)) ?_;refine Yk J (tz J) ?_;intro b2 hb2;refine Z2 (tn J) J J 0 J J J J (Ze (Zc (Zg (Zb (Za J (Zd J) (Za J (Zw J) (Za J (Zh (ff J) J) (Za J (Zj (t1 J) J (Zi 1 J J)) (Za J (Y7 J J) (Z7 X1 J J (fun w _=>Yr _ w) ?_ ?_))))))))))
 rotate_left
 ·intro o2;replace o2:=dFa o2;have hdead:Rc (M8 false true r)=none:=by rw [hD,if_neg (fun h=>by rw [h] at o2;exact absurd J o2)];rfl
  refine Zy (Fn_dies ?_);exact hdead
 intro o2;replace o2:=dTr o2;have hnil:r7=[]:=by have h9:=congrArg (fun b:ByteArray=>b.data.toList) o2;simpa using h9
 rw [if_pos hnil] at hD;refine Ze (Zc (Zg (Zb (Za J (Zv (tn J) J 0 J J) (Z7 fn103 J J (fun w' hs=>Pc ⟨nm,sp,fl,md⟩ (.slice p1 l1 c1') (.slice p2 l2 c2') w' (clA_at (k:=⟨.slice p1 l1 c1',.slice p2 l2 c2',ml⟩) hs.res hfit)) ?_ ?_)))))
 rotate_left
 ·intro o3;have hdead:Rc (M8 false true r)=none:=by rw [hD];simp only [Rc];rw [if_neg (by rw [o3];simp)]
  refine Zy (Fn_dies ?_);exact hdead
 intro o3;refine Ze (Zc (Zg (Zb (Za J (Zv (tn J) J 0 J J) (Z2 (tn J) J J 2 J J J J (Ze (Zc (Zr (T0 (We J (Wf (tn J) J (Yl 2 J) J)) ?_)))))))));exact ⟨⟨nm,sp,fl,md⟩,⟨.slice p1 l1 c1',.slice p2 l2 c2',ml⟩,by rw [hD];simp only [Rc];rw [if_pos o3],rfl,.refl _,hfit⟩
theorem clV_one (c:Cl) {fv mv:Value} (h1:fv.oneCell'=true) (h2:mv.oneCell'=true):(clV c fv mv).all (·.oneCell')=true:=by
 simp only [clV,List.all_cons,List.all_nil,h1,h2];rfl
theorem WL_box1 {P:Program} {n:Nat} {E:Env} {w0:World} {F:List Nat} {H:Hp} {R:Asr} {fn:Func} {Z:Ending→World→Prop} {κ:List Kf} {all:Array Oper} {l:List Oper} {d:Nat} {s:TypeId} {x:Operand} {t:TypeId} {p:String} {e:Array Edge} {v:Value} (hd:Nat.blt d n=true) (hx:ev E x=some v) (hv:v.cells=#[v])
  (h:∀ b,w0.heap.size≤b→WL P n all l ((d,pt b)::E) w0 F ((b,[v])::H) R fn Z κ):WL P n all (⟨some d,.box s x,t,p,e,none⟩::l) E w0 F H R fn Z κ :=
 ⟨fun w hs a ha=>wpList_plain rfl fun K hK=>by
  have hr:(execOp a.eval ⟨some d,.box s x,t,p,e,none⟩).run P w=.ok (.value (.pointer (some ⟨w.heap.size,0,none⟩))) (w.alloc (.cells [v].toArray s)):=by
   simp only [execOp];rw [ha.eval hx];simp [Instr.box,newVar,newRow,hv]
  unfold Oper.wp;rw [hr];exact hK _ _ ((h w.heap.size hs.low.size).go (w.alloc _) (hs.alloc [v] s) _ (ha.put hd _))⟩
theorem decode1_any (r:List UInt8) (b:Nat) (w:World) (hr:r.length≤4000000) (hb:w.cell? ⟨b,0,none⟩=some (.string ⟨r.toArray⟩)) (hlt:b<w.heap.size) :
  FnP Tryz.prog 67 #[pt b] w (readOk (Rc (M8 false true r))) (Rc (M8 false true r)=none):=by
 refine Xf (args:=[pt b]) Tryz.func67 J Tryz.ntmps67 ?_;refine Zg (Zb (Yk J (tz J) ?_));intro b0 hb0;refine Ze (Zc (Zg (Zb (Za J (Zj (t1 J) J (Z6 hb hlt)) (X8 fn68 J J (fun w' _=>read_any r w' hr) (fun hn=>Zy (Fn_dies hn)) ?_)))));rintro v R' ⟨c,⟨fv,mv,ms⟩,ho,rfl,hR,hfit⟩;refine Zz (hR.left.trans (Asr.fst _ _)) (Xc (p:=fv.oneCell'=true∧mv.oneCell'=true) (fun w hs=>⟨Sz hs.res.1,Sz hs.res.2.1.1⟩) ?_);rintro ⟨hf1,hm1⟩;refine Z2 (tn J) J J 0 J J (clV_one c hf1 hm1) J (Ze (Zc (Zr (T0 (We J (Wf (tn J) J (Yl 0 J) J)) ?_))));exact ⟨c,⟨fv,mv,ms⟩,ho,J,.refl _,hfit⟩
def readOk' (o:Option Cl):Value→Asr→Prop:=fun v R'=>∃ c k,o=some c∧v=.agg (clV c k.fv k.mv).toArray∧R'.Imp (clA c k)∧ClFit c k∧(clV c k.fv k.mv).all (·.oneCell')=true
theorem fn_one {f:FuncId} {args:Array Value} {w:World} {o:Option Cl} {may:Prop} (h:FnP Tryz.prog f args w (readOk o) may):FnP Tryz.prog f args w (readOk' o) may:=by
 refine Calls.mono h ?_;rintro e w' (⟨v,R',rfl,⟨c,k,ho,rfl,hR,hfit⟩,hw⟩ | ⟨hm,rfl,hb⟩)
 ·have h1:=hR.a w' hw.res;exact .inl ⟨_,R',J,⟨c,k,ho,J,hR,hfit,clV_one c (Sz h1.1) (Sz h1.2.1.1)⟩,hw⟩
 ·exact .inr ⟨hm,J,hb⟩
theorem decCaught_any (r:List UInt8) (b:Nat) (w:World) (hr:r.length≤4000000) (hb:w.cell? ⟨b,0,none⟩=some (.string ⟨r.toArray⟩)) (hlt:b<w.heap.size) :
  FnP Tryz.prog 66 #[.func (.func 67) #[] #[pt b]] w (Oi (.agg P3.toArray) (readOk' (Rc (M8 false true r))) (Rc (M8 false true r)=none)) False :=
 caughtClass_any 67 _ w _ _ fn67 (fun w2 hb2=>fn_one (decode1_any r b w2 hr (by rw [hb2.cell (p:=⟨b,0,none⟩) hlt];exact hb) (Nat.lt_of_lt_of_le hlt hb2.size)))
  (fun v R' ⟨c,k,_,hv,_,_,h1⟩=>⟨_,hv,rfl,h1⟩)
theorem dec_know {o:Option Cl} {v:Value} {R':Asr} (h:Oi (.agg P3.toArray) (readOk' o) (o=none) v R') :
  (∃ c k,o=some c∧v=.tuple #[.agg (clV c k.fv k.mv).toArray,.nilIface]∧R'.Imp (clA c k)∧ClFit c k∧(clV c k.fv k.mv).all (·.oneCell')=true)∨(o=none∧v=.tuple #[.agg P3.toArray,Ot]):=by
 rcases h with ⟨x,⟨c,k,ho,rfl,hR,hfit,h1⟩,rfl⟩ | ⟨hx, -,rfl⟩
 ·exact .inl ⟨c,k,ho,J,hR,hfit,h1⟩
 ·exact .inr ⟨hx,J⟩
theorem dec_shape {o:Option Cl} {v:Value} {R':Asr} (h:Oi (.agg P3.toArray) (readOk' o) (o=none) v R') :
  ∃ (vs:List Value) (y:Value) (k:Int),v=.tuple #[.agg vs.toArray,y]∧vs.length=4∧vs.all (·.oneCell')=true∧((y=.nilIface∧k=0)∨(y=Ot∧k=1))∧decOk o (.tuple #[.agg vs.toArray,.int .i64 k]) R':=by
 rcases dec_know h with ⟨c,k,ho,rfl,hR,hfit,h1⟩ | ⟨ho,rfl⟩
 ·exact ⟨_,_,0,J,J,h1,.inl ⟨J,J⟩,.inl ⟨c,k,ho,J,hR,hfit⟩⟩
 ·exact ⟨P3,_,1,J,J,J,.inr ⟨J,J⟩,.inr ⟨ho,J⟩⟩
theorem put_four {vs:List Value} (h:vs.length=4):put [.string ⟨#[]⟩,.string ⟨#[]⟩,.slice none 0 0,.slice none 0 0] 0 vs=vs:=by unfold put;rw [h];show []++vs++[]=vs;simp
theorem cut_four {vs:List Value} (h:vs.length=4):cut vs 0 4=vs:=by unfold cut;rw [List.drop_zero,List.take_of_length_le (by omega)]
theorem decode_any (s:ByteArray) (w:World) (hs:s.size≤4000000):FnP Tryz.prog 25 #[.string s] w (decOk (Rc (M8 false true (dl s)))) False:=by
 obtain ⟨r,rfl⟩:∃ r:List UInt8,s=⟨r.toArray⟩:=⟨dl s,by cases s;simp [dl]⟩;rw [ba_size] at hs;rw [dl_ba];refine Xf (args:=[.string ⟨r.toArray⟩]) Tryz.func25 J Tryz.ntmps25 ?_;refine Zg (Zb (WL_box1 J J J ?_));intro b0 hb0;refine Yk J (tz J) ?_;intro b1 hb1;refine Za J (Zf J) (Ze (Zc (Zg (Zb (Za J (Ex_cap J) (X8 fn66 J J (fun w' hs'=>decCaught_any r b0 w' hs ((S0 hs' (i:=1) J).1 0 _ J) (S0 hs' (i:=1) J).2) (fun h=>h.elim) ?_))))));intro v R' hv;obtain ⟨vs,y,k,rfl,h4,h1,hy,hok⟩:=dec_shape hv;refine Za J (Zd J) (Za J (X3 J J) (Za J (X3 J J) (Yk J (tz J) ?_)));intro b2 hb2;refine Z2 (tn J) J J 0 J h4 h1 (by rw [h4];rfl) ?_;rw [put_four h4];refine Za J (Zf J) (Ze (Zc (Zg (Zb (Za J (Zd J) (Yq fn59 J J (fun w' _=>told_any y k w' hy) ?_))))));refine Za J (Zd J) (Za J (X3 J J) (Za J (X3 J J) (Yk J (tz J) ?_)));intro b3 hb3;refine Z2 (tn J) J J 0 J J J J (Za J (Zf J) (Ze (Zc (Zg (Zb ?_)))));refine Za J (Zv (tn J) J 1 J (by rw [h4];rfl)) ?_;refine Za J (Zd J) ?_;rw [cut_four h4];refine Z2 (tn J) J J 2 J h4 h1 (by rw [h4];rfl) ?_;rw [put_four h4];refine Za J (Zf J) (Ze (Zc (Zr (Lg (Asr.fst _ _) (T0 (Res_2 J (Wf (vs:=vs) (tn J) J (Yl 2 J) h4) (X9 J)) ?_)))));exact hok
end
end Go.Proofs.YtpofmnfkdkmieaaGreat
