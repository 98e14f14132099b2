/- What is proved here: the line's classes as they lie in memory -/
import Derived.Test.YtpofmnfkdkmieaaGreatQ26
import Derived.Test.YtpofmnfkdkmieaaGreatQ27
import Derived.Test.YtpofmnfkdkmieaaGreatQ17
import Derived.Test.YtpofmnfkdkmieaaGreatQ25
set_option linter.unusedVariables false
set_option linter.unusedSimpArgs false
namespace Go.Proofs.YtpofmnfkdkmieaaGreat
namespace S
open Go Go.RowKit E
structure LP where
 (b up:Bool) (j c fr sr mr me cd rf rc rm:Nat)
def upI:Bool->Int
 | true=>1
 | false=>0
def LP.mR (p:LP):SV:=match p.b with
 | true=>.sl p.rm 0 1 0
 | false=>.v (.slice none 0 0)
def LP.mM (p:LP):SV:=match p.b with
 | true=>.sl p.mr 0 1 0
 | false=>.v (.slice none 0 0)
def LP.cB (p:LP) (sp:Nat):SB:=.cells [Zs (nmL p.j),.ptr sp 0,Zs (nmL p.j),Zs (spL p.j),.sl p.rf 0 1 0,p.mR,Zi (upI p.up),.sl p.fr 0 1 0,p.mM,.sl p.sr 0 1 0,Zz]
abbrev stB (rc cd:Nat):SB:=.cells [Zs Ws,Zb true,Zz,Zi 0,Ze,Zi 0,Zi 1,.sl rc 0 3 0,Zz,Zz,.sl cd 0 3 0]
def LP.tB (p:LP):Ch:=match p.b with
 | true=>[(p.mr,.row 329 1 1 [.ptr p.me 0]),(p.me,stB p.rc p.cd)]
 | false=>[]
def LP.xB (p:LP):Ch:=match p.b with
 | true=>[(p.rf,.row 128 4 1 Yk),(p.rc,.row 75 7 3 (Xx (.ofNat p.j)).flatten),(p.rm,Yy p.rc),(p.fr,.row 380 5 1 Vf),(p.sr,.row 366 1 1 [.ifc 3 (.v (.int .i64 0))]),(p.cd,.row 475 8 3 (Wd (Xx (.ofNat p.j)) 3))]
 | false=>[(p.rf,.row 128 4 1 Yk),(p.fr,.row 380 5 1 Vf),(p.sr,.row 366 1 1 [.ifc 3 (.v (.int .i64 0))])]
def Xh (ob:Nat):List LP->Nat
 | []=>ob
 | p::_=>p.c
def lnB (ob:Nat):List LP->Ch
 | []=>[(ob,obB)]
 | p::r=>(p.c,p.cB (Xh ob r))::(p.tB++(p.xB++lnB ob r))
def LP.cd_ (p:LP):CD:=⟨⟨p.c,p.mr,p.me,Zs (nmL p.j),Zs (nmL p.j),Zs (spL p.j),.sl p.rf 0 1 0,p.mR,Zi (upI p.up),.sl p.fr 0 1 0,.sl p.sr 0 1 0,Zz,.sl p.rc 0 3 0,.sl p.cd 0 3 0⟩,p.b⟩
def exB:List LP->Ch
 | []=>[]
 | p::r=>p.xB++exB r
theorem top_eq {ob:Nat}:∀ ls:List LP,topC ob (ls.map (LP.cd_))=Xh ob ls
 | []=>rfl
 | _::_=>rfl
theorem Kh {ob:Nat}:∀ ls:List LP,(lnB ob ls).Perm (chH id ob (ls.map (LP.cd_))++exB ls)
 | []=>List.Perm.refl _
 | p::r=>by
  show ((p.c,_)::(p.tB++(p.xB++lnB ob r))).Perm (((p.c,_)::(_++chH id ob (r.map (LP.cd_))))++(p.xB++exB r));rw [top_eq,List.cons_append];refine List.Perm.cons _ ?_
  have e:p.cd_.tB id=p.tB:=by
   unfold LP.tB CD.tB;show (match p.b with | true=>_ | false=>_)=_;cases p.b<;>rfl
  show (p.tB++(p.xB++lnB ob r)).Perm ((p.cd_.tB id++chH id ob (r.map (LP.cd_)))++(p.xB++exB r));rw [e,List.append_assoc];refine List.Perm.append_left _ ?_;refine ((Kh r).append_left p.xB).trans ?_;rw [<- List.append_assoc,<- List.append_assoc];exact (List.perm_append_comm).append_right _
section
set_option maxRecDepth 10000
variable {N mc ob:Nat} {m0 m1 m2 m3 m4 m5 m6 m7 m8 m9 m11 m12 m13 m14 m15 m16:SV}
theorem con_nil {v:SV}:HF Tryz.prog 391 [Zz,v] N [] fun u N' H'=>u=Zb false/\N'=N/\H'=[]:=by
 have hi:HF Tryz.prog 400 [Zz,v] N [] fun u N' H'=>u=Zi (-1)/\N'=N/\H'=[]:=by
  refine hf1 Tryz.func400 J Tryz.ntmps400 fun _ _ _ _=>?_;refine Zd (Za 1 [] [(4,Zi 0)] [] (Z1 (Zd (Za 3 [] [(7,Zi 0),(8,Zi 0)] [] (Zg (Zv (Yv (Yg ?_))))))));refine Zd (Za 1 [] [(9,Zb false)] [] (Z1 (Z6 J (Yz (Z8 (Z8 (Xb (z:=.exit _) J (Yi (Yh (Za 1 [] [(4,Zi (-1))] [] (Zg (Yc (Z5 [] (.inr J) Zj J (by decide) ?_)))))))))))));exact ⟨J,J,J⟩
 refine hf1 Tryz.func391 J Tryz.ntmps391 fun _ _ _ _=>?_;refine Zd (Za 1 [] [(4,Zb false)] [] (Zx (Za 2 [] [(5,Zz),(6,v)] [] (Z0 [] [] Zj J J J J (hi) J (Za 2 [] [(4,Zb false)] [] (Zg (Yc (Z5 [] (.inr J) Zj J (by decide) ?_))))))));exact ⟨J,J,J⟩
theorem Zdy (p:LP) (r:List LP) (h:r.length<=7):HF Tryz.prog 391 [p.mM,.fn 392 [.ptr p.c 0] []] N (lnB ob (p::r)) fun u N' H'=>u=Zb false/\N'=N/\H'=lnB ob (p::r):=by
 cases hb:p.b with
 | false =>
  have e:p.mM=Zz:=by unfold LP.mM;rw [hb]
  rw [e];exact (con_nil.fr (lnB ob (p::r)))
 | true =>
  have e:p.mM=.sl p.mr 0 1 0:=by unfold LP.mM;rw [hb]
  rw [e]
  have hc:HF Tryz.prog 391 [.sl p.mr 0 1 0,.fn 392 [.ptr p.c 0] []] N (chH id ob ((p::r).map (LP.cd_))) fun u N' H'=>u=Zb false/\N'=N/\H'=chH id ob ((p::r).map (LP.cd_)):=by
   rw [List.map_cons];unfold LP.cd_;rw [hb]
   match hr:r.length,h with
   | 0,_=>exact con_0 _ (by rw [List.length_map,hr])
   | 1,_=>exact con_1 _ (by rw [List.length_map,hr])
   | 2,_=>exact con_2 _ (by rw [List.length_map,hr])
   | 3,_=>exact con_3 _ (by rw [List.length_map,hr])
   | 4,_=>exact con_4 _ (by rw [List.length_map,hr])
   | 5,_=>exact con_5 _ (by rw [List.length_map,hr])
   | 6,_=>exact con_6 _ (by rw [List.length_map,hr])
   | 7,_=>exact con_7 _ (by rw [List.length_map,hr])
   | n+8,h=>omega
  exact hc.to (Kh (p::r)) (Kh (p::r)).symm
theorem Tw (p:LP) (r:List LP) (h:r.length<=7):HF Tryz.prog 379 [.ptr mc 0,.ptr p.c 0] N ([(mc,.cells [m0,m1,m2,m3,m4,m5,m6,m7,m8,m9,Zz,m11,m12,m13,m14,m15,m16])]++lnB ob (p::r)) fun u N' H'=>u=.ifc 323 (.agg [.ptr p.c 0])/\N'=N/\H'=[(mc,.cells [m0,m1,m2,m3,m4,m5,m6,m7,m8,m9,Zz,m11,m12,m13,m14,m15,m16])]++lnB ob (p::r):=by
 show HF _ _ _ N ([(mc,_),(p.c,.cells [Zs (nmL p.j),.ptr (Xh ob r) 0,Zs (nmL p.j),Zs (spL p.j),.sl p.rf 0 1 0,p.mR,Zi (upI p.up),.sl p.fr 0 1 0,p.mM,.sl p.sr 0 1 0,Zz])]++(p.tB++(p.xB++lnB ob r))) _;refine hf1 Tryz.func379 J Tryz.ntmps379 fun _ _ _ _=>?_;refine Zd (Za 1 [] [(4,Zf)] [] (Z1 (Zd (Za 6 [1] [(10,p.mM),(12,Zh 392 [Zq p.c 0] [])] [] (Qm 2 1 [1] [0] Zj J J J J (Zdy p r h) J (Zg (Z6 J (Ya (Zr (Z2 (Zd (Za 6 [1] [(19,Zz),(20,Zi 0),(21,Zi 0)] [] (Zg (Zv (Yv (Yg ?_))))))))))))))));refine Zd (Za 1 [] [(22,Zb false)] [] (Z1 (Z6 J (Yz (Z8 (Z8 (Xb (z:=.exit _) J (Yi (Yh (Za 4 [] [(4,SV.ifc 323 (SV.agg [Zq p.c 0]))] [] (Zg (Yc (Wk 2 [1,0] (.inr J) Zj J ?_)))))))))))));exact ⟨J,J,J⟩
end
end S
namespace S
open Go Go.RowKit E
abbrev evA (n:Nat):List SV:=[Zi 2,Zi 0,Zs (nmL n)]
section
set_option maxRecDepth 10000
variable {N mc en nm ob ev ek k d E:Nat} {bt:Nat->Bool} {bm:ByteArray} {m1 m2 m3 m4 m5 m7 m8 m11 m12 m13 m14 m16:SV} {es:List (ByteArray × SV)} {evs dl:List SV} {ls:List LP} {P:LP->List LP->List (ByteArray × SV)->Prop}
theorem ask_t0 (hb:bt 0=true) (he:evs.length=ek*3) (hek:ek<=20000) (ho:findS (spL 0) es=some (.ifc 323 (.agg [.ptr ob 0]))):HF Tryz.prog 345 [.ptr mc 0,Zs (nmL 0)] N ([(mc,.cells [.sl en 0 9 0,m1,m2,m3,m4,m5,.fn 25 [] [],m7,m8,.mp nm,Zz,m11,m12,m13,m14,.sl ev 0 ek 0,m16]),(en,.row 89 2 9 (enC bt bm)),(nm,.map es),(ev,.row 98 3 ek evs)]++lnB ob []) fun u N' H'=>∃ p ev1,p.j=0/\p.b=true/\p.up=false/\u=.ifc 323 (.agg [.ptr p.c 0])/\H'=([(mc,.cells [.sl en 0 9 0,m1,m2,m3,m4,m5,.fn 25 [] [],m7,m8,.mp nm,Zz,m11,m12,m13,m14,.sl ev1 0 (ek+1) 0,m16]),(en,.row 89 2 9 (enC bt bm)),(nm,.map es),(ev1,.row 98 3 (ek+1) (evs++evA 0))]++lnB ob [p]):=by
 refine hf1 Tryz.func345 J Tryz.ntmps345 fun _ _ _ _=>?_;refine Zd (Za 1 [] [(4,Zf)] [] (Zx (Za 2 [] [(9,Zq mc 0),(10,Zs (nmL 0))] [] (Z0 [0,3] [3,0] Zj J J J J (Va he (by omega)) J ?_))));refine Zx (Za 2 [] [(13,Zq mc 0),(14,Zs (nmL 0))] [] (Z0 [0,2] [2,0] Zj J J J J (S6 (x:=⟨m1,m2,m3,m4,m5,m7,m8,.mp nm,Zz,m11,m12,m13,m14,.sl (N+1) 0 (ek+1) 0,m16⟩) 0 true (by omega) hb) J ?_));refine Zy 6 [0] [(5,Zq (N+98) 0),(6,Ze)] [] (N+99) [((N+98),Zc [Zs (nmL 0),Zs (spL 0),Zk (N+40) 0 1 0,Zk (N+57) 0 1 0])] [] ?_;refine Z1 (Zd (Za 2 [] [(19,Zb false)] [] (Zg (Z6 J (Ya (Yh (Za 3 [0] [(23,Zq mc 0),(25,Zs (spL 0))] [] (Z0 [1,7] [7,1] Zj J J J J (Ut ho) J (Za 1 [] [(7,SV.ifc 323 (SV.agg [Zq ob 0]))] [] (Z1 (Zd (Za 1 [] [(27,SV.ifc 323 (SV.agg [Zq ob 0]))] [] (Zg (Zv (Zd (Za 3 [] [(29,Zb true),(30,SV.agg [Zq ob 0])] [] (Zg (Yj J (Zd (Zy 2 [0] [(8,Zq (N+99) 0)] [] (N+100) [((N+99),Zc [Zq ob 0])] [] (Zx (Za 4 [3,0] [(31,Zq mc 0),(32,SV.agg [Zs (nmL 0),Zs (spL 0),Zk (N+40) 0 1 0,Zk (N+57) 0 1 0]),(34,Zq ob 0)] [] (Yn [9,5,6,7] [9,7,6,5] Zj J J J J (Mb) ?_)))))))))))))))))))))));rintro _ N2 _ ⟨c,fr,sr,mr,me,cd,rfl,rfl⟩;refine ⟨_,J,?_⟩;refine Z0 [11,0,3,4,7,8,9,1,2,5,6] [11,9,8,7,6,5,4,3,2,1,0] Zj J J J J (Tw ⟨true,false,0,c,fr,sr,mr,me,cd,N+40,N+55,N+57⟩ [] (by decide)) J ?_;refine Za 1 [] [(4,SV.ifc 323 (SV.agg [Zq c 0]))] [] (Zg (Yc (Wu (Xg (Z5 [0,14,12,15,1,2,3,4,5,6,7,8,9,10] (.inr J) Zj J (by decide) ?_)))));exact ⟨⟨true,false,0,c,fr,sr,mr,me,cd,N+40,N+55,N+57⟩,_,J,J,J,J,J⟩
theorem ask_t1 (hk:k+1<8) (hb:bt (k+1)=true) (he:evs.length=ek*3) (hek:ek<=20000) (hE:ek+1<=E) (hP:∀ q r es1,P q r es1->r.length<=6) (hH:∀ N ev ek evs,evs.length=ek*3->ek<=E->HF Tryz.prog 295 [.ptr mc 0,Zs (nmL k)] N ([(mc,.cells [.sl en 0 9 0,m1,m2,m3,m4,m5,.fn 25 [] [],m7,m8,.mp nm,Zz,m11,m12,m13,m14,.sl ev 0 ek 0,m16]),(en,.row 89 2 9 (enC bt bm)),(nm,.map es),(ev,.row 98 3 ek evs)]++lnB ob ls) fun u N' H'=>∃ q r es1 ev1,u=.ifc 323 (.agg [.ptr q.c 0])/\H'=([(mc,.cells [.sl en 0 9 0,m1,m2,m3,m4,m5,.fn 25 [] [],m7,m8,.mp nm,Zz,m11,m12,m13,m14,.sl ev1 0 (ek+d) 0,m16]),(en,.row 89 2 9 (enC bt bm)),(nm,.map es1),(ev1,.row 98 3 (ek+d) (evs++dl))]++lnB ob (q::r))/\P q r es1):HF Tryz.prog 345 [.ptr mc 0,Zs (nmL (k+1))] N ([(mc,.cells [.sl en 0 9 0,m1,m2,m3,m4,m5,.fn 25 [] [],m7,m8,.mp nm,Zz,m11,m12,m13,m14,.sl ev 0 ek 0,m16]),(en,.row 89 2 9 (enC bt bm)),(nm,.map es),(ev,.row 98 3 ek evs)]++lnB ob ls) fun u N' H'=>∃ p q r es1 ev1,p.j=k+1/\p.b=true/\p.up=false/\u=.ifc 323 (.agg [.ptr p.c 0])/\H'=([(mc,.cells [.sl en 0 9 0,m1,m2,m3,m4,m5,.fn 25 [] [],m7,m8,.mp nm,Zz,m11,m12,m13,m14,.sl ev1 0 (ek+1+d) 0,m16]),(en,.row 89 2 9 (enC bt bm)),(nm,.map es1),(ev1,.row 98 3 (ek+1+d) (evs++evA (k+1)++dl))]++lnB ob (p::q::r))/\P q r es1:=by
 refine hf1 Tryz.func345 J Tryz.ntmps345 fun _ _ _ _=>?_;refine Zd (Za 1 [] [(4,Zf)] [] (Zx (Za 2 [] [(9,Zq mc 0),(10,Zs (nmL (k+1)))] [] (Z0 [0,3] [3,0] Zj J J J J (Va he (by omega)) J ?_))));refine Zx (Za 2 [] [(13,Zq mc 0),(14,Zs (nmL (k+1)))] [] (Z0 [0,2] [2,0] Zj J J J J (S6 (x:=⟨m1,m2,m3,m4,m5,m7,m8,.mp nm,Zz,m11,m12,m13,m14,.sl (N+1) 0 (ek+1) 0,m16⟩) (k+1) true (by omega) hb) J ?_));refine Zy 6 [0] [(5,Zq (N+98) 0),(6,Ze)] [] (N+99) [((N+98),Zc [Zs (nmL (k+1)),Zs (spL (k+1)),Zk (N+40) 0 1 0,Zk (N+57) 0 1 0])] [] ?_;refine Z1 (Zd (Za 2 [] [(19,Zb false)] [] (Zg (Z6 J (Ya (Yh (Za 3 [0] [(23,Zq mc 0),(25,Zs (spL (k+1)))] [] ?_)))))));refine Xo 8 [1,2,7,6] [0,3,4,5] Zj J J J J (hH _ _ _ _ (by simp only [List.length_append,he];show ek*3+3=_;omega) hE) ?_;rintro _ N1 _ ⟨q,r,es1,ev1,rfl,rfl,hq⟩;refine ⟨_,([(mc,Zc [Zk en 0 9 0,m1,m2,m3,m4,m5,Zh 25 [] [],m7,m8,SV.mp nm,Zz,m11,m12,m13,m14,Zk ev1 0 (ek+1+d) 0,m16]),(en,Zw 89 2 9 (enC bt bm)),(nm,SB.map es1),(ev1,Zw 98 3 (ek+1+d) (evs++evA (k+1)++dl)),(q.c,Zc [Zs (nmL q.j),Zq (Xh ob r) 0,Zs (nmL q.j),Zs (spL q.j),Zk q.rf 0 1 0,q.mR,Zi (upI q.up),Zk q.fr 0 1 0,q.mM,Zk q.sr 0 1 0,Zz]),((N+98),Zc [Zs (nmL (k+1)),Zs (spL (k+1)),Zk (N+40) 0 1 0,Zk (N+57) 0 1 0]),((N+40),Zw 128 4 1 [Zs xS,Zb true,Zi 1,Ze]),((N+55),Zw 75 7 3 ((Xx (.ofNat (k+1))).flatten)),((N+57),Zw 134 10 1 [Zs Ws,Zb true,Zz,Zi 0,Ze,Zi 0,Zi 1,Zk (N+55) 0 3 0,Zz,Zz])]++(q.tB++(q.xB++lnB ob r))),J,Yo (A:=[(mc,.cells [Zk en 0 9 0,m1,m2,m3,m4,m5,Zh 25 [] [],m7,m8,SV.mp nm,Zz,m11,m12,m13,m14,Zk ev1 0 (ek+1+d) 0,m16]),(en,.row 89 2 9 (enC bt bm)),(nm,.map es1),(ev1,.row 98 3 (ek+1+d) (evs++evA (k+1)++dl)),(q.c,.cells [Zs (nmL q.j),Zq (Xh ob r) 0,Zs (nmL q.j),Zs (spL q.j),Zk q.rf 0 1 0,q.mR,Zi (upI q.up),Zk q.fr 0 1 0,q.mM,Zk q.sr 0 1 0,Zz])]) (R:=[((N+98),.cells [Zs (nmL (k+1)),Zs (spL (k+1)),Zk (N+40) 0 1 0,Zk (N+57) 0 1 0]),((N+40),.row 128 4 1 [Zs xS,Zb true,Zi 1,Ze]),((N+55),.row 75 7 3 ((Xx (.ofNat (k+1))).flatten)),((N+57),.row 134 10 1 [Zs Ws,Zb true,Zz,Zi 0,Ze,Zi 0,Zi 1,Zk (N+55) 0 3 0,Zz,Zz])]) (T:=(q.tB++(q.xB++lnB ob r))),?_⟩;refine Za 1 [] [(7,SV.ifc 323 (SV.agg [Zq q.c 0]))] [] (Z1 (Zd (Za 1 [] [(27,SV.ifc 323 (SV.agg [Zq q.c 0]))] [] (Zg (Zv (Zd (Za 3 [] [(29,Zb true),(30,SV.agg [Zq q.c 0])] [] (Zg (Yj J (Zd (Zy 2 [0] [(8,Zq N1 0)] [] (N1+1) [(N1,Zc [Zq q.c 0])] [] (Zx (Za 4 [6,0] [(31,Zq mc 0),(32,SV.agg [Zs (nmL (k+1)),Zs (spL (k+1)),Zk (N+40) 0 1 0,Zk (N+57) 0 1 0]),(34,Zq q.c 0)] [] (Yn [5,7,8,9] [9,8,7,5] Zj J J J J (Mb) ?_))))))))))))));rintro _ N2 _ ⟨c,fr,sr,mr,me,cd,rfl,rfl⟩;refine ⟨_,J,?_⟩;refine Qm 16 11 [11,0,3,4,7,8,9,1,2,5,6] [10,12,13,14,15] Zj J J J J (Tw ⟨true,false,(k+1),c,fr,sr,mr,me,cd,N+40,N+55,N+57⟩ (q::r) (by have:=hP _ _ _ hq;simp only [List.length_cons];omega)) rfl ?_;refine Za 1 [] [(4,SV.ifc 323 (SV.agg [Zq c 0]))] [] (Zg (Yc (Wu (Xg (Wk 16 [0,12,13,14,1,2,3,4,5,6,7,8,9,10] (.inr J) Zj J ?_)))));exact ⟨⟨true,false,(k+1),c,fr,sr,mr,me,cd,N+40,N+55,N+57⟩,q,r,es1,ev1,J,J,J,J,J,hq⟩
theorem ask_f0 (hb:bt 0=false) (he:evs.length=ek*3) (hek:ek<=20000) (ho:findS (spL 0) es=some (.ifc 323 (.agg [.ptr ob 0]))):HF Tryz.prog 345 [.ptr mc 0,Zs (nmL 0)] N ([(mc,.cells [.sl en 0 9 0,m1,m2,m3,m4,m5,.fn 25 [] [],m7,m8,.mp nm,Zz,m11,m12,m13,m14,.sl ev 0 ek 0,m16]),(en,.row 89 2 9 (enC bt bm)),(nm,.map es),(ev,.row 98 3 ek evs)]++lnB ob []) fun u N' H'=>∃ p ev1,p.j=0/\p.b=false/\p.up=false/\u=.ifc 323 (.agg [.ptr p.c 0])/\H'=([(mc,.cells [.sl en 0 9 0,m1,m2,m3,m4,m5,.fn 25 [] [],m7,m8,.mp nm,Zz,m11,m12,m13,m14,.sl ev1 0 (ek+1) 0,m16]),(en,.row 89 2 9 (enC bt bm)),(nm,.map es),(ev1,.row 98 3 (ek+1) (evs++evA 0))]++lnB ob [p]):=by
 refine hf1 Tryz.func345 J Tryz.ntmps345 fun _ _ _ _=>?_;refine Zd (Za 1 [] [(4,Zf)] [] (Zx (Za 2 [] [(9,Zq mc 0),(10,Zs (nmL 0))] [] (Z0 [0,3] [3,0] Zj J J J J (Va he (by omega)) J ?_))));refine Zx (Za 2 [] [(13,Zq mc 0),(14,Zs (nmL 0))] [] (Z0 [0,2] [2,0] Zj J J J J (S6 (x:=⟨m1,m2,m3,m4,m5,m7,m8,.mp nm,Zz,m11,m12,m13,m14,.sl (N+1) 0 (ek+1) 0,m16⟩) 0 false (by omega) hb) J ?_));refine Zy 6 [0] [(5,Zq (N+48) 0),(6,Ze)] [] (N+49) [((N+48),Zc [Zs (nmL 0),Zs (spL 0),Zk (N+40) 0 1 0,Zz])] [] ?_;refine Z1 (Zd (Za 2 [] [(19,Zb false)] [] (Zg (Z6 J (Ya (Yh (Za 3 [0] [(23,Zq mc 0),(25,Zs (spL 0))] [] (Z0 [1,5] [5,1] Zj J J J J (Ut ho) J (Za 1 [] [(7,SV.ifc 323 (SV.agg [Zq ob 0]))] [] (Z1 (Zd (Za 1 [] [(27,SV.ifc 323 (SV.agg [Zq ob 0]))] [] (Zg (Zv (Zd (Za 3 [] [(29,Zb true),(30,SV.agg [Zq ob 0])] [] (Zg (Yj J (Zd (Zy 2 [0] [(8,Zq (N+49) 0)] [] (N+50) [((N+49),Zc [Zq ob 0])] [] (Zx (Za 4 [3,0] [(31,Zq mc 0),(32,SV.agg [Zs (nmL 0),Zs (spL 0),Zk (N+40) 0 1 0,Zz]),(34,Zq ob 0)] [] (Yn [7,5] [7,5] Zj J J J J (Mc) ?_)))))))))))))))))))))));rintro _ N2 _ ⟨c,fr,sr,rfl,rfl⟩;refine ⟨_,J,?_⟩;refine Z0 [6,0,4,1,2,3] [6,4,3,2,1,0] Zj J J J J (Tw ⟨false,false,0,c,fr,sr,0,0,0,N+40,0,0⟩ [] (by decide)) J ?_;refine Za 1 [] [(4,SV.ifc 323 (SV.agg [Zq c 0]))] [] (Zg (Yc (Wu (Xg (Z5 [0,9,7,10,1,2,3,4,5] (.inr J) Zj J (by decide) ?_)))));exact ⟨⟨false,false,0,c,fr,sr,0,0,0,N+40,0,0⟩,_,J,J,J,J,J⟩
theorem ask_f1 (hk:k+1<8) (hb:bt (k+1)=false) (he:evs.length=ek*3) (hek:ek<=20000) (hE:ek+1<=E) (hP:∀ q r es1,P q r es1->r.length<=6) (hH:∀ N ev ek evs,evs.length=ek*3->ek<=E->HF Tryz.prog 295 [.ptr mc 0,Zs (nmL k)] N ([(mc,.cells [.sl en 0 9 0,m1,m2,m3,m4,m5,.fn 25 [] [],m7,m8,.mp nm,Zz,m11,m12,m13,m14,.sl ev 0 ek 0,m16]),(en,.row 89 2 9 (enC bt bm)),(nm,.map es),(ev,.row 98 3 ek evs)]++lnB ob ls) fun u N' H'=>∃ q r es1 ev1,u=.ifc 323 (.agg [.ptr q.c 0])/\H'=([(mc,.cells [.sl en 0 9 0,m1,m2,m3,m4,m5,.fn 25 [] [],m7,m8,.mp nm,Zz,m11,m12,m13,m14,.sl ev1 0 (ek+d) 0,m16]),(en,.row 89 2 9 (enC bt bm)),(nm,.map es1),(ev1,.row 98 3 (ek+d) (evs++dl))]++lnB ob (q::r))/\P q r es1):HF Tryz.prog 345 [.ptr mc 0,Zs (nmL (k+1))] N ([(mc,.cells [.sl en 0 9 0,m1,m2,m3,m4,m5,.fn 25 [] [],m7,m8,.mp nm,Zz,m11,m12,m13,m14,.sl ev 0 ek 0,m16]),(en,.row 89 2 9 (enC bt bm)),(nm,.map es),(ev,.row 98 3 ek evs)]++lnB ob ls) fun u N' H'=>∃ p q r es1 ev1,p.j=k+1/\p.b=false/\p.up=false/\u=.ifc 323 (.agg [.ptr p.c 0])/\H'=([(mc,.cells [.sl en 0 9 0,m1,m2,m3,m4,m5,.fn 25 [] [],m7,m8,.mp nm,Zz,m11,m12,m13,m14,.sl ev1 0 (ek+1+d) 0,m16]),(en,.row 89 2 9 (enC bt bm)),(nm,.map es1),(ev1,.row 98 3 (ek+1+d) (evs++evA (k+1)++dl))]++lnB ob (p::q::r))/\P q r es1:=by
 refine hf1 Tryz.func345 J Tryz.ntmps345 fun _ _ _ _=>?_;refine Zd (Za 1 [] [(4,Zf)] [] (Zx (Za 2 [] [(9,Zq mc 0),(10,Zs (nmL (k+1)))] [] (Z0 [0,3] [3,0] Zj J J J J (Va he (by omega)) J ?_))));refine Zx (Za 2 [] [(13,Zq mc 0),(14,Zs (nmL (k+1)))] [] (Z0 [0,2] [2,0] Zj J J J J (S6 (x:=⟨m1,m2,m3,m4,m5,m7,m8,.mp nm,Zz,m11,m12,m13,m14,.sl (N+1) 0 (ek+1) 0,m16⟩) (k+1) false (by omega) hb) J ?_));refine Zy 6 [0] [(5,Zq (N+48) 0),(6,Ze)] [] (N+49) [((N+48),Zc [Zs (nmL (k+1)),Zs (spL (k+1)),Zk (N+40) 0 1 0,Zz])] [] ?_;refine Z1 (Zd (Za 2 [] [(19,Zb false)] [] (Zg (Z6 J (Ya (Yh (Za 3 [0] [(23,Zq mc 0),(25,Zs (spL (k+1)))] [] ?_)))))));refine Xo 6 [1,2,5,4] [0,3] Zj J J J J (hH _ _ _ _ (by simp only [List.length_append,he];show ek*3+3=_;omega) hE) ?_;rintro _ N1 _ ⟨q,r,es1,ev1,rfl,rfl,hq⟩;refine ⟨_,([(mc,Zc [Zk en 0 9 0,m1,m2,m3,m4,m5,Zh 25 [] [],m7,m8,SV.mp nm,Zz,m11,m12,m13,m14,Zk ev1 0 (ek+1+d) 0,m16]),(en,Zw 89 2 9 (enC bt bm)),(nm,SB.map es1),(ev1,Zw 98 3 (ek+1+d) (evs++evA (k+1)++dl)),(q.c,Zc [Zs (nmL q.j),Zq (Xh ob r) 0,Zs (nmL q.j),Zs (spL q.j),Zk q.rf 0 1 0,q.mR,Zi (upI q.up),Zk q.fr 0 1 0,q.mM,Zk q.sr 0 1 0,Zz]),((N+48),Zc [Zs (nmL (k+1)),Zs (spL (k+1)),Zk (N+40) 0 1 0,Zz]),((N+40),Zw 128 4 1 [Zs xS,Zb true,Zi 1,Ze])]++(q.tB++(q.xB++lnB ob r))),J,Yo (A:=[(mc,.cells [Zk en 0 9 0,m1,m2,m3,m4,m5,Zh 25 [] [],m7,m8,SV.mp nm,Zz,m11,m12,m13,m14,Zk ev1 0 (ek+1+d) 0,m16]),(en,.row 89 2 9 (enC bt bm)),(nm,.map es1),(ev1,.row 98 3 (ek+1+d) (evs++evA (k+1)++dl)),(q.c,.cells [Zs (nmL q.j),Zq (Xh ob r) 0,Zs (nmL q.j),Zs (spL q.j),Zk q.rf 0 1 0,q.mR,Zi (upI q.up),Zk q.fr 0 1 0,q.mM,Zk q.sr 0 1 0,Zz])]) (R:=[((N+48),.cells [Zs (nmL (k+1)),Zs (spL (k+1)),Zk (N+40) 0 1 0,Zz]),((N+40),.row 128 4 1 [Zs xS,Zb true,Zi 1,Ze])]) (T:=(q.tB++(q.xB++lnB ob r))),?_⟩;refine Za 1 [] [(7,SV.ifc 323 (SV.agg [Zq q.c 0]))] [] (Z1 (Zd (Za 1 [] [(27,SV.ifc 323 (SV.agg [Zq q.c 0]))] [] (Zg (Zv (Zd (Za 3 [] [(29,Zb true),(30,SV.agg [Zq q.c 0])] [] (Zg (Yj J (Zd (Zy 2 [0] [(8,Zq N1 0)] [] (N1+1) [(N1,Zc [Zq q.c 0])] [] (Zx (Za 4 [6,0] [(31,Zq mc 0),(32,SV.agg [Zs (nmL (k+1)),Zs (spL (k+1)),Zk (N+40) 0 1 0,Zz]),(34,Zq q.c 0)] [] (Yn [5,7] [7,5] Zj J J J J (Mc) ?_))))))))))))));rintro _ N2 _ ⟨c,fr,sr,rfl,rfl⟩;refine ⟨_,J,?_⟩;refine Qm 11 6 [6,0,4,1,2,3] [5,7,8,9,10] Zj J J J J (Tw ⟨false,false,(k+1),c,fr,sr,0,0,0,N+40,0,0⟩ (q::r) (by have:=hP _ _ _ hq;simp only [List.length_cons];omega)) rfl ?_;refine Za 1 [] [(4,SV.ifc 323 (SV.agg [Zq c 0]))] [] (Zg (Yc (Wu (Xg (Wk 11 [0,7,8,9,1,2,3,4,5] (.inr J) Zj J ?_)))));exact ⟨⟨false,false,(k+1),c,fr,sr,0,0,0,N+40,0,0⟩,q,r,es1,ev1,J,J,J,J,J,hq⟩
end
end S
namespace S
open Go Go.RowKit E
abbrev G8:SV:=.ifc 328 (.agg [Zs (ByteArray.mk #[67,105,114,99,117,108,97,114])])
def cAt:List LP->Nat->Nat
 | [],_=>0
 | p::r,j=>if j=r.length then p.c else cAt r j
def Wf (bt:Nat->Bool):List LP->Prop
 | []=>True
 | p::r=>p.j=r.length/\p.b=bt p.j/\Wf bt r
structure NmOk (ob:Nat) (es:List (ByteArray × SV)) (ls:List LP):Prop where
 top:findS (spL 0) es=some (.ifc 323 (.agg [.ptr ob 0]))
 at_:∀ j,j<ls.length->findS (nmL j) es=some (.ifc 323 (.agg [.ptr (cAt ls j) 0]))
def Ye:Nat->Nat->List SV
 | 0,_=>[]
 | d+1,k=>evA k++Ye d (k - 1)
theorem X9:∀ d k,(Ye d k).length=d*3
 | 0,_=>rfl
 | d+1,k=>by
  show (evA k++Ye d (k - 1)).length=_;rw [List.length_append,X9 d];show 3+d*3=_;omega
theorem Po {i j:Nat} (hi:i<8) (hj:j<8) (h:nmL i=nmL j):i=j:=by
 unfold nmL at h;have h1:(#[UInt8.ofNat (97+i)]:Array UInt8)=#[UInt8.ofNat (97+j)]:=by injection h
 have h2:UInt8.ofNat (97+i)=UInt8.ofNat (97+j):=by injection h1 with h1;injection h1
 have h3:=congrArg UInt8.toNat h2;simp only [UInt8.toNat_ofNat'] at h3;omega
theorem Zae {j:Nat} (h:j<8):spL 0≠nmL j:=by
 intro e;have:=congrArg ByteArray.size e;revert this;show (6=1)->False;decide
section
set_option maxRecDepth 10000
variable {N mc en nm ob ev ek k d:Nat} {bt:Nat->Bool} {bm nb:ByteArray} {m1 m2 m3 m4 m5 m7 m8 m11 m12 m13 m14 m16:SV} {es:List (ByteArray × SV)} {evs:List SV} {ls:List LP} {U:Ch} {Q:Nat->List (ByteArray × SV)->Nat->Nat->List SV->Ch->Prop}
theorem Im (hn:findS nb es=none) (hA:∀ N,HF Tryz.prog 345 [.ptr mc 0,Zs nb] N ([(mc,.cells [.sl en 0 9 0,m1,m2,m3,m4,m5,.fn 25 [] [],m7,m8,.mp nm,Zz,m11,m12,m13,m14,.sl ev 0 ek 0,m16]),(en,.row 89 2 9 (enC bt bm)),(nm,.map (putM nb (SV.ifc 328 (.agg [Zs (ByteArray.mk #[67,105,114,99,117,108,97,114])])) es)),(ev,.row 98 3 ek evs)]++U) fun u N' H'=>∃ c es1 ev1 ek1 evs1 U1,u=.ifc 323 (.agg [.ptr c 0])/\H'=([(mc,.cells [.sl en 0 9 0,m1,m2,m3,m4,m5,.fn 25 [] [],m7,m8,.mp nm,Zz,m11,m12,m13,m14,.sl ev1 0 ek1 0,m16]),(en,.row 89 2 9 (enC bt bm)),(nm,.map es1),(ev1,.row 98 3 ek1 evs1)]++U1)/\Q c es1 ev1 ek1 evs1 U1) :
  HF Tryz.prog 295 [.ptr mc 0,Zs nb] N ([(mc,.cells [.sl en 0 9 0,m1,m2,m3,m4,m5,.fn 25 [] [],m7,m8,.mp nm,Zz,m11,m12,m13,m14,.sl ev 0 ek 0,m16]),(en,.row 89 2 9 (enC bt bm)),(nm,.map es),(ev,.row 98 3 ek evs)]++U) fun u N' H'=>∃ c es1 ev1 ek1 evs1 U1,u=.ifc 323 (.agg [.ptr c 0])/\H'=([(mc,.cells [.sl en 0 9 0,m1,m2,m3,m4,m5,.fn 25 [] [],m7,m8,.mp nm,Zz,m11,m12,m13,m14,.sl ev1 0 ek1 0,m16]),(en,.row 89 2 9 (enC bt bm)),(nm,.map (putM nb (SV.ifc 323 (.agg [.ptr c 0])) es1)),(ev1,.row 98 3 ek1 evs1)]++U1)/\Q c es1 ev1 ek1 evs1 U1:=by
 refine hf1 Tryz.func295 J Tryz.ntmps295 fun _ _ _ _=>?_;refine Zd (Za 1 [] [(4,Zf)] [] (Z1 (Zd (Za 5 [0] [(12,SV.mp nm),(13,Zs nb)] [] ?_))));refine Nd (i:=2) (e:=325) (z:=.nilIface) (v:=.tup [Zf,Zb false]) J J (by kernel_rfl) (by kernel_rfl) J J J (fun _ h=>by cases h<;>rfl) J (by rw [hn];rfl) rfl ?_;refine Za 5 [] [(5,Zf),(6,Zb false)] [] (Zx (Za 1 [] [(17,Zb false)] [] (Zg (Z6 J (Ya (Yh (Za 7 [0] [(22,SV.mp nm),(23,Zs nb),(25,SV.ifc 328 (SV.agg [Zs ((ByteArray.mk #[67,105,114,99,117,108,97,114]))]))] [] (Q9 (i:=2) (e:=325) ([(mc,Zc [Zk en 0 9 0,m1,m2,m3,m4,m5,Zh 25 [] [],m7,m8,SV.mp nm,Zz,m11,m12,m13,m14,Zk ev 0 ek 0,m16]),(en,Zw 89 2 9 (enC bt bm)),(nm,SB.map (putM nb (SV.ifc 328 (SV.agg [Zs ((ByteArray.mk #[67,105,114,99,117,108,97,114]))])) es)),(ev,Zw 98 3 ek evs)]++U) J J J (by kernel_rfl) J J J J J J J (J) ?_))))))));refine Zx (Za 2 [] [(26,Zq mc 0),(27,Zs nb)] [] (Xo 4 [0,1,2,3] [] Zj J J J J (hA _) ?_));rintro _ N1 _ ⟨c,es1,ev1,ek1,evs1,U1,rfl,rfl,hQ⟩;refine ⟨_,([(mc,Zc [Zk en 0 9 0,m1,m2,m3,m4,m5,Zh 25 [] [],m7,m8,SV.mp nm,Zz,m11,m12,m13,m14,Zk ev1 0 ek1 0,m16]),(en,Zw 89 2 9 (enC bt bm)),(nm,SB.map es1),(ev1,Zw 98 3 ek1 evs1)]++U1),J,Yo (A:=[(mc,.cells [Zk en 0 9 0,m1,m2,m3,m4,m5,Zh 25 [] [],m7,m8,SV.mp nm,Zz,m11,m12,m13,m14,Zk ev1 0 ek1 0,m16]),(en,.row 89 2 9 (enC bt bm)),(nm,.map es1),(ev1,.row 98 3 ek1 evs1)]) (R:=[]) (T:=U1),?_⟩;refine Za 1 [] [(7,SV.ifc 323 (SV.agg [Zq c 0]))] [] (Zx (Za 6 [0] [(32,SV.mp nm),(33,Zs nb),(34,SV.ifc 323 (SV.agg [Zq c 0]))] [] (Q9 (i:=2) (e:=325) ([(mc,Zc [Zk en 0 9 0,m1,m2,m3,m4,m5,Zh 25 [] [],m7,m8,SV.mp nm,Zz,m11,m12,m13,m14,Zk ev1 0 ek1 0,m16]),(en,Zw 89 2 9 (enC bt bm)),(nm,SB.map (putM nb (SV.ifc 323 (SV.agg [Zq c 0])) es1)),(ev1,Zw 98 3 ek1 evs1)]++U1) J J J (by kernel_rfl) J J J J J J J (J) ?_)));refine Zx (Za 2 [] [(4,SV.ifc 323 (SV.agg [Zq c 0]))] [] (Zg (Yc (Wk 4 [0,1,2,3] (.inr J) Zj J ?_))));exact ⟨c,es1,ev1,ek1,evs1,U1,J,J,hQ⟩
end
structure Ml where
 (mc en nm:Nat) (bm:ByteArray) (m1 m2 m3 m4 m5 m7 m8 m11 m12 m13 m14 m16:SV)
abbrev Ml.H (x:Ml) (bt:Nat->Bool) (ev ek:Nat) (evs:List SV) (es:List (ByteArray × SV)) (U:Ch):Ch:=[(x.mc,.cells [.sl x.en 0 9 0,x.m1,x.m2,x.m3,x.m4,x.m5,.fn 25 [] [],x.m7,x.m8,.mp x.nm,Zz,x.m11,x.m12,x.m13,x.m14,.sl ev 0 ek 0,x.m16]),(x.en,.row 89 2 9 (enC bt x.bm)),(x.nm,.map es),(ev,.row 98 3 ek evs)]++U
structure Grown (bt:Nat->Bool) (ob k:Nat) (ls:List LP) (es:List (ByteArray × SV)) (ls':List LP) (es':List (ByteArray × SV)):Prop where
 len:ls'.length=max ls.length (k+1)
 wf:Wf bt ls'
 ok:NmOk ob es' ls'
 old:∀ key,(∀ j,j<=k->key≠nmL j)->findS key es'=findS key es
 ext:∃ new,ls'=new++ls/\∀ p ∈ new,p.up=false
section
variable {bt:Nat->Bool} {ob:Nat}
theorem S9 {p:LP} {r:List LP} {j:Nat} (h:j=r.length):cAt (p::r) j=p.c:=by unfold cAt;rw [if_pos h]
theorem Q6 {p:LP} {r:List LP} {j:Nat} (h:j≠r.length):cAt (p::r) j=cAt r j:=by show (if _ then _ else _)=_;rw [if_neg h]
theorem NmOk.more {es:List (ByteArray × SV)} {p:LP} {r:List LP} (h:NmOk ob es r) (hr:r.length<8):NmOk ob (putM (nmL r.length) (.ifc 323 (.agg [.ptr p.c 0])) es) (p::r):=by
 refine ⟨by rw [Xw (Zae hr)];exact h.top,fun j hj=>?_⟩;rw [List.length_cons] at hj;by_cases e:j=r.length
 ·subst e;rw [Mp,S9 rfl]
 ·rw [Xw (fun he=>e (Po (by omega) hr he)),Q6 e];exact h.at_ j (by omega)
theorem NmOk.put {es:List (ByteArray × SV)} {ls:List LP} {v:SV} {k:Nat} (h:NmOk ob es ls) (hk:k<8) (hl:ls.length<=k):NmOk ob (putM (nmL k) v es) ls :=
 ⟨by rw [Xw (Zae hk)];exact h.top,fun j hj=>by rw [Xw (fun he=>by have:=Po (by omega) hk he;omega)];exact h.at_ j hj⟩
theorem haveL (x:Ml):∀ (k:Nat),k<8->∀ (ls:List LP) (es:List (ByteArray × SV)),Wf bt ls->NmOk ob es ls->(∀ j,ls.length<=j->j<=k->findS (nmL j) es=none)->∀ (N ev ek:Nat) (evs:List SV),evs.length=ek*3->ek+k<=20000 ->
  HF Tryz.prog 295 [.ptr x.mc 0,Zs (nmL k)] N (x.H bt ev ek evs es (lnB ob ls)) fun u N' H'=>∃ ls' es' ev',u=.ifc 323 (.agg [.ptr (cAt ls' k) 0])/\H'=x.H bt ev' (ek+(k+1 - ls.length)) (evs++Ye (k+1 - ls.length) k) es' (lnB ob ls')/\Grown bt ob k ls es ls' es':=by
 have found:∀ (k:Nat) (ls:List LP) (es:List (ByteArray × SV)),Wf bt ls->NmOk ob es ls->k<ls.length->∀ (N ev ek:Nat) (evs:List SV),
   HF Tryz.prog 295 [.ptr x.mc 0,Zs (nmL k)] N (x.H bt ev ek evs es (lnB ob ls)) fun u N' H'=>∃ ls' es' ev',u=.ifc 323 (.agg [.ptr (cAt ls' k) 0])/\H'=x.H bt ev' (ek+(k+1 - ls.length)) (evs++Ye (k+1 - ls.length) k) es' (lnB ob ls')/\Grown bt ob k ls es ls' es':=by
  intro k ls es hw hok hlt N ev ek evs;have h:=HF.pickT (k:=4) (k2:=4) (A:=[(x.mc,.cells [.sl x.en 0 9 0,x.m1,x.m2,x.m3,x.m4,x.m5,.fn 25 [] [],x.m7,x.m8,.mp x.nm,Zz,x.m11,x.m12,x.m13,x.m14,.sl ev 0 ek 0,x.m16]),(x.en,.row 89 2 9 (enC bt x.bm)),(x.nm,.map es),(ev,.row 98 3 ek evs)]) (U:=lnB ob ls) [0,2] [1,3] [0,2,1,3] (Ut (N:=N) (hok.at_ k hlt)) rfl (by decide) rfl (by decide) rfl;refine h.mono ?_;rintro u N' H' ⟨rfl,rfl,rfl⟩;have e:k+1 - ls.length=0:=by omega
  refine ⟨ls,es,ev,J,?_,⟨by omega,hw,hok,fun _ _=>J,[],J,fun p hp=>by cases hp⟩⟩;rw [e];show _=x.H bt ev ek (evs++[]) es (lnB ob ls);rw [List.append_nil];rfl
 intro k;induction k with
 | zero =>
  intro _ ls es hw hok hno N ev ek evs he hek;by_cases hl:0<ls.length
  ·exact found 0 ls es hw hok hl N ev ek evs
  ·have:ls=[]:=List.length_eq_zero_iff.1 (by omega);subst this;refine (Im (Q:=fun c es1 ev1 ek1 evs1 U1=>∃ p:LP,p.j=0/\p.b=bt 0/\p.up=false/\c=p.c/\es1=putM (nmL 0) G8 es/\ek1=ek+1/\evs1=evs++evA 0/\U1=lnB ob [p]) (hno 0 (by simp) (by omega)) (fun N=>?_)).mono ?_
   ·have ho:=(hok.put (v:=G8) (k:=0) (by omega) (by simp)).top;cases hb:bt 0 with
    | true=>exact (ask_t0 hb he (by omega) ho).mono fun u N' H' ⟨p,ev1,h1,h2,h3,h4,h5⟩=>⟨p.c,_,ev1,_,_,_,h4,h5,p,h1,h2,h3,rfl,rfl,rfl,rfl,rfl⟩
    | false=>exact (ask_f0 hb he (by omega) ho).mono fun u N' H' ⟨p,ev1,h1,h2,h3,h4,h5⟩=>⟨p.c,_,ev1,_,_,_,h4,h5,p,h1,h2,h3,rfl,rfl,rfl,rfl,rfl⟩
   ·rintro u N' H' ⟨c,es1,ev1,ek1,evs1,U1,rfl,rfl,p,hj,hpb,hst,rfl,rfl,rfl,rfl,rfl⟩;refine ⟨[p],_,ev1,by rw [S9 (show 0=([]:List LP).length from J)],J,⟨J,⟨hj,by rw [hj];exact hpb,trivial⟩,?_,fun key hk=>?_,[p],J,fun q hq=>by cases List.mem_singleton.1 hq;exact hst⟩⟩
    ·exact (hok.put (k:=0) (by omega) (by simp)).more (r:=[]) (by decide)
    ·rw [Xw (hk 0 (by omega)),Xw (hk 0 (by omega))]
 | succ k ih =>
  intro hk ls es hw hok hno N ev ek evs he hek;by_cases hl:k+1<ls.length
  ·exact found (k+1) ls es hw hok hl N ev ek evs
  ·have hl':ls.length<=k+1:=by omega
   refine (Im (Q:=fun c es1 ev1 ek1 evs1 U1=>∃ (p q:LP) (r:List LP),p.j=k+1/\p.b=bt (k+1)/\p.up=false/\c=p.c/\ek1=ek+1+(k+1 - ls.length)/\evs1=evs++evA (k+1)++Ye (k+1 - ls.length) k/\U1=lnB ob (p::q::r)/\Grown bt ob k ls (putM (nmL (k+1)) G8 es) (q::r) es1) (hno (k+1) hl' (by omega)) (fun N=>?_)).mono ?_
   ·have hok0:=hok.put (v:=G8) hk hl'
    have hno0:∀ j,ls.length<=j->j<=k->findS (nmL j) (putM (nmL (k+1)) G8 es)=none:=fun j h1 h2=>by
     rw [Xw (fun hh=>by have:=Po (by omega) hk hh;omega)];exact hno j h1 (by omega)
    have hH:=fun (N ev ek':Nat) (evs:List SV) (h1:evs.length=ek'*3) (h2:ek'<=20000 - k)=>(ih (by omega) ls _ hw hok0 hno0 N ev ek' evs h1 (by omega)).mono (R':=fun u N' H'=>∃ (q:LP) (r:List LP) (es1:List (ByteArray × SV)) (ev1:Nat),u=.ifc 323 (.agg [.ptr q.c 0])/\H'=x.H bt ev1 (ek'+(k+1 - ls.length)) (evs++Ye (k+1 - ls.length) k) es1 (lnB ob (q::r))/\Grown bt ob k ls (putM (nmL (k+1)) G8 es) (q::r) es1) fun u N' H' ⟨ls',es',ev',a1,a2,a3⟩=>by
     have hlen:=a3.len
     match ls',hlen with
     | [],hlen=>simp at hlen;omega
     | q::r,hlen =>
      simp only [List.length_cons] at hlen;rw [S9 (by omega)] at a1;exact ⟨q,r,es',ev',a1,a2,a3⟩
    have hP:∀ (q:LP) (r:List LP) (es1:List (ByteArray × SV)),Grown bt ob k ls (putM (nmL (k+1)) G8 es) (q::r) es1->r.length<=6:=fun q r es1 h=>by
     have:=h.len;simp only [List.length_cons] at this;omega
    cases hb:bt (k+1) with
    | true=>exact (ask_t1 (E:=20000 - k) hk hb he (by omega) (by omega) hP hH).mono fun u N' H' ⟨p,q,r,es1,ev1,h1,h2,h3,h4,h5,h6⟩=>⟨p.c,es1,ev1,_,_,_,h4,h5,p,q,r,h1,h2,h3,rfl,rfl,rfl,rfl,h6⟩
    | false=>exact (ask_f1 (E:=20000 - k) hk hb he (by omega) (by omega) hP hH).mono fun u N' H' ⟨p,q,r,es1,ev1,h1,h2,h3,h4,h5,h6⟩=>⟨p.c,es1,ev1,_,_,_,h4,h5,p,q,r,h1,h2,h3,rfl,rfl,rfl,rfl,h6⟩
   ·rintro u N' H' ⟨c,es1,ev1,ek1,evs1,U1,rfl,rfl,p,q,r,hj,hpb,hst,rfl,rfl,rfl,rfl,hG⟩;have hlen:=hG.len;simp only [List.length_cons] at hlen;obtain ⟨new,hnew,hz⟩:=hG.ext;have e1:k+1+1 - ls.length=(k+1 - ls.length)+1:=by omega
    refine ⟨p::q::r,putM (nmL (k+1)) (.ifc 323 (.agg [.ptr p.c 0])) es1,ev1,by rw [S9 (by simp only [List.length_cons];omega)],?_,⟨by simp only [List.length_cons];omega,⟨by rw [hj,List.length_cons];omega,by rw [hj];exact hpb,hG.wf⟩,?_,fun key hkey=>?_,p::new,by rw [hnew];rfl,fun z hz'=>?_⟩⟩
    ·rw [e1];show _=x.H bt ev1 (ek+(k+1 - ls.length+1)) (evs++(evA (k+1)++Ye (k+1 - ls.length) k)) _ _;rw [<- List.append_assoc,show ek+(k+1 - ls.length+1)=ek+1+(k+1 - ls.length) by omega]
    ·have:=hG.ok.more (p:=p) (r:=q::r) (by simp only [List.length_cons];omega);rw [show (q::r).length=k+1 by simp only [List.length_cons];omega] at this;exact this
    ·rw [Xw (hkey (k+1) (by omega)),hG.old key (fun j hj=>hkey j (by omega)),Xw (hkey (k+1) (by omega))]
    ·rcases List.mem_cons.1 hz' with rfl | h
     ·exact hst
     ·exact hz z h
end
end S
namespace S
open Go Go.RowKit E
abbrev okK:SV:=.tup [Zz,Zi 0,Zi 0,Zi 0]
section
set_option maxRecDepth 100000
variable {N rf rc rm:Nat}
theorem Xy {f:FuncId} {args:List SV} {bs:List Nat} {Bs:List SB} {v:SV} (k:Nat) (h:outK (R1 k (.call f args (stOf Bs))) bs N=some (v,inH bs N Bs)) (hl:bs.length=Bs.length) (hlim:Bs.length<=1000) (hv:∀ B B',den B v=den B' v) :
  HF Tryz.prog f (X3 (rho bs N) args) N (inH bs N Bs) fun u N' H'=>u=v/\N'=N/\H'=inH bs N Bs:=by
 have h2:=HF.forget (v:=v) (List.range (inH bs N Bs).length) (Q1 k h hl hlim) List.nodup_range hv (fun u N' H' h=>⟨h.1,fun p hp=>by rw [h.2];exact Yq hp⟩)
 have e:Yd (inH bs N Bs) (List.range (inH bs N Bs).length)=inH bs N Bs:=by
  have:=Uq [] (inH bs N Bs);simp only [List.nil_append,List.length_nil] at this;rw [List.range_eq_range'];exact this
 rw [e] at h2;exact h2
theorem chk_t0:HF Tryz.prog 18 [.agg [Zs (nmL 0),Zs (spL 0),.sl rf 0 1 0,.sl rm 0 1 0]] N [(rf,.row 128 4 1 Yk),(rc,Yr 0),(rm,Yy rc)] fun u N' H'=>u=okK/\N'=N/\H'=[(rf,.row 128 4 1 Yk),(rc,Yr 0),(rm,Yy rc)] :=
 Xy (bs:=[rf,rc,rm]) (Bs:=[.row 128 4 1 Yk,Yr 0,Yy 1]) (args:=[.agg [Zs (nmL 0),Zs (spL 0),.sl 0 0 1 0,.sl 2 0 1 0]]) 20000 (by as_aux_lemma=>kernel_rfl) rfl (by decide) (fun _ _=>rfl)
theorem chk_f0:HF Tryz.prog 18 [.agg [Zs (nmL 0),Zs (spL 0),.sl rf 0 1 0,Zz]] N [(rf,.row 128 4 1 Yk)] fun u N' H'=>u=okK/\N'=N/\H'=[(rf,.row 128 4 1 Yk)] :=
 Xy (bs:=[rf]) (Bs:=[.row 128 4 1 Yk]) (args:=[.agg [Zs (nmL 0),Zs (spL 0),.sl 0 0 1 0,Zz]]) 20000 (by as_aux_lemma=>kernel_rfl) rfl (by decide) (fun _ _=>rfl)
theorem chk_t1:HF Tryz.prog 18 [.agg [Zs (nmL 1),Zs (spL 1),.sl rf 0 1 0,.sl rm 0 1 0]] N [(rf,.row 128 4 1 Yk),(rc,Yr 1),(rm,Yy rc)] fun u N' H'=>u=okK/\N'=N/\H'=[(rf,.row 128 4 1 Yk),(rc,Yr 1),(rm,Yy rc)] :=
 Xy (bs:=[rf,rc,rm]) (Bs:=[.row 128 4 1 Yk,Yr 1,Yy 1]) (args:=[.agg [Zs (nmL 1),Zs (spL 1),.sl 0 0 1 0,.sl 2 0 1 0]]) 20000 (by as_aux_lemma=>kernel_rfl) rfl (by decide) (fun _ _=>rfl)
theorem chk_f1:HF Tryz.prog 18 [.agg [Zs (nmL 1),Zs (spL 1),.sl rf 0 1 0,Zz]] N [(rf,.row 128 4 1 Yk)] fun u N' H'=>u=okK/\N'=N/\H'=[(rf,.row 128 4 1 Yk)] :=
 Xy (bs:=[rf]) (Bs:=[.row 128 4 1 Yk]) (args:=[.agg [Zs (nmL 1),Zs (spL 1),.sl 0 0 1 0,Zz]]) 20000 (by as_aux_lemma=>kernel_rfl) rfl (by decide) (fun _ _=>rfl)
theorem chk_t2:HF Tryz.prog 18 [.agg [Zs (nmL 2),Zs (spL 2),.sl rf 0 1 0,.sl rm 0 1 0]] N [(rf,.row 128 4 1 Yk),(rc,Yr 2),(rm,Yy rc)] fun u N' H'=>u=okK/\N'=N/\H'=[(rf,.row 128 4 1 Yk),(rc,Yr 2),(rm,Yy rc)] :=
 Xy (bs:=[rf,rc,rm]) (Bs:=[.row 128 4 1 Yk,Yr 2,Yy 1]) (args:=[.agg [Zs (nmL 2),Zs (spL 2),.sl 0 0 1 0,.sl 2 0 1 0]]) 20000 (by as_aux_lemma=>kernel_rfl) rfl (by decide) (fun _ _=>rfl)
theorem chk_f2:HF Tryz.prog 18 [.agg [Zs (nmL 2),Zs (spL 2),.sl rf 0 1 0,Zz]] N [(rf,.row 128 4 1 Yk)] fun u N' H'=>u=okK/\N'=N/\H'=[(rf,.row 128 4 1 Yk)] :=
 Xy (bs:=[rf]) (Bs:=[.row 128 4 1 Yk]) (args:=[.agg [Zs (nmL 2),Zs (spL 2),.sl 0 0 1 0,Zz]]) 20000 (by as_aux_lemma=>kernel_rfl) rfl (by decide) (fun _ _=>rfl)
theorem chk_t3:HF Tryz.prog 18 [.agg [Zs (nmL 3),Zs (spL 3),.sl rf 0 1 0,.sl rm 0 1 0]] N [(rf,.row 128 4 1 Yk),(rc,Yr 3),(rm,Yy rc)] fun u N' H'=>u=okK/\N'=N/\H'=[(rf,.row 128 4 1 Yk),(rc,Yr 3),(rm,Yy rc)] :=
 Xy (bs:=[rf,rc,rm]) (Bs:=[.row 128 4 1 Yk,Yr 3,Yy 1]) (args:=[.agg [Zs (nmL 3),Zs (spL 3),.sl 0 0 1 0,.sl 2 0 1 0]]) 20000 (by as_aux_lemma=>kernel_rfl) rfl (by decide) (fun _ _=>rfl)
theorem chk_f3:HF Tryz.prog 18 [.agg [Zs (nmL 3),Zs (spL 3),.sl rf 0 1 0,Zz]] N [(rf,.row 128 4 1 Yk)] fun u N' H'=>u=okK/\N'=N/\H'=[(rf,.row 128 4 1 Yk)] :=
 Xy (bs:=[rf]) (Bs:=[.row 128 4 1 Yk]) (args:=[.agg [Zs (nmL 3),Zs (spL 3),.sl 0 0 1 0,Zz]]) 20000 (by as_aux_lemma=>kernel_rfl) rfl (by decide) (fun _ _=>rfl)
theorem chk_t4:HF Tryz.prog 18 [.agg [Zs (nmL 4),Zs (spL 4),.sl rf 0 1 0,.sl rm 0 1 0]] N [(rf,.row 128 4 1 Yk),(rc,Yr 4),(rm,Yy rc)] fun u N' H'=>u=okK/\N'=N/\H'=[(rf,.row 128 4 1 Yk),(rc,Yr 4),(rm,Yy rc)] :=
 Xy (bs:=[rf,rc,rm]) (Bs:=[.row 128 4 1 Yk,Yr 4,Yy 1]) (args:=[.agg [Zs (nmL 4),Zs (spL 4),.sl 0 0 1 0,.sl 2 0 1 0]]) 20000 (by as_aux_lemma=>kernel_rfl) rfl (by decide) (fun _ _=>rfl)
theorem chk_f4:HF Tryz.prog 18 [.agg [Zs (nmL 4),Zs (spL 4),.sl rf 0 1 0,Zz]] N [(rf,.row 128 4 1 Yk)] fun u N' H'=>u=okK/\N'=N/\H'=[(rf,.row 128 4 1 Yk)] :=
 Xy (bs:=[rf]) (Bs:=[.row 128 4 1 Yk]) (args:=[.agg [Zs (nmL 4),Zs (spL 4),.sl 0 0 1 0,Zz]]) 20000 (by as_aux_lemma=>kernel_rfl) rfl (by decide) (fun _ _=>rfl)
theorem chk_t5:HF Tryz.prog 18 [.agg [Zs (nmL 5),Zs (spL 5),.sl rf 0 1 0,.sl rm 0 1 0]] N [(rf,.row 128 4 1 Yk),(rc,Yr 5),(rm,Yy rc)] fun u N' H'=>u=okK/\N'=N/\H'=[(rf,.row 128 4 1 Yk),(rc,Yr 5),(rm,Yy rc)] :=
 Xy (bs:=[rf,rc,rm]) (Bs:=[.row 128 4 1 Yk,Yr 5,Yy 1]) (args:=[.agg [Zs (nmL 5),Zs (spL 5),.sl 0 0 1 0,.sl 2 0 1 0]]) 20000 (by as_aux_lemma=>kernel_rfl) rfl (by decide) (fun _ _=>rfl)
theorem chk_f5:HF Tryz.prog 18 [.agg [Zs (nmL 5),Zs (spL 5),.sl rf 0 1 0,Zz]] N [(rf,.row 128 4 1 Yk)] fun u N' H'=>u=okK/\N'=N/\H'=[(rf,.row 128 4 1 Yk)] :=
 Xy (bs:=[rf]) (Bs:=[.row 128 4 1 Yk]) (args:=[.agg [Zs (nmL 5),Zs (spL 5),.sl 0 0 1 0,Zz]]) 20000 (by as_aux_lemma=>kernel_rfl) rfl (by decide) (fun _ _=>rfl)
theorem chk_t6:HF Tryz.prog 18 [.agg [Zs (nmL 6),Zs (spL 6),.sl rf 0 1 0,.sl rm 0 1 0]] N [(rf,.row 128 4 1 Yk),(rc,Yr 6),(rm,Yy rc)] fun u N' H'=>u=okK/\N'=N/\H'=[(rf,.row 128 4 1 Yk),(rc,Yr 6),(rm,Yy rc)] :=
 Xy (bs:=[rf,rc,rm]) (Bs:=[.row 128 4 1 Yk,Yr 6,Yy 1]) (args:=[.agg [Zs (nmL 6),Zs (spL 6),.sl 0 0 1 0,.sl 2 0 1 0]]) 20000 (by as_aux_lemma=>kernel_rfl) rfl (by decide) (fun _ _=>rfl)
theorem chk_f6:HF Tryz.prog 18 [.agg [Zs (nmL 6),Zs (spL 6),.sl rf 0 1 0,Zz]] N [(rf,.row 128 4 1 Yk)] fun u N' H'=>u=okK/\N'=N/\H'=[(rf,.row 128 4 1 Yk)] :=
 Xy (bs:=[rf]) (Bs:=[.row 128 4 1 Yk]) (args:=[.agg [Zs (nmL 6),Zs (spL 6),.sl 0 0 1 0,Zz]]) 20000 (by as_aux_lemma=>kernel_rfl) rfl (by decide) (fun _ _=>rfl)
theorem chk_t7:HF Tryz.prog 18 [.agg [Zs (nmL 7),Zs (spL 7),.sl rf 0 1 0,.sl rm 0 1 0]] N [(rf,.row 128 4 1 Yk),(rc,Yr 7),(rm,Yy rc)] fun u N' H'=>u=okK/\N'=N/\H'=[(rf,.row 128 4 1 Yk),(rc,Yr 7),(rm,Yy rc)] :=
 Xy (bs:=[rf,rc,rm]) (Bs:=[.row 128 4 1 Yk,Yr 7,Yy 1]) (args:=[.agg [Zs (nmL 7),Zs (spL 7),.sl 0 0 1 0,.sl 2 0 1 0]]) 20000 (by as_aux_lemma=>kernel_rfl) rfl (by decide) (fun _ _=>rfl)
theorem chk_f7:HF Tryz.prog 18 [.agg [Zs (nmL 7),Zs (spL 7),.sl rf 0 1 0,Zz]] N [(rf,.row 128 4 1 Yk)] fun u N' H'=>u=okK/\N'=N/\H'=[(rf,.row 128 4 1 Yk)] :=
 Xy (bs:=[rf]) (Bs:=[.row 128 4 1 Yk]) (args:=[.agg [Zs (nmL 7),Zs (spL 7),.sl 0 0 1 0,Zz]]) 20000 (by as_aux_lemma=>kernel_rfl) rfl (by decide) (fun _ _=>rfl)
end
end S
end Go.Proofs.YtpofmnfkdkmieaaGreat
