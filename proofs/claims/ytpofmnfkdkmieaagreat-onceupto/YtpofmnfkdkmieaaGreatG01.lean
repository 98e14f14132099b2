/- What is proved here: part 01. -/
import Derived.Deep.Quiet
import Derived.Defers
import Derived.DefersIn
import Derived.Laws.BytesString
import Derived.Laws.MakeOwn
import Derived.Lib.AppendStr
import Derived.Lib.BufferWrite
import Derived.Lib.UnsafeStr
import Derived.MapKept
import Derived.Orders
import Derived.OrdersIn
import Derived.RangeFuncIn
import Derived.RangeFuncLeaves
import Derived.RangeFuncRecord
import Derived.Recover
import Derived.TacticsIn
import Derived.Test.YtpofmnfkdkmieaaGreatProg
import Derived.WalkKit
import Derived.WalkLawsBesides
import Derived.WalkSpells
import GoSem.Op.String
set_option linter.all false
universe u
open Array renaming getElem?_push->Qa,mapM_eq_mapM_toList->aaV,range->Qd,size->aj,toList->aG,toList_push->aaY
open Array.mk renaming injEq->aaX
open Bool renaming false->N,true->K
open ByteArray renaming data_append->Kl,ext->CG,mk->iK,size->bf
open Decidable renaming decide->cj
open Go renaming Act->aX,Code->ek,Edge->vY,Ending->qX,Frame->xX,Func->qY,FuncId->cV,IntKind->qZ,MapEntry->uE,Oper->ah,Operand->dW,Program->aD,ResultVar->Fl,RoundIn->Fm,StepsIn->Cp,TypeId->fV,TypeInfo->xA,Value->bh,World->ap,asIntOf->sa,binOp->eT,builtin->sb,callFunc->zu,eqGuard->um,execOp->aY,exitTo->zv,fenced_calm->zw,getObj->vH,goInt->ju,info_parts->aak,invoke->iH,isAgg->un,loadVar->JJ,lone->hZ,madeCells->JK,maxLen->mJ,newRow->Ft,program->Cv,resolve->i1,results->uo,run_equalIn_string->PM,run_underlying->cE,setRow_heap->JL,setRow_other->JM,sizeOf->qQ,storeCells->zx,typeInfo->xD,undef->ee,wpIn_block->JP,wpIn_mono->ia,wpListIn->fA,wpList_plain->zy,zeroValue->JQ
open Go.Addr renaming add->FK,add_lit->sg
open Go.Builtin renaming append_->tg,copy_->Ql,firstCells->uz,lenOf->uA,len_->FL
open Go.ByteArray renaming toList_eq->Km
open Go.CallsDIn renaming mono->Qm
open Go.CallsIn renaming mono->uC
open Go.Code renaming loop->Qr
open Go.Deferred renaming ofValue->vX
open Go.Exit renaming inBlock->pu
open Go.Frame renaming atR->Ko
open Go.Frame.mk renaming injEq->aa8
open Go.Goroutine.mk renaming injEq->aba
open Go.Instr renaming checkKey->zM,endRound->FO,fieldAt->abb,fill->Kq,findAsking->Qz,findKey->CK,findNow->CL,indexAt->QA,keyThatStays->Ks,loadAt->QB,lookup->abc,mapUpdate->zN,sameBits->Kt,sameNow->abe,slice->vZ,sliceAt->wa,sliceBound->xY,sliceBounds->wb,sureAddr->zO,typeAssert->abg,yield->FP
open Go.IntKind renaming i64->gF
open Go.Lib renaming byteCells->xZ,run_append_own_string->abl,strCells->abm
open Go.Machine renaming fenced->ya
open Go.Machine.mk renaming injEq->abn
open Go.MapKept renaming run_getObj_map->QD,run_setObj_map->abo
open Go.Op renaming bytesLess->mP,equal->Kw,equalIn->qb,intArith->FR,intCmp->yb,stringOp->zP
open Go.Oper renaming semAt_eq->fC,wp->uF
open Go.Proofs.Tryz renaming func242->abK,prog->T,underlying136->Q7
open Go.Region renaming binds->hY,wanted->ls
open Go.Result renaming andThen->JE,andThen_ok->hF
open Go.RoundIn renaming mono->PG
open Go.RowKit renaming Below->po
open Go.RowKit.Below renaming refl->xz
open Go.Sem renaming run->Fo,run_bind->fN,run_pure->jt
open Go.Value renaming agg->pp,func->Cq,int->kN,ownBlock->Fp
open Go.World renaming cell?->rZ,freeze->aag,ownsRow_nil->aso,putObj_heap_other->JH,putObj_size->PK
open Int renaming ofNat->fW,toNat_natCast->ast
open List renaming forall_mem_cons->zA,forall_mem_nil->zB,getElem?_toArray->asG,length->Y,mapM_cons->asN,rec->vM,toArray->E
open List.cons renaming injEq->zz
open Nat renaming add->zD,beq->aw,ble->cY,blt->cc,div->pZ,lor->J3,mod->te,pred->xO,strongRecOn->vO,sub->J8,succ->vP,testBit->ic
open Option renaming casesOn->as9,none->Z,some->Q
open Option.some renaming inj->cx,injEq->hJ
open Pure renaming pure->uu
open UInt8 renaming ofNat->xR
set_option maxRecDepth 100000
set_option maxHeartbeats 4000000
noncomputable section
namespace Go.Proofs.YtpofmnfkdkmieaaGreat
open Tryz Go Go.RowKit
abbrev bv:=Array
abbrev aJ:=Bool
abbrev ac:=ByteArray
abbrev W:=List
abbrev S:=Option
abbrev aE:=@absurd
abbrev dE:=@cond_false
abbrev b4:=@cond_true
abbrev b9:=@congrArg
abbrev ps:=@decide_eq_false
abbrev iy:=@decide_eq_true
abbrev gV:=@if_false
abbrev ak:=@if_neg
abbrev aC:=@if_pos
abbrev jy:=@if_true
abbrev zG:=@of_decide_eq_false
abbrev ej:=@of_decide_eq_true
theorem J{α:Sort u}{a:α}:a=a:=rfl
abbrev C:=@trivial
abbrev P8:=@Array.eq_empty_of_size_eq_zero
abbrev Kg:=@Array.ext_getElem?
abbrev P9:=@Array.foldl_toList
abbrev qV:=@Array.getD_eq_getD_getElem?
abbrev xS:=@Array.getElem?_append_left
abbrev zH:=@Array.getElem?_eq_getElem
abbrev uv:=@Array.getElem?_eq_none
abbrev uw:=@Array.getElem?_eq_some_iff
abbrev ux:=@Array.getElem?_modify
abbrev Qb:=@Array.getElem?_replicate
abbrev vQ:=@Array.getElem?_setIfInBounds
abbrev Kh:=@Array.getElem?_setIfInBounds_ne
abbrev Qc:=@Array.getElem?_setIfInBounds_self_of_lt
abbrev FJ:=@Array.getElem?_toList
abbrev Ki:=@Array.getElem_mem_toList
abbrev pt:=@Array.length_toList
abbrev aaW:=@Array.mem_of_getElem?
abbrev xT:=@Array.size_append
abbrev vS:=@Array.size_replicate
abbrev vT:=@Array.size_setIfInBounds
abbrev uy:=@Array.toArray_toList
abbrev Qe:=@Array.toList_inj
abbrev aaZ:=@Array.toList_setIfInBounds
abbrev cQ:=@Bool.and_eq_true
abbrev sf:=@Bool.and_false
abbrev me:=@Bool.and_self
abbrev xU:=@Bool.and_true
abbrev jz:=@Bool.eq_false_iff
abbrev Kk:=@Bool.eq_iff_iff
abbrev qW:=@Bool.false_and
abbrev ie:=@Bool.false_eq_true
abbrev zI:=@Bool.false_ne_true
abbrev xV:=@Bool.false_or
abbrev Qf:=@Bool.not_eq_false
abbrev mf:=@Bool.not_eq_true
abbrev zJ:=@Bool.not_eq_true'
abbrev aa2:=@Bool.not_false
abbrev xW:=@Bool.not_true
abbrev lu:=@Bool.or_eq_true
abbrev Qg:=@Bool.or_false
abbrev qa:=@Bool.true_and
abbrev Fv:=@Int.natCast_nonneg
abbrev vI:=@Int.not_lt
abbrev dw:=@Int.ofNat_eq_natCast
abbrev sc:=@Int.toNat_of_nonneg
abbrev aat:=@List.all_append
abbrev co:=@List.all_cons
abbrev lR:=@List.all_eq_true
abbrev cA:=@List.all_nil
abbrev PQ:=@List.any_append
abbrev xF:=@List.any_cons
abbrev CA:=@List.any_eq_false
abbrev fO:=@List.any_eq_true
abbrev hG:=@List.append_assoc
abbrev eF:=@List.append_nil
abbrev CB:=@List.cons_append
abbrev PR:=@List.count_pos_iff
abbrev asx:=@List.count_replicate
abbrev asy:=@List.count_set
abbrev aau:=@List.dropLast_concat
abbrev PS:=@List.drop_drop
abbrev asz:=@List.drop_left
abbrev aav:=@List.drop_of_length_le
abbrev vJ:=@List.drop_zero
abbrev aaw:=@List.eq_nil_iff_forall_not_mem
abbrev JS:=@List.eq_nil_of_length_eq_zero
abbrev qR:=@List.ext_getElem?
abbrev aax:=@List.filterMap_append
abbrev kO:=@List.filterMap_cons
abbrev Fy:=@List.filter_append
abbrev i2:=@List.filter_cons
abbrev uq:=@List.find?_cons
abbrev PT:=@List.find?_eq_none
abbrev aay:=@List.findIdx?_eq_none_iff
abbrev xG:=@List.findIdx?_eq_some_iff_getElem
abbrev JT:=@List.findSome?_eq_some_iff
abbrev xH:=@List.flatten_append
abbrev jT:=@List.flatten_cons
abbrev CC:=@List.foldl_append
abbrev qS:=@List.foldl_cons
abbrev asE:=@List.getElem?_append
abbrev gh:=@List.getElem?_append_left
abbrev md:=@List.getElem?_append_right
abbrev PW:=@List.getElem?_cons_succ
abbrev xI:=@List.getElem?_drop
abbrev e7:=@List.getElem?_eq_getElem
abbrev ix:=@List.getElem?_eq_none
abbrev JU:=@List.getElem?_eq_none_iff
abbrev bc:=@List.getElem?_eq_some_iff
abbrev cv:=@List.getElem?_map
abbrev qT:=@List.getElem?_modify
abbrev CD:=@List.getElem?_of_mem
abbrev sd:=@List.getElem?_range
abbrev JV:=@List.getElem?_set
abbrev zC:=@List.getElem?_set_ne
abbrev ur:=@List.getElem?_set_self
abbrev pW:=@List.getElem?_take
abbrev asF:=@List.getElem?_take_of_lt
abbrev aaA:=@List.getElem?_zip_eq_some
abbrev JW:=@List.getElem_idxOf
abbrev aaB:=@List.getLast?_append
abbrev asI:=@List.getLast?_cons
abbrev aaC:=@List.getLast?_singleton
abbrev asK:=@List.idxOf_cons
abbrev JX:=@List.idxOf_lt_length_of_mem
abbrev bJ:=@List.length_append
abbrev de:=@List.length_cons
abbrev pX:=@List.length_drop
abbrev JY:=@List.length_dropLast
abbrev xJ:=@List.length_filter_le
abbrev bk:=@List.length_map
abbrev Fz:=@List.length_modify
abbrev hH:=@List.length_nil
abbrev PY:=@List.length_pos_iff
abbrev aaE:=@List.length_range
abbrev xK:=@List.length_replicate
abbrev asL:=@List.length_reverse
abbrev ib:=@List.length_set
abbrev fB:=@List.length_singleton
abbrev jw:=@List.length_take
abbrev asM:=@List.length_zip
abbrev c2:=@List.map_append
abbrev c4:=@List.map_cons
abbrev pY:=@List.map_eq_nil_iff
abbrev asO:=@List.map_fst_zip
abbrev JZ:=@List.map_map
abbrev mK:=@List.map_nil
abbrev PZ:=@List.map_set
abbrev dl:=@List.mem_append
abbrev bS:=@List.mem_append_left
abbrev bo:=@List.mem_append_right
abbrev cB:=@List.mem_cons
abbrev i3:=@List.mem_cons_of_mem
abbrev hI:=@List.mem_cons_self
abbrev pq:=@List.mem_filter
abbrev us:=@List.mem_filterMap
abbrev J0:=@List.mem_flatten
abbrev iI:=@List.mem_iff_getElem?
abbrev cw:=@List.mem_map
abbrev jx:=@List.mem_map_of_mem
abbrev CE:=@List.mem_of_find?_eq_some
abbrev bl:=@List.mem_of_getElem?
abbrev aaH:=@List.mem_of_getLast?
abbrev asQ:=@List.mem_or_eq_of_mem_set
abbrev pr:=@List.mem_range
abbrev asR:=@List.mem_range'_1
abbrev eY:=@List.mem_singleton
abbrev P0:=@List.modify_cons
abbrev se:=@List.nil_append
abbrev iJ:=@List.nodup_append
abbrev gi:=@List.nodup_cons
abbrev tc:=@List.nodup_nil
abbrev P1:=@List.nodup_range'
abbrev vL:=@List.not_mem_nil
abbrev en:=@List.perm_append_comm
abbrev xL:=@List.perm_middle
abbrev aaI:=@List.range'_succ
abbrev aaJ:=@List.set_cons_succ
abbrev asW:=@List.set_cons_zero
abbrev aaK:=@List.size_toArray
abbrev J1:=@List.sublist_append_right
abbrev FA:=@List.take_add_one
abbrev mL:=@List.take_append_drop
abbrev aaL:=@List.take_append_of_le_length
abbrev td:=@List.take_length
abbrev gT:=@List.take_of_length_le
abbrev xM:=@List.take_succ
abbrev aaM:=@List.take_take
abbrev P3:=@Nat.add_assoc
abbrev FB:=@Nat.add_comm
abbrev P4:=@Nat.add_le_add_left
abbrev vN:=@Nat.add_mul
abbrev as1:=@Nat.add_sub_cancel
abbrev aaN:=@Nat.add_zero
abbrev cF:=@Nat.beq_refl
abbrev gU:=@Nat.ble_eq_true_of_le
abbrev b8:=@Nat.eq_of_beq_eq_true
abbrev P5:=@Nat.le_add_right
abbrev FC:=@Nat.le_mul_of_pos_right
abbrev ez:=@Nat.le_of_ble_eq_true
abbrev aaP:=@Nat.le_of_eq
abbrev aaQ:=@Nat.le_of_lt
abbrev aaR:=@Nat.le_of_not_lt
abbrev bd:=@Nat.le_refl
abbrev mM:=@Nat.le_succ
abbrev df:=@Nat.le_trans
abbrev as3:=@Nat.lt_irrefl
abbrev as4:=@Nat.lt_of_le_of_lt
abbrev mN:=@Nat.lt_of_lt_of_le
abbrev dy:=@Nat.lt_or_ge
abbrev FD:=@Nat.lt_succ_self
abbrev J4:=@Nat.lt_trans
abbrev J5:=@Nat.lt_trichotomy
abbrev P6:=@Nat.mod_eq_of_lt
abbrev FE:=@Nat.mul_le_mul_left
abbrev J6:=@Nat.mul_le_mul_right
abbrev xN:=@Nat.mul_one
abbrev J7:=@Nat.not_lt_zero
abbrev aaS:=@Nat.pos_of_mul_pos_left
abbrev zE:=@Nat.sub_self
abbrev zF:=@Nat.sub_zero
abbrev eK:=@Nat.zero_add
abbrev eL:=@Nat.zero_le
abbrev aaT:=@Nat.zero_lt_succ
abbrev P7:=@Nat.zero_mul
abbrev ay:=@Option.bind_eq_some_iff
abbrev b2:=@Option.bind_some
abbrev FH:=@Option.getD_some
abbrev xP:=@Option.isSome_iff_exists
abbrev Ka:=@Option.isSome_some
abbrev b3:=@Option.map_eq_some_iff
abbrev ut:=@Option.map_none
abbrev dD:=@Option.map_some
theorem L{p:Prop}(h:p:=by omega):p:=h
theorem M{p:Prop}(h:p:=by kernel_rfl):p:=h
theorem A{p:Prop}(h:p:=by decide):p:=h
theorem az{p:Prop}(h:p:=by simp):p:=h
theorem mO{p:Prop}(h:p:=by assumption):p:=h
theorem av{p:Prop}(h:p:=by exact⟨rfl,rfl⟩):p:=h
theorem bq{p:Prop}(h:p:=by exact⟨rfl,rfl,rfl⟩):p:=h
theorem cU{p:Prop}(h:p:=by exact⟨rfl,rfl,rfl,rfl,trivial⟩):p:=h
theorem er{p:Prop}(h:p:=by exact⟨rfl,rfl,rfl,trivial⟩):p:=h
theorem gp{p:Prop}(h:p:=by exact⟨rfl,trivial⟩):p:=h
theorem gq{p:Prop}(h:p:=by exact⟨rfl,rfl,rfl,rfl,rfl,trivial⟩):p:=h
theorem jU{p:Prop}(h:p:=by exact⟨rfl,rfl,rfl,rfl,rfl,rfl,rfl,rfl,trivial⟩):p:=h
theorem lS{p:Prop}(h:p:=by exact⟨rfl,rfl,trivial⟩):p:=h
theorem tf{p:Prop}(h:p:=by exact⟨rfl,rfl,rfl,rfl,rfl,rfl,trivial⟩):p:=h
theorem Kb{p:Prop}(h:p:=by exact⟨rfl,rfl,rfl,rfl,rfl⟩):p:=h
theorem Kc{p:Prop}(h:p:=by exact⟨rfl,rfl,rfl,rfl,rfl,rfl⟩):p:=h
abbrev H{α:Sort u}(_:α):Prop:=False
structure a7 where
 a:Int
 b:ByteArray
structure pv where
 b:ByteArray
 c:ByteArray
 a:List a7
 d:a7
structure c3 where
 b:Int
 c:Int
 a:pv
structure i6 where
 c:Int
 a:List a7
 b:List a7
structure jA where
 c:Int
 d:Int
 b:Int
 a:ByteArray
structure i5 where
 b:ByteArray
 a:Bool
 c:a7
structure cK where
 i:ByteArray
 g:Bool
 d:List a7
 a:a7
 b:Int
 h:Int
 c:List c3
 e:List jA
 f:List i6
structure dM where
 d:ByteArray
 b:ByteArray
 c:List i5
 a:List cK
def mg(a:ac)(j:Nat):Int:=(((aG a.data)[j]?.getD 0).toNat)
def bU:ac:=⟨#[]⟩
structure bA where
 b:ByteArray
 a:ByteArray
def bA.c{d e:bA}(f:d.b=e.b)(g:d.a=e.a):d=e:=by cases d;cases e;simp_all
def a7.c{d e:a7}(f:d.a=e.a)(g:d.b=e.b):d=e:=by cases d;cases e;simp_all
def gW:ac:=⟨#[79,98,106,101,99,116]⟩
def eo:ac:=⟨#[84,104,114,111,119,97,98,108,101]⟩
def jB:ac:=⟨#[69,114,114,111,114]⟩
def qc:W ac:=[⟨#[78,111,67,108,97,115,115]⟩,⟨#[66,97,100,70,111,114,109]⟩,⟨#[67,105,114,99,117,108,97,114]⟩,⟨#[66,97,100,67,108,97,115,115]⟩,⟨#[78,111,70,105,101,108,100]⟩,⟨#[78,111,77,101,116,104,111,100]⟩,⟨#[66,97,100,73,110,105,116]⟩,⟨#[65,114,105,116,104]⟩,⟨#[78,117,108,108,82,101,102]⟩,⟨#[66,97,100,67,97,115,116]⟩,⟨#[66,111,117,110,100,115]⟩,⟨#[66,97,100,83,105,122,101]⟩,⟨#[72,101,97,112]⟩,⟨#[68,101,101,112]⟩]
def gG(a:ac):S ac:=if a=gW then Q bU else if a=eo then Q gW else if a=jB then Q eo else if qc.any (λb=>cj<|a=b)then Q jB else Z
def zR(a:ac):W ac:=if a=gW then[]else if a=eo then[gW]else if a=jB then[eo,gW]else if qc.any (λb=>cj<|a=b)then[jB,eo,gW]else[]
def cN:a7:=⟨1,bU⟩
def mh:a7:=⟨2,bU⟩
def KM:a7:=⟨5,bU⟩
def fP:a7:=⟨4,bU⟩
def fa(a:ac):a7:=⟨3,a⟩
def CQ{d:Type}{b:W d}{a:Nat}{e:d}(c:b[a]?=Q e):a<Y b:=by obtain f|f:=dy a (Y b);exact f;cases ix f▸c
open Go.Op(bytesLess)
def CP:∀a:W UInt8,mP a a=N|[]=>rfl|c::b=>by simp[mP,CP b]
def KH:∀c d e:W UInt8,mP c d=K->mP d e=K->mP c e=K|_,_,[],_,a=>by simp[mP]at a|_,[],_::_,a,_=>by simp[mP]at a|[],_::_,_::_,_,_=>rfl|c::f,d::g,e::h,a,b=>by rw[mP,lu,cQ,decide_eq_true_eq,beq_iff_eq]at a b⊢;obtain a|⟨rfl,a⟩:=a;obtain b|⟨rfl,b⟩:=b;exact .inl<|UInt8.lt_trans a b;exact .inl a;obtain b|⟨rfl,b⟩:=b;exact .inl b;exact .inr ⟨J,KH f g h a b⟩
def KI:∀b c:W UInt8,mP b c=K\/b=c\/mP c b=K|[],[]=>.inr (.inl J)|[],_::_=>.inl J|_::_,[]=>.inr (.inr J)|b::d,c::e=>by simp only[mP,lu,cQ,decide_eq_true_eq,beq_iff_eq];obtain a|rfl|a:=(show b<c\/b=c\/c<b from by rw[UInt8.lt_iff_toNat_lt];rcases J5 b.toNat c.toNat with a|a|a;exact .inl a;exact .inr<|.inl<|UInt8.toNat_inj.1 a;exact .inr<|.inr a);exact .inl<|.inl a;obtain a|rfl|a:=KI d e;exact .inl<|.inr ⟨J,a⟩;exact .inr<|.inl J;exact .inr<|.inr<|.inr ⟨J,a⟩;exact .inr<|.inr<|.inl a
def mQ(a b:ac):aJ:=mP a.toList b.toList
def acu{a b:ac}(c:a.toList=b.toList):a=b:=by rw[Km,Km]at c;exact CG<|Qe.1 c
def KK(a):mQ a a=N:=CP _
def Q9{a b c}(d:mQ a b=K)(e:mQ b c=K):mQ a c=K:=KH _ _ _ d e
def KL(a b):mQ a b=K\/a=b\/mQ b a=K:=by obtain c|c|c:=KI a.toList b.toList;exact .inl c;exact .inr<|.inl<|acu c;exact .inr<|.inr c
def pw(a b:bA):aJ:=mQ a.b b.b||cj (a.b=b.b)&&mQ a.a b.a
def Q8(a):pw a a=N:=by simp[pw,KK]
def KJ{c d e}(b:pw c d=K)(a:pw d e=K):pw c e=K:=by rw[pw,lu,cQ,decide_eq_true_eq]at b a⊢;obtain b|⟨f,b⟩:=b;obtain a|⟨g,a⟩:=a;exact .inl<|Q9 b a;exact .inl<|g▸b;obtain a|⟨h,a⟩:=a;exact .inl<|f▸a;exact .inr ⟨f.trans h,Q9 b a⟩
def act(a b):pw a b=K\/a=b\/pw b a=K:=by simp[pw,decide_eq_true_eq];obtain c|c|c:=KL a.b b.b;exact .inl<|.inl c;obtain d|d|d:=KL a.a b.a;exact .inl<|.inr ⟨c,d⟩;exact .inr<|.inl<|bA.c c d;exact .inr<|.inr<|.inr ⟨c.symm,d⟩;exact .inr<|.inr<|.inl c
def js(b:W i6)(a:Int):Nat:=b.findIdx λc=>cj<|¬c.c<a
def qL(b:W i6)(a:Int):aJ:=match b[js b a]? with|Q c=>cj (c.c=a)|Z=>N
def C5(a:W i6):Prop:=∀(d j:Nat)(b c:i6),d<j->a[d]?=Q b->a[j]?=Q c->b.c<c.c
def aqr(a:W i6)(b:Int):js a b<=Y a:=List.findIdx_le_length
def ZH{b a d}(c:b[js b a]?=Q d):¬d.c<a:=by let e:=CQ c;rw[e7 e]at c;let h:=cx c;let f:cj (¬(b[js b a]).c<a)=K:=List.findIdx_getElem (w:=e);exact ej (h▸f)
def aqp{c d j b}(a:c[j]?=Q b)(e:j<js c d):b.c<d:=by
 let f:=List.not_of_lt_findIdx e;let g:c[j]'(CQ a)=b:=by exact cx ((e7<|CQ a)▸a)
 rw[g]at f;simpa using f
def aqs{a}(f:C5 a){b j c}(d:a[j]?=Q c)(e:c.c<b):j+1<=js a b:=by
 obtain g|g:=dy j (js a b);exact g;let h:=as4 g<|CQ d;let m:=ZH<|e7 h;obtain i|i:=dy (js a b) j;have:=f _ _ _ _ i (e7 h) d;omega;let k:js a b=j:=L
 let l:a[js a b]?=Q c:=k▸d;exact aE e<|ZH l
def aqq{b a j c}(e:b[j]?=Q c)(d:¬c.c<a):js b a<=j:=by obtain f|f:=dy j (js b a);exact aE (aqp e f) d;exact f
section
abbrev jV:=W<|Nat×bh
def i9:jV->Nat->S bh|[],_=>Z|(j,v)::b,a=>bif aw a j then Q v else i9 b a
structure gH(k:Nat)(h:aX)(j:jV):Prop where
 b:k<=aj h.tmps
 f:h.defers=[]
 e:∀i v,i9 j i=Q v->h.tmps[i]?=Q v
def eG(a:jV):dW->S bh|.tmp d=>i9 a d|.const v=>Q v|.global c=>Q (.pointer<|Q ⟨c,0,Z⟩)|.func b=>Q (.func (.func b) #[] #[])
def gH.a{m i k j v}(l:gH m i k)(h:eG k j=Q v):i.eval j=v:=by obtain n|q|p|o:=j;have:=l.e n v h;show i.tmps.getD n ee=v;rw[qV,this];rfl;exact cx h;exact cx h;exact cx h
def gH.d{i j l}(k:gH i j l){h}(m:cc h i=K)(v:bh):gH i (j.put (Q h) v) ((h,v)::l):=by
 let w:h<i:=by simpa using m
 refine⟨?_,k.f,?_⟩;show i<=aj (j.tmps.setIfInBounds h v);rw[vT];exact k.b;intro n q o;show(j.tmps.setIfInBounds h v)[n]?=Q q;simp[i9]at o;rw[vQ];by_cases p:n=h;subst p;rw[cF n]at o;rw[aC J,aC<|mN w k.b];exact o;let s:aw n h=N:=by cases u:aw n h;rfl;exact aE (b8 u) p
 rw[s]at o;rw[ak<|λt=>p t.symm];exact k.e n q o
def yd:jV->jV->Prop|[],_=>True|b::c,a=>i9 a b.1=Q b.2/\yd c a
def ac3{c b v}(a:i9 c b=Q v):(b,v)∈c:=by induction c with|nil=>simp[i9]at a|cons e i h=>rw[i9]at a;cases d:aw b e.1;rw[d]at a;exact i3 _<|h a;rw[d]at a;let f:=b8 d;let g:=cx a;have:e=(b,v):=f▸g▸J;rw[this];exact hI
def yd.a{c b}(d:yd b c):∀e∈b,i9 c e.1=Q e.2:=by induction b with|nil=>intro k g;cases g|cons l m i=>intro j h;obtain _|⟨_,f⟩:=h;exact d.1;exact i d.2 j f
def gH.g{l k i j}(h:gH l k i)(m:yd j i):gH l k j:=⟨h.b,h.f,λn v o=>h.e n v<|m.a (n,v)<|ac3 o⟩
structure gI where
 e:List Nat
 d:ap->Prop
 c:∀g h:ap,d g->(∀f∈e,h.heap[f]?=g.heap[f]?)->d h
def gI.a:gI:=⟨[],λ_=>True,λ_ _ _ _=>C⟩
abbrev py:=W<|Nat×W bh
structure hK(l:List Nat)(i j:ap):Prop where
 h:j.os=i.os
 f:j.tape=i.tape
 c:j.output=i.output
 a:aj i.heap<=aj j.heap
 b:∀k,k<aj i.heap->k∉l->j.heap[k]?=i.heap[k]?
def hK.g(j)(i):hK j i i:=⟨J,J,J,bd _,λ_ _ _=>rfl⟩
def hK.below{j k}(i:hK [] j k):po (aj j.heap) j k:=⟨i.h,i.f,i.c,i.a,λm l=>i.b m l az⟩
def hK.d{j k}(i:po (aj j.heap) j k)(l:W Nat):hK l j k:=⟨i.os,i.tape,i.output,i.size,λn m _=>i.block n m⟩
def hK.e{k n l o p}(i:hK k l o)(j:hK n o p)(t:∀s∈n,s∈k\/aj l.heap<=s):hK k l p:=⟨j.h.trans i.h,j.f.trans i.f,j.c.trans i.c,df i.a j.a,λm r q=>by rw[j.b m (mN r i.a)<|λu=>(t m u).elim q L];exact i.b m r q⟩
structure fD(u:ap)(r:List Nat)(p:py)(s:gI)(q:ap):Prop where
 c:hK r u q
 i:∀j∈p,∃v,q.heap[j.1]?=Q (.cells (E j.2) v (0,0))
 l:∀j∈p,j.1∈r\/aj u.heap<=j.1
 d:(p.map (·.1)).Nodup
 f:s.d q
 e:∀t∈s.e,(t∈r\/aj u.heap<=t)/\t<aj q.heap
 b:∀j∈p,j.1∉s.e
def fD.n{v r q s p}(t:fD v r q s p){j}(u:j∈q):j.1<aj p.heap:=by let⟨y,x⟩:=t.i j u;obtain w|w:=dy j.1 (aj p.heap);exact w;cases uv w▸x
def fD.k{v t u r q s}(j:fD v t u r q)(p:po (aj q.heap) q s):fD v t u r s:=⟨j.c.e (n:=[]) (hK.d p _) az,λu x=>p.block _ (j.n x)▸j.i u x,j.l,j.d,r.c q s j.f<|λy t=>p.block y (j.e y t).2,λz w=>⟨(j.e z w).1,mN (j.e z w).2 p.size⟩,j.b⟩
def fD.m{p q t u s}(w:fD p q t u s){j v}(r:p.cell? j=Q v)(x:j.block∉q):s.cell? j=Q v:=by let y:=World.block_lt_of_cell? p j r;rw[World.cell?_of_block<|w.c.b j.block y x];exact r
variable{z:aD}
structure tm where
 b:Nat
 c:Nat
 d:ek
 a:aX->ap->Prop
def sj(z:aD)(b:qY)(a:qX->ap->Prop):W tm->Exit->aX->ap->Prop|[]=>bodyPost z b a|c::d=>match c.b with|0=>Exit.then (c.d.wp z<|sj z b a d) (sj z b a d)|1=>pu c.c (sj z b a d)|_=>Exit.then c.a (sj z b a d)
structure si(z)(k)(i:ek)(d:jV)(l:ap)(e:List Nat)(f:py)(g:gI)(j:qY)(h:qX->ap->Prop)(m:List tm):Prop where
 a:∀c,fD l e f g c->∀b,gH k b d->i.wp z (sj z j h m) b c
structure rb(z)(l)(i)(k)(d)(m)(e)(f)(g)(j)(h)(n):Prop where
 a:∀c,fD m e f g c->∀b,gH l b d->wpList z i (sj z j h n) k b c
structure wg(z)(k)(i)(d)(l)(e)(f)(g)(j)(h)(m):Prop where
 a:∀c,fD l e f g c->∀b,gH k b d->sj z j h m i b c
structure jW(z)(j)(d)(n)(e)(f)(g)(k)(v):Prop where
 a:∀b,fD n e f g b->∀c,gH j c d->∀(h)(m)(l)(o)(i),(aY c.eval ⟨h,k,m,l,o,i⟩).run z b=.ok (.value v) b
section
variable{x:Nat}{y:jV}{w:ap}{u:W Nat}{t:py}{s:gI}{r:qY}{q:qX->ap->Prop}{p:W tm}
def uG{a b}(c:si z x a y w u t s r q (⟨0,0,b,λ_ _=>True⟩::p)):si z x (.seq a b) y w u t s r q p:=⟨λg f d e=>wp_seq<|c.a g f d e⟩
def acE(a:wg z x .normal y w u t s r q p):si z x .skip y w u t s r q p:=⟨λe d b c=>wp_skip<|a.a e d b c⟩
def KV(a:wg z x .ret y w u t s r q p):si z x .ret y w u t s r q p:=⟨λe d b c=>wp_ret<|a.a e d b c⟩
def gH.c{j}(h:gH x j y){i v}(k:i9 y i=Q v):gH x j ((i,v)::y):=by refine⟨h.b,h.f,λp q l=>?_⟩;rw[i9]at l;cases m:aw p i;rw[m]at l;exact h.e _ _ l;rw[m]at l;have n:=b8 m;subst n;let o:=cx l;rw[<-o];exact h.e _ _ k
def acD{a d e c}(b:i9 y a=Q (.bool c))(g:c=K->si z x d ((a,.bool K)::y) w u t s r q p)(f:c=N->si z x e ((a,.bool N)::y) w u t s r q p):si z x (.cond (.tmp a) d e) y w u t s r q p:=⟨λm l i h=>wp_cond_split (h.a b) (λj=>(g j).a m l i<|h.c<|b▸j▸J)<|λk=>(f k).a m l i<|h.c<|b▸k▸J⟩
def wd{c a}(b:rb z x (E a) a y w u t s r q p):si z x (.region c (E a) N) y w u t s r q p:=⟨λg f d e=>wp_region_lit<|b.a g f d e⟩
def uH{a d b}(c:si z x a y w u t s r q p):wg z x .normal y w u t s r q (⟨0,b,a,d⟩::p):=⟨c.a⟩
def acK{a}(b:wg z x .ret y w u t s r q p):wg z x .ret y w u t s r q (a::p):=⟨λg e c d=>by have:=b.a g e c d;let⟨f,_,_,_⟩:=a;match f with|0=>exact this|1=>exact this|_+2=>exact this⟩
def acJ{a v}(c:r.results=#[.tmp a])(d:i9 y a=Q v)(b:∀f,fD w u t s f->q (.returned v) f):wg z x .ret y w u t s r q []:=⟨λg h j e=>bodyPost_ret (by rw[results_tmp c];exact b9 (λi=>Result.ok i g)<|e.a (j:=.tmp a) d) e.f<|b g h⟩
def we{a}(b:wg z x .normal y w u t s r q p):rb z x a [] y w u t s r q p:=⟨λf e c d=>wpList_nil<|b.a f e c d⟩
def lx{b c a d i h j v}(f:cc a x=K)(g:jW z x y w u t s d v)(e:rb z x b c ((a,v)::y) w u t s r q p):rb z x b (⟨Q a,d,i,h,j,Z⟩::c) y w u t s r q p:=⟨λm l n k=>zy J λa o=>by rw[uF,g.a m l n k];exact o _ _<|e.a m l _<|k.d f v⟩
def yc(z:aD)(c:cV)(b:bv bh)(a:ap)(v:bh):Prop:=Calls z c b a λd e=>d=.returned v/\po (aj a.heap) a e
end
def ac7{a}[Decidable a](b:(!cj a)=K):¬a:=zG (by rwa[zJ]at b)
def ac6{a}[Decidable a](b:(!cj a)=N):a:=ej (by rwa[Bool.not_eq_false']at b)
def acX{j c i b a h k d e f g}(p:z.funcs[j]?=Q c)(o:c.body=Q i)(q:c.ntmps=k)(m:∀u v,i9 d u=Q v->b[u]?=Q v)(n:fD a e f g a)(l:si z k i d a e f g c h []):Calls z j b a h:=by
 refine calls_of_wp p o<|l.a a n _ ⟨?_,J,?_⟩;rw[xT,vS,q];omega;intro s v x;let t:=m s v x;let w:s<aj b:=by obtain r|r:=dy s (aj b);exact r;cases uv r▸t
 rwa[xS w]
def fD.a(j)(p):fD j p [] gI.a j:=⟨hK.g _ _,nofun,nofun,tc,C,nofun,nofun⟩
def zY:Nat->W bh->jV|_,[]=>[]|a,v::b=>(a,v)::zY (a+1) b
def K0:∀(g)(f e)(v),i9 (zY f g) e=Q v->f<=e/\g[e-f]?=Q v|[],_,_,_,j=>by simp[zY,i9]at j|n::k,c,b,v,a=>by rw[zY,i9]at a;cases d:aw b c with|true=>rw[d]at a;have h:=b8 d;subst h;have:=cx a;subst this;simp|false=>rw[d]at a;let⟨l,m⟩:=K0 k (c+1) b v a;exists L;let i:b-c=(b-(c+1))+1:=L;rwa[i,PW]
def RB{f a e b c d g}(j:z.funcs[f]?=Q a)(i:a.body=Q e)(k:a.ntmps=g)(h:si z g e (zY 0 b) c [] [] gI.a a d []):Calls z f (E b) c d:=acX j i k (λm v l=>by have:=(K0 b 0 m v l).2;simpa using this) (fD.a c []) h
def KS{k b a f g c}{d:Tmp}{v e}(i:c.results=#[.tmp d])(j:i9 b d=Q v)(h:v=e):wg z k .ret b a [] f g c (λl n=>l=.returned e/\po (aj a.heap) a n) []:=acJ i j λ_ m=>⟨h▸J,m.c.below⟩
end
def KR(a:aD)(d b c:Nat):Prop:=∀(e f)(g),(abb d (.pointer<|Q ⟨e,f,Z⟩) b).run a g=.ok (.pointer<|Q ⟨e,f+c,Z⟩) g
def KT(a:aD)(b:Nat):Prop:=∀c:ap,(un b).run a c=.ok N c/\(qQ b).run a c=.ok 1 c
def CT(a:aD)(b:Nat)(c:W bh):Prop:=∀d:ap,(do uu (<-JQ b).cells:Sem<|bv bh).run a d=.ok (E c) d
def Rl(a:aD)(b c:Nat):Prop:=∀d:ap,(un b).run a d=.ok K d/\(qQ b).run a d=.ok c d
def CS(a:aD)(d b c:Nat):Prop:=a.underlying d=Q (.slice b)/\∀e:ap,(qQ b).run a e=.ok c e
def KU(a:aD)(b:Nat):Prop:=a.underlying b=Q .string
def Rk(a:aD)(c:Nat)(b:qZ):Prop:=a.underlying c=Q (.int b)
def aM(a b:ac):aJ:=cj<|a=b
def CV(a b):(a.toList==b.toList)=aM a b:=by rw[aM,Km,Km];by_cases d:a=b;subst d;simp;rw[ps d];refine beq_eq_false_iff_ne.2 λc=>d ?_;cases a;cases b;simp only at c;rw[Qe]at c;rw[c]
section
variable{y:aD}{s:Nat}{z:jV}{x:ap}{t:W Nat}{w:py}{u:gI}
def iz{a v}(b:eG z a=Q v):jW y s z x t w u (.move a) v:=⟨λe _ d c _ _ _ _ _=>by simp only[aY];rw[c.a b];rfl⟩
def jC{a v}(b:eG z a=Q v):jW y s z x t w u (.assign a) v:=⟨λe _ d c _ _ _ _ _=>by simp only[aY];rw[c.a b];rfl⟩
def FW{c d k e f a b j v}(h:eG z e=Q (.int a b))(i:eG z f=Q (.int a j))(g:∀m:ap,(eT c d (.int a b)<|.int a j).run y m=.ok v m):jW y s z x t w u (.binOp c d e f k) v:=⟨λn _ o l _ _ _ _ _=>by simp[aY];rw[l.a h,l.a i,eqGuard_at_int];have:=g n;simp[this]⟩
def Re{g h c d a b j}(e:eG z c=Q (.int a b))(f:eG z d=Q (.int a j)):jW y s z x t w u (.binOp .add g c d h) (.int a<|a.wrap<|b+j):=FW e f λi=>by simp[eT,FR]
def sk(a)(b:-9223372036854775808<=a/\a<=9223372036854775807):gF.wrap a=a:=by rw[IntWalk.i64_left];exact IntWalk.wrap64_in a b
def acy{b c d e a}(f:eG z d=Q (.int .i64 (a:Nat)))(g:eG z e=Q (.int .i64 1))(h:a<9223372036854775807):jW y s z x t w u (.binOp .add b d e c) (.int .i64<|(a+1:Nat)):=by have:=Re (y:=y) (s:=s) (x:=x) (t:=t) (w:=w) (u:=u) (g:=b) (h:=c) f g;rwa[sk _ L]at this
def atd{b c:fV}{d e:dW}{a j:Int}(g:eG z d=Q (.int .i64 a))(h:eG z e=Q (.int .i64 j))(f:-9223372036854775808<=a+j/\a+j<=9223372036854775807):jW y s z x t w u (.binOp .add b d e c) (.int .i64<|a+j):=by have:=Re (y:=y) (s:=s) (x:=x) (t:=t) (w:=w) (u:=u) (g:=b) (h:=c) g h;rwa[sk _ f]at this
def acz{g h c d b a j}(e:eG z c=Q (.int b a))(f:eG z d=Q (.int b j)):jW y s z x t w u (.binOp .lss g c d h) (.bool<|cj<|a<j):=FW e f λi=>by simp[eT,yb]
def acw{g h c d b a j}(e:eG z c=Q (.int b a))(f:eG z d=Q (.int b j)):jW y s z x t w u (.binOp .eql g c d h) (.bool<|cj<|a=j):=FW e f λl=>by(let i:(a==j)=cj (a=j):=by by_cases k:a=j<;>simp[k]);simp[eT,yb,i]
def acB{g h c d b a j}(e:eG z c=Q (.int b a))(f:eG z d=Q (.int b j)):jW y s z x t w u (.binOp .neq g c d h) (.bool<|!cj (a=j)):=FW e f λl=>by(let i:(a !=j)=!cj (a=j):=by by_cases k:a=j<;>simp[k]);simp[eT,yb,i]
def Rj{b:fV}{c a}(d:KU y b)(e:eG z c=Q (.string a)):jW y s z x t w u (.call ⟨.builtin .len,#[c],#[b]⟩) (.int .i64<|bf a):=⟨λh _ g f _ _ _ _ _=>by simp[aY,i1,iH,sb];simp[f.a e,FL,cE d,ju]⟩
def Ri{b e h:fV}{c i a d}(f:CS y b e h)(g:eG z c=Q (.slice i a d)):jW y s z x t w u (.call ⟨.builtin .len,#[c],#[b]⟩) (.int .i64<|a):=⟨λl _ k j _ _ _ _ _=>by simp[aY,i1,iH,sb];simp[j.a g,FL,cE f.1,ju]⟩
def KQ{b c k d e a j v}(h:eG z d=Q (.string a))(i:eG z e=Q (.string j))(f:∀m:ap,(zP b a j).run y m=.ok v m)(g:eT b c (.string a) (.string j)=zP b a j):jW y s z x t w u (.binOp b c d e k) v:=⟨λn _ o l _ _ _ _ _=>by simp[aY];rw[l.a h,l.a i,eqGuard_at_string];have:=f n;simp[g,this]⟩
def acC{f g b c a j}(d:eG z b=Q (.string a))(e:eG z c=Q (.string j)):jW y s z x t w u (.binOp .neq f b c g) (.bool<|!aM a j):=KQ d e (λh=>by rw[zP,CV];rfl) (by simp[eT])
def FX{e c d f a b}(g:KR y e c d)(h:eG z f=Q (.pointer<|Q ⟨a,b,Z⟩)):jW y s z x t w u (.fieldAddr e f c) (.pointer<|Q ⟨a,b+d,Z⟩):=⟨λj _ k i _ _ _ _ _=>by simp[aY];rw[i.a h];have:=g a b j;simp[this]⟩
def Rh{g k d h i b f e j a}(c:CS y g k d)(m:eG z h=Q (.slice (Q ⟨b,f,Z⟩) e j))(n:eG z i=Q (.int .i64 (a:Nat)))(l:a<e):jW y s z x t w u (.indexAddr g h i) (.pointer<|Q ⟨b,f+a*d,Z⟩):=⟨λq _ r o _ _ _ _ _=>by simp[aY];rw[o.a m,o.a n];simp[QA,cE c.1,sa,l,c.2 q,sg]⟩
structure Rb(x)(t)(w)(u)(c)(v):Prop where
 a:∀b,fD x t w u b->b.cell? c=Q v
def CU{a v}(b:x.cell? a=Q v)(_:a.block<aj x.heap):Rb x [] w u a v:=⟨λ_ c=>c.m b az⟩
def CR{b c a v}(e:KT y b)(f:eG z c=Q (.pointer<|Q a))(d:Rb x t w u a v):jW y s z x t w u (.load b c) v:=⟨λg k l j _ _ _ _ _=>by simp[aY];rw[j.a f];simp[QB,zO,JJ,(e g).1,d.a g k]⟩
variable{r:qY}{q:qX->ap->Prop}{p:W tm}
def qd(a:W bh)(b:Nat)(c:W bh):W bh:=a.take b++c++a.drop (b+Y c)
structure wc(y:aD)(b:cV):Prop where
 a:∃r,y.funcs[b]?=Q r/\r.body.isNone=N/\(r.name== "runtime.NumGoroutine")=N
def K3{b:aX}{e d a f h}(g:d.op=.call ⟨.value<|.func a,f,h⟩)(c:wc y a):(aY b.eval d).run y e=.ok (.enter a<|f.map b.eval) e:=by let⟨r,c,i,l⟩:=c.a;let j:b.eval (.func a)=.func (.func a) #[] #[]:=rfl;simp[aY,g,i1,j,vX,iH,zu,c];rw[ak (by simpa using l),ak (λk=>by cases k▸i)]
def wi(z:jV):W dW->S (W bh)|[]=>Q []|c::a=>match eG z c,wi z a with|Q v,Q b=>Q (v::b)|_,_=>Z
def FZ{a}(b:gH s a z):∀(j)(i),wi z j=Q i->(j.toArray.map a.eval)=E i|[],o,g=>by cases g;simp|n::f,p,c=>by rw[wi]at c;rcases d:eG z n with _|v;simp[d]at c;cases e:wi z f with|none=>simp[d,e]at c|some h=>simp[d,e]at c;subst c;let l:=FZ b f h e;let k:=b.a d;(let m:f.map a.eval=h:=by simpa using l);simp[k,m]
def acF{e g}{a b:Nat}{d c o n m f v}(k:wc y b)(j:cc a s=K)(l:wi z d=Q c)(i:∀ha,fD x t w u ha->yc y b (E c) ha v)(h:rb y s e g ((a,v)::z) x t w u r q p):rb y s e (⟨Q a,.call ⟨.value<|.func b,E d,o⟩,n,m,f,Z⟩::g) z x t w u r q p:=⟨λg b n a=>zy J λm e=>by rw[uF,K3 J k,FZ a d c l];apply(i g b).mono;rintro f d⟨rfl,c⟩;exact e _ _<|h.a d (b.k c) _<|a.d j v⟩
end
def gI.b(f g:gI):gI:=⟨f.e++g.e,λj=>f.d j/\g.d j/\∀o∈f.e,o∉g.e,λk l h i=>⟨f.c k l h.1<|λp m=>i p<|bS _ m,g.c k l h.2.1<|λq n=>i q<|bo _ n,h.2.2⟩⟩
structure zT(g:aD)(k h f j:Nat)(i:bh):Prop where
 b:g.underlying k=Q (.slice h)
 a:(g.info? h).map (λe=>(e.zero,e.size,e.bytes))=Q (Q i,f,j)
 d:aj i.cells=f
 c:0<f
section
variable{z:aD}
def acW{b y:ap}{d l h p r:Nat}{q v t:bh}{c a g:Nat}{u e:W bh}{f:Addr}(k:zT z d h p r q)(o:b.ownsRow 0 h p v c u)(m:Y e=a*p)(n:∀j ha,e[j]?=Q ha->b.cell? (f.add j)=Q ha)(w:∀hb∈e,hb.oneCell'=K)(x:c+a<=mJ)(s:(c+a)*r<=140737488355328)(i:(tg #[d,d] l #[v,.slice (Q f) a g]).run z b=.ok t y):∀y,t.ownBlock=Q y->v.ownBlock=Q y\/aj b.heap<=y:=by
 intro r p;let⟨t,r,hd,ha,y⟩:=aak k.a;subst ha;subst y;let y:c+a<=9223372036854775807:=by simp[mJ]at x;omega
 obtain⟨rfl,rfl⟩|⟨ha,x,y,rfl,_,hg,hc,hb,he,hf⟩:=o.2;by_cases hb:a=0;subst hb;let hb:(tg #[d,d] l #[.slice Z 0 0,.slice (Q f) 0 g]).run z b=.ok (.slice Z 0 0) b:=by simp[tg,cE k.b,qQ,xD,r,uA,uz,loadCells,loadCellsFrom]
 rw[hb]at i;cases i;simp[Fp]at p;let hb:=run_append_nil b d l h t q k.b r hd f a g e m n L L (by simp[eK]at s;omega);rw[i]at hb;cases hb;simp[Fp]at p;exact .inr L;by_cases hc:c+a<=x;let hf:c*t.size+Y e<=aj y:=by rw[m,he,<-vN];exact J6 _ hc
 let hb:=run_append_room b d l h t k.b r ha c x y hg f a g e m n w hc hf;cases i▸hb;exact .inl p;let y:=o.cells J;let w:=run_append_grow b d l h t q k.b r hd ⟨ha,0,Z⟩ c x u o.1 y f a g e m n L L<|growslice_fits L s;cases i▸w;simp[Fp]at p;exact .inr L
end
def tn(b:Nat->S (Nat×Nat))(a:W bh):W (Nat×bh)->S (W bh)|[]=>Q a|(d,v)::e=>match b d with|Z=>Z|Q (c,f)=>bif aw (Y v.cells.toList) f&&cY (c+Y v.cells.toList) (Y a)then tn b (qd a c<|aG v.cells) e else Z
def Rt(a):∀(d)(j)(c),a+j+Y d<=Y c->(d.zipIdx j).foldl (λ(g)(f)=>g.setIfInBounds (a+f.2) f.1) (E c)=E (qd c (a+j) d)|[],j,k,_=>by simp[qd]|v::e,j,b,i=>by simp[de]at i;let h:b.toArray.setIfInBounds (a+j) v=E (b.set (a+j) v):=az;simp[h];rw[Rt a e (j+1) (b.set (a+j) v) (by rw[ib];omega)];have:=list_seg_step b (a+j) v e L;unfold qd;rw[de,<-this,P3 a j 1]
def F1(a):∀(l)(g h),tn a g l=Q h->Kq a (E g) l=Q (E h)|[],z,b,i=>by simp[tn]at i;cases i;rfl|(u,v)::x,c,f,b=>by simp only[tn]at b;rw[Kq];cases k:a u with|none=>cases k▸b|some w=>let⟨d,m⟩:=w;rw[k]at b;simp only at b⊢;cases e:aw (Y v.cells.toList) m&&cY (d+Y v.cells.toList) (Y c)with|false=>cases e▸b|true=>rw[e]at b;rw[cQ]at e;let q:=b8 e.1;let r:=ez e.2;rw[pt]at q r;(let s:¬((cj (aj v.cells≠m)||cj (d+aj v.cells>aj c.toArray))=K):=by simp[decide_eq_true_eq];omega);rw[ak s];(let t:v.cells.zipIdx.foldl (λp(n)=>p.setIfInBounds (d+n.2) n.1) (E c)=E (qd c d<|aG v.cells):=by rw[<-P9,Array.toList_zipIdx];exact Rt d (aG v.cells) 0 c (by omega));rw[show(v.cells.zipIdx.foldl (λf y=>match y with|(o,j)=>f.setIfInBounds (d+j) o)<|E c)=E (qd c d<|aG v.cells)from t];exact F1 a x _ f b
def zZ(a:jV):W (Nat×dW)->S (W<|Nat×bh)|[]=>Q []|(b,e)::c=>match eG a e,zZ a c with|Q v,Q d=>Q ((b,v)::d)|_,_=>Z
def RC{d a b}(c:gH d b a):∀(l)(j),zZ a l=Q j->(l.map λk=>(k.1,b.eval k.2))=j|[],p,h=>by simp[zZ]at h;cases h;rfl|(o,n)::i,q,e=>by simp[zZ]at e;rcases f:eG a n with _|v;simp[f]at e;cases g:zZ a i with|none=>simp[f,g]at e|some m=>simp[f,g]at e;subst e;simp[c.a f,RC c i m g]
def CT.a{c d e}(f:CT c d e)(b):∃v,(JQ d).run c b=.ok v b/\v.cells=E e:=by let g:=f b;cases h:(JQ d).run c b with|ok v i=>simp[h]at g;exact⟨v,g.2▸J,g.1⟩|halt k j=>simp[h]at g
section
variable{z:Nat}
def jX(a:W bh):Nat->W bh|0=>[]|b+1=>a++jX a b
def Aa(a):∀b,Y (jX a b)=b*Y a|0=>by simp[jX]|c+1=>by rw[jX,bJ,Aa a c,vN];omega
def RG(a)(b:0<Y a):∀(f c),c<f*Y a->(jX a f)[c]?=a[c%Y a]?|0,j,i=>L|h+1,e,g=>by rw[jX];by_cases d:e<Y a;rw[gh d,P6 d];rw[md L,RG a b h (e-Y a) (by rw[vN]at g;omega),<-Nat.mod_eq_sub_mod L]
def K8(a)(c:0<Y a)(b):(Qd<|b*Y a).map (λg=>(E a)[g%aj a.toArray]!)=E (jX a b):=by apply Kg;intro d;rw[Array.getElem?_map];by_cases e:d<b*Y a;rw[Array.getElem?_range,aC e];simp[asG];rw[RG a c b d e];let f:d%Y a<Y a:=Nat.mod_lt _ c;simp[f];rw[uv (by simp;omega)];simp only[ut];rw[asG,ix (by rw[Aa];omega)]
def Rr:∀(c:W UInt8)(d:ac),(c.map λe=>((e.toNat:Nat):Int)).foldl (λg(z:Int)=>g.push<|xR z.toNat) d=d++⟨E c⟩|[],i=>(by obtain⟨b⟩:=i;rw[show(iK b++iK (E ([]:W UInt8)))=iK (b++E ([]:W UInt8))from CG<|Kl ..];simp)|a::h,j=>by simp only[c4,qS];rw[Rr h];let f:xR ((a.toNat:Nat):Int).toNat=a:=az;apply CG;simp
def wj(a:UInt8):bh:=.int .u8<|(a.toNat)
end
def rc(a:Nat)(b:W bh)(c:fV):gI:=⟨[a],λf=>f.heap[a]?=Q (.cells (E b) c (0,0)),λg h d e=>e a hI▸d⟩
section
variable{y:aD}{s:Nat}{x:jV}{w:ap}{u:W Nat}{t:py}{z:gI}{r:qY}{q:qX->ap->Prop}{p:W tm}
def fD.h{j}(r:fD w u t z j)(p)(q):fD w u t ((rc (aj j.heap) p q).b z) (j.alloc<|.cells (E p) q):=by
 let s:=r.k (s:=j.alloc<|.cells (E p) q)<|(xz _ j).alloc (bd _) _;let y:(j.alloc<|.cells (E p) q).heap[(aj j.heap)]?=Q (.cells (E p) q (0,0)):=by show(j.heap.push _)[(aj j.heap)]?=_;rw[Qa,aC J]
 refine⟨s.c,s.i,s.l,s.d,⟨y,s.f,?_⟩,?_,?_⟩;intro ha v x;simp[rc]at v;have:=(r.e ha x).2;omega;intro ha x;obtain v|v:=dl.1 x;simp[rc]at v;subst v;exact⟨.inr r.c.a,by obtain x|x:=dy (aj j.heap) (aj (j.alloc<|.cells (E p) q).heap);exact x;cases uv x▸y⟩;exact s.e ha v;intro q j p;obtain y|y:=dl.1 p;simp[rc]at y;have:=r.n j;omega;exact s.b q j y
def fD.g{s q r x p v}(j:fD w u t ((rc r x p).b z) s)(ha:q.os=s.os/\q.tape=s.tape/\q.output=s.output)(hc:aj q.heap=aj s.heap)(y:∀he,he≠r->q.heap[he]?=s.heap[he]?)(hb:∀he∈v.e,he∈((rc r x p).b z).e)(hd:z.d q->(∀hf∈z.e,hf≠r)->v.d q):fD w u t v q:=by let hi:r∈((rc r x p).b z).e:=bS _ hI;let hg:∀x∈z.e,x≠r:=λx v p=>j.f.2.2 x (p▸hI) v;refine⟨⟨ha.1.trans j.c.h,ha.2.1.trans j.c.f,ha.2.2.trans j.c.c,hc▸j.c.a,λx v hf=>?_⟩,λhe ha=>?_,j.l,j.d,hd (z.c s q j.f.2.1<|λhh hj=>y hh<|hg hh hj) hg,λx v=>?_,λhe ha v=>j.b he ha<|hb _ v⟩;rw[y x<|λp=>(j.e r hi).1.elim (λq=>hf<|p▸q) (λr=>L)];exact j.c.b x v hf;rw[y _<|λp=>j.b he ha (by rwa[p])];exact j.i he ha;rw[hc];exact j.e x<|hb x v
def acH{g j c d b e f l k h a}(n:cc c s=K)(i:zT y d b 1 1 (.int .u8 0))(o:eG x e=Q (.int .i64 (a:Nat)))(v:eG x f=Q (.int .i64 (a:Nat)))(ha:a<=281474976710656)(m:∀hc hb,Y hb=a->rb y s g j ((c,.slice (Q ⟨hc,0,Z⟩) a a)::x) w u t ((rc hc hb b).b z) r q p):rb y s g (⟨Q c,.makeSlice d e f,l,k,h,Z⟩::j) x w u t z r q p:=⟨λg hf hb j=>zy J λha hc=>by let⟨hi,he,hh,hg,hd⟩:=aak i.a;let ha:=run_make g d b hi (.int .u8 0) i.b he hh .i64 .i64 (a:Int) (a:Int) L L (by rw[hd];omega) L;(let i:(aY hb.eval ⟨Q c,.makeSlice d e f,l,k,h,Z⟩).run y g=.ok (.value<|.slice (Q ⟨aj g.heap,0,Z⟩) a a) (g.alloc<|.cells (E (JK (kN .u8 0).cells<|a*1).toList) b):=by simp[aY];rw[j.a o,j.a v];rw[hg]at ha;simp[ast]at ha;simp[ha]);rw[uF,i];exact hc _ _<|(m (aj g.heap) (aG<|JK (kN .u8 0).cells<|a*1) (by rw[pt,size_madeCells,xN])).a (g.alloc _) (hf.h _ b) _<|j.d n _⟩
def acG{k:bv ah}{o:W ah}{e f h c b:Nat}{i j:dW}{g:fV}{v:String}{l:bv vY}{a:ac}{d:W bh}(hb:cc e s=K)(n:zT y f c 1 1 (.int .u8 0))(hc:eG x i=Q (.slice (Q ⟨b,0,Z⟩) (bf a)<|bf a))(hd:eG x j=Q (.string a))(m:Y d=bf a)(ha:rb y s k o ((e,.int .i64 ((bf a):Nat))::x) w u t ((rc b (xZ<|aG a.data) c).b z) r q p):rb y s k (⟨Q e,.call ⟨.builtin .copy,#[i,j],#[f,h]⟩,g,v,l,Z⟩::o) x w u t ((rc b d c).b z) r q p:=⟨λk hf hh o=>zy J λhe hi=>by let⟨hl,hj,hg,hk,he⟩:=aak n.a;let hg:=hf.f.1;let he:=Go.Lib.run_copy_row_string k f h g c b 0 (bf a) (bf a) a (E d) c n.b (by rw[hj];simp[hk]) hg (bd _) (by simp[m]);(let n:(d.toArray.toList.take 0++xZ (aG a.data)++d.toArray.toList.drop (0+bf a))=xZ (aG a.data):=by rw[List.take_zero,se,aav (by simp[m]),eF]);(let m:(aY hh.eval ⟨Q e,.call ⟨.builtin .copy,#[i,j],#[f,h]⟩,g,v,l,Z⟩).run y k=.ok (.value<|.int .i64 ((bf a):Nat)) (k.setRow b<|E<|xZ<|aG a.data):=by simp[aY,i1,iH,sb];simp[o.a hc,o.a hd,(n▸he),ju]);rw[uF,m];refine hi _ _<|ha.a _ (hf.g (q:=k.setRow b<|E<|xZ<|aG a.data) bq az (λi g=>JM k b i _<|λc=>g c) (λl h=>h)<|λe f=>⟨JL k b _ _ c _ hg,e,λj a d=>?_⟩) _<|o.d hb _;simp[rc]at a;exact f j d a⟩
def acI{k:bv ah}{m:W ah}{d e f c b:Nat}{h i:dW}{g:fV}{n:String}{l:bv vY}{a:ac}(hc:cc d s=K)(hd:y.underlying e=Q (.pointer c))(hb:y.cellsOf c=1)(he:eG x h=Q (.pointer<|Q ⟨b,0,Z⟩))(hf:eG x i=Q (.int .i64 ((bf a):Nat)))(ha:bf a≠0)(hg:bf a<=281474976710656)(o:rb y s k m ((d,.string a)::x) w u t z r q p):rb y s k (⟨Q d,.call ⟨.builtin .unsafeString,#[h,i],#[e,f]⟩,g,n,l,Z⟩::m) x w u t ((rc b (xZ<|aG a.data) c).b z) r q p:=⟨λk hj hk m=>zy J λhg hl=>by let hh:k.heap[b]?=Q (.cells (E<|xZ<|aG a.data) c (0,0)):=hj.f.1;let hg:Y a.data.toList=bf a:=pt;let hi:=Go.Lib.run_unsafeString_row k e f g c hd hb b (bf a) (by rw[World.shape?,hh];simp[Go.Lib.byteCells_length,hg]) (aG a.data) (λc=>ha (by rw[<-hg,c];rfl)) L L (λj v ha=>by rw[sg,eK];simp[rZ,hh,xZ,ha]);(let ha:(⟨E a.data.toList⟩:ac)=a:=by cases a;simp);(let ha:(aY hk.eval ⟨Q d,.call ⟨.builtin .unsafeString,#[h,i],#[e,f]⟩,g,n,l,Z⟩).run y k=.ok (.value<|.string a) (k.freeze ⟨b,0,Z⟩<|bf a):=by simp[aY,i1,iH,sb];simp[m.a he,m.a hf,(hg▸ha▸hi)]);rw[uF,ha];(let f:∀d,d≠b->(k.freeze ⟨b,0,Z⟩<|bf a).heap[d]?=k.heap[d]?:=λh e=>by rw[aag];split;rfl;simp only[ux];rw[ak<|λc=>e c.symm]);(let g:aj (k.freeze ⟨b,0,Z⟩<|bf a).heap=aj k.heap:=by rw[aag];split<;>simp);(let c:(k.freeze ⟨b,0,Z⟩<|bf a).os=k.os/\(k.freeze ⟨b,0,Z⟩<|bf a).tape=k.tape/\(k.freeze ⟨b,0,Z⟩<|bf a).output=k.output:=by rw[aag];split<;>exists J,J);exact hl _ _<|o.a _ (hj.g c g f (λi b=>bo _ b)<|λa _=>a) _<|m.d hc _⟩
end
def lP(a:Int):Prop:=-9223372036854775808<=a/\a<=9223372036854775807
structure adg{o:Type}(q:Nat)(p:ap->List bh->o->Prop)(f:ap)(v:bh)(d:List o):Prop where
 a:∃k g,v=.slice k (Y d) g/\(Y d<=1048576/\Y d<=g)/\∀h n,d[h]?=Q n->∃e i l,k=Q ⟨e,i,Z⟩/\e<aj f.heap/\p f l n/\∀j m,l[j]?=Q m->f.cell? ⟨e,i+h*q+j,Z⟩=Q m
def arY(a:a7):W bh:=[.int .i64 a.a,.string a.b]
abbrev e9(a:Type):=W UInt8->S (a×W UInt8)
def ig{a}(b:a):e9 a:=λc=>Q (b,c)
def KN{a}:e9 a:=λ_=>Z
def cZ{a b}(d:e9 a)(c:a->e9 b):e9 b:=λf=>match d f with|Z=>Z|Q (g,e)=>c g e
def sh(a:Nat):e9 (W UInt8):=λb=>if a<=Y b then Q (b.take a,b.drop a)else Z
def lw{b}(a:e9 b):Nat->e9 (W b)|0=>ig []|d+1=>cZ a λe=>cZ (lw a d) λc=>ig<|e::c
def gX{f g a}{c:f->e9 g}{b d e}:cZ a c b=Q (e,d)↔∃i h,a b=Q (i,h)/\c i h=Q (e,d):=by rw[cZ];rcases p:a b with _|m;simp;let⟨o,n⟩:=m;existsλj=>⟨o,n,J,j⟩;rintro⟨r,q,k,l⟩;cases k;exact l
def KX:W (Nat×Nat×Nat):=[(135,0,0),(135,1,1),(136,0,0),(136,1,1)]
def acY:∀a∈KX,KR T a.1 a.2.1 a.2.2:=by simp only[KX,zA];refine⟨?_,?_,?_,?_,zB _⟩;all_goals(intro b c d;kernel_rfl)
def K2:W (Nat):=[1,2,3,5,9,54,64,403]
def ac8:∀a∈K2,KT T a:=by simp only[K2,zA];refine⟨?_,?_,?_,?_,?_,?_,?_,?_,zB _⟩;all_goals(intro b;exact⟨M,M⟩)
def K1:W (Nat×Nat):=[(135,2),(136,2)]
def ac5:∀a∈K1,Rl T a.1 a.2:=by simp only[K1,zA];refine⟨?_,?_,zB _⟩;all_goals(intro b;exact⟨M,M⟩)
def K4:W (Nat×Nat×Nat):=[(54,3,1),(64,5,1)]
def ada:∀a∈K4,CS T a.1 a.2.1 a.2.2:=by simp only[K4,zA];refine⟨?_,?_,zB _⟩;all_goals(exact⟨M,λb=>M⟩)
def K5:W (Nat):=[9]
def adb:∀a∈K5,KU T a:=by simp only[K5,zA];refine⟨?_,zB _⟩;all_goals(show _=_;kernel_rfl)
def K7:W (Nat×W bh):=[(1,[.nilFunc]),(2,[.int .i64 0]),(3,[.int .i64 0]),(5,[.int .u8 0]),(9,[.string ⟨#[]⟩]),(54,[.slice Z 0 0]),(64,[.slice Z 0 0]),(135,[.string ⟨#[]⟩,.string ⟨#[]⟩]),(136,[.string ⟨#[]⟩,.string ⟨#[]⟩]),(403,[.pointer Z])]
def adf:∀a∈K7,CT T a.1 a.2:=by simp only[K7,zA];refine⟨?_,?_,?_,?_,?_,?_,?_,?_,?_,?_,zB _⟩;all_goals(intro b;kernel_rfl)
def KW:W (Nat×Nat×Nat×Nat×bh):=[(54,3,1,8,.int .i64 0),(64,5,1,1,.int .u8 0)]
def acU:∀a∈KW,zT T a.1 a.2.1 a.2.2.1 a.2.2.2.1 a.2.2.2.2:=by simp only[KW,zA];refine⟨?_,?_,zB _⟩;all_goals(exact⟨M,M,M,A⟩)
def KZ:W (Nat×qZ):=[(2,gF),(3,gF),(5,IntKind.u8)]
def ac2:∀a∈KZ,Rk T a.1 a.2:=by simp only[KZ,zA];refine⟨?_,?_,?_,zB _⟩;all_goals(show _=_;kernel_rfl)
def CY:W (Nat×Nat×Nat)->Nat->Nat->S Nat|[],_,_=>Z|(c,d,e)::f,b,a=>bif aw b c&&aw a d then Q e else CY f b a
def CX:W (Nat×Nat×Nat)->Nat->S (Nat×Nat)|[],_=>Z|(b,c,d)::e,a=>bif aw a b then Q (c,d)else CX e a
def CW:W (Nat×Nat)->Nat->S Nat|[],_=>Z|(b,c)::d,a=>bif aw a b then Q c else CW d a
def C1:W (Nat×W bh)->Nat->S (W bh)|[],_=>Z|(b,c)::d,a=>bif aw a b then Q c else C1 d a
def CZ:W (Nat×Nat×Nat×Nat×bh)->Nat->S (Nat×Nat×Nat×bh)|[],_=>Z|(b,c)::d,a=>bif aw a b then Q c else CZ d a
def C0:W (Nat×qZ)->Nat->S qZ|[],_=>Z|(b,c)::d,a=>bif aw a b then Q c else C0 d a
def zX:W Nat->Nat->aJ|[],_=>N|b::c,a=>bif aw a b then K else zX c a
def Rx:∀(g:W (Nat×Nat×Nat))(h c e:Nat),CY g h c=Q e->(h,c,e)∈g|[],_,_,_,p=>by simp[CY]at p|(j,k,l)::q,i,d,f,a=>by simp[CY]at a;cases b:aw i j&&aw d k;rw[b]at a;exact i3 _<|Rx q i d f a;rw[b]at a;rw[cQ]at b;have m:=b8 b.1;have n:=b8 b.2;have o:l=f:=cx a;subst m;subst n;subst o;exact hI
def Ru:∀(g:W (Nat×Nat×Nat))(h c e:Nat),CX g h=Q (c,e)->(h,c,e)∈g|[],_,_,_,o=>by simp[CX]at o|(j,k,l)::p,i,d,f,a=>by simp[CX]at a;cases b:aw i j;rw[b]at a;exact i3 _<|Ru p i d f a;rw[b]at a;have m:=b8 b;have n:(k,l)=(d,f):=cx a;cases n;subst m;exact hI
def Rv:∀(e:W (Nat×Nat))(f c:Nat),CW e f=Q c->(f,c)∈e|[],_,_,l=>by simp[CW]at l|(h,i)::m,g,d,a=>by simp[CW]at a;cases b:aw g h;rw[b]at a;exact i3 _<|Rv m g d a;rw[b]at a;have j:=b8 b;have k:i=d:=cx a;subst j;subst k;exact hI
def Rz:∀(e:W (Nat×qZ))(f:Nat)(c:qZ),C0 e f=Q c->(f,c)∈e|[],_,_,l=>by simp[C0]at l|(h,i)::m,g,d,a=>by simp[C0]at a;cases b:aw g h;rw[b]at a;exact i3 _<|Rz m g d a;rw[b]at a;have j:=b8 b;have k:i=d:=cx a;subst j;subst k;exact hI
def RA:∀(e:W (Nat×W bh))(f:Nat)(c:W bh),C1 e f=Q c->(f,c)∈e|[],_,_,l=>by simp[C1]at l|(h,i)::m,g,d,a=>by simp[C1]at a;cases b:aw g h;rw[b]at a;exact i3 _<|RA m g d a;rw[b]at a;have j:=b8 b;have k:i=d:=cx a;subst j;subst k;exact hI
def Ry:∀(e:W (Nat×Nat×Nat×Nat×bh))(f:Nat)(c:Nat×Nat×Nat×bh),CZ e f=Q c->(f,c)∈e|[],_,_,l=>by simp[CZ]at l|(h,i)::m,g,d,a=>by simp[CZ]at a;cases b:aw g h;rw[b]at a;exact i3 _<|Ry m g d a;rw[b]at a;have j:=b8 b;have k:i=d:=cx a;subst j;subst k;exact hI
def KY:∀(c:W Nat)(d:Nat),zX c d=K->d∈c|[],_,h=>by simp[zX]at h|f::i,e,a=>by simp only[zX]at a;cases b:aw e f;rw[b]at a;exact i3 _<|KY i e a;have g:=b8 b;subst g;exact hI
def F0{c a b:Nat}(d:CY KX c a=Q b):KR T c a b:=acY (c,a,b)<|Rx _ _ _ _ d
def C2{a:Nat}(b:zX K2 a=K):KT T a:=ac8 a<|KY _ _ b
def ade{a:Nat}{b:W bh}(c:C1 K7 a=Q b):CT T a b:=adf (a,b)<|RA _ _ _ c
def RD{d b c a:Nat}{e:bh}(f:CZ KW d=Q (b,c,a,e)):zT T d b c a e:=acU (d,b,c,a,e)<|Ry _ _ _ f
def RF{b a:Nat}(c:CW K1 b=Q a):Rl T b a:=ac5 (b,a)<|Rv _ _ _ c
def C4{c a b:Nat}(d:CX K4 c=Q (a,b)):CS T c a b:=ada (c,a,b)<|Ru _ _ _ _ d
def to{a:Nat}(b:zX K5 a=K):KU T a:=adb a<|KY _ _ b
def C3{b:Nat}{a:qZ}(c:C0 KZ b=Q a):Rk T b a:=ac2 (b,a)<|Rz _ _ _ c
def acZ:wc T 167:=⟨f167,func167,M,M⟩
def Rp:wc T 168:=⟨f168,func168,M,M⟩
def ac0:wc T 242:=⟨f242,abK,M,M⟩
def Rq:wc T 268:=⟨f268,func268,M,M⟩
def ac4:(T).follows .mixedOrders=K:=M
def RE(e:Nat)(a b:Int)(f c:ac)(d:ap):(qb (e+2) 71 (.agg #[.int .i64 a,.string f])<|.agg #[.int .i64 b,.string c]).run T d=.ok (cj (a=b)&&aM f c) d:=by
 let l:T.stoodInHeld 71=N:=M
 let g:(a==b)=cj (a=b):=by by_cases h:a=b<;>simp[h]
 rw[show e+2=(e+1)+1 from rfl,qb];simp[cE underlying71,gV];simp[part,un,cE<|C3 (b:=3) J,cE<|to (a:=9) J,λd=>run_equalIn_int d e 3 .i64 .i64 a b<|C3 J,λd=>PM d e 9 f c<|to J,CV,g];by_cases i:a=b<;>cases n:aM f c<;>simp[i]
def ZY{c:Type}(a:c->W bh)(b):∀(d:W c)(_:∀h∈d,Y (a h)=b),Y (d.flatMap a)=Y d*b|[],_=>az|i::g,e=>by rw[List.flatMap_cons,bJ,e i hI,ZY a b g<|λj f=>e j<|i3 _ f,de,vN];omega
def arX:T.underlying 403=Q (.pointer 5):=M
def aqt:T.cellsOf 5=1:=M
def arm(a)(b)(c:bf a<=4000000):yc T 242 #[.string a] b (.string a):=by
 refine RB abK J ntmps242<|uG<|wd<|lx J (jC J)<|we<|uH<|uG<|uG<|wd<|lx J (iz J)<|lx J (Rj (to J) J)<|lx J (acw J J)<|we<|uH<|acD J ?_ ?_;intro d;try(replace d:=ej d)
 refine uG<|wd<|lx J (jC J)<|we<|uH<|KV<|acK<|KS J J ?_;let f:=CG<|P8 (by show bf a=0;omega);rw[f];intro e;try(replace e:=zG e)
 let h:bf a≠0:=L
 refine acE<|uH<|uG<|wd<|lx J (iz J)<|lx J (Rj (to J) J)<|acH J (RD J) J J L (λj i g=>?_);refine lx J (jC J)<|we<|uH<|uG<|wd<|lx J (iz J)<|lx J (iz J)<|acG J (RD J) J J g<|we<|uH<|uG<|wd<|lx J (iz J)<|lx J (Rh (a:=0) (C4 J) J J L)<|lx J (iz J)<|lx J (Ri (C4 J) J)<|acI J arX aqt J J h L<|lx J (jC J)<|we<|uH<|KV<|KS J J ?_;rfl
def aqE(a)(b)(c:bf a<=4000000):yc T 131 #[.string a] b (.string a):=by refine RB func131 J ntmps131<|uG<|wd<|lx J (jC J)<|we<|uH<|uG<|wd<|lx J (iz J)<|acF ac0 J J (λb _=>arm a b c)<|lx J (jC J)<|we<|uH<|KV<|KS J J ?_;rfl
section
variable{y:aD}{x:Nat}{z:jV}{w:ap}{u:W Nat}{t:py}{s:gI}
def acA{f g b c a j}(d:eG z b=Q (.string a))(e:eG z c=Q (.string j)):jW y x z w u t s (.binOp .lss f b c g) (.bool<|mQ a j):=KQ d e (λh=>by simp[zP];rfl) (by simp[eT])
end
def adc(b)(d e)(f c)(a):(qb (b+2) 136 (.agg #[.string d,.string f])<|.agg #[.string e,.string c]).run T a=.ok (aM d e&&aM f c) a:=by
 let i:T.stoodInHeld 136=N:=M
 rw[show b+2=(b+1)+1 from rfl,qb];simp[cE Q7,gV];simp[part,un,cE<|to (a:=9) J,λa=>PM a b 9 d e<|to J,λa=>PM a b 9 f c<|to J,CV];cases k:aM d e<;>cases l:aM f c<;>simp
def cz(a:bA):W bh:=[.string a.b,.string a.a]
def rY(a:ac):ac:=(gG a).getD bU
def ZG(a:W bA):Y (a.flatMap cz)=Y a*2:=ZY cz 2 a<|λ_ _=>rfl
def pU(a:ac):W ac:=if a=bU then[]else a::zR a
def asg(a):zR a=pU (rY a):=by
 by_cases b:a=gW;subst b;rfl;by_cases c:a=eo;subst c;rfl;by_cases d:a=jB;subst d;rfl;by_cases e:qc.any (λj=>cj<|a=j)=K;let f:gG a=Q jB:=by rw[gG,ak b,ak c,ak d,aC e]
 let h:zR a=[jB,eo,gW]:=by rw[zR,ak b,ak c,ak d,aC e]
 rw[rY,f,h];rfl;let g:gG a=Z:=by rw[gG,ak b,ak c,ak d,ak e]
 let i:zR a=[]:=by rw[zR,ak b,ak c,ak d,ak e]
 rw[rY,g,i];rfl
def Py{a}(b:¬a=bU):pU a=a::pU (rY a):=by rw[<-asg,pU,ak b]
def aqu{a}(b:a=bU):pU a=[]:=by rw[pU,aC b]
def aqn(a:ac):(a==a)=K:=by obtain⟨b⟩:=a;show(b==b)=K;simp
def arT(c)(a b):Kt (c+2) (.agg #[.string a,.string b]) (.agg #[.string a,.string b])=K:=by simp[Kt,aqn]
def ZI(d)(c)(b e)(a):(zM d (c+2) 136<|.agg #[.string b,.string e]).run T a=.ok () a:=by rw[zM,fN,cE Q7,hF];simp[part,un,cE<|to (a:=9) J,zM]
def mc(a:bA):W bA->Nat->S Nat|[],_=>Z|b::d,c=>if aM a.b b.b&&aM a.a b.a then Q c else mc a d (c+1)
def ZF(a)(b):∀(e)(f)(i),e.map (·.key)=f.map (λl=>pp<|E<|cz l)->(∀v∈e,v.val=.agg #[])->(Qz 136 (.agg<|E<|cz a) e i).run T b=.ok ((mc a f i).map λj=>(j,pp #[])) b|[],[],x,_,_=>by simp[Qz,mc]|[],_::_,y,n,_=>by simp at n|_::_,[],z,o,_=>by simp at o|k::u,c::m,t,d,h=>by simp[zz]at d;let q:(Kw 136 (.agg<|E<|cz a) k.key).run T b=.ok (aM a.b c.b&&aM a.a c.a) b:=d.1▸adc 9998 a.b c.b a.a c.a b;rw[Qz,mc,fN,q,hF];by_cases g:(aM a.b c.b&&aM a.a c.a)=K;simp only[g];rw[h k hI];rfl;(let p:(aM a.b c.b&&aM a.a c.a)=N:=by simpa using g);simp[p,gV];exact ZF a b u m (t+1) d.2<|λw s=>h w<|i3 _ s
def PA{a}:∀{c h},mc a c h=Z->a∉c|[],_,_,d=>by cases d|i::j,k,b,e=>by rw[mc]at b;split at b;cases b;rename_i g;obtain rfl|f:=cB.1 e;exact g (by simp[aM]);exact PA b f
def PB{a}:∀{d e j},mc a d e=Q j->∃f,j=e+f/\d[f]?=Q a|[],_,_,g=>by cases g|k::l,m,j,b=>by rw[mc]at b;split at b;rename_i c;cases b;rw[cQ]at c;exact⟨0,J,by simp;exact(bA.c (ej c.1)<|ej c.2).symm⟩;obtain⟨i,rfl,h⟩:=PB b;exact⟨i+1,L,by simpa using h⟩
def arh:TypeDesc->aJ|.struct _=>K|_=>N
def aqX{a d}(c)(b)(f:c.map (·.key)=b.map (λg=>pp<|E<|cz g))(e:arh a=K):(CL a (.agg<|E<|cz d) c 0=Q Z/\mc d b 0=Z)\/CL a (.agg<|E<|cz d) c 0=Z:=by obtain _|⟨i,j⟩:=c;(cases b with|nil=>exact .inl av|cons h b=>simp at f);right;cases a<;>first|rfl|cases e
def aro(a:Nat)(b:W bA):gI:=⟨[a],λi=>∃c d,i.heap[a]?=Q (.map c d)/\c.toList.map (·.key)=b.map (λf=>pp<|E<|cz f)/\(∀e∈(aG c),e.val=.agg #[]/\e.born<d)/\(c.toList.map (·.born)).Nodup/\b.Nodup,λj k g h=>h a hI▸g⟩
def ZV{c b}{d:ap}{a:bv uE}(e:a.toList.map (·.key)=b.map (λi=>pp<|E<|cz i))(f:∀l∈(aG a),l.val=.agg #[]):(CK 136 (.agg<|E<|cz c)<|aG a).run T d=.ok ((mc c b 0).map λj=>(j,pp #[])) d:=by let h:=Q7;rw[CK,fN,cE h,hF];obtain⟨g,k⟩|g:=aqX (a:=(T.underlying 136).getD .string) (aG a) b e M;rw[h,FH]at g;rw[g,k];rfl;rw[h,FH]at g;rw[g];exact ZF c d (aG a) b 0 e f
def Z9:T.underlying 197=Q (.map 136 273):=M
def asi{d e b f a c}(g:a.heap[d]?=Q (.map c e))(i:c.toList.map (·.key)=f.map (λl=>pp<|E<|cz l))(j:∀n∈(aG c),n.val=.agg #[])(h:mc b f 0=Z):(zN 197 (.map<|Q d) (.agg<|E<|cz b)<|.agg #[]).run T a=.ok () {a with heap:=a.heap.setIfInBounds d<|.map (c.push {key:=.agg<|E<|cz b,val:=.agg #[],born:=e})<|e+1}:=by let m:(zM N 10000 136<|.agg<|E<|cz b).run T a=.ok () a:=ZI N 9998 b.b b.a a;let k:=ZV (c:=b) (d:=a) i j;simp[zN,cE Z9,QD g,m,(h▸k),abo _ g,JE]
def asj{d e j a f b c}(g:b.heap[d]?=Q (.map c e))(k:c.toList.map (·.key)=f.map (λn=>pp<|E<|cz n))(l:∀r∈(aG c),r.val=.agg #[])(h:mc a f 0=Q j)(i:(c[j]?).map (·.key)=Q (.agg<|E<|cz a)):(zN 197 (.map<|Q d) (.agg<|E<|cz a)<|.agg #[]).run T b=.ok () {b with heap:=b.heap.setIfInBounds d<|.map (c.modify j λo=>{o with key:=.agg<|E<|cz a,val:=.agg #[]}) e}:=by
 let q:(zM N 10000 136<|.agg<|E<|cz a).run T b=.ok () b:=ZI N 9998 a.b a.a b;let m:=ZV (c:=a) (d:=b) k l;rw[h]at m;let p:(Ks (.agg<|E<|cz a)<|.agg<|E<|cz a).run T b=.ok (.agg<|E<|cz a) b:=by have:=arT 9998 a.b a.a;simp[Ks,cz,this]
 simp[zN,cE Z9,QD g,q,m,i,p,abo _ g,JE]
def arn{b:ap}{a e:Nat}{d:bv uE}(c:b.heap[a]?=Q (.map d e)):a<aj b.heap:=by obtain f|f:=dy a (aj b.heap);exact f;cases uv f▸c
def ash{c b a d}(e:∃g p,d.heap[c]?=Q (.map g p)/\g.toList.map (·.key)=a.map (λk=>pp<|E<|cz k)/\(∀h∈(aG g),h.val=.agg #[]/\h.born<p)/\(g.toList.map (·.born)).Nodup/\a.Nodup):∃m f,(b∈a/\m=a\/b∉a/\m=a++[b])/\(zN 197 (.map<|Q c) (.agg<|E<|cz b)<|.agg #[]).run T d=.ok () {d with heap:=d.heap.setIfInBounds c f}/\(aro c m).d {d with heap:=d.heap.setIfInBounds c f}:=by let⟨h,k,o,f,l,r,y⟩:=e;let k:=λi e=>(l i e).1;let t:=arn o;let e:∀i,(d.heap.setIfInBounds c i)[c]?=Q i:=λw=>Qc t;cases i:mc b a 0 with|none=>let z:=PA i;refine⟨a++[b],_,.inr ⟨z,J⟩,asi o f k i,⟨_,_,e _,?_,?_,?_,?_⟩⟩;simp[f];intro n d;rw[aaY,dl,eY]at d;obtain g|rfl:=d;exact⟨k n g,Nat.lt_succ_of_lt (l n g).2⟩;exact⟨J,FD _⟩;rw[aaY,c2,c4,mK,iJ];exists r,az;intro t d v m q;simp[eY]at m;obtain⟨p,n,rfl⟩:=cw.1 d;have:=(l p n).2;omega;rw[iJ];exists y,az;intro x g v c p;rw[eY]at c;subst c;subst p;exact z g|some j=>let⟨s,w,x⟩:=PB i;(let t:(h[j]?).map (·.key)=Q (.agg<|E<|cz b):=by let n:(h.toList.map (·.key))[j]?=(a.map<|λq=>pp<|E<|cz q)[j]?:=f▸J;rw[cv,cv]at n;(let u:a[j]?=Q b:=by rwa[w,eK]);rw[u]at n;simpa using n);let z:=bl x;let⟨m,u,w⟩:=b3.1 t;let x:=k m (by rw[Array.mem_toList_iff];exact aaW u);(let c:(h.modify j λs=>{s with key:=.agg<|E<|cz b,val:=.agg #[]})=h:=by apply Kg;intro b;rw[ux];by_cases s:j=b;subst s;rw[aC J,u];obtain⟨h,u,b⟩:=m;simp at w x;simp[w,x];rw[ak s]);let q:=asj o f k i t;exact⟨a,_,.inl ⟨z,J⟩,(c▸q),⟨_,_,e _,f,l,r,y⟩⟩
abbrev bs:=Nat->S (Nat×Nat)
inductive X where|k(o:bh)|a(l n:Nat)|d(l n m j:Nat)|g(l:Nat)|h(l:Nat)|f(q:cV)(r p:List X)|i(l:Nat)|e(s:fV)(o:X)|b(m:List X)|c(m:List X)
abbrev V(x:Int):X:=.k (.int .i64 x)
abbrev B(x:Nat):X:=.k (.int .i64 (.ofNat x))
abbrev O(x:ByteArray):X:=.k (.string x)
abbrev R(x:Bool):X:=.k (.bool x)
abbrev ab:X:=.k (.slice none 0 0)
abbrev be:X:=.k (.pointer none)
abbrev bN:X:=.k .nilIface
mutual
def aT(a:bs):X->S bh|.k d=>Q d|.a c g=>(a c).map λb=>.pointer<|Q ⟨b.1,g,Z⟩|.d c g f j=>(a c).map λb=>.slice (Q ⟨b.1,g,Z⟩) f<|b.2-j|.g c=>(a c).map λb=>.map<|Q b.1|.h c=>(a c).map λb=>.chan<|Q b.1|.f k h i=>(match bm a h,bm a i with|Q d,Q e=>Q (.func (.func k) (E d)<|E e)|_,_=>Z)|.i c=>(a c).map λb=>.func (.yield b.1) #[] #[]|.e m d=>(aT a d).map λe=>.iface m e|.b f=>(bm a f).map λe=>.agg<|E e|.c f=>(bm a f).map λe=>.tuple<|E e
def bm(a:bs):W X->S (W bh)|[]=>Q []|d::l=>match aT a d,bm a l with|Q v,Q n=>Q (v::n)|_,_=>Z
end
def cI(a b:bs):Prop:=∀(c)(d),a c=Q d->b c=Q d
def cI.c(d):cI d d:=λ_ _ e=>e
def cI.a{d e f}(g:cI d e)(h:cI e f):cI d f:=λi j k=>h i j<|g i j k
def cX(a:bs)(b:Nat)(c:Nat×Nat):bs:=λj=>if j=b then Q c else a j
def cI.b{d e}(f:d e=Z)(g):cI d (cX d e g):=λj k h=>by rwa[cX,ak (λi=>by cases f▸i▸h)]
def jS(c)(a)(b):cX c a b a=Q b:=aC J
mutual
def l6{g n:bs}(e:cI g n):∀(v:X)(f:bh),aT g v=Q f->aT n v=Q f|.k o,f,a=>a|.a h s,f,a=>by simp only[aT,b3]at a⊢;let⟨b,d,c⟩:=a;exact⟨b,e h b d,c⟩|.d h s l j,f,a=>by simp only[aT,b3]at a⊢;let⟨b,d,c⟩:=a;exact⟨b,e h b d,c⟩|.g h,f,a=>by simp only[aT,b3]at a⊢;let⟨b,d,c⟩:=a;exact⟨b,e h b d,c⟩|.h h,f,a=>by simp only[aT,b3]at a⊢;let⟨b,d,c⟩:=a;exact⟨b,e h b d,c⟩|.i h,f,a=>by simp only[aT,b3]at a⊢;let⟨b,d,c⟩:=a;exact⟨b,e h b d,c⟩|.f w p q,f,a=>(by simp only[aT]at a⊢;cases i:bm g p with|none=>rw[i]at a;cases a|some m=>cases k:bm g q with|none=>rw[i,k]at a;cases a|some u=>rw[i,k]at a;rw[jL e p m i,jL e q u k];exact a)|.e x o,f,a=>by simp only[aT,b3]at a⊢;let⟨b,d,c⟩:=a;exact⟨b,l6 e o b d,c⟩|.b l,f,a=>by simp only[aT,b3]at a⊢;let⟨b,d,c⟩:=a;exact⟨b,jL e l b d,c⟩|.c l,f,a=>by simp only[aT,b3]at a⊢;let⟨b,d,c⟩:=a;exact⟨b,jL e l b d,c⟩
def jL{g n:bs}(e:cI g n):∀(l:W X)(m:W bh),bm g l=Q m->bm n l=Q m|[],m,a=>a|o::r,m,a=>by simp only[bm]at a⊢;cases i:aT g o with|none=>rw[i]at a;cases a|some v=>cases k:bm g r with|none=>rw[i,k]at a;cases a|some t=>rw[i,k]at a;rw[l6 e o v i,jL e r t k];exact a
end
def jK{a c b d}:bm a (c::b)=Q d↔∃v h,aT a c=Q v/\bm a b=Q h/\d=v::h:=by
 rw[bm];constructor;intro e;cases f:aT a c with|none=>cases f▸e|some v=>cases g:bm a b with|none=>cases g▸f▸e|some k=>cases g▸f▸e;exists v,k,J,J
 rintro⟨v,l,i,j,rfl⟩;rw[i,j]
def l5{a}:∀{c d},bm a c=Q d->Y d=Y c|[],i,b=>by cases b;rfl|k::g,j,e=>by obtain⟨v,h,_,f,rfl⟩:=jK.1 e;simp[l5 f]
def sK{a}:∀{d f},bm a d=Q f->∀{c:Nat}{v},d[c]?=Q v->∃e,f[c]?=Q e/\aT a v=Q e|[],r,l,n,v,i=>by simp at i|t::p,s,g,j,v,b=>by obtain⟨k,q,m,h,rfl⟩:=jK.1 g;obtain _|o:=j;simp at b;subst b;exists k,az;simp at b;simpa using sK h b
def jl{a}:∀{c d e f},bm a c=Q e->bm a d=Q f->bm a (c++d)=Q (e++f)|[],o,r,u,b,j=>by cases b;exact j|t::q,p,s,n,g,k=>by obtain⟨l,m,h,i,rfl⟩:=jK.1 g;exact jK.2 ⟨l,m++n,h,jl i k,J⟩
def Ea{a}:∀{c f}(d),bm a c=Q f->bm a (c.take d)=Q (f.take d)|[],o,m,b=>by cases b;simp[bm]|q::n,p,j,g=>by obtain⟨k,l,h,i,rfl⟩:=jK.1 g;obtain _|e:=j;simp[bm];exact jK.2 ⟨k,l.take e,h,Ea e i,J⟩
def MN{a}:∀{d f}(e),bm a d=Q f->bm a (d.drop e)=Q (f.drop e)|[],o,k,b=>by cases b;simp[bm]|q::l,p,h,c=>by obtain⟨m,n,j,g,rfl⟩:=jK.1 c;obtain _|i:=h;simpa using c;simpa using MN i g
def A9{b}(a):bm b (a.map X.k)=Q a:=by induction a with|nil=>rfl|cons e d c=>exact jK.2 ⟨e,d,J,c,J⟩
abbrev au:=W<|Nat×X
def aO(a:au)(b:Nat):S X:=vM Z (λc _ d=>cond (aw b c.1) (Q c.2) d) a
def OX(a):aO [] a=Z:=rfl
def cT(j)(v)(b:au)(a):aO ((j,v)::b) a=bif aw a j then Q v else aO b a:=rfl
def YG:bh->S X|.agg _=>Z|.tuple _=>Z|a=>Q (.k a)
def al(a:au):dW->S X|.tmp c=>aO a c|.const d=>YG d|.global _=>Z|.func b=>Q (.f b [] [])
inductive bz where|a(c:Nat)|b(e:cV)(d:List X)
def jk(a:bs):bz->S Deferred|.a b=>(a b).map λe=>{target:=.collected e.1,args:=#[]}|.b d c=>(bm a c).map λf=>{target:=.fn (.func d)<|E f,args:=#[]}
def g7(a:bs):W bz->S (W Deferred)|[]=>Q []|d::b=>match jk a d,g7 a b with|Q v,Q c=>Q (v::c)|_,_=>Z
def ah4{a b}(c:cI a b):∀(v)(h),jk a v=Q h->jk b v=Q h|.a i,p,d=>by rw[jk,b3]at d⊢;let⟨f,k,m⟩:=d;exists f,c i f k|.b o j,q,e=>by rw[jk,b3]at e⊢;let⟨g,l,n⟩:=e;exists g,jL c j g l
def wM{a c b d}:g7 a (c::b)=Q d↔∃v h,jk a c=Q v/\g7 a b=Q h/\d=v::h:=by
 rw[g7];constructor;intro e;cases f:jk a c with|none=>cases f▸e|some v=>cases g:g7 a b with|none=>cases g▸f▸e|some k=>cases g▸f▸e;exists v,k,J,J
 rintro⟨v,l,i,j,rfl⟩;rw[i,j]
def A7{a b}(c:cI a b):∀(d)(f),g7 a d=Q f->g7 b d=Q f|[],m,i=>i|l::k,n,j=>by obtain⟨v,e,g,h,rfl⟩:=wM.1 j;exact wM.2 ⟨v,e,ah4 c l v g,A7 c k e h,J⟩
def iS(b:bs)(c:au)(d:Nat)(a:bv bh):Prop:=d<=aj a/\∀e v,aO c e=Q v->∃f,aT b v=Q f/\a[e]?=Q f
def iS.a{c d e g h}(f:iS c e g h)(i:cI c d):iS d e g h:=⟨f.1,λn v l=>by let⟨j,m,k⟩:=f.2 n v l;exact⟨j,l6 i v j m,k⟩⟩
def iS.b{e h d c i v g}(f:iS e h d i)(j:cc c d=K)(k:aT e v=Q g):iS e ((c,v)::h) d (i.setIfInBounds c g):=by
 let s:c<d:=by simpa using j
 refine⟨by rw[vT];exact f.1,λm t l=>?_⟩;simp[cT]at l;rw[vQ];by_cases n:m=c;subst n;rw[cF m]at l;cases l;rw[aC J,aC<|mN s f.1];exact⟨g,k,J⟩;let p:aw m c=N:=by cases r:aw m c;rfl;exact aE (b8 r) n
 rw[p]at l;rw[ak<|λq=>n q.symm];exact f.2 m t l
structure b0(l:Nat)(i:aX)(k:au)(j:List bz)(h:bs):Prop where
 b:iS h k l i.tmps
 d:g7 h j=Q i.defers
def b0.c{o l k h i j}(m:b0 o l k h i)(n:cI i j):b0 o l k h j:=⟨m.b.a n,A7 n h _ m.d⟩
def b0.f{j i m l k h v o}(n:b0 j m l k h)(p:cc i j=K)(q:aT h v=Q o):b0 j (m.put (Q i) o) ((i,v)::l) k h:=⟨n.b.b p q,n.d⟩
def b0.a{o i l m k j v}(n:b0 o i l m k)(h:al l j=Q v):aT k v=Q (i.eval j):=by obtain p|s|w|u:=j;let⟨t,r,q⟩:=n.b.2 p v h;rw[r];show Q t=Q (i.tmps.getD p ee);rw[qV,q];rfl;rw[al]at h;cases s<;>simp only[YG]at h<;>cases h<;>rfl;cases h;rw[al]at h;cases h;rfl
inductive P where|a(j:List X)|b(x hc p:Nat)(j:List X)|c(y:List (ByteArray×X))|d(v p:Nat)|g(u:LoopState)(s:Option ek)(m:au)(r:Nat)(t:Array Tmp)(n o:ek)|f|l(q:Nat)|k(j:List X)(hd:Nat)(ha:Nat×Nat)|i(he:Obj->Prop)|h(q w:Nat)(hb:Array Nat)|e(z:cV)(u:LoopState)(s:Option ek)(m:au)(r:Nat)(t:Array Tmp)(n o:ek)
inductive qr where|a|b(c:qr)(e:Option P)(d:qr)
def sW(a:qr):Nat->S P:=qr.rec (λ_=>Z) (λ_ e _ c d b=>cond (aw b 0) e<|cond (aw (te b 2) 1) (c<|pZ b 2)<|d<|pZ (xO b) 2) a
def apj(a):sW .a a=Z:=rfl
def Ji(b)(d)(c)(a):sW (.b b d c) a=bif aw a 0 then d else bif aw (te a 2) 1 then sW b (pZ a 2)else sW c (pZ (xO a) 2):=rfl
def Cj(b:qr)(e:S P)(c:qr)(d:qr->Nat->qr)(a:Nat)(f:S P):qr:=cond (aw a 0) (.b b f c)<|cond (aw (te a 2) 1) (.b (d b<|pZ a 2) e c)<|.b b e<|d c<|pZ (xO a) 2
def vE(d:Nat)(a:qr)(b:Nat)(c:S P):qr:=Nat.rec (λa _=>a) (λ_ e a b=>qr.casesOn a (Cj .a Z .a e b c)<|λf h g=>Cj f h g e b c) d a b
def apF(b c)(a):vE (b+1) .a c a=Cj .a Z .a (λd j=>vE b d j a) c a:=rfl
def apE(b)(d)(f)(e)(c)(a):vE (b+1) (.b d f e) c a=Cj d f e (λg j=>vE b g j a) c a:=rfl
structure aA where
 f:Nat
 g:qr
def aA.a(i:aA)(h:Nat):S P:=sW i.g h
def bi:Nat:=16000
def aA.c(h:aA)(i:Nat)(j:S P):aA:=⟨h.f,vE 14 h.g i j⟩
def aA.d(h:aA)(i:Nat):aA:=⟨h.f+i,h.g⟩
def lJ{a j:Nat}(b:a≠j):aw a j=N:=by cases c:aw a j;rfl;exact aE (b8 c) b
def Jj:∀(l)(u)(i j)(v),i+2<=2^l->sW (vE l u i v) j=if j=i then v else sW u j|0,p,k,j,q,a=>by simp at a|c+1,k,a,j,b,e=>by(let o:a+2<=2*2^c:=by omega);(let r:∀(s)(w)(t),sW (Cj s w t (λk j=>vE c k j b) a b) j=if j=a then b else sW (.b s w t) j:=λi s l=>by rw[Cj];by_cases e:a=0;subst e;rw[cF];simp only[b4,Ji];by_cases f:j=0;subst f;simp;rw[lJ f,ak f];simp;rw[lJ e,dE];by_cases h:te a 2=1;rw[h,cF];simp only[b4,Ji];by_cases o:j=0;subst o;rw[cF,ak<|λx=>e x.symm];simp;rw[lJ o];by_cases g:te j 2=1;rw[g,cF];simp[b4];rw[Jj c i (pZ a 2) (pZ j 2) b (by have:te a 2=a%2:=rfl;have:pZ a 2=a/2:=rfl;omega)];by_cases m:j=a;subst m;simp;rw[ak m,ak (by have:te a 2=a%2:=rfl;have:pZ a 2=a/2:=rfl;have:te j 2=j%2:=rfl;have:pZ j 2=j/2:=rfl;omega)];rw[lJ g];simp only[dE];rw[ak<|λy=>g (by rwa[y])];rw[lJ h];simp only[dE,Ji];by_cases p:j=0;subst p;rw[cF,ak<|λz=>e z.symm];simp;rw[lJ p];simp only[dE];by_cases q:te j 2=1;rw[q,cF];simp only[b4];rw[ak<|λd=>h (by rwa[<-d])];rw[lJ q];simp only[dE];let g:te a 2=a%2:=rfl;let h:te j 2=j%2:=rfl;let m:pZ (xO a) 2=(a-1)/2:=rfl;let n:pZ (xO j) 2=(j-1)/2:=rfl;rw[Jj c l (pZ (xO a) 2) (pZ (xO j) 2) b L];by_cases n:j=a;subst n;simp;rw[ak n,ak L]);cases k with|a=>have:=r .a Z .a;rw[apF,this];by_cases d:j=a;rw[aC d,aC d];rw[ak d,ak d,Ji,apj];cases aw j 0<;>cases aw (te j 2) 1<;>rfl|b b f c=>rw[apE];exact r b f c
def aA.b(k:aA){h}(l:h<bi)(j:Nat)(i:S P):(k.c h i).a j=if j=h then i else k.a j:=Jj 14 k.g h j i (by rw[bi]at l;omega)
def aA.e(h:aA)(i j:Nat):(h.d i).a j=h.a j:=rfl
def pK(a:bs):W (ac×X)->W uE->Prop|[],[]=>True|(c,v)::e,b::d=>b.key=.string c/\aT a v=Q b.val/\pK a e d|_,_=>False
def Vm{a b}(c:cI a b):∀(f)(e),pK a f e->pK b f e|[],[],_=>C|(l,v)::j,k::i,d=>⟨d.1,l6 c v _ d.2.1,Vm c j i d.2.2⟩|[],_::_,g=>g|_::_,[],h=>h
def e1(a:bs)(b:Nat×Nat):P->S Obj->Prop|.a c,i=>∃p d,bm a c=Q p/\i=Q (.cells (E p) d (0,0))|.b v g f d,j=>∃h e,bm a d=Q h/\Y h=f*g/\j=Q (.cells e v (0,0))/\f<=b.2/\b.2<=mJ/\aj e=b.2*g/\e.toList.take (f*g)=h|.c w,k=>∃m t,k=Q (.map m t)/\pK a w (aG m)|.d u z,l=>∃j y x,l=Q (.chan u j N y x N)/\aj j=z|.g c s r g v e h,m=>∃d,m=Q (.loop d)/\d.state=c/\d.pending=s/\iS a r g d.tmps/\d.params=v/\d.assign=e/\d.body=h|.f,n=>n=Q (.deferred<|Q [])|.l f,o=>∃n k,a f=Q n/\o=Q (.mapIter (Q n.1) k #[] k)|.k e f y,p=>∃i,bm a e=Q i/\p=Q (.cells (E i) f y)/\b.2=Y i|.i j,r=>∃q,r=Q q/\j q|.h b l z,q=>∃o,a b=Q o/\q=Q (.mapIter (Q o.1) l z l)|.e x b u s h w g i,t=>∃c,t=Q (.loop c)/\c.state=b/\c.pending=u/\iS a s h c.tmps/\c.params=w/\c.assign=g/\c.body=i/\c.fn=x
def e1.a{e f}(d:cI e f){h g}:∀{k},e1 e h k g->e1 f h k g|.a u,⟨l,i,h,k⟩=>⟨l,i,jL d u l h,k⟩|.b h l j v,⟨m,q,i,e⟩=>⟨m,q,jL d v m i,e⟩|.c r,⟨w,o,l,g⟩=>⟨w,o,l,Vm d r _ g⟩|.d _ _,r=>r|.g _ _ _ _ _ _ _,⟨f,s,u,w,y,e⟩=>⟨f,s,u,w,y.a d,e⟩|.f,s=>s|.l y,⟨i,p,q,m⟩=>⟨i,p,d y i q,m⟩|.k x m k,⟨n,j,o⟩=>⟨n,jL d x n j,o⟩|.i _,t=>t|.h z _ _,⟨j,p,n⟩=>⟨j,d z j p,n⟩|.e _ _ _ _ _ _ _ _,⟨g,t,v,x,z,f⟩=>⟨g,t,v,x,z.a d,f⟩
def e1.c{e f d}:∀{r},e1 e f r d->∃s,d=Q s|.a l,⟨w,u,f,k⟩=>⟨_,k⟩|.b x t j k,⟨y,w,g,d,l,o⟩=>⟨_,l⟩|.c y,⟨n,u,m,e⟩=>⟨_,m⟩|.d _ _,⟨_,_,_,n,_⟩=>⟨_,n⟩|.g _ _ _ _ _ _ _,⟨r,i,_⟩=>⟨_,i⟩|.f,g=>⟨_,g⟩|.l p,⟨q,v,i,o⟩=>⟨_,o⟩|.k m v z,⟨x,h,p⟩=>⟨_,p.1⟩|.i _,⟨t,h,_⟩=>⟨t,h⟩|.h _ _ _,⟨_,_,q⟩=>⟨_,q⟩|.e _ _ _ _ _ _ _ _,⟨s,j,_⟩=>⟨_,j⟩
structure aZ(x:ap)(t:List Nat)(s:bs)(r:aA)(w:ap):Prop where
 c:hK t x w
 i:r.f<=bi
 d:∀p,r.f<=p->(p<bi->s p=Z)/\r.a p=Z
 b:∀(p:Nat)(v:P),r.a p=Q v->∃q,s p=Q q/\e1 s q v w.heap[q.1]?/\(q.1∈t\/aj x.heap<=q.1)
 a:∀(p j:Nat)(y z:P)(q u:Nat×Nat),r.a p=Q y->r.a j=Q z->s p=Q q->s j=Q u->q.1=u.1->p=j
section
variable{w y t:ap}{u:W Nat}{x:bs}{z:aA}
def aZ.k(q:aZ w u x z y){j r}(p:z.a j=Q r):j<z.f:=by obtain s|s:=dy j z.f;exact s;cases (q.d j s).2▸p
def aZ.m(j:aZ w u x z y){p r}(q:z.a p=Q r):p<bi:=mN (j.k q) j.i
def aZ.nb(r:aZ w u x z y){j q p}(s:z.a j=Q q)(t:x j=Q p):p.1<aj y.heap:=by let⟨ha,v,p,_⟩:=r.b j q s;cases t▸v;let⟨q,j⟩:=p.c;exact(uw.1 j).1
def aZ.g(j:aZ w u x z y)(p:po (aj y.heap) y t):aZ w u x z t:=⟨j.c.e (n:=[]) (hK.d p _) az,j.i,j.d,λha hc q=>by let⟨hb,r,v,s⟩:=j.b ha hc q;exact⟨hb,r,p.block _ (j.nb q r)▸v,s⟩,j.a⟩
def aZ.nf(j:aZ w u x z y)(p:Nat):aZ w u x z {y with drawn:=p}:=⟨⟨j.c.h,j.c.f,j.c.c,j.c.a,j.c.b⟩,j.i,j.d,j.b,j.a⟩
def aZ.ng(j:aZ w u x z y)(p:Nat)(q:z.f+p<=bi):aZ w u x (z.d p) y:=⟨j.c,q,λr s=>j.d r (by have:z.f+p<=r:=s;omega),j.b,j.a⟩
def aZ.nc(r:aZ w u x z y){p}(hc:p<z.f)(v:x p=Z){q s}(hb:e1 (cX x p q) q s y.heap[q.1]?)(ha:q.1∈u\/aj w.heap<=q.1)(t:∀hd hf he,z.a hd=Q hf->x hd=Q he->he.1≠q.1):aZ w u (cX x p q) (z.c p<|Q s) y:=by
 have hk:=cI.b v q;have hh:=mN hc r.i;have hn:∀(v)(hi)(he),(z.c p<|Q s).a v=Q hi->cX x p q v=Q he->(v=p/\he=q)\/(v≠p/\z.a v=Q hi/\x v=Q he):=λv hi he hg hc=>by rw[z.b hh]at hg;by_cases s:v=p;subst s;rw[jS]at hc;cases hc;exact .inl ⟨J,J⟩;rw[ak s]at hg;unfold cX at hc;rw[ak s]at hc;exact .inr ⟨s,hg,hc⟩
 refine⟨r.c,r.i,λhd v=>?_,λhd hf v=>?_,λhd j hf hj he hi v ho hc hp s=>?_⟩;have hl:z.f<=hd:=v;have hm:hd≠p:=L
 refine⟨?_,by rw[z.b hh,ak hm];exact(r.d hd hl).2⟩;unfold cX;rw[ak hm];exact(r.d hd hl).1;rw[z.b hh]at v;by_cases s:hd=p;rw[aC s]at v;cases v;subst s;exact⟨q,jS ..,hb,ha⟩;rw[ak s]at v;let⟨he,hc,hg,p⟩:=r.b hd hf v;exact⟨he,hk hd he hc,hg.a hk,p⟩;obtain⟨ha,p⟩|⟨ha,p,hb⟩:=hn hd hf he v hc<;>obtain⟨hg,q⟩|⟨hg,q,hh⟩:=hn j hj hi ho hp;rw[ha,hg];rw[p]at s;exact aE s.symm<|t j hj hi q hh;rw[q]at s;exact aE s<|t hd hf he p hb;exact r.a hd j hf hj he hi p q hb hh s
def aZ.n(r:aZ w u x z y){p}(v:p<z.f)(t:x p=Z)(j)(q)(s)(ha:e1 (cX x p (aj y.heap,q)) (aj y.heap,q) s (Q j)):aZ w u (cX x p (aj y.heap,q)) (z.c p<|Q s) (y.alloc j):=by
 let s:(y.alloc j).heap[(aj y.heap)]?=Q j:=by show(y.heap.push _)[(aj y.heap)]?=_;rw[Qa,aC J]
 refine (r.g (t:=y.alloc j)<|(xz _ y).alloc (bd _) _).nc v t ?_ (.inr r.c.a)<|λhb hd hc p ha j=>?_;rwa[s];have:=r.nb p ha;simp at j;omega
def aZ.na(p:aZ w u x z y){q v r}(s:z.a q=Q v)(hb:x q=Q r)(ha:t.os=y.os/\t.tape=y.tape/\t.output=y.output)(hf:aj t.heap=aj y.heap)(hd:∀hg,hg≠r.1->t.heap[hg]?=y.heap[hg]?)(hc)(he:e1 x r hc t.heap[r.1]?):aZ w u x (z.c q<|Q hc) t:=by
 let⟨hh,hg,_,hk⟩:=p.b q v s;rw[hb]at hg;cases hg;let hi:=p.m s;refine⟨⟨ha.1.trans p.c.h,ha.2.1.trans p.c.f,ha.2.2.trans p.c.c,hf▸p.c.a,λhg hh hj=>?_⟩,p.i,λhg hh=>?_,?_,?_⟩;rw[hd hg<|λha=>hk.elim (λhf=>hj<|ha▸hf) (λhk=>L)];exact p.c.b hg hh hj;let ha:z.f<=hg:=hh;exact⟨(p.d hg ha).1,by rw[z.b hi,ak (by have:=p.k s;omega)];exact(p.d hg ha).2⟩;intro j hh ha;rw[z.b hi]at ha;by_cases hf:j=q;rw[aC hf]at ha;cases ha;subst hf;exists r,hb,he;rw[ak hf]at ha;let⟨he,hg,hk,hj⟩:=p.b j hh ha;exists he,hg,hd he.1 (λhj=>hf<|p.a j q hh v he r ha s hg hb hj)▸hk;intro j ha hk hl hh hj he s hf hg r;let hd:∀(hb)(hm),(z.c q<|Q hc).a hb=Q hm->∃hn,z.a hb=Q hn:=λha hb s=>by rw[z.b hi]at s;by_cases r:ha=q;subst r;exists v;rw[ak r]at s;exists hb
 let⟨hb,q⟩:=hd j hk he;let⟨hc,v⟩:=hd ha hl s;exact p.a j ha hb hc hh hj q v hf hg r
def Ip{b c}(e:b<bi){d}(a:(z.c b Z).a c=Q d):c≠b/\z.a c=Q d:=by rw[z.b e]at a;by_cases f:c=b;rw[aC f]at a;cases a;rw[ak f]at a;exists f
def ajw{a b}(d:a<bi)(c:z.a b=Z):(z.c a Z).a b=Z:=by rw[z.b d];split;rfl;exact c
def fT:P->S (W X)|.a a=>Q a|.b _ _ _ b=>Q b|.k c _ _=>Q c|_=>Z
def aZ.o(hb:aZ w u x z y){r p t ha}(hc:z.a r=Q p)(j:fT p=Q t)(hd:x r=Q ha){s v}(q:t[s]?=Q v):∃t,aT x v=Q t/\y.cell? ⟨ha.1,s,Z⟩=Q t:=by let⟨he,ha,t,_⟩:=hb.b r p hc;rw[hd]at ha;cases ha;cases p with|a r=>cases j;let⟨hb,r,ha,p⟩:=t;let⟨hc,hb,r⟩:=sK ha q;exact⟨hc,r,by simp[rZ,p,hb]⟩|k r ha p=>cases j;let⟨p,ha,r,_⟩:=t;let⟨hc,hb,p⟩:=sK ha q;exact⟨hc,p,by simp[rZ,r,hb]⟩|b r hf he p=>cases j;let⟨r,p,hd,ha,hb,_,_,_,hc⟩:=t;let⟨t,p,r⟩:=sK hd q;exists t,r;let q:s<he*hf:=ha▸(bc.1 p).1;rw[<-hc,pW,aC q]at p;rw[rZ,hb];simpa using p|_=>cases j
end
def gQ(a:aD){b}:Sem b->S b|.pure c=>Q c|.program d=>gQ a (d a)|.mark _ e=>gQ a e|_=>Z
def jO:bh->X|.agg a=>.b (a.toList.map X.k)|.tuple b=>.c (b.toList.map X.k)|c=>.k c
def NW:bs:=λ_=>Z
def MH:X->S bh|.k a=>Q a|b=>aT NW b
def gz(a:au)(b:dW):S bh:=(al a b).bind MH
def fI(a:aD)(b:fV):S Nat:=(a.info? b).map (·.size)
def NA:TypeDesc->aJ|.struct _=>K|.array _ _=>K|_=>N
def sV(a:aD)(b:fV):S aJ:=(a.underlying b).map NA
def kL(a:aD)(b:fV):S bh:=(a.info? b).bind (·.zero)
def gR(b:W X)(c:Nat)(a:W X):W X:=b.take c++a++b.drop (c+Y a)
def mI:X->S (W X)|.b b=>Q b|.c _=>Z|.k a=>bif a.oneCell' then Q [.k a]else Z|c=>Q [c]
def aB:X->aJ|.b _=>N|.c _=>N|.k a=>a.oneCell'|_=>K
def A3{b:Type}(v:S b)(a:S (W b)):S (W b):=as9 v Z<|λv=>as9 a Z<|λa=>Q<|v::a
def Hm{d v b}{c:W d}(a:A3 v b=Q c):∃f e,v=Q f/\b=Q e/\c=f::e:=by obtain _|h:=v;cases a;cases b with|none=>cases a|some g=>cases a;exists h,g,J,J
def jQ(a:au)(b:W dW):S (W X):=vM (Q []) (λd _ c=>A3 (al a d) c) b
def an3(a):jQ a []=Q []:=rfl
def an2(a)(c)(b):jQ a (c::b)=A3 (al a c) (jQ a b):=rfl
def ub(a:au)(b:W (Nat×dW)):S (W<|Nat×X):=vM (Q []) (λc _ d=>A3 ((al a c.2).map λv=>(c.1,v)) d) b
def aoM(a):ub a []=Q []:=rfl
def aoL(a)(b)(c):ub a (b::c)=A3 ((al a b.2).map λv=>(b.1,v)) (ub a c):=rfl
def xq(b:Nat->S (Nat×Nat))(a:W X):W (Nat×X)->S (W X)|[]=>Q a|(e,v)::f=>match b e,mI v with|Q (d,g),Q c=>bif aw (Y c) g&&cY (d+Y c) (Y a)then xq b (gR a d c) f else Z|_,_=>Z
def fz(a:W X):Nat->W X|0=>[]|b+1=>a++fz a b
def zf(a:aD):W Field->S (W<|Nat×Nat)|[]=>Q []|b::e=>match fI a b.type,zf a e with|Q d,Q c=>Q ((b.offset,d)::c)|_,_=>Z
def jN{a:Type}(b:W a):Nat->S a:=vM (λ_=>Z) (λe _ d c=>cond (aw c 0) (Q e)<|d<|xO c) b
def XD{b}(a):jN ([]:W b) a=Z:=rfl
def IG{d}(c)(b:W d)(a):jN (c::b) a=bif aw a 0 then Q c else jN b (xO a):=rfl
abbrev dR:=aA×S P×(Nat->X)
def ec(a:aA)(v:X):S dR:=Q (a,Z,λ_=>v)
def kH(b:aA)(a:Nat):S (Nat×Nat×Nat×W X):=match b.a a with|Q (.b c f d e)=>Q (c,f,d,e)|_=>Z
def iW:S X->S Nat|Q (.k<|.int _<|.ofNat a)=>Q a|_=>Z
def cp(a:ac):W (ac×X)->S X|[]=>Z|(j,v)::b=>bif aM a j then Q v else cp a b
def iZ(a:ac)(v:X):W (ac×X)->W (ac×X)|[]=>[(a,v)]|(j,c)::b=>bif aM a j then(a,v)::b else(j,c)::iZ a v b
def A1:X->S UInt8|.k (.int .u8<|.ofNat a)=>bif cc a 256 then Q (xR a)else Z|_=>Z
def vh:W X->S (W UInt8)|[]=>Q []|d::c=>match A1 d,vh c with|Q a,Q b=>Q (a::b)|_,_=>Z
def Xs:X->X->aJ|.a _ _,.k (.pointer Z)=>K|.k (.pointer Z),.a _ _=>K|_,_=>N
def Xq:X->X->aJ|.f _ _ _,.k .nilFunc=>K|.k .nilFunc,.f _ _ _=>K|_,_=>N
def Xr:X->X->aJ|.e _ _,.k .nilIface=>K|.k .nilIface,.e _ _=>K|_,_=>N
def Xu:X->X->aJ|.d _ _ _ _,.k (.slice Z _ _)=>K|_,_=>N
def BF(c:aD)(d:fV)(a b:X):aJ:=match c.underlying d with|Q (.pointer _)=>Xs a b|Q (.func _ _ _)=>Xq a b|Q (.interface _)=>Xr a b|Q (.slice _)=>Xu a b|_=>N
def zb:Op->aJ|.select _ _=>N|_=>K
def VH(a:aA):S Next->S dR|Q (.value b)=>ec a (jO b)|_=>Z
def jm(c:aD)(b:au)(d:aA)(a:ah):S dR:=bif a.op.operands.toList.all (λe=>(gz b e).isSome)&&zb a.op then VH d (gQ c<|aY (λf=>(gz b f).getD ee) a)else Z
def sI(f:aA)(d:aJ)(b e a:Nat)(c:W X):S dR:=bif d then Q (f,Q<|.b b e a c,λg=>.d g 0 a 0)else Z
def Cd(a:ac):W X:=a.data.toList.map λb=>.k<|.int .u8 b.toNat
def wX(a:aD)(b:fV):aJ:=match a.underlying b with|Q .string=>K|_=>N
def aR(a:W X)(c b:Nat):W X:=(a.drop c).take b
def wY(a:xA):aJ:=match a.zero with|Q (.int .u8<|.ofNat 0)=>aw a.size 1&&aw a.bytes 1|_=>N
def DY(i:aD)(c:aA)(h d g:Nat)(a:xA)(j:X)(e b k:Nat)(f:W X):X->S dR|.k (.slice Z 0 0)=>bif aw h d then ec c j else Z|.k (.string o)=>sI (c.c e Z) (wX i d&&wY a&&cY ((b+bf o)*(a.bytes+1)) 100000000000) g a.size (b+bf o) (f.take b++Cd o)|.d p n l _=>(match(c.a p).bind fT with|Q m=>sI (c.c e Z) (aw h d&&aw (Y<|aR m n<|l*a.size) (l*a.size)&&(aR m n<|l*a.size).all aB&&cY ((b+l)*(a.bytes+1)) 100000000000&&cc 0 l) g a.size (b+l) (f.take (b*a.size)++aR m n (l*a.size))|Z=>Z)|_=>Z
def G7(e:aD)(b:aA)(f d c:Nat)(a:xA):X->S dR|.k (.string h)=>sI b (wX e d&&wY a&&cY (bf h*(a.bytes+1)) 100000000000&&cc 0 (bf h)) c a.size (bf h) (Cd h)|.d k j g _=>(match(b.a k).bind fT with|Q i=>sI b (aw f d&&aw (Y<|aR i j<|g*a.size) (g*a.size)&&(aR i j<|g*a.size).all aB&&cY (g*(a.bytes+1)) 100000000000&&cc 0 g) c a.size g (aR i j<|g*a.size)|Z=>Z)|_=>Z
def yC(d:aD)(c:aA)(e f a:Nat)(b:xA)(g:X):X->S dR|.d h 0 i 0=>(match kH c h with|Q (l,m,j,k)=>bif aw a l&&aw m b.size&&cY i j then DY d c e f a b (.d h 0 i 0) h i j k g else Z|Z=>Z)|.k (.slice Z 0 0)=>G7 d c e f a b g|_=>Z
def pT(a:xA):aJ:=match a.zero with|Q b=>cc 0 a.size&&aw (aj b.cells) a.size|Z=>N
def qx(a:aD)(f:aA)(b d:fV)(c e:X):S dR:=match a.underlying b with|Q (.slice g)=>(match a.info? g with|Q h=>bif pT h then yC a f b d g h e c else Z|Z=>Z)|_=>Z
def qI(a:aD)(b c:Nat):aJ:=match fI a b with|Q d=>aw d c|Z=>N
def Ef(c:aD)(e:aA)(g:fV)(d f j:Nat)(a b:Nat):S dR:=match c.underlying g,kH e d with|Q (.slice h),Q (l,k,i,_)=>bif aw h l&&qI c h k&&cY a b&&cY (j+b) i&&(aw a 0||cc (j+a) i)then ec e (.d d (f+a*k) (b-a)<|j+a)else Z|_,_=>Z
def yE(a:au)(b:Nat):S dW->S Nat|Z=>Q b|Q c=>iW (al a c)
def Bf(b:aD)(a:au)(c:aA)(g:ah)(h:fV)(e d f:S dW):S X->S dR|Q (.d i k l j)=>(match f,yE a 0 e,yE a l d with|Z,Q m,Q n=>Ef b c h i k j m n|_,_,_=>Z)|_=>jm b a c g
def VG(a:aA):S X->S dR|Q (.a c f)=>ec a (.a c f)|Q (.f e b d)=>ec a (.f e b d)|_=>Z
def MZ(b:aA)(a:Nat):S X->S dR|Q (.c c)=>(jN c a).bind (ec b)|_=>Z
def HR(a:aD)(c b:Nat):S Nat:=match a.underlying c with|Q (.struct e)=>(match e[b]? with|Q d=>(match fI a d.type with|Q (_+1)=>Q d.offset|_=>Z)|Z=>Z)|_=>Z
def M0(a:aD)(d:aA)(c b:Nat):S X->S dR|Q (.a e g)=>(HR a c b).bind λf=>ec d<|.a e<|g+f|_=>Z
def ld(a:aD)(b:Nat):S Nat:=match a.underlying b with|Q (.slice c)=>fI a c|_=>Z
def AY(a:aD)(b:Nat):S (Nat×Nat):=match a.underlying b with|Q (.array e c)=>(fI a c).map λd=>(e,d)|_=>Z
def Ee(a:aD)(c:aA)(b:Nat):S X->S Nat->S dR|Q (.d g i k _),Q d=>(ld a b).bind λl=>bif cc d k then ec c (.a g<|i+d*l)else Z|Q (.a h j),Q e=>(AY a b).bind λf=>bif cc e f.1 then ec c (.a h<|j+e*f.2)else Z|_,_=>Z
def tP(c:aD)(d a:Nat)(b:W X):S X:=match sV c d,fI c d with|Q K,Q e=>bif aw (Y<|aR b a e) e then Q (.b<|aR b a e)else Z|Q N,_=>jN b a|_,_=>Z
def hB(a:aD)(c:aA)(b:Nat):S X->S X|Q (.a d e)=>(match(c.a d).bind fT with|Q f=>tP a b e f|Z=>Z)|_=>Z
def Y5(f:aA)(e b d:Nat)(a c:W X):S dR:=bif aw (Y a) d&&a.all aB&&cY (b+d) (Y c)then Q (f.c e<|Q<|.a<|gR c b a,Z,λ_=>.c [])else Z
def M5(a:aA):S X->S (W X)->S Nat->S dR|Q (.a b d),Q c,Q f=>(match a.a b with|Q (.a e)=>Y5 a b d f c e|_=>Z)|_,_,_=>Z
def VE(a:aA):S (W X)->S dR|Q b=>Q (a,Q<|.a b,λc=>.a c 0)|Z=>Z
def VD(a:aA):S bh->S dR|Q c=>Q (a,Q<|.a<|c.cells.toList.map X.k,λb=>.a b 0)|Z=>Z
def MV(a:aD)(d:aA)(b:Nat)(c:W (Nat×X)):S dR:=match a.underlying b,kL a b with|Q (.struct f),Q i=>(match zf a (aG f)with|Q h=>(match xq (λg=>jN h g) (i.cells.toList.map X.k) c with|Q e=>ec d (.b e)|Z=>Z)|Z=>Z)|_,_=>Z
def MU(a:aD)(b:au)(d:aA)(e:ah)(c:Nat)(f:bv (Nat×dW)):S dR:=bif(AY a c).isSome then jm a b d e else(ub b<|aG f).bind (MV a d c)
def MW(b:aD)(e:aA)(c a:Nat)(d:W (Nat×X)):S dR:=match b.underlying c with|Q (.slice g)=>(match kL b g,fI b g with|Q h,Q f=>bif aw (aj h.cells) f&&cc 0 (a*f)&&cY (a*f) 100000 then(match xq (λj=>Q (j*f,f)) (fz (h.cells.toList.map X.k) a) d with|Q i=>Q (e,Q<|.b g f a i,λk=>.d k 0 a 0)|Z=>Z)else Z|_,_=>Z)|_=>Z
def M1(b:aD)(c:aA)(a:Nat)(v:X):S dR:=match b.underlying a with|Q (.interface _)=>Z|Q _=>ec c (.e a v)|Z=>Z
def VF(b:aA)(a:Nat):S (W X)->S (W X)->S dR|Q c,Q d=>ec b (.f a c d)|_,_=>Z
def MS(a:aD)(e:au)(c:aA)(f:ah)(b:Nat)(d:aJ):S X->S dR|Q (.e g v)=>(match a.underlying b with|Q (.interface _)=>Z|Q _=>bif aw g b then ec c (bif d then .c [v,R K]else v)else bif d then(kL a b).bind (λh=>ec c<|.c [jO h,R N])else Z|Z=>Z)|_=>jm a e c f
def HM(b:aD)(e:aA)(d a c:Nat):S dR:=match b.underlying d with|Q (.slice g)=>(match b.info? g with|Q f=>(match f.zero with|Q h=>bif cY a c&&aw (aj h.cells) f.size&&cc 0 f.size&&cY (c*(f.bytes+1)) 100000000000 then Q (e,Q<|.b g f.size a<|fz (h.cells.toList.map X.k) a,λi=>.d i 0 a 0)else Z|Z=>Z)|Z=>Z)|_=>Z
def MX(a:aD)(d:aA)(c b:Nat):S dR:=match a.underlying c with|Q (.chan _ e)=>(match a.info? e with|Q f=>bif cY (b*(f.bytes+1)) 100000000000 then Q (d,Q<|.d b 0,λg=>.h g)else Z|Z=>Z)|_=>Z
def ud(a:aD)(b:Nat):S Nat:=match a.underlying b with|Q (.map d c)=>(match a.underlying d with|Q .string=>Q c|_=>Z)|_=>Z
def yY(a:aJ)(b:X):S X->X|Q v=>bif a then .c [v,R K]else v|Z=>bif a then .c [b,R N]else b
def HK(a:aD)(b:aA)(d:Nat)(c:aJ):S X->S X->S dR|Q (.g e),Q (.k<|.string h)=>(match ud a d,b.a e with|Q f,Q (.c g)=>(kL a f).bind λi=>ec b<|yY c (jO i)<|cp h g|_,_=>Z)|_,_=>Z
def HN(b:aD)(a:aA)(c:Nat):S X->S X->S X->S dR|Q (.g d),Q (.k<|.string f),Q v=>(match ud b c,a.a d with|Q _,Q (.c e)=>Q (a.c d<|Q<|.c<|iZ f v e,Z,λ_=>.c [])|_,_=>Z)|_,_,_=>Z
def M4(b:aD)(a:aA)(c:Nat):S X->S dR|Q (.g d)=>(match b.underlying c,a.a d with|Q (.map _ _),Q (.c _)=>Q (a,Q<|.l d,λe=>.a e 0)|_,_=>Z)|_=>Z
def M3(a:aA)(b:aJ):S X->S dR|Q (.a d 0)=>(bif b then Z else match a.a d with|Q (.l c)=>(match a.a c with|Q (.c [])=>ec a (.c [R N])|_=>Z)|_=>Z)|_=>Z
def aF:Int->Int->aJ|.ofNat a,.ofNat b=>cc a b|c,j=>cj (c<j)
def ao:Int->Int->aJ|.ofNat a,.ofNat b=>aw a b|c,j=>cj (c=j)
def wV(a:qZ):Int->Int->Int|.ofNat b,.ofNat c=>bif cc (zD b c) 128 then .ofNat (zD b c)else a.wrap (.ofNat b+.ofNat c)|d,j=>a.wrap (d+j)
def vo(a:qZ):Int->Int->Int|.ofNat b,.ofNat c=>bif cY c b&&cc b 128 then .ofNat (J8 b c)else a.wrap (.ofNat b-.ofNat c)|d,j=>a.wrap (d-j)
def sO(b:qZ)(a j:Int):BinOp->S bh|.add=>Q (.int b<|wV b a j)|.sub=>Q (.int b<|vo b a j)|.lss=>Q (.bool<|aF a j)|.leq=>Q (.bool<|!(aF j a))|.gtr=>Q (.bool<|aF j a)|.geq=>Q (.bool<|!(aF a j))|.eql=>Q (.bool<|ao a j)|.neq=>Q (.bool<|!(ao a j))|_=>Z
def Be(a:aD)(c:au)(b:aA)(d:ah)(f:Nat)(e:aJ):S X->S X->S dR|Q v,Q g=>bif BF a f v g then ec b (R e)else jm a c b d|_,_=>Z
def MT(b:aD)(a:au)(d:aA)(c:ah)(e:Nat)(f g:dW):BinOp->S dR|.eql=>Be b a d c e N (al a f) (al a g)|.neq=>Be b a d c e K (al a f) (al a g)|_=>jm b a d c
def qy(c:aD)(b:au)(a:aA)(e:ah)(f:Nat)(g h:dW)(d:BinOp):S X->S X->S dR|Q (.k<|.int i k),Q (.k<|.int l j)=>(match sO i k j d with|Q v=>bif cj (i=l)then ec a (.k v)else Z|Z=>jm c b a e)|_,_=>MT c b a e f g h d
def HO(c:aD)(b:au)(a:aA)(d:ah)(e:UnOp):S X->S dR|Q (.k<|.bool f)=>(match e with|.not=>ec a (R<|!f)|_=>Z)|_=>jm c b a d
def HI(a:aD)(c:au)(b:aA)(e:ah)(f d:Nat):S X->S dR|Q (.d i 0 h 0)=>(match a.underlying f,a.underlying d,kH b i with|Q (.slice g),Q .string,Q (k,n,l,j)=>(match a.underlying g with|Q (.int .u8)=>bif aw g k&&aw n 1&&cY h l then(vh<|j.take h).bind (λm=>ec b<|O ⟨E m⟩)else Z|_=>Z)|_,_,_=>Z)|_=>jm a c b e
def HJ(a:aD)(c:au)(b:aA)(d:ah)(e:Nat):S X->S dR|Q (.d _ _ f _)=>(ld a e).bind λ_=>ec b<|B f|_=>jm a c b d
def MY(a:aD)(c:au)(b:aA)(d:ah)(e:Nat):S X->S X->S dR|Q (.d _ _ _ _),Q (.k<|.slice Z 0 0)=>(ld a e).bind λ_=>ec b<|B 0|_,_=>jm a c b d
inductive dh where|b(h:dR)|c(f:X)(g:List X)|d(e:bz)
def dh.a:S dR->S dh|Q e=>Q (.b e)|Z=>Z
def tF(b:aD)(a:au)(c:aA)(d:ah)(f:W dW)(e:W fV):Builtin->S dR|.len=>(match f,e with|[m],[i]=>HJ b a c d i (al a m)|_,_=>Z)|.copy=>(match f,e with|[n,p],[j,_]=>MY b a c d j (al a n) (al a p)|_,_=>Z)|.append=>(match f,e with|[o,q],[k,l]=>(match al a o,al a q with|Q h,Q v=>(match qx b c k l h v with|Q g=>Q g|Z=>jm b a c d)|_,_=>Z)|_,_=>Z)|_=>jm b a c d
def tG(c:aD)(a:au)(f:aA)(d:ah)(b:bv dW)(e:bv fV):Callee->S dh|.value h=>(match al a h,jQ a (aG b)with|Q v,Q i=>Q (.c v i)|_,_=>Z)|.builtin g=>dh.a (tF c a f d (aG b) (aG e) g)|.invoke _ _=>Z
def DT(a:au)(b:bv dW):Callee->S dh|.value e=>(match al a e,(aG b)with|Q (.f d [] c),[]=>Q (.d<|.b d c)|_,_=>Z)|_=>Z
def Ml(a:au)(d:aA)(b c:bv dW):Fn->S dR|.func e=>VF d e (jQ a<|aG b) (jQ a<|aG c)|_=>Z
def dt(c:aD)(a:au)(b:aA)(d:ah):S dh:=match d.op with|.move e=>dh.a ((al a e).bind<|ec b)|.assign f=>dh.a ((al a f).bind<|ec b)|.pick k g z=>(match al a k with|Q (.k<|.bool j)=>dh.a ((al a<|bif j then g else z).bind<|ec b)|_=>Z)|.nilCheck h=>dh.a (VG b<|al a h)|.extract i s=>dh.a (MZ b s<|al a i)|.fieldAddr i j p=>dh.a (M0 c b i p<|al a j)|.indexAddr l k e=>dh.a (Ee c b l (al a k)<|iW<|al a e)|.load m l=>dh.a ((hB c b m<|al a l).bind<|ec b)|.store n m f=>dh.a (M5 b (al a m) ((al a f).bind mI)<|fI c n)|.box _ n=>dh.a (VE b<|(al a n).bind mI)|.alloc o=>dh.a (VD b<|kL c o)|.build o e=>dh.a (MU c a b d o e)|.buildSlice p w f=>dh.a ((ub a<|aG f).bind<|MW c b p w)|.makeInterface q o=>dh.a ((al a o).bind<|M1 c b q)|.makeFunc q i l=>dh.a (Ml a b i l q)|.typeAssert p _ r x=>dh.a (MS c a b d r x<|al a p)|.makeSlice s q g=>dh.a ((iW<|al a q).bind λt=>(iW<|al a g).bind λm=>HM c b s t m)|.slice t s u r v=>dh.a (Bf c a b d t u r v<|al a s)|.makeMap _ g=>(match g with|Z=>dh.a (Q (b,Q<|.c [],λh=>.g h))|Q _=>Z)|.makeChan u r=>dh.a ((iW<|al a r).bind<|MX c b u)|.lookup v t h y=>dh.a (HK c b v y (al a t)<|al a h)|.mapUpdate w u i j=>dh.a (HN c b w (al a u) (al a i)<|al a j)|.range x v=>dh.a (M4 c b x<|al a v)|.next w j=>dh.a (M3 b j<|al a w)|.binOp z y g h _=>dh.a (qy c a b d y g h z (al a g)<|al a h)|.unOp z _ x=>dh.a (HO c a b d z<|al a x)|.index _ _ _=>dh.a (jm c a b d)|.convert k n y=>dh.a (HI c a b d k n<|al a y)|.call e=>tG c a b d e.args e.argTypes e.callee|.defer f=>DT a f.args f.callee|_=>Z
def vr(c:Nat):dR->Option (X×aA)|(a,Z,b)=>bif cY c a.f then Q (b 0,a)else Z|(a,Q d,b)=>bif cY c a.f&&cc a.f 15999 then Q (b a.f,(a.d 1).c a.f<|Q d)else Z
inductive Mk where|a|b(d:Nat)|c
inductive Ug where|a(l:Bool)(k:Nat)(i:ek)(g:au)(f:List bz)(d:aA)|b(j:cV)(e:List X)(d:aA)|c(h:Nat)(e:List X)(d:aA)
inductive fe where|a(f:Mk)(e:au)(d:List bz)(c:aA)|b(v:X)(c:aA)
abbrev fG:=Ug->S fe
abbrev Dw:=cV->S (W X->aA->S (X×aA))
def Zv(a:aJ):S X->S aJ|Q (.k<|.bool b)=>Q (b==a)|Q (.c _)=>Q N|_=>Z
def bx(a:au)(b:bv ah):S (Nat×aJ)->S aJ|Z=>Q K|Q (j,d)=>match(b[j]?).bind (·.dst)with|Z=>Z|Q c=>Zv d (aO a c)
def bP(c:Nat)(b:au)(a:S Nat)(v:X):S au:=match a with|Z=>Q b|Q a=>bif cc a c then Q ((a,v)::b)else Z
def E9:S fe->S (X×aA)|Q (.b v a)=>Q (v,a)|_=>Z
def D3(b:fG)(c:aA)(a:W X):X->S (X×aA)|.f g d f=>E9 (b<|.b g (d++a++f) c)|.i e=>E9 (b<|.c e a c)|_=>Z
def IK(g:fG)(h:aJ)(e:Nat)(b:au)(a:W bz)(f:aA)(c:S Nat)(d:au->W bz->aA->S (au×W bz×aA)):S dh->S (au×W bz×aA)|Q (.b n)=>(match vr f.f n with|Q (v,p)=>(bP e b c v).bind λi=>d i a p|Z=>Z)|Q (.c l m)=>(match D3 g f m l with|Q (v,q)=>(bP e b c v).bind λj=>d j a q|Z=>Z)|Q (.d o)=>bif h then Z else(bP e b c<|.c []).bind λk=>d k (o::a) f|Z=>Z
def N2(g:aD)(i:fG)(j:aJ)(f:Nat)(h:bv ah)(b:ah)(e:au->W bz->aA->S (au×W bz×aA))(a:au)(d:W bz)(c:aA):S (au×W bz×aA):=match bx a h b.guard with|Q K=>IK i j f a d c b.dst e (dt g a c b)|Q N=>(bP f a b.dst<|.c []).bind λk=>e k d c|Z=>Z
def BJ(a:aD)(e:fG)(f:aJ)(d:Nat)(b:bv ah)(c:W ah):au->W bz->aA->S (au×W bz×aA):=vM (λh g k=>Q (h,g,k)) (λj _ i=>N2 a e f d b j i) c
def amp(d)(g)(h)(f)(e)(b)(a)(c):BJ d g h f e [] b a c=Q (b,a,c):=rfl
def amo(a)(d)(e)(c)(b)(i)(h)(g)(f)(j):BJ a d e c b (i::h) g f j=N2 a d e c b i (BJ a d e c b h) g f j:=rfl
def anM:S (au×W bz×aA)->S fe|Q (b,a,c)=>Q (.a .a b a c)|Z=>Z
def B8(a:au->W bz->aA->S fe):S fe->S fe|Q (.a .a c b e)=>a c b e|d=>d
def Hb(a:Nat):S fe->S fe|Q (.a (.b d) c b e)=>bif aw d a then Q (.a .a c b e)else Q (.a (.b d) c b e)|f=>f
def Vc(d:fG)(e:aJ)(c:Nat)(g h:ek)(b:au)(a:W bz)(f:aA):S X->S fe|Q (.k<|.bool K)=>d (.a e c g b a f)|Q (.k<|.bool N)=>d (.a e c h b a f)|_=>Z
def Ob(e:fG)(d:Nat)(b:au)(a:W bz)(c:aA):S ek->S fe|Z=>Q (.a .a b a c)|Q f=>e (.a N d f b a c)
def Yl(e:fG)(d:Nat)(b:au)(a:W bz)(c:Nat)(f:aA):S P->S fe|Q (.g .ready g _ _ _ _ _)=>Ob e d b a (f.c c Z) g|Q (.g .done h _ _ _ _ _)=>Ob e d b a (f.c c Z) h|_=>Z
def Ou(d:fG)(c:Nat)(f:bv Tmp)(g h:ek)(b:au)(e:W bz)(a:aA):S X->S fe|Q (.f l j k)=>bif cc a.f 15998 then(match E9 (d<|.b l (j++[.i<|a.f+1]++k)<|((a.d 2).c a.f<|Q .f).c (a.f+1)<|Q<|.g .ready Z b c f g h)with|Q (_,i)=>Yl d c b (.a a.f::e) (a.f+1) i (i.a<|a.f+1)|Z=>Z)else Z|_=>Z
abbrev Ds:=Nat->bv ah->au->W bz->aA->S (au×W bz×aA)
def Cc(g:aD)(e:fG)(h:Ds)(f:aJ)(d:Nat)(a:au)(b:W bz)(c:aA):ek->S fe|.skip=>Q (.a .a a b c)|.ret=>Q (.a .c a b c)|.exit n=>Q (.a (.b n) a b c)|.seq q u=>B8 (λa b c=>e<|.a f d u a b c) (e<|.a f d q a b c)|.cond k r v=>Vc e f d r v a b c (al a k)|.block o s=>Hb o (e<|.a f d s a b c)|.loop j=>B8 (λa b c=>e<|.a f d (.loop j) a b c) (e<|.a f d j a b c)|.region _ i l=>anM (bif l then h d i a b c else BJ g e f d i (aG i) a b c)|.rangeFunc m p t w=>bif f then Z else Ou e d p t w a b c (al a m)|_=>Z
def li(a:cV->aJ):W bz->aA->S aA|[],l=>Q l|.a b::j,f=>(match f.a b with|Q .f=>li a j (f.c b Z)|_=>Z)|.b i h::k,g=>bif a i then(match h with|[.a c d]=>(match g.a c with|Q (.a e)=>bif cc d (Y e)then li a k (g.c c<|Q<|.a<|gR e d [bN])else Z|_=>Z)|_=>Z)else Z
def BX(b:aD)(a:au)(c:aA):Fl->S X|.tmp d=>aO a d|.cell f e=>hB b c e (aO a f)
def hX(b:aD)(a:au)(c:aA):W Fl->S (W X)|[]=>Q []|f::e=>match BX b a c f,hX b a c e with|Q v,Q d=>Q (v::d)|_,_=>Z
def dL:W X->X|[v]=>v|a=>.c a
def kJ:Nat->W X->au|_,[]=>[]|a,v::b=>(a,v)::kJ (a+1) b
def I0(b:aD)(a:au)(c:W Fl):S aA->S fe|Q d=>(match hX b a d c with|Q e=>Q (.b (dL e) d)|Z=>Z)|Z=>Z
def UM(a:aD)(b:cV->aJ)(c:W Fl):S fe->S fe|Q (.a .a f d h)=>I0 a f c (li b d h)|Q (.a .c g e i)=>I0 a g c (li b e i)|_=>Z
def aiE:S (X×aA)->S fe|Q (v,a)=>Q (.b v a)|Z=>Z
def He(a:aD)(b:cV):S (qY×ek):=match a.funcs[b]? with|Q c=>(match c.body with|Q d=>Q (c,d)|Z=>Z)|Z=>Z
def O1(b:aD)(e:Dw)(f:cV->aJ)(g:fG)(c:cV)(a:W X)(d:aA):S fe:=match e c with|Q j=>aiE (j a d)|Z=>match He b c with|Q (h,i)=>bif cY (Y a) h.ntmps then UM b f (aG h.results) (g<|.a N h.ntmps i (kJ 0 a) [] d)else Z|Z=>Z
def xm(a:Nat):W Tmp->W X->au->S au|[],[],c=>Q c|b::f,v::e,d=>bif cc b a then xm a f e ((b,v)::d)else Z|_,_,_=>Z
def sS(d:aA)(a:Nat)(c:LoopState)(b:S ek):S P->S aA|Q (.g _ _ e f g h i)=>Q (d.c a<|Q<|.g c b e f g h i)|_=>Z
def Vz(a:Nat):S fe->S fe|Q (.a .a _ [] b)=>(match sS b a .ready Z (b.a a)with|Q f=>Q (.b (R K) f)|Z=>Z)|Q (.a .c _ [] c)=>(match sS c a .done (Q .ret) (c.a a)with|Q g=>Q (.b (R N) g)|Z=>Z)|Q (.a (.b e) _ [] d)=>(match sS d a .done (Q<|.exit e) (d.a a)with|Q h=>Q (.b (R N) h)|Z=>Z)|_=>Z
def UC(c:fG)(a:Nat)(d:ek)(b:Nat):S fe->S fe|Q (.a .a f [] e)=>(match e.a a with|Q (.g .ready i g h j k l)=>Vz a (c<|.a K b d f []<|e.c a<|Q<|.g .busy i g h j k l)|_=>Z)|_=>Z
def O2(b:fG)(a:Nat)(d:W X)(c:aA):S fe:=match c.a a with|Q (.g .ready _ f e h i j)=>(match xm e (aG h) d f with|Q g=>UC b a j e (b<|.a K e i g [] c)|Z=>Z)|_=>Z
def tI(b:W Nat)(a:W vY):Nat:=a.foldr (λc d=>bif hY .any c then J3 (J3 (Nat.pow 2 c.on)<|(jN b c.on).getD 0) d else d) 0
def rA(c:W ah):W Nat->W Nat:=vM (λa=>a) (λd _ b a=>b<|a++[tI a<|aG d.after]) c
inductive DL where|d|c(e:Nat)|b|a
def Il:S X->DL|Q (.d _ _ _ _)=>.a|_=>.d
def WJ:S X->DL|Q (.a a _)=>.c a|_=>.a
def WI:Callee->DL|.builtin .append=>.a|.builtin .copy=>.a|.builtin _=>.d|_=>.a
def Bz(a:au):Op->DL|.load _ c=>WJ (al a c)|.box _ _=>.b|.alloc _=>.b|.buildSlice _ _ _=>.b|.makeMap _ _=>.b|.makeSlice _ _ _=>.b|.makeChan _ _=>.b|.store _ _ _=>.a|.mapUpdate _ _ _ _=>.a|.call b=>WI b.callee|.lookup _ _ _ _=>.a|.range _ _=>.a|.next _ _=>.a|.defer _=>.a|.convert _ _ d=>Il (al a d)|.slice _ e _ _ _=>Il (al a e)|_=>.d
inductive qn where|d|c(f:Nat)(e:P)|b(i:Nat)(e:P)|a(h g:aA)
structure ik where
 b:Bool
 a:au
 d:X
 c:qn
def Zr(a:W dW):W Nat:=a.filterMap λ|.tmp b=>Q b|_=>Z
def Wd(a:bv ah):S (Nat×aJ)->W Nat|Q (j,_)=>((a[j]?).bind (·.dst)).toList|Z=>[]
def BZ(a:au)(b:W Nat):au:=b.filterMap λc=>(aO a c).map λv=>(c,v)
def dT:aA:=⟨bi,.a⟩
def lm(b:W Nat)(a:Nat):Nat:=(jN b a).getD 0
def BA(b:Nat->aJ)(a:W ik):Nat->aA->aA:=vM (λ_ e=>e) (λh _ f d c=>f (vP d)<|qn.casesOn h.c c (λ_ _=>c) (λ_ _=>c)<|λ_ g=>cond (b d) g c) a
def ir(d:Nat->aJ)(b:W Nat)(a:Nat)(c:W ik):Nat->aJ:=vM (λ_=>N) (λg _ f e=>qn.casesOn g.c (f<|vP e) (λ_ _=>f<|vP e) (λ_ _=>f<|vP e)<|λ_ _=>cond (d e&&ic (lm b e) a) K<|f<|vP e) c
def yV(a:Nat->aJ)(c:W Nat)(b:W ik)(d:W ik):Nat->aA->aA:=vM (λ_ h=>h) (λj _ g e f=>qn.casesOn j.c (g (vP e) f) (λ_ _=>g (vP e) f) (λi k=>cond (a e&&!(ir a c e b 0)) ((g (vP e) f).c i<|Q k)<|g (vP e) f)<|λ_ _=>g (vP e) f) d
def tM(b:Nat->aJ)(d:W Nat)(a:W ik)(c:aA):aA:=yV b d a a 0<|BA b a 0 c
def II(d:aD)(f:fG)(c:au)(a:aA)(b:Nat)(e:ah):S (X×aA):=match dt d c a e with|Q (.b (g,Z,i))=>bif aw g.f a.f then Q (i 0,g)else Z|Q (.b (h,Q m,j))=>bif aw h.f a.f then Q (j b,h.c b<|Q m)else Z|Q (.c k l)=>D3 f a l k|_=>Z
def eb(b:aD)(a:au)(d:aA)(c:ah):S X:=match dt b a d c with|Q (.b (_,Z,e))=>Q (e 0)|_=>Z
def qt(b:aD)(a:au)(e:aA)(d:Nat)(c:ah):S (X×P):=match dt b a e c with|Q (.b (_,Q g,f))=>Q (f d,g)|_=>Z
def xh(b:aD)(i:fG)(a:au)(g:W Nat)(f h:Nat)(c:ah)(e:W ik)(d:aA):DL->S (X×qn)|.d=>(match eb b a dT c with|Q v=>Q (v,.d)|Z=>Z)|.c j=>(match(tM (ic f) g e d).a j with|Q k=>(match eb b a (dT.c j<|Q k) c with|Q v=>Q (v,.c j k)|Z=>Z)|Z=>Z)|.b=>(match qt b a dT h c with|Q (v,m)=>Q (v,.b h m)|Z=>Z)|.a=>match II b i a (tM (ic f) g e d) h c with|Q (v,l)=>Q (v,.a (tM (ic f) g e d) l)|Z=>Z
def ff(c:bv ah)(b:au)(a:ah):au:=BZ b<|Zr (aG a.op.operands)++Wd c a.guard
def rS(f:aD)(j:fG)(b:bv ah)(d:W Nat)(e:aA)(i:Nat)(h:Nat)(a:ah)(c:au)(g:W ik):S ik:=match bx (ff b c a) b a.guard with|Z=>Z|Q N=>Q ⟨K,ff b c a,.c [],.d⟩|Q K=>match xh f j (ff b c a) d (lm d h) i a g e (Bz (ff b c a) a.op)with|Q (v,k)=>Q ⟨N,ff b c a,v,k⟩|Z=>Z
def N4(f:aD)(l:fG)(k:Nat)(g:bv ah)(j:W Nat)(e:aA)(h:Nat)(d:ah)(i:Nat->au->W ik->S (W ik×au))(a:Nat)(b:au)(c:W ik):S (W ik×au):=match rS f l g j e (h+a) a d b c with|Z=>Z|Q m=>match bP k b d.dst m.d with|Z=>Z|Q n=>i (a+1) n (c++[m])
def BM(b:aD)(h:fG)(g:Nat)(c:bv ah)(f:W Nat)(a:aA)(d:Nat)(e:W ah):Nat->au->W ik->S (W ik×au):=vM (λ_ i j=>Q (j,i)) (λl _ k=>N4 b h g c f a d l k) e
def Po:bh->bh->aJ|.int b a,.int c j=>cj (b=c)&&ao a j|.bool d,.bool f=>d==f|.string e,.string g=>aM e g|.pointer Z,.pointer Z=>K|.slice Z 0 0,.slice Z 0 0=>K|.map Z,.map Z=>K|.chan Z,.chan Z=>K|.nilFunc,.nilFunc=>K|.nilIface,.nilIface=>K|_,_=>N
mutual
def kK:X->X->aJ|.k c,.k d=>Po c d|.a a k,.a b l=>aw a b&&aw k l|.d e a b f,.d i g h j=>aw e i&&aw a g&&aw b h&&aw f j|.g a,.g b=>aw a b|.h a,.h b=>aw a b|.f g e a,.f h b f=>aw g h&&vC e b&&vC a f|.e o c,.e p d=>aw o p&&kK c d|_,_=>N
def vC:W X->W X->aJ|[],[]=>K|c::m,d::n=>kK c d&&vC m n|_,_=>N
end
def OL:S P->S P->aJ|Z,Z=>K|Q (.a d),Q (.a f)=>vC d f|Q (.b a h c e),Q (.b b i j g)=>aw a b&&aw h i&&aw c j&&vC e g|_,_=>N
def ms{b:Type}(a:Nat->b->aJ):Nat->W b->aJ|_,[]=>K|c,e::d=>a c e&&ms a (c+1) d
def ME(a:W ah):aJ:=ms (λd e=>match e.dst with|Z=>K|Q b=>ms (λj f=>aw d j||!(match f.dst with|Q c=>aw b c|Z=>N)) 0 a) 0 a
def aho(a:W Nat)(b:W ah)(c:W ik):aJ:=ms (λe h=>h.a.all λf=>ms (λj g=>!(match g.dst with|Q d=>aw f.1 d|Z=>N)||ic (lm a e) j) 0 b) 0 c
def MF(a:W ah):aJ:=ms (λc d=>d.after.toList.all λb=>!(hY .any b)||cc b.on c) 0 a
def ahn(b:W Nat)(a:W ik):aJ:=ms (λc e=>match e.c with|.a _ _=>ms (λj d=>match d.c with|.a _ _=>!(cc j c)||ic (lm b c) j|_=>K) 0 a|_=>K) 0 a
def ahq(b:W Nat)(a:W ik):aJ:=ms (λc f=>match f.c with|.a _ d=>ms (λj e=>match e.c with|.b g _=>ic (lm b c) j||(d.a g).isNone|_=>K) 0 a|_=>K) 0 a
def ahp(a:W Nat)(b:W ik):aJ:=ms (λd h=>match h.c with|.c c _=>ms (λj g=>match g.c with|.a f e=>ic (lm a d) j||ic (lm a j) d||OL (f.a c) (e.a c)|.b i _=>!(aw c i)||ic (lm a d) j|_=>K) 0 b|_=>K) 0 b
def MD(a:W Nat)(c:W ah)(b:W ik):aJ:=ME c&&aho a c b&&MF c&&ahn a b&&ahq a b&&ahp a b
def Vu(a:W Nat)(d:W ah)(c:W bz)(b:aA):S (W ik×au)->S (au×W bz×aA)|Q (e,f)=>bif MD a d e then Q (f,c,tM (λ_=>K) a e b)else Z|Z=>Z
def Vv(f:aD)(h:fG)(g:Nat)(a:bv ah)(e:au)(d:W bz)(b:aA)(c:W Nat):S (au×W bz×aA):=Vu c (aG a) d (b.d<|aj a)<|BM f h g a c (b.d<|aj a) b.f (aG a) 0 e []
def HB(a:aD)(b:fG)(_:aJ):Ds:=λg c f e d=>bif cc (d.f+aj c) 15999 then Vv a b g c f e d (rA (aG c) [])else Z
def Oi{a b}:∀(f)(h:b),gQ a f=Q h->∀g,f.run a g=.ok h g|.pure z,d,c,b=>by cases c;rfl|.program t,x,d,v=>by exact Oi (t a) x d v|.mark _ u,y,e,w=>by exact Oi u y e w|.load _ _ _,_,i,_=>by simp[gQ]at i|.store _ _ _ _,_,j,_=>by simp[gQ]at j|.new _ _,_,k,_=>by simp[gQ]at k|.shape _ _,_,l,_=>by simp[gQ]at l|.freeze _ _ _,_,m,_=>by simp[gQ]at m|.frozen _ _,_,n,_=>by simp[gQ]at n|.getObj _ _,_,o,_=>by simp[gQ]at o|.setObj _ _ _,_,p,_=>by simp[gQ]at p|.choose _ _,_,q,_=>by simp[gQ]at q|.sys _ _,_,r,_=>by simp[gQ]at r|.halt _,_,s,_=>by simp[gQ]at s
def ahE{v a}(b:MH v=Q a):aT NW v=Q a:=by cases v<;>exact b
def Hw(b)(a):aT b (jO a)=Q a:=by cases a<;>simp[jO,aT,A9,uy]
def akN(a):cI NW a:=nofun
def pd{a b d e}(c:aT a (.a b d)=Q e):∃f,a b=Q f/\e=.pointer (Q ⟨f.1,d,Z⟩):=by rw[aT,b3]at c;let⟨i,h,g⟩:=c;exact⟨i,h,g.symm⟩
def iU{a b e d j f}(c:aT a (.d b e d j)=Q f):∃g,a b=Q g/\f=.slice (Q ⟨g.1,e,Z⟩) d (g.2-j):=by rw[aT,b3]at c;let⟨k,i,h⟩:=c;exact⟨k,i,h.symm⟩
def Bc{a b d}(c:aT a (.g b)=Q d):∃e,a b=Q e/\d=.map (Q e.1):=by rw[aT,b3]at c;let⟨h,g,f⟩:=c;exact⟨h,g,f.symm⟩
def eh{d b c}(a:aT d (.k b)=Q c):c=b:=by cases a;rfl
def pc{b}{e:Nat}{c d f}(a:aT b (.f e c d)=Q f):∃i v,bm b c=Q i/\bm b d=Q v/\f=.func (.func e) (E i) (E v):=by rw[aT]at a;cases g:bm b c with|none=>cases g▸a|some j=>cases h:bm b d with|none=>cases h▸g▸a|some v=>cases h▸g▸a;exists j,v,J,J
def Bb{a}{c:Nat}{d e}(b:aT a (.e c d)=Q e):∃f,aT a d=Q f/\e=.iface c f:=by rw[aT,b3]at b;let⟨i,h,g⟩:=b;exact⟨i,h,g.symm⟩
def Vp{a c d}(b:aT a (.c c)=Q d):∃e,bm a c=Q e/\d=.tuple (E e):=by rw[aT,b3]at b;let⟨h,g,f⟩:=b;exact⟨h,g,f.symm⟩
def ah7{a c d}(b:aT a (.b c)=Q d):∃e,bm a c=Q e/\d=.agg (E e):=by rw[aT,b3]at b;let⟨h,g,f⟩:=b;exact⟨h,g,f.symm⟩
def xe{a}:∀(c:W a)(b),jN c b=c[b]?|[],f=>by simp[XD]|h::g,0=>by simp[IG]|i::e,d+1=>by rw[IG,lJ L,dE,PW];exact xe e d
def fd(c:aD)(g:ap)(b:W Nat)(a:bs)(d:aX)(f:ap)(e:ah):dR->Prop|(u,Z,q)=>∃l j,((aY d.eval e).run c f=.ok (.value l) j\/(l=ee/\(aY d.eval e).run c f=.ok .skip j))/\aT a (q 0)=Q l/\aZ g b a u j|(p,Q s,r)=>∃o k h,(aY d.eval e).run c f=.ok (.value o) k/\aZ g b a p k/\(∀i,a i=Z->e1 (cX a i h) h s k.heap[h.1]?/\aT (cX a i h) (r i)=Q o)/\(h.1∈b\/aj g.heap<=h.1)/\∀m t n,p.a m=Q t->a m=Q n->n.1≠h.1
section
variable{x:aD}{o:Nat}{r z:ap}{q:W Nat}{y:bs}{w:aA}{p:aX}{u:au}{n:W bz}{s:ah}{t:dR}
def gC{v a}(e:aZ r q y w z)(d:aT y v=Q a)(c:(aY p.eval s).run x z=.ok (.value a) z)(b:ec w v=Q t):fd x r q y p z s t:=by cases b;exists a,z,.inl c,d
def zd{a b g f e}(d:aZ r q y w z)(c:(aY p.eval s).run x z=.ok (.value e) (z.alloc a))(h:∀t,y t=Z->e1 (cX y t (aj z.heap,b)) (aj z.heap,b) g (Q a)/\aT (cX y t (aj z.heap,b)) (f t)=Q e):fd x r q y p z s (w,Q g,f):=by
 let l:(z.alloc a).heap[(aj z.heap)]?=Q a:=by show(z.heap.push _)[(aj z.heap)]?=_;rw[Qa,aC J]
 refine⟨e,_,(aj z.heap,b),c,d.g (t:=z.alloc a)<|(xz _ z).alloc (bd _) _,λt c=>?_,.inr d.c.a,λn u o j m i=>?_⟩;have:=h t c;exact⟨l▸this.1,this.2⟩;have:=d.nb j m;simp at i;omega
def mE(c:aZ r q y w z)(b:b0 o p u n y)(a:jm x u w s=Q t):fd x r q y p z s t:=by rw[jm]at a;cases e:s.op.operands.toList.all (λi=>(gz u i).isSome)&&zb s.op with|false=>cases e▸a|true=>rw[e,b4]at a;rw[cQ]at e;(let f:∀j∈s.op.operands,p.eval j=(gz u j).getD ee:=λk h=>by let d:=(lR.1 e.1) k (by simpa using h);rw[gz]at d⊢;cases g:al u k with|none=>cases g▸d|some v=>rw[g]at d;rw[b2]at d⊢;cases i:MH v with|none=>cases i▸d|some k=>let h:=b.a g;rw[l6 (akN y) v k<|ahE i]at h;simpa using h.symm);(let g:∀m l,s.op≠.select m l:=λd m b=>by have:=e.2;cases b▸this);let d:=execOp_congr s g f;cases f:gQ x (aY (λj=>(gz u j).getD ee) s)with|none=>cases f▸a|some e=>rw[f]at a;cases e with|value l=>exact gC c (Hw y l) (d▸Oi _ _ f z) a|_=>cases a
def D2{v}(a:v.bind (ec w)=Q t):∃b,v=Q b/\ec w b=Q t:=by obtain _|c:=v;cases a;exists c,J
def XK{c}(a:s.op=.move c\/s.op=.assign c)(e:aZ r q y w z)(d:b0 o p u n y)(b:(al u c).bind (ec w)=Q t):fd x r q y p z s t:=let⟨v,f,b⟩:=D2 b;gC e (d.a f) (by obtain a|a:=a<;>(rw[aY,a];rfl)) b
def alf{c e f a}(h:s.op=.pick c e f)(i:aZ r q y w z)(d:b0 o p u n y)(g:al u c=Q (R a))(b:(al u<|bif a then e else f).bind (ec w)=Q t):fd x r q y p z s t:=by let⟨v,k,b⟩:=D2 b;refine gC i (d.a k) ?_ b;simp[aY,h,eh<|d.a g];cases a<;>rfl
def ale{b}(c:s.op=.nilCheck b)(d:aZ r q y w z)(e:b0 o p u n y)(a:VG w (al u b)=Q t):fd x r q y p z s t:=by cases g:al u b with|none=>cases g▸a|some v=>rw[g]at a;let f:=e.a g;cases v with|a j b=>let⟨e,m,h⟩:=pd f;exact gC d f (by simp only[aY,c,h];rfl) a|f l i k=>let⟨g,h,_,_,i⟩:=pc f;exact gC d f (by simp only[aY,c,i];rfl) a|_=>cases a
def ak2{b c}(e:s.op=.extract b c)(f:aZ r q y w z)(d:b0 o p u n y)(a:MZ w c (al u b)=Q t):fd x r q y p z s t:=by cases g:al u b with|none=>cases g▸a|some v=>rw[g]at a;cases v with|c b=>let⟨c,h,a⟩:=D2 a;rw[xe]at h;let⟨d,l,i⟩:=Vp (d.a g);let⟨g,m,j⟩:=sK l h;refine gC f j ?_ a;simp[aY,e,i,Instr.extract];simp[m]|_=>cases a
def OI{b:Nat}{a}(c:x.info? b=Q a)(z):(xD b).run x z=.ok a z:=by simp[xD,c]
def mH{b c:Nat}(a:fI x b=Q c)(z):(qQ b).run x z=.ok c z:=by rw[fI]at a;cases d:x.info? b with|none=>cases d▸a|some e=>rw[d,dD,hJ]at a;simp[qQ,OI d,a]
def ak3{b}{d c:Nat}(f:s.op=.fieldAddr d b c)(g:aZ r q y w z)(e:b0 o p u n y)(a:M0 x w d c (al u b)=Q t):fd x r q y p z s t:=by cases i:al u b with|none=>cases i▸a|some v=>rw[i]at a;cases v with|a hg he=>let⟨hf,hb,j⟩:=pd (e.a i);rw[M0]at a;(cases h:HR x d c with|none=>cases h▸a|some hh=>rw[h]at a;rw[HR]at h;(split at h<;>try cases h);rename_i hi hc;(split at h<;>try cases h);rename_i k m;(split at h<;>try cases h);rename_i hj ha;refine gC g (a:=.pointer<|Q ⟨hf.1,he+k.offset,Z⟩) (by simp[aT,hb]) ?_ a;simp[aY,f,j];simp[abb,cE hc,m,zO,fieldPlace,mH ha z,sg])|_=>cases a
def Ew{v b}(a:iW v=Q b):∃c,v=Q (.k<|.int c<|.ofNat b):=by unfold iW at a;split at a;cases a;exact⟨_,J⟩;cases a
def Eb{c b}(a:ld x c=Q b):∃d,x.underlying c=Q (.slice d)/\fI x d=Q b:=by rw[ld]at a;split at a;rename_i e f;exists e,f;cases a
def agE{c b}(a:AY x c=Q b):∃d,x.underlying c=Q (.array b.1 d)/\fI x d=Q b.2:=by
 rw[AY]at a;split at a;rename_i h e g;cases f:fI x e with|none=>cases f▸a|some i=>cases f▸a;exists e,g
 cases a
def ak5{b d}{c:Nat}(f:s.op=.indexAddr c b d)(g:aZ r q y w z)(e:b0 o p u n y)(a:Ee x w c (al u b) (iW<|al u d)=Q t):fd x r q y p z s t:=by cases l:al u b with|none=>cases l▸a|some v=>cases h:iW (al u d)with|none=>cases v<;>cases (h▸l▸a)|some k=>rw[l,h]at a;let⟨m,i⟩:=Ew h;let he:=e.a l;let hf:=eh<|e.a i;cases v with|d hg hc hb j=>let⟨hd,e,m⟩:=iU he;rw[Ee]at a;(cases i:ld x c with|none=>cases i▸a|some hi=>rw[i,b2]at a;let⟨hh,ha,l⟩:=Eb i;cases h:cc k hb with|false=>cases h▸a|true=>rw[h]at a;(let d:k<hb:=by simpa using h);refine gC g (a:=.pointer<|Q ⟨hd.1,hc+k*hi,Z⟩) (by simp[aT,e]) ?_ a;simp[aY,f,m,hf];simp[QA,cE ha,sa,d,mH l z,sg])|a hg hc=>let⟨hd,e,m⟩:=pd he;rw[Ee]at a;(cases i:AY x c with|none=>cases i▸a|some c=>rw[i,b2]at a;let⟨hh,ha,l⟩:=agE i;cases h:cc k c.1 with|false=>cases h▸a|true=>rw[h]at a;(let d:k<c.1:=by simpa using h);refine gC g (a:=.pointer<|Q ⟨hd.1,hc+k*c.2,Z⟩) (by simp[aT,e]) ?_ a;simp[aY,f,m,hf];simp[QA,cE ha,sa,d,mH l z,sg,zO])|_=>cases a
def I4(k:aZ r q y w z){f b a e c g}(h:w.a f=Q e)(d:fT e=Q c)(l:y f=Q g)(i:Y (aR c b a)=a):∃m,bm y (aR c b a)=Q m/\(loadCells ⟨g.1,b,Z⟩ a).run x z=.ok (E m) z:=by
 let n:∃t,bm y c=Q t:=by let⟨t,m,o,_⟩:=k.b f e h;cases e with|a f=>cases d;let⟨u,e,t,_⟩:=o;exists u|b p u b s=>cases d;let⟨e,m,u,_⟩:=o;exists e|k p f s=>cases d;let⟨f,e,_⟩:=o;exists f|_=>cases d
 let⟨e,p⟩:=n;let m:=Ea a<|MN b p;exists _,m;let o:Y ((e.drop b).take a)=a:=l5 m▸i;have:=run_loadCells_list (P:=x) z ⟨g.1,b,Z⟩ ((e.drop b).take a) (λj v n=>by rw[sg];(let t:j<a:=by obtain s|s:=dy j a;exact s;rw[ix L]at n;cases n);let g:∃s,(aR c b a)[j]?=Q s:=e7 (i▸t)▸⟨_,J⟩;let⟨a,p⟩:=g;let⟨g,u,f⟩:=sK m p;cases n▸u;(let i:c[b+j]?=Q a:=by rwa[aR,pW,aC t,xI]at p);let⟨c,a,b⟩:=k.o h d l i;cases f▸a;exact b);rwa[o]at this
def OJ{c d b v g}(f:aZ r q y w z)(e:y c=Q g)(a:hB x w b (Q<|.a c d)=Q v):∃s,aT y v=Q s/\(JJ b ⟨g.1,d,Z⟩).run x z=.ok s z:=by rw[hB]at a;cases j:(w.a c).bind fT with|none=>cases j▸a|some m=>rw[j]at a;simp at a;cases k:w.a c with|none=>cases k▸j|some o=>rw[k]at j;let o:=j;rw[tP]at a;split at a;rename_i p h i;(cases l:aw (Y<|aR m d p) p with|false=>cases l▸a|true=>cases l▸a;let⟨n,d,g⟩:=I4 (x:=x) f k o e<|b8 l;(exists .agg (E n),by simp[aT,d]);rw[sV]at h;cases m:x.underlying b with|none=>cases m▸h|some j=>rw[m,dD,hJ]at h;(let t:(un b).run x z=.ok K z:=by cases j<;>simp[NA]at h<;>simp[un,cE m]);simp[JJ,t,mH i z,g]);rename_i i;rw[xe]at a;let⟨l,h,c⟩:=f.o k o e a;exists l,h;rw[sV]at i;(cases n:x.underlying b with|none=>cases n▸i|some e=>rw[n,dD,hJ]at i;(let u:(un b).run x z=.ok N z:=by cases e<;>simp[NA]at i<;>simp[un,cE n]);simp[JJ,u,c]);cases a
def ak8{b}{d:Nat}(f:s.op=.load d b)(c:aZ r q y w z)(e:b0 o p u n y)(a:(hB x w d<|al u b).bind (ec w)=Q t):fd x r q y p z s t:=by let⟨v,g,a⟩:=D2 a;cases h:al u b with|none=>cases h▸g|some b=>rw[h]at g;let j:=e.a h;cases b with|a d e=>let⟨h,k,i⟩:=pd j;let⟨j,m,l⟩:=OJ c k g;refine gC c m ?_ a;simp[aY,f,i];simp[QB,zO,l]|_=>cases g
def Hv{v d c}(b:mI v=Q d)(a:aT y v=Q c):∃h,bm y d=Q h/\c.cells=E h:=by cases v with|b o=>cases b;let⟨t,s,i⟩:=ah7 a;exact⟨t,s,by rw[i];rfl⟩|c p=>cases b|k f=>have k:=eh a;subst k;rw[mI]at b;(cases e:c.oneCell' with|false=>cases e▸b|true=>cases e▸b;(exists[c],by simp[bm,aT]);cases c<;>first|rfl|cases e)|a u m=>cases b;let⟨r,g,l⟩:=pd a;exact⟨[c],by simp[bm,a],by rw[l];rfl⟩|d w n q j=>cases b;let⟨s,h,m⟩:=iU a;exact⟨[c],by simp[bm,a],by rw[m];rfl⟩|g x=>cases b;let⟨t,i,n⟩:=Bc a;exact⟨[c],by simp[bm,a],by rw[n];rfl⟩|h z=>cases b;have f:=a;rw[aT,b3]at f;let⟨u,k,o⟩:=f;exact⟨[c],by simp[bm,a],by rw[<-o];rfl⟩|i e=>cases b;have g:=a;rw[aT,b3]at g;let⟨w,l,p⟩:=g;exact⟨[c],by simp[bm,a],by rw[<-p];rfl⟩|f f e d=>cases b;let⟨d,x,_,_,q⟩:=pc a;exact⟨[c],by simp[bm,a],by rw[q];rfl⟩|e z d=>cases b;let⟨g,_,r⟩:=Bb a;exact⟨[c],by simp[bm,a],by rw[r];rfl⟩
def alp{v c}(b:aB v=K)(a:aT y v=Q c):c.oneCell'=K:=by cases v with|b c=>cases b|c d=>cases b|k p=>rwa[eh a]|a l z=>let⟨f,s,d⟩:=pd a;rw[d];rfl|d m b e j=>let⟨g,t,e⟩:=iU a;rw[e];rfl|g n=>let⟨h,u,f⟩:=Bc a;rw[f];rfl|h o=>rw[aT,b3]at a;let⟨i,w,g⟩:=a;rw[<-g];rfl|i p=>rw[aT,b3]at a;let⟨k,x,h⟩:=a;rw[<-h];rfl|f r o q=>let⟨l,m,_,_,i⟩:=pc a;rw[i];rfl|e n q=>let⟨r,_,k⟩:=Bb a;rw[k];rfl
def yB:∀{b d},b.all aB=K->bm y b=Q d->∀j∈d,j.oneCell'=K|[],m,_,c=>by cases c;simp|o::t,n,a,e=>by obtain⟨v,l,i,f,rfl⟩:=jK.1 e;rw[co,cQ]at a;intro k g;obtain rfl|h:=cB.1 g;exact alp a.1 i;exact yB a.2 f k h
def Ba{g d b c}(f:bm y g=Q b)(e:bm y d=Q c)(a:Nat):bm y (gR g a d)=Q (b.take a++c++b.drop (a+Y c)):=by rw[gR,l5 e];exact jl (jl (Ea a f) e)<|MN _ f
def ali{c d}{b:Nat}(g:s.op=.store b c d)(f:aZ r q y w z)(e:b0 o p u n y)(a:M5 w (al u c) ((al u d).bind mI) (fI x b)=Q t):fd x r q y p z s t:=by cases hd:al u c with|none=>cases hd▸a|some ho=>rw[hd]at a;cases he:al u d with|none=>cases ho<;>cases (he▸a)|some v=>rw[he,b2]at a;cases ho with|a hi h=>let⟨l,hl,hp⟩:=pd (e.a hd);(cases hb:mI v with|none=>cases hb▸a|some hj=>rw[hb]at a;cases hf:fI x b with|none=>cases hf▸a|some hg=>rw[hf,M5]at a;cases ha:w.a hi with|none=>cases ha▸a|some hz=>rw[ha]at a;cases hz with|a hy=>simp[Y5]at a;(cases i:aw (Y hj) hg&&hj.all aB&&cY (h+hg) (Y hy)with|false=>cases i▸a|true=>rw[i,b4]at a;cases a;simp only[cQ]at i;let h0:=ez i.2;let⟨k,hc,hr⟩:=Hv hb (e.a he);let⟨h3,hm,⟨m,hh,hn,hk⟩,h1⟩:=f.b hi _ ha;cases hl▸hm;let hv:Y k=hg:=l5 hc▸(b8 i.1.1)▸J;let h2:=l5 hn;refine⟨ee,z.setRow l.1<|E<|m.take h++k++m.drop (h+Y k),.inr ⟨J,?_⟩,J,?_⟩;simp[aY,g,hp];simp[Instr.storeAt,zO,storeVar,hr];simp[mH hf z,hv,run_storeCells_at x l.1 h hh k 0 (E m) z hk (by simp;omega)<|yB i.1.2 hc];refine f.na (t:=z.setRow l.1<|E<|m.take h++k++m.drop (h+Y k)) ha hl ⟨J,J,J⟩ az (λj hu=>JM z l.1 j _ hu) _<|⟨_,hh,Ba hn hc h,JL z l.1 _ _ hh _ hk⟩)|_=>cases a)|_=>cases a
def akW{b}{c:Nat}(e:s.op=.box c b)(f:aZ r q y w z)(d:b0 o p u n y)(a:VE w ((al u b).bind mI)=Q t):fd x r q y p z s t:=by cases h:al u b with|none=>cases h▸a|some v=>rw[h,b2]at a;cases g:mI v with|none=>cases g▸a|some i=>rw[g]at a;cases a;let⟨a,m,j⟩:=Hv g (d.a h);refine zd (b:=0) (e:=.pointer<|Q ⟨aj z.heap,0,Z⟩) f ?_<|λt l=>⟨⟨a,c,jL (cI.b l _) _ _ m,J⟩,by simp[aT,jS]⟩;rw[aY,e];simp[Instr.box,newVar,Ft,j]
def zk{b:Nat}{c}(a:kL x b=Q c)(z):(JQ b).run x z=.ok c z:=by rw[kL]at a;cases d:x.info? b with|none=>cases d▸a|some f=>rw[d]at a;let e:f.zero=Q c:=a;simp[JQ,OI d,e]
def akR{b:Nat}(c:s.op=.alloc b)(d:aZ r q y w z)(a:VD w (kL x b)=Q t):fd x r q y p z s t:=by cases e:kL x b with|none=>cases e▸a|some g=>cases e▸a;refine zd (b:=0) (e:=.pointer<|Q ⟨aj z.heap,0,Z⟩) d ?_<|λt f=>⟨⟨_,b,A9 _,J⟩,by simp[aT,jS]⟩;rw[aY,c];simp[Instr.alloc,zk e z,newVar,Ft]
end
section
variable{u:aD}{o:Nat}{r y:ap}{q:W Nat}{z:bs}{p:aA}{w:aX}{x:au}{n:W bz}{s:ah}{t:dR}
def yZ{c d:Type}(a:c->d)(b:bv c):E (b.toList.map a)=b.map a:=Array.toList_map▸uy▸J
def OZ(a:b0 o w x n z):∀{j e},ub x j=Q e->∃d,j.map (λi=>(i.1,w.eval i.2))=d/\d.map (·.1)=e.map (·.1)/\bm z (e.map (·.2))=Q (d.map (·.2))|[],s,g=>by cases g;exists[],J,J|f::t,u,h=>by obtain⟨y,r,b,p,rfl⟩:=Hm h;let⟨q,k,l,m⟩:=OZ a p;cases c:al x f.2 with|none=>cases c▸b|some v=>cases c▸b;(exists(f.1,w.eval f.2)::q,by simp[k],by simp[l]);exact jK.2 ⟨_,_,a.a c,m,J⟩
def tZ(a:b0 o w x n z):∀{e d},jQ x e=Q d->bm z d=Q (e.map w.eval)|[],i,b=>by cases b;rfl|k::t,j,c=>by obtain⟨l,h,g,f,rfl⟩:=Hm c;exact jK.2 ⟨_,_,a.a g,tZ a f,J⟩
def OQ(a):∀{p c e g f},c.map (·.1)=p.map (·.1)->bm z (p.map (·.2))=Q (c.map (·.2))->bm z e=Q f->xq a e p=Q g->∃i,bm z g=Q i/\tn a f c=Q i|[],c,e,g,f,d,l,h,b=>(by obtain _|⟨w,c⟩:=c;rw[xq]at b;cases b;exists f,h;simp at d)|(n,v)::t,c,e,g,f,d,l,h,b=>by cases c with|nil=>simp at d|cons w c=>obtain⟨j,ha⟩:=w;simp[zz]at d;obtain⟨k,d⟩:=d;subst k;simp[c4]at l;obtain⟨q,o,m,p,r⟩:=jK.1 l;rw[zz]at r;obtain⟨k,x⟩:=r;subst k;subst x;rw[xq]at b;cases o:a j with|none=>cases o▸b|some l=>obtain⟨u,r⟩:=l;rw[o]at b;cases n:mI v with|none=>cases n▸b|some q=>rw[n]at b;simp at b;obtain⟨w,s,f⟩:=Hv n m;let g:=l5 h;cases m:aw (Y q) r&&cY (u+Y q) (Y e)with|false=>cases m▸b|true=>rw[m,b4]at b;let c:=Ba h s u;obtain⟨i,e,h⟩:=OQ a d p c b;exists i,e;simp only[tn,o];let y:aG ha.cells=w:=f▸J;rwa[y,l5 s,g,m]
def X9:∀{e h},zf u e=Q h->(e.mapM λd=>do uu (d.offset,<-qQ d.type):Sem<|W<|Nat×Nat).run u y=.ok h y|[],l,f=>by cases f;rfl|i::t,m,a=>by rw[zf]at a;cases c:fI u i.type with|none=>cases c▸a|some j=>rw[c]at a;cases b:zf u t with|none=>cases b▸a|some k=>cases b▸a;let g:=X9 b;simp[mH c y,jt];simp at g;simp[g]
def ah6{a:bh}(z):bm z (a.cells.toList.map X.k)=Q (aG a.cells):=A9 _
def akV{c:Nat}{b}(e:s.op=.build c b)(f:aZ r q z p y)(d:b0 o w x n z)(a:(ub x<|aG b).bind (MV u p c)=Q t):fd u r q z w y s t:=by cases i:ub x (aG b)with|none=>cases i▸a|some v=>rw[i,b2]at a;let⟨c,ha,k,m⟩:=OZ d i;rw[MV]at a;split at a;rename_i l i hb hc;(cases j:zf u (aG l)with|none=>cases j▸a|some g=>rw[j]at a;simp at a;cases h:xq (λd=>jN g d) (i.cells.toList.map X.k) v with|none=>cases h▸a|some v=>rw[h]at a;let⟨hd,v,i⟩:=OQ (λd=>jN g d) k m (ah6 z) h;refine gC f (a:=.agg<|E hd) (by simp[aT,v]) ?_ a;let m:=F1 _ _ _ _ i;let v:=X9 (y:=y) j;(let f:(l.mapM λk=>do uu (k.offset,<-qQ k.type):Sem<|bv<|Nat×Nat).run u y=.ok (E g) y:=by rw[aaV];simp at v;simp[v]);simp[aY,e];(let e:(b.map λ(d:Nat×dW)=>(d.1,w.eval d.2))=E c:=by rw[<-ha,yZ]);rw[show(b.map λi=>match i with|(h,b)=>(h,w.eval b))=E c from e];simp only[Instr.build,fN,zk hc y,JE,cE hb,f];(let b:(λj=>(E g)[j]?)=λl=>jN g l:=by funext g;rw[xe];simp);rw[b];simp[m]);cases a
def akX{b:Nat}{e}(f:s.op=.build b e)(d:aZ r q z p y)(c:b0 o w x n z)(a:MU u x p s b e=Q t):fd u r q z w y s t:=by rw[MU]at a;cases g:(AY u b).isSome;rw[g]at a;exact akV f d c a;rw[g]at a;exact mE d c a
def O8(a):∀b,bm z (fz (a.map X.k) b)=Q (jX a b)|0=>rfl|c+1=>jl (A9 a) (O8 a c)
def Ys{g e c m:Nat}{f a d b}(l:bm z f=Q a)(h:Y a=c*e)(i:c<=b.2)(j:b.2<=mJ)(k:Y a+Y d=b.2*e):e1 z b (.b g e c f) (Q<|.cells (E<|a++d) g (0,0)):=⟨a,E<|a++d,l,h,J,i,j,by simpa using k,by rw[<-h];simp⟩
def VQ(a):∀{i e f},tn a e i=Q f->Y f=Y e|[],n,o,d=>by cases d;rfl|(m,v)::t,j,p,b=>by rw[tn]at b;split at b;cases b;rename_i g h l;cases c:aw (Y v.cells.toList) h&&cY (g+Y v.cells.toList) (Y j)with|false=>cases c▸b|true=>rw[c]at b;rw[cQ]at c;let k:=ez c.2;rw[VQ a b];simp only[qd,bJ,jw,pX];omega
def akY{d a:Nat}{c:bv (Nat×dW)}(f:s.op=.buildSlice d a c)(g:aZ r q z p y)(e:b0 o w x n z)(b:(ub x<|aG c).bind (MW u p d a)=Q t):fd u r q z w y s t:=by cases m:ub x (aG c)with|none=>cases m▸b|some hb=>rw[m,b2]at b;let⟨ha,hc,hd,he⟩:=OZ e m;rw[MW]at b;split at b;rename_i k hg;split at b;rename_i i h hi hf;(cases j:aw (aj i.cells) h&&cc 0 (a*h)&&cY (a*h) 100000 with|false=>cases j▸b|true=>rw[j,b4]at b;simp only[cQ]at j;let d:=b8 j.1.1;(let m:0<a*h:=by simpa using j.1.2);let v:=ez j.2;let l:=FC a<|aaS m;cases l:xq (λv=>Q (v*h,h)) (fz (i.cells.toList.map X.k) a) hb with|none=>cases l▸b|some v=>rw[l]at b;cases b;let⟨hb,hh,e⟩:=OQ (λj=>Q (j*h,h)) hd he (O8 (aG i.cells) a) l;(let j:Y hb=a*h:=by rw[VQ _ e,Aa];simp[d]);refine zd (a:=.cells (E hb) k) (b:=a) (e:=.slice (Q ⟨aj y.heap,0,Z⟩) a a) g ?_<|λt hd=>⟨?_,by simp[aT,jS]⟩;let hb:=F1 _ _ _ _ e;let g:=K8 (aG i.cells) (by let:=aaS m;rw[pt];omega) a;(let e:Y i.cells.toList=h:=by simp[d]);rw[e]at g;simp[aY,f];(let l:(c.map λ(f)=>(f.1,w.eval f.2))=E ha:=by rw[<-hc,yZ]);rw[show(c.map λm=>match m with|(c,d)=>(c,w.eval d))=E ha from l];let d:¬a*h>2^24:=L;let c:¬a*h=0:=L;simp[Instr.buildSlice,cE hg,mH hf y,ak d,ak c,zk hi y];rw[show(Qd<|a*h).map (λf=>i.cells[f%aj i.cells]!)=E (jX (aG i.cells) a)by rw[<-g]];simp[hb,Ft];have:=Ys (z:=cX z t (aj y.heap,a)) (g:=k) (m:=0) (d:=[]) (b:=(aj y.heap,a)) (jL (cI.b hd _) _ _ hh) j (bd _) (by rw[mJ];omega) (by simp[j]);simpa using this);cases b;cases b
def ak6{b:Nat}{c}(e:s.op=.makeInterface b c)(f:aZ r q z p y)(d:b0 o w x n z)(a:(al x c).bind (M1 u p b)=Q t):fd u r q z w y s t:=by cases h:al x c with|none=>cases h▸a|some v=>rw[h,b2,M1]at a;cases g:u.underlying b with|none=>cases g▸a|some i=>rw[g]at a;(let l:(∀m,i≠.interface m)->(aY w.eval s).run u y=.ok (.value<|.iface b<|w.eval c) y:=λk=>by rw[aY,e];cases i<;>first|simp[Instr.makeInterface,cE g];done|exact aE J<|k _);cases i<;>first|cases a;done|exact gC f (by simp[aT,d.a h]) (l nofun) a
def ak4{d c b}(f:s.op=.makeFunc d c b)(g:aZ r q z p y)(e:b0 o w x n z)(a:Ml x p c b d=Q t):fd u r q z w y s t:=by cases d with|func l=>rw[Ml]at a;(cases h:jQ x (aG c)with|none=>cases h▸a|some m=>rw[h]at a;cases i:jQ x (aG b)with|none=>cases i▸a|some v=>rw[i,VF]at a;refine gC g (a:=.func (.func l) (c.map w.eval)<|b.map w.eval) ?_ ?_ a;simp[aT,tZ e h,tZ e i,yZ];rw[aY,f];rfl)|_=>cases a
def akT{e}{h c:Nat}{b}(g:s.op=.typeAssert e h c b)(d:aZ r q z p y)(f:b0 o w x n z)(a:MS u x p s c b (al x e)=Q t):fd u r q z w y s t:=by cases h:al x e with|none=>rw[h]at a;exact mE d f a|some v=>rw[h]at a;cases v with|e hc i=>let⟨hd,hb,i⟩:=Bb<|f.a h;rw[MS]at a;(cases l:u.underlying c with|none=>cases l▸a|some k=>rw[l]at a;(have ha:∀{j},(match Q k with|Q (.interface _)=>Z|Q _=>j|Z=>Z)=Q t->(∀m,k≠.interface m)/\j=Q t:=by intro j h;cases k<;>first|cases h;done|existsλm i=>(by cases i));let⟨h,a⟩:=ha a;cases j:aw hc c with|true=>rw[j]at a;have m:=b8 j;subst m;rw[b4]at a;(have ha:(aY w.eval s).run u y=.ok (.value<|if b then .tuple #[hd,.bool K]else hd) y:=by simp[aY,g,i];cases k<;>first|cases b<;>simp[abg,cE l];done|exact aE J<|h _);(cases b;exact gC d hb ha a;exact gC d (by simp[aT,bm,hb]) ha a)|false=>rw[j]at a;(have m:hc≠c:=λi=>by rw[i,cF]at j;cases j);rw[dE]at a;cases b with|false=>cases a|true=>rw[b4]at a;cases b:kL u c with|none=>cases b▸a|some c=>rw[b]at a;refine gC d (a:=.tuple #[c,.bool N]) (by simp[aT,bm,Hw]) ?_ a;simp[aY,g,i];cases k<;>first|simp[abg,cE l,m,zk b y];done|exact aE J<|h _)|_=>exact mE d f a
def ala{c:Nat}{b d}(f:s.op=.makeSlice c b d)(g:aZ r q z p y)(e:b0 o w x n z)(a:((iW<|al x b).bind λk=>(iW<|al x d).bind λh=>HM u p c k h)=Q t):fd u r q z w y s t:=by cases i:iW (al x b)with|none=>cases i▸a|some k=>rw[i]at a;cases j:iW (al x d)with|none=>cases j▸a|some h=>rw[j]at a;simp[HM]at a;let⟨hh,m⟩:=Ew i;let⟨hi,d⟩:=Ew j;let he:=eh<|e.a m;let hf:=eh<|e.a d;split at a;rename_i e hg;(cases ha:u.info? e with|none=>cases ha▸a|some j=>rw[ha]at a;simp at a;cases hb:j.zero with|none=>cases hb▸a|some i=>rw[hb]at a;simp at a;cases l:cY k h&&aw (aj i.cells) j.size&&cc 0 j.size&&cY (h*(j.bytes+1)) 100000000000 with|false=>cases l▸a|true=>rw[l,b4]at a;cases a;simp only[cQ]at l;let m:=ez l.1.1.1;let d:=b8 l.1.1.2;(let hd:0<j.size:=by simpa using l.1.2);let hc:=ez l.2;let l:=df (FC h L) hc;let l:h*j.bytes<=100000000000:=df (FE h L) hc;let l:=run_make y c e j i hg ha hb hh hi (fW k) (fW h) (Fv k) (by simpa using m) (by(have:((j.bytes)*(fW h))=((h*j.bytes:Nat)):=by rw[Nat.mul_comm];simp);omega) (by simp;omega);(let hb:(JK i.cells<|h*j.size)=E (jX (aG i.cells) k++jX (aG i.cells) (h-k)):=by let c:=K8 (aG i.cells) (by simp[d,hd]) h;(let ha:Y i.cells.toList=j.size:=by simp[d]);rw[ha]at c;rw[JK];(have:jX (aG i.cells) k++jX (aG i.cells) (h-k)=jX (aG i.cells) h:=by(let hc:∀(ha v),jX (aG i.cells) ha++jX (aG i.cells) v=jX (aG i.cells) (ha+v):=λha v=>by induction ha with|zero=>simp[jX]|succ hd ha=>rw[Nat.succ_add];simp[jX,ha]);rw[hc];congr 1;omega);rw[this,<-c]);refine zd (a:=.cells (JK i.cells<|h*j.size) e) (b:=h) (e:=.slice (Q ⟨aj y.heap,0,Z⟩) k h) g ?_<|λt l=>⟨?_,by simp[aT,jS]⟩;simp[aY,f,he,hf];simp[ast]at l;simp[l];rw[hb];(let b:Y i.cells.toList=j.size:=by simp[d]);exact Ys (m:=0) (O8 (aG i.cells) k) (by rw[Aa,b]) m (by rw[mJ];omega) (by rw[Aa,Aa,b,<-vN];rw[Nat.add_sub_cancel' m]));cases a
end
section
variable{w:aD}{n:Nat}{s z u:ap}{r:W Nat}{y:bs}{x:aA}{p:aX}{o:au}{m:W bz}{t:ah}{q:dR}
def Ux{d:Type}{a}{b:d}(c:aG a=[b]):a=#[b]:=uy (xs:=a)▸c▸J
def wK{e:Type}{a}{b c:e}(d:aG a=[b,c]):a=#[b,c]:=uy (xs:=a)▸d▸J
def OB{b d f e c}(a:kH x b=Q (d,f,e,c)):x.a b=Q (.b d f e c):=by rw[kH]at a;split at a;rename_i g;cases a;exact g;cases a
def aZ.nh(hb:aZ s r y x z){t v q p u j}(w:x.a t=Q (.b v q p u))(ha:y t=Q j):∃hd hc,bm y u=Q hd/\Y hd=p*q/\z.heap[j.1]?=Q (.cells hc v (0,0))/\p<=j.2/\j.2<=mJ/\aj hc=j.2*q/\hc.toList.take (p*q)=hd:=by let⟨q,j,p,_⟩:=hb.b t _ w;cases ha▸j;exact p
def aZ.l(p:aZ s r y x z){v ha t}(w:x.a v=Q ha)(hb:y v=Q t)(q:z.grownBy u (Q t.1)):aZ s r y (x.c v Z) u:=by let⟨hd,hc,_,hh⟩:=p.b v ha w;rw[hb]at hc;cases hc;let hd:=p.m w;refine⟨p.c.e (n:=[t.1]) ⟨q.os,q.tape,q.output,q.size,λhg hc hf=>q.block hg hc<|λhe=>hf (by cases he;simp)⟩ (λhg hc=>by simp at hc;subst hc;exact hh),p.i,λhg hf=>⟨(p.d hg hf).1,ajw hd (p.d hg hf).2⟩,λj he hc=>?_,λj hh he hj t hi hf hg=>p.a j hh he hj t hi (Ip hd hf).2 (Ip hd hg).2⟩;let⟨hi,hc⟩:=Ip hd hc;let⟨hf,hd,hh,hg⟩:=p.b j he hc;exists hf,hd,q.block hf.1 (p.nb hc hd) (λhg=>hi<|p.a j v he ha hf t hc w hd hb<|cx hg)▸hh
def aZ.nd(p:aZ s r y x z)(j:z.grownBy u Z):aZ s r y x u:=p.g ⟨j.os,j.tape,j.output,j.size,λt q=>j.block t q az⟩
def amB{d b a:Nat}{v c}(e:z.ownsRow 0 d b v a c)(f:v≠.slice Z 0 0):∃i g h,v=.slice (Q ⟨i,0,Z⟩) a g/\z.heap[i]?=Q (.cells h d (0,0))/\a<=g/\g<=mJ/\aj h=g*b/\h.toList.take (a*b)=c/\Y c=a*b:=by obtain⟨l,_⟩|⟨m,j,k,s,_,r,n,o,p,q⟩:=e.2;exact aE l f;exact⟨m,j,k,s,r,n,o,p,q,e.1⟩
def XI{c a m i:Nat}{j f d l k}(b:aZ s r y x z)(e:x.a c=Q j)(g:y c=Q f)(h:(aY p.eval t).run w z=.ok (.value d) u)(o:z.grownBy u (Q f.1))(ha:u.ownsRow 0 a m d i k)(v:d≠.slice Z 0 0)(hb:∀hc,d.ownBlock=Q hc->hc=f.1\/aj z.heap<=hc)(n:bm y l=Q k):fd w s r y p z t (x.c c Z,Q<|.b a m i l,λq=>.d q 0 i 0):=by let⟨i,m,hd,hc,hj,he,hf,hg,hh,hi⟩:=amB ha v;let v:=hb i (by rw[hc];rfl);let⟨hb,l,_,ha⟩:=b.b c j e;rw[g]at l;cases l;let l:=b.m e;refine⟨d,u,(i,m),h,b.l e g o,λq h=>⟨⟨k,hd,jL (cI.b h _) _ _ n,hi,hj,he,hf,hg,hh⟩,by simp[aT,jS,hc]⟩,?_,λo ha i d m a=>?_⟩;obtain a|a:=v;rwa[a];exact .inr<|df b.c.a a;let⟨k,d⟩:=Ip l d;obtain h|h:=v;exact k<|b.a o c ha j i f d e m g<|a▸h;have:=b.nb d m;simp at a;omega
def XJ{a i e:Nat}{b g f}(d:aZ s r y x z)(c:(aY p.eval t).run w z=.ok (.value b) u)(k:z.grownBy u Z)(h:u.ownsRow (aj z.heap) a i b e f)(l:b≠.slice Z 0 0)(j:bm y g=Q f):fd w s r y p z t (x,Q<|.b a i e g,λq=>.d q 0 e 0):=by obtain⟨o,_⟩|⟨v,m,n,hd,hc,hb,e,g,i,ha⟩:=h.2;exact aE o l;refine⟨b,u,(v,m),c,d.nd k,λq c=>⟨⟨f,n,jL (cI.b c _) _ _ j,h.1,hb,e,g,i,ha⟩,by simp[aT,jS,hd]⟩,.inr<|df d.c.a hc,λl o m b k a=>?_⟩;have:=d.nb b k;simp at a;omega
def xo{c e d a b}(g:t.op=.call ⟨.builtin .append,d,a⟩)(h:aG d=[c,e])(f:(tg a t.type #[p.eval c,p.eval e]).run w z=.ok b u):(aY p.eval t).run w z=.ok (.value b) u:=by simp[aY,g,i1,iH,sb,wK h];simp[f]
def agD{e f h d:Nat}{b v o a i c}(m:w.underlying e=Q (.slice d))(n:w.underlying f=Q .string)(j:w.info? d=Q b)(r:b.zero=Q (.int .u8 0))(l:b.size=1)(p:b.bytes=1)(g:z.ownsRow 0 d 1 v a i)(s:a+bf c<=mJ)(t:a+bf c<=140737488355328)(k:(tg #[e,f] h #[v,.string c]).run w z=.ok o u)(q:v≠.slice Z 0 0):∀y,o.ownBlock=Q y->v.ownBlock=Q y\/aj z.heap<=y:=by
 intro x s;let hb:Y i=a:=by simpa using g.1
 obtain⟨rfl,rfl⟩|⟨o,x,t,rfl,_,y,hd,ha,hc,he⟩:=g.2;exact aE J q;by_cases ha:a+bf c<=x;let q:=Go.Lib.run_append_room_string z e f h d b m n j l o a x t y c ha L;rw[k]at q;cases q;exact .inl s;let q:=g.cells J;let g:=Go.Lib.run_append_grow_string z e f h d b (.int .u8 0) m n j r ⟨o,0,Z⟩ a x i (by rw[l];simpa using hb) q c L L<|p▸growslice_fits L L;cases k▸g;simp[Fp]at s;exact .inr L
def WB{b}(a:wY b=K):b.zero=Q (.int .u8 0)/\b.size=1/\b.bytes=1:=by rw[wY]at a;split at a;rename_i c;rw[cQ]at a;exact⟨c,b8 a.1,b8 a.2⟩;cases a
def Wy{b:Nat}(a:wX w b=K):w.underlying b=Q .string:=by rw[wX]at a;split at a;rename_i c;exact c;cases a
def Y9(a):bm y (Cd a)=Q (abm a):=by rw[Cd,abm,show(a.data.toList.map λb=>X.k<|.int .u8 b.toNat)=(a.data.toList.map λc=>kN .u8 c.toNat).map X.k by rw[JZ];rfl];exact A9 _
def G6{d f b e c g}(a:sI g c d f b e=Q q):c=K/\q=(g,Q<|.b d f b e,λq=>.d q 0 b 0):=by cases c;cases a;cases a;exists J
def Xo(w:aD)(h:aZ s r y x z){f e a b i}(c:(x.a f).bind fT=Q b)(g:y f=Q i)(d:Y (aR b e a)=a):∃n,bm y (aR b e a)=Q n/\Y n=a/\∀j v,n[j]?=Q v->z.cell? ((⟨i.1,e,Z⟩:Addr).add j)=Q v:=by cases k:x.a f with|none=>cases k▸c|some l=>rw[k]at c;let q:=c;let⟨i,l,_⟩:=I4 (x:=w) h k q g d;refine⟨i,l,by rw[l5 l,d],λj n o=>?_⟩;rw[sg];(let p:j<a:=by let c:=(bc.1 o).1;rwa[l5 l,d]at c);let f:∃m,(aR b e a)[j]?=Q m:=e7 (d▸p)▸⟨_,J⟩;let⟨t,m⟩:=f;let⟨e,u,b⟩:=sK l m;cases o▸u;rw[aR,pW,aC p,xI]at m;let⟨d,t,a⟩:=h.o k q g m;cases b▸t;exact a
def akS{k ha}{c g:Nat}{l j i v}(d:t.op=.call ⟨.builtin .append,l,j⟩)(f:aG l=[k,ha])(e:aG j=[c,g])(b:aZ s r y x z)(h:b0 n p o m y)(hb:al o k=Q i)(hc:al o ha=Q v)(a:qx w x c g i v=Q q):fd w s r y p z t q:=by
 have kb:=h.a hb;have hz:=h.a hc;rw[qx]at a;split at a;rename_i hf hu;cases hj:w.info? hf with|none=>cases hj▸a|some he=>rw[hj]at a;simp at a;cases hm:pT he with|false=>cases hm▸a|true=>rw[hm,b4]at a;rw[pT]at hm;cases h1:he.zero with|none=>cases h1▸hm|some kt=>rw[h1,cQ]at hm;(have kj:0<he.size:=by simpa using hm.1);have ko:=b8 hm.2;have k5:zT w c hf he.size he.bytes kt:=⟨hu,by simp[hj,h1],ko,kj⟩;unfold yC at a;split at a;rename_i ky hg;(cases kk:kH x ky with|none=>cases kk▸a|some ho=>let⟨k2,j6,kw,kz⟩:=ho;rw[kk]at a;simp at a;have kd:=OB kk;let⟨h9,kh,kl⟩:=iU kb;cases hx:aw hf k2&&aw j6 he.size&&cY hg kw with|false=>cases hx▸a|true=>rw[hx,b4]at a;simp only[cQ]at hx;have k3:=b8 hx.1.1;have k4:=b8 hx.1.2;have kg:=ez hx.2;subst k3;subst k4;let⟨kx,k1,j5,j1,j3,kv,k8,k9,j4⟩:=b.nh kd kh;have j7:hg*he.size<=kw*he.size:=J6 _ kg;(have hy:z.ownsRow 0 hf he.size (.slice (Q ⟨h9.1,0,Z⟩) hg<|h9.2-0) hg (kx.take<|hg*he.size):=by refine⟨by rw[jw,j1];omega,.inr ⟨h9.1,h9.2,k1,J,eL _,j3,df kg kv,k8,k9,?_⟩⟩;rw[<-j4,aaM];congr 1;omega);have h4:bm y (kz.take<|hg*he.size)=Q (kx.take<|hg*he.size):=Ea _ j5;unfold DY at a;split at a;(cases ht:aw c g with|false=>cases ht▸a|true=>rw[ht]at a;have:=b8 ht;subst this;rw[b4]at a;refine gC b kb (xo d f ?_) a;rw[wK e,kl,eh hz];simp[tg,cE hu,qQ,xD,hj,uA,uz,zx,df kg kv]);rename_i ho;obtain⟨hd,rfl⟩:=G6 a;simp only[cQ]at hd;have h7:=Wy hd.1.1;let⟨h8,hs,hv⟩:=WB hd.1.2;have hi:=ez hd.2;rw[hv]at hi;rw[hs,xN]at hy h4;let⟨ks,u,hl,hk,hq,hr⟩:=abl z 0 c g t.type hf he hu h7 hj h8 hs hv _ hg _ hy ho (by rw[mJ];omega) L<|eL _;have kn:=agD hu h7 hj h8 hs hv hy (by rw[mJ];omega) L hl az;rw[hs];exact XI b kd kh (xo d f<|wK e▸kl▸(eh hz)▸hl) hq hk (λhf=>by simp[hf]at hr) (λkc kf=>by obtain hh|hh:=kn kc kf;exact .inl (by rw[Fp,hJ]at hh;exact hh.symm);exact .inr hh)<|jl h4<|Y9 ho;rename_i ka kr hn kp;(cases hp:(x.a ka).bind fT with|none=>cases hp▸a|some k0=>rw[hp]at a;simp at a;obtain⟨hd,rfl⟩:=G6 a;simp only[cQ]at hd;have ht:=b8 hd.1.1.1.1;subst ht;have h6:=hd.1.1.2;have hi:=ez hd.1.2;(have j2:0<hn:=by simpa using hd.2);let⟨h2,ki,km⟩:=iU hz;let⟨kq,hw,h5,h3⟩:=Xo w b hp ki (b8 hd.1.1.1.2);have k6:=df (FC (hg+hn) L) hi;have k7:(hg+hn)*he.bytes<=100000000000:=df (FE _ L) hi;let⟨ks,u,hl,hk,hq,hr⟩:=run_append_own z 0 c t.type hf he kt he.size he.bytes hu hj h1 J J ko kj _ hg _ hy ⟨h2.1,kr,Z⟩ hn (h2.2-kp) kq h5 h3 (yB h6 hw) (by rw[mJ];omega) L<|eL _;have kn:=acW k5 hy h5 h3 (yB h6 hw) (by rw[mJ];omega) L hl;exact XI b kd kh (xo d f<|wK e▸kl▸km▸hl) hq hk (λhf=>by simp[hf]at hr) (λkc kf=>by obtain hh|hh:=kn kc kf;exact .inl (by rw[Fp,hJ]at hh;exact hh.symm);exact .inr hh)<|jl h4 hw);cases a);have ku:=eh kb;unfold G7 at a;split at a;rename_i ho;obtain⟨hd,rfl⟩:=G6 a;simp only[cQ]at hd;have h7:=Wy hd.1.1.1;let⟨h8,hs,hv⟩:=WB hd.1.1.2;have hi:=ez hd.1.2;(have j8:0<bf ho:=by simpa using hd.2);rw[hv]at hi;let⟨ks,u,hl,hk,hq,hr⟩:=abl z (aj z.heap) c g t.type hf he hu h7 hj h8 hs hv _ 0 _ (aso z (aj z.heap) hf 1) ho (by rw[mJ];omega) L<|bd _;rw[eK,se]at hk;rw[hs];exact XJ b (xo d f<|wK e▸ku▸(eh hz)▸hl) hq hk (λhf=>by rw[hr]at hf;omega)<|Y9 ho;rename_i ka kr hn kp;(cases hp:(x.a ka).bind fT with|none=>cases hp▸a|some k0=>rw[hp]at a;simp only at a;obtain⟨hd,rfl⟩:=G6 a;simp only[cQ]at hd;have ht:=b8 hd.1.1.1.1;subst ht;have hi:=ez hd.1.2;(have j2:0<hn:=by simpa using hd.2);let⟨h2,ki,km⟩:=iU hz;let⟨kq,hw,h5,h3⟩:=Xo w b hp ki (b8 hd.1.1.1.2);have k6:=df (FC hn L) hi;have k7:hn*he.bytes<=100000000000:=df (FE _ L) hi;let⟨ks,u,hl,hk,hq,hr⟩:=run_append_own z (aj z.heap) c t.type hf he kt he.size he.bytes hu hj h1 J J ko kj _ 0 _ (aso z (aj z.heap) hf he.size) ⟨h2.1,kr,Z⟩ hn (h2.2-kp) kq h5 h3 (yB hd.1.1.2 hw) (by rw[mJ];omega) (by rw[eK];omega)<|bd _;rw[eK,se]at hk;exact XJ b (xo d f<|wK e▸ku▸km▸hl) hq hk (λhf=>by rw[hr]at hf;omega) hw);cases a;cases a
 cases a
end
section
variable{y:aD}{o:Nat}{q z:ap}{p:W Nat}{x:bs}{t:aA}{s:aX}{w:au}{n:W bz}{r:ah}{u:dR}
def UL{d c a}(b:yE w d a=Q c):(a=Z/\c=d)\/∃e g,a=Q e/\al w e=Q (.k<|.int g<|.ofNat c):=by obtain _|i:=a;rw[yE]at b;cases b;exact .inl av;let⟨h,f⟩:=Ew b;exact .inr ⟨i,h,J,f⟩
def alh{d}{h:Nat}{f e g}(i:r.op=.slice h d f e g)(c:aZ q p x t z)(b:b0 o s w n x)(a:Bf y w t r h f e g (al w d)=Q u):fd y q p x s z r u:=by cases hk:al w d with|none=>rw[hk]at a;exact mE c b a|some v=>rw[hk]at a;cases v with|d h6 hg kd j=>let⟨l,ho,ht⟩:=iU<|b.a hk;simp[Bf]at a;split at a;rename_i k hh h3 h2;rw[Ef]at a;split at a;rename_i hc hu hb hl h7 hf h4;have h1:=OB h4;(cases hd:aw hc hu&&qI y hc hb&&cY k hh&&cY (j+hh) hl&&(aw k 0||cc (j+k) hl)with|false=>cases hd▸a|true=>rw[hd,b4]at a;simp only[cQ,lu]at hd;let⟨⟨⟨⟨hw,ha⟩,hx⟩,hy⟩,hz⟩:=hd;have hv:=b8 hw;subst hv;have hn:=ez hx;have h9:=ez hy;(have h5:fI y hc=Q hb:=by rw[qI]at ha;cases m:fI y hc with|none=>cases m▸ha|some o=>rw[m]at ha;rw[b8 ha]);let⟨ke,h8,_,_,_,ka,_⟩:=c.nh h1 ho;have hq:hh<=l.2-j:=L;(have h0:k=0\/j+k<hl:=by obtain a|a:=hz;exact .inl<|b8 a;exact .inr (by simpa using a));refine gC c (a:=.slice (Q ⟨l.1,hg+k*hb,Z⟩) (hh-k)<|l.2-(j+k)) (by simp[aT,ho]) ?_ a;have m:=mH h5 z;(have hp:(if l.2-j=k then(Q ⟨l.1,hg,Z⟩:S Addr)else Q ((⟨l.1,hg,Z⟩:Addr).add<|k*hb))=Q ⟨l.1,hg+k*hb,Z⟩:=by obtain hm|hm:=h0;subst hm;split<;>simp[FK];rw[ak L];simp[sg]);have he:l.2-j-k=l.2-(j+k):=L;simp[aY,i,ht];obtain⟨rfl,rfl⟩|⟨kf,kb,rfl,hr⟩:=UL h3<;>obtain⟨rfl,rfl⟩|⟨kg,kc,rfl,hs⟩:=UL h2;simp[wa,cE hf,vZ,wb,m];simp[he,FK];have hj:=eh<|b.a hs;simp[hj,wa,fN,cE hf,hF,vZ,wb,jt,xY,sa];simp[hq,m,he,FK];have hi:=eh<|b.a hr;simp[ut,dD,hi,wa,fN,cE hf,hF,vZ,wb,jt,xY,sa];simp[hn,m,hp,he];simp[dD,ut,eh<|b.a hs,eh<|b.a hr,wa,fN,cE hf,hF,vZ,wb,jt,xY,sa];simp[hq,hn,m,hp,he]);cases a;cases a|_=>exact mE c b a
def ak7{e}{d:Nat}{g f}(h:r.op=.call ⟨.builtin .len,g,f⟩)(k:aG g=[e])(i:aG f=[d])(c:aZ q p x t z)(b:b0 o s w n x)(a:HJ y w t r d (al w e)=Q u):fd y q p x s z r u:=by cases m:al w e with|none=>rw[m]at a;exact mE c b a|some v=>rw[m]at a;cases v with|d f e g j=>let⟨f,l,e⟩:=iU<|b.a m;rw[HJ]at a;(cases l:ld y d with|none=>cases l▸a|some m=>rw[l,b2]at a;let⟨g,d,_⟩:=Eb l;refine gC c J ?_ a;simp[aY,h,i1,iH,sb,Ux k,Ux i];simp[e,FL,cE d,ju])|_=>exact mE c b a
def ak1{f h}{c m:Nat}{g e}(i:r.op=.call ⟨.builtin .copy,g,e⟩)(l:aG g=[f,h])(k:aG e=[c,m])(d:aZ q p x t z)(b:b0 o s w n x)(a:MY y w t r c (al w f) (al w h)=Q u):fd y q p x s z r u:=by
 unfold MY at a;split at a;rename_i e g v j h m;let⟨g,f,e⟩:=iU<|b.a h;cases v:ld y c with|none=>cases v▸a|some c=>rw[v,b2]at a;let⟨h,g,c⟩:=Eb v;refine gC d J ?_ a;simp[aY,i,i1,iH,sb,wK l,wK k];simp[e,eh<|b.a m,Ql,cE g,uA,mH c z,uz,zx,ju]
 exact mE d b a
def alc{d:Nat}(b:r.op=.makeMap d Z)(c:aZ q p x t z)(a:(Q (t,Q<|.c [],λu=>X.g u):S dR)=Q u):fd y q p x s z r u:=by cases a;refine zd (b:=0) (e:=.map<|Q<|aj z.heap) c ?_<|λu e=>⟨⟨#[],0,J,C⟩,by simp[aT,jS]⟩;simp[aY,b];rfl
def Za{c b}(a:ud y c=Q b):∃d,y.underlying c=Q (.map d b)/\y.underlying d=Q .string:=by rw[ud]at a;split at a;rename_i f g e;split at a;rename_i h;cases a;exists f,e;cases a;cases a
def MR(b a):(b==a)=aM b a:=by obtain⟨c⟩:=b;obtain⟨d⟩:=a;show(c==d)=cj (iK c=iK d);by_cases e:c=d;subst e;simp;rw[ps (λf=>by cases f;exact e J)];exact beq_eq_false_iff_ne.2 e
def VS(a):∀{d e}(n),pK x d e->∃c,CL .string (.string a) e n=Q c/\(match cp a d with|Z=>c=Z|Q v=>∃j g,c=Q (j,g)/\aT x v=Q g)|[],[],s,_=>⟨Z,J,J⟩|[],_::_,t,h=>h.elim|_::_,[],u,i=>i.elim|(o,v)::p,f::w,b,k=>by let⟨l,q,m⟩:=k;rw[CL,l,abe,cp,MR];cases r:aM a o;exact VS a (b+1) m;exists Q (b,f.val),J,b,f.val,J
def aZ.h(w:aZ q p x t z){j r s}(u:t.a j=Q (.c r))(v:x j=Q s):∃y ha,z.heap[s.1]?=Q (.map y ha)/\pK x r (aG y):=by let⟨s,y,r,_⟩:=w.b j _ u;cases v▸y;exact r
def Yw{a:Nat}(c:y.underlying a=Q .string)(b)(d):(zM b 10000 a<|.string d).run y z=.ok () z:=by rw[zM];simp[cE c]
def ak9{f:Nat}{g h b}(e:r.op=.lookup f g h b)(c:aZ q p x t z)(d:b0 o s w n x)(a:HK y t f b (al w g) (al w h)=Q u):fd y q p x s z r u:=by
 unfold HK at a;split at a;rename_i f k g h;split at a;rename_i i he f m;let⟨hh,hd,hc⟩:=Za f;let⟨hi,l,f⟩:=Bc<|d.a g;let g:=eh<|d.a h;let⟨d,h,hf,ha⟩:=c.h m l;cases m:kL y i with|none=>cases m▸a|some l=>rw[m,b2]at a;let⟨hj,hg,i⟩:=VS k 0 ha;(let hb:(vH hi.1).run y z=.ok (.map d h) z:=by simp[vH,Fo,hf]);let h:=Yw (z:=z) hc d.isEmpty k;(let ha:(CK hh (.string k)<|aG d).run y z=.ok hj z:=by simp[CK,cE hc,hg]);rcases d:cp k he with _|v;rw[d]at i a;simp only at i;subst i;(let k:(aY s.eval r).run y z=.ok (.value<|if b then .tuple #[l,.bool N]else l) z:=by simp only[aY,e,f,g];cases b<;>simp[abc,cE hd,hb,h,ha,zk m z]);(cases b with|true=>exact gC c (v:=.c [jO l,R N]) (by simp[aT,bm,Hw]) k a|false=>exact gC c (Hw x l) k a);rw[d]at i a;let⟨j,l,m,k⟩:=i;subst m;(let i:(aY s.eval r).run y z=.ok (.value<|if b then .tuple #[l,.bool K]else l) z:=by simp only[aY,e,f,g];cases b<;>simp[abc,cE hd,hb,h,ha]);cases b with|true=>exact gC c (v:=.c [v,R K]) (by simp[aT,bm,k]) i a|false=>exact gC c k i a
 cases a;cases a
def Vn(a){v c}(b:aT x v=Q c):∀{g d}(l),pK x g d->(∃h,CL .string (.string a) d l=Q h/\((h=Z/\∀o,pK x (iZ a v g) (d++[{key:=.string a,val:=c,born:=o}]))\/∃j e,h=Q (l+j,e)/\(d[j]?).map (·.key)=Q (.string a)/\pK x (iZ a v g) (d.modify j λq=>{q with key:=.string a,val:=c})))|[],[],k,_=>⟨Z,J,.inl ⟨J,λh=>⟨J,b,C⟩⟩⟩|[],_::_,l,r=>r.elim|_::_,[],m,s=>s.elim|(f,p)::i,n::o,m,t=>by let⟨e,i,u⟩:=t;rw[CL,e,abe,iZ,MR];cases w:aM a f with|true=>refine⟨Q (m,n.val),J,.inr ⟨0,n.val,J,by simp[e,ej w],?_⟩⟩;exists J,b|false=>let⟨g,z,c⟩:=Vn a b (m+1) u;exists g,z;obtain⟨f,k⟩|⟨j,a,f,y,k⟩:=c;exact .inl ⟨f,λp=>⟨e,i,k p⟩⟩;refine .inr ⟨j+1,a,by rw[f];congr 2;omega,by simpa using y,?_⟩;exists e,i
def aZ.e(y:aZ q p x t z){r hb j}(v:t.a r=Q hb)(w:x r=Q j)(u)(s)(ha:e1 x j s (Q u)):aZ q p x (t.c r<|Q s) (z.putObj j.1 u):=y.na (t:=z.putObj j.1 u) v w bq PK (λ_ r=>JH r) s<|World.putObj_heap_same (y.nb v w)▸ha
def YA{u a b}(c:z.heap[u]?=Q a)(d:∀e i g,a≠.cells e i g):(setObj u b).run y z=.ok () (z.putObj u b):=by cases a with|cells f j h=>exact aE J<|d f j h|_=>simp[setObj,Fo,c,World.putObj]
def agS(a:ac):(a==a)=K:=by rw[MR];simp[aM]
def alb{f:Nat}{g h b}(e:r.op=.mapUpdate f g h b)(d:aZ q p x t z)(c:b0 o s w n x)(a:HN y t f (al w g) (al w h) (al w b)=Q u):fd y q p x s z r u:=by
 unfold HN at a;split at a;rename_i h i v l g hd;split at a;rename_i f h k m;cases a;let⟨hj,hg,hf⟩:=Za k;let⟨ha,h,hb⟩:=Bc<|c.a l;let hc:=eh<|c.a g;let f:=c.a hd;let⟨l,k,g,c⟩:=d.h m h;let he:(vH ha.1).run y z=.ok (.map l k) z:=by simp[vH,Fo,g]
 let hd:=Yw (z:=z) hf N i;let⟨hk,hi,hh⟩:=Vn i f 0 c;let f:(CK hj (.string i)<|aG l).run y z=.ok hk z:=by simp[CK,cE hf,hi]
 obtain⟨rfl,c⟩|⟨j,hi,rfl,hf,c⟩:=hh;refine⟨ee,z.putObj ha.1<|.map (l.push {key:=.string i,val:=s.eval b,born:=k})<|k+1,.inr ⟨J,?_⟩,J,d.e m h _ _ ⟨_,_,J,by simpa using c k⟩⟩;let hh:=YA (y:=y) (b:=.map (l.push {key:=.string i,val:=s.eval b,born:=k})<|k+1) g az;simp[aY,e,hb,hc];simp[zN,cE hg,he,hd,f,hh];let hh:(l[j]?).map (·.key)=Q (.string i):=by simpa using hf
 refine⟨ee,z.putObj ha.1<|.map (l.modify j λhf=>{hf with key:=.string i,val:=s.eval b}) k,.inr ⟨J,?_⟩,J,d.e m h _ _ ⟨_,_,J,by simpa using c⟩⟩;let m:=YA (y:=y) (b:=.map (l.modify j λd=>{d with key:=.string i,val:=s.eval b}) k) g az;let b:(Ks (.string i)<|.string i).run y z=.ok (.string i) z:=by(have:Kt 10000 (.string i) (.string i)=K:=by simp[Kt,agS]);simp[Ks,this]
 simp[aY,e,hb,hc];simp[zN,cE hg,he,hd,f,hh,b,m];cases a;cases a
def alg{d:Nat}{b}(f:r.op=.range d b)(c:aZ q p x t z)(e:b0 o s w n x)(a:M4 y t d (al w b)=Q u):fd y q p x s z r u:=by
 unfold M4 at a;split at a;rename_i j g;split at a;rename_i k h i d l;cases a;let⟨h,i,k⟩:=Bc<|e.a g;let⟨e,g,v,_⟩:=c.h l i;let m:(vH h.1).run y z=.ok (.map e g) z:=by simp[vH,Fo,v]
 refine zd (b:=0) (e:=.pointer<|Q ⟨aj z.heap,0,Z⟩) c ?_<|λu b=>⟨⟨h,g,cI.b b _ j h i,J⟩,by simp[aT,jS]⟩;simp[aY,f,k];simp[Instr.range,cE d,m,newObj];rfl;cases a;cases a
def ald{d c}(f:r.op=.next d c)(b:aZ q p x t z)(e:b0 o s w n x)(a:M3 t c (al w d)=Q u):fd y q p x s z r u:=by
 unfold M3 at a;split at a;rename_i g h;cases c with|true=>cases a|false=>split at a;rename_i l m;split at a;rename_i c;let⟨hc,i,v⟩:=pd<|e.a h;let⟨e,k,⟨l,h,j,ha⟩,_⟩:=b.b g _ m;rw[i]at k;cases k;let⟨g,m,hb,i⟩:=b.h c j;(have k:g=#[]:=by cases j:(aG g)with|nil=>rw[<-uy (xs:=g),j]|cons c e=>exact (j▸i).elim);subst k;(have e:(vH hc.1).run y z=.ok (.mapIter (Q l.1) h #[] h) z:=by simp[vH,Fo,ha]);(have g:(vH l.1).run y z=.ok (.map #[] m) z:=by simp[vH,Fo,hb]);refine gC b (a:=.tuple #[.bool N]) (by simp[aT,bm]) ?_ a;have b:(Question.mapNext 1).forced=K:=rfl;simp[aY,f,v];simp[Instr.next,e,g,b];cases a;cases a
 cases a
end
section
variable{y:aD}{o:Nat}{s z:ap}{r:W Nat}{x:bs}{q:aA}{p:aX}{w:au}{n:W bz}{t:ah}{u:dR}
def akZ{c:Nat}{b}(e:t.op=.makeChan c b)(f:aZ s r x q z)(d:b0 o p w n x)(a:(iW<|al w b).bind (MX y q c)=Q u):fd y s r x p z t u:=by cases i:iW (al w b)with|none=>cases i▸a|some g=>rw[i,b2]at a;let⟨v,h⟩:=Ew i;let v:=eh<|d.a h;rw[MX]at a;split at a;rename_i k m ha;(cases k:y.info? m with|none=>cases k▸a|some h=>rw[k]at a;simp at a;cases j:cY (g*(h.bytes+1)) 100000000000 with|false=>cases j▸a|true=>rw[j,b4]at a;cases a;let l:=ez j;let j:=df (FC g L) l;(let m:h.bytes*g<=100000000000:=by rw[Nat.mul_comm];exact df (FE g L) l);refine zd (b:=0) (e:=.chan<|Q<|aj z.heap) f ?_<|λu l=>⟨⟨#[],0,0,J,J⟩,by simp[aT,jS]⟩;let b:¬(9223372036854775807<(g:Int)):=L;(let c:¬(281474976710544<(h.bytes)*(g:Int)):=by(have:(h.bytes)*(g)=((h.bytes*g:Nat):Int):=az);omega);simp[aY,e,v];simp[Instr.makeChan,asInt,sa,cE ha,OI k z,i,b,c,newObj];rfl);cases a
def ZA(b:qZ)(a)(c:a<128):b.wrap (fW a)=fW a:=by cases b<;>rw[IntKind.wrap,IntKind.bits,IntKind.signed]<;>simp<;>omega
def Nu(a)(b j):wV a b j=a.wrap (b+j):=by
 unfold wV;split;rename_i c d;cases f:cc (zD c d) 128;rfl;(let e:zD c d<128:=by simpa using f);rw[b4];exact(ZA a _ e).symm
 rfl
def NC(a)(b j):vo a b j=a.wrap (b-j):=by
 unfold vo;split;rename_i c d;cases e:cY d c&&cc c 128;rfl;rw[cQ]at e;let g:=ez e.1;(let h:c<128:=by simpa using e.2);rw[b4];(let f:(fW c-fW d)=fW (J8 c d):=by simp only[dw];have:(J8 c d)=c-d:=rfl;omega);rw[f];exact(ZA a _ (by have:(J8 c d)=c-d:=rfl;omega)).symm
 rfl
def Nx(a j):aF a j=cj (a<j):=by unfold aF;split;rename_i c d;by_cases b:c<d;rw[show cc c d=K by simpa using b,iy (by simpa using b)];rw[show cc c d=N by cases e:cc c d;rfl;exact aE (by simpa using e) b,ps (by simpa using b)];rfl
def Nw(a j):ao a j=cj (a=j):=by unfold ao;split;rename_i d e;by_cases b:d=e;subst b;simp;rw[lJ b,ps<|λc=>b (by cases c;rfl)];rfl
def ajr{d}{e:Nat}{c b j v}(a:sO c b j d=Q v):(eT d e (.int c b)<|.int c j).run y z=.ok v z:=by
 let f:(b==j)=cj (b=j):=by by_cases a:b=j<;>simp[a]
 let g:(b !=j)=!cj (b=j):=by by_cases a:b=j<;>simp[a]
 cases d<;>rw[sO]at a<;>first|cases a;done|cases a;simp[eT,FR,Nu];done|cases a;simp[eT,FR,NC];done|cases a;simp[eT,yb,Nx];done|cases a;simp[eT,yb,Nx];by_cases h:j<b<;>simp[h]<;>omega|cases a;simp[eT,yb,Nx];by_cases i:b<j<;>simp[i]<;>omega|cases a;simp[eT,yb,Nw,f];done|cases a;simp[eT,yb,Nw,g];done
def yN{a:Nat}{g b v c}(j:y.underlying a=Q g)(h:∀l,(qb (l+1) a b v).run y z=.ok c z)(d e)(i:∀m,(um m a d e b v).run y z=.ok () z)(f:eT .eql a b v=(do uu (.bool<|<-Kw a b v))/\eT .neq a b v=(do uu (.bool<|!(<-Kw a b v)))):(do um .eql a d e b v;eT .eql a b v:Sem bh).run y z=.ok (.bool c) z/\(do um .neq a d e b v;eT .neq a b v:Sem bh).run y z=.ok (.bool<|!c) z:=by let k:(Kw a b v).run y z=.ok c z:=h 9999;rw[f.1,f.2];simp[i,k]
def akE{f:Nat}{h i g v}(d:aT x h=Q g)(e:aT x i=Q v)(a:BF y f h i=K)(b c):(do um .eql f b c g v;eT .eql f g v:Sem bh).run y z=.ok (.bool N) z/\(do um .neq f b c g v;eT .neq f g v:Sem bh).run y z=.ok (.bool K) z:=by rw[BF]at a;split at a;rename_i u j;unfold Xs at a;split at a;obtain⟨q,h,rfl⟩:=pd d;have:=eh e;subst this;exact yN j (λk=>by rw[qb];simp[cE j]) b c (λn=>by cases n<;>rfl) av;obtain⟨r,i,rfl⟩:=pd e;have:=eh d;subst this;exact yN j (λl=>by rw[qb];simp[cE j]) b c (λo=>by cases o<;>rfl) av;cases a;rename_i w k;unfold Xq at a;split at a;obtain⟨s,g,_,_,rfl⟩:=pc d;have:=eh e;subst this;exact yN k (λm=>by rw[qb];simp[cE k]) b c (λp=>by cases p<;>rfl) av;obtain⟨t,h,_,_,rfl⟩:=pc e;have:=eh d;subst this;exact yN k (λn=>by rw[qb];simp[cE k]) b c (λq=>by cases q<;>rfl) av;cases a;rename_i f l;unfold Xr at a;split at a;obtain⟨u,_,rfl⟩:=Bb d;have:=eh e;subst this;exact yN l (λo=>by rw[qb];simp[cE l]) b c (λr=>by cases r<;>rfl) av;obtain⟨w,_,rfl⟩:=Bb e;have:=eh d;subst this;exact yN l (λp=>by rw[qb];simp[cE l]) b c (λs=>by cases s<;>rfl) av;cases a;rename_i g m;unfold Xu at a;split at a;obtain⟨f,j,rfl⟩:=iU d;have:=eh e;subst this;exact yN m (λd=>by rw[qb];simp[cE m]) b c (λt=>by cases t<;>rfl) av;cases a;cases a
def XH{e k:Nat}{f g b d}(j:(b=.eql/\d=N)\/(b=.neq/\d=K))(h:t.op=.binOp b e f g k)(i:aZ s r x q z)(c:b0 o p w n x)(a:Be y w q t e d (al w f) (al w g)=Q u):fd y s r x p z t u:=by
 unfold Be at a;split at a;rename_i v k b d;cases l:BF y e v k with|false=>rw[l]at a;exact mE i c a|true=>rw[l,b4]at a;let m:=akE (z:=z) (c.a b) (c.a d) l f g;refine gC i J ?_ a;obtain⟨rfl,rfl⟩|⟨rfl,rfl⟩:=j;have:=m.1;rw[aY,h,fN,this];rfl;have:=m.2;rw[aY,h,fN,this];rfl
 cases a
def akU{d i:Nat}{g h e}(f:t.op=.binOp e d g h i)(c:aZ s r x q z)(b:b0 o p w n x)(a:qy y w q t d g h e (al w g) (al w h)=Q u):fd y s r x p z t u:=by
 unfold qy at a;split at a;rename_i l k m j g h;split at a;rename_i v i;cases k:cj (l=m)with|false=>cases k▸a|true=>rw[k]at a;have l:=ej k;subst l;have m:=eh<|b.a g;refine gC c J ?_ a;simp[aY,f,m,eh<|b.a h,eqGuard_at_int];simp[ajr (y:=y) (z:=z) (e:=d) i]
 exact mE c b a;cases e with|eql=>exact XH (.inl av) f c b a|neq=>exact XH (.inr av) f c b a|_=>exact mE c b a
def alj{g:Nat}{e b}(f:t.op=.unOp b g e)(d:aZ s r x q z)(c:b0 o p w n x)(a:HO y w q t b (al w e)=Q u):fd y s r x p z t u:=by
 unfold HO at a;split at a;rename_i j i;cases b with|not=>refine gC d J ?_ a;simp[aY,f,eh<|c.a i];rfl|_=>cases a
 exact mE d c a
def ag9{v b}(a:A1 v=Q b):v=.k (wj b):=by
 unfold A1 at a;split at a;rename_i d;cases c:cc d 256 with|false=>cases c▸a|true=>rw[c]at a;(let e:d<256:=by simpa using c);cases a;rw[wj,UInt8.toNat_ofNat_of_lt' e];rfl
 cases a
def UP:∀{f d},vh f=Q d->f=d.map λg=>.k<|wj g|[],j,e=>by cases e;rfl|h::u,k,a=>by rw[vh]at a;cases b:A1 h with|none=>cases b▸a|some i=>rw[b]at a;cases c:vh u with|none=>cases c▸a|some l=>cases c▸a;rw[ag9 b,UP c];rfl
def ak0{d c:Nat}{f}(g:t.op=.convert d c f)(b:aZ s r x q z)(e:b0 o p w n x)(a:HI y w q t d c (al w f)=Q u):fd y s r x p z t u:=by
 unfold HI at a;split at a;·rename_i j i hw;split at a;(·rename_i hb hi hy hx v ht ho hs;split at a;(·rename_i hp;cases k:aw hb hi&&aw hy 1&&cY i hx with|false=>cases k▸a|true=>rw[k,b4]at a;simp only[cQ]at k;have hj:=b8 k.1.1;have hk:=b8 k.1.2;have h1:=ez k.2;subst hk;cases ha:vh (v.take i)with|none=>cases ha▸a|some h=>rw[ha,b2]at a;have he:=OB hs;obtain⟨m,hg,hc⟩:=iU<|e.a hw;obtain⟨h2,h0,hv,hq,_⟩:=b.nh he hg;(have hm:(aR v 0 i).length=i:=by rw[aR,vJ,jw,<-l5 hv,hq];omega);obtain⟨hz,hh,hf⟩:=I4 b he J hg hm;(have hn:aR v 0 i=h.map λj=>.k<|wj j:=by rw[aR,vJ];exact UP ha);(have hu:hz=h.map wj:=by rw[hn,show(h.map λj=>X.k<|wj j)=(h.map wj).map X.k by rw[JZ];rfl,A9]at hh;cases hh;rfl);subst hu;have hd:=run_convert_bytes_string z d c hb (Q ⟨m.1,0,Z⟩) i (m.2-0) ht hp ho;(have hr:h.map wj=(h.map λj=>((j.toNat))).map (kN .u8):=by rw[JZ];rfl);have l:=run_bytesToString (P:=y) z ⟨m.1,0,Z⟩ i (m.2-0) _ (hr▸hf);rw[Rr]at l;(have hl:(ByteArray.empty++⟨h.toArray⟩)=⟨h.toArray⟩:=by apply CG;simp);refine gC b J ?_ a;rw[zF]at hd l hc;simp[aY,g,hc];simp[hd,l]);·cases a);·cases a
 ·exact mE b e a
def gm{a}(b:dh.a a=Q (.b u)):a=Q u:=by obtain _|c:=a;cases b;cases b;rfl
def sH(b:aZ s r x q z)(c:b0 o p w n x)(a:dt y w q t=Q (.b u)):fd y s r x p z t u:=by
 rw[dt]at a;split at a;rename_i d k;exact XK (.inl k) b c<|gm a;rename_i f l;exact XK (.inr l) b c<|gm a;rename_i h g l m;split at a;rename_i f j;exact alf m b c j<|gm a;cases a;rename_i h d;exact ale d b c<|gm a;rename_i i f e;exact ak2 e b c<|gm a;rename_i d j k f;exact ak3 f b c<|gm a;rename_i h k m g;exact ak5 g b c<|gm a;rename_i i l h;exact ak8 h b c<|gm a;rename_i j m d i;exact ali i b c<|gm a;rename_i k d j;exact akW j b c<|gm a;rename_i l k;exact akR k b<|gm a;rename_i m k l;exact akX l b c<|gm a;rename_i d e l m;exact akY m b c<|gm a;rename_i e f d;exact ak6 d b c<|gm a;rename_i l k i e;exact ak4 e b c<|gm a;rename_i e k g h f;exact akT f b c<|gm a;rename_i f h e g;exact ala g b c<|gm a;rename_i j k g d i h;exact alh h b c<|gm a;rename_i h d i;cases d;exact alc i b<|gm a;cases a
 rename_i i g j;exact akZ j b c<|gm a;rename_i l i f j k;exact ak9 k b c<|gm a;rename_i k j g m l;exact alb l b c<|gm a;rename_i d l m;exact alg m b c<|gm a;rename_i m e d;exact ald d b c<|gm a;rename_i g m d h i e;exact akU e b c<|gm a;rename_i l e g f;exact alj f b c<|gm a;exact mE b c<|gm a;rename_i f j e g;exact ak0 g b c<|gm a;rename_i f d;let⟨g,h,j⟩:=f;obtain m|_|e:=g;rw[tG]at a;split at a;cases a;cases a;cases a;let a:=gm a;simp only at a;cases e with|len=>simp only[tF]at a;split at a;rename_i i f l h;exact ak7 d l h b c a;cases a|copy=>simp only[tF]at a;split at a;rename_i f j g e m i;exact ak1 d m i b c a;cases a|append=>simp only[tF]at a;split at a;rename_i j i h m e k;split at a;rename_i g v h i;split at a;rename_i m j;cases a;exact akS d e k b c h i j;exact mE b c a;cases a;cases a|_=>exact mE b c a
 rename_i b c;unfold DT at a;split at a;split at a;cases a;cases a;cases a;cases a
end
def bt(a:S Nat):Fence:={Fence.wide with round:=a}
def pS:Mk->Exit|.a=>.normal|.b a=>.exit a|.c=>.ret
def rq(b a:Nat):Prop:=a<b\/bi<=a
def rq.a{e d c}(b:rq e c)(f:e<=d):rq d c:=b.imp (λb=>mN b f) id
def fo(c d:Nat)(a b:bs):Prop:=cI a b/\c<=d/\∀e,rq c e->b e=a e
def fo.b(d)(c):fo d d c c:=⟨cI.c c,bd _,λ_ _=>rfl⟩
def fo.a{j i h e f g}(c:fo j i e f)(d:fo i h f g):fo j h e g:=⟨c.1.a d.1,df c.2.1 d.2.1,λl k=>(d.2.2 l<|k.a c.2.1).trans<|c.2.2 l k⟩
def jH(a:aD):Ug->fe->Prop|.a b r t o l c,.a u p n i=>∀(q)(y)(j)(e)(w)(m),q.isSome=b->aZ y j e c w->b0 r m o l e->t.wpIn (bt q) 0 a (λz s d=>z=pS u/\∃g,fo c.f i.f e g/\aZ y j g i d/\b0 r s p n g) m w|.b n m d,.b v j=>(∃p,a.funcs[n]?=Q p/\p.body.isNone=N)/\∀(z)(k)(f)(x)(t),aZ z k f d x->bm f m=Q t->CallsIn (bt Z) 0 a n (E t) x λw y=>∃b h,w=.returned b/\fo d.f j.f f h/\aT h v=Q b/\aZ z k h j y|.c r q h,.b v k=>∀(e)(l)(b)(d)(u)(c),aZ e l b h d->bm b q=Q u->b r=Q c->∃o s f g,(FP c.1<|E u).run a d=.ok (.round c.1 o s f g) d/\Fm (bt Z) 0 a c.1 o s f g d λx j=>∃a i,x=.returned a/\fo h.f k.f b i/\aT i v=Q a/\aZ e l i k j|_,_=>False
def rv(a:aD)(b:fG):Prop:=∀d c,b d=Q c->jH a d c
def fc(a:aD):Prop:=∀(c:Nat)(b:qY),a.funcs[c]?=Q b->(b.name== "runtime.NumGoroutine")=N
section
variable{x:aD}{r:Nat}{o u s:ap}{n:W Nat}{t:bs}{q:aA}{y:aX}{w:au}{p:W bz}{z:ah}{m:fG}
def Fa{b v c}(a:E9 b=Q (v,c)):b=Q (.b v c):=by unfold E9 at a;split at a;cases a;rfl;cases a
def ft{b c}(d:b0 r y w p t)(a:bx w b z.guard=Q c):ls z (yielded b y.tmps)=c:=by unfold bx at a;rw[ls];split at a;rename_i h;cases a;rw[h];rename_i j v i;rw[i];simp;cases e:(b[j]?).bind (·.dst)with|none=>cases e▸a|some f=>rw[e]at a;simp at a;rw[yielded,e,b2];unfold Zv at a;split at a;rename_i s k;cases a;let⟨x,o,m⟩:=d.b.2 f _ k;have:=eh o;subst this;rw[m];rfl;rename_i u l;cases a;let⟨b,q,n⟩:=d.b.2 f _ l;let⟨c,_,g⟩:=Vp q;rw[n,g];rfl;cases a
def gD{v e b c}(d:b0 r y w p t)(f:aT t v=Q e)(a:bP r w b v=Q c):b0 r (y.put b e) c p t:=by cases b with|none=>cases a;exact d|some b=>rw[bP]at a;cases g:cc b r with|false=>cases g▸a|true=>cases g▸a;exact d.f g f
def tH{b}(a:dt x w q z=Q (.b b)):∀c,z.op≠.defer c:=λe d=>by rw[dt,d]at a;simp at a;unfold DT at a;split at a;split at a<;>cases a;cases a
def Uq{b c}(a:dt x w q z=Q (.c b c)):∃e f n,z.op=.call ⟨.value e,f,n⟩/\al w e=Q b/\jQ w (aG f)=Q c:=by
 let d:∀{l},dh.a l=Q (.c b c)->False:=by intro m j;cases m<;>cases j
 rw[dt]at a;split at a<;>first|exact(d a).elim|skip
 split at a;exact(d a).elim;cases a;split at a;exact(d a).elim;cases a;rename_i g i;let⟨h,r,o⟩:=g;obtain p|_|s:=h;rw[tG]at a;split at a;rename_i v u k t;cases a;exists p,r,o,i,k;cases a;cases a;exact(d a).elim
 unfold DT at a;split at a;split at a<;>cases a;cases a;cases a
def agq{b}(a:dt x w q z=Q (.d b)):∃f g u e d,z.op=.defer ⟨.value f,g,u⟩/\aG g=[]/\al w f=Q (.f e [] d)/\b=.b e d:=by
 let c:∀{s},dh.a s=Q (.d b)->False:=by intro t o;cases t<;>cases o
 rw[dt]at a;split at a<;>first|exact(c a).elim|skip
 split at a;exact(c a).elim;cases a;split at a;exact(c a).elim;cases a;rename_i h e;let⟨k,i,f⟩:=h;obtain g|_|d:=k;rw[tG]at a;split at a<;>cases a;cases a;exact(c a).elim
 rename_i i n;let⟨l,b,v⟩:=i;cases l with|value y=>rw[DT]at a;split at a;rename_i m j p r;cases a;exists y,b,v,m,j,n,r,p;cases a|_=>cases a
 cases a
def NJ{c v b d}(e:fd x o n t y u z c)(a:vr b c=Q (v,d)):∃k s h,((aY y.eval z).run x u=.ok (.value k) s\/(k=ee/\(aY y.eval z).run x u=.ok .skip s))/\fo b d.f t h/\aT h v=Q k/\aZ o n h d s:=by let⟨f,i,l⟩:=c;cases i with|none=>rw[vr]at a;(cases j:cY b f.f with|false=>cases j▸a|true=>cases j▸a;let⟨k,s,h,w,q⟩:=e;exists k,s,t,h,⟨cI.c t,ez j,λ_ _=>rfl⟩,w)|some r=>rw[vr]at a;cases g:cY b f.f&&cc f.f 15999 with|false=>cases g▸a|true=>rw[g]at a;cases a;rw[cQ]at g;let m:=ez g.1;(let p:f.f<15999:=by simpa using g.2);let⟨w,s,m,j,l,g,r,d⟩:=e;let i:=(l.d f.f<|bd _).1 (by rw[bi];omega);let⟨p,q⟩:=g f.f i;refine⟨w,s,cX t f.f m,.inl j,⟨cI.b i m,by show b<=f.f+1;omega,λe c=>by rw[cX,ak (by rw[rq,bi]at c;omega)]⟩,q,(l.ng 1 (by rw[bi];omega)).nc (by show f.f<f.f+1;omega) i p r d⟩
def B4{c d i}{a:Nat}{b v}(f:fc x)(e:∃j,x.funcs[a]?=Q j/\j.body.isNone=N)(g:z.op=.call ⟨.value c,d,i⟩)(h:y.eval c=.func (.func a) (E b) (E v)):(aY y.eval z).run x u=.ok (.enter a<|E<|b++d.toList.map y.eval++v) u:=by let⟨l,k,m⟩:=e;simp only[aY,g,i1,h,vX,fN,jt,hF,iH,zu];let o:(Cv).run x u=.ok x u:=rfl;rw[o];simp only[hF,k,f a l k,m,jt];simp
def EA(c:fc x)(a:rv x m){b g}(d:b.isSome=g){e f}:∀(hb){w p q l k i t y u},BJ x m g r e hb w p q=Q (l,k,i)->(∀hd hj s,fo q.f i.f t hd->aZ o n hd i s->b0 r hj l k hd->f .normal hj s)->aZ o n t q u->b0 r y w p t->fA (bt b) 0 x e f hb y u|[],w,p,q,l,k,i,t,y,u,h,hk,hg,j=>by cases h;exact hk t y u (fo.b _ t) hg j|z::hb,w,p,q,l,k,i,t,y,u,h,hk,hg,j=>by rw[amo,N2]at h;cases i:bx w e z.guard with|none=>cases i▸h|some hy=>rw[i]at h;have k:=ft j i;rw[fA,k];cases hy with|false=>simp at h;(cases i:bP r w z.dst (.c [])with|none=>cases i▸h|some hr=>rw[i,b2]at h;existsλ_ _=>C;exact EA c a d hb h hk hg<|gD j J i)|true=>simp[jy]at h⊢;existsλ_ _=>C;cases hl:dt x w q z with|none=>cases hl▸h|some l=>rw[hl]at h;cases l with|b l=>rw[fC _ _ _<|tH hl];rw[IK]at h;(cases hm:vr q.f l with|none=>cases hm▸h|some hi=>let⟨v,hw⟩:=hi;rw[hm]at h;simp at h;cases i:bP r w z.dst v with|none=>cases i▸h|some hr=>rw[i,b2]at h;let⟨h1,hc,l,k,ha,hf,hh⟩:=NJ (sH hg j hl) hm;have ht:=EA c a d hb h (λhd hj s ho=>hk hd hj s<|ha.a ho) hh<|gD (j.c ha.1) hf i;obtain k|⟨rfl,k⟩:=k;rwa[k];rwa[k])|c hx hz=>let⟨h1,hp,h5,hn,hu,hv⟩:=Uq hl;rw[fC _ _ _ (λhs hq=>by cases hn▸hq)];rw[IK]at h;(cases he:D3 m q hz hx with|none=>cases he▸h|some hi=>let⟨v,hw⟩:=hi;rw[he]at h;simp at h;cases i:bP r w z.dst v with|none=>cases i▸h|some hr=>rw[i,b2]at h;have hz:=j.a hu;have h0:=tZ j hv;have ht:∀(hi)(l)(hc),fo q.f hw.f t l->aT l v=Q hi->aZ o n l hw hc->fA (bt b) 0 x e f hb (y.put z.dst hi) hc:=λhi l hc ha hf hh=>EA c a d hb h (λhd hj s ho=>hk hd hj s<|ha.a ho) hh<|gD (j.c ha.1) hf i;unfold D3 at he;split at he;rename_i e f hs;have k:=a _ _<|Fa he;let⟨h6,hx,hd,hj,f⟩:=pc hz;rw[B4 c k.1 hn f];existsλh=>(by cases h);refine uC (k.2 o n t u _ hg<|jl (jl hd h0) hj) ?_;rintro hq hc⟨hi,l,rfl,ha,hf,hh⟩;exact ht hi l hc ha hf hh;rename_i hy;have k:=a _ _<|Fa he;have hy:=hz;rw[aT,b3]at hy;let⟨hw,ho,f⟩:=hy;let⟨e,h4,hy,hz,h3,h2⟩:=k o n t u _ hw hg h0 ho;(have k:(aY y.eval z).run x u=(FP hw.1<|hp.map y.eval).run x u:=by simp[aY,hn,i1,vX,<-f,iH]);rw[k,<-yZ,h3];existsλh=>(by cases h);refine PG (show Fm (bt b) (0-1) x hw.1 e h4 hy hz u _ from h2) ?_;rintro hq hc⟨hi,l,rfl,ha,hf,hh⟩;exact ht hi l hc ha hf hh;cases he)|d l=>rw[IK]at h;cases g with|true=>cases h|false=>rw[dE]at h;cases i:bP r w z.dst (.c [])with|none=>cases i▸h|some hr=>rw[i,b2]at h;obtain⟨h1,hp,h5,e,hs,hn,hv,hu,rfl⟩:=agq hl;(have hm:b=Z:=by cases b;rfl;cases d);subst hm;let⟨h6,hx,hd,hj,f⟩:=pc<|j.a hu;rw[bm]at hd;cases hd;have g:hp=#[]:=uy (xs:=hp)▸hv▸J;(have k:(z.semAt (bt Z).round y.eval).run x u=.ok (.defer {target:=.fn (.func e)<|E hx,args:=#[]}) u:=by show(Oper.semAt Z y.eval z).run x u=_;rw[Oper.semAt_none];simp[aY,hn,i1,f,vX,g]);rw[k];have b:b0 r {y with defers:={target:=.fn (.func e)<|E hx,args:=#[]}::y.defers} w (.b e hs::p) t:=⟨j.b,wM.2 ⟨_,_,by simp[jk,hj],j.d,J⟩⟩;exact EA c a d hb h hk hg<|gD b J i
end
def wA(a:aD)(b:cV->aJ):Prop:=∀e,b e=K->(∃h,a.funcs[e]?=Q h/\h.body.isNone=N)/\∀(g)(c f)(d)(j),g.heap[c]?=Q (.cells (E d) j (0,0))->f<Y d->CallsDIn (bt Z) 0 a e #[.pointer (Q ⟨c,f,Z⟩)] .returning g λi k l=>(∃v,i=.returned v)/\k=.returning/\l=g.setRow c (E<|qd d f [.nilIface])
def LU(a:aD)(b:aJ->Ds):Prop:=∀(i)(g l)(h)(e)(c)(j)(f)(d)(k),b i g h e c j=Q (f,d,k)->jH a (.a i g (.region l h K) e c j) (.a .a f d k)
def G2(a:aD)(b:Dw):Prop:=∀d e c f v g,b d=Q e->e c f=Q (v,g)->jH a (.b d c f) (.b v g)
section
variable{x:aD}{o:Nat}{w z u:ap}{t:W Nat}{s:bs}{r:aA}{y:aX}{q:au}{p:W bz}{n:fG}
def BI{d b a}(c:jH x (.a d o b q p r) a):∃i g e k,a=.a i g e k:=by cases a with|a j h f l=>exists j,h,f,l|b v m=>exact c.elim
def YM{b d h g}(f:rv x n)(a:B8 (λq p r=>n<|.a b o h q p r) (n<|.a b o d q p r)=Q g)(e)(c:∀(l)(i)(y)(z),(∀u y z,i u y z->∃j,u=pS j)->d.wpIn (bt l) 0 x (Exit.then (h.wpIn (bt l) 0 x i) i) y z->e.wpIn (bt l) 0 x i y z):jH x (.a b o e q p r) g:=by cases k:n (.a b o d q p r)with|none=>cases k▸a|some j=>rw[k]at a;let j:=f _ _ k;obtain⟨h,b,v,i,rfl⟩:=BI j;obtain _|b|_:=h;simp only[B8]at a;let b:=f _ _ a;obtain⟨m,e,d,f,rfl⟩:=BI b;intro m w t s z y v k i;refine c m _ y z (λ_ _ _ f=>⟨_,f.1⟩)<|ia (j m w t s z y v k i) ?_;rintro i g f⟨rfl,e,d,l,u⟩;refine ia (b m w t e f g v l u) ?_;rintro k h g⟨m,f,e,u,v⟩;exists m,f,d.a e,u;simp only[B8]at a;cases a;intro d w t s z y v i k;refine c d _ y z (λ_ _ _ g=>⟨_,g.1⟩)<|ia (j d w t s z y v i k) ?_;rintro l g d⟨rfl,u⟩;exists J;simp only[B8]at a;cases a;intro a w t s z y b m l;refine c a _ y z (λ_ _ _ h=>⟨_,h.1⟩)<|ia (j a w t s z y b m l) ?_;rintro a c e⟨rfl,j⟩;exists J
def M6{a}:∀{c d},zv a c=Q d->Y d<=Y c|[],i,e=>by simp[zv]at e|f::h,j,b=>by cases f with|inBlock g=>simp[zv]at b;split at b;cases b;simp;have:=M6 b;simp;omega|_=>simp[zv]at b;have:=M6 b;simp;omega
def E0{a c d e b}(g:a c)(i:step x c=.next e)(j:step x d=.next e)(h:d≠b)(f:Cp a x d b):Cp a x c b:=by cases f with|refl=>exact aE J h|head m k l=>cases j▸k;exact .head g i l
def Is{f g:xX}{y e:aX}{c d:W Item}{a:W xX}{z u:ap}(b:hZ (f.atR y c) a z=hZ (g.atR e d) a u):c=d:=by simp only[hZ,abn]at b;let h:=b.2.1;simp only[aaX,zz,aba,Ko,aa8]at h;exact h.1.1.2.2.1
def ajP{a:xX}{y c:aX}{d e:W Item}{b:W xX}{z u:ap}:hZ (a.atR y d) b z≠hZ {a.atR c e with mode:=.returning} b u:=λf=>by simp only[hZ,abn]at f;let g:=f.2.1;simp only[aaX,zz,aba,Ko,aa8]at g;exact(by have:=g.1.1.2.2.2.2.1;cases this)
def agF{i d a e k c b f u j}(h:(hZ (a.atR e<|.inLoop d::c) b f).fenced x (bt i))(g:ArrivesIn (ya x<|bt i) x (hZ (a.atR e<|.code (.loop d)::c) b f) a c b (pS j) k u):ArrivesIn (ya x<|bt i) x (hZ (a.atR e<|.inLoop d::c) b f) a c b (pS j) k u:=by let l:step x (hZ (a.atR e<|.inLoop d::c) b f)=.next (hZ (a.atR e<|.code d::.inLoop d::c) b f):=stepR_inLoop;let m:step x (hZ (a.atR e<|.code (.loop d)::c) b f)=.next (hZ (a.atR e<|.code d::.inLoop d::c) b f):=stepR_loop;obtain _|j|_:=j;exact E0 h l m (λp=>by have:=b9 Y<|Is p;simp at this) g;refine⟨λd o=>E0 h l m (λq=>?_)<|g.1 d o,λz y=>?_⟩;let v:=b9 Y<|Is q;have:=M6 o;simp at v;omega;let⟨e,w,a⟩:=g.2 z y;exact⟨e,w,E0 h l m (λr=>by have:=Is r;cases this) a⟩;refine⟨λn=>?_,λn=>?_⟩;let⟨i,b⟩:=g.1 n;exact⟨i,E0 h l m (λs=>ajP s) b⟩;let⟨f,c⟩:=g.2 n;exact⟨f,E0 h l m (λt=>by have:=Is t;cases this) c⟩
def W6{b a c y z}(e:∀p y z,c p y z->∃f,p=pS f)(d:a.wpIn (bt b) 0 x (Exit.then ((Qr a).wpIn (bt b) 0 x c) c) y z):(Qr a).wpIn (bt b) 0 x c y z:=λk o l r m n=>by let⟨t,i,j,g,f⟩:=d k (.inLoop a::o) l r m n;let h:Cp (ya x<|bt b) x (hZ (k.atR y<|.code (.loop a)::o) l z) (hZ (k.atR y<|.code a::.inLoop a::o) l z):=.one (zw m n J) stepR_loop;obtain _|c|b|_|a|_:=t;let⟨u,s,w,q,v⟩:=g k o l r m n;refine⟨u,s,w,q,.of_steps (h.trans f) ?_⟩;obtain⟨d,rfl⟩:=e _ _ _ q;exact agF (zw m n J) v;exact⟨_,i,j,g,.of_steps h<|.pass J (λ_ _=>.inl az) f⟩;exact⟨_,i,j,g,.of_steps h<|.pass J (λ_ _=>.inl az) f⟩;exact⟨_,i,j,g,.of_steps h<|.pass J (λ_ _=>.inl az) f⟩;exact⟨_,i,j,g,.of_steps h<|.pass J (λ_ _=>.inl az) f⟩;exact⟨_,i,j,g,.of_steps h<|.pass J (λ_ _=>.inl az) f⟩
end
section
variable{r:aD}{q:Nat}{w y n:ap}{u:W Nat}{x:bs}{z:aA}{t:aX}{s:au}{p:W bz}{m:ah}{o:fG}
def aZ.f(he:aZ w u x z y){j v s p q t ha hb r}(hc:z.a j=Q (.g v s p q t ha hb))(hd:x j=Q r):∃hf,y.heap[r.1]?=Q (.loop hf)/\hf.state=v/\hf.pending=s/\iS x p q hf.tmps/\hf.params=t/\hf.assign=ha/\hf.body=hb:=by let⟨r,p,q,_⟩:=he.b j _ hc;cases hd▸p;exact q
def Wb(y:ap)(a)(m):y.grownBy (y.putObj a m) (Q a):=⟨J,J,J,PK▸bd _,λd _ c=>JH<|λb=>c<|b▸J⟩
def Oq:∀{c f d s e i},xm q c f s=Q e->bm x f=Q d->iS x s q i->Y d=Y c/\iS x e q ((c.zip d).foldl (λt(j)=>t.setIfInBounds j.1 j.2) i)|[],[],l,s,u,i,g,h,d=>by cases h;cases g;exists J|[],_::_,m,s,w,h,k,a,e=>by simp[xm]at k|_::_,[],n,s,y,j,l,c,f=>by simp[xm]at l|r::g,v::b,o,s,z,k,a,m,n=>by obtain⟨t,u,o,p,rfl⟩:=jK.1 m;rw[xm]at a;cases b:cc r q with|false=>cases b▸a|true=>have:=Oq (b▸a) p<|n.b b o;exact⟨by simp[this.1],by simpa using this.2⟩
def YO{b e c d f}(a:sS z b e c d=Q f):∃m l g h i j k,d=Q (.g m l g h i j k)/\f=z.c b (Q<|.g e c g h i j k):=by unfold sS at a;split at a;cases a;exists _,_,_,_,_,_,_,J;cases a
def aob{b f d e a}(c:sS z b f d e=Q a):a.f=z.f:=by obtain⟨_,_,_,_,_,_,_,_,rfl⟩:=YO c;rfl
def aoc{b g f h e}(d:aZ w u x z y)(c:x b=Q e)(i:sS z b g f (z.a b)=Q h)(a:S ek)(k:g=if a.isNone then .ready else .done)(j:f=a):∃n,(FO e.1 a).run r y=.ok (.bool a.isNone) n/\aZ w u x h n:=by obtain⟨m,f,s,e,g,o,p,l,rfl⟩:=YO i;let⟨h,q,t,v,m,o,p,b⟩:=d.f l c;refine⟨_,run_endRound a q,d.e l c _ _ ?_⟩;exists _,J,k▸J,j▸J,m,o,p
def anI(d:rv r o){b c e}(a:O2 o b c z=Q e):jH r (.c b c z) e:=by
 rw[O2]at a;split at a;·rename_i k7 k1 hn k8 he k0 h2;split at a;(·rename_i hw h0;unfold UC at a;split at a;(·rename_i hx hu hz;split at a;(·rename_i hp hg ho hq hs ht hh;unfold Vz at a;(have hb:∀(p)(j)(f h)(q)(hd)(i),o (.a K hn k0 hx []<|hu.c b<|Q<|.g .busy hp hg ho hq hs ht)=Q (.a p j [] f)->sS f b hd i (f.a b)=Q h->hd=(if i.isNone then .ready else .done)->q=i.isNone->(p=.a/\i=Z\/p=.c/\i=Q .ret\/∃k,p=.b k/\i=Q (.exit k))->jH r (.c b c z) (.b (.k<|.bool q) h):=λp j f h q hd i l g kh kb h4=>by intro w u x y hr m hl h3 hi;obtain⟨hc,kc,k6,_,kk,h9,ko,kq⟩:=hl.f h2 hi;obtain⟨h7,kl⟩:=Oq h0 h3 kk;subst ko;subst kq;subst h9;(have kj:hr.toArray.size=hc.params.size:=by simpa using h7);exists _,_,_,_,run_yield kc kj;apply roundIn_of_wpIn C;(have kn:iS x hw hn ((hc.params.zip hr.toArray).foldl (λkw(kv,t)=>kw.setIfInBounds kv t) hc.tmps):=by rw[<-P9];simpa using kl);refine ia (d _ _ hz (Q m.1) w u x y {tmps:=_,defers:=[]} J hl ⟨kn,J⟩) ?_;rintro k3 hy kx⟨rfl,hf,hj,hm,h1⟩;have ha:=hj.1 b m hi;obtain⟨ku,kd,ki,h8,km,ka,kp,kr⟩:=hm.f hh ha;exists _,run_beginRound kd ki;have ke:aZ w u hf (hu.c b<|Q<|.g .busy hp hg ho hq hs ht) (kx.putObj m.1<|.loop {ku with state:=.busy}):=hm.e hh ha _ _ ⟨_,J,J,h8,km,ka,kp,kr⟩;refine ia (d _ _ l (Q m.1) w u hf _ hy J ke h1) ?_;rintro k4 k2 ky⟨rfl,hv,hk,kf,k5⟩;obtain⟨kz,h5,kg⟩:=aoc kf (hk.1 b m ha) g i kh J;have h6:∃v n,(FO m.1 i).run r ky=.ok v n/\∃he s,Ending.returned v=.returned he/\fo z.f h.f x s/\aT s (.k<|.bool q)=Q he/\aZ w u s h n:=⟨_,kz,h5,_,hv,J,aob g▸hj.a hk,by rw[kb];rfl,kg⟩;obtain⟨rfl,rfl⟩|⟨rfl,rfl⟩|⟨k,rfl,rfl⟩:=h4<;>exact h6);split at a;(·rename_i j f l;cases g:sS f b .ready Z (f.a b)with|none=>cases g▸a|some h=>rw[g]at a;cases a;exact hb .a j f h K .ready Z l g J J<|.inl ⟨J,J⟩);(·rename_i j f l;cases g:sS f b .done (Q .ret) (f.a b)with|none=>cases g▸a|some h=>cases g▸a;exact hb .c j f h N .done (Q .ret) l g J J<|.inr<|.inl ⟨J,J⟩);(·rename_i k j f l;cases g:sS f b .done (Q<|.exit k) (f.a b)with|none=>cases g▸a|some h=>cases g▸a;exact hb (.b k) j f h N .done (Q<|.exit k) l g J J<|.inr<|.inr ⟨k,J,J⟩);·cases a);·cases a);·cases a);·cases a
 ·cases a
def anj(h:fc r)(g:rv r o){f:dW}{b:bv Tmp}{c d:ek}{e:fe}(a:Ou o q b c d s p z (al s f)=Q e):jH r (.a N q (.rangeFunc f b c d) s p z) e:=by
 unfold Ou at a;split at a;rename_i m hn hh hj;cases i:cc z.f 15998 with|false=>cases i▸a|true=>rw[i,b4]at a;(have l:z.f<15998:=by simpa using i);split at a;rename_i v hc l;have he:=g _ _<|Fa l;(have hf:∀(l)(i)(k)(j)(n)(ha)(hb hd),hc.a (z.f+1)=Q (.g i k j n ha hb hd)->i≠.busy->Ob o q s (.a z.f::p) (hc.c (z.f+1) Z) k=Q l->jH r (.a N q (.rangeFunc f b c d) s p z) l:=λj n hg k f i ha hb hd hk l=>by (have i:∃n f k ha,j=.a n f k ha:=by obtain _|j:=hg;cases l;exact⟨_,_,_,_,J⟩;exact BI<|g _ _ l);obtain⟨j,f,k,n,rfl⟩:=i;intro n w u x y t i j k;(have f:n=Z:=by cases n;rfl;cases i);subst f;let⟨ha,hb,hl,hm,hi⟩:=pc<|k.a hj;refine wpIn_rangeFunc λfn _=>?_;have f:=(j.d z.f<|bd _).1 (by rw[bi];omega);have i:=j.ng 2 (by rw[bi];omega);have hj:=i.n (p:=z.f) (by show z.f<z.f+2;omega) f (.deferred<|Q []) 0 .f J;(have n:cX x z.f (aj y.heap,0) (z.f+1)=Z:=by rw[cX,ak L];exact(j.d (z.f+1) L).1 (by rw[bi];omega));have j:cI x (cX x z.f (aj y.heap,0)):=cI.b f _;have f:aj (y.alloc<|.deferred<|Q []).heap=aj y.heap+1:=World.size_alloc ..;have i:=hj.n (p:=z.f+1) (by show z.f+1<z.f+2;omega) n (.loop {state:=.ready,pending:=Z,fn,tmps:=t.tmps,params:=b,assign:=c,body:=d,defers:=(aj y.heap)}) 0 (.g .ready Z s q b c d) ⟨_,J,J,J,k.b.a<|j.a<|cI.b n _,J,J,J⟩;rw[f]at i;have f:cI x (cX (cX x z.f (aj y.heap,0)) (z.f+1) (aj y.heap+1,0)):=j.a<|cI.b n _;have n:=run_enterLoop_outer (P:=r) (w:=y) fn t.tmps b c d;generalize(y.alloc<|.deferred<|Q []).alloc (.loop {state:=.ready,pending:=Z,fn,tmps:=t.tmps,params:=b,assign:=c,body:=d,defers:=(aj y.heap)})=j at i n;refine⟨aj y.heap+1,[{target:=.collected<|aj y.heap,args:=#[]}],j,{target:=.fn (.func m)<|E hb,args:=(E<|ha++[Cq (.yield<|aj y.heap+1) #[] #[]])},j,m,E<|ha++[Cq (.yield<|aj y.heap+1) #[] #[]]++hb,j,n,?_,λ_ _=>C,?_,λa=>(by cases a),?_⟩;simp only[i1,hi,vX];simp;rfl;let⟨d,b,c⟩:=he.1;have n:=h m d b;have h:(Cv).run r j=.ok r j:=rfl;rw[iH,zu,fN,h];simp only[hF,b,n,c,jt];simp;have b:bm (cX (cX x z.f (aj y.heap,0)) (z.f+1) (aj y.heap+1,0)) (hn++[.i<|z.f+1]++hh)=Q (ha++[Cq (.yield<|aj y.heap+1) #[] #[]]++hb):=jl (jl (jL f _ _ hl) (by simp[bm,aT,jS]))<|jL f _ _ hm;refine uC (he.2 w u _ _ _ i b) ?_;rintro m hb⟨d,i,rfl,c,b,h⟩;have m:=c.1 _ _<|jS ..;have n:i z.f=Q (aj y.heap,0):=c.1 _ _ (by unfold cX;rw[ak L,aC J]);let⟨ha,b,d,j,_⟩:=h.f hd m;exists _,_,run_endLoop b (d▸hk);have d:aZ w u i (hc.c (z.f+1) Z) (hb.putObj (aj y.heap+1)<|.loop {ha with state:=.exhausted}):=h.l hd m<|Wb _ _ _;have m:fo z.f (z.f+2) x (cX (cX x z.f (aj y.heap,0)) (z.f+1) (aj y.heap+1,0)):=⟨f,L,λb h=>by unfold cX;rw[ak (by rw[rq,bi]at h;omega),ak (by rw[rq,bi]at h;omega)]⟩;have b:=m.a c;have c:=b.1;have m:b0 q {t with defers:=[{target:=.collected<|aj y.heap,args:=#[]}]++t.defers} s (.a z.f::p) i:=⟨k.b.a c,wM.2 ⟨_,_,by simp[jk,n],A7 c _ _ k.d,J⟩⟩;rw[j]at d⊢;obtain _|c:=hg;cases l;exists J,i,b,d;have c:=g _ _ l;refine ia (c Z w u i _ _ J d m) ?_;rintro m h f⟨d,g,k,l,c⟩;exists d,g,b.a k,l);unfold Yl at a;split at a;rename_i g;exact hf e .ready _ _ _ _ _ _ g az a;rename_i g;exact hf e .done _ _ _ _ _ _ g az a;cases a;cases a
 cases a
def ahL(f:fc r)(c:rv r o){e}(h:LU r e){b d g}(a:Cc r o (e b) b q s p z d=Q g):jH r (.a b q d s p z) g:=by cases d with|skip=>cases a;exactλg w u x y t j l i=>wpIn_skip ⟨J,x,fo.b _ x,l,i⟩|ret=>cases a;exactλi w u x y t l k j=>wpIn_ret ⟨J,x,fo.b _ x,k,j⟩|exit v=>cases a;exactλm w u x y t l j k=>wpIn_exit ⟨J,x,fo.b _ x,j,k⟩|seq j m=>exact YM c a _<|λl k t y _ j=>wpIn_seq j|loop k=>exact YM c a _<|λj ha t y g l=>W6 g l|cond d l g=>rw[Cc]at a;unfold Vc at a;split at a;rename_i d;have m:=c _ _ a;obtain⟨i,g,k,j,rfl⟩:=BI m;intro v w u x y t j l i;exact wpIn_cond_true (eh<|i.a d)<|m v w u x y t j l i;rename_i g;have v:=c _ _ a;obtain⟨k,j,i,d,rfl⟩:=BI v;intro m w u x y t i d j;exact wpIn_cond_false (eh<|j.a g)<|v m w u x y t i d j;cases a|block l j=>rw[Cc]at a;(cases m:o (.a b q j s p z)with|none=>cases m▸a|some d=>rw[m]at a;have j:=c _ _ m;obtain⟨k,m,v,d,rfl⟩:=BI j;cases k with|a=>simp[Hb]at a;cases a;intro g w u x y t k v d;refine JP<|ia (j g w u x y t k v d) ?_;rintro m v k⟨rfl,g⟩;exists J|c=>simp[Hb]at a;cases a;intro d w u x y t g i m;refine JP<|ia (j d w u x y t g i m) ?_;rintro v d g⟨rfl,i⟩;exists J|b k=>rw[Hb]at a;cases i:aw k l with|true=>cases i▸a;have v:=b8 i;subst v;intro d w u x y t m g v;refine JP<|ia (j d w u x y t m g v) ?_;rintro d g v⟨rfl,m⟩;simp only[pS,pu];exists C|false=>cases i▸a;(have d:k≠l:=λm=>by rw[m,cF]at i;cases i);intro m w u x y t i k l;refine JP<|ia (j m w u x y t i k l) ?_;rintro j l i⟨rfl,k⟩;simp only[pS,pu,ak d];exists C)|region g k l=>rw[Cc]at a;(cases l with|true=>(cases v:e b q k s p z with|none=>cases v▸a|some i=>let⟨e,d,l⟩:=i;cases v▸a;exact h b q g k s p z e d l v)|false=>cases d:BJ r o b q k (aG k) s p z with|none=>cases d▸a|some h=>let⟨j,i,e⟩:=h;rw[d]at a;cases a;intro v w u x y t h hc m;have:=wpIn_region_lit (id:=g) (EA f c h (f:=λv g n=>v=pS .a/\∃l,fo z.f e.f x l/\aZ w u l e n/\b0 q g j i l) (aG k) d (λh he n hb hd ha=>⟨J,h,hb,hd,ha⟩) hc m|>λa=>by simpa using a);simpa using this)|rangeFunc e h d i=>(cases b;exact anj f c a;cases a)|_=>cases a
end
section
variable{y:aD}{n:Nat}{s x p:ap}{r:W Nat}{w:bs}{z:aA}{q:aX}{t:au}{u:W bz}{o:fG}
def NH{a}:∀{u z i},li a u z=Q i->i.f=z.f|[],z,o,d=>by simp[li]at d;cases d;rfl|.a j::u,z,p,c=>by simp[li]at c;split at c;exact NH (z:=z.c j Z) c;cases c|.b l m::u,z,q,b=>by simp[li]at b;cases e:a l with|false=>cases e▸b|true=>rw[e]at b;simp[b4]at b;split at b;split at b;rename_i k g _ h n;(cases f:cc g (Y h)with|false=>cases f▸b|true=>exact NH (z:=z.c k<|Q<|.a<|gR h g [bN]) (f▸b));cases b;cases b
def xb{b}(d:fc y)(c:wA y b){f g e}:∀(u){z a x n},li b u z=Q a->aZ s r w z x->g7 w u=Q n->(∀p,aZ s r w a p->LeavesIn (bt Z) 0 y f g e [] .returning p)->LeavesInM (bt Z) 0 y f g e n .returning x|[],z,a,x,n,h,i,l,q=>by simp[li]at h;cases h;simp[g7]at l;cases l;exact q x i|.a hc::u,z,a,x,n,h,i,l,q=>by obtain⟨m,he,e,hd,rfl⟩:=wM.1 l;simp[li]at h;split at h;rename_i t;simp only[jk,b3]at e;obtain⟨k,g,rfl⟩:=e;let⟨hf,ha,f,_⟩:=i.b hc _ t;cases g▸ha;refine⟨az,.inl ⟨k.1,_,J,run_takeDeferred f,?_⟩⟩;exact xb d c u h (i.l t g<|Wb _ _ _) hd q;cases h|.b o hg::u,z,a,x,n,h,i,l,q=>by obtain⟨m,he,e,hd,rfl⟩:=wM.1 l;simp[li]at h;cases a:b o with|false=>cases a▸h|true=>rw[a]at h;simp[b4]at h;split at h;rename_i hc m;split at h;rename_i l t;(cases f:cc m (Y l)with|false=>cases f▸h|true=>rw[f]at h;simp[b4]at h;(have he:m<Y l:=by simpa using f);simp[jk]at e;obtain⟨b,f,rfl⟩:=e;obtain⟨e,l,n,b,rfl⟩:=jK.1 f;simp[bm]at b;cases b;obtain⟨k,g,rfl⟩:=pd n;let⟨hf,ha,⟨e,b,n,hb⟩,_⟩:=i.b hc _ t;rw[g]at ha;cases ha;let⟨⟨f,l,ha⟩,hc⟩:=c o a;have a:=d o f l;refine⟨az,.inr ⟨λh=>(by cases h),.func o,_,o,#[.pointer (Q ⟨k.1,m,Z⟩)],J,?_,λ_ _=>C,?_⟩⟩;have o:(Cv).run y x=.ok y x:=rfl;simp only[iH,zu,fN];rw[o];simp only[hF,l,a,ha,jt];simp;refine Qm (hc x k.1 m e b hb<|l5 n▸he) ?_;rintro o a l⟨⟨v,rfl⟩,rfl,rfl⟩;refine xb d c u h ?_ hd q;refine i.na (t:=x.setRow k.1<|E<|qd e m [.nilIface]) t g ⟨J,J,J⟩ az (λj c=>JM x k.1 j _ c) _<|⟨_,b,Ba n J m,JL x k.1 _ _ b _ hb⟩);cases h;cases h
def B5(a:bv bh):Fl->Sem bh|.tmp b=>uu (a.getD b ee)|.cell d c=>do JJ c (<-asAddr (a.getD d ee))
def anA(a)(b):uo a b=(do let c<-a.results.mapM (B5 b);uu (if d:aj c=1 then c[0]else .tuple c)):=by congr 1
def anx{b v}(d:aZ s r w z x)(c:iS w t n q.tmps)(a:BX y t z b=Q v):∃h,aT w v=Q h/\(B5 q.tmps b).run y x=.ok h x:=by cases b with|tmp e=>let⟨f,o,l⟩:=c.2 e v a;exists f,o;simp only[B5];rw[qV,l];rfl|cell f i=>simp[BX]at a;cases e:aO t f with|none=>cases e▸a|some g=>rw[e]at a;let⟨j,p,m⟩:=c.2 f g e;cases g with|a h b=>obtain⟨c,j,rfl⟩:=pd p;let⟨g,u,k⟩:=OJ d j a;exists g,u;(let i:q.tmps.getD f ee=.pointer (Q ⟨c.1,b,Z⟩):=by rw[qV,m];rfl);simp[B5,i];simp[asAddr,k]|_=>cases a
def Yp(b:aZ s r w z x)(a:iS w t n q.tmps):∀{h g},hX y t z h=Q g->∃j,bm w g=Q j/\(h.mapM<|B5 q.tmps).run y x=.ok j x|[],c,f=>by simp[hX]at f;cases f;exists[],J|u::f,d,c=>by simp[hX]at c;cases d:BX y t z u with|none=>cases d▸c|some v=>rw[d]at c;cases e:hX y t z f with|none=>cases e▸c|some g=>cases e▸c;let⟨i,o,l⟩:=anx b a d;let⟨k,p,m⟩:=Yp b a e;exists i::k,jK.2 ⟨i,k,o,p,J⟩;rw[asN,fN,l];simp only[hF];rw[fN,m];rfl
def BY{b a}(e:aZ s r w z x)(d:iS w t n q.tmps)(c:hX y t z (aG b.results)=Q a):∃h,aT w (dL a)=Q h/\(uo b q.tmps).run y x=.ok h x:=by
 let⟨m,f,j⟩:=Yp e d c;let k:(b.results.mapM<|B5 q.tmps).run y x=.ok (E m) x:=by rw[aaV,<-bind_pure_comp,fN,j];rfl
 rw[anA,fN,k];simp only[hF,jt];obtain _|⟨v,a⟩:=a;simp only[bm]at f;cases f;exists _,J;obtain⟨i,c,l,g,rfl⟩:=jK.1 f;cases a with|nil=>simp only[bm]at g;cases g;exists i,l|cons b a=>obtain⟨o,p,u,a,rfl⟩:=jK.1 g;refine⟨.tuple<|E<|i::o::p,by simp only[dL,aT];rw[f];rfl,?_⟩;rw[dif_neg az]
def Es:∀(g)(f e)(v),aO (kJ f g) e=Q v->f<=e/\g[e-f]?=Q v|[],_,_,_,j=>by simp[kJ,OX]at j|n::k,c,b,v,a=>by simp[kJ,cT]at a;cases d:aw b c with|true=>rw[d]at a;have h:=b8 d;subst h;cases a;simp|false=>rw[d]at a;have⟨l,m⟩:=Es k (c+1) b v a;exists L;have i:b-c=(b-(c+1))+1:=L;rwa[i,PW]
def ag5{d b c}(a:He y d=Q (b,c)):y.funcs[d]?=Q b/\b.body=Q c:=by rw[He]at a;split at a;rename_i g e;split at a;rename_i f h;cases a;exists e;cases a;cases a
def aha{f d}(i:fc y)(g:G2 y f)(h:wA y d)(j:rv y o){c b e}(a:O1 y f d o c b z=Q e):jH y (.b c b z) e:=by unfold O1 at a;cases ha:f c with|some n=>rw[ha]at a;simp at a;(cases l:n b z with|none=>cases l▸a|some m=>let⟨v,t⟩:=m;cases l▸a;exact g c n b z v t ha l)|none=>rw[ha]at a;simp at a;cases k:He y c with|none=>cases k▸a|some m=>let⟨t,hf⟩:=m;rw[k]at a;simp at a;let⟨he,g⟩:=ag5 k;cases q:cY (Y b) t.ntmps with|false=>cases q▸a|true=>rw[q]at a;simp[b4]at a;(have hl:∀(n)(l)(k)(m u)(hb),(n=.a\/n=.c)->o (.a N t.ntmps hf (kJ 0 b) [] z)=Q (.a n l k m)->li d k m=Q u->hX y l u (aG t.results)=Q hb->jH y (.b c b z) (.b (dL hb) u):=λn l k m u hb hd f q hc=>by have hj:=j _ _ f;refine⟨⟨t,he,by rw[g];rfl⟩,λs r w x j hi hg=>?_⟩;refine callsIn_of_wp_marks he g C ?_;(have he:b0 t.ntmps {tmps:=E j++Array.replicate (t.ntmps-aj j.toArray) ee,defers:=[]} (kJ 0 b) [] w:=by refine⟨⟨by simp[vS];omega,λg v j=>?_⟩,J⟩;let⟨_,j⟩:=Es b 0 g v j;let⟨g,ha,hh⟩:=sK hg j;refine⟨g,hh,?_⟩;rw[xS (by simpa using (bc.1 ha).1)];simpa using ha);refine ia (hj Z s r w x _ J hi he) ?_;rintro j he hm⟨rfl,hi,hj,hk,hg⟩;(have hh:LeavesInM (bt Z) 0 y t he.tmps (λn p=>∃g j,n=.returned g/\fo z.f u.f w j/\aT j (dL hb)=Q g/\aZ s r j u p) he.defers .returning hm:=by refine xb i h k q hk hg.d λhe j=>?_;let⟨g,ha,i⟩:=BY j hg.b hc;exact⟨g,i,g,hi,J,by rw[NH q];exact hj,ha,j⟩);obtain rfl|rfl:=hd;exact hh;exact hh);(have h:∀(n)(l)(k)(m),(n=.a\/n=.c)->o (.a N t.ntmps hf (kJ 0 b) [] z)=Q (.a n l k m)->I0 y l (aG t.results) (li d k m)=Q e->jH y (.b c b z) e:=λn l k m hd f q=>by cases hc:li d k m with|none=>cases hc▸q|some u=>rw[hc]at q;simp[I0]at q;cases b:hX y l u (aG t.results)with|none=>cases b▸q|some hb=>cases b▸q;exact hl n l k m u hb hd f hc b);unfold UM at a;split at a;rename_i l k m f;exact h .a l k m (.inl J) f a;rename_i l k m f;exact h .c l k m (.inr J) f a;cases a
end
def aoX(b:aD)(c:Dw)(d:cV->aJ)(e:fG->aJ->Ds)(a:fG):fG|.a f n l h g o=>Cc b a (e a f) f n h g o l|.b m i p=>O1 b c d a m i p|.c k j q=>O2 a k j q
def OH(a:aD)(b:Dw)(c:cV->aJ)(d:fG->aJ->Ds)(e:Nat):fG:=Nat.rec (λ_=>Z) (λ_ f=>aoX a b c d f) e
def OK{a c d e}(b:fc a)(f:G2 a c)(g:wA a d)(h:∀k,rv a k->LU a (e k)):∀l,rv a (OH a c d e l)|0=>nofun|m+1=>λn w j=>by let i:=OK b f g h m;cases n with|a x v t p o y=>exact ahL b i (h _ i) j|b u q z=>exact aha b f g i j|c s r a=>exact anI i j
structure ve(m:Nat->qn)(l:Nat->Nat->Bool)(v:aA)(t:Nat):Prop where
 h:∀i k u,l i k=K->l k u=K->l i u=K
 d:∀i k,l i k=K->k<i
 b:∀i j q n w x,m i=.a q n->m j=.a w x->j<i->l i j=K
 g:∀i q n k r o,m i=.a q n->m k=.b r o->l i k=N->n.a r=Z
 e:∀i p o s q n,m i=.c p o->m s=.a q n->l i s=N->l s i=N->q.a p=n.a p
 a:∀i p o k y,m i=.c p o->m k=.b p y->l i k=K
 c:∀k r o,m k=.b r o->r=t+k
 f:∀k,v.a (t+k)=Z
def mr(c:Nat->qn)(a:Nat->Nat->aJ)(d:Nat->aJ)(b:Nat):Prop:=∃e f g,c e=.a f g/\d e=K/\a e b=K
def GW(a:Nat->qn)(d:aA)(b:Nat->aJ)(c:aA):Prop:=(∃e h,a e=.a h c/\b e=K/\∀f j l,a f=.a j l->b f=K->f<=e)\/((∀g i k,a g=.a i k->b g=N)/\c=d)
def yr(a:Nat->qn)(d:Nat->Nat->aJ)(b:Nat->aJ)(f:aA)(c:Nat)(e:P):Prop:=(∃g,a g=.b c e/\b g=K/\¬mr a d b g)\/((∀h i,a h=.b c i->b h=K->mr a d b h)/\f.a c=Q e)
def g6(a:Nat->qn)(e:Nat->Nat->aJ)(d:aA)(b:Nat->aJ)(c:aA):Prop:=∃f,GW a d b f/\c.f=f.f/\∀g h,c.a g=Q h↔yr a e b f g h
section
variable{x:Nat->qn}{y:Nat->Nat->aJ}{w:aA}{u:Nat}{z t:Nat->aJ}
def BB(a:∀h s u,x h=.a s u->z h=t h){b c}(d:GW x w z b)(e:GW x w t c):b=c:=by obtain⟨i,v,g,k,m⟩|⟨o,rfl⟩:=d<;>obtain⟨j,y,f,l,n⟩|⟨p,rfl⟩:=e;have:=Nat.le_antisymm (n i _ _ g<|a _ _ _ g▸k) (m j _ _ f<|a _ _ _ f▸l);subst this;rw[g]at f;cases f;rfl;have:=p i _ _ g;rw[<-a _ _ _ g,k]at this;cases this;have:=o j _ _ f;cases l▸a _ _ _ f▸this;rfl
def qE(b:∀d g i,x d=.a g i->z d=t d){a}(c:mr x y z a):mr x y t a:=by let⟨k,h,j,e,f,l⟩:=c;exists k,h,j,e,b _ _ _ e▸f
def wz(y:Nat->Nat->aJ)(z:Nat->aJ):Prop:=∀b a,z b=K->y b a=K->z a=K
def Mr(d:ve x y w u){b c e g h}(f:x b=.b e g)(a:x c=.b e h):b=c/\g=h:=by
 let i:=d.c _ _ _ f;let j:=d.c _ _ _ a;have:b=c:=L
 subst this;cases f▸a;exists J
def WU(c:ve x y w u){b a e h}(f:GW x w z b)(d:x a=.b e h)(g:¬mr x y z a):b.a e=Z:=by
 obtain⟨i,m,k,l,_⟩|⟨_,rfl⟩:=f;cases j:y i a;exact c.g _ _ _ _ _ _ k d j;exact aE ⟨i,m,b,k,l,j⟩ g
 rw[c.c _ _ _ d];exact c.f a
def Vy(b:ve x y w u){a g h}(c:x a=.a g h)(f:wz y z)(d:z a=N)(e:∀n,y a n=K->z n=K):∀i o p,x i=.a o p->y a i=z i:=λi o p m=>by cases k:y a i with|true=>exact(e i k).symm|false=>cases l:z i with|false=>rfl|true=>obtain j|j|j:=J5 i a;cases b.b _ _ _ _ _ _ c m j▸k;rw[j,d]at l;cases l;have:=f i a l<|b.b _ _ _ _ _ _ m c j;cases d▸this
def air(e:ve x y w u){b a c d}(h:x b=.a a c)(j:g6 x y w (y b) a)(k:g6 x y w z d)(g:wz y z)(i:z b=N)(f:∀r,y b r=K->z r=K):(∀m t,a.a m=Q t->d.a m=Q t)/\a.f=d.f:=by let⟨o,l,p,m⟩:=j;let⟨q,o,r,j⟩:=k;let q:=Vy e h g i f;have d:=BB q l o;subst d;refine⟨λn v k=>(j n v).2 ?_,p▸r▸J⟩;obtain⟨s,g,i,h⟩|⟨t,l⟩:=(m n v).1 k;exact .inl ⟨s,g,f s i,λb=>h<|qE (λn a c f=>(q n a c f).symm) b⟩;refine .inr ⟨λc v a s=>?_,l⟩;by_cases p:mr x y z c;exact p;have:=WU e o a p;cases this▸l
def jp(z:Nat->aJ)(a:Nat):Nat->aJ:=λb=>z b||aw b a
def Yc{c b}(a:jp z c b=K):z b=K\/b=c:=by rw[jp,lu]at a;exact a.imp id<|λa=>b8 a
def Ol{c a}(b:z a=K):jp z c a=K:=by rw[jp,b];rfl
def vy(z)(a):jp z a a=K:=by rw[jp,cF];simp
def vx{b a}(c:a≠b):jp z b a=z a:=by rw[jp,lJ c];simp
def ana(c:wz y z){a}(b:∀e,y a e=K->z e=K):wz y (jp z a):=λi f h d=>by obtain g|rfl:=Yc h;exact Ol<|c i f g d;exact Ol<|b f d
def aiq(d:ve x y w u){a c e g f}(b:x a=.a c e)(k:g6 x y w (y a) c)(l:g6 x y w z g)(m:g6 x y w (jp z a) f)(i:wz y z)(j:z a=N)(h:∀o,y a o=K->z o=K):f.f=e.f/\∀n p,f.a n=Q p->e.a n=Q p\/(c.a n=Z/\g.a n=Q p):=by
 let⟨v,hc,f,ha⟩:=k;let⟨q,k,s,hb⟩:=l;let⟨f,q,hd,s⟩:=m;let l:=Vy d b i j h;have m:f=e:=by obtain⟨h,j,t,v,r⟩|⟨e,_⟩:=q;let g:=r a _ _ b<|vy z a;obtain r|rfl:=Yc v;let g:=l _ _ _ t;have:=d.d _ _ (r▸g);omega;cases b▸t;rfl;have:=e a _ _ b;rw[vy]at this;cases this
 subst m;refine⟨hd,λn p e=>?_⟩;obtain⟨o,q,g,i⟩|⟨_,e⟩:=(s n p).1 e;right;let h:y a o=N:=by cases s:y a o;rfl;exact aE ⟨a,c,f,b,vy z a,s⟩ i
 let t:o≠a:=λr=>by cases b▸r▸q
 let b:z o=K:=by rwa[vx t]at g
 let a:¬mr x y z o:=λ⟨t,j,r,m,f,s⟩=>i ⟨t,j,r,m,Ol f,s⟩;refine⟨?_,(hb n p).2<|.inl ⟨o,q,b,a⟩⟩;cases p:c.a n with|none=>rfl|some c=>obtain⟨i,o,v,_⟩|⟨_,b⟩:=(ha n c).1 p;cases v▸(Mr d q o).1▸h;have c:=BB l hc k;subst c;cases WU d k q a▸b
 exact .inl e
def Wf{a c}(e:∀f k,x a≠.a f k)(d:∀l u,x a≠.b l u)(b:g6 x y w z c):g6 x y w (jp z a) c:=by let⟨c,m,n,l⟩:=b;let f:∀j g o,x j=.a g o->jp z a j=z j:=λg h p v=>vx<|λg=>e h p<|g▸v;let g:∀i r v,x i=.b r v->jp z a i=z i:=λj s i h=>vx<|λe=>d s i<|e▸h;let h:∀r,mr x y (jp z a) r↔mr x y z r:=λp=>⟨qE f,qE<|λd e q a=>(f d e q a).symm⟩;refine⟨c,?_,n,λa o=>?_⟩;obtain⟨d,i,k,q,j⟩|⟨r,rfl⟩:=m;exact .inl ⟨d,i,k,f _ _ _ k▸q,λe m t p s=>j e m t p<|f _ _ _ p▸s⟩;exact .inr ⟨λk j n q=>f _ _ _ q▸r k j n q,J⟩;rw[l a o,yr];constructor;rintro(⟨s,l,p,k⟩|⟨f,c⟩);exact .inl ⟨s,l,g _ _ _ l▸p,λb=>k<|(h s).1 b⟩;exact .inr ⟨λt a m u=>(h t).2<|f t a m<|g _ _ _ m▸u,c⟩;rintro(⟨u,n,t,o⟩|⟨i,d⟩);exact .inl ⟨u,n,g _ _ _ n▸t,λb=>o<|(h u).2 b⟩;exact .inr ⟨λv c o b=>(h v).1<|i v c o<|g _ _ _ o▸b,d⟩
def ai5(g:ve x y w u){a e c f}(d:x a=.b e c)(h:wz y z)(i:z a=N)(j:e<bi)(b:g6 x y w z f):g6 x y w (jp z a) (f.c e<|Q c):=by
 let⟨o,t,r,s⟩:=b;let l:∀q k m,x q=.a k m->jp z a q=z q:=λm n v k=>vx (λp=>by cases d▸p▸k);let k:∀n,mr x y (jp z a) n↔mr x y z n:=λm=>⟨qE l,qE<|λv n p m=>(l v n p m).symm⟩;let m:¬mr x y z a:=λ⟨p,ha,hb,q,n,v⟩=>by have:=h p a n v;cases i▸this
 refine⟨o,?_,r,λn hd=>?_⟩;obtain⟨q,ha,r,p,i⟩|⟨o,rfl⟩:=t;exact .inl ⟨q,ha,r,l _ _ _ r▸p,λhc t hb h v=>i hc t hb h<|l _ _ _ h▸v⟩;exact .inr ⟨λr h q i=>l _ _ _ i▸o r h q i,J⟩;rw[f.b j];by_cases o:n=e;subst o;rw[aC J,yr];constructor;intro j;cases j;exact .inl ⟨a,d,vy z a,λb=>m<|(k a).1 b⟩;rintro(⟨f,e,_,_⟩|⟨r,_⟩);rw[(Mr g d e).2];exact aE ((k a).1<|r a c d<|vy z a) m;rw[ak o,s n hd];let m:∀p e,x p=.b n e->jp z a p=z p:=λa g s=>vx (λl=>by cases d▸l▸s;exact o J);constructor;rintro(⟨d,t,f,a⟩|⟨s,l⟩);exact .inl ⟨d,t,m _ _ t▸f,λb=>a<|(k d).1 b⟩;exact .inr ⟨λe c v g=>(k e).2<|s e c v<|m _ _ v▸g,l⟩;rintro(⟨f,a,h,d⟩|⟨t,q⟩);exact .inl ⟨f,a,m _ _ a▸h,λb=>d<|(k f).2 b⟩;exact .inr ⟨λg c b j=>(k g).1<|t g c b<|m _ _ b▸j,q⟩
def anr(d:ve x y w u)(i:∀z,∃hj,g6 x y w z hj)(j:∀r n o,x r=.a n o->g6 x y w (y r) n){c a:Nat}{b:P}{h:aA}(e:x c=.c a b)(g:g6 x y w (y c) h)(f:h.a a=Q b):∀(m)(z)(hj),(∀k n o,x k=.a n o->z k=K->k<m)->(∀l,y c l=K->z l=K)->(∀k v n o ha hb,x k=.a n o->x v=.a ha hb->k<v->z v=K->z k=K)->(∀r n o,x r=.a n o->z r=K->y c r=N->n.a a=o.a a)->g6 x y w z hj->hj.a a=Q b:=λm=>by induction m with|zero=>intro z hj hh hg hu hw hp;let⟨h7,h0,_,hz⟩:=g;let⟨hr,hn,_,hm⟩:=hp;(let he:∀k n o,x k=.a n o->y c k=z k:=λk n o p=>by cases h:z k with|true=>have:=hh k n o p h;omega|false=>cases hd:y c k with|false=>rfl|true=>cases hg k hd▸h);have hx:=BB he h0 hn;subst hx;apply(hm a b).2;obtain⟨l,s,h,h1⟩|⟨hl,ho⟩:=(hz a b).1 f;exact .inl ⟨l,s,hg l h,λhi=>h1<|qE (λk n o p=>(he k n o p).symm) hi⟩;exact .inr ⟨λl hc s _=>qE he<|hl l hc s<|d.a _ _ _ _ _ e s,ho⟩|succ m h5=>intro z hj hh hg hu hw hp;by_cases h3:∃n o,x m=.a n o/\z m=K/\y c m=N;let⟨n,o,s,h,ht⟩:=h3;let h4:=hw m n o s h ht;let⟨t,kb,_,h2⟩:=j m n o s;let hk:=λl=>z l&&!(aw l m);(let hf:∀l,l≠m->hk l=z l:=λl s=>by show(z l&&!(aw l m))=z l;rw[lJ s];simp);(let hq:hk m=N:=by show(z m&&!(aw m m))=N;rw[cF];simp);let⟨q,hv⟩:=i hk;let h8:=h5 hk q (λk ha hb p i=>by(have t:k≠m:=λr=>by cases hq▸r▸i);have:=hh k ha hb p<|hf k t▸i;omega) (λl q=>by(have t:l≠m:=λr=>by cases ht▸r▸q);rw[hf l t];exact hg l q) (λk v kd ke hy h6 p hs kc i=>by(have t:v≠m:=λr=>by cases hq▸r▸i);have j:z v=K:=hf v t▸i;have:=hh v hy h6 hs j;rw[hf k L];exact hu k v kd ke hy h6 p hs kc j) (λr ha hb ka i h9=>by(have t:r≠m:=λhs=>by cases hq▸hs▸i);exact hw r ha hb ka (hf r t▸i) h9) hv;let⟨j,ka,_,h9⟩:=hv;let⟨hr,hn,_,hm⟩:=hp;(have he:∀k ha hb,x k=.a ha hb->y m k=hk k:=λk ha hb p=>by by_cases t:k=m;subst t;rw[hq];(cases hd:y k k;rfl;have:=d.d _ _ hd;omega);rw[hf k t];cases j:z k with|true=>exact d.b _ _ _ _ _ _ s p (by have:=hh k ha hb p j;omega)|false=>cases hd:y m k with|false=>rfl|true=>cases hu k m _ _ _ _ p s (d.d _ _ hd) h▸j);(have h6:hr=o:=by obtain⟨hs,ha,hy,i,hv⟩|⟨kc,_⟩:=hn;have kd:=hv m _ _ s h;have kd:=hh hs _ _ hy i;have:hs=m:=L;subst this;cases s▸hy;rfl;have:=kc m _ _ s;cases h▸this);subst h6;have hs:=BB he kb ka;subst hs;(have hy:∀l hc,x l=.b a hc->y c l=K/\z l=K/\hk l=K:=λl hc q=>by have hk:=d.a _ _ _ _ _ e q;have hs:=hg l hk;exact⟨hk,hs,hf l (λr=>by cases s▸r▸q)▸hs⟩);apply(hm a b).2;obtain⟨l,q,i,hv⟩|⟨hl,ho⟩:=(h9 a b).1 h8;(cases hs:y m l;refine .inl ⟨l,q,(hy l b q).2.1,λ⟨k,ha,hb,p,j,hd⟩=>?_⟩;by_cases t:k=m;rw[t,hs]at hd;cases hd;exact hv ⟨k,ha,hb,p,hf k t▸j,hd⟩;have hk:=(h2 a b).2<|.inl ⟨l,q,hs,λhi=>hv<|qE he hi⟩;refine .inr ⟨λh8 h9 h6 _=>?_,h4▸hk⟩;rw[(Mr d h6 q).1];exists m,n,hr,s,h);have hs:=λl hc q=>hl l hc q (hy l hc q).2.2;have hk:n.a a=Q b:=(h2 a b).2<|.inr ⟨λl hc q _=>qE (λk n o p=>(he k n o p).symm)<|hs l hc q,ho⟩;refine .inr ⟨λl hc q _=>?_,h4▸hk⟩;let⟨k,ha,hb,p,j,hd⟩:=hs l hc q;(have t:k≠m:=λr=>by cases hq▸r▸j);exists k,ha,hb,p,hf k t▸j;by_cases hf:∃n o,x m=.a n o/\z m=K;let⟨n,o,s,h⟩:=hf;(have ht:y c m=K:=by cases hi:y c m;exact aE ⟨n,o,s,h,hi⟩ h3;rfl);let⟨h7,h0,_,hz⟩:=g;let⟨hr,hn,_,hm⟩:=hp;(have he:∀k n o,x k=.a n o->y c k=z k:=λk ha hb p=>by cases j:z k with|true=>have:=hh k ha hb p j;by_cases t:k=m;rwa[t];exact d.h _ _ _ ht<|d.b _ _ _ _ _ _ s p L|false=>cases hd:y c k with|false=>rfl|true=>cases hg k hd▸j);have hx:=BB he h0 hn;subst hx;apply(hm a b).2;obtain⟨l,q,i,h1⟩|⟨hl,ho⟩:=(hz a b).1 f;exact .inl ⟨l,q,hg l i,λhi=>h1<|qE (λk n o p=>(he k n o p).symm) hi⟩;exact .inr ⟨λl hc q _=>qE he<|hl l hc q<|d.a _ _ _ _ _ e q,ho⟩;exact h5 z hj (λk n o p h=>by have:=hh k n o p h;have:k≠m:=λr=>hf ⟨n,o,r▸p,r▸h⟩;omega) hg hu hw hp
def ann(c:ve x y w u)(l:∀z,∃b,g6 x y w z b)(o:∀r s t,x r=.a s t->g6 x y w (y r) s){a d h e i b}(g:x a=.c d e)(p:g6 x y w (y a) i)(k:i.a d=Q e)(m:∀r s ha,x r=.a s ha->r<h)(q:g6 x y w z b)(f:wz y z)(n:z a=N)(j:∀t,y a t=K->z t=K):b.a d=Q e:=anr c l o g p k h z b (λi d e t _=>m i d e t) j (λp v b s r ha k o l h=>f v p h<|c.b _ _ _ _ _ _ o k l) (λs j m e i d=>c.e _ _ _ _ _ _ g e d (by cases b:y s a with|false=>rfl|true=>have:=f s a i b;cases n▸this)) q
end
def dp(b:W ik)(a:Nat):qn:=match b[a]? with|Q c=>c.c|Z=>.d
def gl(c:W Nat)(a b:Nat):aJ:=ic (lm c a) b
def rL(a)(b):dp (a::b) 0=a.c:=rfl
def Io(j):dp [] j=.d:=by simp[dp]
section
variable{z:Nat->aJ}{y:W Nat}
def IB(z:Nat->aJ)(b:Nat)(a:aA):qn->aA|.a _ c=>bif z b then c else a|_=>a
def ajA(b)(d)(a)(c):BA z (b::d) a c=BA z d (a+1) (IB z a c b.c):=by let⟨g,f,v,e⟩:=b;cases e<;>rfl
def WS:∀(b)(a)(e),(∃j c,dp b j=.a c (BA z b a e)/\z (a+j)=K/\∀h k v,dp b h=.a k v->z (a+h)=K->h<=j)\/((∀j f q,dp b j=.a f q->z (a+j)=N)/\BA z b a e=e)|[],y,x=>.inr ⟨(λj a d i=>by cases i),J⟩|m::n,d,o=>by rw[ajA];obtain⟨j,g,r,x,v⟩|⟨w,q⟩:=WS n (d+1) (IB z d o m.c);refine .inl ⟨j+1,g,r,by rw[<-x];congr 1;omega,λa o c t y=>?_⟩;(obtain _|b:=a;omega;have:=v b o c t (by rw[<-y];congr 1;omega);omega);rw[q];(let g:∀j h r,dp n j=.a h r->z (d+(j+1))=N:=λj i s p=>by rw[<-w j i s p];congr 1;omega);cases k:m.c with|a p b=>(cases c:z d with|true=>refine .inl ⟨0,p,by rw[rL,k];simp[IB,c],by simpa using c,λd n w u l=>?_⟩;(cases d with|zero=>omega|succ e=>cases g e n w u▸l)|false=>refine .inr ⟨λj l t s=>?_,by simp[IB,c]⟩;obtain _|j:=j;simpa using c;exact g j l t s)|_=>refine .inr ⟨λj m u f=>?_,J⟩;obtain _|j:=j;rw[rL,k]at f;cases f;exact g j m u f
def akv(b)(d)(c)(a):ir z y b (d::c) a=(match d.c with|.a _ _=>(z a&&ic (lm y a) b)||ir z y b c (a+1)|_=>ir z y b c (a+1)):=by let⟨i,f,v,e⟩:=d;cases e with|a g h=>show cond (z a&&ic (lm y a) b) K (ir z y b c<|a+1)=_;cases(z a&&ic (lm y a) b)<;>rfl|_=>rfl
def Xi(a):∀(p)(g),ir z y a p g=K↔∃j b c,dp p j=.a b c/\z (g+j)=K/\gl y (g+j) a=K|[],t=>by constructor;intro t;cases t;rintro⟨j,u,v,i,_⟩;cases i|o::h,b=>by rw[akv];let c:=Xi a h<|b+1;(let n:(∃j d p,dp h j=.a d p/\z (b+1+j)=K/\gl y (b+1+j) a=K)->∃j e q,dp (o::h) j=.a e q/\z (b+j)=K/\gl y (b+j) a=K:=λ⟨j,h,r,a,k,x⟩=>by let q:b+1+j=b+(j+1):=L;rw[q]at k x;exists j+1,h,r,a,k);cases g:o.c with|a m l=>rw[lu,cQ];constructor;rintro(⟨w,s⟩|u);exists 0,m,l,by rwa[rL],w;exact n<|c.1 u;rintro⟨j,i,o,f,d,e⟩;(cases j with|zero=>exact .inl ⟨d,e⟩|succ j=>let r:b+(j+1)=b+1+j:=L;rw[r]at d e;exact .inr<|c.2 ⟨j,i,o,f,d,e⟩)|_=>constructor;exactλv=>n<|c.1 v;rintro⟨j,k,n,f,l,m⟩;cases j with|zero=>rw[rL,g]at f;cases f|succ j=>let s:b+(j+1)=b+1+j:=L;rw[s]at l m;exact c.2 ⟨j,k,n,f,l,m⟩
def Wm(b)(e)(d)(a)(c):yV z y b (e::d) a c=(match e.c with|.b g h=>bif z a&&!(ir z y a b 0)then(yV z y b d (a+1) c).c g (Q h)else yV z y b d (a+1) c|_=>yV z y b d (a+1) c):=by let⟨j,i,v,f⟩:=e;cases f<;>rfl
def Wo(a):∀(h)(f)(d),(yV z y a h f d).f=d.f|[],l,j=>rfl|g::i,b,e=>by rw[Wm];let c:=Wo a i (b+1) e;cases k:g.c with|b m n=>simp;(cases(z b&&!(ir z y b a 0));exact c;exact c)|_=>exact c
def Wn(a)(b):∀(p)(i)(c),(∀j v d,dp p j=.b v d->v=b+(i+j)/\v<bi)->∀o x,(yV z y a p i c).a o=Q x↔((∃j,dp p j=.b o x/\z (i+j)=K/\ir z y (i+j) a 0=N)\/((∀j f,dp p j=.b o f->z (i+j)=K->ir z y (i+j) a 0=K)/\c.a o=Q x))|[],k,c,_,t,g=>by constructor;exactλm=>.inr ⟨(λj n k=>by cases k),m⟩;rintro(⟨j,l,_⟩|⟨_,n⟩);cases l;exact n|k::e,c,q,t,d,f=>by(have r:∀j w h,dp e j=.b w h->w=b+(c+1+j)/\w<bi:=λj g i n=>by have:=t (j+1) g i n;exact⟨by omega,this.2⟩);have n:=Wn a b e (c+1) q r d f;rw[Wm];have g:∀j,c+1+j=c+(j+1):=λj=>L;(have s:((∃j,dp e j=.b d f/\z (c+1+j)=K/\ir z y (c+1+j) a 0=N)↔∃j,dp (k::e) (j+1)=.b d f/\z (c+(j+1))=K/\ir z y (c+(j+1)) a 0=N):=by constructor;rintro⟨j,h,u,i⟩;exact⟨j,h,by rwa[<-g],by rwa[<-g]⟩;rintro⟨j,l,x,m⟩;exact⟨j,l,by rwa[g],by rwa[g]⟩);(have u:((∀j b,dp e j=.b d b->z (c+1+j)=K->ir z y (c+1+j) a 0=K)↔∀j m,dp (k::e) (j+1)=.b d m->z (c+(j+1))=K->ir z y (c+(j+1)) a 0=K):=by constructor;intro x j o m b;rw[<-g];exact x j o m (by rwa[g]);intro b j p o h;rw[g];exact b j p o (by rwa[<-g]));(have m:(∀r,dp (k::e) 0=.b d r->z c=K->ir z y c a 0=K)->(((∃j,dp e j=.b d f/\z (c+1+j)=K/\ir z y (c+1+j) a 0=N)\/((∀j v,dp e j=.b d v->z (c+1+j)=K->ir z y (c+1+j) a 0=K)/\q.a d=Q f))↔((∃j,dp (k::e) j=.b d f/\z (c+j)=K/\ir z y (c+j) a 0=N)\/((∀j w,dp (k::e) j=.b d w->z (c+j)=K->ir z y (c+j) a 0=K)/\q.a d=Q f))):=λb=>by constructor;rintro(r|⟨r,x⟩);let⟨j,p,q,v⟩:=s.1 r;exact .inl ⟨j+1,p,q,v⟩;refine .inr ⟨λj v o q=>?_,x⟩;(obtain _|j:=j;exact b v o q;exact u.1 r j v o q);rintro(⟨j,e,h,i⟩|⟨g,l⟩);(cases j with|zero=>have:=b f e h;cases (show ir z y c a 0=N from i)▸this|succ j=>exact .inl<|s.2 ⟨j,e,h,i⟩);exact .inr ⟨u.2 λj e s w=>g (j+1) e s w,l⟩);cases l:k.c with|b r w=>simp;have u:=t 0 r w (by rwa[rL]);(cases h:(z c&&!(ir z y c a 0))with|false=>rw[dE,n];refine m λe q k=>?_;rw[k]at h;simpa using h|true=>rw[b4];rw[cQ]at h;(have p:ir z y c a 0=N:=by simpa using h.2);rw[aA.b _ u.2];by_cases u:d=r;subst u;rw[aC J];constructor;intro e;cases e;exact .inl ⟨0,by rwa[rL],h.1,p⟩;rintro(⟨j,s,_,_⟩|⟨i,_⟩);have:=(t j d f s).1;have t:j=0:=L;subst t;rw[rL,l]at s;cases s;rfl;have:=i 0 w (by rwa[rL]) h.1;cases (show ir z y (c+0) a 0=N from p)▸this;rw[ak u,n];exact m λd a c=>by rw[rL,l]at a;cases a;exact aE J u)|d=>simp;rw[n];exact m λf d a=>by rw[rL,l]at d;cases d|c a c=>simp;rw[n];exact m λa f d=>by rw[rL,l]at f;cases f|a s t=>simp;rw[n];exact m λk g f=>by rw[rL,l]at g;cases g
def Ns{a b c}(d:∀j g i,dp a j=.b g i->g=c+j/\g<bi):g6 (dp a) (gl y) b z (tM z y a b):=by
 let i:∀k,ir z y k a 0=K↔mr (dp a) (gl y) z k:=λs=>by rw[Xi];constructor;rintro⟨j,w,e,n,h,p⟩;rw[eK]at h p;exists j,w,e,n,h;rintro⟨j,x,f,o,m,r⟩;exact⟨j,x,f,o,by rwa[eK],by rwa[eK]⟩
 let s:∀l,ir z y l a 0=N↔¬mr (dp a) (gl y) z l:=λv=>by rw[<-i v];simp
 refine⟨BA z a 0 b,?_,Wo a a 0 _,λm v=>?_⟩;obtain⟨j,g,e,f,q⟩|⟨e,f⟩:=WS a 0 b;exact .inl ⟨j,g,e,by rwa[eK]at f,λp h n t u=>q p h n t (by rwa[eK])⟩;exact .inr ⟨λq b k u=>by have:=e q b k u;rwa[eK]at this,f⟩;rw[tM,Wn a c a 0 _ (λj l o r=>by rw[eK];exact d j l o r) m v,yr];simp[s,i]
def ajs{c d b e f}(a:∀i,z i=K->c i=d i)(g:g6 c b e z f):g6 d b e z f:=by
 let⟨e,s,v,k⟩:=g;let h:∀y,mr c b z y↔mr d b z y:=λw=>by constructor;rintro⟨b,f,m,x,p,r⟩;exists b,f,m,a b p▸x,p;rintro⟨c,g,n,y,q,t⟩;exists c,g,n,a c q▸y,q
 refine⟨e,?_,v,λf u=>?_⟩;obtain⟨o,i,j,r,t⟩|⟨w,rfl⟩:=s;exact .inl ⟨o,i,a o r▸j,r,λd l p b x=>t d l p (a d x▸b) x⟩;refine .inr ⟨λn j o c=>?_,J⟩;cases s:z n;rfl;rw[<-s];exact w n j o<|a n s▸c
 rw[k f u,yr];constructor;rintro(⟨j,n,t,r⟩|⟨g,d⟩);exact .inl ⟨j,a j t▸n,t,λl=>r<|(h j).2 l⟩;exact .inr ⟨λk q o u=>(h k).1<|g k q (a k u▸o) u,d⟩;rintro(⟨l,p,v,u⟩|⟨i,e⟩);exact .inl ⟨l,a l v▸p,v,λm=>u<|(h l).1 m⟩;exact .inr ⟨λm k q w=>(h m).2<|i m k (a m w▸q) w,e⟩
end
def Zl(b c a:Nat):ic (J3 b c) a=(ic b a||ic c a):=Nat.testBit_or b c a
def Us(b)(a):∀l:W vY,ic (tI b l) a=K↔∃f∈l,hY .any f=K/\(a=f.on\/ic ((jN b f.on).getD 0) a=K)|[]=>by simp[tI]|c::e=>by let k:=Us b a e;let x:tI b (c::e)=bif hY .any c then J3 (J3 (Nat.pow 2 c.on)<|(jN b c.on).getD 0) (tI b e)else tI b e:=rfl;rw[x];cases i:hY .any c with|false=>rw[dE,k];constructor;rintro⟨m,q,y⟩;exists m,i3 _ q;rintro⟨n,r,h,b⟩;obtain rfl|s:=cB.1 r;rw[i]at h;cases h;exists n,s,h|true=>rw[b4,Zl,Zl,lu,lu,k];(let j:ic (Nat.pow 2 c.on) a=K↔a=c.on:=by show ic (2^c.on) a=K↔a=c.on;rw[Nat.testBit_two_pow];simp[eq_comm]);constructor;rintro((g|g)|⟨o,t,z⟩);exact⟨c,hI,i,.inl<|j.1 g⟩;exact⟨c,hI,i,.inr g⟩;exists o,i3 _ t;rintro⟨p,u,w,d⟩;obtain rfl|v:=cB.1 u;obtain d|d:=d;exact .inl<|.inl<|j.2 d;exact .inl<|.inr d;exact .inr ⟨p,v,w,d⟩
def agz(a:W Nat):rA [] a=a:=rfl
def agy(c)(b)(a):rA (c::b) a=rA b (a++[tI a<|aG c.after]):=rfl
def Ut:∀(c)(d),∃a,rA c d=d++a/\Y a=Y c/\∀j f,c[j]?=Q f->a[j]?=Q (tI (d++a.take j)<|aG f.after)|[],p=>⟨[],by simp[agz],J,λj q h=>by simp at h⟩|g::m,e=>by let⟨o,i,k,l⟩:=Ut m<|e++[tI e<|aG g.after];refine⟨tI e (aG g.after)::o,by rw[agy,i];simp,by simp[k],λj n b=>?_⟩;obtain _|j:=j;simp at b;subst b;simp;have:=l j n (by simpa using b);simpa using this
def Iw{a}(b:∀t v g,a[t]?=Q v->g∈aG v.after->hY .any g=K->g.on<t):(∀u k,gl (rA a []) u k=K↔∃w d,a[u]?=Q w/\d∈aG w.after/\hY .any d=K/\(k=d.on\/gl (rA a []) d.on k=K)):=by let⟨l,m,f,n⟩:=Ut a [];simp[se]at m n;intro c e;unfold gl lm;rw[m];cases e:a[c]? with|none=>let j:Y l<=c:=f▸JU.1 e;rw[xe,ix j];constructor;intro x;simp at x;rintro⟨m,k,y,_⟩;cases y|some f=>rw[xe,n c f e,FH,Us];(let s:∀h:vY,h.on<c->(jN (l.take c) h.on).getD 0=(jN l h.on).getD 0:=λl i=>by rw[xe,xe,pW,aC i]);constructor;rintro⟨i,o,q,g⟩;exact⟨f,i,J,o,q,g.imp id<|λz=>s i (b c f i e o q)▸z⟩;rintro⟨n,j,a,p,r,h⟩;cases a;exact⟨j,p,r,h.imp id<|λd=>s j (b c f j e p r)▸d⟩
def ajX{b}(a:∀f k c,b[f]?=Q k->c∈aG k.after->hY .any c=K->c.on<f):∀g i,gl (rA b []) g i=K->i<g:=λr=>by induction r using vO with|_ h s=>intro j l;let⟨t,e,m,n,o,p⟩:=(Iw a h j).1 l;let d:=a h t e m n o;obtain rfl|q:=p;exact d;exact J4 (s e.on d j q) d
def ajY{a}(b:∀j p c,a[j]?=Q p->c∈aG p.after->hY .any c=K->c.on<j):∀k l n,gl (rA a []) k l=K->gl (rA a []) l n=K->gl (rA a []) k n=K:=λv=>by induction v using vO with|_ e w=>intro m o r i;let⟨q,d,f,g,h,s⟩:=(Iw b e m).1 r;let u:=b e q d f g h;refine(Iw b e o).2 ⟨q,d,f,g,h,.inr ?_⟩;obtain rfl|t:=s;exact i;exact w d.on u m o t i
def Ur{b a}:∀{f:W b}{e},ms a e f=K->∀j g,f[j]?=Q g->a (e+j) g=K|[],k,_,j,n,h=>by simp at h|o::m,l,c,j,i,d=>by simp[ms]at c;obtain _|j:=j;simp at d;subst d;exact c.1;have:=Ur c.2 j i (by simpa using d);rw[<-this];congr 1;omega
def l4{f c b}(d:ms c 0 b=K){j}{a:f}(e:b[j]?=Q a):c j a=K:=by have:=Ur d j a e;rwa[eK]at this
section
variable{t:aD}{n:Nat}{r y p:ap}{q:W Nat}{z:bs}{x s:aA}{u:aX}{o:au}{m:W bz}{w:ah}{l:fG}
def aZ.nk(p:aZ r q z s y)(t:∀ha hc,x.a ha=Q hc->s.a ha=Q hc)(u:s.f<=x.f)(v:x.f<=bi)(w:∀hb,x.f<=hb->x.a hb=Z):aZ r q z x y:=⟨p.c,v,λhb ha=>⟨(p.d hb<|df u ha).1,w hb ha⟩,λv hc hd=>p.b v hc<|t v hc hd,λu j w ha hf hg hb he=>p.a u j w ha hf hg (t u w hb)<|t j ha he⟩
def D1(a):dT.a a=Z:=rfl
def aZ.ne(p:aZ r q z s y):aZ y [] z dT y:=⟨hK.g _ _,bd _,λw v=>⟨(p.d w<|df p.i v).1,J⟩,(λx u t=>by cases t),(λp j x ha v w u=>by cases u)⟩
def BH(z:bs)(x:aA):W Nat:=(List.range x.f).filterMap λa=>(x.a a).bind λ_=>(z a).map (·.1)
def Ix(c:aZ r q z s y)(d:∀e j,x.a e=Q j->s.a e=Q j)(b:x.f=s.f){a}:a∈BH z x↔∃g u i,x.a g=Q u/\z g=Q i/\i.1=a:=by rw[BH];simp only[us,pr,ay,b3];constructor;rintro⟨o,_,v,n,p,l,w⟩;exists o,v,p,n,l;rintro⟨h,k,t,f,m,a⟩;exists h,b▸c.k (d h k f),k,f,t,m
def aZ.nj(p:aZ r q z s y)(t:∀v w,x.a v=Q w->s.a v=Q w)(u:x.f=s.f):aZ y (BH z x) z x y:=by
 refine⟨hK.g _ _,u▸p.i,λv hb=>⟨(p.d v<|u▸hb).1,?_⟩,λv ha w=>?_,λv j hb hc he hf w hd=>p.a v j hb hc he hf (t v hb w)<|t j hc hd⟩;rcases hb:x.a v with _|hc;rfl;have:=p.k<|t v hc hb;omega
 let⟨hc,hb,hd,_⟩:=p.b v ha<|t v ha w;exact⟨hc,hb,hd,.inl<|(Ix p t u).2 ⟨v,ha,hc,w,hb,J⟩⟩
def aZ.ni(t:aZ r q z s y)(w:∀hg hh,x.a hg=Q hh->s.a hg=Q hh)(hf:x.f=s.f){ha hd he}(v:cI z ha)(u:aZ y (BH z x) ha hd p)(hc:he.f=hd.f)(hb:∀hg hh,he.a hg=Q hh->hd.a hg=Q hh\/(x.a hg=Z/\s.a hg=Q hh)):aZ r q ha he p:=by
 let ho:∀hh hi,x.a hh=Z->s.a hh=Q hi->∃hg,z hh=Q hg/\hg.1<aj y.heap/\hg.1∉BH z x/\e1 z hg hi y.heap[hg.1]?/\(hg.1∈q\/aj r.heap<=hg.1):=λhi hl hp hh=>by let⟨hk,u,hj,hg⟩:=t.b hi hl hh;refine⟨hk,u,t.nb hh u,λhq=>?_,hj,hg⟩;let⟨hj,hm,hs,hg,hr,hn⟩:=(Ix t w hf).1 hq;have:=t.a hj hi hm hl hs hk (w hj hm hg) hh hr u hn;cases hp▸this▸hg
 let hq:∀hh hi hg,hd.a hh=Q hi->ha hh=Q hg->hg.1∈BH z x\/aj y.heap<=hg.1:=λhd hj ha hh hi=>by let⟨hk,ha,_,hg⟩:=u.b hd hj hh;cases hi▸ha;exact hg
 refine⟨t.c.e u.c<|λha hp=>?_,hc▸u.i,λha hg=>⟨(u.d ha<|hc▸hg).1,?_⟩,λha hd hg=>?_,λha j hd hh hi hm hg hn hk hl hj=>?_⟩;obtain⟨ha,hr,hs,hg,ht,rfl⟩:=(Ix t w hf).1 hp;let⟨hu,hp,_,hs⟩:=t.b ha hr<|w ha hr hg;rw[ht]at hp;cases hp;exact hs;cases hp:he.a ha with|none=>rfl|some hd=>obtain he|⟨_,he⟩:=hb ha hd hp;rw[(u.d ha<|hc▸hg).2]at he;cases he;let hr:=t.k he;let hp:=u.c.a;let hp:=(u.d ha<|hc▸hg).1<|mN hr t.i;let⟨hr,hc,_⟩:=t.b ha hd he;cases v ha hr hc▸hp
 obtain hc|⟨hp,hc⟩:=hb ha hd hg;let⟨ht,hs,he,hr⟩:=u.b ha hd hc;exists ht,hs,he;obtain he|he:=hr;let⟨j,hh,hm,hn,hr,hj⟩:=(Ix t w hf).1 he;let⟨ht,hf,_,hs⟩:=t.b j hh<|w j hh hn;rw[hr]at hf;cases hf;rwa[<-hj];exact .inr<|df t.c.a he;let⟨hi,hr,he,hf,w,hs⟩:=ho ha hd hp hc;exists hi,v ha hi hr,u.c.b hi.1 he hf▸w.a v;obtain w|⟨he,w⟩:=hb ha hd hg<;>obtain hc|⟨hf,hc⟩:=hb j hh hn;exact u.a ha j hd hh hi hm w hc hk hl hj;let⟨hg,u,hn,hb,_⟩:=ho j hh hf hc;rw[v j hg u]at hl;cases hl;obtain u|u:=hq ha hd hi w hk;rw[hj]at u;exact aE u hb;omega;let⟨hf,u,hg,hb,_⟩:=ho ha hd he w;rw[v ha hf u]at hk;cases hk;obtain u|u:=hq j hh hm hc hl;rw[<-hj]at u;exact aE u hb;omega;let⟨hb,he,_⟩:=t.b ha hd w;let⟨hg,hf,_⟩:=t.b j hh hc;let u:=v ha hb he;let hb:=v j hg hf;cases hk▸u;cases hl▸hb;exact t.a ha j hd hh hi hm w hc he hf hj
def akK{v g c d}(f:aZ y [] z dT y)(e:b0 n u o m z)(a:eb t o dT w=Q v)(b:∀q p,aT z v=Q q->po (aj y.heap) y p->c (u.put w.dst q) p):w.wpIn (bt g) 0 t u y c d:=by rw[eb]at a;split at a;rename_i c x i;cases a;existsλ_ _=>C;rw[fC _ _ _<|tH i];let⟨s,l,r,j,k⟩:=sH f e i;obtain h|⟨rfl,h⟩:=r;rw[h];exact b s l j k.c.below;rw[h];exact b ee l j k.c.below;cases a
def ano{b}(a:Bz o w.op=.c b):∃g c e,w.op=.load g c/\al o c=Q (.a b e):=by
 unfold Bz at a;split at a<;>try(cases a;done)
 rename_i h i d;unfold WJ at a;split at a;rename_i j f m;cases a;exists h,i,f,d;cases a;rename_i k l;unfold WI at a;split at a<;>cases a;unfold Il at a;split at a<;>cases a;unfold Il at a;split at a<;>cases a
def anp{v c b j d e}(g:Bz o w.op=.c c)(i:aZ r q z b y)(f:b0 n u o m z)(a:eb t o b w=Q v)(h:∀k,aT z v=Q k->d (u.put w.dst k) y):w.wpIn (bt j) 0 t u y d e:=by
 let⟨e,d,s,p,x⟩:=ano g;rw[eb]at a;split at a;rename_i g d l;cases a;let j:hB t b e (Q<|.a c s)=Q (d 0):=by rw[dt,p]at l;simp[x]at l;have:=gm l;let⟨c,g,s⟩:=D2 this;cases s;exact g
 let⟨b,c,k⟩:=pd<|f.a x;let⟨b,l,e⟩:=OJ i c j;existsλ_ _=>C;rw[fC _ _ _ (λi k=>by cases p▸k)];let f:(aY u.eval w).run t y=.ok (.value b) y:=by simp[aY,p,k];simp[QB,zO,e]
 rw[f];exact h b l;cases a
def agx{v d a j c e}(i:aZ y [] z dT y)(g:b0 n u o m z)(f:z a=Z)(b:qt t o dT a w=Q (v,d))(h:∀q p k,aT (cX z a k) v=Q q->po (aj y.heap) y p->e1 (cX z a k) k d p.heap[k.1]?->aj y.heap<=k.1->c (u.put w.dst q) p):w.wpIn (bt j) 0 t u y c e:=by rw[qt]at b;split at b;rename_i r q k l;cases b;existsλ_ _=>C;rw[fC _ _ _<|tH l];let⟨j,e,d,x,c,s,r,_⟩:=sH i g l;rw[x];have:=s a f;exact h j e d this.2 c.c.below this.1<|r.elim nofun id;cases b
def aip{v b d c k i s}(x:fc t)(j:rv t l)(f:aZ r q z b y)(e:b0 n u o m z)(g:z c=Z)(ha:c<b.f)(a:II t l o b c w=Q (v,d))(h:∀hh p hb,cI z hb->b.f<=d.f->(∀hg,rq b.f hg->hg≠c->hb hg=z hg)->aT hb v=Q hh->aZ r q hb d p->i (u.put w.dst hh) p):w.wpIn (bt k) 0 t u y i s:=by
 rw[II]at a;split at a;rename_i hk hj hd;cases he:aw hk.f b.f with|false=>cases he▸a|true=>cases he▸a;have hm:=b8 he;existsλ_ _=>C;rw[fC _ _ _<|tH hd];let⟨hh,hb,s,hf,hc⟩:=sH f e hd;have hi:=h hh hb z (cI.c z) L (λ_ _ _=>rfl) hf hc;obtain s|⟨rfl,s⟩:=s;rw[s];exact hi;rw[s];exact hi
 rename_i hk hl hj hd;cases he:aw hk.f b.f with|false=>cases he▸a|true=>cases he▸a;have hm:=b8 he;existsλ_ _=>C;rw[fC _ _ _<|tH hd];let⟨hh,hb,he,s,hc,hl,hn,ho⟩:=sH f e hd;rw[s];have:=hl c g;exact h hh hb (cX z c he) (cI.b g he) (by show b.f<=hk.f;omega) (λhg _ hl=>by rw[cX,ak hl]) this.2<|hc.nc (hm▸ha) g this.1 hn ho
 rename_i g c hd;let⟨hh,hn,g,ha,c,hm⟩:=Uq hd;existsλ_ _=>C;rw[fC _ _ _ (λhk g=>by cases ha▸g)];have hd:=e.a c;have hh:=tZ e hm;have hi:∀(e)(c)(hb),fo b.f d.f z c->aT c v=Q e->aZ r q c d hb->i (u.put w.dst e) hb:=λe c hb b hf hc=>h e hb c b.1 b.2.1 (λhg hl _=>b.2.2 hg hl) hf hc;unfold D3 at a;split at a;rename_i hj d hk;have s:=j _ _<|Fa a;let⟨hg,hk,i,h,d⟩:=pc hd;rw[B4 x s.1 ha d];existsλa=>(by cases a);refine uC (s.2 r q z y _ f<|jl (jl i hh) h) ?_;rintro g hb⟨e,c,rfl,b,hf,hc⟩;exact hi e c hb b hf hc;rename_i x;have h:=hd;simp only[aT,b3]at h;let⟨he,x,d⟩:=h;let⟨hj,hg,i,j,hd,h⟩:=(j _ _<|Fa a) r q z y _ he f hh x;have f:(aY u.eval w).run t y=(FP he.1<|hn.map u.eval).run t y:=by simp[aY,ha,i1,vX,<-d,iH]
 rw[f,<-yZ,hd];existsλa=>(by cases a);refine PG (show Fm (bt k) (0-1) t he.1 hj hg i j y _ from h) ?_;rintro g hb⟨e,c,rfl,b,hf,hc⟩;exact hi e c hb b hf hc;cases a;cases a
end
