/- What is proved here: What is told here: how code is gone thro -/
import Derived.Test.YtpofmnfkdkmieaaGreatQ02
set_option linter.unusedVariables false
set_option linter.unusedSimpArgs false
namespace Go.Proofs.YtpofmnfkdkmieaaGreat
namespace S
open Go Go.RowKit E
/-! ### Operations -/
/-- What needs no world. -/
def Wj (P:Program) {α:Type}:Sem α->Option α
 | .pure a=>some a
 | .program k=>Wj P (k P)
 | .mark _ k=>Wj P k
 | _=>none
def ofV:Value->SV
 | .agg cs=>.agg (cs.toList.map SV.v)
 | .tuple cs=>.tup (cs.toList.map SV.v)
 | x=>.v x
def nob:Nm:=fun _=>none
noncomputable def clo:SV->Option Value
 | .v x=>some x
 | y=>den nob y
noncomputable def clov (E:SE) (x:Operand):Option Value:=(sev E x).bind clo
noncomputable def tSize (P:Program) (t:TypeId):Option Nat:=(P.info? t).map (·.size)
def Gp:TypeDesc->Bool
 | .struct _=>true
 | .array _ _=>true
 | _=>false
noncomputable def tAgg (P:Program) (t:TypeId):Option Bool:=(P.underlying t).map Gp
noncomputable def tZero (P:Program) (t:TypeId):Option Value:=(P.info? t).bind (·.zero)
noncomputable def sput (l:List SV) (o:Nat) (c:List SV):List SV:=l.take o++c++l.drop (o+c.length)
noncomputable def svCells:SV->Option (List SV)
 | .agg l=>some l
 | .tup _=>none
 | .v x=>bif x.oneCell' then some [.v x] else none
 | x=>some [x]
noncomputable def sOne:SV->Bool
 | .agg _=>false
 | .tup _=>false
 | .v x=>x.oneCell'
 | _=>true
def Mw {α:Type} (v:Option α) (l:Option (List α)):Option (List α):=Option.casesOn v none (fun v=>Option.casesOn l none (fun l=>some (v::l)))
theorem Tu {α:Type} {v:Option α} {l:Option (List α)} {r:List α} (h:Mw v l=some r):∃ x m,v=some x/\l=some m/\r=x::m:=by
 cases v with
 | none=>cases h
 | some x =>
  cases l with
  | none=>cases h
  | some m=>cases h;exact ⟨x,m,J,J,J⟩
noncomputable def sargs (E:SE) (l:List Operand):Option (List SV):=List.rec (some []) (fun x _ ih=>Mw (sev E x) ih) l
theorem Ck (E:SE):sargs E []=some []:=rfl
theorem H4 (E:SE) (x:Operand) (r:List Operand):sargs E (x::r)=Mw (sev E x) (sargs E r):=rfl
noncomputable def sparts (E:SE) (l:List (Nat × Operand)):Option (List (Nat × SV)):=List.rec (some []) (fun x _ ih=>Mw ((sev E x.2).map fun v=>(x.1,v)) ih) l
theorem H3 (E:SE):sparts E []=some []:=rfl
theorem Jq (E:SE) (x:Nat × Operand) (r:List (Nat × Operand)):sparts E (x::r)=Mw ((sev E x.2).map fun v=>(x.1,v)) (sparts E r):=rfl
noncomputable def sfill (place:Nat->Option (Nat × Nat)) (cells:List SV):List (Nat × SV)->Option (List SV)
 | []=>some cells
 | (i,v)::rest=>match place i,svCells v with
  | some (off,size),some c=>bif Nat.beq c.length size&&Nat.ble (off+c.length) cells.length then sfill place (sput cells off c) rest else none
  | _,_=>none
noncomputable def szrow (z:List SV):Nat->List SV
 | 0=>[]
 | k+1=>z++szrow z k
noncomputable def places (P:Program):List Field->Option (List (Nat × Nat))
 | []=>some []
 | f::r=>match tSize P f.type,places P r with
  | some n,some l=>some ((f.offset,n)::l)
  | _,_=>none
noncomputable def nth {α:Type} (l:List α):Nat->Option α:=List.rec (fun _=>none) (fun x _ ih i=>cond (Nat.beq i 0) (some x) (ih (Nat.pred i))) l
theorem En {α:Type} (i:Nat):nth ([]:List α) i=none:=rfl
theorem Qd {α:Type} (x:α) (r:List α) (i:Nat):nth (x::r) i=bif Nat.beq i 0 then some x else nth r (Nat.pred i):=rfl
/-- The memory that is left, a block that is made, and the value, given where that block comes to lie. -/
abbrev OpR:=St × Option SB × (Nat->SV)
noncomputable def same (σ:St) (v:SV):Option OpR:=some (σ,none,fun _=>v)
noncomputable def rowOf (σ:St) (b:Nat):Option (Nat × Nat × Nat × List SV):=match σ.get b with
 | some (.row e sz k l)=>some (e,sz,k,l)
 | _=>none
noncomputable def natOf:Option SV->Option Nat
 | some (.v (.int _ (.ofNat n)))=>some n
 | _=>none
noncomputable def findS (k:ByteArray):List (ByteArray × SV)->Option SV
 | []=>none
 | (j,v)::r=>bif eqS k j then some v else findS k r
noncomputable def putM (k:ByteArray) (v:SV):List (ByteArray × SV)->List (ByteArray × SV)
 | []=>[(k,v)]
 | (j,u)::r=>bif eqS k j then (k,v)::r else (j,u)::putM k v r
noncomputable def byteOf:SV->Option UInt8
 | .v (.int .u8 (.ofNat n))=>bif Nat.blt n 256 then some (UInt8.ofNat n) else none
 | _=>none
noncomputable def bytesOf:List SV->Option (List UInt8)
 | []=>some []
 | x::r=>match byteOf x,bytesOf r with
  | some b,some l=>some (b::l)
  | _,_=>none
noncomputable def nilPtr:SV->SV->Bool
 | .ptr _ _,.v (.pointer none)=>true
 | .v (.pointer none),.ptr _ _=>true
 | _,_=>false
noncomputable def nilFn:SV->SV->Bool
 | .fn _ _ _,.v .nilFunc=>true
 | .v .nilFunc,.fn _ _ _=>true
 | _,_=>false
noncomputable def nilIf:SV->SV->Bool
 | .ifc _ _,.v .nilIface=>true
 | .v .nilIface,.ifc _ _=>true
 | _,_=>false
noncomputable def nilSl:SV->SV->Bool
 | .sl _ _ _ _,.v (.slice none _ _)=>true
 | _,_=>false
noncomputable def nilKind (P:Program) (t:TypeId) (x y:SV):Bool:=match P.underlying t with
 | some (.pointer _)=>nilPtr x y
 | some (.func _ _ _)=>nilFn x y
 | some (.interface _)=>nilIf x y
 | some (.slice _)=>nilSl x y
 | _=>false
noncomputable def noSel:Op->Bool
 | .select _ _=>false
 | _=>true
noncomputable def exPlainR (σ:St):Option Next->Option OpR
 | some (.value y)=>same σ (ofV y)
 | _=>none
noncomputable def exPlain (P:Program) (E:SE) (σ:St) (o:Oper):Option OpR :=
 bif o.op.operands.toList.all (fun x=>(clov E x).isSome)&&noSel o.op then exPlainR σ (Wj P (execOp (fun x=>(clov E x).getD undef) o)) else none
noncomputable def apNew (σ:St) (ok:Bool) (e sz k:Nat) (l:List SV):Option OpR:=bif ok then some (σ,some (.row e sz k l),fun r=>.sl r 0 k 0) else none
noncomputable def strC (y:ByteArray):List SV:=y.data.toList.map fun q=>.v (.int .u8 q.toNat)
noncomputable def isStrT (P:Program) (u:TypeId):Bool:=match P.underlying u with
 | some .string=>true
 | _=>false
/-- So many cells, from there. -/
noncomputable def cutAt (l:List SV) (o n:Nat):List SV:=(l.drop o).take n
noncomputable def isU8 (i:TypeInfo):Bool:=match i.zero with
 | some (.int .u8 (.ofNat 0))=>Nat.beq i.size 1&&Nat.beq i.bytes 1
 | _=>false
noncomputable def apTo (P:Program) (σ:St) (t u e:Nat) (i:TypeInfo) (s:SV) (b l k:Nat) (c:List SV):SV->Option OpR
 | .v (.slice none 0 0)=>bif Nat.beq t u then same σ s else none
 | .v (.string y)=>apNew (σ.set b none) (isStrT P u&&isU8 i&&Nat.ble ((l+y.size)*(i.bytes+1)) 1000000) e i.size (l+y.size) (c.take l++strC y)
 | .sl b' o' m _=>match (σ.get b').bind Wa with
  | some c'=>apNew (σ.set b none) (Nat.beq t u&&Nat.beq (cutAt c' o' (m*i.size)).length (m*i.size)&&(cutAt c' o' (m*i.size)).all sOne&&Nat.ble ((l+m)*(i.bytes+1)) 1000000&&Nat.blt 0 m) e i.size (l+m) (c.take (l*i.size)++cutAt c' o' (m*i.size))
  | none=>none
 | _=>none
noncomputable def apNil (P:Program) (σ:St) (t u e:Nat) (i:TypeInfo):SV->Option OpR
 | .v (.string y)=>apNew σ (isStrT P u&&isU8 i&&Nat.ble (y.size*(i.bytes+1)) 1000000&&Nat.blt 0 y.size) e i.size y.size (strC y)
 | .sl b' o' m _=>match (σ.get b').bind Wa with
  | some c'=>apNew σ (Nat.beq t u&&Nat.beq (cutAt c' o' (m*i.size)).length (m*i.size)&&(cutAt c' o' (m*i.size)).all sOne&&Nat.ble (m*(i.bytes+1)) 1000000&&Nat.blt 0 m) e i.size m (cutAt c' o' (m*i.size))
  | none=>none
 | _=>none
noncomputable def apS (P:Program) (σ:St) (t u e:Nat) (i:TypeInfo) (x:SV):SV->Option OpR
 | .sl b 0 l 0=>match rowOf σ b with
  | some (e',sz,k,c)=>bif Nat.beq e e'&&Nat.beq sz i.size&&Nat.ble l k then apTo P σ t u e i (.sl b 0 l 0) b l k c x else none
  | none=>none
 | .v (.slice none 0 0)=>apNil P σ t u e i x
 | _=>none
noncomputable def zeroOk (i:TypeInfo):Bool:=match i.zero with
 | some z=>Nat.blt 0 i.size&&Nat.beq z.cells.size i.size
 | none=>false
noncomputable def exAppend (P:Program) (σ:St) (t u:TypeId) (s x:SV):Option OpR :=
 match P.underlying t with
 | some (.slice e)=>(match P.info? e with
  | some i=>bif zeroOk i then apS P σ t u e i x s else none
  | none=>none)
 | _=>none
noncomputable def szIs (P:Program) (e sz:Nat):Bool:=match tSize P e with
 | some n=>Nat.beq n sz
 | none=>false
noncomputable def exSliceL (P:Program) (σ:St) (t:TypeId) (b o j:Nat) (lo hi:Nat):Option OpR :=
 match P.underlying t,rowOf σ b with
 | some (.slice e),some (e',sz,k,_)=>bif Nat.beq e e'&&szIs P e sz&&Nat.ble lo hi&&Nat.ble (j+hi) k&&(Nat.beq lo 0 || Nat.blt (j+lo) k) then same σ (.sl b (o+lo*sz) (hi - lo) (j+lo)) else none
 | _,_=>none
noncomputable def bnd (E:SE) (d:Nat):Option Operand->Option Nat
 | none=>some d
 | some x=>natOf (sev E x)
noncomputable def exSlice (P:Program) (E:SE) (σ:St) (o:Oper) (t:TypeId) (lo hi mx:Option Operand):Option SV->Option OpR
 | some (.sl b k l j)=>match mx,bnd E 0 lo,bnd E l hi with
  | none,some m,some n=>exSliceL P σ t b k j m n
  | _,_,_=>none
 | _=>exPlain P E σ o
noncomputable def exNil (σ:St):Option SV->Option OpR
 | some (.ptr b k)=>same σ (.ptr b k)
 | some (.fn f a c)=>same σ (.fn f a c)
 | _=>none
noncomputable def exExt (σ:St) (i:Nat):Option SV->Option OpR
 | some (.tup l)=>(nth l i).bind (same σ)
 | _=>none
noncomputable def fieldOff (P:Program) (s f:Nat):Option Nat:=match P.underlying s with
 | some (.struct fs)=>(match fs[f]? with
  | some fd=>(match tSize P fd.type with
   | some (_+1)=>some fd.offset
   | _=>none)
  | none=>none)
 | _=>none
noncomputable def exField (P:Program) (σ:St) (s f:Nat):Option SV->Option OpR
 | some (.ptr b k)=>(fieldOff P s f).bind fun d=>same σ (.ptr b (k+d))
 | _=>none
noncomputable def elemSz (P:Program) (t:Nat):Option Nat:=match P.underlying t with
 | some (.slice e)=>tSize P e
 | _=>none
/-- An array: how many, and the cells of each. -/
noncomputable def arrOf (P:Program) (t:Nat):Option (Nat × Nat):=match P.underlying t with
 | some (.array n e)=>(tSize P e).map fun m=>(n,m)
 | _=>none
noncomputable def exIdxA (P:Program) (σ:St) (t:Nat):Option SV->Option Nat->Option OpR
 | some (.sl b k l _),some i=>(elemSz P t).bind fun n=>bif Nat.blt i l then same σ (.ptr b (k+i*n)) else none
 | some (.ptr b k),some i=>(arrOf P t).bind fun q=>bif Nat.blt i q.1 then same σ (.ptr b (k+i*q.2)) else none
 | _,_=>none
noncomputable def ldCells (P:Program) (t k:Nat) (l:List SV):Option SV:=match tAgg P t,tSize P t with
 | some true,some n=>bif Nat.beq (cutAt l k n).length n then some (.agg (cutAt l k n)) else none
 | some false,_=>nth l k
 | _,_=>none
noncomputable def ldAt (P:Program) (σ:St) (t:Nat):Option SV->Option SV
 | some (.ptr b k)=>match (σ.get b).bind Wa with
  | some l=>ldCells P t k l
  | none=>none
 | _=>none
noncomputable def stAt (σ:St) (b k n:Nat) (c l:List SV):Option OpR:=bif Nat.beq c.length n&&c.all sOne&&Nat.ble (k+n) l.length then some (σ.set b (some (.cells (sput l k c))),none,fun _=>.tup []) else none
noncomputable def exStore (σ:St):Option SV->Option (List SV)->Option Nat->Option OpR
 | some (.ptr b k),some c,some n=>match σ.get b with
  | some (.cells l)=>stAt σ b k n c l
  | _=>none
 | _,_,_=>none
noncomputable def exBox (σ:St):Option (List SV)->Option OpR
 | some c=>some (σ,some (.cells c),fun r=>.ptr r 0)
 | none=>none
noncomputable def exAlloc (σ:St):Option Value->Option OpR
 | some z=>some (σ,some (.cells (z.cells.toList.map SV.v)),fun r=>.ptr r 0)
 | none=>none
noncomputable def exBuild (P:Program) (σ:St) (t:Nat) (vs:List (Nat × SV)):Option OpR:=match P.underlying t,tZero P t with
 | some (.struct fs),some z=>(match places P fs.toList with
  | some pl=>(match sfill (fun i=>nth pl i) (z.cells.toList.map SV.v) vs with
   | some c=>same σ (.agg c)
   | none=>none)
  | none=>none)
 | _,_=>none
/-- An array that is built of what is closed. -/
noncomputable def exBld (P:Program) (E:SE) (σ:St) (o:Oper) (t:Nat) (ps:Array (Nat × Operand)):Option OpR:=bif (arrOf P t).isSome then exPlain P E σ o else (sparts E ps.toList).bind (exBuild P σ t)
noncomputable def exBuildS (P:Program) (σ:St) (t n:Nat) (vs:List (Nat × SV)):Option OpR:=match P.underlying t with
 | some (.slice e)=>(match tZero P e,tSize P e with
  | some z,some sz=>bif Nat.beq z.cells.size sz&&Nat.blt 0 (n*sz)&&Nat.ble (n*sz) 100000 then
   (match sfill (fun i=>some (i*sz,sz)) (szrow (z.cells.toList.map SV.v) n) vs with
   | some c=>some (σ,some (.row e sz n c),fun r=>.sl r 0 n 0)
   | none=>none) else none
  | _,_=>none)
 | _=>none
noncomputable def exIface (P:Program) (σ:St) (t:Nat) (v:SV):Option OpR:=match P.underlying t with
 | some (.interface _)=>none
 | some _=>same σ (.ifc t v)
 | none=>none
noncomputable def exFunc (σ:St) (f:Nat):Option (List SV)->Option (List SV)->Option OpR
 | some x,some y=>same σ (.fn f x y)
 | _,_=>none
noncomputable def exAssert (P:Program) (E:SE) (σ:St) (o:Oper) (t:Nat) (ok:Bool):Option SV->Option OpR
 | some (.ifc u v)=>(match P.underlying t with
  | some (.interface _)=>none
  | some _=>bif Nat.beq u t then same σ (bif ok then .tup [v,.v (.bool true)] else v) else bif ok then (tZero P t).bind (fun z=>same σ (.tup [ofV z,.v (.bool false)])) else none
  | none=>none)
 | _=>exPlain P E σ o
noncomputable def exMake (P:Program) (σ:St) (t l c:Nat):Option OpR:=match P.underlying t with
 | some (.slice e)=>(match P.info? e with
  | some i=>(match i.zero with
   | some z=>bif Nat.ble l c&&Nat.beq z.cells.size i.size&&Nat.blt 0 i.size&&Nat.ble (c*(i.bytes+1)) 1000000 then some (σ,some (.row e i.size l (szrow (z.cells.toList.map SV.v) l)),fun r=>.sl r 0 l 0) else none
   | none=>none)
  | none=>none)
 | _=>none
noncomputable def exChan (P:Program) (σ:St) (t n:Nat):Option OpR:=match P.underlying t with
 | some (.chan _ e)=>(match P.info? e with
  | some i=>bif Nat.ble (n*(i.bytes+1)) 1000000 then some (σ,some (.chan n 0),fun r=>.ch r) else none
  | none=>none)
 | _=>none
noncomputable def strMap (P:Program) (t:Nat):Option Nat:=match P.underlying t with
 | some (.map kt e)=>(match P.underlying kt with
  | some .string=>some e
  | _=>none)
 | _=>none
noncomputable def lookV (ok:Bool) (z:SV):Option SV->SV
 | some v=>bif ok then .tup [v,.v (.bool true)] else v
 | none=>bif ok then .tup [z,.v (.bool false)] else z
noncomputable def exLook (P:Program) (σ:St) (t:Nat) (ok:Bool):Option SV->Option SV->Option OpR
 | some (.mp b),some (.v (.string s))=>(match strMap P t,σ.get b with
  | some e,some (.map es)=>(tZero P e).bind fun z=>same σ (lookV ok (ofV z) (findS s es))
  | _,_=>none)
 | _,_=>none
noncomputable def exMapUp (P:Program) (σ:St) (t:Nat):Option SV->Option SV->Option SV->Option OpR
 | some (.mp b),some (.v (.string s)),some v=>(match strMap P t,σ.get b with
  | some _,some (.map es)=>some (σ.set b (some (.map (putM s v es))),none,fun _=>.tup [])
  | _,_=>none)
 | _,_,_=>none
noncomputable def exRange (P:Program) (σ:St) (t:Nat):Option SV->Option OpR
 | some (.mp b)=>(match P.underlying t,σ.get b with
  | some (.map _ _),some (.map _)=>some (σ,some (.iter b),fun r=>.ptr r 0)
  | _,_=>none)
 | _=>none
noncomputable def exNext (σ:St) (s:Bool):Option SV->Option OpR
 | some (.ptr r 0)=>bif s then none else match σ.get r with
  | some (.iter b)=>(match σ.get b with
   | some (.map [])=>same σ (.tup [.v (.bool false)])
   | _=>none)
  | _=>none
 | _=>none
def ilt:Int->Int->Bool
 | .ofNat a,.ofNat b=>Nat.blt a b
 | i,j=>decide (i<j)
def ieq:Int->Int->Bool
 | .ofNat a,.ofNat b=>Nat.beq a b
 | i,j=>decide (i=j)
def Bc (k:IntKind):Int->Int->Int
 | .ofNat a,.ofNat b=>bif Nat.blt (Nat.add a b) 128 then .ofNat (Nat.add a b) else k.wrap (.ofNat a+.ofNat b)
 | i,j=>k.wrap (i+j)
def Ba (k:IntKind):Int->Int->Int
 | .ofNat a,.ofNat b=>bif Nat.ble b a&&Nat.blt a 128 then .ofNat (Nat.sub a b) else k.wrap (.ofNat a - .ofNat b)
 | i,j=>k.wrap (i - j)
def Vk (k:IntKind) (i j:Int):BinOp->Option Value
 | .add=>some (.int k (Bc k i j))
 | .sub=>some (.int k (Ba k i j))
 | .lss=>some (.bool (ilt i j))
 | .leq=>some (.bool (!(ilt j i)))
 | .gtr=>some (.bool (ilt j i))
 | .geq=>some (.bool (!(ilt i j)))
 | .eql=>some (.bool (ieq i j))
 | .neq=>some (.bool (!(ieq i j)))
 | _=>none
noncomputable def exEq (P:Program) (E:SE) (σ:St) (o:Oper) (t:Nat) (r:Bool):Option SV->Option SV->Option OpR
 | some v,some u=>bif nilKind P t v u then same σ (.v (.bool r)) else exPlain P E σ o
 | _,_=>none
noncomputable def exBin1 (P:Program) (E:SE) (σ:St) (o:Oper) (t:Nat) (x y:Operand):BinOp->Option OpR
 | .eql=>exEq P E σ o t false (sev E x) (sev E y)
 | .neq=>exEq P E σ o t true (sev E x) (sev E y)
 | _=>exPlain P E σ o
noncomputable def exBin (P:Program) (E:SE) (σ:St) (o:Oper) (t:Nat) (x y:Operand) (b:BinOp):Option SV->Option SV->Option OpR
 | some (.v (.int k i)),some (.v (.int k' j))=>(match Vk k i j b with
  | some v=>bif decide (k=k') then same σ (.v v) else none
  | none=>exPlain P E σ o)
 | _,_=>exBin1 P E σ o t x y b
noncomputable def exUn (P:Program) (E:SE) (σ:St) (o:Oper) (u:UnOp):Option SV->Option OpR
 | some (.v (.bool b))=>(match u with
  | .not=>same σ (.v (.bool (!b)))
  | _=>none)
 | _=>exPlain P E σ o
noncomputable def exConv (P:Program) (E:SE) (σ:St) (o:Oper) (s d:Nat):Option SV->Option OpR
 | some (.sl b 0 l 0)=>(match P.underlying s,P.underlying d,rowOf σ b with
  | some (.slice e),some .string,some (e',sz,k,c)=>(match P.underlying e with
   | some (.int .u8)=>bif Nat.beq e e'&&Nat.beq sz 1&&Nat.ble l k then (bytesOf (c.take l)).bind (fun q=>same σ (.v (.string ⟨q.toArray⟩))) else none
   | _=>none)
  | _,_,_=>none)
 | _=>exPlain P E σ o
noncomputable def exLen (P:Program) (E:SE) (σ:St) (o:Oper) (t:Nat):Option SV->Option OpR
 | some (.sl _ _ l _)=>(elemSz P t).bind fun _=>same σ (.v (.int .i64 (.ofNat l)))
 | _=>exPlain P E σ o
noncomputable def exCopy (P:Program) (E:SE) (σ:St) (o:Oper) (t:Nat):Option SV->Option SV->Option OpR
 | some (.sl _ _ _ _),some (.v (.slice none 0 0))=>(elemSz P t).bind fun _=>same σ (.v (.int .i64 (.ofNat 0)))
 | _,_=>exPlain P E σ o
/-- What an operation comes to: a value; a call; a deferred call. -/
inductive Ar where
 | val (r:OpR)
 | call (g:SV) (l:List SV)
 | dfr (d:SD)
noncomputable def Ar.of:Option OpR->Option Ar
 | some r=>some (.val r)
 | none=>none
noncomputable def acBuiltin (P:Program) (E:SE) (σ:St) (o:Oper) (xs:List Operand) (ts:List TypeId):Builtin->Option OpR
 | .len=>(match xs,ts with
  | [x],[t]=>exLen P E σ o t (sev E x)
  | _,_=>none)
 | .copy=>(match xs,ts with
  | [x,y],[t,_]=>exCopy P E σ o t (sev E x) (sev E y)
  | _,_=>none)
 | .append=>(match xs,ts with
  | [x,y],[t,u]=>(match sev E x,sev E y with
   | some s,some v=>(match exAppend P σ t u s v with
    | some r=>some r
    | none=>exPlain P E σ o)
   | _,_=>none)
  | _,_=>none)
 | _=>exPlain P E σ o
noncomputable def acCall (P:Program) (E:SE) (σ:St) (o:Oper) (xs:Array Operand) (ts:Array TypeId):Callee->Option Ar
 | .value g=>(match sev E g,sargs E xs.toList with
  | some v,some l=>some (.call v l)
  | _,_=>none)
 | .builtin b=>Ar.of (acBuiltin P E σ o xs.toList ts.toList b)
 | .invoke _ _=>none
noncomputable def acDefer (E:SE) (xs:Array Operand):Callee->Option Ar
 | .value g=>(match sev E g,xs.toList with
  | some (.fn f [] c),[]=>some (.dfr (.clo f c))
  | _,_=>none)
 | _=>none
noncomputable def acFunc (E:SE) (σ:St) (a c:Array Operand):Fn->Option OpR
 | .func f=>exFunc σ f (sargs E a.toList) (sargs E c.toList)
 | _=>none
noncomputable def act (P:Program) (E:SE) (σ:St) (o:Oper):Option Ar :=
 match o.op with
 | .move x=>Ar.of ((sev E x).bind (same σ))
 | .assign x=>Ar.of ((sev E x).bind (same σ))
 | .pick c x y=>(match sev E c with
  | some (.v (.bool b))=>Ar.of ((sev E (bif b then x else y)).bind (same σ))
  | _=>none)
 | .nilCheck x=>Ar.of (exNil σ (sev E x))
 | .extract x i=>Ar.of (exExt σ i (sev E x))
 | .fieldAddr s x f=>Ar.of (exField P σ s f (sev E x))
 | .indexAddr t x y=>Ar.of (exIdxA P σ t (sev E x) (natOf (sev E y)))
 | .load t x=>Ar.of ((ldAt P σ t (sev E x)).bind (same σ))
 | .store t x y=>Ar.of (exStore σ (sev E x) ((sev E y).bind svCells) (tSize P t))
 | .box _ x=>Ar.of (exBox σ ((sev E x).bind svCells))
 | .alloc e=>Ar.of (exAlloc σ (tZero P e))
 | .build t ps=>Ar.of (exBld P E σ o t ps)
 | .buildSlice t n ps=>Ar.of ((sparts E ps.toList).bind (exBuildS P σ t n))
 | .makeInterface t x=>Ar.of ((sev E x).bind (exIface P σ t))
 | .makeFunc fn a c=>Ar.of (acFunc E σ a c fn)
 | .typeAssert x _ t ok=>Ar.of (exAssert P E σ o t ok (sev E x))
 | .makeSlice t x y=>Ar.of ((natOf (sev E x)).bind fun l=>(natOf (sev E y)).bind fun c=>exMake P σ t l c)
 | .slice t x lo hi mx=>Ar.of (exSlice P E σ o t lo hi mx (sev E x))
 | .makeMap _ r=>(match r with
  | none=>Ar.of (some (σ,some (.map []),fun r=>.mp r))
  | some _=>none)
 | .makeChan t x=>Ar.of ((natOf (sev E x)).bind (exChan P σ t))
 | .lookup t x y ok=>Ar.of (exLook P σ t ok (sev E x) (sev E y))
 | .mapUpdate t x y z=>Ar.of (exMapUp P σ t (sev E x) (sev E y) (sev E z))
 | .range t x=>Ar.of (exRange P σ t (sev E x))
 | .next x s=>Ar.of (exNext σ s (sev E x))
 | .binOp op t x y _=>Ar.of (exBin P E σ o t x y op (sev E x) (sev E y))
 | .unOp u _ x=>Ar.of (exUn P E σ o u (sev E x))
 | .index _ _ _=>Ar.of (exPlain P E σ o)
 | .convert s d x=>Ar.of (exConv P E σ o s d (sev E x))
 | .call c=>acCall P E σ o c.args c.argTypes c.callee
 | .defer c=>acDefer E c.args c.callee
 | _=>none
/-- Where it comes to lie: at the end. -/
noncomputable def lodge (n0:Nat):OpR->Option (SV × St)
 | (σ,none,f)=>bif Nat.ble n0 σ.n then some (f 0,σ) else none
 | (σ,some sb,f)=>bif Nat.ble n0 σ.n&&Nat.blt σ.n 15999 then some (f σ.n,(σ.ext 1).set σ.n (some sb)) else none
/-! ### Code -/
inductive Xt where
 | normal
 | exit (id:Nat)
 | ret
inductive Tk where
 | code (ro:Bool) (n:Nat) (c:Code) (E:SE) (D:List SD) (σ:St)
 | call (f:FuncId) (args:List SV) (σ:St)
 | round (b:Nat) (args:List SV) (σ:St)
inductive Rs where
 | code (e:Xt) (E:SE) (D:List SD) (σ:St)
 | val (v:SV) (σ:St)
abbrev Rec:=Tk->Option Rs
/-- Functions that are known. -/
abbrev Ext:=FuncId->Option (List SV->St->Option (SV × St))
noncomputable def wantsV (want:Bool):Option SV->Option Bool
 | some (.v (.bool b))=>some (b==want)
 | some (.tup _)=>some false
 | _=>none
noncomputable def wants (E:SE) (all:Array Oper):Option (Nat × Bool)->Option Bool
 | none=>some true
 | some (j,want)=>match (all[j]?).bind (·.dst) with
  | none=>none
  | some d=>wantsV want (slook E d)
noncomputable def putD (n:Nat) (E:SE) (d:Option Nat) (v:SV):Option SE:=match d with
 | none=>some E
 | some d=>bif Nat.blt d n then some ((d,v)::E) else none
noncomputable def valOf:Option Rs->Option (SV × St)
 | some (.val v σ)=>some (v,σ)
 | _=>none
noncomputable def callV (rec:Rec) (σ:St) (l:List SV):SV->Option (SV × St)
 | .fn f a c=>valOf (rec (.call f (a++l++c) σ))
 | .yd b=>valOf (rec (.round b l σ))
 | _=>none
noncomputable def opersK (rec:Rec) (ro:Bool) (n:Nat) (E:SE) (D:List SD) (σ:St) (d:Option Nat) (k:SE->List SD->St->Option (SE × List SD × St)):Option Ar->Option (SE × List SD × St)
 | some (.val r)=>(match lodge σ.n r with
  | some (v,σ')=>(putD n E d v).bind fun E'=>k E' D σ'
  | none=>none)
 | some (.call g l)=>(match callV rec σ l g with
  | some (v,σ')=>(putD n E d v).bind fun E'=>k E' D σ'
  | none=>none)
 | some (.dfr x)=>bif ro then none else (putD n E d (.tup [])).bind fun E'=>k E' (x::D) σ
 | none=>none
noncomputable def opers1 (P:Program) (rec:Rec) (ro:Bool) (n:Nat) (all:Array Oper) (o:Oper) (k:SE->List SD->St->Option (SE × List SD × St)) (E:SE) (D:List SD) (σ:St):Option (SE × List SD × St) :=
 match wants E all o.guard with
 | some true=>opersK rec ro n E D σ o.dst k (act P E σ o)
 | some false=>(putD n E o.dst (.tup [])).bind fun E'=>k E' D σ
 | none=>none
noncomputable def opers (P:Program) (rec:Rec) (ro:Bool) (n:Nat) (all:Array Oper) (l:List Oper):SE->List SD->St->Option (SE × List SD × St):=List.rec (fun E D σ=>some (E,D,σ)) (fun o _ ih=>opers1 P rec ro n all o ih) l
theorem Cs (P:Program) (rec:Rec) (ro:Bool) (n:Nat) (all:Array Oper) (E:SE) (D:List SD) (σ:St):opers P rec ro n all [] E D σ=some (E,D,σ):=rfl
theorem Gf (P:Program) (rec:Rec) (ro:Bool) (n:Nat) (all:Array Oper) (o:Oper) (l:List Oper) (E:SE) (D:List SD) (σ:St):opers P rec ro n all (o::l) E D σ=opers1 P rec ro n all o (opers P rec ro n all l) E D σ:=rfl
noncomputable def rsOf:Option (SE × List SD × St)->Option Rs
 | some (E,D,σ)=>some (.code .normal E D σ)
 | none=>none
noncomputable def seqK (k:SE->List SD->St->Option Rs):Option Rs->Option Rs
 | some (.code .normal E D σ)=>k E D σ
 | r=>r
noncomputable def blockK (id:Nat):Option Rs->Option Rs
 | some (.code (.exit i) E D σ)=>bif Nat.beq i id then some (.code .normal E D σ) else some (.code (.exit i) E D σ)
 | r=>r
noncomputable def condK (rec:Rec) (ro:Bool) (n:Nat) (x y:Code) (E:SE) (D:List SD) (σ:St):Option SV->Option Rs
 | some (.v (.bool true))=>rec (.code ro n x E D σ)
 | some (.v (.bool false))=>rec (.code ro n y E D σ)
 | _=>none
noncomputable def pendK (rec:Rec) (n:Nat) (E:SE) (D:List SD) (σ:St):Option Code->Option Rs
 | none=>some (.code .normal E D σ)
 | some c=>rec (.code false n c E D σ)
noncomputable def rangeK (rec:Rec) (n:Nat) (E:SE) (D:List SD) (b:Nat) (σ:St):Option SB->Option Rs
 | some (.loop .ready pd _ _ _ _ _)=>pendK rec n E D (σ.set b none) pd
 | some (.loop .done pd _ _ _ _ _)=>pendK rec n E D (σ.set b none) pd
 | _=>none
noncomputable def rangeS (rec:Rec) (n:Nat) (ps:Array Tmp) (x y:Code) (E:SE) (D:List SD) (σ:St):Option SV->Option Rs
 | some (.fn f a c)=>bif Nat.blt σ.n 15998 then (match valOf (rec (.call f (a++[.yd (σ.n+1)]++c) (((σ.ext 2).set σ.n (some .defd)).set (σ.n+1) (some (.loop .ready none E n ps x y))))) with
  | some (_,σ')=>rangeK rec n E (.mark σ.n::D) (σ.n+1) σ' (σ'.get (σ.n+1))
  | none=>none) else none
 | _=>none
abbrev Ft:=Nat->Array Oper->SE->List SD->St->Option (SE × List SD × St)
noncomputable def stepCode (P:Program) (rec:Rec) (draw:Ft) (ro:Bool) (n:Nat) (E:SE) (D:List SD) (σ:St):Code->Option Rs
 | .skip=>some (.code .normal E D σ)
 | .ret=>some (.code .ret E D σ)
 | .exit id=>some (.code (.exit id) E D σ)
 | .seq x y=>seqK (fun E D σ=>rec (.code ro n y E D σ)) (rec (.code ro n x E D σ))
 | .cond c x y=>condK rec ro n x y E D σ (sev E c)
 | .block id x=>blockK id (rec (.code ro n x E D σ))
 | .loop x=>seqK (fun E D σ=>rec (.code ro n (.loop x) E D σ)) (rec (.code ro n x E D σ))
 | .region _ ops dr=>rsOf (bif dr then draw n ops E D σ else opers P rec ro n ops ops.toList E D σ)
 | .rangeFunc g ps x y=>bif ro then none else rangeS rec n ps x y E D σ (sev E g)
 | _=>none
/-- Deferred calls: marks, and functions that lay what was recovered (nothing) into a variable. -/
noncomputable def leaves (dc:FuncId->Bool):List SD->St->Option St
 | [],σ=>some σ
 | .mark b::r,σ=>(match σ.get b with
  | some .defd=>leaves dc r (σ.set b none)
  | _=>none)
 | .clo f c::r,σ=>bif dc f then (match c with
  | [.ptr b k]=>(match σ.get b with
   | some (.cells l)=>bif Nat.blt k l.length then leaves dc r (σ.set b (some (.cells (sput l k [.v .nilIface])))) else none
   | _=>none)
  | _=>none) else none
noncomputable def resOf (P:Program) (E:SE) (σ:St):ResultVar->Option SV
 | .tmp t=>slook E t
 | .cell x t=>ldAt P σ t (slook E x)
noncomputable def resL (P:Program) (E:SE) (σ:St):List ResultVar->Option (List SV)
 | []=>some []
 | x::r=>match resOf P E σ x,resL P E σ r with
  | some v,some l=>some (v::l)
  | _,_=>none
noncomputable def resV:List SV->SV
 | [v]=>v
 | l=>.tup l
noncomputable def snumber:Nat->List SV->SE
 | _,[]=>[]
 | i,v::r=>(i,v)::snumber (i+1) r
noncomputable def resK (P:Program) (E:SE) (rs:List ResultVar):Option St->Option Rs
 | some σ=>(match resL P E σ rs with
  | some l=>some (.val (resV l) σ)
  | none=>none)
 | none=>none
noncomputable def bodyK (P:Program) (dc:FuncId->Bool) (rs:List ResultVar):Option Rs->Option Rs
 | some (.code .normal E D σ)=>resK P E rs (leaves dc D σ)
 | some (.code .ret E D σ)=>resK P E rs (leaves dc D σ)
 | _=>none
noncomputable def extK:Option (SV × St)->Option Rs
 | some (v,σ)=>some (.val v σ)
 | none=>none
noncomputable def bodyOf (P:Program) (f:FuncId):Option (Func × Code):=match P.funcs[f]? with
 | some fn=>(match fn.body with
  | some c=>some (fn,c)
  | none=>none)
 | none=>none
noncomputable def stepCall (P:Program) (X:Ext) (dc:FuncId->Bool) (rec:Rec) (f:FuncId) (args:List SV) (σ:St):Option Rs :=
 match X f with
 | some g=>extK (g args σ)
 | none=>match bodyOf P f with
  | some (fn,c)=>bif Nat.ble args.length fn.ntmps then bodyK P dc fn.results.toList (rec (.code false fn.ntmps c (snumber 0 args) [] σ)) else none
  | none=>none
noncomputable def putPs (n:Nat):List Tmp->List SV->SE->Option SE
 | [],[],E=>some E
 | t::r,v::l,E=>bif Nat.blt t n then putPs n r l ((t,v)::E) else none
 | _,_,_=>none
noncomputable def setLoop (σ:St) (b:Nat) (st:LoopState) (pd:Option Code):Option SB->Option St
 | some (.loop _ _ E n ps x y)=>some (σ.set b (some (.loop st pd E n ps x y)))
 | _=>none
noncomputable def endK (b:Nat):Option Rs->Option Rs
 | some (.code .normal _ [] σ)=>(match setLoop σ b .ready none (σ.get b) with
  | some σ'=>some (.val (.v (.bool true)) σ')
  | none=>none)
 | some (.code .ret _ [] σ)=>(match setLoop σ b .done (some .ret) (σ.get b) with
  | some σ'=>some (.val (.v (.bool false)) σ')
  | none=>none)
 | some (.code (.exit id) _ [] σ)=>(match setLoop σ b .done (some (.exit id)) (σ.get b) with
  | some σ'=>some (.val (.v (.bool false)) σ')
  | none=>none)
 | _=>none
noncomputable def beginK (rec:Rec) (b:Nat) (y:Code) (n:Nat):Option Rs->Option Rs
 | some (.code .normal E [] σ)=>(match σ.get b with
  | some (.loop .ready pd E0 n0 ps0 x0 y0)=>endK b (rec (.code true n y E [] (σ.set b (some (.loop .busy pd E0 n0 ps0 x0 y0)))))
  | _=>none)
 | _=>none
noncomputable def stepRound (rec:Rec) (b:Nat) (args:List SV) (σ:St):Option Rs :=
 match σ.get b with
 | some (.loop .ready _ E n ps x y)=>(match putPs n ps.toList args E with
  | some E'=>beginK rec b y n (rec (.code true n x E' [] σ))
  | none=>none)
 | _=>none
end S
namespace S
open Go Go.RowKit E
noncomputable def ancOf (ms:List Nat) (l:List Edge):Nat:=l.foldr (fun e acc=>bif Region.binds .any e then Nat.lor (Nat.lor (Nat.pow 2 e.on) ((nth ms e.on).getD 0)) acc else acc) 0
/-- Of each operation, which must be ahead of it. -/
noncomputable def ancs (l:List Oper):List Nat->List Nat:=List.rec (fun ms=>ms) (fun o _ ih ms=>ih (ms++[ancOf ms o.after.toList])) l
inductive Kd where
 | no
 | rd (b:Nat)
 | al
 | ef
noncomputable def kdSl:Option SV->Kd
 | some (.sl _ _ _ _)=>.ef
 | _=>.no
noncomputable def kdLd:Option SV->Kd
 | some (.ptr b _)=>.rd b
 | _=>.ef
def kdBi:Callee->Kd
 | .builtin .append=>.ef
 | .builtin .copy=>.ef
 | .builtin _=>.no
 | _=>.ef
noncomputable def kindOf (E:SE):Op->Kd
 | .load _ x=>kdLd (sev E x)
 | .box _ _=>.al
 | .alloc _=>.al
 | .buildSlice _ _ _=>.al
 | .makeMap _ _=>.al
 | .makeSlice _ _ _=>.al
 | .makeChan _ _=>.al
 | .store _ _ _=>.ef
 | .mapUpdate _ _ _ _=>.ef
 | .call c=>kdBi c.callee
 | .lookup _ _ _ _=>.ef
 | .range _ _=>.ef
 | .next _ _=>.ef
 | .defer _=>.ef
 | .convert _ _ x=>kdSl (sev E x)
 | .slice _ x _ _ _=>kdSl (sev E x)
 | _=>.no
/-- What is done to memory: nothing; a block is read; one is made; anything. -/
inductive Kr where
 | no
 | rd (b:Nat) (sb:SB)
 | al (r:Nat) (sb:SB)
 | ef (pre post:St)
structure Rc where
 sk:Bool
 Er:SE
 v:SV
 k:Kr
def Av (l:List Operand):List Nat:=l.filterMap fun | .tmp t=>some t | _=>none
def Zcq (all:Array Oper):Option (Nat × Bool)->List Nat
 | some (j,_)=>((all[j]?).bind (·.dst)).toList
 | none=>[]
noncomputable def restr (E:SE) (l:List Nat):SE:=l.filterMap fun t=>(slook E t).map fun v=>(t,v)
noncomputable def bare:St:=⟨lim,.nil⟩
noncomputable def msk (ms:List Nat) (i:Nat):Nat:=(nth ms i).getD 0
/-- What the last of these effects left. -/
noncomputable def lastC (s:Nat->Bool) (rs:List Rc):Nat->St->St:=List.rec (fun _ C=>C) (fun r _ ih i C=>ih (Nat.succ i) (Kr.casesOn r.k C (fun _ _=>C) (fun _ _=>C) (fun _ post=>cond (s i) post C))) rs
/-- One of these effects comes behind k. -/
noncomputable def mrgd (s:Nat->Bool) (ms:List Nat) (k:Nat) (rs:List Rc):Nat->Bool:=List.rec (fun _=>false) (fun r _ ih i=>Kr.casesOn r.k (ih (Nat.succ i)) (fun _ _=>ih (Nat.succ i)) (fun _ _=>ih (Nat.succ i)) (fun _ _=>cond (s i&&Nat.testBit (msk ms i) k) true (ih (Nat.succ i)))) rs
/-- What was made and is not yet C9 in is C9 in. -/
noncomputable def hov (s:Nat->Bool) (ms:List Nat) (full:List Rc) (rs:List Rc):Nat->St->St:=List.rec (fun _ C=>C) (fun r _ ih i C=>Kr.casesOn r.k (ih (Nat.succ i) C) (fun _ _=>ih (Nat.succ i) C) (fun q sb=>cond (s i && !(mrgd s ms i full 0)) ((ih (Nat.succ i) C).set q (some sb)) (ih (Nat.succ i) C)) (fun _ _=>ih (Nat.succ i) C)) rs
/-- Memory when these are done. -/
noncomputable def heapOf (s:Nat->Bool) (ms:List Nat) (rs:List Rc) (C0:St):St:=hov s ms rs rs 0 (lastC s rs 0 C0)
noncomputable def opD (P:Program) (rec:Rec) (E:SE) (σ:St) (r:Nat) (o:Oper):Option (SV × St):=match act P E σ o with
 | some (.val (σ',none,f))=>bif Nat.beq σ'.n σ.n then some (f 0,σ') else none
 | some (.val (σ',some sb,f))=>bif Nat.beq σ'.n σ.n then some (f r,σ'.set r (some sb)) else none
 | some (.call g l)=>callV rec σ l g
 | _=>none
noncomputable def noD (P:Program) (E:SE) (σ:St) (o:Oper):Option SV:=match act P E σ o with
 | some (.val (_,none,f))=>some (f 0)
 | _=>none
noncomputable def alD (P:Program) (E:SE) (σ:St) (r:Nat) (o:Oper):Option (SV × SB):=match act P E σ o with
 | some (.val (_,some sb,f))=>some (f r,sb)
 | _=>none
noncomputable def oneK (P:Program) (rec:Rec) (Er:SE) (ms:List Nat) (m r:Nat) (o:Oper) (acc:List Rc) (C0:St):Kd->Option (SV × Kr)
 | .no=>match noD P Er bare o with
  | some v=>some (v,.no)
  | none=>none
 | .rd b=>match (heapOf (Nat.testBit m) ms acc C0).get b with
  | some sb=>(match noD P Er (bare.set b (some sb)) o with
   | some v=>some (v,.rd b sb)
   | none=>none)
  | none=>none
 | .al=>match alD P Er bare r o with
  | some (v,sb)=>some (v,.al r sb)
  | none=>none
 | .ef=>match opD P rec Er (heapOf (Nat.testBit m) ms acc C0) r o with
  | some (v,post)=>some (v,.ef (heapOf (Nat.testBit m) ms acc C0) post)
  | none=>none
noncomputable def erOf (all:Array Oper) (E:SE) (o:Oper):SE:=restr E (Av o.op.operands.toList++Zcq all o.guard)
/-- One operation's row. -/
noncomputable def rowK (P:Program) (rec:Rec) (all:Array Oper) (ms:List Nat) (C0:St) (r:Nat) (i:Nat) (o:Oper) (E:SE) (acc:List Rc):Option Rc:=match wants (erOf all E o) all o.guard with
 | none=>none
 | some false=>some ⟨true,erOf all E o,.tup [],.no⟩
 | some true=>match oneK P rec (erOf all E o) ms (msk ms i) r o acc C0 (kindOf (erOf all E o) o.op) with
  | some (v,kr)=>some ⟨false,erOf all E o,v,kr⟩
  | none=>none
noncomputable def p1step (P:Program) (rec:Rec) (n:Nat) (all:Array Oper) (ms:List Nat) (C0:St) (base:Nat) (o:Oper) (k:Nat->SE->List Rc->Option (List Rc × SE)) (i:Nat) (E:SE) (acc:List Rc):Option (List Rc × SE) :=
 match rowK P rec all ms C0 (base+i) i o E acc with
 | none=>none
 | some rc=>match putD n E o.dst rc.v with
  | none=>none
  | some E'=>k (i+1) E' (acc++[rc])
noncomputable def p1 (P:Program) (rec:Rec) (n:Nat) (all:Array Oper) (ms:List Nat) (C0:St) (base:Nat) (l:List Oper):Nat->SE->List Rc->Option (List Rc × SE):=List.rec (fun _ E acc=>some (acc,E)) (fun o _ ih=>p1step P rec n all ms C0 base o ih) l
/-! ### Equal blocks -/
def Ap:Value->Value->Bool
 | .int k i,.int k' j=>decide (k=k')&&ieq i j
 | .bool x,.bool y=>x==y
 | .string x,.string y=>eqS x y
 | .pointer none,.pointer none=>true
 | .slice none 0 0,.slice none 0 0=>true
 | .map none,.map none=>true
 | .chan none,.chan none=>true
 | .nilFunc,.nilFunc=>true
 | .nilIface,.nilIface=>true
 | _,_=>false
mutual
def U8:SV->SV->Bool
 | .v x,.v y=>Ap x y
 | .ptr b o,.ptr c p=>Nat.beq b c&&Nat.beq o p
 | .sl a b c d,.sl e f g h=>Nat.beq a e&&Nat.beq b f&&Nat.beq c g&&Nat.beq d h
 | .mp b,.mp c=>Nat.beq b c
 | .ch b,.ch c=>Nat.beq b c
 | .fn f a b,.fn g c d=>Nat.beq f g&&R8 a c&&R8 b d
 | .ifc t x,.ifc u y=>Nat.beq t u&&U8 x y
 | _,_=>false
def R8:List SV->List SV->Bool
 | [],[]=>true
 | x::r,y::s=>U8 x y&&R8 r s
 | _,_=>false
end
def sbEq:Option SB->Option SB->Bool
 | none,none=>true
 | some (.cells l),some (.cells m)=>R8 l m
 | some (.row e s k l),some (.row f t j m)=>Nat.beq e f&&Nat.beq s t&&Nat.beq k j&&R8 l m
 | _,_=>false
/-! ### What is held against it -/
def U6 {α:Type} (p:Nat->α->Bool):Nat->List α->Bool
 | _,[]=>true
 | i,x::r=>p i x&&U6 p (i+1) r
/-- Their places are each another's. -/
def Mx (ops:List Oper):Bool:=U6 (fun i o=>match o.dst with
 | none=>true
 | some d=>U6 (fun j q=>Nat.beq i j || !(match q.dst with
  | some e=>Nat.beq d e
  | none=>false)) 0 ops) 0 ops
/-- Who reads what one of them gives comes behind it. -/
noncomputable def ckEnv (ms:List Nat) (ops:List Oper) (rs:List Rc):Bool:=U6 (fun i r=>r.Er.all fun p=>U6 (fun j q => !(match q.dst with
  | some e=>Nat.beq p.1 e
  | none=>false) || Nat.testBit (msk ms i) j) 0 ops) 0 rs
def Q5 (ops:List Oper):Bool:=U6 (fun i o=>o.after.toList.all fun e => !(Region.binds .any e) || Nat.blt e.on i) 0 ops
/-- The effects come one behind the other. -/
noncomputable def ckChain (ms:List Nat) (rs:List Rc):Bool:=U6 (fun i r=>match r.k with
 | .ef _ _=>U6 (fun j q=>match q.k with
  | .ef _ _ => !(Nat.blt j i) || Nat.testBit (msk ms i) j
  | _=>true) 0 rs
 | _=>true) 0 rs
noncomputable def ckSlot (ms:List Nat) (rs:List Rc):Bool:=U6 (fun i r=>match r.k with
 | .ef _ post=>U6 (fun j q=>match q.k with
  | .al s _=>Nat.testBit (msk ms i) j || (post.get s).isNone
  | _=>true) 0 rs
 | _=>true) 0 rs
noncomputable def ckRead (ms:List Nat) (rs:List Rc):Bool:=U6 (fun i r=>match r.k with
 | .rd b _=>U6 (fun j q=>match q.k with
  | .ef pre post=>Nat.testBit (msk ms i) j || Nat.testBit (msk ms j) i || sbEq (pre.get b) (post.get b)
  | .al s _ => !(Nat.beq b s) || Nat.testBit (msk ms i) j
  | _=>true) 0 rs
 | _=>true) 0 rs
noncomputable def ckAll (ms:List Nat) (ops:List Oper) (rs:List Rc):Bool:=Mx ops&&ckEnv ms ops rs&&Q5 ops&&ckChain ms rs&&ckSlot ms rs&&ckRead ms rs
noncomputable def drawK (ms:List Nat) (ops:List Oper) (D:List SD) (C0:St):Option (List Rc × SE)->Option (SE × List SD × St)
 | some (rs,E)=>bif ckAll ms ops rs then some (E,D,heapOf (fun _=>true) ms rs C0) else none
 | none=>none
noncomputable def drawM (P:Program) (rec:Rec) (n:Nat) (ops:Array Oper) (E:SE) (D:List SD) (σ:St) (ms:List Nat):Option (SE × List SD × St):=drawK ms ops.toList D (σ.ext ops.size) (p1 P rec n ops ms (σ.ext ops.size) σ.n ops.toList 0 E [])
noncomputable def drawF (P:Program) (rec:Rec) (_:Bool):Ft:=fun n ops E D σ =>
 bif Nat.blt (σ.n+ops.size) 15999 then drawM P rec n ops E D σ (ancs ops.toList []) else none
end S
end Go.Proofs.YtpofmnfkdkmieaaGreat
