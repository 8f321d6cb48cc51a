import Derived.WalkKit
import GoSem.Claim
namespace Go.Proofs.Ytfbfbennheeglaa
set_option linter.unusedSimpArgs false
set_option linter.unusedVariables false
theorem obI {α β:Type _} {o:Option α} {f:α→Option β} {b:β}:o.bind f=some b↔∃ a,o=some a∧f a=some b:=Option.bind_eq_some_iff
theorem omI {α β:Type _} {o:Option α} {f:α→β} {b:β}:o.map f=some b↔∃ a,o=some a∧f a=b:=Option.map_eq_some_iff
inductive AV where
 |unk
 |any
 |maybe (e b:Bool)
 |bool (b:Bool)
 |int (k:IntKind) (n:Int)
 |str (s:List UInt8)
 |nils
 |nilp
 |nilf
 |nili
 |nilm
 |sl (sz:Nat) (cs:List AV)
 |ip (cs:List AV)
 |own (sz id:Nat)
 |osl (sz id o n:Nat)
 |ref (id off:Nat)
 |mref (id:Nat)
 |yld (id:Nat)
 |vec (sz:Nat) (cs:List AV)
 |box (cs:List AV)
 |mp (ks vs:List AV)
 |clo (f:Nat) (fs cs:List AV)
 |ifc (t:Nat) (v:AV)
 |agg (cs:List AV)
 |tup (vs:List AV)
deriving Inhabited
inductive AX where
 |normal
 |exit (id:Nat)
 |ret
deriving DecidableEq
inductive SX where
 |tmp (t:Nat)
 |val (v:AV)
inductive Md where
 |plain
 |quiet
 |mem
 |memp
 |all
 |allk
deriving DecidableEq
inductive RK where
 |ptr (o:Nat)
 |val (o:Nat) (n:Option Nat)
deriving DecidableEq
inductive SO where
 |move (x:SX)
 |pick (c a b:SX)
 |box (n:Nat) (x:SX)
 |alloc (z:List AV)
 |build (z:List AV) (ps:List (Nat × Nat × SX))
 |lit (m:Bool) (z:List AV) (sz len:Nat) (ps:List (Nat × Nat × SX))
 |load (u:Bool) (n:Option Nat) (x:SX)
 |store (mv:Bool) (n:Nat) (x v:SX)
 |nilCheck (x:SX)
 |bin (tc:Nat) (op:BinOp) (x y:SX)
 |isnil (neg:Bool) (x:SX)
 |un (op:UnOp) (x:SX)
 |conv (k:IntKind) (x:SX)
 |same (x:SX)
 |fieldAddr (o:Nat) (x:SX)
 |field (n:Option Nat) (o:Nat) (x:SX)
 |indexAddr (sz:Nat) (x i:SX)
 |indexArr (len sz:Nat) (x i:SX)
 |indexV (q:Option Nat) (len sz:Nat) (x i:SX)
 |stuck
 |index (x i:SX)
 |slice (sz:Nat) (x:SX) (lo hi mx:Option SX)
 |slices (x:SX) (lo hi:Option SX)
 |extract (i:Nat) (x:SX)
 |len (s:Bool) (x:SX)
 |append (sz bytes:Nat) (s x:SX)
 |make (z:List AV) (bytes:Nat) (n:SX)
 |clear (z:List AV) (x:SX)
 |copy (sz:Nat) (s x:SX)
 |mm (mx:Bool) (x y:SX)
 |fn (f:Nat) (fs cs:List SX)
 |call (md:Md) (f:Nat) (as:List SX)
 |callf (md:Md) (x:SX) (as:List SX)
 |iface (t:Nat) (x:SX)
 |assert (t:Nat) (x:SX)
 |invoke (md:Md) (x:SX) (ms:List (Nat × Nat × RK)) (as:List SX)
 |mkmap
 |look (u:Bool) (kc:Nat) (z:AV) (ok:Bool) (x i:SX)
 |upd (kc:Nat) (x k v:SX)
 |rng (x:SX)
 |next (x:SX)
 |entry (x:SX)
 |cap (x:SX)
 |appz (z:List AV) (bytes:Nat) (s n:SX)
 |text (x:SX)
  |room (z:List AV) (bytes:Nat) (n:SX)
structure SOp where
 dst:Option Nat
 op:SO
 guard:Option (Nat × Bool)
inductive SG where
 |own (sz s:Nat)
 |ownb (sz s off:Nat)
 |whole (s:Nat)
 |part (s:Nat)
 |keep (l:List Nat)
 |push (lid:Nat) (keep:List Nat)
 |norm (lid:Nat)
 |cut
 |opn (s:Nat)
 |opnA (s t o:Nat)
 |opnM (s t u:Nat)
 |opnF (s o t:Nat)
 |pkb (s:Nat)
 |frzm (s:Nat)
inductive Stmt where
 |skip
 |ops (d:Bool) (l:List SOp)
 |opsC (chk:List (Nat × Nat)) (l:List SOp)
 |seq (a b:Stmt)
 |cond (x:SX) (a b:Stmt)
 |block (id:Nat) (b:Stmt)
 |loop (b:Stmt)
 |scope (b:Stmt)
 |exit (id:Nat)
 |ret
 |rangef (x:SX) (ps:List Nat) (asg body:Stmt)
 |ghost (g:SG) (b:Stmt)
 |after (b:Stmt) (g:SG)
inductive Blk where
 |dead
 |row (fr:Bool) (cs:List AV)
 |mp (ks vs:List AV)
 |it (mid n:Nat) (seen:List Nat)
 |lp (st:Nat) (env:List (Nat × AV)) (ps:List Nat) (asg body:Stmt) (j:AX)
deriving Inhabited
abbrev Mark:=Nat × Nat × List Nat × List (Nat × Nat)
structure St where
 env:List (Nat × AV)
 hp:List Blk
 lo:Nat:=0
 mks:List Mark:=[]
inductive RV where
 |tmp (t:Nat)
 |cell (t:Nat) (n:Option Nat)
structure RS where
 rv:RV
 sh:List (Nat × Nat × Bool)
structure FnDef where
 params:Nat
 nt:Nat
 res:List RS
 body:Stmt
inductive Entry where
 |fn (d:FnDef)
 |orc (g:List AV→List Blk→Option (AV × List Blk))
def lk:List (Nat × AV)→Nat→AV
 | [],_=>.unk
 | (d,v)::l,s=>if d=s then v else lk l s
def St.ev (st:St):SX→AV
 | .tmp t=>lk st.env t
 | .val v=>v
def AV.cells:AV→List AV
 | .agg cs=>cs
 |v=>[v]
def AV.okc:AV→Bool
 | .agg _ | .tup _ | .unk=>false
 |_=>true
def setAll:List AV→Nat→List AV→List AV
 |cs,_,[]=>cs
 |cs,o,v::vs=>setAll (cs.set o v) (o+1) vs
def rdc (cs:List AV):Option Nat→Option AV
 |none=>cs.head?
 |some k=>if k≤cs.length then some (.agg (cs.take k)) else none
mutual
def AV.allv (p:AV→Bool):AV→Bool
 | .sl sz cs=>p (.sl sz cs) && allL p cs
 | .ip cs=>p (.ip cs) && allL p cs
 | .vec sz cs=>p (.vec sz cs) && allL p cs
 | .box cs=>p (.box cs) && allL p cs
 | .mp ks vs=>p (.mp ks vs) && (allL p ks && allL p vs)
 | .clo f fs cs=>p (.clo f fs cs) && (allL p fs && allL p cs)
 | .ifc t v=>p (.ifc t v) && v.allv p
 | .agg cs=>p (.agg cs) && allL p cs
 | .tup vs=>p (.tup vs) && allL p vs
 |x=>p x
def allL (p:AV→Bool):List AV→Bool
 | []=>true
 |v::vs=>v.allv p && allL p vs
end
mutual
def AV.mapv (f:AV→AV):AV→AV
 | .sl sz cs=>f (.sl sz (mapL f cs))
 | .ip cs=>f (.ip (mapL f cs))
 | .vec sz cs=>f (.vec sz (mapL f cs))
 | .box cs=>f (.box (mapL f cs))
 | .mp ks vs=>f (.mp (mapL f ks) (mapL f vs))
 | .clo g fs cs=>f (.clo g (mapL f fs) (mapL f cs))
 | .ifc t v=>f (.ifc t (v.mapv f))
 | .agg cs=>f (.agg (mapL f cs))
 | .tup vs=>f (.tup (mapL f vs))
 |x=>f x
def mapL (f:AV→AV):List AV→List AV
 | []=>[]
 |v::vs=>v.mapv f::mapL f vs
end
def AV.idof:AV→Option Nat
 | .own _ id | .osl _ id _ _ | .ref id _ | .mref id | .yld id=>some id
 |_=>none
def pnoid (x:AV):Bool:=match x with
 | .own _ _ | .osl _ _ _ _ | .ref _ _ | .mref _ | .yld _ | .unk=>false
 |_=>true
def pidlt (n:Nat) (x:AV):Bool:=match x with
 | .own _ id | .osl _ id _ _ | .ref id _ | .mref id | .yld id=>decide (id<n)
 |_=>true
def pnoinl (x:AV):Bool:=match x with
 | .vec _ _ | .box _ | .mp _ _=>false
 |_=>true
def pnoimm (x:AV):Bool:=match x with
 | .sl _ _ | .ip _=>false
 |_=>true
def noid (x:AV):Bool:=x.allv pnoid
def noidL (l:List AV):Bool:=allL pnoid l
def idlt (n:Nat) (x:AV):Bool:=x.allv (pidlt n)
def idltL (n:Nat) (l:List AV):Bool:=allL (pidlt n) l
def noinl (x:AV):Bool:=x.allv pnoinl
def noinlL (l:List AV):Bool:=allL pnoinl l
def noimm (x:AV):Bool:=x.allv pnoimm
def ren1 (r:Nat→Nat) (x:AV):AV:=match x with
 | .own sz id=>.own sz (r id)
 | .osl sz id o n=>.osl sz (r id) o n
 | .ref id off=>.ref (r id) off
 | .mref id=>.mref (r id)
 | .yld id=>.yld (r id)
 |x=>x
def ren (r:Nat→Nat) (x:AV):AV:=x.mapv (ren1 r)
def renL (r:Nat→Nat) (l:List AV):List AV:=mapL (ren1 r) l
def frz1 (x:AV):AV:=match x with
 | .vec sz cs=>.sl sz cs
 | .box cs=>.ip cs
 |x=>x
def frz (x:AV):AV:=x.mapv frz1
def frzL (l:List AV):List AV:=mapL frz1 l
mutual
def AV.ids:AV→List Nat
 | .own _ id | .osl _ id _ _ | .ref id _ | .mref id | .yld id=>[id]
 | .sl _ cs | .ip cs | .vec _ cs | .box cs | .agg cs | .tup cs=>idsL cs
 | .mp ks vs | .clo _ ks vs=>idsL ks++idsL vs
 | .ifc _ v=>v.ids
 |_=>[]
def idsL:List AV→List Nat
 | []=>[]
 |v::vs=>v.ids++idsL vs
end
def Blk.cells:Blk→Option (List AV)
 | .row _ cs=>some cs
 |_=>none
def rowc (hp:List Blk) (id:Nat):Option (List AV):=(hp[id]?).bind Blk.cells
def part (sz o n:Nat) (cs:List AV):Option (List AV):=if (o+n)*sz≤cs.length then some ((cs.drop (o*sz)).take (n*sz)) else none
def slc (hp:List Blk) (sz:Nat):AV→Option (List AV)
 | .nils=>some []
 | .sl s cs=>if s=sz∨cs=[] then some cs else none
 | .own s id=>if s=sz then rowc hp id else none
 | .osl s id o n=>if s=sz then (rowc hp id).bind (part sz o n) else none
 |_=>none
def sln (hp:List Blk):AV→Option Nat
 | .nils=>some 0
 | .sl sz cs=>some (cs.length / sz)
 | .own sz id=>(rowc hp id).map fun cs=>cs.length / sz
 | .osl _ _ _ n=>some n
 |_=>none
mutual
def fz (hp:List Blk):AV→Option AV
 | .nils=>some (.sl 1 [])
 | .own sz id=>(rowc hp id).bind fun cs=>if noidL cs then some (.sl sz (frzL cs)) else none
 | .osl sz id o n=>(rowc hp id).bind fun cs=>(part sz o n cs).bind fun cs=>if noidL cs then some (.sl sz (frzL cs)) else none
 | .ref id off=>(rowc hp id).bind fun cs=>if noidL cs∧off≤cs.length then some (.ip (frzL (cs.drop off))) else none
 | .sl sz cs=>if noidL cs then some (.sl sz cs) else none
 | .ip cs=>if noidL cs then some (.ip cs) else none
 | .agg cs=>(fzL hp cs).map .agg
 | .tup cs=>(fzL hp cs).map .tup
 | .clo f fs cs=>(fzL hp fs).bind fun a=>(fzL hp cs).map (.clo f a)
 | .ifc t v=>(fz hp v).map (.ifc t)
 | .unk | .mref _ | .yld _ | .vec _ _ | .box _ | .mp _ _=>none
 |v=>some v
def fzL (hp:List Blk):List AV→Option (List AV)
 | []=>some []
 |v::vs=>(fz hp v).bind fun v'=>(fzL hp vs).map (v'::·)
end
mutual
def pk (n:Nat) (hp:List Blk):AV→Option (AV × List Blk)
 | .own sz id=>if id<n then some (.own sz id,hp) else match hp[id]? with
  |some (.row false cs)=>if noidL cs then some (.vec sz cs,hp.set id .dead) else none
  |some (.row true cs)=>if noidL cs && noinlL cs then some (.sl sz cs,hp) else none
  |_=>none
 | .osl sz id o k=>if id<n then some (.osl sz id o k,hp) else match hp[id]? with
  |some (.row false cs)=>if noidL cs∧o=0∧k*sz≤cs.length then some (.vec sz (cs.take (k*sz)),hp.set id .dead) else none
  |some (.row true cs)=>(part sz o k cs).bind fun cs=>if noidL cs && noinlL cs then some (.sl sz cs,hp) else none
  |_=>none
 | .ref id off=>if id<n then some (.ref id off,hp) else match hp[id]? with
  |some (.row false cs)=>if noidL cs∧off=0 then some (.box cs,hp.set id .dead) else none
  |some (.row true cs)=>if noidL cs && noinlL cs then some (.ip (cs.drop off),hp) else none
  |_=>none
 | .mref id=>if id<n then some (.mref id,hp) else none
 | .yld id=>if id<n then some (.yld id,hp) else none
 | .agg cs=>(pkL n hp cs).map fun r=>(.agg r.1,r.2)
 | .tup cs=>(pkL n hp cs).map fun r=>(.tup r.1,r.2)
 | .clo f fs cs=>(pkL n hp fs).bind fun a=>(pkL n a.2 cs).map fun b=>(.clo f a.1 b.1,b.2)
 | .ifc t v=>(pk n hp v).map fun r=>(.ifc t r.1,r.2)
 | .unk=>none
 |v=>some (v,hp)
def pkL (n:Nat) (hp:List Blk):List AV→Option (List AV × List Blk)
 | []=>some ([],hp)
 |v::vs=>(pk n hp v).bind fun a=>(pkL n a.2 vs).map fun b=>(a.1::b.1,b.2)
end
def pks (hp:List Blk):AV→Option (AV × List Blk)
 | .ref id off=>some (.ref id off,hp)
 | .mref id=>some (.mref id,hp)
 | .yld id=>some (.yld id,hp)
 | .clo f fs cs=>some (.clo f fs cs,hp)
 | .unk=>none
 |v=>pk 0 hp v
def pksL (hp:List Blk):List AV→Option (List AV × List Blk)
 | []=>some ([],hp)
 |v::vs=>(pks hp v).bind fun a=>(pksL a.2 vs).map fun b=>(a.1::b.1,b.2)
mutual
def thaw (hp:List Blk):AV→AV × List Blk
 | .vec sz cs=>(.own sz hp.length,hp++[.row false cs])
 | .box cs=>(.ref hp.length 0,hp++[.row false cs])
 | .agg cs=>let r:=thawL hp cs;(.agg r.1,r.2)
 | .tup cs=>let r:=thawL hp cs;(.tup r.1,r.2)
 | .clo f fs cs=>let a:=thawL hp fs;let b:=thawL a.2 cs;(.clo f a.1 b.1,b.2)
 | .ifc t v=>let r:=thaw hp v;(.ifc t r.1,r.2)
 |v=>(v,hp)
def thawL (hp:List Blk):List AV→List AV × List Blk
 | []=>([],hp)
 |v::vs=>let r:=thaw hp v;let q:=thawL r.2 vs;(r.1::q.1,q.2)
end
def Blk.still:Blk→Blk
 | .row _ cs=>.row true (frzL cs)
 |b=>b
def still (hp:List Blk):List Nat→List Blk
 | []=>hp
 |id::l=>still (hp.modify id Blk.still) l
def byteL:List AV→Option (List UInt8)
 | []=>some []
 | .int .u8 n::l=>(byteL l).map (UInt8.ofNat n.toNat::·)
 |_=>none
def tile:Nat→List AV→List AV
 |0,_=>[]
 |n+1,z=>z++tile n z
mutual
def aeq:AV→AV→Option Bool
 | .int k a,.int k' b=>if k=k' then some (a == b) else none
 | .bool a,.bool b=>some (a == b)
 | .str a,.str b=>some (a == b)
 |_,_=>none
def aeqL:List AV→List AV→Option Bool
 | [],[]=>some true
 |a::as,b::bs=>(aeq a b).bind fun x=>(aeqL as bs).map (x && ·)
 |_,_=>none
end
def digA:AV→Nat
 | .int _ _=>0
 | .bool _=>1
 |_=>2
def encA:List AV→Nat
 | []=>0
 |x::xs=>1+digA x+3*encA xs
def keq:AV→AV→Option Bool
 | .agg a,.agg b=>aeqL a b
 |x,y=>aeq x y
def leafc:AV→Bool
 | .int _ _ | .bool _ | .str _=>true
 |_=>false
def kOk (kc:Nat):AV→Bool
 | .int _ _=>kc == 1
 | .str _=>kc == 2
 | .agg cs=>kc == 3+encA cs && cs.all leafc
 |_=>false
def kfind (k:AV):List AV→Option (Option Nat)
 | []=>some none
 |x::xs=>(keq k x).bind fun b=>if b then some (some 0) else (kfind k xs).map (Option.map (·+1))
def kget (kc:Nat) (k:AV) (ks:List AV):Option (Option Nat):=if kOk kc k then kfind k ks else none
def tellK (ok:Bool) (v:AV) (b:Bool):AV:=if ok then .tup [v,.bool b] else v
def abin (tc:Nat) (op:BinOp):AV→AV→Option AV
 | .int k a,.int k' b=>
  match op with
  | .shl=>if b<0 then none else some (.int k (k.wrap (a*2 ^ (min b.toNat k.bits))))
  | .shr=>if b<0 then none else some (.int k (a.fdiv (2 ^ (min b.toNat k.bits))))
  |_=>if k=k' then
   match op with
   | .add=>some (.int k (k.wrap (a+b)))
   | .sub=>some (.int k (k.wrap (a - b)))
   | .mul=>some (.int k (k.wrap (a*b)))
   | .quo=>if b=0 then none else some (.int k (k.wrap (a.tdiv b)))
   | .rem=>if b=0 then none else some (.int k (a.tmod b))
   | .eql=>some (.bool (a == b))
   | .neq=>some (.bool (a != b))
   | .lss=>some (.bool (decide (a<b)))
   | .leq=>some (.bool (decide (a≤b)))
   | .gtr=>some (.bool (decide (b<a)))
   | .geq=>some (.bool (decide (b≤a)))
   | .and=>some (.int k (Go.bits .and k a b))
   | .or=>some (.int k (Go.bits .or k a b))
   | .xor=>some (.int k (Go.bits .xor k a b))
   |_=>none
  else none
 | .str a,.str b=>
  match op with
  | .add=>if a.length+b.length≤9223372036854775807 then some (.str (a++b)) else none
  | .eql=>some (.bool (a == b))
  | .neq=>some (.bool (!(a == b)))
  | .lss=>some (.bool (Op.bytesLess a b))
  | .leq=>some (.bool (Op.bytesLess a b || a == b))
  | .gtr=>some (.bool !(Op.bytesLess a b || a == b))
  | .geq=>some (.bool !(Op.bytesLess a b))
  |_=>none
 | .bool a,.bool b=>
  if tc≠1 then none else
  match op with
  | .eql=>some (.bool (a == b))
  | .neq=>some (.bool (!(a == b)))
  |_=>none
 | .agg a,.agg b=>
  if tc≠3+encA a then none else
  match op with
  | .eql=>(aeqL a b).map .bool
  | .neq=>(aeqL a b).map fun x=>.bool !x
  |_=>none
 | .nilp,.nilp=>if tc≠2 then none else match op with | .eql=>some (.bool true) | .neq=>some (.bool false) | _=>none
 | .ref _ _,.nilp=>if tc≠2 then none else match op with | .eql=>some (.bool false) | .neq=>some (.bool true) | _=>none
 | .ip _,.nilp=>if tc≠2 then none else match op with | .eql=>some (.bool false) | .neq=>some (.bool true) | _=>none
 |_,_=>none
def cut (n c:Nat):Option AV→Option AV→Option (Nat × Nat)
 |none,none=>some (0,n)
 |some (.int _ l),none=>if 0≤l∧l≤n then some (l.toNat,n) else none
 |none,some (.int _ h)=>if 0≤h∧h≤c then some (0,h.toNat) else none
 |some (.int _ l),some (.int _ h)=>if 0≤l∧l≤h∧h≤c then some (l.toNat,h.toNat) else none
 |_,_=>none
def cut3 (n c:Nat) (lo hi mx:Option AV):Option (Nat × Nat):=
 match mx with
 |none=>cut n c lo hi
 |some (.int _ m)=>if m=n∧hi.isSome=true then cut n n lo hi else none
 |_=>none
def parts (ev:SX→AV):List (Nat × Nat × SX)→List AV→Option (List AV)
 | [],cs=>some cs
 | (o,s,x)::ps,cs=>
  let u:=(ev x).cells
  if u.length=s∧o+s≤cs.length∧u.all AV.okc=true then parts ev ps (setAll cs o u) else none
def unpk (hp:List Blk):List AV→List AV × List Blk
 | []=>([],hp)
 | .vec sz cs::l=>let r:=unpk (hp++[.row false cs]) l;(.own sz hp.length::r.1,r.2)
 | .box cs::l=>let r:=unpk (hp++[.row false cs]) l;(.ref hp.length 0::r.1,r.2)
 |x::l=>let r:=unpk hp l;(x::r.1,r.2)
def headOf:AV→Option (Nat × Nat × Nat × Option Nat)
 | .own sz id=>some (sz,id,0,none)
 | .osl sz id o n=>some (sz,id,o,some n)
 |_=>none
def cnt:Option Nat→Nat
 |none=>1
 |some k=>k
def astep (hp:List Blk) (ev:SX→AV):SO→Option (AV × List Blk)
 | .move x=>some (ev x,hp)
 | .pick c a b=>match ev c with | .bool t=>some (if t then ev a else ev b,hp) | _=>none
 | .box n x=>(pksL hp (ev x).cells).bind fun r=>if r.1.length=n∧r.1.all AV.okc=true then some (.ref r.2.length 0,r.2++[.row false r.1]) else none
 | .alloc z=>some (.ref hp.length 0,hp++[.row false z])
 | .build z ps=>(parts ev ps z).map fun cs=>(.agg cs,hp)
 | .lit m z sz len ps=>(parts ev ps (tile len z)).bind fun cs=>
  if m then (pksL hp cs).map fun r=>(.own sz r.2.length,r.2++[.row false r.1])
  else if noidL cs then some (.sl sz cs,hp) else none
 | .load u n x=>match ev x with
  | .ip cs=>(rdc cs n).map (·,hp)
  | .ref id o=>match hp[id]? with
   |some (.row fr cs)=>
    if u then (if fr=false∧o+cnt n≤cs.length then let r:=unpk (hp.set id .dead) ((cs.drop o).take (cnt n));if noinlL r.1 then (rdc r.1 n).map (·,r.2.set id (.row false (setAll cs o r.1))) else none else none)
    else (rdc (cs.drop o) n).bind fun v=>if noinl v then some (v,hp) else none
   |_=>none
  |_=>none
 | .store mv n x v=>match ev x with
  | .ref id o=>(if mv then pkL 0 hp (ev v).cells else pksL hp (ev v).cells).bind fun r=>match r.2[id]? with
   |some (.row false cs)=>if r.1.length=n∧o+n≤cs.length∧r.1.all AV.okc=true then some (.tup [],r.2.set id (.row false (setAll cs o r.1))) else none
   |_=>none
  |_=>none
 | .nilCheck x=>match ev x with
  | .ref id o=>some (.ref id o,hp)
  | .ip cs=>some (.ip cs,hp)
  | .clo f fs cs=>some (.clo f fs cs,hp)
  | .yld id=>some (.yld id,hp)
  |_=>none
 | .bin tc op x y=>(abin tc op (ev x) (ev y)).map (·,hp)
 | .isnil neg x=>match ev x with
  | .nils=>some (.bool !neg,hp)
  | .sl _ cs=>some (.maybe cs.isEmpty neg,hp)
  | .own _ id=>(rowc hp id).map fun cs=>(.maybe cs.isEmpty neg,hp)
  | .osl _ _ _ n=>some (.maybe (n == 0) neg,hp)
  |_=>none
 | .un op x=>match op,ev x with
  | .not,.bool b=>some (.bool !b,hp)
  | .neg,.int k n=>some (.int k (k.wrap (0 - n)),hp)
  |_,_=>none
 | .conv k x=>match ev x with
  | .int _ n=>some (.int k (k.wrap n),hp)
  |_=>none
 | .same x=>match ev x with
  | .str s=>some (.str s,hp)
  |_=>none
 | .fieldAddr o x=>match ev x with
  | .ip cs=>some (.ip (cs.drop o),hp)
  | .ref id off=>some (.ref id (off+o),hp)
  |_=>none
 | .field n o x=>match ev x with
  | .agg cs=>(rdc (cs.drop o) n).map (·,hp)
  |_=>none
 | .indexAddr sz x i=>match ev x,ev i with
  | .sl s cs,.int _ i=>if s=sz then (if 0≤i∧i<((cs.length / sz:Nat):Int) then some (.ip (cs.drop (i.toNat*sz)),hp) else none) else none
  | .own s id,.int _ i=>(rowc hp id).bind fun cs=>if s=sz then (if 0≤i∧i<((cs.length / sz:Nat):Int) then some (.ref id (i.toNat*sz),hp) else none) else none
  | .osl s id o n,.int _ i=>if s=sz then (if 0≤i∧i<n then some (.ref id (o*sz+i.toNat*sz),hp) else none) else none
  |_,_=>none
 | .indexArr len sz x i=>match ev x,ev i with
  | .ip cs,.int _ i=>if 0≤i∧i<len then some (.ip (cs.drop (i.toNat*sz)),hp) else none
  | .ref id off,.int _ i=>if 0≤i∧i<len then some (.ref id (off+i.toNat*sz),hp) else none
  |_,_=>none
 | .indexV q len sz x i=>match ev x,ev i with
  | .agg cs,.int _ i=>if 0≤i∧i<len then (rdc (cs.drop (i.toNat*sz)) q).map (·,hp) else none
  |_,_=>none
 | .stuck=>none
 | .index x i=>match ev x,ev i with
  | .str s,.int _ i=>if 0≤i∧i<s.length then (s[i.toNat]?).map fun b=>(.int .u8 b.toNat,hp) else none
  |_,_=>none
 | .slice sz x lo hi mx=>match ev x with
  | .nils=>if mx.isSome then none else (cut3 0 0 (lo.map ev) (hi.map ev) (mx.map ev)).map fun _=>(.nils,hp)
  | .sl s cs=>if s=sz∨cs=[] then (cut3 (cs.length / sz) (cs.length / sz) (lo.map ev) (hi.map ev) (mx.map ev)).map fun r=>(.sl sz ((cs.drop (r.1*sz)).take ((r.2 - r.1)*sz)),hp) else none
  | .own s id=>if s=sz then (rowc hp id).bind fun cs=>(cut3 (cs.length / sz) (cs.length / sz) (lo.map ev) (hi.map ev) (mx.map ev)).map fun r=>(if mx.isSome then .any else .osl sz id r.1 (r.2 - r.1),hp) else none
  | .osl s id o n=>if s=sz then (rowc hp id).bind fun cs=>if n≤cs.length / sz - o then (cut3 n (cs.length / sz - o) (lo.map ev) (hi.map ev) (mx.map ev)).map fun r=>(if mx.isSome then .any else .osl sz id (o+r.1) (r.2 - r.1),hp) else none else none
  |_=>none
 | .slices x lo hi=>match ev x with
  | .str s=>(cut s.length s.length (lo.map ev) (hi.map ev)).map fun r=>(.str ((s.drop r.1).take (r.2 - r.1)),hp)
  |_=>none
 | .extract i x=>match ev x with
  | .tup vs=>(vs[i]?).map (·,hp)
  |_=>none
 | .len s x=>match ev x with
  | .str l=>if s then some (.int .i64 (l.length:Int),hp) else none
  |v=>if s then none else (sln hp v).map fun (n:Nat)=>(AV.int .i64 (n:Int),hp)
 | .append sz bytes s x=>(slc hp sz (ev x)).bind fun xs=>
  match ev s with
  | .nils=>if noinlL xs then (if xs.length / sz*bytes≤140737488355328 then some (.own sz hp.length,hp++[.row false xs]) else none)
   else match ev x with
    | .own _ j=>if (hp[j]?).any (fun b=>match b with | .row false _=>true | _=>false)∧xs.length / sz*bytes≤140737488355328 then some (.own sz hp.length,hp.set j .dead++[.row false xs]) else none
    |_=>none
  | .own s' id=>match hp[id]? with
   |some (.row false cs)=>if s'=sz then (if (cs.length / sz+xs.length / sz)*bytes≤140737488355328 then
     (if noinlL xs then some (.own sz hp.length,hp.set id .dead++[.row false (cs++xs)])
     else match ev x with
      | .own _ j=>if j≠id∧(hp[j]?).any (fun b=>match b with | .row false _=>true | _=>false) then some (.own sz hp.length,(hp.set id .dead).set j .dead++[.row false (cs++xs)]) else none
      |_=>none) else none) else none
   |_=>none
  | .osl s' id o n=>match hp[id]? with
   |some (.row false cs)=>if s'=sz∧o=0∧n*sz+xs.length≤cs.length then
     (if noinlL xs then some (.osl sz id 0 (n+xs.length / sz),hp.set id (.row false (setAll cs (n*sz) xs)))
     else match ev x with
      | .osl _ j o2 _=>if j=id then some (.osl sz id 0 (n+xs.length / sz),hp.set id (.row false (setAll (setAll cs (o2*sz) (List.replicate xs.length .any)) (n*sz) xs))) else none
      |_=>none) else none
   |_=>none
  |_=>none
 | .make z bytes n=>match ev n with
  | .int _ n=>if 0≤n∧n*bytes≤140737488355328 then some (.own z.length hp.length,hp++[.row false (tile n.toNat z)]) else none
  |_=>none
 | .clear z x=>match ev x with
  | .nils=>some (.tup [],hp)
  | .own sz id=>match hp[id]? with
   |some (.row false cs)=>if sz=z.length then some (.tup [],hp.set id (.row false (tile (cs.length / sz) z))) else none
   |_=>none
  | .osl sz id o n=>match hp[id]? with
   |some (.row false cs)=>if sz=z.length∧(o+n)*sz≤cs.length then some (.tup [],hp.set id (.row false (setAll cs (o*sz) (tile n z)))) else none
   |_=>none
  |_=>none
 | .copy sz s x=>(slc hp sz (ev x)).bind fun xs=>match headOf (ev s) with
  |some (s',id,o,k)=>match hp[id]? with
   |some (.row false cs)=>if s'=sz∧(o+k.getD (cs.length / sz))*sz≤cs.length∧noinlL xs=true then some (.int .i64 ((min (k.getD (cs.length / sz)) (xs.length / sz):Nat):Int),hp.set id (.row false (setAll cs (o*sz) (xs.take (k.getD (cs.length / sz)*sz))))) else none
   |_=>none
  |none=>match ev s with
   | .nils=>some (.int .i64 0,hp)
   |_=>none
 | .mm mx x y=>match ev x,ev y with
  | .int k a,.int k' b=>if k=k' then some (.int k (if mx then max a b else min a b),hp) else none
  |_,_=>none
 | .fn f fs cs=>some (.clo f (fs.map ev) (cs.map ev),hp)
 | .iface t x=>some (.ifc t (ev x),hp)
 | .assert t x=>match ev x with
  | .ifc t' v=>if t'=t then some (v,hp) else none
  |_=>none
 | .mkmap=>some (.mref hp.length,hp++[.mp [] []])
 | .look u kc z ok x i=>match ev x with
  | .mref id=>match hp[id]? with
   |some (.mp ks vs)=>(kget kc (ev i) ks).bind fun f=>match f with
    |none=>some (tellK ok z false,hp)
    |some j=>(vs[j]?).bind fun y=>
     if u then (match unpk (hp.set id .dead) [y] with
      | ([y'],hp1)=>if noinl y' then some (tellK ok y' true,hp1.set id (.mp ks (vs.set j y'))) else none
      |_=>none)
     else if noinl y then some (tellK ok y true,hp) else none
   |_=>none
  |_=>none
 | .upd kc x k v=>match ev x with
  | .mref id=>(pks hp (ev v)).bind fun r=>match r.2[id]? with
   |some (.mp ks vs)=>(kget kc (ev k) ks).map fun f=>match f with
    |none=>(.tup [],r.2.set id (.mp (ks++[ev k]) (vs++[r.1])))
    |some j=>(.tup [],r.2.set id (.mp ks (vs.set j r.1)))
   |_=>none
  |_=>none
 | .rng x=>match ev x with
  | .mref id=>match hp[id]? with
   |some (.mp ks _)=>some (.ref hp.length 0,hp++[.it id ks.length []])
   |_=>none
  |_=>none
 | .entry x=>match ev x with
  | .ref id 0=>match hp[id]? with
   |some (.it mid n seen)=>match hp[mid]? with
    |some (.mp ks vs)=>if ks.length=n then (seen.getLast?).bind fun i=>(ks[i]?).bind fun k=>(vs[i]?).map fun y=>(.tup [k,if noinl y then y else .unk],hp) else none
    |_=>none
   |_=>none
  |_=>none
 | .appz z bytes s n=>match ev s,ev n with
  | .nils,.int _ n=>if 0<n∧n*bytes≤140737488355328 then some (.own z.length hp.length,hp++[.row false (tile n.toNat z)]) else none
  |_,_=>none
 | .cap x=>match ev x with
  | .nils=>some (.int .i64 0,hp)
  |_=>none
 | .text x=>(slc hp 1 (ev x)).bind fun cs=>(byteL cs).map fun b=>(.str b,hp)
 | .room z bytes n=>match ev n with
  | .int _ n=>if 0≤n∧n*bytes≤140737488355328 then some (.own z.length hp.length,hp++[.row false []]) else none
  |_=>none
 | .call _ _ _ | .callf _ _ _ | .invoke _ _ _ _ | .next _=>none
def moved (o:Nat):AV→Option AV
 | .ip cs=>some (.ip (cs.drop o))
 | .ref id off=>some (.ref id (off+o))
 |_=>none
def rcv (hp:List Blk):RK→AV→Option (AV × List Blk)
 | .ptr o,v=>(moved o v).map (·,hp)
 | .val o n,v=>(moved o v).bind fun v'=>astep hp (fun _=>v') (.load true n (.tmp 0))
def mlk:List (Nat × Nat × RK)→Nat→Option (Nat × RK)
 | [],_=>none
 | (t,q)::l,s=>if t=s then some q else mlk l s
def St.put (st:St) (d:Option Nat) (v:AV) (hp:List Blk):St:=
 match d with
 |some d=>⟨(d,v)::st.env,hp,st.lo,st.mks⟩
 |none=>⟨st.env,hp,st.lo,st.mks⟩
def keepEnv (env:List (Nat × AV)):List Nat→List (Nat × AV)
 | []=>[]
 |s::l=>(s,lk env s)::keepEnv env l
def swp (i j k:Nat):Nat:=if k=i then j else if k=j then i else k
def swapBl {α:Type} (i j:Nat) (l:List α):List α:=
 match l[i]?,l[j]? with
 |some a,some b=>(l.set i b).set j a
 |_,_=>l
def renEnv (r:Nat→Nat) (env:List (Nat × AV)):List (Nat × AV):=env.map fun p=>(p.1,ren r p.2)
def Blk.ren (r:Nat→Nat):Blk→Blk
 | .dead=>.dead
 | .row fr cs=>.row fr (renL r cs)
 | .mp ks vs=>.mp (renL r ks) (renL r vs)
 | .it mid n seen=>.it (r mid) n seen
 | .lp st env ps asg body j=>.lp st (renEnv r env) ps asg body j
def Blk.idlt (n:Nat):Blk→Bool
 | .dead=>true
 | .row _ cs=>idltL n cs
 | .mp ks vs=>idltL n ks && idltL n vs
 | .it mid _ _=>decide (mid<n)
 | .lp _ env _ _ _ _=>env.all fun p=>Proofs.Ytfbfbennheeglaa.idlt n p.2
def swapSt (st:St) (s h:Nat):Option St:=
 match (lk st.env s).idof with
 |some id=>if id=h then some st else
   if id<st.hp.length∧h<st.hp.length∧st.lo≤id∧st.lo≤h then some ⟨renEnv (swp id h) st.env,(swapBl id h st.hp).map (Blk.ren (swp id h)),st.lo,st.mks⟩ else none
 |none=>some st
def swapAll:List (Nat × Nat)→St→Option St
 | [],st=>some st
 | (s,h)::l,st=>(swapSt st s h).bind (swapAll l)
def tidy (n:Nat) (hp:List Blk) (i:Nat):Nat→Option (List Blk)
 |0=>some hp
 |k+1=>match hp[i]? with
  |some (.row false cs)=>if idltL n cs then tidy n hp (i+1) k else (pkL n (hp.set i .dead) cs).bind fun r=>if r.1.all AV.okc=true then tidy n (r.2.set i (.row false r.1)) (i+1) k else none
  |_=>tidy n hp (i+1) k
def trim (n:Nat) (st:St):Option St:=
 (tidy n st.hp 0 n).bind fun hp=>
 if st.lo≤n∧n≤hp.length∧(st.env.all fun p=>idlt n p.2)=true∧((hp.take n).all fun b=>b.idlt n)=true then some ⟨st.env,hp.take n,st.lo,st.mks⟩ else none
def homesOf (env:List (Nat × AV)):List Nat→List (Nat × Nat)
 | []=>[]
 |s::l=>match (lk env s).idof with
  |some id=>(s,id)::homesOf env l
  |none=>homesOf env l
def lkm:List Mark→Nat→Option ((Nat × List Nat × List (Nat × Nat)) × List Mark)
 | [],_=>none
 | (d,v)::l,s=>if d=s then some (v,(d,v)::l) else lkm l s
def ghost:SG→St→Option St
 | .own sz s,st=>match lk st.env s with
  | .nils=>some ⟨(s,.own sz st.hp.length)::st.env,st.hp++[.row false []],st.lo,st.mks⟩
  |_=>some st
 | .ownb sz s off,st=>match lk st.env s with
  | .ref id o=>match st.hp[id]? with
   |some (.row false cs)=>match cs[o+off]? with
    |some .nils=>some ⟨st.env,st.hp.set id (.row false (cs.set (o+off) (.vec sz []))),st.lo,st.mks⟩
    |_=>some st
   |_=>some st
  |_=>some st
 | .whole s,st=>match lk st.env s with
  | .osl sz id o n=>match st.hp[id]? with
   |some (.row false cs)=>if o=0∧n*sz≤cs.length then some ⟨(s,.own sz st.hp.length)::st.env,st.hp.set id .dead++[.row false (cs.take (n*sz))],st.lo,st.mks⟩ else none
   |_=>none
  |_=>some st
 | .part s,st=>match lk st.env s with
  | .own sz id=>match st.hp[id]? with
   |some (.row _ cs)=>if 0<sz then some ⟨(s,.osl sz id 0 (cs.length / sz))::st.env,st.hp,st.lo,st.mks⟩ else none
   |_=>none
  |_=>some st
 | .keep l,st=>some ⟨keepEnv st.env l,st.hp,st.lo,st.mks⟩
 | .push lid keep,st=>some ⟨keepEnv st.env keep,st.hp,st.lo,(lid,st.hp.length,keep,homesOf st.env keep)::st.mks⟩
 | .norm lid,st=>(lkm st.mks lid).bind fun r=>(swapAll r.1.2.2 ⟨keepEnv st.env r.1.2.1,st.hp,st.lo,r.2⟩).bind (trim r.1.1)
 | .cut,st=>trim st.lo ⟨[],st.hp,st.lo,[]⟩
 | .opnA s t o,st=>match lk st.env s,lk st.env t with
  | .own _ id,.ref id2 o2=>match st.hp[id]?,(rowc st.hp id2).bind fun c=>c[o2+o]? with
   |some (.row false cs),some (.int _ i)=>if i.toNat<cs.length∧noinlL (unpk (st.hp.set id .dead) ((cs.drop i.toNat).take 1)).1=true then some ⟨st.env,(unpk (st.hp.set id .dead) ((cs.drop i.toNat).take 1)).2.set id (.row false (setAll cs i.toNat (unpk (st.hp.set id .dead) ((cs.drop i.toNat).take 1)).1)),st.lo,st.mks⟩ else none
   |_,_=>some st
  |_,_=>some st
 | .opnM s t u,st=>match lk st.env s,lk st.env t,lk st.env u with
  | .own _ id,.int _ i,.int _ m=>match st.hp[id]? with
   |some (.row false cs)=>if (i % m).toNat<cs.length∧noinlL (unpk (st.hp.set id .dead) ((cs.drop (i % m).toNat).take 1)).1=true then some ⟨st.env,(unpk (st.hp.set id .dead) ((cs.drop (i % m).toNat).take 1)).2.set id (.row false (setAll cs (i % m).toNat (unpk (st.hp.set id .dead) ((cs.drop (i % m).toNat).take 1)).1)),st.lo,st.mks⟩ else none
   |_=>some st
  |_,_,_=>some st
 | .opnF s o t,st=>match lk st.env s,lk st.env t with
  | .ref id o2,.int _ i=>match st.hp[id]? with
   |some (.row false ds)=>match ds[o2+o]? with
    |some (.own _ id2)=>match st.hp[id2]? with
     |some (.row false cs)=>if i.toNat<cs.length∧noinlL (unpk (st.hp.set id2 .dead) ((cs.drop i.toNat).take 1)).1=true then some ⟨st.env,(unpk (st.hp.set id2 .dead) ((cs.drop i.toNat).take 1)).2.set id2 (.row false (setAll cs i.toNat (unpk (st.hp.set id2 .dead) ((cs.drop i.toNat).take 1)).1)),st.lo,st.mks⟩ else none
     |_=>some st
    |_=>some st
   |_=>some st
  |_,_=>some st
 | .frzm s,st=>match lk st.env s with
  | .mref id=>match st.hp[id]? with
   |some (.mp ks vs)=>if noidL vs then some ⟨st.env,st.hp.set id (.mp ks (frzL vs)),st.lo,st.mks⟩ else none
   |_=>some st
  |_=>some st
 | .pkb s,st=>match lk st.env s with
  | .ref id _=>(tidy 0 st.hp id 1).map fun hp=>⟨st.env,hp,st.lo,st.mks⟩
  |_=>some st
 | .opn s,st=>match lk st.env s with
  | .ref id _=>match st.hp[id]? with
   |some (.row false cs)=>if noinlL (unpk (st.hp.set id .dead) cs).1=true then some ⟨st.env,(unpk (st.hp.set id .dead) cs).2.set id (.row false (unpk (st.hp.set id .dead) cs).1),st.lo,st.mks⟩ else none
   |_=>some st
  |_=>some st
inductive Job where
 |stmt (s:Stmt) (st:St)
 |ops (d:Bool) (l:List SOp) (st:St)
 |op (d:Bool) (o:SOp) (st:St)
 |call (f:Nat) (as:List AV) (hp:List Blk)
 |round (id:Nat) (as:List AV) (hp:List Blk)
abbrev Res:=AX × St
def wanted (env:List (Nat × AV)):Option (Nat × Bool)→Option Bool
 |none=>some true
 |some (t,b)=>match lk env t with
  | .bool c=>some (c == b)
  | .tup []=>some false
  |_=>none
def bindParams:Nat→List AV→List (Nat × AV)
 |_,[]=>[]
 |i,v::vs=>(i,v)::bindParams (i+1) vs
def bindTo:List Nat→List AV→List (Nat × AV)→List (Nat × AV)
 |p::ps,v::vs,env=>bindTo ps vs ((p,v)::env)
 |_,_,env=>env
def rvv (env:List (Nat × AV)) (hp:List Blk):RV→Option AV
 | .tmp t=>some (lk env t)
 | .cell t n=>match lk env t with
  | .ref id o=>(rowc hp id).bind fun cs=>(rdc (cs.drop o) n).bind fun v=>if noinl v then some v else none
  |_=>none
def nz1 (sz:Nat) (imm:Bool):AV→AV
 | .nils=>if imm then .sl sz [] else .vec sz []
 |x=>x
def nzc:List (Nat × Nat × Bool)→List AV→List AV
 | [],cs=>cs
 | (i,sz,imm)::l,cs=>nzc l (match cs[i]? with | some x=>cs.set i (nz1 sz imm x) | none=>cs)
def nz (sh:List (Nat × Nat × Bool)):AV→AV
 | .agg cs=>.agg (nzc sh cs)
 |v=>match sh with | (_,sz,imm)::_=>nz1 sz imm v | []=>v
def immIds:List (Nat × Nat × Bool)→List AV→List Nat
 | [],_=>[]
 | (i,_,imm)::l,cs=>(if imm then (match cs[i]? with | some x=>x.ids | none=>[]) else [])++immIds l cs
def rvs (env:List (Nat × AV)) (hp:List Blk):List RS→Option (List AV)
 | []=>some []
 |r::l=>(rvv env hp r.rv).bind fun v=>(rvs env hp l).map (nz r.sh v::·)
def tupv:List AV→AV
 | [v]=>v
 |l=>.tup l
def results (env:List (Nat × AV)) (hp:List Blk) (l:List RS):Option AV:=(rvs env hp l).map tupv
def rsIds (env:List (Nat × AV)) (hp:List Blk):List RS→List Nat
 | []=>[]
 |r::l=>(match rvv env hp r.rv with | some v=>immIds r.sh v.cells | none=>[])++rsIds env hp l
def fin (n:Nat) (hp:List Blk) (v:AV):Option (AV × List Blk):=
 (tidy n hp 0 n).bind fun hp1=>(pk n hp1 v).bind fun r=>
  if n≤r.2.length∧idlt n r.1=true∧((r.2.take n).all fun b=>b.idlt n)=true then some (r.1,r.2.take n) else none
def callRes (f:Job→Option Res) (T:Nat→Option Entry) (k:Nat) (as:List AV) (hps:List Blk):Option (AV × List Blk):=
 match T k with
 |some (.orc g)=>g as hps
 |some (.fn _)=>(f (.call k as hps)).bind fun r=>fin hps.length r.2.hp (lk r.2.env 0)
 |none=>none
def dedup:List Nat→List Nat→List Nat
 | [],acc=>acc.reverse
 |x::xs,acc=>dedup xs (if acc.contains x then acc else x::acc)
def idxOf (l:List Nat) (x:Nat):Nat:=match l with
 | []=>0
 |y::l=>if y=x then 0 else idxOf l x+1
def subHp (hp:List Blk):List Nat→Option (List Blk)
 | []=>some []
 |id::l=>match hp[id]? with
  |some (.row false cs)=>if noidL cs then (subHp hp l).map (.row false cs::·) else none
  |some (.mp ks vs)=>if noidL ks && noidL vs then (subHp hp l).map (.mp ks vs::·) else none
  |_=>none
def Blk.noidb:Blk→Bool
 | .dead=>true
 | .row _ cs=>noidL cs
 | .mp ks vs=>noidL ks && noidL vs
 |_=>false
def packs (hp:List Blk):List Nat→Option (List Blk)
 | []=>some hp
 |id::l=>match hp[id]? with
  |some (.row false cs)=>if noidL cs then packs hp l else (pkL 0 (hp.set id .dead) cs).bind fun r=>if r.1.all AV.okc=true then packs (r.2.set id (.row false r.1)) l else none
  |_=>none
def putHp (hp:List Blk):List Nat→List Blk→List Blk
 |id::l,b::bs=>putHp (hp.set id b) l bs
 |_,_=>hp
def keepC:AV→AV→Bool
 | .int k a,.int k' b=>decide (k=k') && decide (a=b)
 | .bool a,.bool b=>a == b
 | .str a,.str b=>decide (a=b)
 | .own s i,.own s' j=>decide (s=s') && decide (i=j)
 | .ref i o,.ref j p=>decide (i=j) && decide (o=p)
 |_,_=>false
def keepL:List AV→List AV→Bool
 | [],[]=>true
 |x::xs,y::ys=>keepC x y && keepL xs ys
 |_,_=>false
def keepB (hp hp':List Blk) (id:Nat):Bool:=match hp[id]?,hp'[id]? with
 |some (.row f cs),some (.row f' cs')=>decide (f=f') && keepL cs cs'
 |_,_=>false
def keepOk (hp hp':List Blk) (vs:List AV):Bool:=decide (hp.length≤hp'.length) && (idsL vs).all (keepB hp hp')
def callOp (f:Job→Option Res) (T:Nat→Option Entry) (dr:Bool) (md:Md) (k:Nat) (vs:List AV) (d:Option Nat) (st:St):Option Res:=
 match md with
 | .plain=>(fzL st.hp vs).bind fun ps=>(callRes f T k ps []).bind fun r=>
   if !dr || ((noimm r.1 || (idsL vs).isEmpty) && noid r.1) then
    let hp:=if noimm r.1 then st.hp else still st.hp (idsL vs)
    let q:=thaw hp r.1;some (.normal,st.put d q.1 q.2)
   else none
 | .quiet=>(fzL st.hp vs).bind fun ps=>(callRes f T k ps []).bind fun r=>
   if noinl r.1 && (noimm r.1 || (idsL vs).isEmpty) then some (.normal,st.put d r.1 st.hp) else none
 | .mem=>let L:=dedup (idsL vs) []
   (subHp st.hp L).bind fun hps=>(callRes f T k (renL (idxOf L) vs) hps).bind fun r=>
    if r.2.length=L.length∧r.2.all Blk.noidb=true then
     let q:=thaw (putHp st.hp L r.2) (ren (fun i=>L.getD i 0) r.1);some (.normal,st.put d q.1 q.2)
    else none
 | .memp=>let L:=dedup (idsL vs) []
   (packs st.hp L).bind fun hp1=>(subHp hp1 L).bind fun hps=>(callRes f T k (renL (idxOf L) vs) hps).bind fun r=>
    if r.2.length=L.length∧r.2.all Blk.noidb=true then
     let q:=thaw (putHp hp1 L r.2) (ren (fun i=>L.getD i 0) r.1);some (.normal,st.put d q.1 q.2)
    else none
 | .all=>(f (.call k vs st.hp)).map fun r=>let q:=thaw r.2.hp (lk r.2.env 0);(.normal,st.put d q.1 q.2)
 | .allk=>(f (.call k vs st.hp)).bind fun r=>if keepOk st.hp r.2.hp vs=true then let q:=thaw r.2.hp (lk r.2.env 0);some (.normal,st.put d q.1 q.2) else none
def chkOk (chk:List (Nat × Nat)) (env:List (Nat × AV)):Bool:=chk.all fun p=>if p.1<1000000 then (lk env p.1).ids.all fun id=>!(lk env p.2).ids.contains id else (lk env p.2).ids.all fun id=>(lk env (p.1 - 1000000)).ids.contains id
open Classical in
noncomputable def agree (x y:Option Res):Option Res:=if x=y then x else none
noncomputable def F (T:Nat→Option Entry) (f:Job→Option Res):Job→Option Res
 | .stmt .skip st=>some (.normal,st)
 | .stmt (.ops d l) st=>f (.ops d l st)
 | .stmt (.opsC chk l) st=>(f (.ops true l st)).bind fun r=>if chkOk chk r.2.env=true then some r else none
 | .stmt (.seq a b) st=>(f (.stmt a st)).bind fun r=>if r.1=.normal then f (.stmt b r.2) else some r
 | .stmt (.cond x a b) st=>match st.ev x with
  | .bool c=>if c then f (.stmt a st) else f (.stmt b st)
  | .maybe e c=>if e then agree (f (.stmt a st)) (f (.stmt b st)) else if c then f (.stmt a st) else f (.stmt b st)
  |_=>none
 | .stmt (.block id b) st=>(f (.stmt b st)).map fun r=>(if r.1=.exit id then .normal else r.1,r.2)
 | .stmt (.loop b) st=>(f (.stmt b st)).bind fun r=>if r.1=.normal then f (.stmt (.loop b) r.2) else some r
 | .stmt (.scope b) st=>f (.stmt b st)
 | .stmt (.exit id) st=>some (.exit id,st)
 | .stmt .ret st=>some (.ret,st)
 | .stmt (.rangef x ps asg body) st=>match st.ev x with
  | .clo k fs cs=>(f (.call k (fs++[.yld st.hp.length]++cs) (st.hp++[.lp 0 st.env ps asg body .normal]))).bind fun r=>match r.2.hp[st.hp.length]? with
   |some (.lp s _ _ _ _ j)=>if s≠1 then some (j,⟨st.env,r.2.hp.set st.hp.length .dead,st.lo,st.mks⟩) else none
   |_=>none
  |_=>none
 | .stmt (.ghost g b) st=>(ghost g st).bind fun st'=>f (.stmt b st')
 | .stmt (.after b g) st=>(f (.stmt b st)).bind fun r=>if r.1=.normal then (ghost g r.2).map (.normal,·) else some r
 | .ops _ [] st=>some (.normal,st)
 | .ops d (o::l) st=>(f (.op d o st)).bind fun r=>f (.ops d l r.2)
 | .op dr o st=>(wanted st.env o.guard).bind fun go=>
  if go then
   match o.op with
   | .call md k as=>callOp f T dr md k (as.map st.ev) o.dst st
   | .callf md x as=>match st.ev x with
    | .clo k fs cs=>callOp f T dr md k (fs++as.map st.ev++cs) o.dst st
    | .yld id=>if md=.all then (f (.round id (as.map st.ev) st.hp)).map fun r=>(.normal,st.put o.dst (lk r.2.env 0) r.2.hp) else none
    |_=>none
   | .invoke md x ms as=>match st.ev x with
    | .ifc t v=>(mlk ms t).bind fun q=>(rcv st.hp q.2 v).bind fun r=>callOp f T dr md q.1 (r.1::as.map st.ev) o.dst ⟨st.env,r.2,st.lo,st.mks⟩
    |_=>none
   |op=>(astep st.hp st.ev op).map fun r=>(.normal,st.put o.dst r.1 r.2)
  else some (.normal,st.put o.dst (.tup []) st.hp)
 | .call k as hp=>match T k with
  |some (.fn d)=>if as.length=d.params then (f (.stmt d.body ⟨bindParams 0 as,hp,hp.length,[]⟩)).bind fun r=>
    (match r.1 with
    | .exit _=>none
    |_=>(results r.2.env r.2.hp d.res).map fun v=>(.ret,⟨[(0,v)],still r.2.hp (rsIds r.2.env r.2.hp d.res),hp.length,[]⟩)) else none
  |some (.orc g)=>(g as hp).map fun r=>(.ret,⟨[(0,(thaw r.2 r.1).1)],(thaw r.2 r.1).2,hp.length,[]⟩)
  |none=>none
 | .round id vs hp=>match hp[id]? with
  |some (.lp 0 env ps asg body _)=>if vs.length=ps.length then
    (f (.stmt asg ⟨bindTo ps vs env,hp,hp.length,[]⟩)).bind fun r1=>if r1.1=.normal then (match r1.2.hp[id]? with
     |some (.lp 0 env1 ps1 asg1 body1 j1)=>(f (.stmt body ⟨r1.2.env,r1.2.hp.set id (.lp 1 env1 ps1 asg1 body1 j1),hp.length,[]⟩)).bind fun r2=>(match r2.2.hp[id]? with
      |some (.lp 1 env ps asg body _)=>some (.ret,⟨[(0,.bool (r2.1=.normal))],r2.2.hp.set id (.lp (if r2.1=.normal then 0 else 2) env ps asg body r2.1),hp.length,[]⟩)
      |_=>none)
     |_=>none)
    else none
   else none
  |_=>none
noncomputable def evn (T:Nat→Option Entry):Nat→Job→Option Res
 |0,_=>none
 |n+1,j=>F T (evn T n) j
end Go.Proofs.Ytfbfbennheeglaa
