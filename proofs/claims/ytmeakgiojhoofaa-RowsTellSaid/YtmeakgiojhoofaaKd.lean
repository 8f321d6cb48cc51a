/-
  The program's code as the evaluator's statements.
-/
import Derived.Test.YtmeakgiojhoofaaKb
import Derived.Orders
namespace Go.Proofs.Ytmeakgiojhoofaa

def absv (fid : FuncId → Option Nat) : Value → Option AV
  | .bool b => some (.bool b)
  | .int k n => some (.int k n)
  | .string s => some (.str s.data.toList)
  | .slice none 0 0 => some .nils
  | .pointer none => some .nilp
  | .nilFunc => some .nilf
  | .nilIface => some .nili
  | .map none => some .nilm
  | .func (.func f) fs cs => if fs = #[] ∧ cs = #[] then (fid f).map fun k => .clo k [] [] else none
  | _ => none

def absL (fid : FuncId → Option Nat) : List Value → Option (List AV)
  | [] => some []
  | v :: vs => (absv fid v).bind fun x => (absL fid vs).map (x :: ·)

def opd (fid : FuncId → Option Nat) : Operand → Option SX
  | .tmp t => some (.tmp t)
  | .const v => (absv fid v).map .val
  | .func f => (fid f).map fun k => .val (.clo k [] [])
  | _ => none

def opds (fid : FuncId → Option Nat) : List Operand → Option (List SX)
  | [] => some []
  | x :: xs => (opd fid x).bind fun y => (opds fid xs).map (y :: ·)

def opdo (fid : FuncId → Option Nat) : Option Operand → Option (Option SX)
  | none => some none
  | some x => (opd fid x).map some

def szOf (P : Program) (t : TypeId) : Option Nat := (P.info? t).map (·.size)
def zeroOf (P : Program) (fid : FuncId → Option Nat) (t : TypeId) : Option (List AV) := ((P.info? t).bind (·.zero)).bind fun v => absL fid v.cells.toList

/-- How a variable of a type is loaded. -/
def ldk (P : Program) (t : TypeId) : Option (Option Nat) :=
  match P.underlying t with
  | some (.struct _) | some (.array _ _) => (szOf P t).map some
  | some _ => some none
  | none => none

/-- Fields of one cell each: numbers, bools and texts. -/
def flatF (P : Program) : Nat → List Field → Bool
  | _, [] => true
  | i, f :: fs => f.name != "_" && f.offset == i && (match P.underlying f.type with | some (.int _) | some .string | some .bool => true | _ => false) && flatF P (i + 1) fs

def digF (P : Program) (t : TypeId) : Nat :=
  match P.underlying t with
  | some (.int _) => 0
  | some .bool => 1
  | _ => 2
def encF (P : Program) : List Field → Nat
  | [] => 0
  | f :: fs => 1 + digF P f.type + 3 * encF P fs

def tcOf (P : Program) (t : TypeId) : Option Nat :=
  match P.underlying t with
  | some (.int _) | some .string => some 0
  | some .bool => some 1
  | some (.pointer _) => some 2
  | some (.struct fs) => if (flatF P 0 fs.toList && !P.stoodInHeld t && !P.eqGuardType P.depth t) = true then some (3 + encF P fs.toList) else none
  | _ => none

def fieldOf (P : Program) (t : TypeId) (f : Nat) : Option Field :=
  match P.underlying t with
  | some (.struct fs) => fs[f]?
  | _ => none

/-- The places of the parts of a struct, or of an array. -/
def places (P : Program) (fid : FuncId → Option Nat) (t : TypeId) : List (Nat × Operand) → Option (List (Nat × Nat × SX))
  | [] => some []
  | (i, x) :: ps => (opd fid x).bind fun y => (places P fid t ps).bind fun qs =>
    match P.underlying t with
    | some (.struct fs) => (fs[i]?).bind fun f => (szOf P f.type).map fun s => (f.offset, s, y) :: qs
    | some (.array _ e) => (szOf P e).map fun s => (i * s, s, y) :: qs
    | some (.slice e) => (szOf P e).map fun s => (i * s, s, y) :: qs
    | _ => none

def isNilSlice : Operand → Bool
  | .const (.slice none 0 0) => true
  | _ => false

def copCall (P : Program) (fid : FuncId → Option Nat) (c : Call) : Option SO :=
  match c.callee with
  | .builtin .len => match c.args.toList, c.argTypes.toList with
    | [x], [t] => match P.underlying t with
      | some (.slice _) => (opd fid x).map (.len false)
      | some .string => (opd fid x).map (.len true)
      | _ => none
    | _, _ => none
  | .builtin .append => match c.args.toList, c.argTypes.toList with
    | [s, x], [t, t'] => if t = t' then match P.underlying t with
      | some (.slice e) => (P.info? e).bind fun i => if i.size = (i.zero.map (·.cells.size)).getD 0 ∧ 0 < i.bytes ∧ 0 < i.size then (opd fid s).bind fun s => (opd fid x).map fun x => .append i.size i.bytes s x else none
      | _ => none else none
    | _, _ => none
  | .builtin .clear => match c.args.toList, c.argTypes.toList with
    | [x], [t] => match P.underlying t with
      | some (.slice e) => (zeroOf P fid e).bind fun z => if 0 < z.length ∧ szOf P e = some z.length then (opd fid x).map (.clear z) else none
      | _ => none
    | _, _ => none
  | .builtin .copy => match c.args.toList, c.argTypes.toList with
    | [s, x], [t, t'] => if t = t' then match P.underlying t with
      | some (.slice e) => (szOf P e).bind fun n => if 0 < n then (opd fid s).bind fun s => (opd fid x).map fun x => .copy n s x else none
      | _ => none else none
    | _, _ => none
  | .builtin .max => match c.args.toList with
    | [x, y] => (opd fid x).bind fun x => (opd fid y).map fun y => .mm true x y
    | _ => none
  | .builtin .min => match c.args.toList with
    | [x, y] => (opd fid x).bind fun x => (opd fid y).map fun y => .mm false x y
    | _ => none
  | .value (.func f) => (fid f).bind fun k => (opds fid c.args.toList).map fun as => .call .plain k as
  | .value (.tmp t) => (opds fid c.args.toList).map fun as => .callf .plain (.tmp t) as
  | _ => none

def cop (P : Program) (fid : FuncId → Option Nat) : Op → Option SO
  | .move x | .assign x => (opd fid x).map .move
  | .pick c a b => (opd fid c).bind fun c => (opd fid a).bind fun a => (opd fid b).map fun b => .pick c a b
  | .alloc t => (zeroOf P fid t).map .alloc
  | .box t x => (szOf P t).bind fun n => (opd fid x).map fun x => .box n x
  | .build t ps => match P.underlying t with
    | some (.struct fs) => if (fs.all fun f => (szOf P f.type).isSome) then (zeroOf P fid t).bind fun z => (places P fid t ps.toList).map fun qs => .build z qs else none
    | some (.array _ e) => (szOf P e).bind fun _ => (zeroOf P fid t).bind fun z => (places P fid t ps.toList).map fun qs => .build z qs
    | _ => none
  | .buildSlice t len ps => match P.underlying t with
    | some (.slice e) => (szOf P e).bind fun s => (zeroOf P fid e).bind fun z => if s = z.length ∧ 0 < s ∧ len * s ≤ 2 ^ 24 then (places P fid t ps.toList).map fun qs => .lit false z s len qs else none
    | _ => none
  | .load t x => (ldk P t).bind fun n => (opd fid x).map fun x => .load false n x
  | .store t x v => (szOf P t).bind fun n => (opd fid x).bind fun x => (opd fid v).map fun v => .store false n x v
  | .nilCheck x => (opd fid x).map .nilCheck
  | .binOp op t x y _ => match P.underlying t with
    | some (.slice _) => if isNilSlice y then (match op with
      | .eql => (opd fid x).map (.isnil false)
      | .neq => (opd fid x).map (.isnil true)
      | _ => none) else none
    | _ => (tcOf P t).bind fun tc => (opd fid x).bind fun x => (opd fid y).map fun y => .bin tc op x y
  | .unOp op _ x => (opd fid x).map fun x => .un op x
  | .convert s d x => match P.underlying s, P.underlying d with
    | some (.int _), some (.int k) => (opd fid x).map fun x => .conv k x
    | some .string, some .string => (opd fid x).map .same
    | _, _ => none
  | .makeFunc (.func f) fs cs => (fid f).bind fun k => (opds fid fs.toList).bind fun fs => (opds fid cs.toList).map fun cs => .fn k fs cs
  | .fieldAddr t x f => (fieldOf P t f).bind fun fd => (szOf P fd.type).bind fun s => if s = 0 then none else (opd fid x).map fun x => .fieldAddr fd.offset x
  | .field t x f => (fieldOf P t f).bind fun fd => (ldk P fd.type).bind fun n => (opd fid x).map fun x => .field n fd.offset x
  | .indexAddr t x i => match P.underlying t with
    | some (.slice e) => (szOf P e).bind fun s => if s = 0 then none else (opd fid x).bind fun x => (opd fid i).map fun i => .indexAddr s x i
    | some (.array n e) => (szOf P e).bind fun s => (opd fid x).bind fun x => (opd fid i).map fun i => .indexArr n s x i
    | _ => none
  | .index t x i => match P.underlying t with
    | some .string => (opd fid x).bind fun x => (opd fid i).map fun i => .index x i
    | some (.array n e) => (szOf P e).bind fun s => (ldk P e).bind fun q => (opd fid x).bind fun x => (opd fid i).map fun i => .indexV q n s x i
    | _ => none
  | .slice t x lo hi mx => match P.underlying t with
    | some (.slice e) => (szOf P e).bind fun s => if s = 0 then none else (opd fid x).bind fun x => (opdo fid lo).bind fun lo => (opdo fid hi).bind fun hi => (opdo fid mx).map fun mx => .slice s x lo hi mx
    | some .string => if mx.isSome then none else (opd fid x).bind fun x => (opdo fid lo).bind fun lo => (opdo fid hi).map fun hi => .slices x lo hi
    | _ => none
  | .extract x i => (opd fid x).map fun x => .extract i x
  | .makeSlice t (.tmp l) (.tmp c) => if l = c then match P.underlying t with
    | some (.slice e) => (P.info? e).bind fun i => (zeroOf P fid e).bind fun z => if i.size = z.length ∧ 0 < i.bytes ∧ 0 < i.size then some (.make z i.bytes (.tmp l)) else none
    | _ => none else none
  | .makeSlice t (.const (.int .i64 a)) (.const (.int .i64 b)) => if a = b then match P.underlying t with
    | some (.slice e) => (P.info? e).bind fun i => (zeroOf P fid e).bind fun z => if i.size = z.length ∧ 0 < i.bytes ∧ 0 < i.size then some (.make z i.bytes (.val (.int .i64 a))) else none
    | _ => none else none
  | .panic _ => some .stuck
  | .makeInterface _ _ => some .stuck
  | .call c => copCall P fid c
  | _ => none

/-- An operation of a region, as the evaluator's. -/
def csop (P : Program) (fid : FuncId → Option Nat) (nt : Nat) (ops : Array Oper) (o : Oper) : Option SOp :=
  (cop P fid o.op).bind fun so =>
  (match o.dst with | none => some none | some d => if d < nt then some (some d) else none).bind fun d =>
  (match o.guard with | none => some none | some (j, b) => ((ops[j]?).bind (·.dst)).map fun t => some (t, b)).map fun g => ⟨d, so, g⟩

def csops (P : Program) (fid : FuncId → Option Nat) (nt : Nat) (ops : Array Oper) : List Oper → Option (List SOp)
  | [] => some []
  | o :: l => (csop P fid nt ops o).bind fun so => (csops P fid nt ops l).map (so :: ·)

/-- No range over a function. -/
def rangeless : Code → Bool
  | .rangeFunc _ _ _ _ => false
  | .seq a b | .cond _ a b => rangeless a && rangeless b
  | .block _ a | .loop a | .scope a => rangeless a
  | _ => true

def ccode (P : Program) (fid : FuncId → Option Nat) (nt : Nat) : Code → Option Stmt
  | .skip | .label _ => some .skip
  | .region _ ops draw => (csops P fid nt ops ops.toList).map (.ops draw)
  | .seq a b => (ccode P fid nt a).bind fun x => (ccode P fid nt b).map fun y => .seq x y
  | .cond c a b => (opd fid c).bind fun c => (ccode P fid nt a).bind fun x => (ccode P fid nt b).map fun y => .cond c x y
  | .block id b => (ccode P fid nt b).map (.block id)
  | .loop b => (ccode P fid nt b).map .loop
  | .scope b => (ccode P fid nt b).map .scope
  | .rangeFunc x ps a b => if (ps.toList.all (fun t => decide (t < nt)) && rangeless a && rangeless b) = true then (opd fid x).bind fun x => (ccode P fid nt a).bind fun a => (ccode P fid nt b).map fun b => .rangef x ps.toList a b else none
  | .exit id => some (.exit id)
  | .ret => some .ret
  | _ => none

/-- An operation as the code has it. -/
def SO.base : SO → SO
  | .lit _ z s l ps => .lit false z s l ps
  | .load _ n x => .load false n x
  | .store _ n x v => .store false n x v
  | .call _ k as => .call .plain k as
  | .callf _ x as => .callf .plain x as
  | o => o
def SOp.base (o : SOp) : SOp := ⟨o.dst, o.op.base, o.guard⟩

/-- A statement as the code has it. -/
def erase : Stmt → Stmt
  | .ops d l => .ops d (l.map SOp.base)
  | .opsC _ l => .ops true (l.map SOp.base)
  | .seq a b => .seq (erase a) (erase b)
  | .cond c a b => .cond c (erase a) (erase b)
  | .block id b => .block id (erase b)
  | .loop b => .loop (erase b)
  | .scope b => .scope (erase b)
  | .rangef x ps a b => .rangef x ps (erase a) (erase b)
  | .ghost _ b => erase b
  | .after b _ => erase b
  | s => s

def SX.tmps : SX → List Nat
  | .tmp t => [t]
  | .val _ => []

def xo : Option SX → List Nat
  | none => []
  | some x => x.tmps

def xps : List (Nat × Nat × SX) → List Nat
  | [] => []
  | (_, _, x) :: l => x.tmps ++ xps l

def xas : List SX → List Nat
  | [] => []
  | x :: l => x.tmps ++ xas l

def SO.tmps : SO → List Nat
  | .move x | .box _ x | .load _ _ x | .nilCheck x | .isnil _ x | .un _ x | .conv _ x | .same x | .fieldAddr _ x | .field _ _ x | .extract _ x | .len _ x | .make _ _ x | .clear _ x => x.tmps
  | .pick c a b => c.tmps ++ (a.tmps ++ b.tmps)
  | .alloc _ => []
  | .stuck => []
  | .build _ ps | .lit _ _ _ _ ps => xps ps
  | .store _ _ x v => x.tmps ++ v.tmps
  | .bin _ _ x y | .indexAddr _ x y | .indexArr _ _ x y | .indexV _ _ _ x y | .index x y | .append _ _ x y | .copy _ x y | .mm _ x y => x.tmps ++ y.tmps
  | .slice _ x lo hi mx => x.tmps ++ (xo lo ++ (xo hi ++ xo mx))
  | .slices x lo hi => x.tmps ++ (xo lo ++ xo hi)
  | .fn _ fs cs => xas fs ++ xas cs
  | .call _ _ as => xas as
  | .callf _ x as => x.tmps ++ xas as

def SOp.looks (o : SOp) : List Nat := (match o.guard with | some (t, _) => [t] | none => []) ++ o.op.tmps

def Md.isQuiet : Md → Bool
  | .quiet => true
  | _ => false

/-- Does it turn the evaluator's memory? -/
def SO.heavy : SO → Bool
  | .box _ _ | .alloc _ | .store _ _ _ _ | .append _ _ _ _ | .make _ _ _ | .clear _ _ | .copy _ _ _ | .stuck => true
  | .lit m _ _ _ _ => m
  | .load u _ _ => u
  | .call md _ _ | .callf md _ _ => !md.isQuiet
  | _ => false
/-- Does it look at memory, and no more? -/
def SO.isLoad : SO → Bool
  | .load u _ _ => !u
  | .call md _ _ | .callf md _ _ => md.isQuiet
  | .len _ _ | .isnil _ _ | .indexAddr _ _ _ | .slice _ _ _ _ _ => true
  | _ => false

def addAll : List Nat → List Nat → List Nat
  | [], acc => acc
  | x :: xs, acc => addAll xs (if acc.contains x then acc else x :: acc)

def ons (o : Oper) : List Nat := (o.after.toList.filter fun e => Region.binds .any e).map (·.on)

/-- All that has to stand ahead of each operation. -/
def ancs : List Oper → List (List Nat) → List (List Nat)
  | [], acc => acc
  | o :: l, acc => ancs l (acc ++ [addAll ((ons o).flatMap fun e => acc.getD e []) (ons o)])

/-- Does it but add to the evaluator's memory? -/
def SO.grows : SO → Bool
  | .alloc _ | .make _ _ _ | .call .plain _ _ | .callf .plain _ _ => true
  | _ => false

/-- Is slot s made anew by a call between i and j? -/
def freshAt (l : List SOp) (i j s : Nat) : Bool := (List.range j).any fun p => decide (i < p) && match l[p]? with
  | some ⟨some d, .call .plain _ _, none⟩ => d == s
  | _ => false
/-- Does slot u hold a row that is only read? -/
def litAt (l : List SOp) (j u : Nat) : Bool := (List.range j).any fun q => match l[q]? with
  | some ⟨some d, .lit false _ _ _ _, none⟩ => d == u
  | _ => false
/-- An append to what was not there yet at i. -/
def SOp.freshApp (l : List SOp) (i j : Nat) (so : SOp) : Bool :=
  match so.op with
  | .append _ _ (.tmp s) (.tmp u) => freshAt l i j s && litAt l j u
  | _ => false

/-- An append that leaves alone what another operation looks at: what is looked up afterwards says so. -/
def SOp.farApp (so : SOp) (chk : List (Nat × Nat)) (si : SOp) (l : List SOp) (j : Nat) : Bool :=
  (match si.op with | .load _ _ _ | .len _ _ | .isnil _ _ | .indexAddr _ _ _ | .slice _ _ _ _ _ => true | _ => false) &&
  match so.op with
  | .append _ _ (.tmp s) (.tmp u) => litAt l j u && si.op.tmps.all fun t => chk.contains (s, t)
  | _ => false

def pairOk (chk : List (Nat × Nat)) (A : List (List Nat)) (l : List SOp) (si sj : SOp) (i j : Nat) : Bool :=
  let anc := (A.getD j []).contains i
  let hit := match si.dst with | some d => sj.looks.contains d | none => false
  if i < j then
    (match si.dst with | some d => !(sj.dst == some d) | none => true) && (!hit || anc) && (!(si.op.heavy && sj.op.heavy) || anc) && (!((si.op.heavy && !si.op.grows && sj.op.isLoad && !si.farApp chk sj l i) || (si.op.isLoad && sj.op.heavy && !sj.op.grows && !sj.freshApp l i j && !sj.farApp chk si l j)) || anc)
  else if j < i then !hit || ((A.getD i []).contains j && (match si.dst with | some d => chk.all fun p => p.1 != d && p.2 != d | none => true)) else !hit

/-- No operation names a block outright. -/
def SX.plain : SX → Bool
  | .tmp _ => true
  | .val v => v.ids.isEmpty

/-- No look at a block that is named outright. -/
def SO.loadsPlain : SO → Bool
  | .load _ _ x | .len _ x | .isnil _ x | .indexAddr _ x _ | .slice _ x _ _ _ => x.plain
  | .call _ _ as => as.all SX.plain
  | .callf _ x as => x.plain && as.all SX.plain
  | _ => true

def drawOk (chk : List (Nat × Nat)) (ops : Array Oper) (l : List SOp) : Bool :=
  let A := ancs ops.toList []
  let n := ops.size
  (l.all fun so => so.op.loadsPlain) && ((List.range n).all fun j => (match ops[j]? with | some o => (ons o).all (· < j) | none => true)) &&
  (List.range n).all fun j => (List.range n).all fun i => match l[i]?, l[j]? with | some si, some sj => pairOk chk A l si sj i j | _, _ => false

/-! ### Regions that make rows, and else but look -/

/-- Does it make a row? -/
def SOp.isMk : SOp → Bool
  | ⟨some _, .make _ _ _, none⟩ => true
  | _ => false
def mks1 (l : List SOp) : List Nat := l.filterMap fun so => if so.isMk then so.dst else none
/-- Is it another name of a row that is made? -/
def SOp.isAl (M : List Nat) : SOp → Bool
  | ⟨some _, .move (.tmp s), none⟩ => M.contains s
  | _ => false
def msetL (l : List SOp) : List Nat := l.filterMap fun so => if so.isMk || so.isAl (mks1 l) then so.dst else none
def SOp.zOk : SOp → Bool
  | ⟨_, .make z _ _, _⟩ => (idsL z).isEmpty
  | _ => true
def kindOk (l : List SOp) (so : SOp) : Bool := if so.isMk || !so.isAl (mks1 l) then (so.isMk || !so.op.heavy) && so.zOk && so.looks.all fun t => !(msetL l).contains t else true
def pairM (A : List (List Nat)) (si sj : SOp) (i j : Nat) : Bool :=
  let anc := (A.getD j []).contains i
  let hit := match si.dst with | some d => sj.looks.contains d | none => false
  if i < j then (match si.dst with | some d => !(sj.dst == some d) | none => true) && (!hit || anc)
  else if j < i then !hit || ((A.getD i []).contains j && !si.isMk) else true
def drawM (ops : Array Oper) (l : List SOp) : Bool :=
  let A := ancs ops.toList []
  let n := ops.size
  (l.all fun so => so.op.loadsPlain && kindOk l so) && ((List.range n).all fun j => (match ops[j]? with | some o => (ons o).all (· < j) | none => true)) &&
  (List.range n).all fun j => (List.range n).all fun i => match l[i]?, l[j]? with | some si, some sj => pairM A si sj i j | _, _ => false

/-- Each region whose order is open comes to the same in every order. -/
def drawS : Code → Stmt → Bool
  | .region _ ops d, .ops d' l => d == d' && (!d || (drawOk [] ops l || drawM ops l))
  | .region _ ops d, .opsC chk l => d && drawOk chk ops l
  | .seq a b, .seq x y => drawS a x && drawS b y
  | .cond _ a b, .cond _ x y => drawS a x && drawS b y
  | .block _ a, .block _ x => drawS a x
  | .loop a, .loop x => drawS a x
  | .scope a, .scope x => drawS a x
  | .rangeFunc _ _ a b, .rangef _ _ x y => drawS a x && drawS b y
  | c, .ghost _ s => drawS c s
  | c, .after s _ => drawS c s
  | .region _ _ _, _ | .seq _ _, _ | .cond _ _ _, _ | .block _ _, _ | .loop _, _ | .scope _, _ | .rangeFunc _ _ _ _, _ => false
  | _, _ => true
termination_by structural _ s => s

/-- Is there such a region? -/
def drawn : Code → Bool
  | .region _ _ d => d
  | .seq a b | .cond _ a b | .rangeFunc _ _ a b => drawn a || drawn b
  | .block _ a | .loop a | .scope a => drawn a
  | _ => false

end Go.Proofs.Ytmeakgiojhoofaa
