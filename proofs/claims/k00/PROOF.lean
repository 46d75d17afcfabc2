import PyProof.Rows.All
import Wide.All
import OpenK.AllK
import Wide.FinOn
import HandS.ForMost
import HandS.Text
import HandS.TupAny
import HandS.TupMul
import HandS.Wide
import HandS.Deep
import HandS.Gcd
import HandS.IsInst
import HandS.Zip
import HandS.Style
import HandS.Flow
import HandS.More
import HandS.Exc
import HandS.ExcOwn
import HandS.ExcInit
import HandS.ExcField
import HandS.ExcIs
import KE.KExcIs
import HandS.Comp
import HandS.ExcValue
import HandS.ExcBuiltin
import PyProof.FactsAll.list_3
import PyProof.FactsAll.str
import HandS.FStr
import HandS.TryMany
import HandS.Words
import HandS.EndBits
import KE.KExcMake
import KE.KExcSuper
import KE.RegKSuper
import PySem.Challenge.RW_brushedsigns_k00_error_classes
set_option Elab.async false
set_option maxRecDepth 100000
namespace Rv
open PySem

/-! the data that the functions speak of, and the store of the things that may change -/
inductive D where
  | non | bl (b : Bool) | int (i : Int) | str (x : Str) | tup (xs : List D) | ref (n : Nat) | fro (ns : List Int)
  deriving Inhabited
inductive O where
  | lst (xs : List D) | dic (kvs : List (Sum Int Str × D)) | exc (c : Nat) (fs : List (Str × D))
  deriving Inhabited
abbrev Sto := List O
structure Exn where
  cls : Nat
  fs : List (Str × D)
inductive Out (α : Type) where
  | ok (a : α) (S : Sto) | ex (c : Exn) (S : Sto) | bad
def M (α : Type) := Sto → Out α
@[inline] def M.ret {α : Type} (a : α) : M α := fun S => .ok a S
@[inline] def M.bnd {α β : Type} (m : M α) (k : α → M β) : M β := fun S => match m S with
  | .ok a S' => k a S'
  | .ex c S' => .ex c S'
  | .bad => .bad
instance : Monad M where
  pure := M.ret
  bind := M.bnd
def fail {α : Type} : M α := fun _ => .bad
def throwM {α : Type} (c : Exn) : M α := fun S => .ex c S
/-- what is thrown is given to h -/
def catchM {α : Type} (m : M α) (h : Exn → M α) : M α := fun S => match m S with
  | .ok a S' => .ok a S'
  | .ex c S' => h c S'
  | .bad => .bad
/-- classes by their numbers: 0 ValueError, 1 the one above all of ours, the others directly under it -/
def subC (i j : Nat) : Bool := i == j || j == 0 || (j == 1 && decide (1 ≤ i))
/-- no error may leave -/
def noX {α : Type} (m : M α) : M α := fun S => match m S with
  | .ok a S' => .ok a S'
  | _ => .bad
def getS : M Sto := fun S => .ok S S
def ofOpt {α : Type} : Option α → M α
  | some a => pure a
  | none => fail
def need (p : Prop) [Decidable p] : M Unit := if p then pure () else fail
/-- a new thing, behind all others -/
def newO (o : O) : M D := fun S => .ok (.ref S.length) (S ++ [o])
def setO (n : Nat) (o : O) : M Unit := fun S => .ok () (S.set n o)
def items (n : Nat) : M (List D) := fun S => match S[n]? with
  | some (.lst xs) => .ok xs S
  | _ => .bad

/-! the inner language -/
inductive Tg1 where
  | one (i : Nat) | sub (is : List Nat)
inductive Tg where
  | var (i : Nat) | tup (is : List Nat) | nest (ts : List Tg1)
inductive BinK where | add | sub | mul | fdiv | mod | pow
inductive CmpK where | eq | ne | lt | le | gt | ge | isin | notin
inductive TyK where | int | bool | str | tuple | list
inductive BiK where
  | len | repr | tuple | list | int | str | abs | max | min | sum | all | any | gcd | sorted | set
inductive MethK where
  | append | pop | extend | insert | index | count | upper | split | join | reverse | copy | lower | isdigit | startswith | endswith | partition
mutual
inductive E where
  | var (i : Nat)
  | lit (d : D)
  | glob (g : Nat)
  | tup (es : Es)
  | list (es : Es)
  | dict0
  | bin (op : BinK) (a b : E)
  | neg (a : E)
  | cmp (op : CmpK) (a b : E)
  | chain (op op' : CmpK) (a b c : E)
  | isN (a : E)
  | notN (a : E)
  | and (es : Es)
  | or (es : Es)
  | not (a : E)
  | ite (c a b : E)
  | inst (a : E) (t : TyK)
  | bi (f : BiK) (es : Es)
  | call (f : Nat) (es : Es)
  | callk (f : Nat) (ix : List Nat) (es : Es)
  | meth (m : MethK) (o : E) (es : Es)
  | idx (a b : E)
  | slice (a : E) (lo hi : Eo)
  | rev (a : E)
  | comp (own : List Nat) (elt : E) (tg : Tg) (it : Itx) (cond : Eo)
  | fstr (es : Es)
  | isX (a : E) (c : Nat)
  | fld (a : E) (n : Str)
  | mkx (c : Nat) (e : E)
  | mkk (c : Nat) (n : Str) (pre : Str) (e : E)
inductive Es where
  | nil | cons (e : E) (es : Es)
inductive Eo where
  | none | some (e : E)
inductive Itx where
  | of (e : E) | rng1 (a : E) | rng2 (a b : E) | enum (e : E) | zip (a b : E)
end
mutual
inductive S where
  | pass | brk | cont | bad
  | retN | ret (e : E)
  | asg (t : Tg) (e : E)
  | setIdx (o i e : E)
  | expr (e : E)
  | ife (c : E) (a b : Ss)
  | forr (t : Tg) (it : Itx) (body : Ss)
  | whil (c : E) (body : Ss)
  | rais (c : Nat) (e : E)
  | raisk (c : Nat) (n : Str) (pre : Str) (e : E)
  | tryy (b : Ss) (hs : Hs)
inductive Ss where
  | nil | cons (s : S) (ss : Ss)
inductive Hs where
  | nil | cons (c : Nat) (v : Option Nat) (suite : Ss) (r : Hs)
end

/-! what the operations do -/
abbrev Env := List (Option D)
inductive Flow where
  | next (ρ : Env) | ret (d : D) | brk (ρ : Env) | cont (ρ : Env)

def goneF (v : Option Nat) : Flow → Flow
  | .next ρ => .next (match v with | some i => ρ.set i none | none => ρ)
  | .ret d => .ret d
  | .brk ρ => .brk (match v with | some i => ρ.set i none | none => ρ)
  | .cont ρ => .cont (match v with | some i => ρ.set i none | none => ρ)
def truth : D → M Bool
  | .bl b => pure b
  | _ => fail
def mapO {α β : Type} (f : α → Option β) : List α → Option (List β)
  | [] => some []
  | x :: xs => match f x, mapO f xs with
    | some y, some ys => some (y :: ys)
    | _, _ => none
/-- data without nesting, as the model's own -/
def pd0 : D → Option PyData
  | .non => some .none
  | .bl b => some (.bool b)
  | .int i => some (.int i)
  | .str x => some (.str x)
  | .fro _ => none
  | .tup _ => none
  | .ref _ => none
/-- the data as the model's own: n levels of nesting at most -/
def pd (S : Sto) : Nat → D → Option PyData
  | 0, d => pd0 d
  | n + 1, d => match d with
    | .tup xs => (mapO (pd S n) xs).map .tuple
    | .ref k => match S[k]? with
      | some (.lst xs) => (mapO (pd S n) xs).map .list
      | some (.dic []) => some (.dict [])
      | _ => none
    | d => pd0 d
abbrev pds (S : Sto) (n : Nat) (ds : List D) : Option (List PyData) := mapO (pd S n) ds
def eqG (x y : D) : M Bool := fun S => match pd S 64 x, pd S 64 y with
  | some a, some b => if SeqAt.shaped a = true ∧ SeqAt.shaped b = true then .ok (PyData.eqv a b) S else .bad
  | _, _ => .bad
/-- x == y: texts at once -/
def eqD : D → D → M Bool
  | .str x, .str y => pure (x == y)
  | x, y => eqG x y
abbrev MulOk (i j : Int) : Prop := i.natAbs.log2 + j.natAbs.log2 < 100000000
abbrev RepOk (n : Nat) (k : Int) : Prop := -(2 ^ 63) ≤ k ∧ k < 2 ^ 63 ∧ n * k.toNat ≤ sizeLine
def binD : BinK → D → D → M D
  | .add, .int i, .int j => pure (.int (i + j))
  | .add, .str x, .str y => do need (x.length + y.length ≤ sizeLine); pure (.str (x ++ y))
  | .add, .tup xs, .tup ys => do need (xs.length + ys.length ≤ sizeLine); pure (.tup (xs ++ ys))
  | .add, .ref a, .ref b => do
    let xs ← items a
    let ys ← items b
    need (xs.length + ys.length ≤ sizeLine)
    newO (.lst (xs ++ ys))
  | .sub, .int i, .int j => pure (.int (i - j))
  | .mul, .int i, .int j => do need (MulOk i j); pure (.int (i * j))
  | .mul, .ref a, .int k => do
    let xs ← items a
    need (RepOk xs.length k)
    newO (.lst (List.replicate k.toNat xs).flatten)
  | .mul, .tup xs, .int k => do
    need (xs.length ≠ 0 ∧ 2 ≤ k ∧ k ≤ 1000 ∧ xs.length ≤ 1000)
    pure (.tup (List.replicate k.toNat xs).flatten)
  | .fdiv, .int i, .int j => do need (0 < j ∧ j.natAbs.log2 < 9000); pure (.int (i / j))
  | .mod, .int i, .int j => do need (0 < j); pure (.int (i % j))
  | .pow, .int i, .int j => do need (0 ≤ j ∧ j ≤ 1000000 ∧ i.natAbs < 2 ^ 64); pure (.int (i ^ j.toNat))
  | _, _, _ => fail
/-- the items of a list or a tuple -/
def seqD : D → M (List D)
  | .tup xs => pure xs
  | .ref n => items n
  | .fro ns => pure (ns.map .int)
  | _ => fail
/-- x in the items: as the model's own data, one by one -/
def inD (x : D) (ys : List D) : M Bool := fun S => match pd S 64 x, pds S 63 ys with
  | some a, some bs => if SeqAt.shaped a = true ∧ SeqAt.shaped (.list bs) = true then .ok (bs.any fun z => PyData.eqv z a) S else .bad
  | _, _ => .bad
/-- a text in a text; one sign by its code -/
def strIn (x y : Str) : Bool := match x.cps.toList with
  | [c] => decide (c ∈ y.cps.toList)
  | _ => !(Builtin.Str.occurrences y x 0 y.length 1).isEmpty
def cmpD : CmpK → D → D → M Bool
  | .eq, x, y => eqD x y
  | .ne, x, y => do let b ← eqD x y; pure (!b)
  | .lt, .int i, .int j => pure (decide (i < j))
  | .le, .int i, .int j => pure (decide (i ≤ j))
  | .gt, .int i, .int j => pure (decide (j < i))
  | .ge, .int i, .int j => pure (decide (j ≤ i))
  | .isin, .str x, .str y => pure (strIn x y)
  | .notin, .str x, .str y => pure (!strIn x y)
  | .isin, x, y => do let ys ← seqD y; inD x ys
  | .notin, x, y => do let ys ← seqD y; let b ← inD x ys; pure (!b)
  | _, _, _ => fail
def instO : O → TyK → Option Bool
  | .lst _, .list => some true
  | .lst _, _ => some false
  | .dic _, _ => some false
  | .exc _ _, _ => none
def instD : D → TyK → M Bool
  | .non, _ => pure false
  | .bl _, .bool => pure true
  | .bl _, .int => pure true
  | .bl _, _ => pure false
  | .int _, .int => pure true
  | .int _, _ => pure false
  | .str _, .str => pure true
  | .str _, _ => pure false
  | .tup _, .tuple => pure true
  | .tup _, _ => pure false
  | .fro _, .list => pure true
  | .fro _, _ => pure false
  | .ref n, t => fun S => (ofOpt (S[n]?.bind fun o => instO o t) : M Bool) S
def ixD (xs : List D) (i : Int) : M D := ofOpt (L2.atI xs i)
def idxD : D → D → M D
  | .tup xs, .int i => ixD xs i
  | .ref n, .int i => do let xs ← items n; ixD xs i
  | .fro ns, .int i => do let j ← ofOpt (L2.atI ns i); pure (.int j)
  | .str z, .int i => do
    need (z.length ≤ sizeLine)
    let c ← ofOpt (L2.atI z.cps.toList i)
    pure (.str ⟨#[c]⟩)
  | _, _ => fail
def partD : D → M Int
  | .int i => pure i
  | _ => fail
def cutL {α : Type} (xs : List α) (lo hi : Option Int) : List α := (xs.drop (HT.sIx xs.length 0 lo)).take (HT.sIx xs.length xs.length hi - HT.sIx xs.length 0 lo)
def sliceD : D → Option Int → Option Int → M D
  | .tup xs, lo, hi => pure (.tup (cutL xs lo hi))
  | .ref n, lo, hi => do let xs ← items n; newO (.lst (cutL xs lo hi))
  | .fro ns, lo, hi => newO (.lst (cutL (ns.map .int) lo hi))
  | .str z, lo, hi => do need (z.length ≤ sizeLine); pure (.str (L2.cutS z lo hi))
  | _, _, _ => fail
def intsOf : List D → Option (List Int)
  | [] => some []
  | .int i :: r => (intsOf r).map (i :: ·)
  | _ :: _ => none
def blsOf : List D → Option (List Bool)
  | [] => some []
  | .bl i :: r => (blsOf r).map (i :: ·)
  | _ :: _ => none
def reprD (x : D) : M D := fun S => match pd S 64 x with
  | some a => if a.showable = true ∧ a.depth ≤ 64 ∧ a.shown.length ≤ sizeLine then .ok (.str a.shown) S else .bad
  | none => .bad
def biD : BiK → List D → M D
  | .len, [.str x] => do need (x.length ≤ sizeLine); pure (.int x.length)
  | .len, [x] => do let xs ← seqD x; pure (.int xs.length)
  | .repr, [x] => reprD x
  | .tuple, [x] => do let xs ← seqD x; pure (.tup xs)
  | .list, [x] => do let xs ← seqD x; newO (.lst xs)
  | .int, [.int i] => pure (.int i)
  | .int, [.bl b] => pure (.int (if b then 1 else 0))
  | .int, [.str a] => do
    need (a.length ≤ 640)
    let n ← ofOpt (intText? a)
    pure (.int n)
  | .str, [.int i] => do need (i.natAbs.log2 < 1920); pure (.str (toString i))
  | .abs, [.int i] => pure (.int (if i < 0 then -i else i))
  | .max, [.int i, .int j] => pure (.int (if j > i then j else i))
  | .min, [.int i, .int j] => pure (.int (if j < i then j else i))
  | .max, [.ref n] => do
    let xs ← items n
    let ns ← ofOpt (intsOf xs)
    match ns with
    | [] => fail
    | a :: r => pure (.int (r.foldl max a))
  | .sum, [.ref n] => do
    let xs ← items n
    let ns ← ofOpt (intsOf xs)
    pure (.int ns.sum)
  | .all, [.ref n] => do
    let xs ← items n
    let bs ← ofOpt (blsOf xs)
    pure (.bl (bs.all id))
  | .any, [.ref n] => do
    let xs ← items n
    let bs ← ofOpt (blsOf xs)
    pure (.bl (bs.any id))
  | .gcd, [.int i, .int j] => pure (.int ((Nat.gcd i.natAbs j.natAbs : Nat) : Int))
  | _, _ => fail
/-- what the method is of -/
def MethK.ofStr : MethK → Bool
  | .upper => true | .lower => true | .isdigit => true | .startswith => true | .endswith => true | .split => true | .join => true | .partition => true
  | _ => false
def recvD (m : MethK) (d : D) : M Unit := match m.ofStr, d with
  | false, .ref n => do let _ ← items n; pure ()
  | true, .str _ => pure ()
  | _, _ => fail
def strsOf : List D → Option (List Str)
  | [] => some []
  | .str x :: r => (strsOf r).map (x :: ·)
  | _ :: _ => none
/-- the first place of x -/
def indexD (x : D) (ys : List D) : M D := fun S => match pd S 64 x, pds S 63 ys with
  | some a, some bs => if SeqAt.shaped a = true ∧ SeqAt.shaped (.list bs) = true then
      match bs.findIdx? (fun z => PyData.eqv z a) with
      | some j => .ok (.int j) S
      | none => .bad
    else .bad
  | _, _ => .bad
def methD : MethK → D → List D → M D
  | .append, .ref n, [x] => do
    let xs ← items n
    need (xs.length < sizeLine)
    setO n (.lst (xs ++ [x]))
    pure .non
  | .pop, .ref n, [] => do
    let xs ← items n
    let x ← ofOpt (xs[xs.length - 1]?)
    setO n (.lst xs.dropLast)
    pure x
  | .pop, .ref n, [.int i] => do
    let xs ← items n
    need (-(2 ^ 63) ≤ i ∧ i < 2 ^ 63)
    let k ← ofOpt (seqIndex? i xs.length)
    let x ← ofOpt (xs[k]?)
    setO n (.lst (xs.eraseIdx k))
    pure x
  | .extend, .ref n, [.ref m] => do
    let xs ← items n
    let ys ← items m
    need (xs.length + ys.length ≤ sizeLine)
    setO n (.lst (xs ++ ys))
    pure .non
  | .insert, .ref n, [.int i, x] => do
    let xs ← items n
    need (xs.length < sizeLine ∧ 0 ≤ i ∧ i < 2 ^ 63)
    setO n (.lst (xs.take i.toNat ++ [x] ++ xs.drop i.toNat))
    pure .non
  | .index, .ref n, [x] => do
    let xs ← items n
    indexD x xs
  | .upper, .str x, [] => do need (x.length ≤ 5592405); pure (.str (Txt.upper x))
  | .lower, .str x, [] => do need (x.length ≤ 5592405); pure (.str (Txt.lower x))
  | .isdigit, .str x, [] => pure (.bl (Txt.isdigit x))
  | .startswith, .str x, [.str y] => pure (.bl (Txt.startswith x y))
  | .endswith, .str x, [.str y] => pure (.bl (Txt.endswith x y))
  | .split, .str x, [.str y] => do need (0 < y.length ∧ x.length + 2 ≤ sizeLine); newO (.lst ((Txt.split x y).map .str))
  | .partition, .str x, [.str y] => do
    need (0 < y.length ∧ x.length ≤ sizeLine)
    pure (.tup [.str (Txt.partition x y).1, .str (Txt.partition x y).2.1, .str (Txt.partition x y).2.2])
  | .join, .str x, [d] => do
    let xs ← seqD d
    let ys ← ofOpt (strsOf xs)
    need ((ys.map (·.length)).sum + ys.length * x.length ≤ 16777216)
    pure (.str (Txt.join x ys))
  | _, _, _ => fail
/-- what x[::-1] is -/
def revD : D → M D
  | .ref n => do let xs ← items n; newO (.lst xs.reverse)
  | .tup xs => pure (.tup xs.reverse)
  | _ => fail
def setIdxD : D → D → D → M Unit
  | .ref n, .int i, x => do
    let xs ← items n
    let j ← ofOpt (L2.ixN xs.length i)
    setO n (.lst (xs.set j x))
  | _, _, _ => fail

/-- of which class an error is -/
def isXD : D → Nat → M Bool
  | .ref n, j => fun S => match S[n]? with
    | some (.exc c _) => .ok (subC c j) S
    | _ => .bad
  | _, _ => fail
/-- an error's field -/
def fldD : D → Str → M D
  | .ref n, f => fun S => match S[n]? with
    | some (.exc _ fs) => match fs.lookup f with
      | some d => .ok d S
      | none => .bad
    | _ => .bad
  | _, _ => fail
/-- what stands in a text for it -/
def fmtD : D → M Str
  | .str y => do need (y.length ≤ sizeLine); pure y
  | .int i => do need (i.natAbs.log2 < 1920); pure (toString i)
  | _ => fail
/-- the text that an error with a field is made with -/
def kText (pre : Str) (d : D) : M Unit := do
  let y ← fmtD d
  need ((pre ++ y).length ≤ sizeLine)
/-- a text alone -/
def isText : D → M Unit
  | .str _ => pure ()
  | _ => fail
/-! names -/
def bindV (v : Option Nat) (o : D) (ρ : List (Option D)) : List (Option D) := match v with
  | some i => ρ.set i (some o)
  | none => ρ
def setAll (is : List Nat) (ds : List D) (ρ : Env) : Env := (is.zip ds).foldl (fun ρ p => ρ.set p.1 (some p.2)) ρ
def bindN : List Tg1 → List D → Env → M Env
  | [], [], ρ => pure ρ
  | .one i :: xs, d :: ds, ρ => bindN xs ds (ρ.set i (some d))
  | .sub is :: xs, .tup es :: ds, ρ => do
    need (es.length = is.length)
    bindN xs ds (setAll is es ρ)
  | _, _, _ => fail
def bindT : Tg → D → Env → M Env
  | .var i, d, ρ => pure (ρ.set i (some d))
  | .tup is, .tup ds, ρ => do need (ds.length = is.length); pure (((is.zip ds).foldl (fun ρ p => ρ.set p.1 (some p.2)) ρ))
  | .tup _, _, _ => fail
  | .nest ts, .tup ds, ρ => bindN ts ds ρ
  | .nest _, _, _ => fail
def wipeE (ρ : Env) : List Nat → Env
  | [] => ρ
  | v :: vs => (wipeE ρ vs).set v none
open Classical in
/-- the store is as is asked -/
noncomputable def chkM (p : Sto → Prop) : M Unit := fun S => if p S then .ok () S else .bad
/-- the list stands as it is -/
def stays (n : Nat) (xs : List D) (S : Sto) : Prop := S[n]? = some (.lst xs)
def always (_ : Sto) : Prop := True
/-- what is walked: its items, and what is asked of the store at each turn -/
structure Src where
  its : List D
  ok : Sto → Prop
def srcOf : D → M Src
  | .tup xs => pure ⟨xs, always⟩
  | .str x => pure ⟨x.cps.toList.map fun c => .str ⟨#[c]⟩, always⟩
  | .ref n => do let xs ← items n; pure ⟨xs, stays n xs⟩
  | .fro ns => pure ⟨ns.map .int, always⟩
  | _ => fail
def enumL (xs : List D) : List D := xs.zipIdx.map fun p => .tup [.int p.2, p.1]
def srcEnum : D → M Src
  | .ref n => do let xs ← items n; pure ⟨enumL xs, stays n xs⟩
  | _ => fail
def zipL (xs ys : List D) : List D := (xs.zip ys).map fun p => .tup [p.1, p.2]
def srcZip : D → D → M Src
  | .ref n, .ref m => do
    let xs ← items n
    let ys ← items m
    pure ⟨zipL xs ys, fun S => stays n xs S ∧ stays m ys S⟩
  | .tup xs, .tup ys => pure ⟨zipL xs ys, always⟩
  | _, _ => fail
abbrev RngOk (i j : Int) : Prop := -(2 ^ 62) ≤ i ∧ i < 2 ^ 62 ∧ -(2 ^ 62) ≤ j ∧ j < 2 ^ 62 ∧ (j - i).toNat ≤ sizeLine
def rngL (i j : Int) : List D := (List.range (j - i).toNat).map fun k => .int (i + (k : Nat))
def srcRng1 : D → M Src
  | .int j => do need (RngOk 0 j); pure ⟨rngL 0 j, always⟩
  | _ => fail
def srcRng2 : D → D → M Src
  | .int i, .int j => do need (RngOk i j); pure ⟨rngL i j, always⟩
  | _, _ => fail
noncomputable def compL (chk : Sto → Prop) (tg : Tg) (ρ : Env) (cond : Env → M Bool) (elt : Env → M D) : List D → List D → M (List D)
  | [], acc => do chkM chk; pure acc
  | d :: ds, acc => do
    chkM chk
    let ρ' ← bindT tg d ρ
    let b ← cond ρ'
    if b then do
      let y ← elt ρ'
      compL chk tg ρ cond elt ds (acc ++ [y])
    else compL chk tg ρ cond elt ds acc
noncomputable def forL (chk : Sto → Prop) (tg : Tg) (body : Env → M Flow) : List D → Env → M Flow
  | [], ρ => do chkM chk; pure (.next ρ)
  | d :: ds, ρ => do
    chkM chk
    let ρ' ← bindT tg d ρ
    let f ← body ρ'
    match f with
    | .next ρ2 => forL chk tg body ds ρ2
    | .cont ρ2 => forL chk tg body ds ρ2
    | .brk ρ2 => pure (.next ρ2)
    | .ret d => pure (.ret d)
def whileL (c : Env → M Bool) (body : Env → M Flow) : Nat → Env → M Flow
  | 0, _ => fail
  | n + 1, ρ => do
    let b ← c ρ
    if b then do
      let f ← body ρ
      match f with
      | .next ρ2 => whileL c body n ρ2
      | .cont ρ2 => whileL c body n ρ2
      | .brk ρ2 => pure (.next ρ2)
      | .ret d => pure (.ret d)
    else pure (.next ρ)

structure Cfg where
  call : Nat → List D → M D
  glob : Nat → Option D
  fuel : Nat
/-- the arguments by the parameters' places: for each parameter its place among the keywords -/
def perm (ix : List Nat) (ds : List D) : Option (List D) := mapO (fun j => ds[j]?) ix

mutual
noncomputable def ev (C : Cfg) : E → Env → M D
  | .var i, ρ => match ρ[i]? with
    | some (some d) => pure d
    | _ => fail
  | .lit d, _ => pure d
  | .glob g, _ => ofOpt (C.glob g)
  | .tup es, ρ => do let ds ← evs C es ρ; pure (.tup ds)
  | .list es, ρ => do let ds ← evs C es ρ; newO (.lst ds)
  | .dict0, _ => newO (.dic [])
  | .bin op a b, ρ => do let x ← ev C a ρ; let y ← ev C b ρ; binD op x y
  | .neg a, ρ => do let x ← ev C a ρ; match x with
    | .int i => pure (.int (-i))
    | _ => fail
  | .cmp op a b, ρ => do let x ← ev C a ρ; let y ← ev C b ρ; let k ← cmpD op x y; pure (.bl k)
  | .chain op op' a b c, ρ => do
    let x ← ev C a ρ
    let y ← ev C b ρ
    let k ← cmpD op x y
    if k then do
      let z ← ev C c ρ
      let k' ← cmpD op' y z
      pure (.bl k')
    else pure (.bl false)
  | .isN a, ρ => do let x ← ev C a ρ; match x with
    | .non => pure (.bl true)
    | _ => pure (.bl false)
  | .notN a, ρ => do let x ← ev C a ρ; match x with
    | .non => pure (.bl false)
    | _ => pure (.bl true)
  | .and es, ρ => evAnd C es ρ
  | .or es, ρ => evOr C es ρ
  | .not a, ρ => do let x ← ev C a ρ; let k ← truth x; pure (.bl (!k))
  | .ite c a b, ρ => do
    let x ← ev C c ρ
    let k ← truth x
    if k then ev C a ρ else ev C b ρ
  | .inst a t, ρ => do let x ← ev C a ρ; let k ← instD x t; pure (.bl k)
  | .bi f es, ρ => do let ds ← evs C es ρ; biD f ds
  | .call f es, ρ => do let ds ← evs C es ρ; C.call f ds
  | .callk f ix es, ρ => do
    let ds ← evs C es ρ
    let as ← ofOpt (perm ix ds)
    C.call f as
  | .meth m o es, ρ => do let x ← ev C o ρ; recvD m x; let ds ← evs C es ρ; methD m x ds
  | .idx a b, ρ => do let x ← ev C a ρ; let y ← ev C b ρ; idxD x y
  | .slice a lo hi, ρ => do let x ← ev C a ρ; let l ← evPart C lo ρ; let h ← evPart C hi ρ; sliceD x l h
  | .rev a, ρ => do let x ← ev C a ρ; revD x
  | .comp own elt tg it cond, ρ => do
    let s ← evIt C it ρ
    need (s.its.length ≤ sizeLine)
    let ys ← compL s.ok tg (wipeE ρ own) (fun ρ => noX (evTest C cond ρ)) (fun ρ => noX (ev C elt ρ)) s.its []
    newO (.lst ys)
  | .fstr es, ρ => evJ C es Str.empty ρ
  | .isX a j, ρ => do let x ← ev C a ρ; let k ← isXD x j; pure (.bl k)
  | .fld a n, ρ => do let x ← ev C a ρ; fldD x n
  | .mkx c e, ρ => do let x ← ev C e ρ; isText x; newO (.exc c [])
  | .mkk c n pre e, ρ => do let x ← ev C e ρ; kText pre x; newO (.exc c [(n, x)])
noncomputable def evJ (C : Cfg) : Es → Str → Env → M D
  | .nil, acc, _ => pure (.str acc)
  | .cons e es, acc, ρ => do
    let d ← ev C e ρ
    let y ← fmtD d
    need ((acc ++ y).length ≤ sizeLine)
    evJ C es (acc ++ y) ρ
noncomputable def evs (C : Cfg) : Es → Env → M (List D)
  | .nil, _ => pure []
  | .cons e es, ρ => do let d ← ev C e ρ; let ds ← evs C es ρ; pure (d :: ds)
noncomputable def evAnd (C : Cfg) : Es → Env → M D
  | .nil, _ => fail
  | .cons e .nil, ρ => ev C e ρ
  | .cons e (.cons e' es), ρ => do
    let x ← ev C e ρ
    let k ← truth x
    if k then evAnd C (.cons e' es) ρ else pure (.bl false)
noncomputable def evOr (C : Cfg) : Es → Env → M D
  | .nil, _ => fail
  | .cons e .nil, ρ => ev C e ρ
  | .cons e (.cons e' es), ρ => do
    let x ← ev C e ρ
    let k ← truth x
    if k then pure (.bl true) else evOr C (.cons e' es) ρ
noncomputable def evPart (C : Cfg) : Eo → Env → M (Option Int)
  | .none, _ => pure none
  | .some e, ρ => do let d ← ev C e ρ; let i ← partD d; pure (some i)
noncomputable def evTest (C : Cfg) : Eo → Env → M Bool
  | .none, _ => pure true
  | .some e, ρ => do let d ← ev C e ρ; truth d
noncomputable def evIt (C : Cfg) : Itx → Env → M Src
  | .of e, ρ => do let d ← ev C e ρ; srcOf d
  | .rng1 a, ρ => do let d ← ev C a ρ; srcRng1 d
  | .rng2 a b, ρ => do let x ← ev C a ρ; let y ← ev C b ρ; srcRng2 x y
  | .enum e, ρ => do let d ← ev C e ρ; srcEnum d
  | .zip a b, ρ => do let x ← ev C a ρ; let y ← ev C b ρ; srcZip x y
end
mutual
noncomputable def evS (C : Cfg) : S → Env → M Flow
  | .pass, ρ => pure (.next ρ)
  | .bad, _ => fail
  | .brk, ρ => pure (.brk ρ)
  | .cont, ρ => pure (.cont ρ)
  | .retN, _ => pure (.ret .non)
  | .ret e, ρ => do let d ← ev C e ρ; pure (.ret d)
  | .asg t e, ρ => do let d ← ev C e ρ; let ρ' ← bindT t d ρ; pure (.next ρ')
  | .setIdx o i e, ρ => do let d ← ev C e ρ; let x ← ev C o ρ; let y ← ev C i ρ; setIdxD x y d; pure (.next ρ)
  | .expr e, ρ => do let _ ← ev C e ρ; pure (.next ρ)
  | .ife c a b, ρ => do
    let x ← ev C c ρ
    let k ← truth x
    if k then evSs C a ρ else evSs C b ρ
  | .forr t it body, ρ => do
    let s ← evIt C it ρ
    forL s.ok t (evSs C body) s.its ρ
  | .whil c body, ρ => whileL (fun ρ => do let x ← ev C c ρ; truth x) (evSs C body) C.fuel ρ
  | .rais c e, ρ => do let x ← ev C e ρ; isText x; throwM ⟨c, []⟩
  | .raisk c n pre e, ρ => do let x ← ev C e ρ; kText pre x; throwM ⟨c, [(n, x)]⟩
  | .tryy b hs, ρ => catchM (evSs C b ρ) fun x => evHs C hs x ρ
noncomputable def evSs (C : Cfg) : Ss → Env → M Flow
  | .nil, ρ => pure (.next ρ)
  | .cons s ss, ρ => do
    let f ← evS C s ρ
    match f with
    | .next ρ' => evSs C ss ρ'
    | .ret d => pure (.ret d)
    | .brk ρ' => pure (.brk ρ')
    | .cont ρ' => pure (.cont ρ')
noncomputable def evHs (C : Cfg) : Hs → Exn → Env → M Flow
  | .nil, x, _ => throwM x
  | .cons c v suite r, x, ρ => if subC x.cls c then do
      let o ← newO (.exc x.cls x.fs)
      let f ← noX (evSs C suite (bindV v o ρ))
      pure (goneF v f)
    else evHs C r x ρ
end
structure Fn where
  params : Nat
  slots : Nat
  body : Ss
structure Pg where
  fns : List Fn
  globs : List D
  fuel : Nat
def startE (n : Nat) (ds : List D) : Env := ds.map some ++ List.replicate (n - ds.length) none
noncomputable def run (P : Pg) : Nat → Nat → List D → M D
  | 0, _, _ => fail
  | k + 1, f, ds => match P.fns[f]? with
    | none => fail
    | some fn => do
      need (ds.length = fn.params)
      let r ← evSs ⟨run P k, fun g => P.globs[g]?, P.fuel⟩ fn.body (startE fn.slots ds)
      match r with
      | .next _ => pure .non
      | .ret d => pure d
      | _ => fail
end Rv
set_option Elab.async false
set_option linter.all false
set_option maxRecDepth 100000
set_option maxHeartbeats 4000000
namespace Rv
open PySem PySem.Spec PyProof.Rows L2

/-! ### how data lie in the heap -/
/-- a list that no one may change -/
def Fro (K : PySem.W.Frag) (H : Hp) (a : Addr) (xs : List V) : Prop :=
  (∃ o, H a = some (.frz o (.lst xs))) ∨
    ∃ (o : Obj) (its : Array Value) (n : Nat), K.lookup a = some o ∧ o.cls = .type "list" ∧ o.dict = none ∧ o.data = .seq its n ∧ its.size ≤ sizeLine ∧ Vals xs its.toList
theorem Fro.seq {K : PySem.W.Frag} {H : Hp} {a : Addr} {xs : List V} (h : Fro K H a xs) : SqL K H a xs := h.elim (fun ⟨o, e⟩ => .inl (.inr ⟨o, e⟩)) .inr
mutual
inductive Den (K : PySem.W.Frag) (H : Hp) (μ : List Addr) : V → D → Prop
  | non : Den K H μ .non .non
  | bl (b : Bool) : Den K H μ (.bl b) (.bl b)
  | int (i : Int) : Den K H μ (.int i) (.int i)
  | str (x : Str) : Den K H μ (.str x) (.str x)
  | tup {a : Addr} {xs : List V} {ds : List D} : SqT K H a xs → DenL K H μ xs ds → Den K H μ (.ref a) (.tup ds)
  | ref {a : Addr} {n : Nat} : μ[n]? = some a → Den K H μ (.ref a) (.ref n)
  | fro {a : Addr} {ns : List Int} : Fro K H a (ns.map V.int) → Den K H μ (.ref a) (.fro ns)
inductive DenL (K : PySem.W.Frag) (H : Hp) (μ : List Addr) : List V → List D → Prop
  | nil : DenL K H μ [] []
  | cons {v : V} {vs : List V} {d : D} {ds : List D} : Den K H μ v d → DenL K H μ vs ds → DenL K H μ (v :: vs) (d :: ds)
end
/-- the error classes: 1 the one above all; 0 is ValueError -/
def clN : List Str := ["", "SignError", "BadStock", "BadName", "BadSign", "BadText", "BadPicture", "BadPath", "BadWord", "BadBox", "BadMove", "BadHand", "BadOrder", "BadBook", "BadKinds", "NoPutting", "BadSamples", "BadSigns", "BadSorts", "BadStroke", "BadGrid", "BadCount", "BadCut", "NothingToUndo", "Full", "BadCommand", "TooMany"]
def cm (K : PySem.W.Frag) (c : Nat) : Addr := match PySem.W.nsIn K mainGlobals (clN.getD c Str.empty) with
  | some (some (.ref a)) => a
  | _ => 0
def clMro (K : PySem.W.Frag) (c : Nat) : List Value := .ref (cm K c) :: ((if c = 1 then [] else [.ref (cm K 1)]) ++ PySem.HandSPX.veTail)
/-- what the written part says of an error class -/
structure ErC (K : PySem.W.Frag) (c : Nat) : Prop where
  xf : XfC K (cm K c)
  ic : ExcC K (cm K c)
  kp : PySem.W.keepIn K (.ref (cm K c)) = true
  ty : PySem.W.typeIn K (.ref (cm K c)) = some (.type "type")
  mro : (PySem.W.clsIn K (cm K c)).map (·.mro) = some (clMro K c)
  inj : ∀ j, 1 ≤ j → j < 27 → cm K j = cm K c → j = c
  pos : 1 ≤ c
  lt : c < 27
/-- .. and of its errors' fields -/
def ErF (K : PySem.W.Frag) (c : Nat) (fs : List (Str × D)) : Prop := ErC K c ∧ ∀ p ∈ fs, PySem.W.findIn K (.ref (cm K c)) p.1 = some none
/-- an error's object -/
def erO (cls : Value) (d : Option Addr) (a : Addr) : HO := .ext fun h => ∃ oe vs, h.get? a = some oe ∧ Zc cls d oe ∧ oe.data = .fields vs
/-- an error's fields, in its dict -/
def XR (K : PySem.W.Frag) (H : Hp) (μ : List Addr) (d : Option Addr) : List (Str × D) → Prop
  | [] => d = none
  | fs => ∃ dd vs, d = some dd ∧ H dd = some (.xd vs) ∧ ∀ f x, fs.lookup f = some x → ∃ v, vs.lookup f = some v ∧ Den K H μ v x
/-- a thing of the store -/
def ObjR (K : PySem.W.Frag) (H : Hp) (μ : List Addr) (a : Addr) : O → Prop
  | .lst ds => ∃ xs, H a = some (.lst xs) ∧ DenL K H μ xs ds
  | .dic kvs => kvs = [] ∧ H a = some (.dK [])
  | .exc c fs => (c = 0 ∧ fs = [] ∧ H a = some (erO (.type "ValueError") none a)) ∨ (ErF K c fs ∧ ∃ d, H a = some (erO (.ref (cm K c)) d a) ∧ XR K H μ d fs)
theorem erO_tup {cls : Value} {d : Option Addr} {a : Addr} {xs : List V} : erO cls d a ≠ .tup xs := fun z => by
  have z' : HO.ext _ = HO.tup xs := z
  cases z'
theorem erO_frz {cls : Value} {d : Option Addr} {a : Addr} {o : Obj} {u : HO} : erO cls d a ≠ .frz o u := fun z => by
  have z' : HO.ext _ = HO.frz o u := z
  cases z'
theorem erO_lst {cls : Value} {d : Option Addr} {a : Addr} {xs : List V} : erO cls d a ≠ .lst xs := fun z => by
  have z' : HO.ext _ = HO.lst xs := z
  cases z'
structure Rel (K : PySem.W.Frag) (H : Hp) (μ : List Addr) (S : Sto) : Prop where
  len : μ.length = S.length
  nd : μ.Nodup
  obj : ∀ (n : Nat) (a : Addr) (o : O), μ[n]? = some a → S[n]? = some o → ObjR K H μ a o
/-- from one heap to a later one: new things behind the old, and all that the store does not hold as it was -/
structure Step (H : Hp) (μ : List Addr) (H' : Hp) (μ' : List Addr) : Prop where
  ext : ∃ ν, μ' = μ ++ ν ∧ ∀ b ∈ ν, b ∉ μ → H b = none
  keep : ∀ b o, H b = some o → b ∉ μ → H' b = some o
def EnvR (K : PySem.W.Frag) (H : Hp) (μ : List Addr) (σ : L2.St) (ρ : Env) : Prop :=
  σ.length = ρ.length ∧ ∀ (i : Nat) d, ρ[i]? = some (some d) → ∃ v, σ[i]? = some (some v) ∧ Den K H μ v d

theorem Step.refl (H : Hp) (μ : List Addr) : Step H μ H μ := ⟨⟨[], by simp, fun _ h => nomatch h⟩, fun _ _ h _ => h⟩
theorem Step.trans {H H1 H2 : Hp} {μ μ1 μ2 : List Addr} (a : Step H μ H1 μ1) (b : Step H1 μ1 H2 μ2) : Step H μ H2 μ2 := by
  obtain ⟨ν, rfl, hν⟩ := a.ext
  obtain ⟨ν2, rfl, hν2⟩ := b.ext
  refine ⟨⟨ν ++ ν2, by simp, fun c hc hn => ?_⟩, fun c o h hc => b.keep c o (a.keep c o h hc) fun z => ?_⟩
  · rcases List.mem_append.mp hc with h | h
    · exact hν c h hn
    · cases e : H c with
      | none => rfl
      | some o =>
        have h1 := a.keep c o e hn
        by_cases hm : c ∈ ν
        · rw [hν c hm hn] at e
          cases e
        · rw [hν2 c h (fun z => (List.mem_append.mp z).elim hn hm)] at h1
          cases h1
  · rcases List.mem_append.mp z with h1 | h1
    · exact hc h1
    · rw [hν c h1 hc] at h
      cases h
/-- a new object that the store does not hold -/
theorem Step.aside {H : Hp} {μ : List Addr} {p : Addr} {o : HO} (h : H p = none) : Step H μ (upd H p o) μ :=
  ⟨⟨[], by simp, fun _ h => nomatch h⟩, fun b u e _ => by rw [upd_ne (ne_of_none e h)]; exact e⟩
/-- a new thing of the store -/
theorem Step.more {H : Hp} {μ : List Addr} {p : Addr} {o : HO} (h : H p = none) : Step H μ (upd H p o) (μ ++ [p]) :=
  ⟨⟨[p], rfl, fun b hb _ => by rw [List.mem_singleton.mp hb]; exact h⟩, fun b u e _ => by rw [upd_ne (ne_of_none e h)]; exact e⟩
/-- a thing of the store changed -/
theorem Step.set {H : Hp} {μ : List Addr} {p : Addr} {o : HO} (h : p ∈ μ) : Step H μ (upd H p o) μ :=
  ⟨⟨[], by simp, fun _ h => nomatch h⟩, fun b u e hb => by rw [upd_ne (fun z => hb (by rw [z]; exact h))]; exact e⟩

section
variable {K : PySem.W.Frag} {H H' : Hp} {μ μ' : List Addr} {S S' : Sto}
theorem Rel.at {n : Nat} {a : Addr} (R : Rel K H μ S) (h : μ[n]? = some a) : ∃ o, S[n]? = some o ∧ ObjR K H μ a o := by
  have hn : n < S.length := by rw [← R.len]; exact (List.getElem?_eq_some_iff.mp h).1
  exact ⟨S[n], List.getElem?_eq_getElem hn, R.obj n a _ h (List.getElem?_eq_getElem hn)⟩
theorem Rel.addr {n : Nat} {o : O} (R : Rel K H μ S) (h : S[n]? = some o) : ∃ a, μ[n]? = some a ∧ ObjR K H μ a o := by
  have hn : n < μ.length := by rw [R.len]; exact (List.getElem?_eq_some_iff.mp h).1
  exact ⟨μ[n], List.getElem?_eq_getElem hn, R.obj n _ o (List.getElem?_eq_getElem hn) h⟩
theorem ObjR.notTup {a : Addr} {o : O} {xs : List V} (h : ObjR K H μ a o) (q : Rd H a (.tup xs)) : False := by
  cases o with
  | lst ds =>
    obtain ⟨ys, e, _⟩ := h
    rcases q with q | ⟨u, q⟩ <;> (rw [e] at q; cases q)
  | dic kvs =>
    obtain ⟨_, e⟩ := h
    rcases q with q | ⟨u, q⟩ <;> (rw [e] at q; cases q)
  | exc c fs =>
    rcases h with ⟨_, _, e⟩ | ⟨_, d, e, _⟩ <;> rcases q with q | ⟨u, q⟩ <;> rw [e] at q <;> first | exact erO_tup (Option.some.inj q) | exact erO_frz (Option.some.inj q)
theorem Rel.notTup (R : Rel K H μ S) {a : Addr} {xs : List V} (q : Rd H a (.tup xs)) : a ∉ μ := fun hm => by
  obtain ⟨n, hn⟩ := List.mem_iff_getElem?.mp hm
  obtain ⟨o, _, h⟩ := R.at hn
  exact h.notTup q
theorem Step.seqT (R : Rel K H μ S) (s : Step H μ H' μ') {a : Addr} {xs : List V} (h : SqT K H a xs) : SqT K H' a xs := by
  rcases h with h | h
  · have hn := R.notTup h
    rcases h with h | ⟨o, h⟩
    · exact .inl (.inl (s.keep _ _ h hn))
    · exact .inl (.inr ⟨o, s.keep _ _ h hn⟩)
  · exact .inr h
theorem ObjR.some {a : Addr} {o : O} (h : ObjR K H μ a o) : ∃ u, H a = Option.some u ∧ Mut (Option.some u) := by
  cases o with
  | lst ds =>
    obtain ⟨ys, e, _⟩ := h
    exact ⟨_, e, trivial⟩
  | dic kvs =>
    obtain ⟨_, e⟩ := h
    exact ⟨_, e, trivial⟩
  | exc c fs =>
    rcases h with ⟨_, _, e⟩ | ⟨_, d, e, _⟩ <;> exact ⟨_, e, trivial⟩
theorem Rel.mem (R : Rel K H μ S) {a : Addr} (h : a ∈ μ) : ∃ u, H a = some u ∧ Mut (some u) := by
  obtain ⟨n, hn⟩ := List.mem_iff_getElem?.mp h
  obtain ⟨o, _, h⟩ := R.at hn
  exact h.some
theorem Step.fro (R : Rel K H μ S) (s : Step H μ H' μ') {a : Addr} {xs : List V} (h : Fro K H a xs) : Fro K H' a xs := by
  rcases h with ⟨o, h⟩ | h
  · refine .inl ⟨o, s.keep _ _ h fun hm => ?_⟩
    obtain ⟨u, e, m⟩ := R.mem hm
    rw [h] at e
    cases e
    exact m
  · exact .inr h
theorem Step.get (s : Step H μ H' μ') {n : Nat} {a : Addr} (h : μ[n]? = some a) : μ'[n]? = some a := by
  obtain ⟨ν, rfl, _⟩ := s.ext
  rw [List.getElem?_append_left (List.getElem?_eq_some_iff.mp h).1]
  exact h
mutual
theorem Den.mono (R : Rel K H μ S) (s : Step H μ H' μ') : ∀ (d : D) (v : V), Den K H μ v d → Den K H' μ' v d
  | .non, _, h => by cases h; exact .non
  | .bl b, _, h => by cases h; exact .bl b
  | .int b, _, h => by cases h; exact .int b
  | .str b, _, h => by cases h; exact .str b
  | .tup ds, _, h => by
    cases h with
    | tup h1 h2 => exact .tup (s.seqT R h1) (DenL.mono R s ds _ h2)
  | .ref n, _, h => by
    cases h with
    | ref h => exact .ref (s.get h)
  | .fro ns, _, h => by
    cases h with
    | fro h => exact .fro (s.fro R h)
theorem DenL.mono (R : Rel K H μ S) (s : Step H μ H' μ') : ∀ (ds : List D) (vs : List V), DenL K H μ vs ds → DenL K H' μ' vs ds
  | [], _, h => by cases h; exact .nil
  | d :: ds, _, h => by
    cases h with
    | cons h1 h2 => exact .cons (Den.mono R s d _ h1) (DenL.mono R s ds _ h2)
end
theorem EnvR.mono {σ : L2.St} {ρ : Env} (R : Rel K H μ S) (s : Step H μ H' μ') (e : EnvR K H μ σ ρ) : EnvR K H' μ' σ ρ :=
  ⟨e.1, fun i d h => let ⟨v, h1, h2⟩ := e.2 i d h; ⟨v, h1, Den.mono R s d v h2⟩⟩
theorem EnvR.set {σ : L2.St} {ρ : Env} {i : Nat} {v : V} {d : D} (e : EnvR K H μ σ ρ) (h : Den K H μ v d) : EnvR K H μ (σ.set i (some v)) (ρ.set i (some d)) := by
  refine ⟨by simp [e.1], fun j x hx => ?_⟩
  by_cases hj : i = j
  · subst hj
    by_cases hi : i < ρ.length
    · rw [List.getElem?_set_self hi] at hx
      cases hx
      exact ⟨v, List.getElem?_set_self (by rw [e.1]; exact hi), h⟩
    · rw [List.getElem?_eq_none (by simpa using hi)] at hx
      cases hx
  · rw [List.getElem?_set_ne hj] at hx
    obtain ⟨w, h1, h2⟩ := e.2 j x hx
    exact ⟨w, by rw [List.getElem?_set_ne hj]; exact h1, h2⟩
theorem EnvR.wipe {σ : L2.St} {ρ : Env} (e : EnvR K H μ σ ρ) : ∀ vs : List Nat, EnvR K H μ (L2.wipe σ vs) (wipeE ρ vs)
  | [] => e
  | v :: vs => by
    have ih := EnvR.wipe e vs
    refine ⟨by show ((L2.wipe σ vs).set v none).length = ((wipeE ρ vs).set v none).length; simp [ih.1], fun j x hx => ?_⟩
    have hx' : ((wipeE ρ vs).set v none)[j]? = some (some x) := hx
    by_cases hj : v = j
    · subst hj
      by_cases hi : v < (wipeE ρ vs).length
      · rw [List.getElem?_set_self hi] at hx'
        cases hx'
      · rw [List.getElem?_eq_none (by simpa using hi)] at hx'
        cases hx'
    · rw [List.getElem?_set_ne hj] at hx'
      obtain ⟨w, h1, h2⟩ := ih.2 j x hx'
      exact ⟨w, by show ((L2.wipe σ vs).set v none)[j]? = _; rw [List.getElem?_set_ne hj]; exact h1, h2⟩

/-! lists of data -/
theorem DenL.length : ∀ {ds : List D} {vs : List V}, DenL K H μ vs ds → vs.length = ds.length
  | [], _, h => by cases h; rfl
  | _ :: _, _, h => by
    cases h with
    | cons _ h2 => simp [DenL.length h2]
theorem DenL.get : ∀ {ds : List D} {vs : List V} {i : Nat} {d : D}, DenL K H μ vs ds → ds[i]? = some d → ∃ v, vs[i]? = some v ∧ Den K H μ v d
  | [], _, _, _, _, e => by simp at e
  | _ :: _, _, 0, _, h, e => by
    cases h with
    | cons h1 _ => simp at e; subst e; exact ⟨_, rfl, h1⟩
  | _ :: _, _, i + 1, d, h, e => by
    cases h with
    | cons _ h2 =>
      obtain ⟨v, h3, h4⟩ := DenL.get (i := i) h2 (by simpa using e)
      exact ⟨v, by simpa using h3, h4⟩
theorem DenL.get' : ∀ {ds : List D} {vs : List V} {i : Nat} {v : V}, DenL K H μ vs ds → vs[i]? = some v → ∃ d, ds[i]? = some d ∧ Den K H μ v d
  | [], _, _, _, h, e => by cases h; simp at e
  | _ :: _, _, 0, _, h, e => by
    cases h with
    | cons h1 _ => simp at e; subst e; exact ⟨_, rfl, h1⟩
  | _ :: _, _, i + 1, d, h, e => by
    cases h with
    | cons _ h2 =>
      obtain ⟨v, h3, h4⟩ := DenL.get' (i := i) h2 (by simpa using e)
      exact ⟨v, by simpa using h3, h4⟩
theorem DenL.append : ∀ {ds es : List D} {vs us : List V}, DenL K H μ vs ds → DenL K H μ us es → DenL K H μ (vs ++ us) (ds ++ es)
  | [], _, _, _, h, k => by cases h; exact k
  | _ :: _, _, _, _, h, k => by
    cases h with
    | cons h1 h2 => exact .cons h1 (DenL.append h2 k)
theorem DenL.take : ∀ {ds : List D} {vs : List V} (n : Nat), DenL K H μ vs ds → DenL K H μ (vs.take n) (ds.take n)
  | _, _, 0, _ => .nil
  | [], _, _ + 1, h => by cases h; exact .nil
  | _ :: _, _, n + 1, h => by
    cases h with
    | cons h1 h2 => exact .cons h1 (DenL.take n h2)
theorem DenL.drop : ∀ {ds : List D} {vs : List V} (n : Nat), DenL K H μ vs ds → DenL K H μ (vs.drop n) (ds.drop n)
  | _, _, 0, h => h
  | [], _, _ + 1, h => by cases h; exact .nil
  | _ :: _, _, n + 1, h => by
    cases h with
    | cons h1 h2 => exact DenL.drop n h2
theorem DenL.one {d : D} {v : V} (h : Den K H μ v d) : DenL K H μ [v] [d] := .cons h .nil
theorem DenL.reverse : ∀ {ds : List D} {vs : List V}, DenL K H μ vs ds → DenL K H μ vs.reverse ds.reverse
  | [], _, h => by cases h; exact .nil
  | _ :: _, _, h => by
    cases h with
    | cons h1 h2 =>
      rw [List.reverse_cons, List.reverse_cons]
      exact (DenL.reverse h2).append (.one h1)
theorem DenL.flat {ds : List D} {vs : List V} (h : DenL K H μ vs ds) : ∀ k : Nat, DenL K H μ (List.replicate k vs).flatten (List.replicate k ds).flatten
  | 0 => .nil
  | k + 1 => by
    rw [List.replicate_succ, List.replicate_succ, List.flatten_cons, List.flatten_cons]
    exact h.append (DenL.flat h k)
theorem DenL.set : ∀ {ds : List D} {vs : List V} {d : D} {v : V} (i : Nat), DenL K H μ vs ds → Den K H μ v d → DenL K H μ (vs.set i v) (ds.set i d)
  | [], _, _, _, _, h, _ => by cases h; exact .nil
  | _ :: _, _, _, _, 0, h, q => by
    cases h with
    | cons h1 h2 => exact .cons q h2
  | _ :: _, _, _, _, i + 1, h, q => by
    cases h with
    | cons h1 h2 => exact .cons h1 (DenL.set i h2 q)
theorem DenL.dropLast {ds : List D} {vs : List V} (h : DenL K H μ vs ds) : DenL K H μ vs.dropLast ds.dropLast := by
  rw [List.dropLast_eq_take, List.dropLast_eq_take, h.length]
  exact h.take _
theorem DenL.erase {ds : List D} {vs : List V} (i : Nat) (h : DenL K H μ vs ds) : DenL K H μ (vs.eraseIdx i) (ds.eraseIdx i) := by
  rw [List.eraseIdx_eq_take_drop_succ, List.eraseIdx_eq_take_drop_succ]
  exact (h.take _).append (h.drop _)
theorem DenL.cut {ds : List D} {vs : List V} (lo hi : Option Int) (h : DenL K H μ vs ds) : DenL K H μ (cutV vs lo hi) (cutL ds lo hi) := by
  unfold cutV cutL
  rw [h.length]
  exact (h.drop _).take _
theorem DenL.nil_iff {ds : List D} {vs : List V} (h : DenL K H μ vs ds) : vs = [] ↔ ds = [] := by
  rw [← List.length_eq_zero_iff, ← List.length_eq_zero_iff, h.length]

/-! a list aside that grows -/
mutual
theorem Den.carry (hT : ∀ a xs, SqT K H a xs → SqT K H' a xs) (hF : ∀ a xs, Fro K H a xs → Fro K H' a xs) (hm : ∀ (n : Nat) a, μ[n]? = some a → μ'[n]? = some a) : ∀ (d : D) (v : V), Den K H μ v d → Den K H' μ' v d
  | .non, _, h => by cases h; exact .non
  | .bl b, _, h => by cases h; exact .bl b
  | .int b, _, h => by cases h; exact .int b
  | .str b, _, h => by cases h; exact .str b
  | .tup ds, _, h => by
    cases h with
    | tup h1 h2 => exact .tup (hT _ _ h1) (DenL.carry hT hF hm ds _ h2)
  | .ref n, _, h => by
    cases h with
    | ref h => exact .ref (hm _ _ h)
  | .fro ns, _, h => by
    cases h with
    | fro h => exact .fro (hF _ _ h)
theorem DenL.carry (hT : ∀ a xs, SqT K H a xs → SqT K H' a xs) (hF : ∀ a xs, Fro K H a xs → Fro K H' a xs) (hm : ∀ (n : Nat) a, μ[n]? = some a → μ'[n]? = some a) : ∀ (ds : List D) (vs : List V), DenL K H μ vs ds → DenL K H' μ' vs ds
  | [], _, h => by cases h; exact .nil
  | d :: ds, _, h => by
    cases h with
    | cons h1 h2 => exact .cons (Den.carry hT hF hm d _ h1) (DenL.carry hT hF hm ds _ h2)
end
theorem sqT_at {a p : Addr} {xs ys zs : List V} (hp : H p = some (.lst ys)) (h : SqT K H a xs) : SqT K (upd H p (.lst zs)) a xs := by
  rcases h with (h | ⟨o, h⟩) | h
  · exact .inl (.inl (by rw [upd_ne (ne_of h hp (by intro z; cases z))]; exact h))
  · exact .inl (.inr ⟨o, by rw [upd_ne (ne_of h hp (by intro z; cases z))]; exact h⟩)
  · exact .inr h
theorem fro_at {a p : Addr} {xs ys zs : List V} (hp : H p = some (.lst ys)) (h : Fro K H a xs) : Fro K (upd H p (.lst zs)) a xs := by
  rcases h with ⟨o, h⟩ | h
  · exact .inl ⟨o, by rw [upd_ne (ne_of h hp (by intro z; cases z))]; exact h⟩
  · exact .inr h
theorem DenL.grown {p : Addr} {ys zs vs : List V} {ds : List D} (hp : H p = some (.lst ys)) (h : DenL K H μ vs ds) : DenL K (upd H p (.lst zs)) μ vs ds :=
  DenL.carry (fun _ _ => sqT_at hp) (fun _ _ => fro_at hp) (fun _ _ e => e) _ _ h
theorem Den.grown {p : Addr} {ys zs : List V} {v : V} {d : D} (hp : H p = some (.lst ys)) (h : Den K H μ v d) : Den K (upd H p (.lst zs)) μ v d :=
  Den.carry (fun _ _ => sqT_at hp) (fun _ _ => fro_at hp) (fun _ _ e => e) _ _ h
theorem XR.carry {d : Option Addr} (hX : ∀ a xs, H a = some (.xd xs) → H' a = some (.xd xs)) (hT : ∀ a xs, SqT K H a xs → SqT K H' a xs) (hF : ∀ a xs, Fro K H a xs → Fro K H' a xs) (hm : ∀ (n : Nat) a, μ[n]? = some a → μ'[n]? = some a) : ∀ {fs : List (Str × D)}, XR K H μ d fs → XR K H' μ' d fs
  | [], h => h
  | _ :: _, ⟨dd, vs, e1, e2, h⟩ => ⟨dd, vs, e1, hX _ _ e2, fun f x q => let ⟨v, h1, h2⟩ := h f x q; ⟨v, h1, Den.carry hT hF hm x v h2⟩⟩
theorem Rel.notXd (R : Rel K H μ S) {a : Addr} {fs : List (Str × V)} (q : H a = some (.xd fs)) : a ∉ μ := fun hm => by
  obtain ⟨u, e, m⟩ := R.mem hm
  rw [q] at e
  cases e
  exact m
theorem XR.mono (R : Rel K H μ S) (s : Step H μ H' μ') {d : Option Addr} {fs : List (Str × D)} (h : XR K H μ d fs) : XR K H' μ' d fs :=
  h.carry (fun a xs q => s.keep _ _ q (R.notXd q)) (fun _ _ q => s.seqT R q) (fun _ _ q => s.fro R q) fun _ _ q => s.get q
/-- a list that the store does not hold has grown -/
theorem Rel.grown {p : Addr} {ys zs : List V} (R : Rel K H μ S) (hp : H p = some (.lst ys)) (hn : p ∉ μ) : Rel K (upd H p (.lst zs)) μ S := by
  refine ⟨R.len, R.nd, fun n a o h1 h2 => ?_⟩
  have ha : a ≠ p := fun z => hn (by rw [← z]; exact List.mem_of_getElem? h1)
  have h := R.obj n a o h1 h2
  cases o with
  | lst ds =>
    obtain ⟨vs, q, d⟩ := h
    exact ⟨vs, by rw [upd_ne ha]; exact q, d.grown hp⟩
  | dic kvs =>
    obtain ⟨z, q⟩ := h
    exact ⟨z, by rw [upd_ne ha]; exact q⟩
  | exc c fs =>
    rcases h with ⟨z1, z2, q⟩ | ⟨z, dx, q, x⟩
    · exact .inl ⟨z1, z2, by rw [upd_ne ha]; exact q⟩
    exact .inr ⟨z, dx, by rw [upd_ne ha]; exact q, x.carry (fun b xs e => by rw [upd_ne (fun z => by rw [z, hp] at e; cases e)]; exact e) (fun _ _ => sqT_at hp) (fun _ _ => fro_at hp) fun _ _ e => e⟩
/-- it comes into the store -/
theorem Rel.join {p : Addr} {vs : List V} {ds : List D} (R : Rel K H μ S) (hp : H p = some (.lst vs)) (hn : p ∉ μ) (d : DenL K H μ vs ds) : Rel K H (μ ++ [p]) (S ++ [.lst ds]) := by
  have hm : ∀ (n : Nat) a, μ[n]? = some a → (μ ++ [p])[n]? = some a := fun n a e => by
    rw [List.getElem?_append_left (List.getElem?_eq_some_iff.mp e).1]
    exact e
  refine ⟨by simp [R.len], ?_, fun n a o' h1 h2 => ?_⟩
  · rw [List.nodup_append]
    exact ⟨R.nd, by simp, fun x hx y hy e => hn (by rw [List.mem_singleton] at hy; rw [← hy, ← e]; exact hx)⟩
  · by_cases hl : n < μ.length
    · rw [List.getElem?_append_left hl] at h1
      rw [List.getElem?_append_left (by rw [← R.len]; exact hl)] at h2
      have h := R.obj n a o' h1 h2
      cases o' with
      | lst es =>
        obtain ⟨us, q, d⟩ := h
        exact ⟨us, q, DenL.carry (fun _ _ e => e) (fun _ _ e => e) hm _ _ d⟩
      | dic kvs => exact h
      | exc c fs =>
        rcases h with h | ⟨z, dx, q, x⟩
        · exact .inl h
        exact .inr ⟨z, dx, q, x.carry (fun _ _ e => e) (fun _ _ e => e) (fun _ _ e => e) hm⟩
    · have hn' : n = μ.length := by
        have := (List.getElem?_eq_some_iff.mp h1).1
        simp at this
        omega
      subst hn'
      rw [List.getElem?_append_right (Nat.le_refl _)] at h1
      rw [R.len, List.getElem?_append_right (Nat.le_refl _)] at h2
      simp at h1 h2
      subst h1 h2
      exact ⟨vs, hp, DenL.carry (fun _ _ e => e) (fun _ _ e => e) hm _ _ d⟩
theorem Step.grown {p : Addr} {u : HO} {H1 : Hp} {μ1 : List Addr} (s : Step H μ H1 μ1) (hp : H p = none) : Step H μ (upd H1 p u) μ1 :=
  ⟨s.ext, fun b o e hb => by rw [upd_ne (ne_of_none e hp)]; exact s.keep b o e hb⟩
theorem Step.join {p : Addr} {H1 : Hp} {μ1 : List Addr} (s : Step H μ H1 μ1) (hp : H p = none) : Step H μ H1 (μ1 ++ [p]) := by
  obtain ⟨ν, rfl, h⟩ := s.ext
  refine ⟨⟨ν ++ [p], by simp, fun b hb hn => ?_⟩, s.keep⟩
  rcases List.mem_append.mp hb with q | q
  · exact h b q hn
  · rw [List.mem_singleton.mp q]
    exact hp
theorem Step.out {p : Addr} {u : HO} {H1 : Hp} {μ1 : List Addr} (s : Step H μ H1 μ1) (hp : H p = some u) (hn : p ∉ μ) : H1 p = some u ∧ p ∉ μ1 := by
  refine ⟨s.keep p u hp hn, fun hm => ?_⟩
  obtain ⟨ν, rfl, h⟩ := s.ext
  rcases List.mem_append.mp hm with q | q
  · exact hn q
  · rw [h p q hn] at hp
    cases hp

/-! stores -/
theorem ObjR.mono {H1 : Hp} {μ1 : List Addr} {a : Addr} {o : O} (R : Rel K H μ S) (s : Step H μ H1 μ1) (e : H1 a = H a) (h : ObjR K H μ a o) : ObjR K H1 μ1 a o := by
  cases o with
  | lst ds =>
    obtain ⟨ys, q, d⟩ := h
    exact ⟨ys, e.trans q, DenL.mono R s _ _ d⟩
  | dic kvs =>
    obtain ⟨z, q⟩ := h
    exact ⟨z, e.trans q⟩
  | exc c fs =>
    rcases h with ⟨z1, z2, q⟩ | ⟨z, dx, q, x⟩
    · exact .inl ⟨z1, z2, e.trans q⟩
    exact .inr ⟨z, dx, e.trans q, x.mono R s⟩
theorem Rel.new {p : Addr} (R : Rel K H μ S) (hp : H p = none) : p ∉ μ := fun hm => by
  obtain ⟨u, e, _⟩ := R.mem hm
  rw [hp] at e
  cases e
/-- a new object aside -/
theorem Rel.aside {p : Addr} {ho : HO} (R : Rel K H μ S) (hp : H p = none) : Rel K (upd H p ho) μ S := by
  refine ⟨R.len, R.nd, fun n a o h1 h2 => (R.obj n a o h1 h2).mono R (Step.aside hp) ?_⟩
  exact upd_ne fun z => R.new hp (by rw [← z]; exact List.mem_of_getElem? h1)
theorem Rel.more {p : Addr} {o : O} {ho : HO} (R : Rel K H μ S) (hp : H p = none) (hn : ObjR K (upd H p ho) (μ ++ [p]) p o) : Rel K (upd H p ho) (μ ++ [p]) (S ++ [o]) := by
  have hpm := R.new hp
  refine ⟨by simp [R.len], ?_, fun n a o' h1 h2 => ?_⟩
  · rw [List.nodup_append]
    exact ⟨R.nd, by simp, fun x hx y hy e => hpm (by rw [List.mem_singleton] at hy; rw [← hy, ← e]; exact hx)⟩
  · by_cases hl : n < μ.length
    · rw [List.getElem?_append_left hl] at h1
      rw [List.getElem?_append_left (by rw [← R.len]; exact hl)] at h2
      refine (R.obj n a o' h1 h2).mono R (Step.more hp) (upd_ne fun z => hpm ?_)
      rw [← z]
      exact List.mem_of_getElem? h1
    · have hn' : n = μ.length := by
        have := (List.getElem?_eq_some_iff.mp h1).1
        simp at this
        omega
      subst hn'
      rw [List.getElem?_append_right (Nat.le_refl _)] at h1
      rw [R.len, List.getElem?_append_right (Nat.le_refl _)] at h2
      simp at h1 h2
      subst h1 h2
      exact hn
/-- a thing changed -/
theorem Rel.set {n : Nat} {p : Addr} {o : O} {ho : HO} (R : Rel K H μ S) (hp : μ[n]? = some p) (hn : ObjR K (upd H p ho) μ p o) : Rel K (upd H p ho) μ (S.set n o) := by
  refine ⟨by simp [R.len], R.nd, fun m a o' h1 h2 => ?_⟩
  by_cases hm : n = m
  · subst hm
    rw [hp] at h1
    cases h1
    have hl : n < S.length := by rw [← R.len]; exact (List.getElem?_eq_some_iff.mp hp).1
    rw [List.getElem?_set_self hl] at h2
    cases h2
    exact hn
  · rw [List.getElem?_set_ne hm] at h2
    refine (R.obj m a o' h1 h2).mono R (Step.set (List.mem_of_getElem? hp)) (upd_ne fun z => ?_)
    subst z
    obtain ⟨h3, h4⟩ := List.getElem?_eq_some_iff.mp hp
    obtain ⟨h5, h6⟩ := List.getElem?_eq_some_iff.mp h1
    exact hm ((List.getElem_inj R.nd).mp (h4.trans h6.symm))
end

/-! ### what is wanted behind a reckoning -/
abbrev WX := Exn → Option Addr → Hp → List Addr → Prop
abbrev SX := L2.St → WX
def Wp {α : Type} (m : M α) (S : Sto) (k : α → Sto → Prop) (w : Exn → Sto → Prop) : Prop := match m S with
  | .ok a S' => k a S'
  | .ex c S' => w c S'
  | .bad => False
section
variable {α β : Type} {S : Sto} {k k' : α → Sto → Prop} {kb : β → Sto → Prop} {w w' : Exn → Sto → Prop}
theorem Wp.pure {a : α} : Wp (Pure.pure a : M α) S k w ↔ k a S := Iff.rfl
theorem Wp.fail : ¬ Wp (Rv.fail : M α) S k w := id
theorem Wp.bind {m : M α} {g : α → M β} : Wp (m >>= g) S kb w ↔ Wp m S (fun a S' => Wp (g a) S' kb w) w := by
  show (match M.bnd m g S with | .ok a S' => kb a S' | .ex c S' => w c S' | .bad => False) ↔ _
  unfold M.bnd Wp
  cases m S <;> exact Iff.rfl
theorem Wp.mono {m : M α} (h : Wp m S k w) (hk : ∀ a S', k a S' → k' a S') (hw : ∀ c S', w c S' → w' c S') : Wp m S k' w' := by
  unfold Wp at h ⊢
  cases e : m S with
  | ok a S' => rw [e] at h; exact hk a S' h
  | ex c S' => rw [e] at h; exact hw c S' h
  | bad => rw [e] at h; exact h
theorem Wp.need {p : Prop} [Decidable p] {k : Unit → Sto → Prop} : Wp (Rv.need p) S k w ↔ p ∧ k () S := by
  unfold Rv.need
  by_cases h : p
  · rw [if_pos h]
    exact ⟨fun q => ⟨h, q⟩, fun q => q.2⟩
  · rw [if_neg h]
    exact ⟨fun q => q.elim, fun q => (h q.1).elim⟩
theorem Wp.opt {o : Option α} : Wp (ofOpt o) S k w ↔ ∃ a, o = some a ∧ k a S := by
  cases o with
  | none => exact ⟨fun q => q.elim, fun ⟨_, e, _⟩ => by cases e⟩
  | some a => exact ⟨fun q => ⟨a, rfl, q⟩, fun ⟨_, e, q⟩ => by cases e; exact q⟩
theorem Wp.items {n : Nat} {k : List D → Sto → Prop} : Wp (Rv.items n) S k w ↔ ∃ xs, S[n]? = some (.lst xs) ∧ k xs S := by
  unfold Wp Rv.items
  cases e : S[n]? with
  | none => exact ⟨fun q => q.elim, fun ⟨_, e, _⟩ => by cases e⟩
  | some o =>
    cases o with
    | lst xs => exact ⟨fun q => ⟨xs, rfl, q⟩, fun ⟨_, e, q⟩ => by cases e; exact q⟩
    | dic kvs => exact ⟨fun q => q.elim, fun ⟨_, e, _⟩ => by cases e⟩
    | exc c fs => exact ⟨fun q => q.elim, fun ⟨_, e, _⟩ => by cases e⟩
theorem Wp.newO {o : O} {k : D → Sto → Prop} : Wp (Rv.newO o) S k w ↔ k (.ref S.length) (S ++ [o]) := Iff.rfl
theorem Wp.setO {n : Nat} {o : O} {k : Unit → Sto → Prop} : Wp (Rv.setO n o) S k w ↔ k () (S.set n o) := Iff.rfl
theorem Wp.noX {m : M α} : Wp (Rv.noX m) S k w ↔ Wp m S k fun _ _ => False := by
  unfold Wp Rv.noX
  cases m S <;> exact Iff.rfl
theorem Wp.throw {c : Exn} : Wp (Rv.throwM c : M α) S k w ↔ w c S := Iff.rfl
theorem Wp.catch {m : M α} {h : Exn → M α} : Wp (catchM m h) S k w ↔ Wp m S k fun c S' => Wp (h c) S' k w := by
  unfold Wp catchM
  cases m S <;> exact Iff.rfl
theorem Wp.chk {p : Sto → Prop} {k : Unit → Sto → Prop} : Wp (chkM p) S k w ↔ p S ∧ k () S := by
  unfold Wp chkM
  by_cases h : p S
  · rw [if_pos h]
    exact ⟨fun q => ⟨h, q⟩, fun q => q.2⟩
  · rw [if_neg h]
    exact ⟨fun q => q.elim, fun q => (h q.1).elim⟩
end
/-- behind a reckoning: whatever heap a step has led to -/
def After (K : PySem.W.Frag) (H : Hp) (μ : List Addr) (P : D → V → Hp → List Addr → Sto → Prop) : D → Sto → Prop := fun d S' => ∀ v H' μ', Step H μ H' μ' → Rel K H' μ' S' → Den K H' μ' v d → P d v H' μ' S'
def AfterX (K : PySem.W.Frag) (W : WX) (H : Hp) (μ : List Addr) : Exn → Sto → Prop := fun c S' => ∀ d H' μ', Step H μ H' μ' → Rel K H' μ' S' → ErF K c.cls c.fs → XR K H' μ' d c.fs → W c d H' μ'
theorem AfterX.on {K : PySem.W.Frag} {W : WX} {H H1 : Hp} {μ μ1 : List Addr} (s : Step H μ H1 μ1) : ∀ {c S}, AfterX K W H μ c S → AfterX K W H1 μ1 c S := fun h d H' μ' s' R => h d H' μ' (s.trans s') R
end Rv
set_option Elab.async false
set_option linter.all false
set_option maxRecDepth 100000
set_option maxHeartbeats 4000000
namespace Rv
open PySem PySem.Spec PyProof.Rows L2

/-! ### readings -/
section
variable (K : PySem.W.Frag) (W : SX)
def TEof (f : Env → M D) : TE := fun σ H Q => ∃ ρ μ S, EnvR K H μ σ ρ ∧ Rel K H μ S ∧ Wp (f ρ) S (After K H μ fun _ v H' _ _ => Q v H') (AfterX K (W σ) H μ)
def TTof (f : Env → M Bool) : TT := fun σ H Q => ∃ ρ μ S, EnvR K H μ σ ρ ∧ Rel K H μ S ∧ Wp (f ρ) S (fun b S' => ∀ H' μ', Step H μ H' μ' → Rel K H' μ' S' → Q b H') (AfterX K (W σ) H μ)
def TAof (f : Env → M (List D)) : TA := fun σ H Q => ∃ ρ μ S, EnvR K H μ σ ρ ∧ Rel K H μ S ∧ Wp (f ρ) S (fun ds S' => ∀ vs H' μ', Step H μ H' μ' → Rel K H' μ' S' → DenL K H' μ' vs ds → Q vs H') (AfterX K (W σ) H μ)
end
section
variable (K : PySem.W.Frag)
def R1of (g : D → M D) : V → Hp → VK → Prop := fun v H Q => ∃ (W : WX), ∃ μ S x, Rel K H μ S ∧ Den K H μ v x ∧ Wp (g x) S (After K H μ fun _ v H' _ _ => Q v H') (AfterX K W H μ)
def R2of (g : D → D → M D) : R2 := fun v u H Q => ∃ (W : WX), ∃ μ S x y, Rel K H μ S ∧ Den K H μ v x ∧ Den K H μ u y ∧ Wp (g x y) S (After K H μ fun _ v H' _ _ => Q v H') (AfterX K W H μ)
def RLof (g : List D → M D) : List V → Hp → VK → Prop := fun vs H Q => ∃ (W : WX), ∃ μ S ds, Rel K H μ S ∧ DenL K H μ vs ds ∧ Wp (g ds) S (After K H μ fun _ v H' _ _ => Q v H') (AfterX K W H μ)
def RMof (g : D → List D → M D) : V → List V → Hp → VK → Prop := fun v vs H Q => ∃ (W : WX), ∃ μ S x ds, Rel K H μ S ∧ Den K H μ v x ∧ DenL K H μ vs ds ∧ Wp (g x ds) S (After K H μ fun _ v H' _ _ => Q v H') (AfterX K W H μ)
end
section
variable {K : PySem.W.Frag} {W : SX} {σ : L2.St} {H : Hp} {Q : VK}
theorem TEof.one {fa : Env → M D} {g : D → M D} (h : TEof K W (fun ρ => do let x ← fa ρ; g x) σ H Q) : TEof K W fa σ H fun v H1 => R1of K g v H1 Q := by
  obtain ⟨ρ, μ, S, e, R, h⟩ := h
  refine ⟨ρ, μ, S, e, R, (Wp.bind.mp h).mono (fun x S1 h1 => ?_) (fun _ _ z => z)⟩
  intro v H1 μ1 s1 R1 d1
  exact ⟨W σ, μ1, S1, x, R1, d1, h1.mono (fun d S' h3 v H' μ' s R d => h3 v H' μ' (s1.trans s) R d) (fun c S' z => z.on s1)⟩
theorem TEof.two {fa fb : Env → M D} {g : D → D → M D} (h : TEof K W (fun ρ => do let x ← fa ρ; let y ← fb ρ; g x y) σ H Q) :
    TEof K W fa σ H fun v H1 => TEof K W fb σ H1 fun u H2 => R2of K g v u H2 Q := by
  obtain ⟨ρ, μ, S, e, R, h⟩ := h
  refine ⟨ρ, μ, S, e, R, (Wp.bind.mp h).mono (fun x S1 h1 => ?_) (fun _ _ z => z)⟩
  intro v H1 μ1 s1 R1 d1
  refine ⟨ρ, μ1, S1, e.mono R s1, R1, (Wp.bind.mp h1).mono (fun y S2 h2 => ?_) (fun c S' z => z.on s1)⟩
  intro u H2 μ2 s2 R2 d2
  exact ⟨W σ, μ2, S2, x, y, R2, Den.mono R1 s2 _ _ d1, d2, h2.mono (fun d S' h3 v H' μ' s R d => h3 v H' μ' ((s1.trans s2).trans s) R d) (fun c S' z => z.on (s1.trans s2))⟩
theorem TEof.args {fa : Env → M (List D)} {g : List D → M D} (h : TEof K W (fun ρ => do let x ← fa ρ; g x) σ H Q) : TAof K W fa σ H fun v H1 => RLof K g v H1 Q := by
  obtain ⟨ρ, μ, S, e, R, h⟩ := h
  refine ⟨ρ, μ, S, e, R, (Wp.bind.mp h).mono (fun x S1 h1 => ?_) (fun _ _ z => z)⟩
  intro v H1 μ1 s1 R1 d1
  exact ⟨W σ, μ1, S1, x, R1, d1, h1.mono (fun d S' h3 v H' μ' s R d => h3 v H' μ' (s1.trans s) R d) (fun c S' z => z.on s1)⟩
def RFof (K : PySem.W.Frag) (W : WX) (g : List D → M D) : List V → Hp → VK → Prop := fun vs H Q => ∃ μ S ds, Rel K H μ S ∧ DenL K H μ vs ds ∧ Wp (g ds) S (After K H μ fun _ v H' _ _ => Q v H') (AfterX K W H μ)
theorem TEof.argsF {fa : Env → M (List D)} {g : List D → M D} (h : TEof K W (fun ρ => do let x ← fa ρ; g x) σ H Q) : TAof K W fa σ H fun v H1 => RFof K (W σ) g v H1 Q := by
  obtain ⟨ρ, μ, S, e, R, h⟩ := h
  refine ⟨ρ, μ, S, e, R, (Wp.bind.mp h).mono (fun x S1 h1 => ?_) (fun _ _ z => z)⟩
  intro v H1 μ1 s1 R1 d1
  exact ⟨μ1, S1, x, R1, d1, h1.mono (fun d S' h3 v H' μ' s R d => h3 v H' μ' (s1.trans s) R d) (fun c S' z => z.on s1)⟩
theorem TEof.meth {fo : Env → M D} {fa : Env → M (List D)} {g : D → List D → M D} (h : TEof K W (fun ρ => do let o ← fo ρ; let x ← fa ρ; g o x) σ H Q) :
    TEof K W fo σ H fun o H1 => TAof K W fa σ H1 fun v H2 => RMof K g o v H2 Q := by
  obtain ⟨ρ, μ, S, e, R, h⟩ := h
  refine ⟨ρ, μ, S, e, R, (Wp.bind.mp h).mono (fun x S1 h1 => ?_) (fun _ _ z => z)⟩
  intro v H1 μ1 s1 R1 d1
  refine ⟨ρ, μ1, S1, e.mono R s1, R1, (Wp.bind.mp h1).mono (fun y S2 h2 => ?_) (fun c S' z => z.on s1)⟩
  intro u H2 μ2 s2 R2 d2
  exact ⟨W σ, μ2, S2, x, y, R2, Den.mono R1 s2 _ _ d1, d2, h2.mono (fun d S' h3 v H' μ' s R d => h3 v H' μ' ((s1.trans s2).trans s) R d) (fun c S' z => z.on (s1.trans s2))⟩
theorem TAof.cons {fa : Env → M D} {fr : Env → M (List D)} {QA : List V → Hp → Prop} (h : TAof K W (fun ρ => do let d ← fa ρ; let ds ← fr ρ; pure (d :: ds)) σ H QA) : tCons (TEof K W fa) (TAof K W fr) σ H QA := by
  obtain ⟨ρ, μ, S, e, R, h⟩ := h
  refine ⟨ρ, μ, S, e, R, (Wp.bind.mp h).mono (fun x S1 h1 => ?_) (fun _ _ z => z)⟩
  intro v H1 μ1 s1 R1 d1
  refine ⟨ρ, μ1, S1, e.mono R s1, R1, (Wp.bind.mp h1).mono (fun y S2 h2 => ?_) (fun c S' z => z.on s1)⟩
  intro u H2 μ2 s2 R2 d2
  exact Wp.pure.mp h2 (v :: u) H2 μ2 (s1.trans s2) R2 (.cons (Den.mono R1 s2 _ _ d1) d2)
end
theorem PE.of {X : Cx} {e : Expr} {t t' : TE} (h : PE X e t') (k : ∀ σ H Q, t σ H Q → t' σ H Q) : PE X e t := ⟨fun pins s σ H Q I q => h.run pins s σ H Q I (k σ H Q q)⟩
theorem PT.of {X : Cx} {e : Expr} {t t' : TT} (h : PT X e t') (k : ∀ σ H Q, t σ H Q → t' σ H Q) : PT X e t := ⟨fun pins s σ H Q I q => h.run pins s σ H Q I (k σ H Q q)⟩
theorem PA.of {X : Cx} {e : List Expr} {t t' : TA} (h : PA X e t') (k : ∀ σ H Q, t σ H Q → t' σ H Q) : PA X e t := ⟨fun pos pins s σ H Q I q => h.run pos pins s σ H Q I (k σ H Q q)⟩
theorem PS.of {X : Cx} {e : Stmt} {t t' : TS} (h : PS X e t') (k : ∀ D σ H, t D σ H → t' D σ H) : PS X e t := ⟨fun pins s σ H D I q => h.run pins s σ H D I (k D σ H q)⟩
theorem PSs.of {X : Cx} {e : List Stmt} {t t' : TS} (h : PSs X e t') (k : ∀ D σ H, t D σ H → t' D σ H) : PSs X e t := ⟨fun pins s σ H D I q => h.run pins s σ H D I (k D σ H q)⟩

/-! ### the operators -/
def BinK.op : BinK → Operator
  | .add => .Add | .sub => .Sub | .mul => .Mult | .fdiv => .FloorDiv | .mod => .Mod | .pow => .Pow
section
variable {X : Cx} {W : WX}
/-- a new tuple of the model's heap -/
theorem new_tup {K : PySem.W.Frag} {H : Hp} {μ : List Addr} {S : Sto} {Q : VK} {vs : List V} {ds : List D} {p : Addr} (R : Rel K H μ S) (hp : H p = none) (d : DenL K H μ vs ds)
    (h : After K H μ (fun _ v H' _ _ => Q v H') (.tup ds) S) : Q (.ref p) (upd H p (.tup vs)) :=
  h _ _ μ (Step.aside hp) (R.aside hp) (.tup (.inl (.inl upd_same)) (DenL.mono R (Step.aside hp) _ _ d))
theorem new_lst {K : PySem.W.Frag} {H : Hp} {μ : List Addr} {S : Sto} {Q : VK} {vs : List V} {ds : List D} {p : Addr} (R : Rel K H μ S) (hp : H p = none) (d : DenL K H μ vs ds)
    (h : After K H μ (fun _ v H' _ _ => Q v H') (.ref S.length) (S ++ [.lst ds])) : Q (.ref p) (upd H p (.lst vs)) :=
  h _ _ (μ ++ [p]) (Step.more hp) (R.more hp ⟨vs, upd_same, DenL.mono R (Step.more hp) _ _ d⟩) (.ref (by rw [← R.len, List.getElem?_append_right (Nat.le_refl _)]; simp))
theorem mul_ok {i j : Int} (h : MulOk i j) : IntMulOk i j := by
  have bits : ∀ x : Int, Builtin.Int.intBits x ≤ x.natAbs.log2 + 1 := fun x => by unfold Builtin.Int.intBits; split <;> omega
  have b1 := bits i
  have b2 := bits j
  have line : bitsLine = 134217728 := by decide
  unfold IntMulOk
  intro z
  rw [Bool.and_eq_true] at z
  have big := z.2
  unfold Builtin.Int.intTooBig at big
  have big' := of_decide_eq_true big
  rw [line] at big'
  have h' : i.natAbs.log2 + j.natAbs.log2 < 100000000 := h
  omega
theorem op_mulI : OpR X (binaryOp .Mult) (rI MulOk fun i j => .int (i * j)) := opI fun _ _ _ _ _ _ _ hc q => mul_int q (mul_ok hc)
theorem op_bin (bk : BinK) : OpR X (binaryOp bk.op) (R2of X.K (binD bk)) := by
  intro pins s σ H x y v u Q I rx ry h
  obtain ⟨W, μ, S, a, b, R, da, db, h⟩ := h
  cases bk with
  | add =>
    cases a <;> cases b <;> try exact h.elim
    · cases da; cases db
      exact op_add pins s σ H _ _ v u Q I rx ry ⟨_, _, rfl, rfl, h _ H μ (Step.refl _ _) R (.int _)⟩
    · cases da; cases db
      obtain ⟨hz, h⟩ := Wp.need.mp (Wp.bind.mp h)
      exact op_add_str pins s σ H _ _ v u Q I rx ry ⟨_, _, rfl, rfl, hz, h _ H μ (Step.refl _ _) R (.str _)⟩
    · cases da with
      | tup ha la =>
        cases db with
        | tup hb lb =>
          obtain ⟨hz, h⟩ := Wp.need.mp (Wp.bind.mp h)
          have h := Wp.pure.mp h
          refine op_catA pins s σ H _ _ v u Q I rx ry ⟨_, _, _, _, rfl, rfl, ha, hb, by rw [la.length, lb.length]; exact hz, fun e => ?_, fun _ e => ?_, fun _ _ p hp => ?_⟩
          · have := la.nil_iff.mp e
            subst this
            exact h _ H μ (Step.refl _ _) R (.tup hb lb)
          · have := lb.nil_iff.mp e
            subst this
            refine h _ H μ (Step.refl _ _) R ?_
            rw [List.append_nil]
            exact .tup ha la
          · exact new_tup R hp (la.append lb) h
    · cases da with
      | ref ha =>
        cases db with
        | ref hb =>
          obtain ⟨xs, ea, h⟩ := Wp.items.mp (Wp.bind.mp h)
          obtain ⟨ys, eb, h⟩ := Wp.items.mp (Wp.bind.mp h)
          obtain ⟨hz, h⟩ := Wp.need.mp (Wp.bind.mp h)
          have h := Wp.newO.mp h
          obtain ⟨vs, h1, d1⟩ := R.obj _ _ _ ha ea
          obtain ⟨us, h2, d2⟩ := R.obj _ _ _ hb eb
          exact op_cat pins s σ H _ _ v u Q I rx ry ⟨_, _, _, _, rfl, rfl, h1, h2, by rw [d1.length, d2.length]; exact hz, fun p hp => new_lst R hp (d1.append d2) h⟩
  | sub =>
    cases a <;> cases b <;> try exact h.elim
    cases da; cases db
    exact op_sub pins s σ H _ _ v u Q I rx ry ⟨_, _, rfl, rfl, h _ H μ (Step.refl _ _) R (.int _)⟩
  | mul =>
    cases a <;> cases b <;> try exact h.elim
    · cases da; cases db
      obtain ⟨hz, h⟩ := Wp.need.mp (Wp.bind.mp h)
      exact op_mulI pins s σ H _ _ v u Q I rx ry ⟨_, _, rfl, rfl, hz, h _ H μ (Step.refl _ _) R (.int _)⟩
    · cases da with
      | tup ha la =>
        cases db
        obtain ⟨⟨z0, z1, z2, z3⟩, h⟩ := Wp.need.mp (Wp.bind.mp h)
        have h := Wp.pure.mp h
        refine op_repT pins s σ H _ _ v u Q I rx ry ⟨_, _, _, rfl, rfl, ha, fun e => z0 (by rw [la.nil_iff.mp e]; rfl), z1, z2, by rw [la.length]; exact z3, fun p hp => new_tup R hp (la.flat _) h⟩
    · cases da with
      | ref ha =>
        cases db
        obtain ⟨xs, ea, h⟩ := Wp.items.mp (Wp.bind.mp h)
        obtain ⟨⟨z1, z2, z3⟩, h⟩ := Wp.need.mp (Wp.bind.mp h)
        have h := Wp.newO.mp h
        obtain ⟨vs, h1, d1⟩ := R.obj _ _ _ ha ea
        exact op_rep pins s σ H _ _ v u Q I rx ry ⟨_, _, _, rfl, rfl, h1, z1, z2, by rw [d1.length]; exact z3, fun p hp => new_lst R hp (d1.flat _) h⟩
  | fdiv =>
    cases a <;> cases b <;> try exact h.elim
    cases da; cases db
    obtain ⟨hz, h⟩ := Wp.need.mp (Wp.bind.mp h)
    exact op_fdivW pins s σ H _ _ v u Q I rx ry ⟨_, _, rfl, rfl, hz, h _ H μ (Step.refl _ _) R (.int _)⟩
  | mod =>
    cases a <;> cases b <;> try exact h.elim
    cases da; cases db
    obtain ⟨hz, h⟩ := Wp.need.mp (Wp.bind.mp h)
    exact op_mod pins s σ H _ _ v u Q I rx ry ⟨_, _, rfl, rfl, hz, h _ H μ (Step.refl _ _) R (.int _)⟩
  | pow =>
    cases a <;> cases b <;> try exact h.elim
    cases da; cases db
    obtain ⟨hz, h⟩ := Wp.need.mp (Wp.bind.mp h)
    exact op_pow pins s σ H _ _ v u Q I rx ry ⟨_, _, rfl, rfl, hz, h _ H μ (Step.refl _ _) R (.int _)⟩
theorem op_neg' : UnR X (unaryOp .USub) (R1of X.K fun x => match x with | .int i => pure (.int (-i)) | _ => fail) := by
  intro pins s σ H x v Q I rx h
  obtain ⟨W, μ, S, a, R, da, h⟩ := h
  cases a <;> try exact h.elim
  cases da
  exact un_neg pins s σ H _ v Q I rx ⟨_, rfl, h _ H μ (Step.refl _ _) R (.int _)⟩

/-! ### the model's own data -/
theorem mapO_den {K : PySem.W.Frag} {H : Hp} {μ : List Addr} {f : D → Option PyData} (hf : ∀ (d : D) (v : V) (p : PyData), f d = some p → p.hasDict = false → Den K H μ v d → Dp K H v p) :
    ∀ (ds : List D) (vs : List V) (ps : List PyData), mapO f ds = some ps → PyData.hasDictAll ps = false → DenL K H μ vs ds → DpAll K H vs ps
  | [], _, _, e, hd, h => by
    cases h
    cases e
    exact .nil
  | d :: ds, _, ps, e, hd, h => by
    cases h with
    | cons h1 h2 =>
      unfold mapO at e
      cases e1 : f d with
      | none => rw [e1] at e; cases e
      | some y =>
        cases e2 : mapO f ds with
        | none => rw [e1, e2] at e; cases e
        | some ys =>
          rw [e1, e2] at e
          cases e
          have hd' : (y.hasDict || PyData.hasDictAll ys) = false := by simpa [PyData.hasDictAll] using hd
          rw [Bool.or_eq_false_iff] at hd'
          exact .cons (hf d _ y e1 hd'.1 h1) (mapO_den hf ds _ ys e2 hd'.2 h2)
theorem pd0_den {K : PySem.W.Frag} {H : Hp} {μ : List Addr} (d : D) (v : V) (p : PyData) (e : pd0 d = some p) (h : Den K H μ v d) : Dp K H v p := by
  cases d with
  | non => cases h; cases e; exact .non
  | bl b => cases h; cases e; exact .bl b
  | int b => cases h; cases e; exact .int b
  | str b => cases h; cases e; exact .str b
  | tup xs => cases e
  | ref k => cases e
  | fro ns => cases e
theorem pd_den {K : PySem.W.Frag} {H : Hp} {μ : List Addr} {S : Sto} (R : Rel K H μ S) : ∀ (n : Nat) (d : D) (v : V) (p : PyData), pd S n d = some p → p.hasDict = false → Den K H μ v d → Dp K H v p
  | 0, d, v, p, e, _, h => pd0_den d v p e h
  | n + 1, d, v, p, e, hd, h => by
    cases d with
    | non => exact pd0_den D.non v p e h
    | bl b => exact pd0_den (D.bl b) v p e h
    | int b => exact pd0_den (D.int b) v p e h
    | str b => exact pd0_den (D.str b) v p e h
    | fro b => exact pd0_den (D.fro b) v p e h
    | tup xs =>
      cases h with
      | tup h1 h2 =>
        have e : (pds S n xs).map PyData.tuple = some p := e
        obtain ⟨ys, e1, rfl⟩ := Option.map_eq_some_iff.mp e
        exact .tup h1 (mapO_den (pd_den R n) xs _ ys e1 (by simpa [PyData.hasDict] using hd) h2)
    | ref k =>
      cases h with
      | ref h1 =>
        obtain ⟨o, e2, h2⟩ := R.at h1
        have e : (match S[k]? with
          | some (.lst xs) => (pds S n xs).map .list
          | some (.dic []) => some (.dict [])
          | _ => none) = some p := e
        rw [e2] at e
        cases o with
        | lst xs =>
          obtain ⟨vs, h3, h4⟩ := h2
          obtain ⟨ys, e1, rfl⟩ := Option.map_eq_some_iff.mp e
          exact .lst (.of h3) (mapO_den (pd_den R n) xs _ ys e1 (by simpa [PyData.hasDict] using hd) h4)
        | dic kvs =>
          obtain ⟨rfl, h3⟩ := h2
          cases e
          simp [PyData.hasDict] at hd
        | exc c fs => cases e
theorem noDict_of_shaped {p : PyData} (h : SeqAt.shaped p = true) : p.hasDict = false := PyData.hasDict_of_canLay p (SeqAt.canLay_of_shaped h)
end
end Rv
set_option Elab.async false
set_option linter.all false
set_option maxRecDepth 100000
set_option maxHeartbeats 4000000
namespace Rv
open PySem PySem.Spec PyProof.Rows L2

/-! ### the model's reading of data, dicts without entries within -/
section
variable {X : Cx} {pins : List (Addr × Obj)} {σ : L2.St} {H : Hp} {s : Shared} {μ : List Addr} {S : Sto}
theorem sys_ne (hsys : ∃ o, X.base.get? sysModules = some o) (I : Inv X pins σ H s) {a : Addr} {u : HO} (h : H a = some u) : sysModules ≠ a := fun e => by
  obtain ⟨o, q⟩ := hsys
  rw [← e, (I.bs _ o q).2] at h
  cases h
theorem mapO_reads {f : D → Option PyData} (hf : ∀ (d : D) (v : V) (u : Value) (p : PyData), f d = some p → Den X.K H μ v d → RelV v u → ∃ as, Reads s.heap u p as ∧ sysModules ∉ as) :
    ∀ (ds : List D) (vs : List V) (us : List Value) (ps : List PyData), mapO f ds = some ps → DenL X.K H μ vs ds → Vals vs us → ∃ as, ReadsAll s.heap us ps as ∧ sysModules ∉ as
  | [], _, _, _, e, h, r => by
    cases h
    cases r
    cases e
    exact ⟨[], .nil, List.not_mem_nil⟩
  | d :: ds, _, _, ps, e, h, r => by
    cases h with
    | cons h1 h2 =>
      cases r with
      | cons r1 r2 =>
        unfold mapO at e
        cases e1 : f d with
        | none => rw [e1] at e; cases e
        | some y =>
          cases e2 : mapO f ds with
          | none => rw [e1, e2] at e; cases e
          | some ys =>
            rw [e1, e2] at e
            cases e
            obtain ⟨as, q1, z1⟩ := hf d _ _ y e1 h1 r1
            obtain ⟨bs, q2, z2⟩ := mapO_reads hf ds _ _ ys e2 h2 r2
            exact ⟨as ++ bs, .cons q1 q2, fun hm => (List.mem_append.mp hm).elim z1 z2⟩
theorem pd0_reads (d : D) (v : V) (u : Value) (p : PyData) (e : pd0 d = some p) (h : Den X.K H μ v d) (r : RelV v u) : ∃ as, Reads s.heap u p as ∧ sysModules ∉ as := by
  cases d with
  | non => cases h; cases e; cases r; exact ⟨[], .none, List.not_mem_nil⟩
  | bl b => cases h; cases e; cases r; exact ⟨[], .bool b, List.not_mem_nil⟩
  | int b =>
    cases h; cases e
    obtain ⟨t, rfl⟩ := r
    exact ⟨[], .int b t, List.not_mem_nil⟩
  | str b =>
    cases h; cases e
    obtain ⟨t, rfl⟩ := r
    exact ⟨[], .str b t, List.not_mem_nil⟩
  | tup xs => cases e
  | ref k => cases e
  | fro ns => cases e
theorem pd_reads (hsys : ∃ o, X.base.get? sysModules = some o) (I : Inv X pins σ H s) (R : Rel X.K H μ S) :
    ∀ (n : Nat) (d : D) (v : V) (u : Value) (p : PyData), pd S n d = some p → Den X.K H μ v d → RelV v u → ∃ as, Reads s.heap u p as ∧ sysModules ∉ as
  | 0, d, v, u, p, e, h, r => pd0_reads d v u p e h r
  | n + 1, d, v, u, p, e, h, r => by
    cases d with
    | non => exact pd0_reads D.non v u p e h r
    | bl b => exact pd0_reads (D.bl b) v u p e h r
    | int b => exact pd0_reads (D.int b) v u p e h r
    | str b => exact pd0_reads (D.str b) v u p e h r
    | fro b => exact pd0_reads (D.fro b) v u p e h r
    | tup xs =>
      cases h with
      | tup h1 h2 =>
        have e : (pds S n xs).map PyData.tuple = some p := e
        obtain ⟨ys, e1, rfl⟩ := Option.map_eq_some_iff.mp e
        cases r
        obtain ⟨its, rv, ⟨o, ho, hc, m, hd⟩, _⟩ := I.tuple h1
        obtain ⟨as, q, z⟩ := mapO_reads (pd_reads hsys I R n) xs _ its ys e1 h2 rv
        exact ⟨as, .tuple ho hc hd q, z⟩
    | ref k =>
      cases h with
      | ref h1 =>
        obtain ⟨o, e2, h2⟩ := R.at h1
        have e : (match S[k]? with
          | some (.lst xs) => (pds S n xs).map .list
          | some (.dic []) => some (.dict [])
          | _ => none) = some p := e
        rw [e2] at e
        cases r
        cases o with
        | lst xs =>
          obtain ⟨vs, h3, h4⟩ := h2
          obtain ⟨ys, e1, rfl⟩ := Option.map_eq_some_iff.mp e
          obtain ⟨its, rv, ⟨o, m, ho, hc, _, hd⟩, _⟩ := I.list (SqL.of h3)
          obtain ⟨as, q, z⟩ := mapO_reads (pd_reads hsys I R n) xs _ its ys e1 h4 rv
          exact ⟨_, .list ho hc hd q, fun hm => (List.mem_cons.mp hm).elim (sys_ne hsys I h3) z⟩
        | dic kvs =>
          obtain ⟨rfl, h3⟩ := h2
          cases e
          obtain ⟨_, _, vs, hv, o, es, ep, ho, hx, hd, _, hp, _⟩ := (show ObjOk X.prog X.w H s.heap _ (.dK []) from I.hok _ _ h3)
          cases hv
          have hes : es.toList = [] := by
            generalize es.toList = l at hp
            cases hp
            rfl
          refine ⟨_, Reads.dict (kvs := []) (as := []) (bs := []) ho hx.1 hd ?_ ?_, fun hm => ?_⟩
          · rw [hes]
            exact .nil
          · rw [hes]
            exact .nil
          · simp only [List.append_nil, List.mem_singleton] at hm
            exact sys_ne hsys I h3 hm
        | exc c fs => cases e
end

theorem DenL.ints {K : PySem.W.Frag} {H : Hp} {μ : List Addr} : ∀ ns : List Int, DenL K H μ (ns.map V.int) (ns.map D.int)
  | [] => .nil
  | i :: r => .cons (.int i) (DenL.ints r)
section
variable {X : Cx} {W : WX}
/-! ### == and !=, orders, in -/
def CmpK.op : CmpK → CmpOp
  | .eq => .Eq | .ne => .NotEq | .lt => .Lt | .le => .LtE | .gt => .Gt | .ge => .GtE | .isin => .In | .notin => .NotIn
theorem eqD_cases (a b : D) : (∃ x y, a = .str x ∧ b = .str y) ∨ Rv.eqD a b = Rv.eqG a b := by
  cases a <;> cases b <;> first | exact .inr rfl | exact .inl ⟨_, _, rfl, rfl⟩
theorem Wp.eqG {S : Sto} {k : Bool → Sto → Prop} {w : Exn → Sto → Prop} {x y : D} (h : Wp (Rv.eqG x y) S k w) :
    ∃ a b, pd S 64 x = some a ∧ pd S 64 y = some b ∧ SeqAt.shaped a = true ∧ SeqAt.shaped b = true ∧ k (PyData.eqv a b) S := by
  unfold Wp Rv.eqG at h
  cases ea : pd S 64 x with
  | none => rw [ea] at h; exact h.elim
  | some a =>
    cases eb : pd S 64 y with
    | none => rw [ea, eb] at h; exact h.elim
    | some b =>
      rw [ea, eb] at h
      by_cases c : SeqAt.shaped a = true ∧ SeqAt.shaped b = true
      · simp only [if_pos c] at h
        exact ⟨a, b, rfl, rfl, c.1, c.2, h⟩
      · simp only [if_neg c] at h
theorem Wp.inD {S : Sto} {k : Bool → Sto → Prop} {w : Exn → Sto → Prop} {x : D} {ys : List D} (h : Wp (Rv.inD x ys) S k w) :
    ∃ a bs, pd S 64 x = some a ∧ pds S 63 ys = some bs ∧ SeqAt.shaped a = true ∧ SeqAt.shaped (.list bs) = true ∧ k (bs.any fun z => PyData.eqv z a) S := by
  unfold Wp Rv.inD at h
  cases ea : pd S 64 x with
  | none => rw [ea] at h; exact h.elim
  | some a =>
    cases eb : pds S 63 ys with
    | none => rw [ea, eb] at h; exact h.elim
    | some b =>
      rw [ea, eb] at h
      by_cases c : SeqAt.shaped a = true ∧ SeqAt.shaped (.list b) = true
      · simp only [if_pos c] at h
        exact ⟨a, b, rfl, rfl, c.1, c.2, h⟩
      · simp only [if_neg c] at h
/-- the comparison's answer as a value -/
abbrev cmpV (op : CmpK) (x y : D) : M D := do let k ← cmpD op x y; pure (.bl k)
theorem room_in {A : Around} {da : List PyData} {db : PyData} (h : SeqAt.shaped db = true) (hu : A.units + 65 < cLine) : A.units + 1 + min (PyData.depthAll da) db.depth < cLine := by
  have h1 := SeqAt.depth_of_shaped h
  have h2 : min (PyData.depthAll da) db.depth ≤ db.depth := Nat.min_le_right _ _
  omega
theorem in_seq (hu : X.A.units + 65 < cLine) {neg : Bool} {pins : List (Addr × Obj)} {s : Shared} {σ : L2.St} {H : Hp} {x y : V} {v u : Value} {Q : VK} {μ : List Addr} {S : Sto} {a : D} {ys : List D} {vs : List V}
    (I : Inv X pins σ H s) (R : Rel X.K H μ S) (rx : RelV x v) (ry : RelV y u) (da : Den X.K H μ x a) (dl : DenL X.K H μ vs ys)
    (hy : (∃ p, y = .ref p ∧ SqL X.K H p vs) ∨ ∃ p, y = .ref p ∧ SqT X.K H p vs) {w : Exn → Sto → Prop}
    (h : Wp (inD a ys) S (fun b S' => After X.K H μ (fun _ v H' _ _ => Q v H') (.bl (if neg then !b else b)) S') w) :
    wpAny (model X.prog X.w) X.A (compareOp (if neg then .NotIn else .In) v u) (EP X pins σ Q) X.xe s := by
  obtain ⟨p, bs, e1, e2, c1, c2, h⟩ := Wp.inD h
  have hq : Q (.bl (if neg then !(bs.any fun z => PyData.eqv z p) else bs.any fun z => PyData.eqv z p)) H := h _ H μ (Step.refl _ _) R (.bl _)
  have hd1 := noDict_of_shaped c1
  have hd2 : PyData.hasDictAll bs = false := by simpa [PyData.hasDict] using noDict_of_shaped c2
  have d1 := pd_den R 64 a x p e1 hd1 da
  have d2 := mapO_den (pd_den R 63) ys vs bs e2 hd2 dl
  rcases hy with ⟨q, rfl, hs⟩ | ⟨q, rfl, hs⟩
  · cases neg with
    | false => exact op_inD hu pins s σ H _ _ v u Q I rx ry ⟨p, bs, d1, .lst hs d2, c1, c2, hq⟩
    | true => exact op_notInD hu pins s σ H _ _ v u Q I rx ry ⟨p, bs, d1, .lst hs d2, c1, c2, hq⟩
  · obtain ⟨as, r1⟩ := Dp.reads I p x v d1 rx
    obtain ⟨bs', r2⟩ := Dp.reads I (.tuple bs) (.ref q) u (.tup hs d2) ry
    have hl : PyData.canLayAll0 bs = true := by simpa [PyData.canLay0] using SeqAt.canLay_of_shaped c2
    cases neg with
    | false => exact SeqAt.in_tuple_reads r2 r1 hl (SeqAt.canLay_of_shaped c1) (room_in c1 hu) ⟨.bl _, H, I, rfl, hq⟩
    | true => exact SeqAt.notIn_tuple_reads r2 r1 hl (SeqAt.canLay_of_shaped c1) (room_in c1 hu) ⟨.bl _, H, I, rfl, hq⟩
/-- a list or a tuple, by its items -/
theorem Wp.seqD {K : PySem.W.Frag} {H : Hp} {μ : List Addr} {S : Sto} {x : D} {v : V} {k : List D → Sto → Prop} {w : Exn → Sto → Prop} (R : Rel K H μ S) (d : Den K H μ v x) (h : Wp (Rv.seqD x) S k w) :
    ∃ p ys vs, v = .ref p ∧ DenL K H μ vs ys ∧ k ys S ∧ ((SqT K H p vs ∧ x = .tup ys) ∨ SqL K H p vs) := by
  cases x with
  | tup ys =>
    cases d with
    | tup h1 h2 => exact ⟨_, ys, _, rfl, h2, h, .inl ⟨h1, rfl⟩⟩
  | ref n =>
    cases d with
    | ref h1 =>
      obtain ⟨ys, e, h⟩ := Wp.items.mp h
      obtain ⟨vs, h2, h3⟩ := R.obj _ _ _ h1 e
      exact ⟨_, ys, vs, rfl, h3, h, .inr (.of h2)⟩
  | fro ns =>
    cases d with
    | fro h1 => exact ⟨_, ns.map .int, ns.map .int, rfl, DenL.ints ns, h, .inr h1.seq⟩
  | non => exact h.elim
  | bl b => exact h.elim
  | int i => exact h.elim
  | str z => exact h.elim
theorem op_in_text (neg : Bool) {pins : List (Addr × Obj)} {s : Shared} {σ : L2.St} {H : Hp} {x y : Str} {v u : Value} {Q : VK} (I : Inv X pins σ H s) (rx : RelV (.str x) v) (ry : RelV (.str y) u) (h : Q (.bl (if neg then !strIn x y else strIn x y)) H) :
    wpAny (model X.prog X.w) X.A (compareOp (if neg then .NotIn else .In) v u) (EP X pins σ Q) X.xe s := by
  have one : ∀ c, x.cps.toList = [c] → x = ⟨#[c]⟩ := fun c e => by
    cases x with
    | mk cps =>
      have : cps = #[c] := by simpa using congrArg List.toArray e
      rw [this]
  cases e : x.cps.toList with
  | cons c r =>
    cases r with
    | nil =>
      have e' := one c e
      subst e'
      have hs : strIn ⟨#[c]⟩ y = decide (c ∈ y.cps.toList) := rfl
      rw [hs] at h
      cases neg with
      | false => exact op_in_sign pins s σ H _ _ v u Q I rx ry ⟨c, y, rfl, rfl, h⟩
      | true => exact op_notIn_sign pins s σ H _ _ v u Q I rx ry ⟨c, y, rfl, rfl, h⟩
    | cons c2 r2 =>
      have hs : strIn x y = !(Builtin.Str.occurrences y x 0 y.length 1).isEmpty := by unfold strIn; rw [e]
      rw [hs] at h
      cases neg with
      | false => exact op_in_str pins s σ H _ _ v u Q I rx ry ⟨_, _, rfl, rfl, h⟩
      | true => exact op_notin_str pins s σ H _ _ v u Q I rx ry ⟨_, _, rfl, rfl, h⟩
  | nil =>
    have hs : strIn x y = !(Builtin.Str.occurrences y x 0 y.length 1).isEmpty := by unfold strIn; rw [e]
    rw [hs] at h
    cases neg with
    | false => exact op_in_str pins s σ H _ _ v u Q I rx ry ⟨_, _, rfl, rfl, h⟩
    | true => exact op_notin_str pins s σ H _ _ v u Q I rx ry ⟨_, _, rfl, rfl, h⟩
theorem op_cmp (hu : X.A.units + 65 < cLine) (op : CmpK) : OpR X (compareOp op.op) (R2of X.K (cmpV op)) := by
  intro pins s σ H x y v u Q I rx ry h
  obtain ⟨W, μ, S, a, b, R, da, db, h⟩ := h
  have h := Wp.bind.mp h
  cases op with
  | eq =>
    rcases eqD_cases a b with ⟨x1, y1, rfl, rfl⟩ | hG
    · cases da
      cases db
      have h2 : Wp (pure (D.bl (x1 == y1)) : M D) S (After X.K H μ fun _ v H' _ _ => Q v H') (AfterX X.K W H μ) := h
      exact op_eq pins s σ H _ _ v u Q I rx ry ⟨rfl, by rw [dec_str]; exact Wp.pure.mp h2 _ H μ (Step.refl _ _) R (.bl _)⟩
    have h : Wp (Rv.eqD a b) _ _ _ := h
    rw [hG] at h
    obtain ⟨p, q, e1, e2, c1, c2, h⟩ := Wp.eqG h
    have h := Wp.pure.mp h
    exact op_eqD (by omega) pins s σ H x y v u Q I rx ry ⟨p, q, pd_den R 64 a x p e1 (noDict_of_shaped c1) da, pd_den R 64 b y q e2 (noDict_of_shaped c2) db, c1, c2, h _ H μ (Step.refl _ _) R (.bl _)⟩
  | ne =>
    rcases eqD_cases a b with ⟨x1, y1, rfl, rfl⟩ | hG
    · cases da
      cases db
      have h2 : Wp (pure (D.bl (!(x1 == y1))) : M D) S (After X.K H μ fun _ v H' _ _ => Q v H') (AfterX X.K W H μ) := h
      exact op_ne pins s σ H _ _ v u Q I rx ry ⟨rfl, by rw [dec_str]; exact Wp.pure.mp h2 _ H μ (Step.refl _ _) R (.bl _)⟩
    have h : Wp (Rv.eqD a b) _ _ _ := Wp.bind.mp h
    rw [hG] at h
    obtain ⟨p, q, e1, e2, c1, c2, h⟩ := Wp.eqG h
    have h := Wp.pure.mp h
    exact op_neD (by omega) pins s σ H x y v u Q I rx ry ⟨p, q, pd_den R 64 a x p e1 (noDict_of_shaped c1) da, pd_den R 64 b y q e2 (noDict_of_shaped c2) db, c1, c2, h _ H μ (Step.refl _ _) R (.bl _)⟩
  | lt =>
    cases a <;> cases b <;> try exact h.elim
    cases da; cases db
    exact op_lt pins s σ H _ _ v u Q I rx ry ⟨_, _, rfl, rfl, h _ H μ (Step.refl _ _) R (.bl _)⟩
  | le =>
    cases a <;> cases b <;> try exact h.elim
    cases da; cases db
    exact op_le pins s σ H _ _ v u Q I rx ry ⟨_, _, rfl, rfl, h _ H μ (Step.refl _ _) R (.bl _)⟩
  | gt =>
    cases a <;> cases b <;> try exact h.elim
    cases da; cases db
    exact op_gt pins s σ H _ _ v u Q I rx ry ⟨_, _, rfl, rfl, h _ H μ (Step.refl _ _) R (.bl _)⟩
  | ge =>
    cases a <;> cases b <;> try exact h.elim
    cases da; cases db
    exact op_ge pins s σ H _ _ v u Q I rx ry ⟨_, _, rfl, rfl, h _ H μ (Step.refl _ _) R (.bl _)⟩
  | isin =>
    have go : ∀ {a b : D} {x y : V} {v u : Value}, RelV x v → RelV y u → Den X.K H μ x a → Den X.K H μ y b → Wp (do let ys ← seqD b; inD a ys) S (fun k S' => Wp (pure (.bl k) : M D) S' (After X.K H μ fun _ v H' _ _ => Q v H') (AfterX X.K W H μ)) (AfterX X.K W H μ) →
        wpAny (model X.prog X.w) X.A (compareOp .In v u) (EP X pins σ Q) X.xe s := fun rx ry da db h => by
      obtain ⟨p, ys, vs, e, dl, h, hs⟩ := Wp.seqD R db (Wp.bind.mp h)
      exact in_seq hu (neg := false) I R rx ry da dl (hs.elim (fun z => .inr ⟨p, e, z.1⟩) fun z => .inl ⟨p, e, z⟩) h
    cases a <;> cases b <;> first | exact h.elim | exact go rx ry da db h | skip
    cases da; cases db
    exact op_in_text (X := X) false I rx ry (h _ H μ (Step.refl _ _) R (.bl _))
  | notin =>
    have go : ∀ {a b : D} {x y : V} {v u : Value}, RelV x v → RelV y u → Den X.K H μ x a → Den X.K H μ y b → Wp (do let ys ← seqD b; let k ← inD a ys; pure (!k)) S (fun k S' => Wp (pure (.bl k) : M D) S' (After X.K H μ fun _ v H' _ _ => Q v H') (AfterX X.K W H μ)) (AfterX X.K W H μ) →
        wpAny (model X.prog X.w) X.A (compareOp .NotIn v u) (EP X pins σ Q) X.xe s := fun rx ry da db h => by
      obtain ⟨p, ys, vs, e, dl, h, hs⟩ := Wp.seqD R db (Wp.bind.mp h)
      exact in_seq hu (neg := true) I R rx ry da dl (hs.elim (fun z => .inr ⟨p, e, z.1⟩) fun z => .inl ⟨p, e, z⟩) (Wp.bind.mp h)
    cases a <;> cases b <;> first | exact h.elim | exact go rx ry da db h | skip
    cases da; cases db
    exact op_in_text (X := X) true I rx ry (h _ H μ (Step.refl _ _) R (.bl _))

/-! ### isinstance -/
def TyK.name : TyK → String
  | .int => "int" | .bool => "bool" | .str => "str" | .tuple => "tuple" | .list => "list"
/-- isinstance(x, T), T a built-in class by its name -/
theorem call_inst (t : TyK) {pins : List (Addr × Obj)} {s : Shared} {σ : L2.St} {H : Hp} {x : V} {us : List Value} {Q : VK} (I : Inv X pins σ H s) (r : Vals [x, .ty t.name] us) (h : R1of X.K (fun x => do let k ← instD x t; pure (.bl k)) x H Q) :
    wpAny (model X.prog X.w) X.A (call (.builtin "isinstance") us) (EP X pins σ Q) X.xe s := by
  obtain ⟨W, μ, S, a, R, da, h⟩ := h
  have h := Wp.bind.mp h
  have go : ∀ (b : Bool) (T : String), TyX X.K H x (.type T) → kitB T t.name = some b → Q (.bl b) H → wpAny (model X.prog X.w) X.A (call (.builtin "isinstance") us) (EP X pins σ Q) X.xe s := fun b T hT hk hq =>
    call_isi pins s σ H _ us Q I r ⟨x, _, _, _, b, rfl, .ty _, hT, kit_ty hk, hq⟩
  have fin : ∀ {b : Bool}, Wp (pure b : M Bool) S (fun k S' => Wp (pure (.bl k) : M D) S' (After X.K H μ fun _ v H' _ _ => Q v H') (AfterX X.K W H μ)) (AfterX X.K W H μ) → Q (.bl b) H := fun h => h _ H μ (Step.refl _ _) R (.bl _)
  cases a with
  | non =>
    cases da
    cases t <;> exact go false "NoneType" (.base .non) (by decide +kernel) (fin h)
  | bl b =>
    cases da
    cases t
    · exact go true "bool" (.base (.bl b)) (by decide +kernel) (fin h)
    · exact go true "bool" (.base (.bl b)) (by decide +kernel) (fin h)
    all_goals exact go false "bool" (.base (.bl b)) (by decide +kernel) (fin h)
  | int b =>
    cases da
    cases t
    · exact go true "int" (.base (.int b)) (by decide +kernel) (fin h)
    all_goals exact go false "int" (.base (.int b)) (by decide +kernel) (fin h)
  | str b =>
    cases da
    cases t
    case str => exact go true "str" (.base (.str b)) (by decide +kernel) (fin h)
    all_goals exact go false "str" (.base (.str b)) (by decide +kernel) (fin h)
  | tup xs =>
    cases da with
    | @tup a0 xs0 _ h1 h2 =>
      have hT : TyX X.K H (.ref a0) (.type "tuple") := by
        rcases h1 with (h1 | ⟨o, h1⟩) | ⟨o, its, n, hk, hc, _⟩
        · exact .base (.tup h1)
        · exact .fTuple h1
        · exact .kTuple hk hc
      cases t
      case tuple => exact go true "tuple" hT (by decide +kernel) (fin h)
      all_goals exact go false "tuple" hT (by decide +kernel) (fin h)
  | fro ns =>
    cases da with
    | @fro a0 _ h1 =>
      have hT : TyX X.K H (.ref a0) (.type "list") := by
        rcases h1 with ⟨o, h1⟩ | ⟨o, its, n, hk, hc, _⟩
        · exact .base (.frz h1)
        · exact .kList hk hc
      cases t
      case list => exact go true "list" hT (by decide +kernel) (fin h)
      all_goals exact go false "list" hT (by decide +kernel) (fin h)
  | ref n =>
    cases da with
    | @ref a0 _ h1 =>
      obtain ⟨o, e, h2⟩ := R.at h1
      obtain ⟨b, eb, h⟩ := (Wp.opt (o := S[n]?.bind fun o => instO o t) (S := S)).mp h
      rw [e] at eb
      have eb : instO o t = some b := eb
      have h : Q (.bl b) H := h _ H μ (Step.refl _ _) R (.bl _)
      cases o with
      | lst xs =>
        obtain ⟨vs, h3, _⟩ := h2
        have hT : TyX X.K H (.ref a0) (.type "list") := .base (.lst h3)
        cases t
        case list =>
          cases eb
          exact go true "list" hT (by decide +kernel) h
        all_goals
          cases eb
          exact go false "list" hT (by decide +kernel) h
      | dic kvs =>
        obtain ⟨_, h3⟩ := h2
        have hT : TyX X.K H (.ref a0) (.type "dict") := .base (.dK h3)
        cases t <;> (cases eb; exact go false "dict" hT (by decide +kernel) h)
      | exc c fs => cases eb
end
end Rv
set_option Elab.async false
set_option linter.all false
set_option maxRecDepth 100000
set_option maxHeartbeats 4000000
namespace Rv
open PySem PySem.Spec PyProof.Rows L2
section
variable {X : Cx} {W : WX}
/-! ### subscripts -/
theorem atI_den {K : PySem.W.Frag} {H : Hp} {μ : List Addr} {ds : List D} {vs : List V} {i : Int} {d : D} (h : DenL K H μ vs ds) (e : atI ds i = some d) : ∃ v, atI vs i = some v ∧ Den K H μ v d := by
  unfold atI at e ⊢
  rw [h.length]
  obtain ⟨j, e1, e2⟩ := Option.bind_eq_some_iff.mp e
  obtain ⟨v, h1, h2⟩ := h.get e2
  exact ⟨v, by rw [e1]; exact h1, h2⟩
theorem op_idx : IxR X (R2of X.K idxD) := by
  intro value slice pins s σ H x y v u Q I rx ry h hs
  obtain ⟨W, μ, S, a, b, R, da, db, h⟩ := h
  cases a <;> cases b <;> try exact h.elim
  · cases da; cases db
    obtain ⟨hz, h⟩ := Wp.need.mp (Wp.bind.mp h)
    obtain ⟨c, e, h⟩ := Wp.opt.mp (Wp.bind.mp h)
    exact ix_str value slice pins s σ H _ _ v u Q I rx ry ⟨_, _, c, rfl, rfl, hz, e, h _ H μ (Step.refl _ _) R (.str _)⟩ hs
  · cases da with
    | @tup a0 xs0 _ h1 h2 =>
      cases db
      obtain ⟨d, e, h⟩ := Wp.opt.mp h
      obtain ⟨w, e2, dw⟩ := atI_den h2 e
      exact ix_tup value slice pins s σ H _ _ v u Q I rx ry ⟨_, _, _, w, rfl, rfl, h1, e2, h _ H μ (Step.refl _ _) R dw⟩ hs
  · cases da with
    | @ref a0 _ h1 =>
      cases db
      obtain ⟨xs, e, h⟩ := Wp.items.mp (Wp.bind.mp h)
      obtain ⟨d, e2, h⟩ := Wp.opt.mp h
      obtain ⟨vs, h3, h4⟩ := R.obj _ _ _ h1 e
      obtain ⟨w, e3, dw⟩ := atI_den h4 e2
      exact ix_list value slice pins s σ H _ _ v u Q I rx ry ⟨_, _, _, w, rfl, rfl, .of h3, e3, h _ H μ (Step.refl _ _) R dw⟩ hs
  · rename_i ns i
    cases da with
    | @fro a0 _ h1 =>
      cases db
      obtain ⟨j, e, h⟩ := Wp.opt.mp (Wp.bind.mp h)
      have e' : atI (ns.map D.int) i = some (.int j) := by
        unfold atI at e ⊢
        rw [List.length_map]
        obtain ⟨m, e1, e2⟩ := Option.bind_eq_some_iff.mp e
        rw [e1]
        show (ns.map D.int)[m]? = _
        rw [List.getElem?_map, e2]
        rfl
      obtain ⟨w, e3, dw⟩ := atI_den (DenL.ints (K := X.K) (H := H) (μ := μ) ns) e'
      exact ix_list value slice pins s σ H _ _ v u Q I rx ry ⟨_, _, _, w, rfl, rfl, h1.seq, e3, h _ H μ (Step.refl _ _) R dw⟩ hs

/-! ### slices -/
def RSof (K : PySem.W.Frag) : V → Option Int → Option Int → Hp → VK → Prop := fun v lo hi H Q => ∃ (W : WX), ∃ μ S x, Rel K H μ S ∧ Den K H μ v x ∧ Wp (sliceD x lo hi) S (After K H μ fun _ v H' _ _ => Q v H') (AfterX K W H μ)
theorem op_slice : SlR X (RSof X.K) := by
  intro pins s σ H x v vl vu lo hi sl Q I rx hs pl pu h
  obtain ⟨W, μ, S, a, R, da, h⟩ := h
  cases a with
  | str z =>
    cases da
    obtain ⟨hz, h⟩ := Wp.need.mp (Wp.bind.mp h)
    exact sl_str pins s σ H _ v vl vu lo hi sl Q I rx hs pl pu ⟨z, rfl, hz, h _ H μ (Step.refl _ _) R (.str _)⟩
  | tup ds =>
    cases da with
    | @tup a0 xs0 _ h1 h2 =>
      have h := Wp.pure.mp h
      refine sl_tupA pins s σ H _ v vl vu lo hi sl Q I rx hs pl pu ⟨a0, xs0, rfl, h1, fun hw => ?_, fun hw p hp => new_tup R hp (h2.cut lo hi) h⟩
      have e : cutL ds lo hi = ds := by
        unfold cutL
        rw [← h2.length, hw.1, hw.2, h2.length]
        simp
      rw [e] at h
      exact h _ H μ (Step.refl _ _) R (.tup h1 h2)
  | ref n =>
    cases da with
    | @ref a0 _ h1 =>
      obtain ⟨xs, e, h⟩ := Wp.items.mp (Wp.bind.mp h)
      have h := Wp.newO.mp h
      obtain ⟨vs, h3, h4⟩ := R.obj _ _ _ h1 e
      exact sl_list pins s σ H _ v vl vu lo hi sl Q I rx hs pl pu ⟨a0, vs, rfl, .of h3, fun p hp => new_lst R hp (h4.cut lo hi) h⟩
  | fro ns =>
    cases da with
    | @fro a0 _ h1 =>
      have h := Wp.newO.mp h
      exact sl_list pins s σ H _ v vl vu lo hi sl Q I rx hs pl pu ⟨a0, _, rfl, h1.seq, fun p hp => new_lst R hp ((DenL.ints ns).cut lo hi) h⟩
  | non => exact h.elim
  | bl b => exact h.elim
  | int i => exact h.elim

/-! ### built-in functions -/
theorem intsOf_den {K : PySem.W.Frag} {H : Hp} {μ : List Addr} : ∀ {ds : List D} {vs : List V} {ns : List Int}, DenL K H μ vs ds → intsOf ds = some ns → vs = ns.map V.int
  | [], _, _, h, e => by
    cases h
    cases e
    rfl
  | d :: ds, _, ns, h, e => by
    cases h with
    | cons h1 h2 =>
      cases d with
      | int i =>
        cases h1
        obtain ⟨ms, e1, rfl⟩ := Option.map_eq_some_iff.mp (show (intsOf ds).map (i :: ·) = some ns from e)
        rw [intsOf_den h2 e1]
        rfl
      | non => cases e
      | bl b => cases e
      | str b => cases e
      | tup b => cases e
      | ref b => cases e
      | fro b => cases e
theorem blsOf_den {K : PySem.W.Frag} {H : Hp} {μ : List Addr} : ∀ {ds : List D} {vs : List V} {ns : List Bool}, DenL K H μ vs ds → blsOf ds = some ns → vs = ns.map V.bl
  | [], _, _, h, e => by
    cases h
    cases e
    rfl
  | d :: ds, _, ns, h, e => by
    cases h with
    | cons h1 h2 =>
      cases d with
      | bl i =>
        cases h1
        obtain ⟨ms, e1, rfl⟩ := Option.map_eq_some_iff.mp (show (blsOf ds).map (i :: ·) = some ns from e)
        rw [blsOf_den h2 e1]
        rfl
      | non => cases e
      | int b => cases e
      | str b => cases e
      | tup b => cases e
      | ref b => cases e
      | fro b => cases e
theorem foldl_max (a : Int) : ∀ (r : List Int), (∀ y ∈ a :: r, y ≤ r.foldl max a) ∧ r.foldl max a ∈ a :: r := by
  intro r
  induction r generalizing a with
  | nil => exact ⟨fun y hy => by simp at hy; rw [hy]; exact Int.le_refl _, by simp⟩
  | cons b r ih =>
    obtain ⟨h1, h2⟩ := ih (max a b)
    refine ⟨fun y hy => ?_, ?_⟩
    · rcases List.mem_cons.mp hy with e | hy
      · subst e
        exact Int.le_trans (Int.le_max_left _ _) (h1 _ List.mem_cons_self)
      · rcases List.mem_cons.mp hy with e | hy
        · subst e
          exact Int.le_trans (Int.le_max_right _ _) (h1 _ List.mem_cons_self)
        · exact h1 y (List.mem_cons_of_mem _ hy)
    · rcases List.mem_cons.mp h2 with e | h
      · show r.foldl max (max a b) ∈ _
        rw [e]
        rcases Int.le_total a b with q | q
        · rw [Int.max_eq_right q]
          exact List.mem_cons_of_mem _ List.mem_cons_self
        · rw [Int.max_eq_left q]
          exact List.mem_cons_self
      · exact List.mem_cons_of_mem _ (List.mem_cons_of_mem _ h)
theorem den1 {K : PySem.W.Frag} {H : Hp} {μ : List Addr} {vs : List V} {d : D} (h : DenL K H μ vs [d]) : ∃ v, vs = [v] ∧ Den K H μ v d := by
  cases h with
  | cons h1 h2 =>
    cases h2
    exact ⟨_, rfl, h1⟩
theorem den2 {K : PySem.W.Frag} {H : Hp} {μ : List Addr} {vs : List V} {d e : D} (h : DenL K H μ vs [d, e]) : ∃ v u, vs = [v, u] ∧ Den K H μ v d ∧ Den K H μ u e := by
  cases h with
  | cons h1 h2 =>
    obtain ⟨u, rfl, h3⟩ := den1 h2
    exact ⟨_, _, rfl, h1, h3⟩
def BiK.val : BiK → Value
  | .len => .builtin "len" | .repr => .builtin "repr" | .tuple => .type "tuple" | .list => .type "list" | .int => .type "int" | .str => .type "str" | .abs => .builtin "abs"
  | .max => .builtin "max" | .min => .builtin "min" | .sum => .builtin "sum" | .all => .builtin "all" | .any => .builtin "any" | .gcd => .builtin "math.gcd" | .sorted => .builtin "sorted" | .set => .type "set"
theorem Wp.reprD {S : Sto} {k : D → Sto → Prop} {w : Exn → Sto → Prop} {x : D} (h : Wp (Rv.reprD x) S k w) : ∃ a, pd S 64 x = some a ∧ a.showable = true ∧ a.depth ≤ 64 ∧ a.shown.length ≤ sizeLine ∧ k (.str a.shown) S := by
  unfold Wp Rv.reprD at h
  cases ea : pd S 64 x with
  | none => rw [ea] at h; exact h.elim
  | some a =>
    rw [ea] at h
    by_cases c : a.showable = true ∧ a.depth ≤ 64 ∧ a.shown.length ≤ sizeLine
    · simp only [if_pos c] at h
      exact ⟨a, rfl, c.1, c.2.1, c.2.2, h⟩
    · simp only [if_neg c] at h
/-- what may be called within an except suite, too -/
def BiK.hotOk : BiK → Bool
  | .max => false | .min => false | .sum => false | .all => false | .any => false | .sorted => false | .set => false
  | _ => true
/-- what the built-in functions ask of the context -/
structure Gd (X : Cx) : Prop where
  units : X.A.units + 70 < cLine
  guards : X.A.guards = some []
  sys : ∃ o, X.base.get? sysModules = some o
theorem call_repr (G : Gd X) {pins : List (Addr × Obj)} {s : Shared} {σ : L2.St} {H : Hp} {x : V} {us : List Value} {Q : VK} {μ : List Addr} {S : Sto} {a : D} (I : Inv X pins σ H s) (r : Vals [x] us) (R : Rel X.K H μ S) (d : Den X.K H μ x a) {w : Exn → Sto → Prop}
    (h : Wp (reprD a) S (After X.K H μ fun _ v H' _ _ => Q v H') w) : wpAny (model X.prog X.w) X.A (call (.builtin "repr") us) (EP X pins σ Q) X.xe s := by
  obtain ⟨p, e, h1, h2, h3, h⟩ := Wp.reprD h
  obtain ⟨u, rfl, ru⟩ := vals1 r
  obtain ⟨as, q, z⟩ := pd_reads G.sys I R 64 a x u p e d ru
  have hq : Q (.str p.shown) H := h _ H μ (Step.refl _ _) R (.str _)
  have fin : ∀ h' u tk, (∀ b o, s.heap.get? b = some o → h'.get? b = some o) → EP X pins σ Q (.str p.shown u) { s with heap := h', toks := tk } := fun h' u tk hk => ⟨.str p.shown, H, I.kept hk, ⟨u, rfl⟩, hq⟩
  have hu := G.units
  cases q with
  | none => exact PySem.P.repr_of_none (fin s.heap _ _ fun _ _ e => e)
  | bool b => exact PySem.P.repr_of_bool (fin s.heap _ _ fun _ _ e => e)
  | int i t => exact PySem.P.repr_of_int (by simpa [PyData.showable] using h1) (fin s.heap _ _ fun _ _ e => e)
  | str z t => exact PySem.P.repr_of_str (fin s.heap _ _ fun _ _ e => e) (by simpa [PyData.shown] using h3)
  | list a1 a2 a3 a4 => exact repr_of_reads' (.list a1 a2 a3 a4) h1 (fun _ => z) G.guards (by omega) (fun _ _ e => e) fin h3
  | tuple a1 a2 a3 a4 => exact repr_of_reads' (.tuple a1 a2 a3 a4) h1 (fun _ => z) G.guards (by omega) (fun _ _ e => e) fin h3
  | dict a1 a2 a3 a4 a5 => exact repr_of_reads' (.dict a1 a2 a3 a4 a5) h1 (fun _ => z) G.guards (by omega) (fun _ _ e => e) fin h3
/-- one argument that is walked or measured -/
theorem op_bi (G : Gd X) (f : BiK) (hc : f.hotOk = false → X.calm = true) : CallR X f.val (RLof X.K (biD f)) := by
  intro pins s σ H xs us Q I r h
  obtain ⟨W, μ, S, ds, R, dl, h⟩ := h
  cases f with
  | repr =>
    match ds, dl, h with
    | [d], dl, h =>
      obtain ⟨v, rfl, dv⟩ := den1 dl
      exact call_repr G I r R dv h
  | len =>
    match ds, dl, h with
    | [d], dl, h =>
      obtain ⟨v, rfl, dv⟩ := den1 dl
      have go : ∀ {d : D} {v : V} {us : List Value}, Vals [v] us → Den X.K H μ v d → Wp (do let xs ← seqD d; pure (.int xs.length)) S (After X.K H μ fun _ v H' _ _ => Q v H') (AfterX X.K W H μ) → wpAny (model X.prog X.w) X.A (call (.builtin "len") us) (EP X pins σ Q) X.xe s := fun r dv h => by
        obtain ⟨p, ys, vs, rfl, dl, h, hs⟩ := Wp.seqD R dv (Wp.bind.mp h)
        have hq := Wp.pure.mp h _ H μ (Step.refl _ _) R (.int _)
        rw [← dl.length] at hq
        exact call_len_seq pins s σ H _ _ Q I r ⟨p, vs, rfl, hs.elim (fun z => .inr z.1) .inl, hq⟩
      cases d with
      | str x =>
        cases dv
        obtain ⟨hz, h⟩ := Wp.need.mp (Wp.bind.mp h)
        exact call_len_str pins s σ H _ _ Q I r ⟨x, rfl, hz, h _ H μ (Step.refl _ _) R (.int _)⟩
      | non => exact go r dv h
      | bl b => exact go r dv h
      | int b => exact go r dv h
      | tup b => exact go r dv h
      | ref b => exact go r dv h
      | fro b => exact go r dv h
    | [], _, h => exact h.elim
    | d :: _ :: _, _, h => cases d <;> exact h.elim
  | tuple =>
    match ds, dl, h with
    | [d], dl, h =>
      obtain ⟨v, rfl, dv⟩ := den1 dl
      obtain ⟨p, ys, vs, rfl, dl2, h, hs⟩ := Wp.seqD R dv (Wp.bind.mp h)
      have h := Wp.pure.mp h
      refine call_tuple_of pins s σ H _ _ Q I r ⟨p, vs, rfl, ?_⟩
      rcases hs with ⟨hs, rfl⟩ | hs
      · exact .inr ⟨hs, h _ H μ (Step.refl _ _) R (.tup hs dl2)⟩
      · exact .inl ⟨hs, fun l hl => new_tup R hl dl2 h⟩
  | list =>
    match ds, dl, h with
    | [d], dl, h =>
      obtain ⟨v, rfl, dv⟩ := den1 dl
      obtain ⟨p, ys, vs, rfl, dl, h, hs⟩ := Wp.seqD R dv (Wp.bind.mp h)
      have h := Wp.newO.mp h
      exact call_list_of pins s σ H _ _ Q I r ⟨p, vs, rfl, hs.elim (fun z => .inr z.1) .inl, fun l hl => new_lst R hl dl h⟩
  | int =>
    match ds, dl, h with
    | [.int i], dl, h =>
      obtain ⟨v, rfl, dv⟩ := den1 dl
      cases dv
      exact call_int1 pins s σ H _ _ Q I r (.inl ⟨i, rfl, h _ H μ (Step.refl _ _) R (.int _)⟩)
    | [.str a], dl, h =>
      obtain ⟨v, rfl, dv⟩ := den1 dl
      cases dv
      obtain ⟨hz, h⟩ := Wp.need.mp (Wp.bind.mp h)
      obtain ⟨m, e, h⟩ := Wp.opt.mp (Wp.bind.mp h)
      exact call_int_str pins s σ H _ _ Q I r ⟨a, m, rfl, e, hz, Wp.pure.mp h _ H μ (Step.refl _ _) R (.int _)⟩
    | [.bl b], dl, h =>
      obtain ⟨v, rfl, dv⟩ := den1 dl
      cases dv
      exact call_int1 pins s σ H _ _ Q I r (.inr ⟨b, rfl, h _ H μ (Step.refl _ _) R (.int _)⟩)
  | str =>
    match ds, dl, h with
    | [.int i], dl, h =>
      obtain ⟨v, rfl, dv⟩ := den1 dl
      cases dv
      obtain ⟨hz, h⟩ := Wp.need.mp (Wp.bind.mp h)
      exact call_str_int pins s σ H _ _ Q I r ⟨i, rfl, hz, h _ H μ (Step.refl _ _) R (.str _)⟩
  | abs =>
    match ds, dl, h with
    | [.int i], dl, h =>
      obtain ⟨v, rfl, dv⟩ := den1 dl
      cases dv
      exact call_abs pins s σ H _ _ Q I r ⟨i, rfl, h _ H μ (Step.refl _ _) R (.int _)⟩
  | max =>
    match ds, dl, h with
    | [.int i, .int j], dl, h =>
      obtain ⟨v, u, rfl, dv, du⟩ := den2 dl
      cases dv; cases du
      exact call_max2 (hc rfl) pins s σ H _ _ Q I r ⟨i, j, rfl, h _ H μ (Step.refl _ _) R (.int _)⟩
    | [.ref n], dl, h =>
      obtain ⟨v, rfl, dv⟩ := den1 dl
      cases dv with
      | @ref a0 _ h1 =>
        obtain ⟨xs, e, h⟩ := Wp.items.mp (Wp.bind.mp h)
        obtain ⟨ns, e2, h⟩ := Wp.opt.mp (Wp.bind.mp h)
        obtain ⟨vs, h3, h4⟩ := R.obj _ _ _ h1 e
        have ev := intsOf_den h4 e2
        subst ev
        cases ns with
        | nil => exact h.elim
        | cons a r' =>
          have h := Wp.pure.mp h
          refine cr_max (hc rfl) pins s σ H _ _ Q I r ⟨a0, a :: r', rfl, .of h3, by simp, fun m hm hb => ?_⟩
          have hq : Q (.int (r'.foldl max a)) H := h _ H μ (Step.refl _ _) R (.int _)
          obtain ⟨q1, q2⟩ := foldl_max a r'
          have e3 : m = r'.foldl max a := Int.le_antisymm (q1 m hm) (hb _ q2)
          rw [e3]
          exact hq
  | min =>
    match ds, dl, h with
    | [.int i, .int j], dl, h =>
      obtain ⟨v, u, rfl, dv, du⟩ := den2 dl
      cases dv; cases du
      exact call_min2 (hc rfl) pins s σ H _ _ Q I r ⟨i, j, rfl, h _ H μ (Step.refl _ _) R (.int _)⟩
  | sum =>
    match ds, dl, h with
    | [.ref n], dl, h =>
      obtain ⟨v, rfl, dv⟩ := den1 dl
      cases dv with
      | @ref a0 _ h1 =>
        obtain ⟨xs, e, h⟩ := Wp.items.mp (Wp.bind.mp h)
        obtain ⟨ns, e2, h⟩ := Wp.opt.mp (Wp.bind.mp h)
        obtain ⟨vs, h3, h4⟩ := R.obj _ _ _ h1 e
        have ev := intsOf_den h4 e2
        subst ev
        exact cr_sum (hc rfl) pins s σ H _ _ Q I r ⟨a0, ns, rfl, .of h3, Wp.pure.mp h _ H μ (Step.refl _ _) R (.int _)⟩
  | all =>
    match ds, dl, h with
    | [.ref n], dl, h =>
      obtain ⟨v, rfl, dv⟩ := den1 dl
      cases dv with
      | @ref a0 _ h1 =>
        obtain ⟨xs, e, h⟩ := Wp.items.mp (Wp.bind.mp h)
        obtain ⟨ns, e2, h⟩ := Wp.opt.mp (Wp.bind.mp h)
        obtain ⟨vs, h3, h4⟩ := R.obj _ _ _ h1 e
        have ev := blsOf_den h4 e2
        subst ev
        exact cr_all (hc rfl) pins s σ H _ _ Q I r ⟨a0, ns, rfl, .of h3, Wp.pure.mp h _ H μ (Step.refl _ _) R (.bl _)⟩
  | any =>
    match ds, dl, h with
    | [.ref n], dl, h =>
      obtain ⟨v, rfl, dv⟩ := den1 dl
      cases dv with
      | @ref a0 _ h1 =>
        obtain ⟨xs, e, h⟩ := Wp.items.mp (Wp.bind.mp h)
        obtain ⟨ns, e2, h⟩ := Wp.opt.mp (Wp.bind.mp h)
        obtain ⟨vs, h3, h4⟩ := R.obj _ _ _ h1 e
        have ev := blsOf_den h4 e2
        subst ev
        exact cr_any (hc rfl) pins s σ H _ _ Q I r ⟨a0, ns, rfl, .of h3, Wp.pure.mp h _ H μ (Step.refl _ _) R (.bl _)⟩
  | gcd =>
    match ds, dl, h with
    | [.int i, .int j], dl, h =>
      obtain ⟨v, u, rfl, dv, du⟩ := den2 dl
      cases dv; cases du
      exact cr_gcd pins s σ H _ _ Q I r ⟨i, j, rfl, h _ H μ (Step.refl _ _) R (.int _)⟩
  | sorted => exact h.elim
  | set => exact h.elim

/-! ### methods of lists, and the store to a place -/
def MethK.id : MethK → String
  | .append => "list.append" | .pop => "list.pop" | .extend => "list.extend" | .insert => "list.insert" | .index => "list.index" | .count => "list.count" | .upper => "str.upper" | .split => "str.split" | .join => "str.join"
  | .reverse => "list.reverse" | .copy => "list.copy" | .lower => "str.lower" | .isdigit => "str.isdigit" | .startswith => "str.startswith" | .endswith => "str.endswith" | .partition => "str.partition"
theorem strsOf_den {K : PySem.W.Frag} {H : Hp} {μ : List Addr} : ∀ {ds : List D} {vs : List V} {ys : List Str}, DenL K H μ vs ds → strsOf ds = some ys → vs = ys.map V.str
  | [], vs, ys, h, e => by
    cases h
    cases e
    rfl
  | d :: ds, vs, ys, h, e => by
    cases h with
    | cons h1 h2 =>
      cases d <;> try cases e
      obtain ⟨zs, e1, rfl⟩ := Option.map_eq_some_iff.mp (show (strsOf ds).map _ = some ys from e)
      cases h1
      rw [strsOf_den h2 e1]
      rfl
theorem strs_den {K : PySem.W.Frag} {H : Hp} {μ : List Addr} : ∀ ys : List Str, DenL K H μ (ys.map V.str) (ys.map D.str)
  | [] => .nil
  | y :: ys => .cons (.str y) (strs_den ys)
/-- a list changed -/
theorem chg_lst {K : PySem.W.Frag} {H : Hp} {μ : List Addr} {S : Sto} {Q : VK} {n : Nat} {a : Addr} {vs : List V} {ds : List D} {v : V} {d : D} (R : Rel K H μ S) (hn : μ[n]? = some a) (dl : DenL K H μ vs ds) (dv : Den K H μ v d)
    (h : After K H μ (fun _ v H' _ _ => Q v H') d (S.set n (.lst ds))) : Q v (upd H a (.lst vs)) := by
  have st : Step H μ (upd H a (.lst vs)) μ := Step.set (List.mem_of_getElem? hn)
  exact h v _ μ st (R.set hn ⟨vs, upd_same, DenL.mono R st _ _ dl⟩) (Den.mono R st _ _ dv)
theorem Wp.indexD {S : Sto} {k : D → Sto → Prop} {w : Exn → Sto → Prop} {x : D} {ys : List D} (h : Wp (Rv.indexD x ys) S k w) :
    ∃ a bs j, pd S 64 x = some a ∧ pds S 63 ys = some bs ∧ SeqAt.shaped a = true ∧ SeqAt.shaped (.list bs) = true ∧ bs.findIdx? (fun z => PyData.eqv z a) = some j ∧ k (.int (j : Nat)) S := by
  unfold Wp Rv.indexD at h
  cases ea : pd S 64 x with
  | none => rw [ea] at h; exact h.elim
  | some a =>
    cases eb : pds S 63 ys with
    | none => rw [ea, eb] at h; exact h.elim
    | some b =>
      rw [ea, eb] at h
      by_cases c : SeqAt.shaped a = true ∧ SeqAt.shaped (.list b) = true
      · simp only [if_pos c] at h
        cases ej : b.findIdx? (fun z => PyData.eqv z a) with
        | none => rw [ej] at h; exact h.elim
        | some j =>
          rw [ej] at h
          exact ⟨a, b, j, rfl, rfl, c.1, c.2, ej, h⟩
      · simp only [if_neg c] at h
theorem op_meth (hu : X.A.units + 65 < cLine) (m : MethK) : MtR X m.id (RMof X.K (methD m)) := by
  intro pins s σ H x xs v us Q I rx r h
  obtain ⟨W, μ, S, a, ds, R, da, dl, h⟩ := h
  cases m with
  | append =>
    match a, ds, da, dl, h with
    | .ref n, [d], da, dl, h =>
      cases da with
      | @ref a0 _ h1 =>
        obtain ⟨u, rfl, du⟩ := den1 dl
        obtain ⟨ys, e, h⟩ := Wp.items.mp (Wp.bind.mp h)
        obtain ⟨hz, h⟩ := Wp.need.mp (Wp.bind.mp h)
        have h := Wp.setO.mp (Wp.bind.mp h)
        obtain ⟨vs, h3, h4⟩ := R.obj _ _ _ h1 e
        exact mt_append pins s σ H _ _ v us Q I rx r ⟨a0, vs, u, rfl, rfl, h3, by rw [h4.length]; exact hz, chg_lst R h1 (h4.append (.one du)) .non (Wp.pure.mp h)⟩
  | pop =>
    match a, ds, da, dl, h with
    | .ref n, [], da, dl, h =>
      cases da with
      | @ref a0 _ h1 =>
        cases dl
        obtain ⟨ys, e, h⟩ := Wp.items.mp (Wp.bind.mp h)
        obtain ⟨d, e2, h⟩ := Wp.opt.mp (Wp.bind.mp h)
        have h := Wp.setO.mp (Wp.bind.mp h)
        obtain ⟨vs, h3, h4⟩ := R.obj _ _ _ h1 e
        obtain ⟨u, e3, du⟩ := h4.get e2
        rw [← h4.length] at e3
        exact mt_pop pins s σ H _ _ v us Q I rx r ⟨a0, vs, u, rfl, rfl, h3, e3, chg_lst R h1 h4.dropLast du (Wp.pure.mp h)⟩
    | .ref n, [.int i], da, dl, h =>
      cases da with
      | @ref a0 _ h1 =>
        obtain ⟨u, rfl, du⟩ := den1 dl
        cases du
        obtain ⟨ys, e, h⟩ := Wp.items.mp (Wp.bind.mp h)
        obtain ⟨⟨z1, z2⟩, h⟩ := Wp.need.mp (Wp.bind.mp h)
        obtain ⟨k, e2, h⟩ := Wp.opt.mp (Wp.bind.mp h)
        obtain ⟨d, e3, h⟩ := Wp.opt.mp (Wp.bind.mp h)
        have h := Wp.setO.mp (Wp.bind.mp h)
        obtain ⟨vs, h3, h4⟩ := R.obj _ _ _ h1 e
        obtain ⟨u, e4, du⟩ := h4.get e3
        exact mt_popAt pins s σ H _ _ v us Q I rx r ⟨a0, vs, i, k, u, rfl, rfl, h3, z1, z2, by rw [h4.length]; exact e2, e4, chg_lst R h1 (h4.erase k) du (Wp.pure.mp h)⟩
  | extend =>
    match a, ds, da, dl, h with
    | .ref n, [.ref m], da, dl, h =>
      cases da with
      | @ref a0 _ h1 =>
        obtain ⟨u, rfl, du⟩ := den1 dl
        cases du with
        | @ref a1 _ h2 =>
          obtain ⟨ys, e, h⟩ := Wp.items.mp (Wp.bind.mp h)
          obtain ⟨zs, e2, h⟩ := Wp.items.mp (Wp.bind.mp h)
          obtain ⟨hz, h⟩ := Wp.need.mp (Wp.bind.mp h)
          have h := Wp.setO.mp (Wp.bind.mp h)
          obtain ⟨vs, h3, h4⟩ := R.obj _ _ _ h1 e
          obtain ⟨ws, h5, h6⟩ := R.obj _ _ _ h2 e2
          exact mt_extend pins s σ H _ _ v us Q I rx r ⟨a0, a1, vs, ws, rfl, rfl, h3, h5, by rw [h4.length, h6.length]; exact hz, chg_lst R h1 (h4.append h6) .non (Wp.pure.mp h)⟩
  | upper =>
    match a, ds, da, dl, h with
    | .str x, [], da, dl, h =>
      cases da
      cases dl
      obtain ⟨hz, h⟩ := Wp.need.mp (Wp.bind.mp h)
      exact mt_upper pins s σ H _ _ v us Q I rx r ⟨x, rfl, rfl, hz, Wp.pure.mp h _ H μ (Step.refl _ _) R (.str _)⟩
  | lower =>
    match a, ds, da, dl, h with
    | .str x, [], da, dl, h =>
      cases da
      cases dl
      obtain ⟨hz, h⟩ := Wp.need.mp (Wp.bind.mp h)
      exact mt_lower pins s σ H _ _ v us Q I rx r ⟨x, rfl, rfl, hz, Wp.pure.mp h _ H μ (Step.refl _ _) R (.str _)⟩
  | isdigit =>
    match a, ds, da, dl, h with
    | .str x, [], da, dl, h =>
      cases da
      cases dl
      exact mt_isdigit pins s σ H _ _ v us Q I rx r ⟨x, rfl, rfl, trivial, Wp.pure.mp h _ H μ (Step.refl _ _) R (.bl _)⟩
  | startswith =>
    match a, ds, da, dl, h with
    | .str x, [.str y], da, dl, h =>
      cases da
      obtain ⟨u, rfl, du⟩ := den1 dl
      cases du
      exact mt_startswith pins s σ H _ _ v us Q I rx r ⟨x, y, rfl, rfl, Wp.pure.mp h _ H μ (Step.refl _ _) R (.bl _)⟩
  | endswith =>
    match a, ds, da, dl, h with
    | .str x, [.str y], da, dl, h =>
      cases da
      obtain ⟨u, rfl, du⟩ := den1 dl
      cases du
      exact mt_endswith pins s σ H _ _ v us Q I rx r ⟨x, y, rfl, rfl, Wp.pure.mp h _ H μ (Step.refl _ _) R (.bl _)⟩
  | split =>
    match a, ds, da, dl, h with
    | .str x, [.str y], da, dl, h =>
      cases da
      obtain ⟨u, rfl, du⟩ := den1 dl
      cases du
      obtain ⟨⟨hz, hz2⟩, h⟩ := Wp.need.mp (Wp.bind.mp h)
      have h := Wp.newO.mp h
      exact mt_split pins s σ H _ _ v us Q I rx r ⟨x, y, rfl, rfl, beq_eq_false_iff_ne.mpr (by omega), hz2, fun p hp => new_lst R hp (strs_den _) h⟩
  | partition =>
    match a, ds, da, dl, h with
    | .str x, [.str y], da, dl, h =>
      cases da
      obtain ⟨u, rfl, du⟩ := den1 dl
      cases du
      obtain ⟨⟨hz, hz2⟩, h⟩ := Wp.need.mp (Wp.bind.mp h)
      have h := Wp.pure.mp h
      exact mt_partition pins s σ H _ _ v us Q I rx r ⟨x, y, rfl, rfl, beq_eq_false_iff_ne.mpr (by omega), hz2, fun p hp => new_tup R hp (.cons (.str _) (.cons (.str _) (.cons (.str _) .nil))) h⟩
  | join =>
    match a, ds, da, dl, h with
    | .str x, [d], da, dl, h =>
      cases da
      obtain ⟨u, rfl, du⟩ := den1 dl
      obtain ⟨p, ys, vs, rfl, dl2, h, hs⟩ := Wp.seqD R du (Wp.bind.mp h)
      obtain ⟨zs, e, h⟩ := Wp.opt.mp (Wp.bind.mp h)
      obtain ⟨hz, h⟩ := Wp.need.mp (Wp.bind.mp h)
      have ev := strsOf_den dl2 e
      subst ev
      exact mt_join pins s σ H _ _ v us Q I rx r ⟨x, p, zs, rfl, rfl, hs.elim (fun z => .inr z.1) .inl, hz, Wp.pure.mp h _ H μ (Step.refl _ _) R (.str _)⟩
  | insert =>
    match a, ds, da, dl, h with
    | .ref n, [.int i, d], da, dl, h =>
      cases da with
      | @ref a0 _ h1 =>
        obtain ⟨u, y, rfl, du, dy⟩ := den2 dl
        cases du
        obtain ⟨ys, e, h⟩ := Wp.items.mp (Wp.bind.mp h)
        obtain ⟨⟨z1, z2, z3⟩, h⟩ := Wp.need.mp (Wp.bind.mp h)
        have h := Wp.setO.mp (Wp.bind.mp h)
        obtain ⟨vs, h3, h4⟩ := R.obj _ _ _ h1 e
        exact mt_insert pins s σ H _ _ v us Q I rx r ⟨a0, vs, i, y, rfl, rfl, h3, by rw [h4.length]; exact z1, z2, z3, chg_lst R h1 (((h4.take _).append (.one dy)).append (h4.drop _)) .non (Wp.pure.mp h)⟩
  | index =>
    match a, ds, da, dl, h with
    | .ref n, [d], da, dl, h =>
      cases da with
      | @ref a0 _ h1 =>
        obtain ⟨y, rfl, dy⟩ := den1 dl
        obtain ⟨ys, e, h⟩ := Wp.items.mp (Wp.bind.mp h)
        obtain ⟨p, bs, j, e1, e2, c1, c2, ej, h⟩ := Wp.indexD h
        obtain ⟨vs, h3, h4⟩ := R.obj _ _ _ h1 e
        have hq : Q (.int (j : Nat)) H := h _ H μ (Step.refl _ _) R (.int _)
        have nd : PyData.hasDictAll bs = false := by simpa [PyData.hasDict] using noDict_of_shaped c2
        obtain ⟨hj, hz, hno⟩ := List.findIdx?_eq_some_iff_getElem.mp ej
        refine mt_indexD hu pins s σ H _ _ v us Q I rx r ⟨a0, y, p, bs, j, bs[j], rfl, rfl, .lst (.of h3) (mapO_den (pd_den R 63) ys vs bs e2 nd h4), pd_den R 64 d y p e1 (noDict_of_shaped c1) dy, c2, c1, List.getElem?_eq_getElem hj, hz, fun m z' hm ez => ?_, hq⟩
        have hm' : m < bs.length := by omega
        rw [List.getElem?_eq_getElem hm'] at ez
        cases ez
        simpa using hno m hm
  | count => exact h.elim
  | reverse => exact h.elim
  | copy => exact h.elim
/-- o[i] = v -/
def RPof (K : PySem.W.Frag) : TSet := fun o i v H Q => ∃ (W : WX), ∃ μ S a b d, Rel K H μ S ∧ Den K H μ o a ∧ Den K H μ i b ∧ Den K H μ v d ∧ Wp (setIdxD a b d) S (fun _ S' => ∀ H' μ', Step H μ H' μ' → Rel K H' μ' S' → Q H') (AfterX K W H μ)
theorem op_set : PSet X (RPof X.K) := by
  intro pins s σ H o i v ov iv u Q I ro ri rv h
  obtain ⟨W, μ, S, a, b, d, R, da, db, dd, h⟩ := h
  match a, b, da, db, h with
  | .ref n, .int k, da, db, h =>
    cases da with
    | @ref a0 _ h1 =>
      cases db
      obtain ⟨ys, e, h⟩ := Wp.items.mp (Wp.bind.mp h)
      obtain ⟨j, e2, h⟩ := Wp.opt.mp (Wp.bind.mp h)
      have h := Wp.setO.mp h
      obtain ⟨vs, h3, h4⟩ := R.obj _ _ _ h1 e
      have st : Step H μ (upd H a0 (.lst (vs.set j v))) μ := Step.set (List.mem_of_getElem? h1)
      exact set_list pins s σ H _ _ v ov iv u Q I ro ri rv ⟨a0, vs, k, j, rfl, rfl, h3, by rw [h4.length]; exact e2, h _ μ st (R.set h1 ⟨_, upd_same, DenL.mono R st _ _ (h4.set j dd)⟩)⟩
end
end Rv
set_option Elab.async false
set_option linter.all false
set_option maxRecDepth 100000
set_option maxHeartbeats 4000000
namespace Rv
open PySem PySem.Spec PyProof.Rows L2
/-! ### what is walked -/
/-- from (H0, μ0) on, wherever the source stands as asked, the iterator hands out the items -/
structure ItOk (K : PySem.W.Frag) (J : It) (s : Src) (H0 : Hp) (μ0 : List Addr) : Prop where
  go : ∀ H μ S i, Step H0 μ0 H μ → Rel K H μ S → s.ok S → i < s.its.length → J.go i H
  stop : ∀ H μ S, Step H0 μ0 H μ → Rel K H μ S → s.ok S → J.stop s.its.length H
  yld : ∀ H μ S i x H', Step H0 μ0 H μ → Rel K H μ S → s.ok S → i < s.its.length → J.yld i H x H' → ∃ d, s.its[i]? = some d ∧ Step H μ H' μ ∧ Rel K H' μ S ∧ Den K H' μ x d
section
variable {K : PySem.W.Frag} {H0 : Hp} {μ0 : List Addr} {S0 : Sto}
theorem lt_get {α : Type} {xs : List α} {i : Nat} (h : i < xs.length) : ∃ x, xs[i]? = some x := ⟨xs[i], List.getElem?_eq_getElem h⟩
theorem itOk_tup {a : Addr} {vs : List V} {ds : List D} (R0 : Rel K H0 μ0 S0) (hT : SqT K H0 a vs) (dl : DenL K H0 μ0 vs ds) : ItOk K (Itt K a) ⟨ds, always⟩ H0 μ0 where
  go := fun H μ S i st R _ hi => by
    obtain ⟨v, hv⟩ := lt_get (xs := vs) (by rw [dl.length]; exact hi)
    exact ⟨vs, v, st.seqT R0 hT, hv⟩
  stop := fun H μ S st R _ => ⟨vs, st.seqT R0 hT, by rw [dl.length]; exact Nat.le_refl _⟩
  yld := fun H μ S i x H' st R _ hi y => by
    obtain ⟨rfl, y⟩ := y
    obtain ⟨d, e, dd⟩ := (DenL.mono R0 st _ _ dl).get' (y vs (st.seqT R0 hT))
    exact ⟨d, e, Step.refl _ _, R, dd⟩
theorem itOk_lst {a : Addr} {n : Nat} {ds : List D} (hn : μ0[n]? = some a) : ItOk K (Itl K a) ⟨ds, stays n ds⟩ H0 μ0 where
  go := fun H μ S i st R ok hi => by
    obtain ⟨vs, h, dl⟩ := R.obj _ _ _ (st.get hn) ok
    obtain ⟨v, hv⟩ := lt_get (xs := vs) (by rw [dl.length]; exact hi)
    exact ⟨vs, v, .of h, hv⟩
  stop := fun H μ S st R ok => by
    obtain ⟨vs, h, dl⟩ := R.obj _ _ _ (st.get hn) ok
    exact ⟨vs, .of h, by rw [dl.length]; exact Nat.le_refl _⟩
  yld := fun H μ S i x H' st R ok hi y => by
    obtain ⟨rfl, y⟩ := y
    obtain ⟨vs, h, dl⟩ := R.obj _ _ _ (st.get hn) ok
    obtain ⟨d, e, dd⟩ := dl.get' (y vs (.of h))
    exact ⟨d, e, Step.refl _ _, R, dd⟩
theorem itOk_fro {a : Addr} {ns : List Int} (R0 : Rel K H0 μ0 S0) (h : Fro K H0 a (ns.map V.int)) : ItOk K (Itl K a) ⟨ns.map .int, always⟩ H0 μ0 where
  go := fun H μ S i st R _ hi => by
    obtain ⟨v, hv⟩ := lt_get (xs := ns.map V.int) (by rw [List.length_map] at hi ⊢; exact hi)
    exact ⟨_, v, (st.fro R0 h).seq, hv⟩
  stop := fun H μ S st R _ => ⟨_, (st.fro R0 h).seq, by rw [List.length_map, List.length_map]; exact Nat.le_refl _⟩
  yld := fun H μ S i x H' st R _ hi y => by
    obtain ⟨rfl, y⟩ := y
    obtain ⟨d, e, dd⟩ := (DenL.ints (K := K) (H := H') (μ := μ) ns).get' (y _ (st.fro R0 h).seq)
    exact ⟨d, e, Step.refl _ _, R, dd⟩
theorem itOk_str {x : Str} : ItOk K (Its x) ⟨x.cps.toList.map fun c => .str ⟨#[c]⟩, always⟩ H0 μ0 where
  go := fun H μ S i st R _ hi => by
    show i < x.cps.size
    simpa using hi
  stop := fun H μ S st R _ => by
    show x.cps.size ≤ _
    simp
  yld := fun H μ S i v H' st R _ hi y => by
    obtain ⟨rfl, c, e, rfl⟩ := y
    refine ⟨.str ⟨#[c]⟩, ?_, Step.refl _ _, R, .str _⟩
    show (x.cps.toList.map fun c => D.str ⟨#[c]⟩)[i]? = _
    rw [List.getElem?_map, Array.getElem?_toList, e]
    rfl
theorem itOk_rng {i j : Int} : ItOk K (Itr i (j - i).toNat) ⟨rngL i j, always⟩ H0 μ0 where
  go := fun H μ S k st R _ hi => by
    show k < (j - i).toNat
    simpa [rngL] using hi
  stop := fun H μ S st R _ => by
    show (j - i).toNat ≤ _
    simp [rngL]
  yld := fun H μ S k v H' st R _ hi y => by
    obtain ⟨rfl, rfl⟩ := y
    refine ⟨.int (i + k), ?_, Step.refl _ _, R, .int _⟩
    have hk : k < (j - i).toNat := by simpa [rngL] using hi
    show ((List.range (j - i).toNat).map fun k => D.int (i + (k : Nat)))[k]? = _
    rw [List.getElem?_map, List.getElem?_range hk]
    rfl
theorem itOk_enum {a : Addr} {n : Nat} {ds : List D} (hn : μ0[n]? = some a) : ItOk K (Ite K a) ⟨enumL ds, stays n ds⟩ H0 μ0 where
  go := fun H μ S i st R ok hi => by
    obtain ⟨vs, h, dl⟩ := R.obj _ _ _ (st.get hn) ok
    obtain ⟨v, hv⟩ := lt_get (xs := vs) (i := i) (by rw [dl.length]; simpa [enumL] using hi)
    exact ⟨vs, v, .of h, hv⟩
  stop := fun H μ S st R ok => by
    obtain ⟨vs, h, dl⟩ := R.obj _ _ _ (st.get hn) ok
    exact ⟨vs, .of h, by rw [dl.length]; simp [enumL]⟩
  yld := fun H μ S i x H' st R ok hi y => by
    obtain ⟨T, v, rfl, hT, rfl, y⟩ := y
    obtain ⟨vs, h, dl⟩ := R.obj _ _ _ (st.get hn) ok
    obtain ⟨d, e, dd⟩ := dl.get' (y vs (.of h))
    refine ⟨.tup [.int (i : Nat), d], ?_, Step.aside hT, R.aside hT, .tup (.inl (.inl upd_same)) (.cons (.int _) (.cons (Den.mono R (Step.aside hT) _ _ dd) .nil))⟩
    show (ds.zipIdx.map fun p => D.tup [.int p.2, p.1])[i]? = _
    rw [List.getElem?_map, List.getElem?_zipIdx, e]
    simp
theorem zip_get {xs ys : List D} {i : Nat} {x y : D} (h1 : xs[i]? = some x) (h2 : ys[i]? = some y) : (zipL xs ys)[i]? = some (.tup [x, y]) := by
  unfold zipL
  rw [List.getElem?_map, List.getElem?_zip_eq_some (z := (x, y)) |>.mpr ⟨h1, h2⟩]
  rfl
theorem zip_len {xs ys : List D} : (zipL xs ys).length = min xs.length ys.length := by simp [zipL]
theorem itOk_zip {a b : Addr} {n m : Nat} {ds es : List D} (hn : μ0[n]? = some a) (hm : μ0[m]? = some b) : ItOk K (Itz K a b) ⟨zipL ds es, fun S => stays n ds S ∧ stays m es S⟩ H0 μ0 where
  go := fun H μ S i st R ok hi => by
    obtain ⟨vs, h, dl⟩ := R.obj _ _ _ (st.get hn) ok.1
    obtain ⟨us, h', dl'⟩ := R.obj _ _ _ (st.get hm) ok.2
    rw [show (Src.its ⟨zipL ds es, fun S => stays n ds S ∧ stays m es S⟩) = zipL ds es from rfl, zip_len] at hi
    obtain ⟨v, hv⟩ := lt_get (xs := vs) (i := i) (by rw [dl.length]; omega)
    obtain ⟨u, hu⟩ := lt_get (xs := us) (i := i) (by rw [dl'.length]; omega)
    exact ⟨vs, us, v, u, .of h, .of h', hv, hu⟩
  stop := fun H μ S st R ok => by
    obtain ⟨vs, h, dl⟩ := R.obj _ _ _ (st.get hn) ok.1
    obtain ⟨us, h', dl'⟩ := R.obj _ _ _ (st.get hm) ok.2
    refine ⟨vs, us, .of h, .of h', ?_⟩
    show vs.length ≤ (zipL ds es).length ∨ us.length ≤ (zipL ds es).length
    rw [zip_len, dl.length, dl'.length]
    omega
  yld := fun H μ S i x H' st R ok hi y => by
    obtain ⟨T, v, u, rfl, hT, rfl, y1, y2⟩ := y
    obtain ⟨vs, h, dl⟩ := R.obj _ _ _ (st.get hn) ok.1
    obtain ⟨us, h', dl'⟩ := R.obj _ _ _ (st.get hm) ok.2
    obtain ⟨d, e, dd⟩ := dl.get' (y1 vs (.of h))
    obtain ⟨d', e', dd'⟩ := dl'.get' (y2 us (.of h'))
    exact ⟨.tup [d, d'], zip_get e e', Step.aside hT, R.aside hT, .tup (.inl (.inl upd_same)) (.cons (Den.mono R (Step.aside hT) _ _ dd) (.cons (Den.mono R (Step.aside hT) _ _ dd') .nil))⟩
theorem itOk_zipT {a b : Addr} {vs us : List V} {ds es : List D} (R0 : Rel K H0 μ0 S0) (hT : SqT K H0 a vs) (dl : DenL K H0 μ0 vs ds) (hU : SqT K H0 b us) (dl' : DenL K H0 μ0 us es) : ItOk K (RZ.ItzT K a b) ⟨zipL ds es, always⟩ H0 μ0 where
  go := fun H μ S i st R ok hi => by
    rw [show (Src.its ⟨zipL ds es, always⟩) = zipL ds es from rfl, zip_len] at hi
    obtain ⟨v, hv⟩ := lt_get (xs := vs) (i := i) (by rw [dl.length]; omega)
    obtain ⟨u, hu⟩ := lt_get (xs := us) (i := i) (by rw [dl'.length]; omega)
    exact ⟨vs, us, v, u, st.seqT R0 hT, st.seqT R0 hU, hv, hu⟩
  stop := fun H μ S st R ok => by
    refine ⟨vs, us, st.seqT R0 hT, st.seqT R0 hU, ?_⟩
    show vs.length ≤ (zipL ds es).length ∨ us.length ≤ (zipL ds es).length
    rw [zip_len, dl.length, dl'.length]
    omega
  yld := fun H μ S i x H' st R ok hi y => by
    obtain ⟨T, v, u, rfl, hT', rfl, y1, y2⟩ := y
    obtain ⟨d, e, dd⟩ := (DenL.mono R0 st _ _ dl).get' (y1 vs (st.seqT R0 hT))
    obtain ⟨d', e', dd'⟩ := (DenL.mono R0 st _ _ dl').get' (y2 us (st.seqT R0 hU))
    exact ⟨.tup [d, d'], zip_get e e', Step.aside hT', R.aside hT', .tup (.inl (.inl upd_same)) (.cons (Den.mono R (Step.aside hT') _ _ dd) (.cons (Den.mono R (Step.aside hT') _ _ dd') .nil))⟩
end
section
variable (K : PySem.W.Frag) (W : SX)
def TIof (f : Env → M Src) : TI := fun σ H R => ∃ ρ μ S, EnvR K H μ σ ρ ∧ Rel K H μ S ∧ Wp (f ρ) S (fun s S' => ∀ J H' μ', Step H μ H' μ' → Rel K H' μ' S' → ItOk K J s H' μ' → R J H') (AfterX K (W σ) H μ)
end
section
variable {X : Cx} {W : SX} {tg : Expr}
theorem TEof.with {K : PySem.W.Frag} {f : Env → M D} {σ : L2.St} {H : Hp} {Q : VK} {ρ : Env} {μ : List Addr} {S : Sto} {k : D → Sto → Prop} (e : EnvR K H μ σ ρ) (R : Rel K H μ S) (h : Wp (f ρ) S k (AfterX K (W σ) H μ))
    (hk : ∀ d S', f ρ S = .ok d S' → k d S' → ∀ v H' μ', Step H μ H' μ' → Rel K H' μ' S' → Den K H' μ' v d → Q v H') : TEof K W f σ H Q := by
  refine ⟨ρ, μ, S, e, R, ?_⟩
  unfold Wp at h ⊢
  cases q : f ρ S with
  | ok d S' => rw [q] at h; exact hk d S' q h
  | ex c S' => rw [q] at h; exact h
  | bad => rw [q] at h; exact h
theorem pi_of {e : Expr} {f : Env → M D} (he : PE X e (TEof X.K W f)) : PI X tg e (TIof X.K W fun ρ => do let d ← f ρ; srcOf d) := by
  refine ⟨fun pins s σ H R I h => ?_⟩
  obtain ⟨ρ, μ, S, ee, RR, h⟩ := h
  have h := Wp.bind.mp h
  cases q : f ρ S with
  | bad =>
    unfold Wp at h
    rw [q] at h
    exact h.elim
  | ex c S' =>
    refine (pi_list he).run pins s σ H R I (TEof.with ee RR h fun d S2 q2 => ?_)
    rw [q] at q2
    cases q2
  | ok d S' =>
    cases d with
    | tup ds =>
      refine (pi_tup he).run pins s σ H R I (TEof.with ee RR h fun d S2 q2 k v H1 μ1 s1 R1 d1 => ?_)
      rw [q] at q2
      cases q2
      cases d1 with
      | @tup a xs _ h1 h2 => exact ⟨a, rfl, ⟨xs, h1⟩, Wp.pure.mp k _ H1 μ1 s1 R1 (itOk_tup R1 h1 h2)⟩
    | ref n =>
      refine (pi_list he).run pins s σ H R I (TEof.with ee RR h fun d S2 q2 k v H1 μ1 s1 R1 d1 => ?_)
      rw [q] at q2
      cases q2
      cases d1 with
      | @ref a _ h1 =>
        obtain ⟨xs, e, k⟩ := Wp.items.mp (Wp.bind.mp k)
        obtain ⟨vs, h2, _⟩ := R1.obj _ _ _ h1 e
        exact ⟨a, rfl, ⟨vs, .of h2⟩, Wp.pure.mp k _ H1 μ1 s1 R1 (itOk_lst h1)⟩
    | fro ns =>
      refine (pi_list he).run pins s σ H R I (TEof.with ee RR h fun d S2 q2 k v H1 μ1 s1 R1 d1 => ?_)
      rw [q] at q2
      cases q2
      cases d1 with
      | @fro a _ h1 => exact ⟨a, rfl, ⟨_, h1.seq⟩, Wp.pure.mp k _ H1 μ1 s1 R1 (itOk_fro R1 h1)⟩
    | str x =>
      refine (pi_str he).run pins s σ H R I (TEof.with ee RR h fun d S2 q2 k v H1 μ1 s1 R1 d1 => ?_)
      rw [q] at q2
      cases q2
      cases d1
      exact ⟨x, rfl, Wp.pure.mp k _ H1 μ1 s1 R1 itOk_str⟩
    | non => unfold Wp at h; rw [q] at h; exact h.elim
    | bl b => unfold Wp at h; rw [q] at h; exact h.elim
    | int b => unfold Wp at h; rw [q] at h; exact h.elim
/-- one source by one value -/
theorem TEof.src1 {K : PySem.W.Frag} {f : Env → M D} {g : D → M Src} {σ : L2.St} {H : Hp} {R : It → Hp → Prop} (h : TIof K W (fun ρ => do let d ← f ρ; g d) σ H R) :
    TEof K W f σ H fun v H1 => ∃ μ S d, Rel K H1 μ S ∧ Den K H1 μ v d ∧ Wp (g d) S (fun s S' => ∀ J H' μ', Step H1 μ H' μ' → Rel K H' μ' S' → ItOk K J s H' μ' → R J H') (AfterX K (W σ) H1 μ) := by
  obtain ⟨ρ, μ, S, ee, RR, h⟩ := h
  refine ⟨ρ, μ, S, ee, RR, (Wp.bind.mp h).mono (fun d S1 h1 => ?_) (fun _ _ z => z)⟩
  intro v H1 μ1 s1 R1 d1
  exact ⟨μ1, S1, d, R1, d1, h1.mono (fun s S' h2 J H' μ' st R io => h2 J H' μ' (s1.trans st) R io) fun c S' z => z.on s1⟩
theorem TEof.src2 {K : PySem.W.Frag} {f f' : Env → M D} {g : D → D → M Src} {σ : L2.St} {H : Hp} {R : It → Hp → Prop} (h : TIof K W (fun ρ => do let d ← f ρ; let e ← f' ρ; g d e) σ H R) :
    TEof K W f σ H fun v H1 => TEof K W f' σ H1 fun u H2 => ∃ μ S d e, Rel K H2 μ S ∧ Den K H2 μ v d ∧ Den K H2 μ u e ∧ Wp (g d e) S (fun s S' => ∀ J H' μ', Step H2 μ H' μ' → Rel K H' μ' S' → ItOk K J s H' μ' → R J H') (AfterX K (W σ) H2 μ) := by
  obtain ⟨ρ, μ, S, ee, RR, h⟩ := h
  refine ⟨ρ, μ, S, ee, RR, (Wp.bind.mp h).mono (fun d S1 h1 => ?_) (fun _ _ z => z)⟩
  intro v H1 μ1 s1 R1 d1
  refine ⟨ρ, μ1, S1, ee.mono RR s1, R1, (Wp.bind.mp h1).mono (fun d' S2 h2 => ?_) fun c S' z => z.on s1⟩
  intro u H2 μ2 s2 R2 d2
  exact ⟨μ2, S2, d, d', R2, Den.mono R1 s2 _ _ d1, d2, h2.mono (fun s S' h3 J H' μ' st R io => h3 J H' μ' ((s1.trans s2).trans st) R io) fun c S' z => z.on (s1.trans s2)⟩
theorem TEof.mono {K : PySem.W.Frag} {f : Env → M D} {σ : L2.St} {H : Hp} {Q Q' : VK} (h : TEof K W f σ H Q) (k : ∀ v H', Q v H' → Q' v H') : TEof K W f σ H Q' := by
  obtain ⟨ρ, μ, S, e, R, h⟩ := h
  exact ⟨ρ, μ, S, e, R, h.mono (fun d S' h1 v H' μ' s R d => k _ _ (h1 v H' μ' s R d)) fun _ _ z => z⟩
theorem pi_rng1 {a : Expr} {f : Env → M D} {p pos : Pos} (hg : Gl X "range") (hm : X.mg "range" = none) (ha : PE X a (TEof X.K W f)) (hs : starEach [a] X.env = [(false, eval a X.env)]) :
    PI X tg (.Call (.Name "range" p) [a] [] pos) (TIof X.K W fun ρ => do let d ← f ρ; srcRng1 d) := by
  refine ⟨fun pins s σ H R I h => (pi_range1 hg hm (pa_cons ha pa_nil (by rw [hs]; rfl)) hs).run pins s σ H R I ?_⟩
  refine (TEof.src1 h).mono fun v H1 q => ?_
  obtain ⟨μ, S, d, RR, dd, h⟩ := q
  cases d <;> try exact h.elim
  cases dd
  obtain ⟨⟨z1, z2, z3, z4, z5⟩, h⟩ := Wp.need.mp (Wp.bind.mp h)
  refine ⟨_, rfl, z3, z4, ?_⟩
  have := Wp.pure.mp h (Itr 0 _) H1 μ (Step.refl _ _) RR itOk_rng
  rw [Int.sub_zero] at this
  exact this
theorem pi_rng2 {a b : Expr} {f f' : Env → M D} {p pos : Pos} (hg : Gl X "range") (hm : X.mg "range" = none) (ha : PE X a (TEof X.K W f)) (hb : PE X b (TEof X.K W f')) (hs : starEach [a, b] X.env = [(false, eval a X.env), (false, eval b X.env)])
    (hs2 : starEach [b] X.env = [(false, eval b X.env)]) : PI X tg (.Call (.Name "range" p) [a, b] [] pos) (TIof X.K W fun ρ => do let d ← f ρ; let e ← f' ρ; srcRng2 d e) := by
  refine ⟨fun pins s σ H R I h => (pi_range2 hg hm (pa_cons ha (pa_cons hb pa_nil (by rw [hs2]; rfl)) (by rw [hs, hs2])) hs hs2).run pins s σ H R I ?_⟩
  refine (TEof.src2 h).mono fun v H1 q => q.mono fun u H2 q => ?_
  obtain ⟨μ, S, d, e, RR, dd, de, h⟩ := q
  cases d <;> cases e <;> try exact h.elim
  cases dd; cases de
  obtain ⟨⟨z1, z2, z3, z4, z5⟩, h⟩ := Wp.need.mp (Wp.bind.mp h)
  exact ⟨_, _, rfl, ⟨z1, z2, z3, z4⟩, Wp.pure.mp h (Itr _ _) H2 μ (Step.refl _ _) RR itOk_rng⟩
theorem pi_enumL {e : Expr} {f : Env → M D} {p pos tpos : Pos} {elts : List Expr} {kk : Nat} (hg : Gl X "enumerate") (hm : X.mg "enumerate" = none) (ha : PE X e (TEof X.K W f)) (hs : starEach [e] X.env = [(false, eval e X.env)]) :
    PI X (.Tuple elts kk tpos) (.Call (.Name "enumerate" p) [e] [] pos) (TIof X.K W fun ρ => do let d ← f ρ; srcEnum d) := by
  refine ⟨fun pins s σ H R I h => (pi_enum hg hm (pa_cons ha pa_nil (by rw [hs]; rfl)) hs).run pins s σ H R I ?_⟩
  refine (TEof.src1 h).mono fun v H1 q => ?_
  obtain ⟨μ, S, d, RR, dd, h⟩ := q
  cases d <;> try exact h.elim
  cases dd with
  | @ref a _ h1 =>
    obtain ⟨xs, e, h⟩ := Wp.items.mp (Wp.bind.mp h)
    obtain ⟨vs, h2, _⟩ := RR.obj _ _ _ h1 e
    exact ⟨a, vs, rfl, .of h2, Wp.pure.mp h _ H1 μ (Step.refl _ _) RR (itOk_enum h1)⟩
theorem pi_zipL {e e2 : Expr} {f f' : Env → M D} {p pos tpos : Pos} {elts : List Expr} {kk : Nat} (hg : Gl X "zip") (hm : X.mg "zip" = none) (ha : PE X e (TEof X.K W f)) (hb : PE X e2 (TEof X.K W f'))
    (hs : starEach [e, e2] X.env = (false, eval e X.env) :: starEach [e2] X.env) (hs2 : starEach [e2] X.env = [(false, eval e2 X.env)]) (hpl : (backTo pos (starEach [e2] X.env)).any (·.1) = false) :
    PI X (.Tuple elts kk tpos) (.Call (.Name "zip" p) [e, e2] [] pos) (TIof X.K W fun ρ => do let d ← f ρ; let g ← f' ρ; srcZip d g) := by
  refine ⟨fun pins s σ H R I h => (RZ.pi_zipA hg hm (pa_cons ha (pa_cons hb pa_nil (by rw [hs2]; rfl)) hs) hs hpl).run pins s σ H R I ?_⟩
  refine (TEof.src2 h).mono fun v H1 q => q.mono fun u H2 q => ?_
  obtain ⟨μ, S, d, e, RR, dd, de, h⟩ := q
  cases d <;> cases e <;> try exact h.elim
  · cases dd with
    | @tup a vs _ h1 h2 =>
      cases de with
      | @tup b us _ h3 h4 => exact ⟨a, b, vs, us, rfl, .inr ⟨h1, h3, Wp.pure.mp h _ H2 μ (Step.refl _ _) RR (itOk_zipT RR h1 h2 h3 h4)⟩⟩
  · cases dd with
    | @ref a _ h1 =>
      cases de with
      | @ref b _ h2 =>
        obtain ⟨xs, e, h⟩ := Wp.items.mp (Wp.bind.mp h)
        obtain ⟨ys, e', h⟩ := Wp.items.mp (Wp.bind.mp h)
        obtain ⟨vs, h3, _⟩ := RR.obj _ _ _ h1 e
        obtain ⟨us, h4, _⟩ := RR.obj _ _ _ h2 e'
        exact ⟨a, b, vs, us, rfl, .inl ⟨.of h3, .of h4, Wp.pure.mp h _ H2 μ (Step.refl _ _) RR (itOk_zip h1 h2)⟩⟩
end
end Rv
set_option Elab.async false
set_option linter.all false
set_option maxRecDepth 100000
set_option maxHeartbeats 4000000
namespace Rv
open PySem PySem.Spec PyProof.Rows L2
/-! ### targets -/
abbrev W0 : WX := fun _ _ _ _ => False
abbrev kW (W : WX) : SX := fun _ => W
abbrev Z0 : SX := kW W0
section
variable (K : PySem.W.Frag) (W : SX)
def TGof (t : Tg) : TG := fun v σ H Q => ∃ ρ μ S d, EnvR K H μ σ ρ ∧ Rel K H μ S ∧ Den K H μ v d ∧ Wp (bindT t d ρ) S (fun ρ' S' => S' = S ∧ ∀ σ', EnvR K H μ σ' ρ' → Q σ' H) fun _ _ => False
/-- what a statement leaves -/
def Ends.post (D : Ends) (H : Hp) (μ : List Addr) : Flow → Sto → Prop := fun f S' => ∀ H' μ', Step H μ H' μ' → Rel K H' μ' S' → match f with
  | .next ρ => ∀ σ, EnvR K H' μ' σ ρ → D.nx σ H'
  | .ret d => ∀ v, Den K H' μ' v d → D.rt v H'
  | .brk ρ => ∀ σ, EnvR K H' μ' σ ρ → D.bk σ H'
  | .cont ρ => ∀ σ, EnvR K H' μ' σ ρ → D.ct σ H'
def TSof (f : Env → M Flow) : TS := fun D σ H => ∃ ρ μ S, EnvR K H μ σ ρ ∧ Rel K H μ S ∧ Wp (f ρ) S (Ends.post K D H μ) (AfterX K (W σ) H μ)
end
section
variable {K : PySem.W.Frag} {W : SX}
theorem Ends.post.on {D : Ends} {H H1 : Hp} {μ μ1 : List Addr} (s : Step H μ H1 μ1) {f : Flow} {S : Sto} (h : Ends.post K D H μ f S) : Ends.post K D H1 μ1 f S := fun H' μ' s' R => h H' μ' (s.trans s') R
theorem bindN_pure {S : Sto} {k : Env → Sto → Prop} {w w' : Exn → Sto → Prop} : ∀ {ts : List Tg1} {ds : List D} {ρ : Env}, Wp (bindN ts ds ρ) S k w → Wp (bindN ts ds ρ) S (fun ρ' S' => S' = S ∧ k ρ' S) w'
  | [], [], ρ, h => ⟨rfl, h⟩
  | [], _ :: _, ρ, h => h.elim
  | .one i :: xs, [], ρ, h => h.elim
  | .one i :: xs, d :: ds, ρ, h => bindN_pure (ts := xs) (ds := ds) (ρ := ρ.set i (some d)) h
  | .sub is :: xs, [], ρ, h => h.elim
  | .sub is :: xs, .tup es :: ds, ρ, h => by
    have h : Wp (do need (es.length = is.length); bindN xs ds (setAll is es ρ)) S k w := h
    obtain ⟨z, h⟩ := Wp.need.mp (Wp.bind.mp h)
    exact Wp.bind.mpr (Wp.need.mpr ⟨z, bindN_pure (ts := xs) (ds := ds) h⟩)
  | .sub is :: xs, .non :: ds, ρ, h => h.elim
  | .sub is :: xs, .bl _ :: ds, ρ, h => h.elim
  | .sub is :: xs, .int _ :: ds, ρ, h => h.elim
  | .sub is :: xs, .str _ :: ds, ρ, h => h.elim
  | .sub is :: xs, .ref _ :: ds, ρ, h => h.elim
  | .sub is :: xs, .fro _ :: ds, ρ, h => h.elim
theorem bind_pure {t : Tg} {d : D} {ρ : Env} {S : Sto} {k : Env → Sto → Prop} {w w' : Exn → Sto → Prop} (h : Wp (bindT t d ρ) S k w) : Wp (bindT t d ρ) S (fun ρ' S' => S' = S ∧ k ρ' S) w' := by
  cases t with
  | var i => exact ⟨rfl, h⟩
  | tup is =>
    cases d <;> try exact h.elim
    obtain ⟨z, h⟩ := Wp.need.mp (Wp.bind.mp h)
    exact Wp.bind.mpr (Wp.need.mpr ⟨z, rfl, h⟩)
  | nest ts =>
    cases d <;> try exact h.elim
    exact bindN_pure h
end
section
variable {X : Cx} {W : SX}
theorem PG.of {e : Expr} {t t' : TG} (h : PG X e t') (k : ∀ v σ H Q, t v σ H Q → t' v σ H Q) : PG X e t := ⟨fun pins s σ H v u Q I r q => h.run pins s σ H v u Q I r (k v σ H Q q)⟩
theorem pg_var {i : Nat} {e : Expr} (h : PG X e (gName i)) : PG X e (TGof X.K (.var i)) := by
  refine PG.of h fun v σ H Q q => ?_
  obtain ⟨ρ, μ, S, d, e, R, dd, q⟩ := q
  exact q.2 _ (e.set dd)
/-- several names, one after another -/
inductive PNames (X : Cx) : List Expr → List Nat → Prop
  | nil : PNames X [] []
  | cons {e : Expr} {es : List Expr} {i : Nat} {is : List Nat} : PG X e (gName i) → (assignEach (e :: es) X.env).map (·.2) = assign e X.env :: (assignEach es X.env).map (·.2) → PNames X es is → PNames X (e :: es) (i :: is)
def gNames : List Nat → TGs
  | [] => gNil
  | i :: is => gCons (gName i) (gNames is)
theorem PNames.pgs : ∀ {es : List Expr} {is : List Nat}, PNames X es is → PGs X es (gNames is)
  | _, _, .nil => pgs_nil
  | _, _, .cons h e k => pgs_cons h k.pgs e
theorem gNames_den {K : PySem.W.Frag} {H : Hp} {μ : List Addr} : ∀ {is : List Nat} {ds : List D} {vs : List V} {σ : L2.St} {ρ : Env} {Q : L2.St → Hp → Prop}, ds.length = is.length → DenL K H μ vs ds → EnvR K H μ σ ρ →
    (∀ σ', EnvR K H μ σ' ((is.zip ds).foldl (fun ρ p => ρ.set p.1 (some p.2)) ρ) → Q σ' H) → gNames is vs σ H Q
  | [], ds, _, σ, ρ, Q, hl, dl, e, h => by
    cases ds with
    | cons d ds => cases hl
    | nil =>
      cases dl
      exact ⟨rfl, h σ e⟩
  | i :: is, ds, _, σ, ρ, Q, hl, dl, e, h => by
    cases ds with
    | nil => cases hl
    | cons d ds =>
      cases dl with
      | cons h1 h2 => exact ⟨_, _, rfl, gNames_den (by simpa using hl) h2 (e.set h1) h⟩
theorem pg_tupN {es : List Expr} {k : Nat} {pos : Pos} {is : List Nat} (hc : X.calm = true) (h : PNames X es is) (hn : (assignEach es X.env).length = is.length) (hst : (assignEach es X.env).findIdx? (·.1) = none) :
    PG X (.Tuple es k pos) (TGof X.K (.tup is)) := by
  refine PG.of (pg_tup hc h.pgs hn hst) fun v σ H Q q => ?_
  obtain ⟨ρ, μ, S, d, e, R, dd, q⟩ := q
  cases d <;> try exact q.elim
  obtain ⟨hl, q⟩ := Wp.need.mp (Wp.bind.mp q)
  have q := Wp.pure.mp q
  cases dd with
  | @tup a vs _ h1 h2 => exact ⟨a, vs, rfl, h1, by rw [h2.length]; exact hl, gNames_den hl h2 e q.2⟩

/-! ### comprehensions -/
def slotsN : List Tg1 → List Nat
  | [] => []
  | .one i :: ts => i :: slotsN ts
  | .sub is :: ts => is ++ slotsN ts
def Tg.slots : Tg → List Nat
  | .var i => [i]
  | .tup is => is
  | .nest ts => slotsN ts
def gNest (K : PySem.W.Frag) : List Tg1 → TGs
  | [] => gNil
  | .one i :: ts => gCons (gName i) (gNest K ts)
  | .sub is :: ts => gCons (gTup K is.length (gNames is)) (gNest K ts)
def gOf (K : PySem.W.Frag) : Tg → TG
  | .var i => gName i
  | .tup is => gTup K is.length (gNames is)
  | .nest ts => gTup K ts.length (gNest K ts)
theorem wipe_at {σ : L2.St} {i : Nat} : ∀ {vs : List Nat}, (L2.wipe σ vs)[i]? = if i ∈ vs then (if i < σ.length then some none else none) else σ[i]?
  | [] => by simp [L2.wipe]
  | v :: vs => by
    have ih := wipe_at (σ := σ) (i := i) (vs := vs)
    show ((L2.wipe σ vs).set v none)[i]? = _
    by_cases e : v = i
    · subst e
      rw [if_pos List.mem_cons_self]
      by_cases hl : v < σ.length
      · rw [List.getElem?_set_self (by rw [L2.wipe_length]; exact hl), if_pos hl]
      · rw [List.getElem?_eq_none (by rw [List.length_set, L2.wipe_length]; omega), if_neg hl]
    · rw [List.getElem?_set_ne e, ih]
      have : (i ∈ v :: vs) ↔ i ∈ vs := by simp [Ne.symm e]
      simp only [this]
theorem wipe_set {σ : L2.St} {i : Nat} {x : Option V} {vs : List Nat} (h : i ∈ vs) : L2.wipe (σ.set i x) vs = L2.wipe σ vs := by
  apply List.ext_getElem?
  intro j
  rw [wipe_at, wipe_at, List.length_set]
  by_cases hj : j ∈ vs
  · rw [if_pos hj, if_pos hj]
  · rw [if_neg hj, if_neg hj, List.getElem?_set_ne (fun e => hj (by rw [← e]; exact h))]
theorem wipe_wipe {σ : L2.St} {vs : List Nat} : L2.wipe (L2.wipe σ vs) vs = L2.wipe σ vs := by
  apply List.ext_getElem?
  intro j
  rw [wipe_at, wipe_at, L2.wipe_length]
  by_cases hj : j ∈ vs
  · rw [if_pos hj, if_pos hj]
  · simp only [if_neg hj]
theorem gNames_own {K : PySem.W.Frag} {H : Hp} {μ : List Addr} {own : List Nat} : ∀ {is : List Nat} {ds : List D} {vs : List V} {σ : L2.St} {ρ : Env} {Q : L2.St → Hp → Prop}, (∀ i ∈ is, i ∈ own) → ds.length = is.length → DenL K H μ vs ds → EnvR K H μ σ ρ →
    (∀ σ', EnvR K H μ σ' ((is.zip ds).foldl (fun ρ p => ρ.set p.1 (some p.2)) ρ) → L2.wipe σ' own = L2.wipe σ own → Q σ' H) → gNames is vs σ H Q
  | [], ds, _, σ, ρ, Q, ho, hl, dl, e, h => by
    cases ds with
    | cons d ds => cases hl
    | nil =>
      cases dl
      exact ⟨rfl, h σ e rfl⟩
  | i :: is, ds, _, σ, ρ, Q, ho, hl, dl, e, h => by
    cases ds with
    | nil => cases hl
    | cons d ds =>
      cases dl with
      | cons h1 h2 => exact ⟨_, _, rfl, gNames_own (fun j hj => ho j (List.mem_cons_of_mem _ hj)) (by simpa using hl) h2 (e.set h1) fun σ' e' w => h σ' e' (w.trans (wipe_set (ho i List.mem_cons_self)))⟩
theorem bindN_len {S : Sto} {k : Env → Sto → Prop} {w : Exn → Sto → Prop} : ∀ {ts : List Tg1} {ds : List D} {ρ : Env}, Wp (bindN ts ds ρ) S k w → ds.length = ts.length
  | [], [], ρ, h => rfl
  | [], _ :: _, ρ, h => h.elim
  | .one i :: xs, [], ρ, h => h.elim
  | .one i :: xs, d :: ds, ρ, h => by simp [bindN_len (ts := xs) (ds := ds) (ρ := ρ.set i (some d)) h]
  | .sub is :: xs, [], ρ, h => h.elim
  | .sub is :: xs, .tup es :: ds, ρ, h => by
    have h : Wp (do need (es.length = is.length); bindN xs ds (setAll is es ρ)) S k w := h
    obtain ⟨z, h⟩ := Wp.need.mp (Wp.bind.mp h)
    simp [bindN_len (ts := xs) (ds := ds) h]
  | .sub is :: xs, .non :: ds, ρ, h => h.elim
  | .sub is :: xs, .bl _ :: ds, ρ, h => h.elim
  | .sub is :: xs, .int _ :: ds, ρ, h => h.elim
  | .sub is :: xs, .str _ :: ds, ρ, h => h.elim
  | .sub is :: xs, .ref _ :: ds, ρ, h => h.elim
  | .sub is :: xs, .fro _ :: ds, ρ, h => h.elim
theorem gNest_own {K : PySem.W.Frag} {H : Hp} {μ : List Addr} {S : Sto} {own : List Nat} {w : Exn → Sto → Prop} {k : Env → Sto → Prop} : ∀ {ts : List Tg1} {ds : List D} {vs : List V} {σ : L2.St} {ρ : Env} {Q : L2.St → Hp → Prop}, (∀ i ∈ slotsN ts, i ∈ own) → DenL K H μ vs ds → EnvR K H μ σ ρ → Wp (bindN ts ds ρ) S k w →
    (∀ σ' ρ', EnvR K H μ σ' ρ' → L2.wipe σ' own = L2.wipe σ own → k ρ' S → Q σ' H) → gNest K ts vs σ H Q
  | [], [], vs, σ, ρ, Q, ho, dl, e, h, q => by
    cases dl
    exact ⟨rfl, q σ ρ e rfl h⟩
  | [], _ :: _, vs, σ, ρ, Q, ho, dl, e, h, q => h.elim
  | .one i :: xs, [], vs, σ, ρ, Q, ho, dl, e, h, q => h.elim
  | .one i :: xs, d :: ds, vs, σ, ρ, Q, ho, dl, e, h, q => by
    cases dl with
    | cons h1 h2 => exact ⟨_, _, rfl, gNest_own (ts := xs) (fun j hj => ho j (List.mem_cons_of_mem _ hj)) h2 (e.set h1) h fun σ' ρ' e' w' hk => q σ' ρ' e' (w'.trans (wipe_set (ho i List.mem_cons_self))) hk⟩
  | .sub is :: xs, [], vs, σ, ρ, Q, ho, dl, e, h, q => h.elim
  | .sub is :: xs, .tup es :: ds, vs, σ, ρ, Q, ho, dl, e, h, q => by
    have h : Wp (do need (es.length = is.length); bindN xs ds (setAll is es ρ)) S k w := h
    obtain ⟨z, h⟩ := Wp.need.mp (Wp.bind.mp h)
    cases dl with
    | cons h1 h2 =>
      cases h1 with
      | @tup a us _ t1 t2 =>
        exact ⟨_, _, rfl, a, us, rfl, t1, by rw [t2.length]; exact z, gNames_own (fun j hj => ho j (List.mem_append_left _ hj)) z t2 e fun σ1 e1 w1 =>
          gNest_own (ts := xs) (fun j hj => ho j (List.mem_append_right _ hj)) h2 e1 h fun σ' ρ' e' w' hk => q σ' ρ' e' (w'.trans w1) hk⟩
  | .sub is :: xs, .non :: ds, vs, σ, ρ, Q, ho, dl, e, h, q => h.elim
  | .sub is :: xs, .bl _ :: ds, vs, σ, ρ, Q, ho, dl, e, h, q => h.elim
  | .sub is :: xs, .int _ :: ds, vs, σ, ρ, Q, ho, dl, e, h, q => h.elim
  | .sub is :: xs, .str _ :: ds, vs, σ, ρ, Q, ho, dl, e, h, q => h.elim
  | .sub is :: xs, .ref _ :: ds, vs, σ, ρ, Q, ho, dl, e, h, q => h.elim
  | .sub is :: xs, .fro _ :: ds, vs, σ, ρ, Q, ho, dl, e, h, q => h.elim
theorem gOf_own {K : PySem.W.Frag} {H : Hp} {μ : List Addr} {S : Sto} {own : List Nat} {t : Tg} {d : D} {v : V} {σ : L2.St} {ρ : Env} {k : Env → Sto → Prop} {w : Exn → Sto → Prop} {Q : L2.St → Hp → Prop} (ho : ∀ i ∈ t.slots, i ∈ own)
    (e : EnvR K H μ σ ρ) (dd : Den K H μ v d) (h : Wp (bindT t d ρ) S k w) (q : ∀ σ' ρ', EnvR K H μ σ' ρ' → L2.wipe σ' own = L2.wipe σ own → k ρ' S → Q σ' H) : gOf K t v σ H Q := by
  cases t with
  | var i => exact q _ _ (e.set dd) (wipe_set (ho i List.mem_cons_self)) h
  | tup is =>
    cases d <;> try exact h.elim
    obtain ⟨hl, h⟩ := Wp.need.mp (Wp.bind.mp h)
    have h := Wp.pure.mp h
    cases dd with
    | @tup a vs _ h1 h2 => exact ⟨a, vs, rfl, h1, by rw [h2.length]; exact hl, gNames_own ho hl h2 e fun σ' e' w => q σ' _ e' w h⟩
  | nest ts =>
    cases d <;> try exact h.elim
    cases dd with
    | @tup a vs _ h1 h2 => exact ⟨a, vs, rfl, h1, by rw [h2.length]; exact bindN_len h, gNest_own ho h2 e h q⟩
theorem tLc_of {wi : TI} {own : List Nat} {fi : Env → M Src} {t : Tg} {fc : Env → M Bool} {fe : Env → M D} {tt : TT} {te : TE} {σ : L2.St} {H : Hp} {Q : VK} (ho : ∀ i ∈ t.slots, i ∈ own)
    (ht : ∀ σ H Q, TTof X.K Z0 fc σ H Q → tt σ H Q) (he : ∀ σ H Q, TEof X.K Z0 fe σ H Q → te σ H Q) (hi : ∀ σ H R, TIof X.K W fi σ H R → wi σ H R)
    (h : TEof X.K W (fun ρ => do let s ← fi ρ; need (s.its.length ≤ sizeLine); let ys ← compL s.ok t (wipeE ρ own) (fun ρ => noX (fc ρ)) (fun ρ => noX (fe ρ)) s.its []; newO (.lst ys)) σ H Q) : tLc wi (gOf X.K t) tt te own σ H Q := by
  refine hi σ H _ ?_
  obtain ⟨ρ, μ0, S0, e0, R0, h⟩ := h
  refine ⟨ρ, μ0, S0, e0, R0, (Wp.bind.mp h).mono (fun s S1 h1 => ?_) fun _ _ z => z⟩
  intro J H1 μ1 st1 R1 io D hD
  obtain ⟨hz, h1⟩ := Wp.need.mp (Wp.bind.mp h1)
  have h1 := Wp.bind.mp h1
  have e1 := e0.mono R0 st1
  let Pv : Nat → Hp → Prop := fun i H2 => ∃ (μ2 : List Addr) (S2 : Sto) (ds : List Rv.D) (vs : List V), i ≤ s.its.length ∧ Step H1 μ1 H2 μ2 ∧ Rel X.K H2 μ2 S2 ∧ H2 D = some (.lst vs) ∧ DenL X.K H2 μ2 vs ds ∧ D ∉ μ2 ∧ ds.length ≤ i ∧
    Wp (compL s.ok t (wipeE ρ own) (fun ρ => noX (fc ρ)) (fun ρ => noX (fe ρ)) (s.its.drop i) ds) S2 (fun ys S' => Wp (newO (.lst ys)) S' (After X.K H μ0 fun _ v H' _ _ => Q v H') (AfterX X.K (W σ) H μ0)) (AfterX X.K (W σ) H μ0)
  refine ⟨fun i m H2 => m = s.its.length - i ∧ Pv i H2, ⟨s.its.length, rfl, μ1, S1, [], [], Nat.zero_le _, Step.aside hD, R1.aside hD, upd_same, .nil, R1.new hD, Nat.le_refl _, h1⟩, ?_⟩
  rintro i m H2 ⟨rfl, μ2, S2, ds, vs, hle, st2, R2, hD2, dl, hn, hdi, h2⟩
  by_cases hi : i < s.its.length
  · have hdr : s.its.drop i = s.its[i] :: s.its.drop (i + 1) := List.drop_eq_getElem_cons hi
    rw [hdr] at h2
    obtain ⟨ok, h2⟩ := Wp.chk.mp (Wp.bind.mp h2)
    have h2 := Wp.bind.mp h2
    refine .inr ⟨io.go H2 μ2 S2 i st2 R2 ok hi, Pv (i + 1), fun H' p => ⟨s.its.length - (i + 1), by omega, rfl, p⟩, fun x H3 y => ?_⟩
    obtain ⟨d, ed, st3, R3, dd⟩ := io.yld H2 μ2 S2 i x H3 st2 R2 ok hi y
    rw [List.getElem?_eq_getElem hi] at ed
    cases ed
    obtain ⟨hD3, hn3⟩ := st3.out hD2 hn
    have e3 : EnvR X.K H3 μ2 (L2.wipe σ own) (wipeE ρ own) := ((e1.mono R1 st2).mono R2 st3).wipe own
    refine gOf_own ho e3 dd h2 fun σ' ρ' e4 hw h2 => ⟨by rw [hw, wipe_wipe], ht _ _ _ ⟨ρ', μ2, S2, e4, R3, (Wp.noX.mp (Wp.bind.mp h2)).mono (fun b S4 h4 => ?_) fun _ _ z => z.elim⟩⟩
    intro H4 μ4 st4 R4
    obtain ⟨hD4, hn4⟩ := st4.out hD3 hn3
    have dl3 := DenL.mono R2 st3 _ _ dl
    have dl4 := DenL.mono R3 st4 _ _ dl3
    have st24 : Step H1 μ1 H4 μ4 := st2.trans (st3.trans st4)
    cases b with
    | false =>
      rw [if_neg Bool.false_ne_true]
      rw [if_neg Bool.false_ne_true] at h4
      exact ⟨μ4, S4, ds, vs, hi, st24, R4, hD4, dl4, hn4, by omega, h4⟩
    | true =>
      rw [if_pos rfl]
      rw [if_pos rfl] at h4
      refine he _ _ _ ⟨ρ', μ4, S4, e4.mono R3 st4, R4, (Wp.noX.mp (Wp.bind.mp h4)).mono (fun yv S5 h5 => ?_) fun _ _ z => z.elim⟩
      intro yy H5 μ5 st5 R5 dy
      obtain ⟨hD5, hn5⟩ := st5.out hD4 hn4
      have dl5 := DenL.mono R4 st5 _ _ dl4
      refine ⟨vs, hD5, by rw [dl.length]; omega, μ5, S5, ds ++ [yv], vs ++ [yy], hi, (st24.trans st5).grown hD, R5.grown hD5 hn5, upd_same, (dl5.grown hD5).append (.one (dy.grown hD5)), hn5, ?_, h5⟩
      rw [List.length_append, List.length_singleton]
      omega
  · have hi' : i = s.its.length := by omega
    subst hi'
    rw [List.drop_length] at h2
    obtain ⟨ok, h2⟩ := Wp.chk.mp (Wp.bind.mp h2)
    have h2 := Wp.pure.mp h2
    have h2 := Wp.newO.mp h2
    refine .inl ⟨io.stop H2 μ2 S2 st2 R2 ok, h2 (.ref D) H2 (μ2 ++ [D]) ((st1.trans st2).join ?_) (R2.join hD2 hn dl) (.ref ?_)⟩
    · cases q : H D with
      | none => rfl
      | some u =>
        by_cases hm : D ∈ μ0
        · exact absurd (by obtain ⟨ν, e, _⟩ := (st1.trans st2).ext; rw [e]; exact List.mem_append_left _ hm) hn
        · have := st1.keep D u q hm
          rw [hD] at this
          cases this
    · rw [← R2.len, List.getElem?_append_right (Nat.le_refl _)]
      simp
end
end Rv
set_option Elab.async false
set_option linter.all false
set_option maxRecDepth 100000
set_option maxHeartbeats 4000000
namespace Rv
open PySem PySem.Spec PyProof.Rows L2
section
variable {X : Cx} {W : SX} {D : Ends} {σ : L2.St} {H : Hp}
/-! ### loops -/
theorem tFor_of {W : WX} {wi : TI} {g : TG} {tb : TS} {fi : Env → M Src} {t : Tg} {fb : Env → M Flow} (hg : ∀ v σ H Q, TGof X.K t v σ H Q → g v σ H Q) (hb : ∀ D σ H, TSof X.K (kW W) fb D σ H → tb D σ H) (hi : ∀ σ H R, TIof X.K (kW W) fi σ H R → wi σ H R)
    (h : TSof X.K (kW W) (fun ρ => do let s ← fi ρ; forL s.ok t fb s.its ρ) D σ H) : tFor wi g tb D σ H := by
  refine hi σ H _ ?_
  obtain ⟨ρ, μ0, S0, e0, R0, h⟩ := h
  refine ⟨ρ, μ0, S0, e0, R0, (Wp.bind.mp h).mono (fun s S1 h1 => ?_) fun _ _ z => z⟩
  intro J H1 μ1 st1 R1 io
  let Pv : Nat → L2.St → Hp → Prop := fun i σ2 H2 => ∃ (ρ2 : Env) (μ2 : List Addr) (S2 : Sto), i ≤ s.its.length ∧ Step H1 μ1 H2 μ2 ∧ EnvR X.K H2 μ2 σ2 ρ2 ∧ Rel X.K H2 μ2 S2 ∧
    Wp (forL s.ok t fb (s.its.drop i) ρ2) S2 (Ends.post X.K D H μ0) (AfterX X.K W H μ0)
  refine ⟨fun i m σ2 H2 => m = s.its.length - i ∧ Pv i σ2 H2, ⟨s.its.length, rfl, ρ, μ1, S1, Nat.zero_le _, Step.refl _ _, e0.mono R0 st1, R1, h1⟩, ?_⟩
  rintro i m σ2 H2 ⟨rfl, ρ2, μ2, S2, hle, st2, e2, R2, h2⟩
  by_cases hi : i < s.its.length
  · rw [List.drop_eq_getElem_cons hi] at h2
    obtain ⟨ok, h2⟩ := Wp.chk.mp (Wp.bind.mp h2)
    have h2 := Wp.bind.mp h2
    refine .inr ⟨io.go H2 μ2 S2 i st2 R2 ok hi, Pv (i + 1), fun σ' H' p => ⟨s.its.length - (i + 1), by omega, rfl, p⟩, fun x H3 y => ?_⟩
    obtain ⟨d, ed, st3, R3, dd⟩ := io.yld H2 μ2 S2 i x H3 st2 R2 ok hi y
    rw [List.getElem?_eq_getElem hi] at ed
    cases ed
    refine hg _ _ _ _ ⟨ρ2, μ2, S2, _, e2.mono R2 st3, R3, dd, (bind_pure h2).mono (fun ρ' S3 ⟨es, h3⟩ => ⟨es, fun σ' e4 => ?_⟩) fun _ _ z => z⟩
    subst es
    have st13 : Step H μ0 H3 μ2 := st1.trans (st2.trans st3)
    refine hb _ _ _ ⟨ρ', μ2, S3, e4, R3, (Wp.bind.mp h3).mono (fun f S4 h4 => ?_) fun c S' z => z.on st13⟩
    intro H5 μ5 st5 R5
    cases f with
    | next ρ5 => exact fun σ5 e5 => ⟨ρ5, μ5, S4, hi, st2.trans (st3.trans st5), e5, R5, h4⟩
    | cont ρ5 => exact fun σ5 e5 => ⟨ρ5, μ5, S4, hi, st2.trans (st3.trans st5), e5, R5, h4⟩
    | brk ρ5 => exact Wp.pure.mp h4 H5 μ5 (st13.trans st5) R5
    | ret v => exact Wp.pure.mp h4 H5 μ5 (st13.trans st5) R5
  · have hi' : i = s.its.length := by omega
    subst hi'
    rw [List.drop_length] at h2
    obtain ⟨ok, h2⟩ := Wp.chk.mp (Wp.bind.mp h2)
    exact .inl ⟨io.stop H2 μ2 S2 st2 R2 ok, Wp.pure.mp h2 H2 μ2 (st1.trans st2) R2 σ2 e2⟩
theorem tWhile_of {W : WX} {tc : TT} {tb : TS} {fc : Env → M Bool} {fb : Env → M Flow} {n : Nat} (hc : ∀ σ H Q, TTof X.K (kW W) fc σ H Q → tc σ H Q) (hb : ∀ D σ H, TSof X.K (kW W) fb D σ H → tb D σ H)
    (h : TSof X.K (kW W) (whileL fc fb n) D σ H) : tWhile tc tb D σ H := by
  obtain ⟨ρ, μ0, S0, e0, R0, h⟩ := h
  let Pv : Nat → L2.St → Hp → Prop := fun m σ2 H2 => ∃ (ρ2 : Env) (μ2 : List Addr) (S2 : Sto), Step H μ0 H2 μ2 ∧ EnvR X.K H2 μ2 σ2 ρ2 ∧ Rel X.K H2 μ2 S2 ∧ Wp (whileL fc fb m ρ2) S2 (Ends.post X.K D H μ0) (AfterX X.K W H μ0)
  refine ⟨Pv, ⟨n, ρ, μ0, S0, Step.refl _ _, e0, R0, h⟩, ?_⟩
  rintro m σ2 H2 ⟨ρ2, μ2, S2, st2, e2, R2, h2⟩
  cases m with
  | zero => exact h2.elim
  | succ m =>
    refine hc _ _ _ ⟨ρ2, μ2, S2, e2, R2, (Wp.bind.mp h2).mono (fun b S3 h3 => ?_) fun c S' z => z.on st2⟩
    intro H3 μ3 st3 R3
    have st13 := st2.trans st3
    have e3 := e2.mono R2 st3
    cases b with
    | false =>
      rw [if_neg Bool.false_ne_true] at h3 ⊢
      exact Wp.pure.mp h3 H3 μ3 st13 R3 σ2 e3
    | true =>
      rw [if_pos rfl] at h3 ⊢
      refine ⟨Pv m, fun σ' H' p => ⟨m, Nat.lt_succ_self m, p⟩, hb _ _ _ ⟨ρ2, μ3, S3, e3, R3, (Wp.bind.mp h3).mono (fun f S4 h4 => ?_) fun c S' z => z.on st13⟩⟩
      intro H5 μ5 st5 R5
      cases f with
      | next ρ5 => exact fun σ5 e5 => ⟨ρ5, μ5, S4, st13.trans st5, e5, R5, h4⟩
      | cont ρ5 => exact fun σ5 e5 => ⟨ρ5, μ5, S4, st13.trans st5, e5, R5, h4⟩
      | brk ρ5 => exact Wp.pure.mp h4 H5 μ5 (st13.trans st5) R5
      | ret v => exact Wp.pure.mp h4 H5 μ5 (st13.trans st5) R5
/-! ### small statements -/
theorem tSeq_of {W : WX} {t u : TS} {f g : Env → M Flow} (ht : ∀ D σ H, TSof X.K (kW W) f D σ H → t D σ H) (hu : ∀ D σ H, TSof X.K (kW W) g D σ H → u D σ H)
    (h : TSof X.K (kW W) (fun ρ => do let r ← f ρ; match r with | .next ρ' => g ρ' | .ret d => pure (.ret d) | .brk ρ' => pure (.brk ρ') | .cont ρ' => pure (.cont ρ')) D σ H) : tSeq t u D σ H := by
  obtain ⟨ρ, μ0, S0, e0, R0, h⟩ := h
  refine ht _ _ _ ⟨ρ, μ0, S0, e0, R0, (Wp.bind.mp h).mono (fun r S1 h1 => ?_) fun _ _ z => z⟩
  intro H1 μ1 st1 R1
  cases r with
  | next ρ' => exact fun σ' e' => hu _ _ _ ⟨ρ', μ1, S1, e', R1, h1.mono (fun f S2 h2 => Ends.post.on st1 h2) fun c S' z => z.on st1⟩
  | ret d => exact Wp.pure.mp h1 H1 μ1 st1 R1
  | brk ρ' => exact Wp.pure.mp h1 H1 μ1 st1 R1
  | cont ρ' => exact Wp.pure.mp h1 H1 μ1 st1 R1
theorem tIfS_of {tc : TT} {t u : TS} {c : Env → M Bool} {f g : Env → M Flow} (hc : ∀ σ H Q, TTof X.K W c σ H Q → tc σ H Q) (ht : ∀ D σ H, TSof X.K W f D σ H → t D σ H) (hu : ∀ D σ H, TSof X.K W g D σ H → u D σ H)
    (h : TSof X.K W (fun ρ => do let k ← c ρ; if k then f ρ else g ρ) D σ H) : tIfS tc t u D σ H := by
  obtain ⟨ρ, μ0, S0, e0, R0, h⟩ := h
  refine hc _ _ _ ⟨ρ, μ0, S0, e0, R0, (Wp.bind.mp h).mono (fun b S1 h1 => ?_) fun _ _ z => z⟩
  intro H1 μ1 st1 R1
  have e1 := e0.mono R0 st1
  cases b with
  | true =>
    rw [if_pos rfl] at h1 ⊢
    exact ht _ _ _ ⟨ρ, μ1, S1, e1, R1, h1.mono (fun f S2 h2 => Ends.post.on st1 h2) fun c S' z => z.on st1⟩
  | false =>
    rw [if_neg Bool.false_ne_true] at h1 ⊢
    exact hu _ _ _ ⟨ρ, μ1, S1, e1, R1, h1.mono (fun f S2 h2 => Ends.post.on st1 h2) fun c S' z => z.on st1⟩
theorem tAsg_of {te : TE} {g : TG} {f : Env → M Rv.D} {t : Tg} (he : ∀ σ H Q, TEof X.K W f σ H Q → te σ H Q) (hg : ∀ v σ H Q, TGof X.K t v σ H Q → g v σ H Q)
    (h : TSof X.K W (fun ρ => do let d ← f ρ; let ρ' ← bindT t d ρ; pure (.next ρ')) D σ H) : tAsg te g D σ H := by
  obtain ⟨ρ, μ0, S0, e0, R0, h⟩ := h
  refine he _ _ _ ⟨ρ, μ0, S0, e0, R0, (Wp.bind.mp h).mono (fun d S1 h1 => ?_) fun _ _ z => z⟩
  intro v H1 μ1 st1 R1 dd
  refine hg _ _ _ _ ⟨ρ, μ1, S1, d, e0.mono R0 st1, R1, dd, (bind_pure (Wp.bind.mp h1)).mono (fun ρ' S2 ⟨es, h2⟩ => ⟨es, fun σ' e' => ?_⟩) fun _ _ z => z⟩
  subst es
  exact Wp.pure.mp h2 H1 μ1 st1 R1 σ' e'
theorem tDrop_of {te : TE} {f : Env → M Rv.D} (he : ∀ σ H Q, TEof X.K W f σ H Q → te σ H Q) (h : TSof X.K W (fun ρ => do let _ ← f ρ; pure (.next ρ)) D σ H) : tDrop te D σ H := by
  obtain ⟨ρ, μ0, S0, e0, R0, h⟩ := h
  refine he _ _ _ ⟨ρ, μ0, S0, e0, R0, (Wp.bind.mp h).mono (fun d S1 h1 => ?_) fun _ _ z => z⟩
  intro v H1 μ1 st1 R1 dd
  exact Wp.pure.mp h1 H1 μ1 st1 R1 σ (e0.mono R0 st1)
theorem tRet_of {te : TE} {f : Env → M Rv.D} (he : ∀ σ H Q, TEof X.K W f σ H Q → te σ H Q) (h : TSof X.K W (fun ρ => do let d ← f ρ; pure (.ret d)) D σ H) : tRet te D σ H := by
  obtain ⟨ρ, μ0, S0, e0, R0, h⟩ := h
  refine he _ _ _ ⟨ρ, μ0, S0, e0, R0, (Wp.bind.mp h).mono (fun d S1 h1 => ?_) fun _ _ z => z⟩
  intro v H1 μ1 st1 R1 dd
  exact Wp.pure.mp h1 H1 μ1 st1 R1 v dd
theorem ps_setI {o i e : Expr} {fo fi fe : Env → M Rv.D} {pos tpos : Pos} (ho : PE X o (TEof X.K W fo)) (hi : PE X i (TEof X.K W fi)) (he : PE X e (TEof X.K W fe)) (hs : swapsWithSole [.Subscript o i tpos] e pos.line X.env = pure false) (hw : swappedStores [.Subscript o i tpos] e X.env = pure none)
    (ha : ∀ v, assign (.Subscript o i tpos) X.env v = (do
      let ov ← holding [v] (eval o X.env)
      let iv ← holding [v, ov] (eval i X.env)
      standAt tpos
      holding [v, ov, iv] (setItem ov iv v)
      release [v, ov, iv] [])) : PS X (.Assign [.Subscript o i tpos] e pos) (TSof X.K W fun ρ => do let d ← fe ρ; let x ← fo ρ; let y ← fi ρ; setIdxD x y d; pure (.next ρ)) := by
  refine PS.of (ps_asg he (pg_sub ho hi op_set ha) hs hw) fun D σ H h => ?_
  obtain ⟨ρ, μ0, S0, e0, R0, h⟩ := h
  refine ⟨ρ, μ0, S0, e0, R0, (Wp.bind.mp h).mono (fun d S1 h1 => ?_) fun _ _ z => z⟩
  intro v H1 μ1 st1 R1 dd
  refine ⟨ρ, μ1, S1, e0.mono R0 st1, R1, (Wp.bind.mp h1).mono (fun x S2 h2 => ?_) fun c S' z => z.on st1⟩
  intro ov H2 μ2 st2 R2 dx
  have st12 := st1.trans st2
  refine ⟨ρ, μ2, S2, (e0.mono R0 st1).mono R1 st2, R2, (Wp.bind.mp h2).mono (fun y S3 h3 => ?_) fun c S' z => z.on st12⟩
  intro iv H3 μ3 st3 R3 dy
  have st13 := st12.trans st3
  refine ⟨W σ, μ3, S3, x, y, d, R3, Den.mono R2 st3 _ _ dx, dy, Den.mono R2 st3 _ _ (Den.mono R1 st2 _ _ dd), (Wp.bind.mp h3).mono (fun _ S4 h4 H4 μ4 st4 R4 => ?_) fun c S' z => z.on st13⟩
  exact Wp.pure.mp h4 H4 μ4 (st13.trans st4) R4 σ ((((e0.mono R0 st1).mono R1 st2).mono R2 st3).mono R3 st4)

/-! ### tests -/
abbrev testOf (f : Env → M Rv.D) : Env → M Bool := fun ρ => do let x ← f ρ; truth x
theorem Wp.truth {S : Sto} {d : Rv.D} {k : Bool → Sto → Prop} {w : Exn → Sto → Prop} (h : Wp (Rv.truth d) S k w) : ∃ b, d = .bl b ∧ k b S := by
  cases d <;> first | exact h.elim | exact ⟨_, rfl, h⟩
structure Snd (X : Cx) (W : SX) (e : Expr) (f : Env → M Rv.D) : Prop where
  pe : PE X e (TEof X.K W f)
  pt : PT X e (TTof X.K W (testOf f))
theorem tB_of {f : Env → M Rv.D} {Q : Bool → Hp → Prop} (h : TTof X.K W (testOf f) σ H Q) : tB (TEof X.K W f) σ H Q := by
  obtain ⟨ρ, μ0, S0, e0, R0, h⟩ := h
  refine ⟨ρ, μ0, S0, e0, R0, (Wp.bind.mp h).mono (fun d S1 h1 => ?_) fun _ _ z => z⟩
  intro v H1 μ1 st1 R1 dd
  obtain ⟨b, rfl, h2⟩ := Wp.truth h1
  cases dd
  exact ⟨b, rfl, h2 H1 μ1 st1 R1⟩
/-- an expression whose test is its value's truth -/
theorem Snd.plain {e : Expr} {f : Env → M Rv.D} (h : PE X e (TEof X.K W f)) (he : ∀ whole, PySem.isTrue e X.env whole = (do let v ← whole; standAt e.pos; holding [v] (truthy v))) : Snd X W e f :=
  ⟨h, PT.of (pt_val h he) fun _ _ _ q => tB_of q⟩
theorem Snd.not {a : Expr} {f : Env → M Rv.D} {pos : Pos} (h : Snd X W a f) : Snd X W (.UnaryOp .Not a pos) (fun ρ => do let x ← f ρ; let k ← truth x; pure (.bl (!k))) := by
  refine ⟨PE.of (pe_not h.pe) fun σ H Q q => ?_, PT.of (pt_not h.pt) fun σ H Q q => ?_⟩
  · obtain ⟨ρ, μ0, S0, e0, R0, q⟩ := q
    refine ⟨ρ, μ0, S0, e0, R0, (Wp.bind.mp q).mono (fun d S1 h1 => ?_) fun _ _ z => z⟩
    intro v H1 μ1 st1 R1 dd
    obtain ⟨b, rfl, h2⟩ := Wp.truth (Wp.bind.mp h1)
    cases dd
    exact ⟨b, rfl, Wp.pure.mp h2 _ H1 μ1 st1 R1 (.bl _)⟩
  · obtain ⟨ρ, μ0, S0, e0, R0, q⟩ := q
    refine ⟨ρ, μ0, S0, e0, R0, Wp.bind.mpr ((Wp.bind.mp (Wp.bind.mp q)).mono (fun d S1 h1 => ?_) fun _ _ z => z)⟩
    refine (Wp.bind.mp h1).mono (fun b S2 h2 => ?_) fun _ _ z => z
    have h3 := Wp.pure.mp h2
    intro H1 μ1 st1 R1
    obtain ⟨c, e, h4⟩ := Wp.truth h3
    cases e
    exact h4 H1 μ1 st1 R1
theorem Snd.cmp {op : CmpK} {a b : Expr} {f g : Env → M Rv.D} {pos : Pos} (hu : X.A.units + 65 < cLine) (ha : PE X a (TEof X.K W f)) (hb : PE X b (TEof X.K W g)) (hm : behindInMarks op.op b = false) :
    Snd X W (.Compare a [op.op] [b] pos) (fun ρ => do let x ← f ρ; let y ← g ρ; let k ← cmpD op x y; pure (.bl k)) := by
  refine ⟨PE.of (pe_cmpR (op_cmp hu op) ha hb hm) fun σ H Q q => TEof.two q, PT.of (pt_cmpR (op_cmp hu op) ha hb hm) fun σ H Q q => ?_⟩
  exact TEof.two (K := X.K) (W := W) (g := cmpV op) (Q := fun x H' => ∃ k, x = .bl k ∧ Q k H') (by
    obtain ⟨ρ, μ0, S0, e0, R0, q⟩ := q
    refine ⟨ρ, μ0, S0, e0, R0, (Wp.bind.mp q).mono (fun d S1 h1 v H1 μ1 st1 R1 dd => ?_) fun _ _ z => z⟩
    obtain ⟨b, rfl, h2⟩ := Wp.truth h1
    cases dd
    exact ⟨b, rfl, h2 H1 μ1 st1 R1⟩)
theorem tTest_of {t : TE} {f : Env → M Rv.D} (ht : ∀ σ H Q, TEof X.K W f σ H Q → t σ H Q) {Q : Bool → Hp → Prop} (h : TTof X.K W (testOf f) σ H Q) : tTest t σ H Q := by
  refine ht _ _ _ ?_
  obtain ⟨ρ, μ0, S0, e0, R0, h⟩ := h
  refine ⟨ρ, μ0, S0, e0, R0, (Wp.bind.mp h).mono (fun d S1 h1 v H1 μ1 st1 R1 dd => ?_) fun _ _ z => z⟩
  obtain ⟨b, rfl, h2⟩ := Wp.truth h1
  cases dd
  exact ⟨b, rfl, h2 H1 μ1 st1 R1⟩
theorem Snd.chain {op op' : CmpK} {a b c : Expr} {f g h : Env → M Rv.D} {pos : Pos} (hu : X.A.units + 65 < cLine) (ha : PE X a (TEof X.K W f)) (hb : PE X b (TEof X.K W g)) (hc : PE X c (TEof X.K W h))
    (hm : (match op' with | .isin => true | .notin => true | _ => false) = false) :
    Snd X W (.Compare a [op.op, op'.op] [b, c] pos) (fun ρ => do let x ← f ρ; let y ← g ρ; let k ← cmpD op x y; if k then do { let z ← h ρ; let k' ← cmpD op' y z; pure (.bl k') } else pure (.bl false)) := by
  have key : ∀ σ H Q, TEof X.K W (fun ρ => do let x ← f ρ; let y ← g ρ; let k ← cmpD op x y; if k then do { let z ← h ρ; let k' ← cmpD op' y z; pure (.bl k') } else pure (.bl false)) σ H Q →
      tChain (R2of X.K (cmpV op)) (R2of X.K (cmpV op')) (TEof X.K W f) (TEof X.K W g) (TEof X.K W h) σ H Q := fun σ H Q q => by
    obtain ⟨ρ, μ0, S0, e0, R0, q⟩ := q
    refine ⟨ρ, μ0, S0, e0, R0, (Wp.bind.mp q).mono (fun x S1 h1 v H1 μ1 st1 R1 dx => ?_) fun _ _ z => z⟩
    refine ⟨ρ, μ1, S1, e0.mono R0 st1, R1, (Wp.bind.mp h1).mono (fun y S2 h2 u H2 μ2 st2 R2 dy => ?_) fun _ _ z => z.on st1⟩
    have st12 := st1.trans st2
    have e2 := (e0.mono R0 st1).mono R1 st2
    refine ⟨W σ, μ2, S2, x, y, R2, Den.mono R1 st2 _ _ dx, dy, Wp.bind.mpr ((Wp.bind.mp h2).mono (fun k S3 h3 => Wp.pure.mpr ?_) fun c S' z => z.on st12)⟩
    intro v3 H3 μ3 st3 R3 d3
    have st13 := st12.trans st3
    cases d3
    refine ⟨k, rfl, ?_⟩
    cases k with
    | false =>
      rw [if_neg Bool.false_ne_true] at h3 ⊢
      exact Wp.pure.mp h3 _ H3 μ3 st13 R3 (.bl _)
    | true =>
      rw [if_pos rfl] at h3 ⊢
      refine ⟨ρ, μ3, S3, e2.mono R2 st3, R3, (Wp.bind.mp h3).mono (fun z S4 h4 w H4 μ4 st4 R4 dz => ?_) fun _ _ z => z.on st13⟩
      have st14 := st13.trans st4
      exact ⟨W σ, μ4, S4, y, z, R4, Den.mono R3 st4 _ _ (Den.mono R2 st3 _ _ dy), dz, h4.mono (fun d S' h5 v H' μ' s R d => h5 v H' μ' (st14.trans s) R d) fun c S' z => z.on st14⟩
  have hm' : ∀ b, behindInMarks op'.op b = false := fun b => by
    cases op' <;> first | exact nomark b | cases hm
  refine ⟨PE.of (pe_chain (op_cmp hu op) (op_cmp hu op') ha hb hc (hm' c)) key, PT.of (pt_chain (op_cmp hu op) (op_cmp hu op') ha hb hc (hm' c)) fun σ H Q q => ?_⟩
  exact tTest_of key q
/-! ### and, or, a if c else b -/
structure SndW (X : Cx) (W : SX) (e : Expr) (f : Env → M Rv.D) : Prop where
  pe : PE X e (TEof X.K W f)
  pw : PW X e (TTof X.K W (testOf f))
theorem SndW.snd {e : Expr} {f : Env → M Rv.D} (h : SndW X W e f) : Snd X W e f := ⟨h.pe, h.pw.pt⟩
theorem PW.of {e : Expr} {t t' : TT} (h : PW X e t') (k : ∀ σ H Q, t σ H Q → t' σ H Q) : PW X e t := ⟨fun wh pins s σ H Q I q => h.run wh pins s σ H Q I (k σ H Q q)⟩
theorem SndW.one_and {a : Expr} {f : Env → M Rv.D} {pos : Pos} (h : Snd X W a f) : SndW X W (.BoolOp .And [a] pos) f := ⟨pe_one h.pe, pw_and1 h.pt⟩
theorem SndW.one_or {a : Expr} {f : Env → M Rv.D} {pos : Pos} (h : Snd X W a f) : SndW X W (.BoolOp .Or [a] pos) f := ⟨pe_one h.pe, pw_or1 h.pt⟩
theorem SndW.and {a b : Expr} {r : List Expr} {f g : Env → M Rv.D} {pos : Pos} (h : Snd X W a f) (k : SndW X W (.BoolOp .And (b :: r) pos) g) :
    SndW X W (.BoolOp .And (a :: b :: r) pos) (fun ρ => do let x ← f ρ; let k ← truth x; if k then g ρ else pure (.bl false)) := by
  refine ⟨PE.of (pe_and h.pe k.pe) fun σ H Q q => ?_, PW.of (pw_and h.pt k.pw) fun σ H Q q => ?_⟩
  · obtain ⟨ρ, μ0, S0, e0, R0, q⟩ := q
    refine ⟨ρ, μ0, S0, e0, R0, (Wp.bind.mp q).mono (fun d S1 h1 v H1 μ1 st1 R1 dd => ?_) fun _ _ z => z⟩
    obtain ⟨b, rfl, h2⟩ := Wp.truth (Wp.bind.mp h1)
    cases dd
    refine ⟨b, rfl, ?_⟩
    cases b with
    | true =>
      rw [if_pos rfl] at h2 ⊢
      exact ⟨ρ, μ1, S1, e0.mono R0 st1, R1, h2.mono (fun d S' h3 v H' μ' s R d => h3 v H' μ' (st1.trans s) R d) fun c S' z => z.on st1⟩
    | false =>
      rw [if_neg Bool.false_ne_true] at h2 ⊢
      exact Wp.pure.mp h2 _ H1 μ1 st1 R1 (.bl _)
  · obtain ⟨ρ, μ0, S0, e0, R0, q⟩ := q
    refine ⟨ρ, μ0, S0, e0, R0, Wp.bind.mpr ((Wp.bind.mp (Wp.bind.mp q)).mono (fun d S1 h1 => (Wp.bind.mp h1).mono (fun b S2 h2 H1 μ1 st1 R1 => ?_) fun _ _ z => z) fun _ _ z => z)⟩
    cases b with
    | true =>
      rw [if_pos rfl] at h2 ⊢
      exact ⟨ρ, μ1, S2, e0.mono R0 st1, R1, Wp.bind.mpr (h2.mono (fun d S' h3 => h3.mono (fun b S'' h4 H' μ' s R => h4 H' μ' (st1.trans s) R) fun c S' z => z.on st1) fun c S' z => z.on st1)⟩
    | false =>
      rw [if_neg Bool.false_ne_true] at h2 ⊢
      obtain ⟨c, e, h4⟩ := Wp.truth (Wp.pure.mp h2)
      cases e
      exact h4 H1 μ1 st1 R1
theorem SndW.or {a b : Expr} {r : List Expr} {f g : Env → M Rv.D} {pos : Pos} (h : Snd X W a f) (k : SndW X W (.BoolOp .Or (b :: r) pos) g) :
    SndW X W (.BoolOp .Or (a :: b :: r) pos) (fun ρ => do let x ← f ρ; let k ← truth x; if k then pure (.bl true) else g ρ) := by
  refine ⟨PE.of (pe_or h.pe k.pe) fun σ H Q q => ?_, PW.of (pw_or h.pt k.pw) fun σ H Q q => ?_⟩
  · obtain ⟨ρ, μ0, S0, e0, R0, q⟩ := q
    refine ⟨ρ, μ0, S0, e0, R0, (Wp.bind.mp q).mono (fun d S1 h1 v H1 μ1 st1 R1 dd => ?_) fun _ _ z => z⟩
    obtain ⟨b, rfl, h2⟩ := Wp.truth (Wp.bind.mp h1)
    cases dd
    refine ⟨b, rfl, ?_⟩
    cases b with
    | false =>
      rw [if_neg Bool.false_ne_true] at h2 ⊢
      exact ⟨ρ, μ1, S1, e0.mono R0 st1, R1, h2.mono (fun d S' h3 v H' μ' s R d => h3 v H' μ' (st1.trans s) R d) fun c S' z => z.on st1⟩
    | true =>
      rw [if_pos rfl] at h2 ⊢
      exact Wp.pure.mp h2 _ H1 μ1 st1 R1 (.bl _)
  · obtain ⟨ρ, μ0, S0, e0, R0, q⟩ := q
    refine ⟨ρ, μ0, S0, e0, R0, Wp.bind.mpr ((Wp.bind.mp (Wp.bind.mp q)).mono (fun d S1 h1 => (Wp.bind.mp h1).mono (fun b S2 h2 H1 μ1 st1 R1 => ?_) fun _ _ z => z) fun _ _ z => z)⟩
    cases b with
    | false =>
      rw [if_neg Bool.false_ne_true] at h2 ⊢
      exact ⟨ρ, μ1, S2, e0.mono R0 st1, R1, Wp.bind.mpr (h2.mono (fun d S' h3 => h3.mono (fun b S'' h4 H' μ' s R => h4 H' μ' (st1.trans s) R) fun c S' z => z.on st1) fun c S' z => z.on st1)⟩
    | true =>
      rw [if_pos rfl] at h2 ⊢
      obtain ⟨c, e, h4⟩ := Wp.truth (Wp.pure.mp h2)
      cases e
      exact h4 H1 μ1 st1 R1
theorem pt_ifE {c a b : Expr} {pos : Pos} {tA tB tC : TT} (hc : PT X c tA) (ha : PT X a tB) (hb : PT X b tC) : PT X (.IfExp c a b pos) (fun σ H Q => tA σ H fun k H1 => if k = true then tB σ H1 Q else tC σ H1 Q) := by
  refine ⟨fun pins s σ H Q I h => ?_⟩
  have e : PySem.isTrue (.IfExp c a b pos) X.env (eval (.IfExp c a b pos) X.env) = (do if ← PySem.isTrue c X.env (eval c X.env) then PySem.isTrue a X.env (eval a X.env) else PySem.isTrue b X.env (eval b X.env)) := by rw [PySem.isTrue]
  rw [e]
  refine wpAny_bind (thn (hc.run pins s σ H _ I h) fun d s1 ⟨H1, I1, q1⟩ => ?_)
  cases d with
  | true => exact ha.run pins s1 σ H1 Q I1 q1
  | false => exact hb.run pins s1 σ H1 Q I1 q1
theorem Snd.ite {c a b : Expr} {f g h : Env → M Rv.D} {pos : Pos} (hc : Snd X W c f) (ha : Snd X W a g) (hb : Snd X W b h) :
    Snd X W (.IfExp c a b pos) (fun ρ => do let x ← f ρ; let k ← truth x; if k then g ρ else h ρ) := by
  refine ⟨PE.of (pe_ifExp hc.pt ha.pe hb.pe) fun σ H Q q => ?_, PT.of (pt_ifE hc.pt ha.pt hb.pt) fun σ H Q q => ?_⟩
  · obtain ⟨ρ, μ0, S0, e0, R0, q⟩ := q
    refine ⟨ρ, μ0, S0, e0, R0, Wp.bind.mpr ((Wp.bind.mp q).mono (fun d S1 h1 => (Wp.bind.mp h1).mono (fun b S2 h2 H1 μ1 st1 R1 => ?_) fun _ _ z => z) fun _ _ z => z)⟩
    cases b with
    | true =>
      rw [if_pos rfl] at h2 ⊢
      exact ⟨ρ, μ1, S2, e0.mono R0 st1, R1, h2.mono (fun d S' h3 v H' μ' s R d => h3 v H' μ' (st1.trans s) R d) fun c S' z => z.on st1⟩
    | false =>
      rw [if_neg Bool.false_ne_true] at h2 ⊢
      exact ⟨ρ, μ1, S2, e0.mono R0 st1, R1, h2.mono (fun d S' h3 v H' μ' s R d => h3 v H' μ' (st1.trans s) R d) fun c S' z => z.on st1⟩
  · obtain ⟨ρ, μ0, S0, e0, R0, q⟩ := q
    refine ⟨ρ, μ0, S0, e0, R0, Wp.bind.mpr ((Wp.bind.mp (Wp.bind.mp q)).mono (fun d S1 h1 => (Wp.bind.mp h1).mono (fun b S2 h2 H1 μ1 st1 R1 => ?_) fun _ _ z => z) fun _ _ z => z)⟩
    cases b with
    | true =>
      rw [if_pos rfl] at h2 ⊢
      exact ⟨ρ, μ1, S2, e0.mono R0 st1, R1, Wp.bind.mpr (h2.mono (fun d S' h3 => h3.mono (fun b S'' h4 H' μ' s R => h4 H' μ' (st1.trans s) R) fun c S' z => z.on st1) fun c S' z => z.on st1)⟩
    | false =>
      rw [if_neg Bool.false_ne_true] at h2 ⊢
      exact ⟨ρ, μ1, S2, e0.mono R0 st1, R1, Wp.bind.mpr (h2.mono (fun d S' h3 => h3.mono (fun b S'' h4 H' μ' s R => h4 H' μ' (st1.trans s) R) fun c S' z => z.on st1) fun c S' z => z.on st1)⟩
end
end Rv
set_option Elab.async false
set_option linter.all false
set_option maxRecDepth 100000
set_option maxHeartbeats 4000000
namespace Rv
open PySem
/-! ### from the text to the inner language -/
/-- exs: the error classes by name: number; the field that its own __init__ sets and the text ahead of it; hot: within an except suite. The names of a def by their places; the program's defs by name: number and parameters; its constants by name; which calls by keywords alone: the def, the keywords as written, the parameters' places -/
structure Ctx where
  N : List Str
  fns : List (Str × Nat × List Str)
  globs : List (Str × Nat)
  kws : List (Str × List Str × List Nat)
  gcd : Bool
  exs : List (Str × Nat × Option (Str × Str)) := []
  hot : Bool := false
def findN : List Str → Str → Option Nat
  | [], _ => none
  | y :: r, x => if y = x then some 0 else (findN r x).map (· + 1)
theorem findN_get : ∀ {N : List Str} {x : Str} {i : Nat}, findN N x = some i → N[i]? = some x
  | [], _, _, h => by cases h
  | y :: r, x, i, h => by
    unfold findN at h
    by_cases e : y = x
    · rw [if_pos e] at h
      cases h
      simp [e]
    · rw [if_neg e] at h
      obtain ⟨j, h1, rfl⟩ := Option.map_eq_some_iff.mp h
      simpa using findN_get h1
def isVis : Option NameKind → Bool
  | some .local => true
  | some .cell => true
  | some .free => true
  | _ => false
def isCF : Option NameKind → Bool
  | some .cell => true
  | some .free => true
  | _ => false
def isLC : Option NameKind → Bool
  | some .local => true
  | some .cell => true
  | _ => false
def plainName (x : Str) : Bool := !(x == ("__debug__" : Str)) && !(x == ("__classdict__" : Str)) && !(x == ("__name__" : Str))
def binK : Operator → Option BinK
  | .Add => some .add | .Sub => some .sub | .Mult => some .mul | .FloorDiv => some .fdiv | .Mod => some .mod | .Pow => some .pow
  | _ => none
def cmpK : CmpOp → Option CmpK
  | .Eq => some .eq | .NotEq => some .ne | .Lt => some .lt | .LtE => some .le | .Gt => some .gt | .GtE => some .ge | .In => some .isin | .NotIn => some .notin
  | _ => none
def strS (s : String) : Str := s
/-- the built-in functions by their names -/
def biNames : List (Str × BiK) := [(strS "len", .len), (strS "repr", .repr), (strS "tuple", .tuple), (strS "list", .list), (strS "int", .int), (strS "str", .str), (strS "abs", .abs), (strS "max", .max), (strS "min", .min), (strS "sum", .sum), (strS "all", .all), (strS "any", .any)]
def tyNames : List (Str × TyK) := [(strS "int", .int), (strS "bool", .bool), (strS "str", .str), (strS "tuple", .tuple), (strS "list", .list)]
def methNames : List (Str × MethK) := [(strS "append", .append), (strS "pop", .pop), (strS "extend", .extend), (strS "upper", .upper), (strS "lower", .lower), (strS "isdigit", .isdigit), (strS "startswith", .startswith), (strS "endswith", .endswith), (strS "split", .split), (strS "join", .join), (strS "insert", .insert), (strS "index", .index), (strS "partition", .partition)]
def isGlob (sc : Scope) (x : Str) : Bool := sc.names.lookup x == some .globalImplicit
def ownOf (N : List Str) (csc : Scope) : List (Str × Nat) := csc.names.filterMap fun p => if isLC (some p.2) then (findN N p.1).map fun i => (p.1, i) else none
def cName (N : List Str) (sc : Scope) : Expr → Option Nat
  | .Name x _ => if isLC (sc.names.lookup x) then findN N x else none
  | _ => none
def cNames (N : List Str) (sc : Scope) : List Expr → Option (List Nat)
  | [] => some []
  | e :: es => match cName N sc e, cNames N sc es with
    | some i, some is => some (i :: is)
    | _, _ => none
def cTg1 (N : List Str) (sc : Scope) : Expr → Option Tg1
  | .Tuple es _ _ => (cNames N sc es).map .sub
  | e => (cName N sc e).map .one
def cNest (N : List Str) (sc : Scope) : List Expr → Option (List Tg1)
  | [] => some []
  | e :: es => match cTg1 N sc e, cNest N sc es with
    | some i, some is => some (i :: is)
    | _, _ => none
def cTgT (N : List Str) (sc : Scope) (es : List Expr) : Option Tg := match cNames N sc es with
  | some is => some (.tup is)
  | none => (cNest N sc es).map .nest
def cTg (N : List Str) (sc : Scope) : Expr → Option Tg
  | .Tuple es _ _ => cTgT N sc es
  | e => (cName N sc e).map .var
def simpleC : Const → Option D
  | .none => some .non
  | .bool b => some (.bl b)
  | .int i => some (.int i)
  | .str x => some (.str x)
  | _ => none
def isSlice : Expr → Bool
  | .Slice .. => true
  | _ => false
def nilS : Es → Bool
  | .nil => true
  | _ => false
def Es.one : Es → Option E
  | .cons e .nil => some e
  | _ => none
/-- the keywords' names -/
def kwNames : List Keyword → Option (List Str)
  | [] => some []
  | ⟨some x, _, _⟩ :: r => (kwNames r).map (x :: ·)
  | _ => none
def eachE (f : Expr → Option E) : List Expr → Option Es
  | [] => some .nil
  | e :: es => match f e, eachE f es with
    | some x, some xs => some (.cons x xs)
    | _, _ => none
def optE (f : Expr → Option E) : Option Expr → Option Eo
  | none => some .none
  | some e => (f e).map .some
def kwE (f : Expr → Option E) : List Keyword → Option Es
  | [] => some .nil
  | ⟨_, e, _⟩ :: r => match f e, kwE f r with
    | some x, some xs => some (.cons x xs)
    | _, _ => none
/-- what is walked -/
def cIt (c : Ctx) (sc : Scope) (f : Expr → Option E) (tup : Bool) : Expr → Option Itx
  | .Call (.Name x p) args [] pos =>
    if isGlob sc x && x == strS "range" then match args with
      | [a] => (f a).map .rng1
      | [a, b] => match f a, f b with
        | some u, some v => some (.rng2 u v)
        | _, _ => none
      | _ => none
    else if isGlob sc x && x == strS "enumerate" then match args with
      | [a] => if tup then (f a).map .enum else none
      | _ => none
    else if isGlob sc x && x == strS "zip" then match args with
      | [a, b] => if tup then match f a, f b with
        | some u, some v => some (.zip u v)
        | _, _ => none
        else none
      | _ => none
    else (f (.Call (.Name x p) args [] pos)).map .of
  | e => (f e).map .of
def isTup : Expr → Bool
  | .Tuple .. => true
  | _ => false
def isNoneC : Expr → Bool
  | .Constant .none _ _ => true
  | _ => false
def isNeg1 : Expr → Bool
  | .UnaryOp .USub (.Constant (.int 1) _ _) _ => true
  | _ => false
def isInOp : CmpK → Bool
  | .isin => true
  | .notin => true
  | _ => false
def cCmp (f : Expr → Option E) (a : Expr) : List CmpOp → List Expr → Option E
  | [op], [b] => match isNoneC b, op with
    | true, .Is => (f a).map .isN
    | true, .IsNot => (f a).map .notN
    | _, _ => match cmpK op, f a, f b with
      | some k, some x, some y => some (.cmp k x y)
      | _, _, _ => none
  | [op, op'], [b, d] => match cmpK op, cmpK op', f a, f b, f d with
    | some k, some k', some x, some y, some z => if isInOp k' then none else some (.chain k k' x y z)
    | _, _, _, _, _ => none
  | _, _ => none
def cSub (f : Expr → Option E) (a : Expr) : Expr → Option E
  | .Slice lo hi none _ => match f a, optE f lo, optE f hi with
    | some x, some l, some h => some (.slice x l h)
    | _, _, _ => none
  | .Slice none none (some s) _ => if isNeg1 s then (f a).map .rev else none
  | .Slice _ _ _ _ => none
  | b => match f a, f b with
    | some x, some y => some (.idx x y)
    | _, _ => none
def cInst (c : Ctx) (sc : Scope) (f : Expr → Option E) : List Expr → Option E
  | [a, .Name t _] => if isGlob sc t && plainName t then match tyNames.lookup t, f a with
    | some k, some y => some (.inst y k)
    | none, some y => match c.exs.lookup t with
      | some (j, _) => some (.isX y j)
      | none => if t == strS "ValueError" then some (.isX y 0) else none
    | _, _ => none
    else none
  | _ => none
/-- an error is made -/
def cMkx (c : Ctx) (sc : Scope) (f : Expr → Option E) : Expr → Option (Nat × Option (Str × Str) × E)
  | .Call (.Name x _) [a] [] _ => if isGlob sc x && plainName x && !c.hot then match c.exs.lookup x, f a with
    | some (j, o), some y => some (j, o, y)
    | _, _ => none
    else none
  | _ => none
def cCallN (c : Ctx) (sc : Scope) (f : Expr → Option E) (x : Str) (args : List Expr) : Option E :=
  if x == strS "isinstance" then cInst c sc f args
  else match c.exs.lookup x with
  | some (j, o) => if c.hot then none else match args with
    | [a] => match o, f a with
      | none, some y => some (.mkx j y)
      | some (n, pre), some y => some (.mkk j n pre y)
      | _, none => none
    | _ => none
  | none => if x == strS "ValueError" then match args with
    | [a] => (f a).map (.mkx 0)
    | _ => none
    else match args, eachE f args with
    | [], _ => none
    | _ :: _, none => none
    | _ :: _, some ys => match c.fns.lookup x with
      | some (i, ps) => if args.length = ps.length && !c.hot then some (.call i ys) else none
      | none => if c.gcd && x == strS "gcd" then some (.bi .gcd ys) else match biNames.lookup x with
        | some k => if c.hot && !k.hotOk then none else some (.bi k ys)
        | none => none
def cCallK (c : Ctx) (f : Expr → Option E) (x : Str) (kws : List Keyword) : Option E :=
  match c.exs.lookup x with
  | some (j, some (n, pre)) => if c.hot then none else match kws with
    | [⟨some m, e, _⟩] => if m = n then (f e).map (.mkk j n pre) else none
    | _ => none
  | _ => match kwNames kws, kwE f kws, c.fns.lookup x with
    | some ks, some ys, some (i, _) => if c.hot then none else (c.kws.find? fun q => q.1 == x && decide (q.2.1 = ks)).map fun q => .callk i q.2.2 ys
    | _, _, _ => none
def cMeth (f : Expr → Option E) (o : Expr) (m : Str) (apos : Pos) (args : List Expr) (cpos : Pos) : Option E :=
  if apos.endLine == cpos.line && decide (args.length < 20) && !(m == strS "__class__") then match methNames.lookup m, f o, eachE f args with
    | some k, some y, some ys => some (.meth k y ys)
    | _, _, _ => none
  else none
def cCall (c : Ctx) (sc : Scope) (f : Expr → Option E) (fn : Expr) (args : List Expr) (kws : List Keyword) (cpos : Pos) : Option E :=
  match fn, kws with
    | .Name x _, [] => if isGlob sc x && plainName x then cCallN c sc f x args else none
    | .Name x _, k :: ks => match args with
      | [] => if isGlob sc x && plainName x then cCallK c f x (k :: ks) else none
      | _ => none
    | .Attribute o m apos, [] => cMeth f o m apos args cpos
    | _, _ => none
def cComp (c : Ctx) (sc : Scope) (f g : Expr → Option E) (elt tg iter : Expr) (ifs : List Expr) (csc : Scope) : Option E :=
  if L2.blkC c.N sc csc (ownOf c.N csc) && !c.hot then
    match cIt c sc f (isTup tg) iter, cTg c.N csc tg, g elt, (match ifs with | [] => some Eo.none | [t] => (g t).map .some | _ => none) with
      | some it, some t, some y, some cond => if t.slots.all (fun i => decide (i ∈ (ownOf c.N csc).map (·.2))) then some (.comp ((ownOf c.N csc).map (·.2)) y t it cond) else none
      | _, _, _, _ => none
  else none
/-- a piece of a text with places in it -/
def cPiece (f : Expr → Option E) : Expr → Option E
  | .FormattedValue e k none _ => if k = -1 then f e else none
  | .Constant (.str x) _ _ => some (.lit (.str x))
  | _ => none
def cE (c : Ctx) : Nat → Scope → Expr → Option E
  | 0, _, _ => none
  | n + 1, sc, e => match e with
    | .Name x _ => if plainName x then (if isVis (sc.names.lookup x) then (findN c.N x).map .var else if isGlob sc x then (c.globs.lookup x).map .glob else none) else none
    | .Constant k _ _ => (simpleC k).map .lit
    | .BinOp a op b _ => match binK op, cE c n sc a, cE c n sc b with
      | some k, some x, some y => some (.bin k x y)
      | _, _, _ => none
    | .UnaryOp op a _ => match op with
      | .Not => (cE c n sc a).map .not
      | .USub => (cE c n sc a).map .neg
      | _ => none
    | .BoolOp op es _ => match es with
      | [] => none
      | x :: r => match op with
        | .And => (eachE (cE c n sc) (x :: r)).map .and
        | .Or => (eachE (cE c n sc) (x :: r)).map .or
    | .Compare a ops cs _ => cCmp (cE c n sc) a ops cs
    | .IfExp t a b _ => match cE c n sc t, cE c n sc a, cE c n sc b with
      | some x, some y, some z => some (.ite x y z)
      | _, _, _ => none
    | .Tuple es _ _ => if es.length ≤ 1000 then (eachE (cE c n sc) es).map .tup else none
    | .List es _ => if es.length ≤ 1000 then (eachE (cE c n sc) es).map .list else none
    | .Dict ks vs _ => match ks, vs with
      | [], [] => some .dict0
      | _, _ => none
    | .Subscript a b _ => cSub (cE c n sc) a b
    | .Attribute a m _ => if m == strS "__class__" then none else (cE c n sc a).map fun y => .fld y m
    | .Call fn args kws cpos => cCall c sc (cE c n sc) fn args kws cpos
    | .ListComp elt gs csc _ => match gs with
      | [⟨tg, iter, ifs, 0⟩] => cComp c sc (cE c n sc) (cE c n csc) elt tg iter ifs csc
      | _ => none
    | .JoinedStr es _ => match es with
      | a :: b :: r => (eachE (cPiece (cE c n sc)) (a :: b :: r)).map .fstr
      | _ => none
    | _ => none
end Rv
set_option Elab.async false
set_option linter.all false
set_option maxRecDepth 100000
set_option maxHeartbeats 4000000
namespace Rv
open PySem PySem.Spec PyProof.Rows L2
/-! ### defs and their calls -/
/-- an error of ours is in the air -/
def xk (K : PySem.W.Frag) (W : WX) : XK := fun cls d H => ∃ c μ, cls = .ref (cm K c.cls) ∧ W c d H μ
abbrev TakesR (X : Cx) (W : SX) : Prop := Takes X fun cls d σ H => xk X.K (W σ) cls d H
theorem takesR_none {X : Cx} : TakesR X Z0 := fun _ _ ⟨_, _, _, _, _, _, _, _, _, _, _, _, _, _, _, _, _, _, _, w⟩ => w.elim
/-- the def at f does what g does, where no text of something is being made around it -/
structure FnG (P : Program) (w : World) (K : PySem.W.Frag) (mg : Str → Option Value) (base : Heap) (k : Nat) (f : Addr) (fd : FuncData) (ps : List Str) (g : List D → M D) : Prop where
  len : ∀ ds S p q, Wp (g ds) S p q → ds.length = ps.length
  run : ∀ (A : Around) (outer : List PySem.Env) (s : Shared) (H : Hp) (args : Args) (us : List Value) (vs : List V) (Q : VK) (W : WX), Room k A → A.guards = some [] → Env0 P w K mg base A outer s H → BindsTo s fd args (ps.zip us) → Vals vs us →
    RFof K W g vs H Q → codeAny (model P w) A (.call (.ref f) args) (CR (L2.CX P w) outer P w H s Q (xk K W)) s
theorem RFof.len {K : PySem.W.Frag} {W : WX} {g : List D → M D} {vs : List V} {H : Hp} {Q : VK} {n : Nat} (hl : ∀ ds S p q, Wp (g ds) S p q → ds.length = n) (h : RFof K W g vs H Q) : vs.length = n := by
  obtain ⟨μ, S, ds, _, dl, h⟩ := h
  rw [dl.length]
  exact hl ds S _ _ h
section
variable {X : Cx} {W : SX} {k : Nat} {f : Addr} {fd : FuncData} {ps : List Str} {g : List D → M D} {x : Str} {p pos : Pos} {e : Expr} {es : List Expr}
theorem run_G {pins : List (Addr × Obj)} {σ : L2.St} {H : Hp} {s : Shared} {Q : VK} {args : Args} {us : List Value} {vs : List V} (tkr : TakesR X W) (F : FnG X.prog X.w X.K X.mg X.base k f fd ps g) (hr : Room k X.A) (hg : X.A.guards = some []) (hb : BindsTo s fd args (ps.zip us))
    (I : Inv X pins σ H s) (r : Vals vs us) (h : RFof X.K (W σ) g vs H Q) : wpAny (model X.prog X.w) X.A (call (.ref f) args.pos args.kw) (EP X pins σ Q) X.xe s := by
  refine wpAny_call (codeAny_mono (F.run X.A X.stack s H args us vs Q (W σ) hr hg I.env0 hb r h) fun r s' hq => ?_)
  cases r with
  | error e => exact tkr e s' (XE.of_call I (fun _ _ _ h => h) hq)
  | ok fl =>
    cases fl with
    | ret u => exact I.after hq
    | next => exact False.elim hq
    | brk => exact False.elim hq
    | cont => exact False.elim hq
theorem pe_callG {fa : Rv.Env → M (List D)} (tkr : TakesR X W) (F : FnG X.prog X.w X.K X.mg X.base k f fd ps g) (hr : Room k X.A) (hgu : X.A.guards = some []) (hg : Gl X x) (hm : X.mg x = some (.ref f)) (hk : PySem.W.keepIn X.K (.ref f) = true) (hb : Binds X.K fd ps [])
    (ha : PA X (e :: es) (TAof X.K W fa)) (hdb : (x == ("__debug__" : Str)) = false) (he : starEach (e :: es) X.env = (false, eval e X.env) :: starEach es X.env) (hpl : (backTo pos (starEach es X.env)).any (·.1) = false) :
    PE X (.Call (.Name x p) (e :: es) [] pos) (TEof X.K W fun ρ => do let ds ← fa ρ; g ds) := by
  refine ⟨fun pins s σ H Q I h => ?_⟩
  refine wpAny_Call_Name_kw (ld_glob I hg hm ?_ hdb)
  refine PySem.W.callWith_K (h₀ := X.base) I.ok.mod.kin hk (thn (ha.run pos pins s σ H _ I (TEof.argsF h)) fun us s1 ⟨vs, H1, I1, r, q⟩ => ⟨I1.kIn, ?_⟩) he hpl
  have hl : us.length = ps.length := by rw [← r.length]; exact RFof.len F.len q
  have hb1 := hb s1 us I1.kIn (by rw [List.append_nil]; exact hl)
  rw [List.append_nil] at hb1
  exact run_G tkr (args := ⟨us, []⟩) F hr hgu hb1 I1 r q
theorem pe_callKG {kws : List Keyword} {ks : List Str} {fa : Rv.Env → M (List D)} {gk : List D → M D} {tk : TA} (tkr : TakesR X W) (F : FnG X.prog X.w X.K X.mg X.base k f fd ps g) (hr : Room k X.A) (hgu : X.A.guards = some []) (hg : Gl X x) (hm : X.mg x = some (.ref f)) (hk : PySem.W.keepIn X.K (.ref f) = true)
    (hb : ∀ (s : Shared) (ws : List Value) (us : List Value), X.K.In s.heap → mapO (fun j => ws[j]?) ix = some us → us.length = ps.length → BindsTo s fd ⟨[], ks.zip ws⟩ (ps.zip us)) (hkw : PK X kws (TAof X.K W fa))
    (hall : (backToKw pos (keywordEach kws X.env)).all (·.1.isSome) = true) (hks : (backToKw pos (keywordEach kws X.env)).filterMap (·.1) = ks) (hdb : (x == ("__debug__" : Str)) = false)
    (hpl : ((backTo pos (starEach [] X.env)).any (·.1) || (backToKw pos (keywordEach kws X.env)).any (·.1.isNone)) = false) :
    PE X (.Call (.Name x p) [] kws pos) (TEof X.K W fun ρ => do let ds ← fa ρ; let as ← ofOpt (perm ix ds); g as) := by
  refine ⟨fun pins s σ H Q I h => ?_⟩
  refine wpAny_Call_Name_kw (ld_glob I hg hm ?_ hdb)
  refine PySem.W.callWith_KW0 (h₀ := X.base) I.ok.mod.kin hk hall (thn (hkw.run pos pins s σ H _ I (TEof.argsF h)) fun ws s1 ⟨zs, H1, I1, r, q⟩ => ⟨I1.kIn, ?_⟩) hpl
  rw [hks]
  obtain ⟨μ, S, ds, R, dl, q⟩ := q
  obtain ⟨as, ea, q⟩ := Wp.opt.mp (Wp.bind.mp q)
  -- the values in the parameters' order
  have both : ∀ (ix : List Nat) (as : List D), mapO (fun j => ds[j]?) ix = some as → ∃ (us : List Value) (vs : List V), mapO (fun j => ws[j]?) ix = some us ∧ Vals vs us ∧ DenL X.K H1 μ vs as := by
    intro ix
    induction ix with
    | nil =>
      intro as e
      cases e
      exact ⟨[], [], rfl, .nil, .nil⟩
    | cons j ix ih =>
      intro as e
      unfold mapO at e
      cases e1 : ds[j]? with
      | none => rw [e1] at e; cases e
      | some d =>
        cases e2 : mapO (fun j => ds[j]?) ix with
        | none => rw [e1, e2] at e; cases e
        | some as' =>
          rw [e1, e2] at e
          cases e
          obtain ⟨us, vs, h1, h2, h3⟩ := ih as' e2
          obtain ⟨z, hz, dz⟩ := dl.get e1
          obtain ⟨u, hu, ru⟩ := r.get hz
          exact ⟨u :: us, z :: vs, by unfold mapO; rw [hu, h1], .cons ru h2, .cons dz h3⟩
  obtain ⟨us, vs, h1, h2, h3⟩ := both ix as ea
  have hl : us.length = ps.length := by
    rw [← h2.length, h3.length]
    exact F.len as S _ _ q
  exact run_G tkr (args := ⟨[], ks.zip ws⟩) F hr hgu (hb s1 ws us I1.kIn h1 hl) I1 h2 ⟨μ, S, as, R, h3, q⟩
/-- a def by its body -/
theorem FnG.of {P : Program} {w : World} {K : PySem.W.Frag} {mg : Str → Option Value} {base : Heap} {k : Nat} {f : Addr} {name qual : Str} {params : Arguments} {body : List Stmt} {scope : Scope} {kV doc pm cdv ct oc : Value} {an od : Option Addr}
    {osl : Array (Option Value)} {N ps : List Str} {fb : Rv.Env → M Flow} (lk : K.lookup f = some ⟨oc, od, .func (PySem.W.fnOf name qual params body scope .none kV doc pm an cdv ct), osl⟩) (hcd : PySem.W.codeIn K cdv qual = true) (Sc : FnScope N ps scope)
    (hbody : ∀ (A : Around) (outer : List PySem.Env) (s : Shared) (H : Hp) (W : WX), Room k (A.deeper (envOfC qual scope s.heap.objs.size f cdv)) → A.guards = some [] →
      PSs (cxOf (L2.CX P w) P w K mg base N qual scope f cdv A outer s H (xk K W)) body (TSof K (kW W) fb)) :
    FnG P w K mg base (k + 1) f (PySem.W.fnOf name qual params body scope .none kV doc pm an cdv ct) ps (fun ds => do
      need (ds.length = ps.length)
      let r ← fb (startE N.length ds)
      match r with
      | .next _ => pure .non
      | .ret d => pure d
      | _ => fail) := by
  have hlen : ∀ (ds : List D) (S : Sto) (p : D → Sto → Prop) (q : Exn → Sto → Prop), Wp (do
      need (ds.length = ps.length)
      let r ← fb (startE N.length ds)
      match r with
      | .next _ => pure .non
      | .ret d => pure d
      | _ => fail) S p q → ds.length = ps.length := fun ds S p q h => (Wp.need.mp (Wp.bind.mp h)).1
  refine ⟨hlen, fun A outer s H args us vs Q W hr hgu e0 hb r hsp => ?_⟩
  have hl := RFof.len hlen hsp
  have KX : K.In s.heap := e0.mod.kin.keeps fun b o e => (e0.bs b o e).1
  have lim : s.heap.NoLimit := e0.mod.nolimit.keeps fun b o e => (e0.bs b o e).1
  have kinds : ∀ y ∈ ps.zip us, scope.names.lookup y.1 = some .local ∨ (scope.names.lookup y.1 = some .cell ∧ ((cellsFrom (s.heap.objs.size + 1) scope.names []).lookup y.1).isSome = true) := by
    rintro ⟨n, v⟩ hy
    rcases Sc.par n (List.of_mem_zip hy).1 with q | q
    · exact .inl q
    · exact .inr ⟨q, PySem.W.cellsFrom_some _ _ _ (.inl q)⟩
  refine codeAny_call_function hr.depth (KX _ _ lk) rfl Sc.co Sc.gen rfl (PySem.W.codeRec_of KX hcd) (hb _ _ _ _ ?_)
  refine wpAny_newFunctionEnv_cells Sc.kind kinds fun env he s1 x => ?_
  subst he
  refine ⟨lim.keeps x.toInCall.keep, codeAny_func ?_⟩
  have ht := hbody A outer s H W (hr.deeper _) hgu
  have I : Inv (cxOf (L2.CX P w) P w K mg base N qual scope f cdv A outer s H (xk K W)) [] (start N vs) H s1 := inv_start Sc hr.hd e0 hl r x
  have fin : ∀ {s' : Shared} {σ' : L2.St} {H' : Hp} {v : V} {u : Value}, Inv (cxOf (L2.CX P w) P w K mg base N qual scope f cdv A outer s H (xk K W)) [] σ' H' s' → RelV v u → Q v H' → CE outer P w H s Q u s' :=
    fun J rv q => ⟨_, _, J.os, J.bare, J.base, J.hok, rv, q⟩
  have hq : TSof K (kW W) fb { nx := fun _ H' => Q .non H', rt := Q } (start N vs) H := by
    obtain ⟨μ, S, ds, R, dl, h⟩ := hsp
    obtain ⟨hn, h⟩ := Wp.need.mp (Wp.bind.mp h)
    refine ⟨startE N.length ds, μ, S, ⟨?_, fun i d hd => ?_⟩, R, (Wp.bind.mp h).mono (fun fl S1 h1 H1 μ1 st1 R1 => ?_) fun _ _ z => z⟩
    · unfold L2.start startE
      simp [dl.length]
    · unfold startE at hd
      by_cases hi : i < ds.length
      · rw [List.getElem?_append_left (by simpa using hi), List.getElem?_map] at hd
        cases e : ds[i]? with
        | none => rw [e] at hd; cases hd
        | some d' =>
          rw [e] at hd
          cases hd
          obtain ⟨v, hv, dv⟩ := dl.get e
          refine ⟨v, ?_, dv⟩
          unfold L2.start
          rw [List.getElem?_append_left (by rw [List.length_map, dl.length]; exact hi), List.getElem?_map, hv]
          rfl
      · rw [List.getElem?_append_right (by simpa using hi), List.getElem?_replicate] at hd
        split at hd <;> cases hd
    · cases fl with
      | next ρ => exact fun σ' _ => Wp.pure.mp h1 .non H1 μ1 st1 R1 .non
      | ret d => exact fun v dv => Wp.pure.mp h1 v H1 μ1 st1 R1 dv
      | brk ρ => exact h1.elim
      | cont ρ => exact h1.elim
  refine wpAny_mono (ht.run [] s1 (start N vs) H _ I hq) (fun fl s' hs => ?_) fun e s' hs => hs
  cases fl with
  | ret u =>
    obtain ⟨v, σ', H', J, rv, q⟩ := hs
    exact fin J rv q
  | next =>
    obtain ⟨σ', H', J, q⟩ := hs
    exact fin (v := V.non) (u := Value.none) J rfl q
  | brk =>
    obtain ⟨_, _, _, q⟩ := hs
    exact False.elim q
  | cont =>
    obtain ⟨_, _, _, q⟩ := hs
    exact False.elim q
end
end Rv
set_option Elab.async false
set_option linter.all false
set_option maxRecDepth 100000
set_option maxHeartbeats 4000000
namespace Rv
open PySem PySem.Spec PyProof.Rows L2
/-! ### an error with a field -/
/-- what its text is made of -/
def FmtOk (pre : Str) : V → Prop
  | .int i => i.natAbs.log2 < 1920 ∧ (pre ++ (toString i : Str)).length ≤ sizeLine
  | .str y => y.length ≤ sizeLine ∧ (pre ++ y).length ≤ sizeLine
  | _ => False
/-- a new error of the class C at a, its field n in a new dict at dx -/
structure KNew (s s' : Shared) (C : Addr) (n : Str) (u : Value) (a dx : Addr) : Prop where
  keep : ∀ b o, s.heap.get? b = some o → s'.heap.get? b = some o
  newA : s.heap.get? a = none
  newD : s.heap.get? dx = none
  ne : a ≠ dx
  obj : ∃ t0 : Addr, s'.heap.get? a = some ({ cls := .ref C, dict := some dx, data := .fields #[.ref t0, .none, .none, .none, .bool false, .none] } : Obj)
  ns : s'.heap.Ns1 dx (fun y => if y = n then some u else none)
  os : s'.os = s.os
  gens : s'.gens = s.gens
/-- the class j is called with one thing -/
structure KMk (P : Program) (w : World) (K : PySem.W.Frag) (mg : Str → Option Value) (base : Heap) (k j : Nat) (n pre : Str) : Prop where
  fld : PySem.W.findIn K (.ref (cm K j)) n = some none
  run : ∀ (A : Around) (outer : List PySem.Env) (s : Shared) (H : Hp) (v : V) (u : Value) (E : Value → Shared → Prop) (Q : Value → Shared → Prop), Room k A → A.guards = some [] → Env0 P w K mg base A outer s H → RelV v u → FmtOk pre v →
    (∀ a dx s', KNew s s' (cm K j) n u a dx → Q (.ref a) s') → wpAny (model P w) A (call (.ref (cm K j)) [u]) Q E s
  runK : ∀ (A : Around) (outer : List PySem.Env) (s : Shared) (H : Hp) (v : V) (u : Value) (E : Value → Shared → Prop) (Q : Value → Shared → Prop), Room k A → A.guards = some [] → Env0 P w K mg base A outer s H → RelV v u → FmtOk pre v →
    (∀ a dx s', KNew s s' (cm K j) n u a dx → Q (.ref a) s') → wpAny (model P w) A (call (.ref (cm K j)) [] [(n, u)]) Q E s
/-! ### what is asked of the text's surroundings -/
def bltAll : List Str := [strS "len", strS "repr", strS "tuple", strS "list", strS "int", strS "str", strS "abs", strS "max", strS "min", strS "sum", strS "all", strS "any", strS "isinstance", strS "range", strS "enumerate", strS "zip", strS "bool"]
structure GOk (c : Ctx) (C : Cfg) (k : Nat) (P : Program) (w : World) (K : PySem.W.Frag) (mg : Str → Option Value) (base : Heap) : Prop where
  fn : ∀ x i ps, c.fns.lookup x = some (i, ps) → ∃ a fd, mg x = some (.ref a) ∧ PySem.W.keepIn K (.ref a) = true ∧ Binds K fd ps [] ∧ FnG P w K mg base k a fd ps (C.call i) ∧
    ∀ q ∈ c.kws, q.1 = x → ∀ (s : Shared) (ws us : List Value), K.In s.heap → mapO (fun j => ws[j]?) q.2.2 = some us → us.length = ps.length → BindsTo s fd ⟨[], q.2.1.zip ws⟩ (ps.zip us)
  glob : ∀ x g, c.globs.lookup x = some g → ∃ u v d, mg x = some u ∧ RelV v u ∧ C.glob g = some d ∧ ∀ H μ, Den K H μ v d
  blt : ∀ x ∈ bltAll, mg x = none
  gcd : c.gcd = true → mg (strS "gcd") = some (.builtin "math.gcd")
  er : ∀ x j o, c.exs.lookup x = some (j, o) → 1 ≤ j ∧ j < 27 ∧ mg x = some (.ref (cm K j)) ∧ ErC K j
  ve : mg (strS "ValueError") = none
  mkk : ∀ x j n pre, c.exs.lookup x = some (j, some (n, pre)) → KMk P w K mg base k j n pre
  mk0 : ∀ x j, c.exs.lookup x = some (j, none) → PySem.W.excIn K (cm K j) PySem.HandSPX.veTail "ValueError.__new__" = true
structure Good (c : Ctx) (C : Cfg) (k : Nat) (X : Cx) (W : SX) (sc : Scope) : Prop where
  gd : Gd X
  N : X.N = c.N
  nd : c.N.Nodup
  tk : TakesR X W
  calm : c.hot = false → X.calm = true
  room : c.hot = false → Room k X.A
  vis : ∀ x, isVis (sc.names.lookup x) = true → Vis X.env.scope x
  cf : ∀ x, isCF (sc.names.lookup x) = true → isCF (X.env.scope.names.lookup x) = true
  loc : ∀ x, sc.names.lookup x = some .local → X.env.scope.names.lookup x = some .local
  cel : ∀ x, sc.names.lookup x = some .cell → X.env.scope.names.lookup x = some .cell ∧ X.fn x = true
  gl : ∀ x, isGlob sc x = true → Gl X x
  G : GOk c C k X.prog X.w X.K X.mg X.base
theorem isCF_iff {o : Option NameKind} : isCF o = true ↔ o = some .cell ∨ o = some .free := by
  cases o with
  | none => simp [isCF]
  | some k => cases k <;> simp [isCF]
theorem isLC_iff {o : Option NameKind} : isLC o = true ↔ o = some .local ∨ o = some .cell := by
  cases o with
  | none => simp [isLC]
  | some k => cases k <;> simp [isLC]
theorem isVis_iff {o : Option NameKind} : isVis o = true ↔ o = some .local ∨ o = some .cell ∨ o = some .free := by
  cases o with
  | none => simp [isVis]
  | some k => cases k <;> simp [isVis]
theorem blk_of {N : List Str} {sc sc' csc : Scope} {own : List (Str × Nat)} (h : blkC N sc csc own = true) (hcf : ∀ x, isCF (sc.names.lookup x) = true → isCF (sc'.names.lookup x) = true) : BlkOk N sc' csc own := by
  obtain ⟨a, b, d, e, f⟩ := blkOk_by h
  exact ⟨a, b, d, fun y hy q => isCF_iff.mp (hcf _ (isCF_iff.mpr (e y hy q))), f⟩
theorem lookup_rel0 {sc : Scope} {x : Str} {k : NameKind} : ∀ {l : List (Str × NameKind)}, l.lookup x = some k →
    (l.map fun (n, k) => if (k == .free && sc.kind == .function && sc.names.lookup n == some .cell) then (n, NameKind.cell) else (n, k)).lookup x = some k ∨
    (k = .free ∧ (l.map fun (n, k) => if (k == .free && sc.kind == .function && sc.names.lookup n == some .cell) then (n, NameKind.cell) else (n, k)).lookup x = some .cell)
  | [], h => by cases h
  | (n, k0) :: r, h => by
    rw [List.map_cons]
    cases e : x == n with
    | true =>
      simp only [List.lookup_cons, e] at h
      cases h
      by_cases hc : (k == .free && sc.kind == .function && sc.names.lookup n == some .cell) = true
      · simp only [if_pos hc, List.lookup_cons, e]
        simp only [Bool.and_eq_true, beq_iff_eq] at hc
        exact .inr ⟨hc.1.1, trivial⟩
      · simp only [if_neg hc, List.lookup_cons, e]
        exact .inl trivial
    | false =>
      simp only [List.lookup_cons, e] at h
      have := lookup_rel0 (sc := sc) h
      by_cases hc : (k0 == .free && sc.kind == .function && sc.names.lookup n == some .cell) = true
      · simp only [if_pos hc, List.lookup_cons, e]
        exact this
      · simp only [if_neg hc, List.lookup_cons, e]
        exact this
theorem lookup_rel {sc csc : Scope} {x : Str} {k : NameKind} (h : csc.names.lookup x = some k) : (relS csc sc).names.lookup x = some k ∨ (k = .free ∧ (relS csc sc).names.lookup x = some .cell) := lookup_rel0 h
theorem Good.blk {c : Ctx} {C : Cfg} {k : Nat} {X : Cx} {W : SX} {sc csc : Scope} (g : Good c C k X W sc) (s : Shared) (H : Hp) (Cc : Addr) (cl : List (Str × Addr)) (fp : List Addr) :
    Good c C k (X.blk s H csc (compEnvC csc cl Cc X.env) fp) Z0 csc := by
  have hs : (compEnvC csc cl Cc X.env).scope = relS csc X.env.scope := rfl
  refine ⟨⟨g.gd.units, g.gd.guards, g.gd.sys⟩, g.N, g.nd, takesR_none, g.calm, g.room, fun x h => ?_, fun x h => ?_, fun x h => ?_, fun x h => ?_, fun x h => ?_, g.G⟩
  · show Vis (relS csc X.env.scope) x
    rcases isVis_iff.mp h with e | e | e
    · rcases lookup_rel (sc := X.env.scope) e with q | ⟨q, _⟩
      · exact .inl q
      · cases q
    · rcases lookup_rel (sc := X.env.scope) e with q | ⟨q, _⟩
      · exact .inr (.inl q)
      · cases q
    · rcases lookup_rel (sc := X.env.scope) e with q | ⟨_, q⟩
      · exact .inr (.inr q)
      · exact .inr (.inl q)
  · show isCF ((relS csc X.env.scope).names.lookup x) = true
    rcases isCF_iff.mp h with e | e
    · rcases lookup_rel (sc := X.env.scope) e with q | ⟨q, _⟩
      · rw [q]; rfl
      · cases q
    · rcases lookup_rel (sc := X.env.scope) e with q | ⟨_, q⟩
      · rw [q]; rfl
      · rw [q]; rfl
  · rcases lookup_rel (sc := X.env.scope) h with q | ⟨q, _⟩
    · exact q
    · cases q
  · rcases lookup_rel (sc := X.env.scope) h with q | ⟨q, _⟩
    · exact ⟨q, by show (csc.names.lookup x == some .cell) = true; rw [h]; rfl⟩
    · cases q
  · have h' : csc.names.lookup x = some .globalImplicit := by simpa [isGlob] using h
    rcases lookup_rel (sc := X.env.scope) h' with q | ⟨q, _⟩
    · exact q
    · cases q
/-! ### lists of expressions -/
def isStar : Expr → Bool
  | .Starred .. => true
  | _ => false
theorem starEach_cons {e : Expr} {es : List Expr} {env : PySem.Env} (h : isStar e = false) : starEach (e :: es) env = (false, eval e env) :: starEach es env := by
  cases e <;> first | rfl | cases h
theorem starEach_map {env : PySem.Env} : ∀ {es : List Expr}, (∀ e ∈ es, isStar e = false) → starEach es env = es.map fun e => (false, eval e env)
  | [], _ => rfl
  | e :: es, h => by rw [starEach_cons (h e List.mem_cons_self), starEach_map fun x hx => h x (List.mem_cons_of_mem _ hx)]; rfl
theorem back_any {env : PySem.Env} {pos : Pos} {es : List Expr} (h : ∀ e ∈ es, isStar e = false) : (backTo pos (starEach es env)).any (·.1) = false := by
  rw [starEach_map h]
  unfold backTo
  rw [List.map_map, List.any_map, List.any_eq_false]
  intro x _
  simp
section
variable {X : Cx} {W : SX} {C : Cfg} {f : Expr → Option E}
/-- what an inner reckoning of expressions keeps -/
structure Each (X : Cx) (C : Cfg) (W : SX) (f : Expr → Option E) : Prop where
  snd : ∀ e i, f e = some i → Snd X W e (ev C i)
  star : ∀ e i, f e = some i → isStar e = false
theorem eachE_star (h : Each X C W f) : ∀ {es : List Expr} {is : Es}, eachE f es = some is → ∀ e ∈ es, isStar e = false
  | [], _, _, _, hx => nomatch hx
  | e :: es, is, q, x, hx => by
    unfold eachE at q
    cases e1 : f e with
    | none => rw [e1] at q; cases q
    | some i =>
      cases e2 : eachE f es with
      | none => rw [e1, e2] at q; cases q
      | some is' =>
        rcases List.mem_cons.mp hx with rfl | hx
        · exact h.star _ _ e1
        · exact eachE_star h e2 x hx
theorem eachE_pa (h : Each X C W f) : ∀ {es : List Expr} {is : Es}, eachE f es = some is → PA X es (TAof X.K W (evs C is))
  | [], is, q => by
    cases q
    exact PA.of pa_nil fun σ H Q q => by
      obtain ⟨ρ, μ, S, e, R, q⟩ := q
      exact Wp.pure.mp q [] H μ (Step.refl _ _) R .nil
  | e :: es, is, q => by
    have hs := eachE_star h q
    unfold eachE at q
    cases e1 : f e with
    | none => rw [e1] at q; cases q
    | some i =>
      cases e2 : eachE f es with
      | none => rw [e1, e2] at q; cases q
      | some is' =>
        rw [e1, e2] at q
        cases q
        exact PA.of (pa_cons (h.snd _ _ e1).pe (eachE_pa h e2) (starEach_cons (hs e List.mem_cons_self))) fun σ H Q q => TAof.cons q
theorem eachE_len : ∀ {es : List Expr} {is : Es}, eachE f es = some is → ∀ {ρ : Rv.Env} {S : Sto} {k : List D → Sto → Prop} {w : Exn → Sto → Prop}, Wp (evs C is ρ) S k w → Wp (evs C is ρ) S (fun ds S' => ds.length = es.length ∧ k ds S') w
  | [], is, q, ρ, S, k, w, h => by
    cases q
    exact ⟨rfl, h⟩
  | e :: es, is, q, ρ, S, k, w, h => by
    unfold eachE at q
    cases e1 : f e with
    | none => rw [e1] at q; cases q
    | some i =>
      cases e2 : eachE f es with
      | none => rw [e1, e2] at q; cases q
      | some is' =>
        rw [e1, e2] at q
        cases q
        refine Wp.bind.mpr ((Wp.bind.mp h).mono (fun d S1 h1 => Wp.bind.mpr ((eachE_len e2 (Wp.bind.mp h1)).mono (fun ds S2 h2 => ?_) fun _ _ z => z)) fun _ _ z => z)
        exact ⟨by simp [h2.1], h2.2⟩
theorem eachE_and (h : Each X C W f) {pos : Pos} : ∀ {e : Expr} {es : List Expr} {is : Es}, eachE f (e :: es) = some is → SndW X W (.BoolOp .And (e :: es) pos) (evAnd C is)
  | e, [], is, q => by
    unfold eachE at q
    cases e1 : f e with
    | none => rw [e1] at q; cases q
    | some i =>
      rw [e1] at q
      cases q
      exact SndW.one_and (h.snd _ _ e1)
  | e, e' :: es, is, q => by
    unfold eachE at q
    cases e1 : f e with
    | none => rw [e1] at q; cases q
    | some i =>
      cases e2 : eachE f (e' :: es) with
      | none => rw [e1, e2] at q; cases q
      | some is' =>
        rw [e1, e2] at q
        cases q
        have k := eachE_and h (pos := pos) e2
        cases is' with
        | nil =>
          unfold eachE at e2
          cases e3 : f e' with
          | none => rw [e3] at e2; cases e2
          | some j =>
            cases e4 : eachE f es with
            | none => rw [e3, e4] at e2; cases e2
            | some js => rw [e3, e4] at e2; cases e2
        | cons j js => exact SndW.and (h.snd _ _ e1) k
theorem eachE_or (h : Each X C W f) {pos : Pos} : ∀ {e : Expr} {es : List Expr} {is : Es}, eachE f (e :: es) = some is → SndW X W (.BoolOp .Or (e :: es) pos) (evOr C is)
  | e, [], is, q => by
    unfold eachE at q
    cases e1 : f e with
    | none => rw [e1] at q; cases q
    | some i =>
      rw [e1] at q
      cases q
      exact SndW.one_or (h.snd _ _ e1)
  | e, e' :: es, is, q => by
    unfold eachE at q
    cases e1 : f e with
    | none => rw [e1] at q; cases q
    | some i =>
      cases e2 : eachE f (e' :: es) with
      | none => rw [e1, e2] at q; cases q
      | some is' =>
        rw [e1, e2] at q
        cases q
        have k := eachE_or h (pos := pos) e2
        cases is' with
        | nil =>
          unfold eachE at e2
          cases e3 : f e' with
          | none => rw [e3] at e2; cases e2
          | some j =>
            cases e4 : eachE f es with
            | none => rw [e3, e4] at e2; cases e2
            | some js => rw [e3, e4] at e2; cases e2
        | cons j js => exact SndW.or (h.snd _ _ e1) k
theorem cmpK_op {op : CmpOp} {k : CmpK} (h : cmpK op = some k) : op = k.op := by cases op <;> cases h <;> rfl
theorem binK_op {op : Operator} {k : BinK} (h : binK op = some k) : op = k.op := by cases op <;> cases h <;> rfl
end
end Rv
set_option Elab.async false
set_option linter.all false
set_option maxRecDepth 100000
set_option maxHeartbeats 4000000
namespace Rv
open PySem PySem.Spec PyProof.Rows L2
/-! ### a tuple backwards -/
section
variable {prog : Program} {w : World} {A : Around} {E : Value → Shared → Prop} {s : Shared}
theorem adjust_rev (n : Nat) : Builtin.Slice.sliceAdjust none none (-1) (n : Int) = ((n : Int) - 1, -1) := by
  unfold Builtin.Slice.sliceAdjust
  simp
theorem places_rev (n : Nat) : Builtin.Slice.slicePlaces ((n : Int) - 1) (-1) (-1) = n := by
  unfold Builtin.Slice.slicePlaces
  simp
  try omega
theorem pick_all {α : Type} (ys : List α) : ∀ n : Nat, (List.range n).filterMap (fun m => ys[m]?) = ys.take n
  | 0 => by simp
  | n + 1 => by
    rw [List.range_succ, List.filterMap_append, pick_all ys n, List.take_succ]
    cases e : ys[n]? <;> simp [e]
theorem fm_congr {α β : Type} {f g : α → Option β} : ∀ {l : List α}, (∀ x ∈ l, f x = g x) → l.filterMap f = l.filterMap g
  | [], _ => rfl
  | a :: l, h => by
    rw [List.filterMap_cons, List.filterMap_cons, h a List.mem_cons_self, fm_congr fun x hx => h x (List.mem_cons_of_mem _ hx)]
theorem pick_rev (xs : Array Value) : ((List.range xs.size).filterMap fun (m : Nat) => xs[(((xs.size : Nat) : Int) - 1 + (m : Int) * (-1)).toNat]?) = xs.toList.reverse := by
  have h := pick_all xs.toList.reverse xs.size
  rw [List.take_of_length_le (by simp)] at h
  rw [← h]
  refine fm_congr fun m hm => ?_
  have hm := List.mem_range.mp hm
  have e : (((xs.size : Nat) : Int) - 1 + (m : Int) * (-1)).toNat = xs.size - 1 - m := by omega
  rw [e, List.getElem?_reverse (by simpa using hm), Array.length_toList, Array.getElem?_toList]
theorem applied_rev {sl : Addr} {t : Tok} {n : Nat} {Q : Int × Int × Nat → Shared → Prop} (hs : s.heap.IsSliceOf sl .none .none (.int (-1) t)) (h : Q ((n : Int) - 1, -1, n) s) :
    wpAny (model prog w) A (Builtin.Slice.sliceApplied (.ref sl) (pure (n : Int))) Q E s := by
  obtain ⟨ob, h1, h2, h3⟩ := id hs
  unfold Builtin.Slice.sliceApplied Builtin.Slice.sliceFields
  refine wpAny_bind (wpAny_bind (wpAny_field h1 h3 (x := .none) rfl (wpAny_bind (wpAny_field h1 h3 (x := .none) rfl (wpAny_bind (wpAny_field h1 h3 (x := .int (-1) t) rfl (wpAny_pure ?_)))))))
  refine wpAny_bind (HT.slicePart_ (.int (-1) t) ?_)
  show wpAny _ _ (if ((-1 : Int) == 0) = true then _ else _) _ _ s
  rw [if_neg (by decide)]
  refine wpAny_bind (HT.slicePart_ .none (wpAny_bind (HT.slicePart_ .none (wpAny_bind (wpAny_pure ?_)))))
  show wpAny _ _ (match Builtin.Slice.sliceAdjust none none (-1) (n : Int) with | (lo, hi) => pure (lo, (-1 : Int), Builtin.Slice.slicePlaces lo hi (-1))) _ _ s
  rw [adjust_rev]
  show wpAny _ _ (pure ((n : Int) - 1, (-1 : Int), Builtin.Slice.slicePlaces ((n : Int) - 1) (-1) (-1))) _ _ s
  rw [places_rev]
  exact wpAny_pure h
theorem item_rev {a sl : Addr} {xs : Array Value} {t : Tok} {Q : Value → Shared → Prop} (ht : IsTup s.heap a xs) (hs : s.heap.IsSliceOf sl .none .none (.int (-1) t)) (hz : xs.size ≤ sizeLine)
    (h : Q (.ref s.heap.objs.size) { s with heap := s.heap.push { cls := .type "tuple", data := .seq xs.toList.reverse.toArray } }) : wpAny (model prog w) A (getItem (.ref a) (.ref sl)) Q E s := by
  have ok : sizeOk (.seq xs.toList.reverse.toArray) := by
    show xs.toList.reverse.toArray.size ≤ sizeLine
    simpa using hz
  obtain ⟨ob, h1, h2, h3⟩ := id hs
  have isS : s.TypeIs (.ref sl) "slice" := ⟨ob, h1, h2⟩
  unfold getItem
  have isT := ht.typeIs
  try (with_reducible refine wpAny_holding ?_)
  first | (refine wpAny_bind (wpAny_pure ?_)) | skip
  refine wpAny_bind (wpAny_sequenceKey isT (by decide) ?_)
  refine wpAny_bind (wpAny_callSpecial?_slot (name := Str.ofString "__getitem__") isT PyProof.Rows.slot_tuple_getitem (wpAny_call_entry PyProof.Rows.slot_tuple_getitem isT entry_tuple_getitem ?_ (args_tuple_getitem _ _)))
  show wpAny _ _ (Builtin.Tuple.tupleItemsOf (.ref a) >>= _) _ _ s
  refine wpAny_bind (tupleItemsOf_ ht ?_)
  refine wpAny_bind (wpAny_typeOf isS ?_)
  rw [if_pos (by decide)]
  refine wpAny_bind (applied_rev hs ?_)
  show wpAny _ _ (if (((xs.size : Nat) : Int) - 1 == 0 && (-1 : Int) == 1 && xs.size == xs.size) = true then _ else _) _ _ s
  rw [if_neg (by simp), pick_rev]
  have fin := wpAny_pure (M := model prog w) (A := A) (E := E) h
  first
    | exact wpAny_bind (m := Builtin.Tuple.tupleExact _) (wpAny_newObj_type (wpAny_pure ⟨_, rfl, fin⟩) ok)
    | exact wpAny_bind (m := Builtin.Tuple.tupleExact _) (wpAny_newObj_type (wpAny_bind (wpAny_pure (wpAny_pure ⟨_, rfl, fin⟩))) ok)
    | exact wpAny_bind (wpAny_bind (m := Builtin.Tuple.tupleExact _) (wpAny_newObj_type (wpAny_pure (wpAny_pure ⟨_, rfl, fin⟩)) ok))
    | exact wpAny_bind (wpAny_bind (m := Builtin.Tuple.tupleExact _) (wpAny_newObj_type (wpAny_pure ⟨_, rfl, fin⟩) ok))
end
section
variable {X : Cx} {e : Expr} {f : Rv.Env → M D} {p1 p2 p3 pos : Pos} {k : Nat}
theorem pe_revT {W : SX} (he : PE X e (TEof X.K W f)) : PE X (.Subscript e (.Slice none none (some (.UnaryOp .USub (.Constant (.int 1) k p1) p2)) p3) pos)
    (fun σ H Q => TEof X.K W f σ H fun v H1 => ∃ a xs, v = .ref a ∧ SqT X.K H1 a xs ∧ ∀ p, H1 p = none → Q (.ref p) (upd H1 p (.tup xs.reverse))) := by
  refine ⟨fun pins s σ H Q I h => Subscript_ (thn (he.run pins s σ H _ I h) fun v s1 ⟨x, H1, I1, r1, a, xs, ex, hx, q⟩ => ?_)⟩
  subst ex
  cases r1
  have step : PO X (some (.UnaryOp .USub (.Constant (.int 1) k p1) p2)) (tPart (tUn (rU fun i => .int (-i)) (tC (.int 1)))) := po_some (pe_un un_neg pe_int)
  refine wpAny_Slice (thn (po_none.run pins s1 σ H1 (fun o H2 => o = none ∧ H2 = H1) I1 ⟨rfl, rfl⟩) fun vl s2 ⟨lo, H2, I2, pl, e1, e2⟩ => ?_)
  subst e1 e2
  refine thn (po_none.run pins s2 σ H2 (fun o H3 => o = none ∧ H3 = H2) I2 ⟨rfl, rfl⟩) fun vu s3 ⟨hi, H3, I3, pu, e3, e4⟩ => ?_
  subst e3 e4
  refine thn (step.run pins s3 σ H3 (fun o H4 => o = some (-1) ∧ H4 = H3) I3 ⟨1, rfl, -1, rfl, rfl, rfl⟩) fun vs s4 ⟨o, H4, I4, ps, e5, e6⟩ => ?_
  subst e5 e6
  cases pl
  cases pu
  cases ps with
  | int i t =>
    have I5 : Inv X pins σ H4 { s4 with heap := s4.heap.push { cls := .type "slice", data := .fields #[.none, .none, .int (-1) t] } } := I4.kept (t' := s4.toks) fun b ob z => Heap.get?_push_of_some _ z
    obtain ⟨its, rv, ht, hz⟩ := I5.tuple hx
    have hl := rv.length
    refine tail_any (ops := [.ref a, .ref s4.heap.objs.size]) ht.typeIs (PyProof.Rows.slot_tuple_getitem.lookup) ?_ (by with_unfolding_all rfl)
    refine item_rev ht (Heap.IsSliceOf.new _ .none .none (.int (-1) t)) (by rw [List.size_toArray]; omega) ?_
    refine ⟨.ref _, _, I5.laid (t' := s4.toks) (o := .tup xs.reverse) (fun b ob z => Heap.get?_push_of_some _ z) (Nat.le_refl _) ?_, rfl, q _ (I5.hok.fresh (Nat.le_refl _))⟩
    exact ⟨by rw [List.length_reverse]; exact hz, its.reverse, by simpa using rv.reverse, ⟨_, Heap.get?_push_size _ rfl, rfl, 0, by simp⟩⟩
theorem pe_rev {W : SX} (he : PE X e (TEof X.K W f)) : PE X (.Subscript e (.Slice none none (some (.UnaryOp .USub (.Constant (.int 1) k p1) p2)) p3) pos) (TEof X.K W fun ρ => do let x ← f ρ; revD x) := by
  refine ⟨fun pins s σ H Q I h => ?_⟩
  obtain ⟨ρ, μ, S, ee, RR, h⟩ := h
  have h := Wp.bind.mp h
  cases q : f ρ S with
  | bad =>
    unfold Wp at h
    rw [q] at h
    exact h.elim
  | ex c S' =>
    refine (pe_revL he).run pins s σ H Q I (TEof.with ee RR h fun d S2 q2 => ?_)
    rw [q] at q2
    cases q2
  | ok d S' =>
    cases d with
    | tup ds =>
      refine (pe_revT he).run pins s σ H Q I (TEof.with ee RR h fun d S2 q2 k v H1 μ1 s1 R1 d1 => ?_)
      rw [q] at q2
      cases q2
      cases d1 with
      | @tup a xs _ h1 h2 =>
        have k := Wp.pure.mp k
        exact ⟨a, xs, rfl, h1, fun p hp => new_tup R1 hp h2.reverse fun v H' μ' s R d => k v H' μ' (s1.trans s) R d⟩
    | ref n =>
      refine (pe_revL he).run pins s σ H Q I (TEof.with ee RR h fun d S2 q2 k v H1 μ1 s1 R1 d1 => ?_)
      rw [q] at q2
      cases q2
      cases d1 with
      | @ref a _ h1 =>
        obtain ⟨xs, e, k⟩ := Wp.items.mp (Wp.bind.mp k)
        obtain ⟨vs, h2, h3⟩ := R1.obj _ _ _ h1 e
        have k := Wp.newO.mp k
        exact ⟨a, vs, rfl, .of h2, fun p hp => new_lst R1 hp h3.reverse fun v H' μ' s R d => k v H' μ' (s1.trans s) R d⟩
    | fro ns => unfold Wp at h; rw [q] at h; exact h.elim
    | str x => unfold Wp at h; rw [q] at h; exact h.elim
    | non => unfold Wp at h; rw [q] at h; exact h.elim
    | bl b => unfold Wp at h; rw [q] at h; exact h.elim
    | int b => unfold Wp at h; rw [q] at h; exact h.elim
end
end Rv
set_option Elab.async false
set_option linter.all false
set_option maxRecDepth 100000
set_option maxHeartbeats 4000000
namespace Rv
open PySem PySem.Spec PyProof.Rows L2
section
variable {X : Cx} {W : SX} {C : Cfg} {c : Ctx} {k : Nat} {sc : Scope} {f : Expr → Option E}
theorem Good.units (g : Good c C k X W sc) : X.A.units + 65 < cLine := by
  have := g.gd.units
  omega
/-! ### comparisons -/
theorem isNoneC_of {e : Expr} (h : isNoneC e = true) : ∃ j p, e = .Constant .none j p := by
  cases e with
  | Constant k j p => cases k <;> first | exact ⟨j, p, rfl⟩ | cases h
  | _ => cases h
theorem isN_snd {neg : Bool} {a : Expr} {j : Nat} {p pos : Pos} {fa : Rv.Env → M D} (h : PE X a (TEof X.K W fa)) :
    Snd X W (.Compare a [if neg then .IsNot else .Is] [.Constant .none j p] pos) (fun ρ => do let x ← fa ρ; match x with | .non => pure (.bl (!neg)) | _ => pure (.bl neg)) := by
  have key : ∀ (σ : L2.St) (H : Hp) (Q : VK), TEof X.K W (fun ρ => do let x ← fa ρ; match x with | .non => pure (.bl (!neg)) | _ => pure (.bl neg)) σ H Q →
      TEof X.K W fa σ H fun v H1 => Q (.bl (if neg then !decide (v = .non) else decide (v = .non))) H1 := fun σ H Q q => by
    obtain ⟨ρ, μ0, S0, e0, R0, q⟩ := q
    refine ⟨ρ, μ0, S0, e0, R0, (Wp.bind.mp q).mono (fun d S1 h1 v H1 μ1 st1 R1 dd => ?_) fun _ _ z => z⟩
    have fin : ∀ b : Bool, Wp (pure (.bl b) : M D) S1 (After X.K H μ0 fun _ v H' _ _ => Q v H') (AfterX X.K (W σ) H μ0) → Q (.bl b) H1 := fun b h => Wp.pure.mp h _ H1 μ1 st1 R1 (.bl b)
    cases dd with
    | non => cases neg <;> exact fin _ h1
    | _ => cases neg <;> exact fin _ h1
  cases neg with
  | false => exact ⟨PE.of (pe_cmp (pc_isN h) rfl) key, PT.of (pt_cmp (pc_isN h) rfl) fun σ H Q q => key σ H (fun x H1 => ∃ c, x = .bl c ∧ Q c H1) (by
      obtain ⟨ρ, μ0, S0, e0, R0, q⟩ := q
      refine ⟨ρ, μ0, S0, e0, R0, (Wp.bind.mp q).mono (fun d S1 h1 v H1 μ1 st1 R1 dd => ?_) fun _ _ z => z⟩
      obtain ⟨b, rfl, h2⟩ := Wp.truth h1
      cases dd
      exact ⟨b, rfl, h2 H1 μ1 st1 R1⟩)⟩
  | true => exact ⟨PE.of (pe_cmp (pc_notN h) rfl) key, PT.of (pt_cmp (pc_notN h) rfl) fun σ H Q q => key σ H (fun x H1 => ∃ c, x = .bl c ∧ Q c H1) (by
      obtain ⟨ρ, μ0, S0, e0, R0, q⟩ := q
      refine ⟨ρ, μ0, S0, e0, R0, (Wp.bind.mp q).mono (fun d S1 h1 v H1 μ1 st1 R1 dd => ?_) fun _ _ z => z⟩
      obtain ⟨b, rfl, h2⟩ := Wp.truth h1
      cases dd
      exact ⟨b, rfl, h2 H1 μ1 st1 R1⟩)⟩
theorem isSet_marks {op : CmpOp} {b : Expr} (h : ∀ es k p, b ≠ .Set es k p) : behindInMarks op b = false := by
  cases b <;> first | rfl | exact absurd rfl (h _ _ _)
theorem cCmp_snd (g : Good c C k X W sc) (h : Each X C W f) (hset : ∀ es k p, f (.Set es k p) = none) {a : Expr} {ops : List CmpOp} {cs : List Expr} {pos : Pos} {i : E} (q : cCmp f a ops cs = some i) : Snd X W (.Compare a ops cs pos) (ev C i) := by
  unfold cCmp at q
  split at q
  · rename_i op b
    have plain : (match cmpK op, f a, f b with
      | some k, some x, some y => some (E.cmp k x y)
      | _, _, _ => none) = some i → Snd X W (.Compare a [op] [b] pos) (ev C i) := fun q => by
      split at q
      · rename_i k' x y e1 e2 e3
        cases q
        rw [cmpK_op e1]
        exact Snd.cmp g.units (h.snd _ _ e2).pe (h.snd _ _ e3).pe (isSet_marks fun es k p e => by rw [e, hset] at e3; cases e3)
      · cases q
    split at q
    · rename_i e1
      obtain ⟨j, p, rfl⟩ := isNoneC_of e1
      obtain ⟨x, e2, rfl⟩ := Option.map_eq_some_iff.mp q
      exact isN_snd (neg := false) (h.snd _ _ e2).pe
    · rename_i e1
      obtain ⟨j, p, rfl⟩ := isNoneC_of e1
      obtain ⟨x, e2, rfl⟩ := Option.map_eq_some_iff.mp q
      exact isN_snd (neg := true) (h.snd _ _ e2).pe
    · exact plain q
  · rename_i op op' b d
    split at q
    · rename_i k1 k2 x y z e1 e2 e3 e4 e5
      split at q
      · cases q
      · rename_i hm
        cases q
        rw [cmpK_op e1, cmpK_op e2]
        exact Snd.chain g.units (h.snd _ _ e3).pe (h.snd _ _ e4).pe (h.snd _ _ e5).pe (by cases k2 <;> first | rfl | exact absurd rfl hm)
    · cases q
  · cases q

/-! ### subscripts -/
theorem optE_po (h : Each X C W f) {o : Option Expr} {eo : Eo} (q : optE f o = some eo) : PO X o (fun σ H Q => ∃ ρ μ S, EnvR X.K H μ σ ρ ∧ Rel X.K H μ S ∧ Wp (evPart C eo ρ) S (fun i S' => ∀ H' μ', Step H μ H' μ' → Rel X.K H' μ' S' → Q i H') (AfterX X.K (W σ) H μ)) := by
  cases o with
  | none =>
    cases q
    refine ⟨fun pins s σ H Q I q => po_none.run pins s σ H Q I ?_⟩
    obtain ⟨ρ, μ0, S0, e0, R0, q⟩ := q
    exact Wp.pure.mp q H μ0 (Step.refl _ _) R0
  | some e =>
    obtain ⟨i, e1, rfl⟩ := Option.map_eq_some_iff.mp (show (f e).map Eo.some = some eo from q)
    refine ⟨fun pins s σ H Q I q => (po_some (h.snd _ _ e1).pe).run pins s σ H Q I ?_⟩
    obtain ⟨ρ, μ0, S0, e0, R0, q⟩ := q
    refine ⟨ρ, μ0, S0, e0, R0, (Wp.bind.mp q).mono (fun d S1 h1 v H1 μ1 st1 R1 dd => ?_) fun _ _ z => z⟩
    cases d <;> try exact (Wp.bind.mp h1).elim
    cases dd
    have h2 := Wp.bind.mp h1
    have h2 := Wp.pure.mp h2
    have h2 := Wp.pure.mp h2
    exact ⟨_, rfl, h2 H1 μ1 st1 R1⟩
theorem isNeg1_of {e : Expr} (h : isNeg1 e = true) : ∃ j p1 p2, e = .UnaryOp .USub (.Constant (.int 1) j p1) p2 := by
  unfold isNeg1 at h
  split at h
  · exact ⟨_, _, _, rfl⟩
  · cases h
theorem plainIx_of {b : Expr} (h : isSlice b = false) : PlainIx b := by
  intro o i
  cases b <;> first | rfl | cases h
theorem isTrue_plainE {e : Expr} (h : (match e with | .UnaryOp .Not _ _ => true | .BoolOp .. => true | .IfExp .. => true | .Compare .. => true | _ => false) = false) {env : PySem.Env} :
    ∀ whole, PySem.isTrue e env whole = (do let v ← whole; standAt e.pos; holding [v] (truthy v)) := by
  intro whole
  cases e with
  | UnaryOp op a p => cases op <;> first | rfl | cases h
  | BoolOp => cases h
  | IfExp => cases h
  | Compare => cases h
  | _ => rfl
theorem cSub_pe (h : Each X C W f) (hsl : ∀ lo hi st p, f (.Slice lo hi st p) = none) {a b : Expr} {pos : Pos} {i : E} (q : cSub f a b = some i) : PE X (.Subscript a b pos) (TEof X.K W (ev C i)) := by
  unfold cSub at q
  split at q
  · rename_i lo hi p
    split at q
    · rename_i x l u e1 e2 e3
      cases q
      refine PE.of (pe_slice (op_slice) (h.snd _ _ e1).pe (optE_po h e2) (optE_po h e3)) fun σ H Q q => ?_
      obtain ⟨ρ, μ0, S0, e0, R0, q⟩ := q
      refine ⟨ρ, μ0, S0, e0, R0, (Wp.bind.mp q).mono (fun d S1 h1 v H1 μ1 st1 R1 dd => ?_) fun _ _ z => z⟩
      refine ⟨ρ, μ1, S1, e0.mono R0 st1, R1, (Wp.bind.mp h1).mono (fun li S2 h2 H2 μ2 st2 R2 => ?_) fun _ _ z => z.on st1⟩
      refine ⟨ρ, μ2, S2, (e0.mono R0 st1).mono R1 st2, R2, (Wp.bind.mp h2).mono (fun ui S3 h3 H3 μ3 st3 R3 => ?_) fun _ _ z => z.on (st1.trans st2)⟩
      have st := (st1.trans st2).trans st3
      exact ⟨W σ, μ3, S3, d, R3, Den.mono R2 st3 _ _ (Den.mono R1 st2 _ _ dd), h3.mono (fun d S' h4 v H' μ' s R d => h4 v H' μ' (st.trans s) R d) fun c S' z => z.on st⟩
    · cases q
  · rename_i st p
    split at q
    · rename_i hn
      obtain ⟨j, p1, p2, rfl⟩ := isNeg1_of hn
      obtain ⟨x, e1, rfl⟩ := Option.map_eq_some_iff.mp q
      exact pe_rev (h.snd _ _ e1).pe
    · cases q
  · cases q
  · rename_i hb1 hb2 hb3
    split at q
    · rename_i x y e1 e2
      cases q
      have hs : isSlice b = false := by
        cases b with
        | Slice lo hi st p => rw [hsl] at e2; cases e2
        | _ => rfl
      exact PE.of (pe_ix (op_idx) (h.snd _ _ e1).pe (h.snd _ _ e2).pe (plainIx_of hs)) fun σ H Q q => TEof.two q
    · cases q
end
end Rv
set_option Elab.async false
set_option linter.all false
set_option maxRecDepth 100000
set_option maxHeartbeats 4000000
namespace Rv
open PySem PySem.Spec PyProof.Rows L2
/-! ### errors as values -/
theorem erO_ok {P : Program} {w : World} {H : Hp} {h : Heap} {a : Addr} {cls : Value} {d : Option Addr} {oe : Obj} {vs : Array Value} (e : h.get? a = some oe) (z : Zc cls d oe) (q : oe.data = .fields vs) : ObjOk P w H h a (erO cls d a) :=
  ⟨⟨oe, vs, e, z, q⟩, ⟨oe, e⟩, fun _ _ ⟨o, v, q, r⟩ k => ⟨o, v, k o q, r⟩⟩
section
variable {X : Cx} {k j : Nat} {n pre : Str}
theorem Wp.fmt {S : Sto} {d : D} {k : Str → Sto → Prop} {w : Exn → Sto → Prop} (h : Wp (Rv.fmtD d) S k w) : (∃ y, d = .str y ∧ y.length ≤ sizeLine ∧ k y S) ∨ ∃ i, d = .int i ∧ i.natAbs.log2 < 1920 ∧ k (toString i) S := by
  cases d <;> try exact h.elim
  · obtain ⟨z, h⟩ := Wp.need.mp (Wp.bind.mp h)
    exact .inr ⟨_, rfl, z, h⟩
  · obtain ⟨z, h⟩ := Wp.need.mp (Wp.bind.mp h)
    exact .inl ⟨_, rfl, z, h⟩
theorem Wp.kText {S : Sto} {d : D} {k : Unit → Sto → Prop} {w : Exn → Sto → Prop} {K : PySem.W.Frag} {H : Hp} {μ : List Addr} {v : V} (h : Wp (Rv.kText pre d) S k w) (dv : Den K H μ v d) : FmtOk pre v ∧ k () S := by
  have h := Wp.bind.mp h
  rcases Wp.fmt h with ⟨y, rfl, z, h⟩ | ⟨i, rfl, z, h⟩
  · obtain ⟨z2, h⟩ := Wp.need.mp h
    cases dv
    exact ⟨⟨z, z2⟩, h⟩
  · obtain ⟨z2, h⟩ := Wp.need.mp h
    cases dv
    exact ⟨⟨z, z2⟩, h⟩

theorem knew_inv {pins : List (Addr × Obj)} {σ : L2.St} {H1 : Hp} {s1 s' : Shared} {v : V} {u : Value} {C a dx : Addr} (I1 : Inv X pins σ H1 s1) (N : KNew s1 s' C n u a dx) (r1 : RelV v u) :
    H1 a = none ∧ H1 dx = none ∧ ∃ G : Heap, (∀ b o, G.get? b = some o → s'.heap.get? b = some o) ∧ G.get? a = none ∧ Inv X pins σ (upd H1 dx (.xd [(n, v)])) { s' with heap := G } := by
  have hnd : H1 dx = none := I1.hok.gone N.newD
  have hna : H1 a = none := I1.hok.gone N.newA
  obtain ⟨G, g1, g2⟩ := restrict s'.heap fun b => decide (b ≠ a)
  have gk : ∀ b, b ≠ a → G.get? b = s'.heap.get? b := fun b hb => g1 b (decide_eq_true hb)
  have ge : G.get? a = none := g2 a (by simp)
  have kG : ∀ b u, s1.heap.get? b = some u → G.get? b = some u := fun b u z => by
    rw [gk b (fun e => by rw [e, N.newA] at z; cases z)]
    exact N.keep b u z
  have gs : ∀ b o, G.get? b = some o → s'.heap.get? b = some o := fun b o z => by
    by_cases hb : b = a
    · rw [hb, ge] at z; cases z
    · rw [← gk b hb]; exact z
  have J := I1.laidN (h' := G) (a := dx) (o := .xd [(n, v)]) (t' := s'.toks) kG N.newD hnd ⟨_, N.ns.at fun o y => (gk dx (Ne.symm N.ne)).trans y, fun f => by
    by_cases hf : f = n
    · subst hf
      simp [List.lookup]
      exact r1
    · have e : (f == n) = false := by simpa using hf
      simp [List.lookup, e, hf]
      exact True.intro⟩
  refine ⟨hna, hnd, G, gs, ge, ?_⟩
  have J3 := J.call (ch := []) (h' := G) (g' := s'.gens) (t' := s'.toks) (d' := s'.drawn) (H' := upd H1 dx (.xd [(n, v)])) (Un.kept fun _ _ z => z) J.hok (by rw [N.gens]; exact I1.bare) (fun _ z => nomatch z)
  have e5 := N.os
  obtain ⟨a1, a2, a3, a4, a5⟩ := s'
  have e5 : a5 = s1.os := e5
  subst e5
  exact J3
/-- C(e), of a class without an own __init__, as a value -/
theorem pe_mkx {W : SX} {x : Str} {e : Expr} {p pos : Pos} {bmB : List Value} {B newId initId : String} {fe : Rv.Env → M D} (F : ExcBaseFacts B newId initId bmB) (q : PySem.W.excIn X.K (cm X.K j) bmB newId = true) (E : ErC X.K j) (gC : X.mg x = some (.ref (cm X.K j))) (hg : Gl X x)
    (he : PE X e (TEof X.K W fe)) (hs : starEach [e] X.env = (false, eval e X.env) :: starEach [] X.env) (hdb : (x == ("__debug__" : Str)) = false) :
    PE X (.Call (.Name x p) [e] [] pos) (TEof X.K W fun ρ => do let x ← fe ρ; isText x; newO (.exc j [])) := by
  refine ⟨fun pins s σ H Q I h => ?_⟩
  obtain ⟨ρ, μ, S, ee, RR, h⟩ := h
  have hq : TEof X.K W fe σ H fun _ H1 => ∀ a, H1 a = none → Q (.ref a) (upd H1 a (erO (.ref (cm X.K j)) none a)) := ⟨ρ, μ, S, ee, RR, (Wp.bind.mp h).mono (fun d S1 h1 v H1 μ1 st R1 dv a ha => by
    cases d <;> try exact h1.elim
    have h2 := Wp.bind.mp h1
    have h1 : Wp (newO (.exc j [])) S1 (After X.K H μ fun _ v H' _ _ => Q v H') (AfterX X.K (W σ) H μ) := h2
    have h1 := Wp.newO.mp h1
    exact h1 _ _ (μ1 ++ [a]) (st.trans (Step.more ha)) (R1.more ha (.inr ⟨⟨E, fun _ z => nomatch z⟩, none, upd_same, rfl⟩)) (.ref (by rw [← R1.len, List.getElem?_append_right (Nat.le_refl _)]; simp))) fun _ _ z => z⟩
  refine wpAny_Call_Name_kw (ld_glob I hg gC ?_ hdb)
  refine PySem.W.callWith_K (h₀ := X.base) I.ok.mod.kin E.kp ?_ hs (by rfl)
  rw [hs]
  show wpAny _ _ (spliced ((false, eval e X.env) :: backTo pos (starEach [] X.env))) _ _ s
  refine Calls.spliced_cons (thn (he.run pins s σ H _ I hq) fun u s1 ⟨v, H1, I1, r1, q1⟩ => ?_)
  refine Calls.spliced_nil ⟨I1.kIn, ?_⟩
  show wpAny _ _ (call (.ref (cm X.K j)) [u]) _ _ _
  obtain ⟨bm, N, nm, qn, bs, hdct, sn, sub, ab, col, dd, k0, k1, k2, k3, k5, mN, hC, hN, hni, T⟩ := exc_obj I1.kIn q
  refine wpAny_call_exc_subT F T hC hN hni (fun h' a hm => ?_) (by show 1 ≤ sizeLine; rw [sizeLine_eq]; omega)
  have hn : H1 a = none := I1.hok.gone hm.new
  obtain ⟨t, ht, _, _⟩ := hm.there
  exact ⟨.ref a, _, I1.laidN hm.keeps hm.new hn (erO_ok ht ⟨rfl, rfl⟩ rfl), rfl, q1 a hn⟩
/-- ValueError(e), as a value -/
theorem pe_mk0 {W : SX} {e : Expr} {p pos : Pos} {fe : Rv.Env → M D} (hg : Gl X "ValueError") (hm : X.mg "ValueError" = none) (he : PE X e (TEof X.K W fe)) (hs : starEach [e] X.env = (false, eval e X.env) :: starEach [] X.env) :
    PE X (.Call (.Name "ValueError" p) [e] [] pos) (TEof X.K W fun ρ => do let x ← fe ρ; isText x; newO (.exc 0 [])) := by
  refine ⟨fun pins s σ H Q I h => ?_⟩
  obtain ⟨ρ, μ, S, ee, RR, h⟩ := h
  have hq : TEof X.K W fe σ H fun _ H1 => ∀ a, H1 a = none → Q (.ref a) (upd H1 a (erO (.type "ValueError") none a)) := ⟨ρ, μ, S, ee, RR, (Wp.bind.mp h).mono (fun d S1 h1 v H1 μ1 st R1 dv a ha => by
    cases d <;> try exact h1.elim
    have h2 := Wp.bind.mp h1
    have h1 : Wp (newO (.exc 0 [])) S1 (After X.K H μ fun _ v H' _ _ => Q v H') (AfterX X.K (W σ) H μ) := h2
    have h1 := Wp.newO.mp h1
    exact h1 _ _ (μ1 ++ [a]) (st.trans (Step.more ha)) (R1.more ha (.inl ⟨rfl, rfl, upd_same⟩)) (.ref (by rw [← R1.len, List.getElem?_append_right (Nat.le_refl _)]; simp))) fun _ _ z => z⟩
  refine wpAny_Call_Name_kw (ld_blt I hg hm PyProof.Rows.Boot.«ValueError» ?_ (by decide) (by decide))
  refine PyProof.Rows.callWith_type1 ?_ hs (by rfl)
  rw [hs]
  show wpAny _ _ (spliced ((false, eval e X.env) :: backTo pos (starEach [] X.env))) _ _ s
  refine Calls.spliced_cons (thn (he.run pins s σ H _ I hq) fun u s1 ⟨v, H1, I1, r1, q1⟩ => ?_)
  refine Calls.spliced_nil ?_
  obtain ⟨hp1, g1, d1, tk1, os1⟩ := s1
  refine wpAny_call_exc exb_ValueError.call (fun h' a mk => ?_) (by show 1 ≤ sizeLine; rw [sizeLine_eq]; omega)
  have hm := PySem.Heap.MadeExc.of mk
  have hn : H1 a = none := I1.hok.gone hm.new
  obtain ⟨t, ht, _, _⟩ := hm.there
  exact ⟨.ref a, _, I1.laidN (t' := tk1) hm.keeps hm.new hn (erO_ok ht ⟨rfl, rfl⟩ rfl), rfl, q1 a hn⟩
/-- what an error with a field is, as a value -/
theorem mkk_end {W : SX} {pins : List (Addr × Obj)} {σ : L2.St} {H1 : Hp} {s1 s' : Shared} {v : V} {u : Value} {a dx : Addr} {Q : VK} (I1 : Inv X pins σ H1 s1) (N : KNew s1 s' (cm X.K j) n u a dx) (r1 : RelV v u)
    (q : ∀ dx a, H1 dx = none → upd H1 dx (.xd [(n, v)]) a = none → Q (.ref a) (upd (upd H1 dx (.xd [(n, v)])) a (erO (.ref (cm X.K j)) (some dx) a))) : EP X pins σ Q (.ref a) s' := by
  obtain ⟨hna, hnd, G, gs, ge, J⟩ := knew_inv I1 N r1
  obtain ⟨t0, ho⟩ := N.obj
  have hn2 : upd H1 dx (.xd [(n, v)]) a = none := by rw [upd_ne N.ne]; exact hna
  exact ⟨.ref a, _, J.laidN (h' := s'.heap) (t' := s'.toks) gs ge hn2 (erO_ok ho ⟨rfl, rfl⟩ rfl), rfl, q dx a hnd hn2⟩
theorem mkk_wish {W : SX} {fe : Rv.Env → M D} (km : PySem.W.findIn X.K (.ref (cm X.K j)) n = some none) (E : ErC X.K j) {σ : L2.St} {H : Hp} {Q : VK} (h : TEof X.K W (fun ρ => do let x ← fe ρ; kText pre x; newO (.exc j [(n, x)])) σ H Q) :
    TEof X.K W fe σ H fun v H1 => FmtOk pre v ∧ ∀ dx a, H1 dx = none → upd H1 dx (.xd [(n, v)]) a = none → Q (.ref a) (upd (upd H1 dx (.xd [(n, v)])) a (erO (.ref (cm X.K j)) (some dx) a)) := by
  obtain ⟨ρ, μ, S, ee, RR, h⟩ := h
  refine ⟨ρ, μ, S, ee, RR, (Wp.bind.mp h).mono (fun d S1 h1 v H1 μ1 st R1 dv => ?_) fun _ _ z => z⟩
  obtain ⟨f1, h1⟩ := Wp.kText (Wp.bind.mp h1) dv
  refine ⟨f1, fun dx a hn hna => ?_⟩
  have st2 : Step H1 μ1 (upd H1 dx (.xd [(n, v)])) μ1 := Step.aside hn
  have R2 := R1.aside (ho := .xd [(n, v)]) hn
  have st3 := Step.more (μ := μ1) (o := erO (.ref (cm X.K j)) (some dx) a) hna
  have h1 := Wp.newO.mp h1
  refine h1 _ _ (μ1 ++ [a]) (st.trans (st2.trans st3)) (R2.more hna (.inr ⟨⟨E, fun q hq => ?_⟩, some dx, upd_same, ?_⟩)) (.ref (by rw [← R1.len, List.getElem?_append_right (Nat.le_refl _)]; simp))
  · rw [List.mem_singleton.mp hq]
    exact km
  · have x0 : XR X.K (upd H1 dx (.xd [(n, v)])) μ1 (some dx) [(n, d)] := ⟨dx, _, rfl, upd_same, fun f y q => by
      by_cases hf : f = n
      · subst hf
        simp [List.lookup] at q
        subst q
        exact ⟨v, by simp [List.lookup], Den.mono R1 st2 _ _ dv⟩
      · have e : (f == n) = false := by simpa using hf
        simp [List.lookup, e] at q⟩
    exact x0.mono R2 st3
theorem pe_mkk {W : SX} {x : Str} {e : Expr} {p pos : Pos} {fe : Rv.Env → M D} (km : KMk X.prog X.w X.K X.mg X.base k j n pre) (E : ErC X.K j) (hr : Room k X.A) (hgu : X.A.guards = some []) (gC : X.mg x = some (.ref (cm X.K j))) (hg : Gl X x)
    (he : PE X e (TEof X.K W fe)) (hs : starEach [e] X.env = (false, eval e X.env) :: starEach [] X.env) (hdb : (x == ("__debug__" : Str)) = false) :
    PE X (.Call (.Name x p) [e] [] pos) (TEof X.K W fun ρ => do let x ← fe ρ; kText pre x; newO (.exc j [(n, x)])) := by
  refine ⟨fun pins s σ H Q I h => ?_⟩
  refine wpAny_Call_Name_kw (ld_glob I hg gC ?_ hdb)
  refine PySem.W.callWith_K (h₀ := X.base) I.ok.mod.kin E.kp ?_ hs (by rfl)
  rw [hs]
  show wpAny _ _ (spliced ((false, eval e X.env) :: backTo pos (starEach [] X.env))) _ _ s
  refine Calls.spliced_cons (thn (he.run pins s σ H _ I (mkk_wish km.fld E h)) fun u s1 ⟨v, H1, I1, r1, f1, q1⟩ => ?_)
  refine Calls.spliced_nil ⟨I1.kIn, ?_⟩
  show wpAny _ _ (call (.ref (cm X.K j)) [u]) _ _ _
  exact km.run X.A X.stack s1 H1 v u _ _ hr hgu I1.env0 r1 f1 fun a dx s' N => mkk_end (W := W) I1 N r1 q1
theorem pe_mkkK {W : SX} {x : Str} {e : Expr} {p pos kp : Pos} {fe : Rv.Env → M D} (km : KMk X.prog X.w X.K X.mg X.base k j n pre) (E : ErC X.K j) (hr : Room k X.A) (hgu : X.A.guards = some []) (gC : X.mg x = some (.ref (cm X.K j))) (hg : Gl X x)
    (he : PE X e (TEof X.K W fe)) (hdb : (x == ("__debug__" : Str)) = false) :
    PE X (.Call (.Name x p) [] [⟨some n, e, kp⟩] pos) (TEof X.K W fun ρ => do let x ← fe ρ; kText pre x; newO (.exc j [(n, x)])) := by
  refine ⟨fun pins s σ H Q I h => ?_⟩
  refine wpAny_Call_Name_kw (ld_glob I hg gC ?_ hdb)
  have pk : PK X [⟨some n, e, kp⟩] (TAof X.K W fun ρ => do let d ← fe ρ; let ds ← (pure [] : M (List D)); pure (d :: ds)) := ⟨fun pos pins s σ H Q I q => (pk_cons he (t := TAof X.K W fun _ => pure []) ⟨fun pos pins s σ H Q I q => pk_nil.run pos pins s σ H Q I (by
    obtain ⟨ρ, μ, S, e, R, q⟩ := q
    exact Wp.pure.mp q [] H μ (Step.refl _ _) R .nil)⟩).run pos pins s σ H Q I (TAof.cons q)⟩
  have hq := mkk_wish km.fld E h
  have hq2 : TAof X.K W (fun ρ => do let d ← fe ρ; let ds ← (pure [] : M (List D)); pure (d :: ds)) σ H fun vs H1 => ∃ v, vs = [v] ∧ FmtOk pre v ∧ ∀ dx a, H1 dx = none → upd H1 dx (.xd [(n, v)]) a = none → Q (.ref a) (upd (upd H1 dx (.xd [(n, v)])) a (erO (.ref (cm X.K j)) (some dx) a)) := by
    obtain ⟨ρ, μ, S, ee, RR, hq⟩ := hq
    refine ⟨ρ, μ, S, ee, RR, Wp.bind.mpr (hq.mono (fun d S1 h1 => ?_) fun _ _ z => z)⟩
    refine Wp.bind.mpr (Wp.pure.mpr (Wp.pure.mpr fun vs H1 μ1 st R1 dl => ?_))
    cases dl with
    | cons d1 d2 =>
      cases d2
      exact ⟨_, rfl, h1 _ H1 μ1 st R1 d1⟩
  refine PySem.W.callWith_KW0 (h₀ := X.base) I.ok.mod.kin E.kp rfl (thn (pk.run pos pins s σ H _ I hq2) fun ws s1 ⟨zs, H1, I1, r, v, ez, f1, q1⟩ => ⟨I1.kIn, ?_⟩) rfl
  subst ez
  cases r with
  | @cons _ u _ _ r1 r2 =>
    cases r2
    show wpAny _ _ (call (.ref (cm X.K j)) [] [(n, u)]) _ _ _
    exact km.runK X.A X.stack s1 H1 v u _ _ hr hgu I1.env0 r1 f1 fun a dx s' N => mkk_end (W := W) I1 N r1 q1
end
end Rv
set_option Elab.async false
set_option linter.all false
set_option maxRecDepth 100000
set_option maxHeartbeats 4000000
namespace Rv
open PySem PySem.Spec PyProof.Rows L2
/-! ### names of built-in things -/
theorem lookup_mem {α β : Type} [BEq α] [LawfulBEq α] {x : α} {b : β} : ∀ {l : List (α × β)}, l.lookup x = some b → (x, b) ∈ l
  | [], h => by cases h
  | (y, c) :: r, h => by
    rw [List.lookup_cons] at h
    cases e : x == y with
    | true =>
      rw [e] at h
      cases h
      rw [beq_iff_eq.mp e]
      exact List.mem_cons_self
    | false =>
      rw [e] at h
      exact List.mem_cons_of_mem _ (lookup_mem h)
def bltOk (x : Str) (u : Value) : Prop := x ∈ bltAll ∧ bootBuiltins x = some u
theorem tyNames_ok : ∀ p ∈ tyNames, bltOk p.1 (.type p.2.name) := by
  intro p hp
  simp only [tyNames, List.mem_cons, List.not_mem_nil, or_false] at hp
  rcases hp with rfl | rfl | rfl | rfl | rfl
  all_goals exact ⟨by decide +kernel, by decide +kernel⟩
theorem biNames_ok : ∀ p ∈ biNames, bltOk p.1 p.2.val := by
  intro p hp
  simp only [biNames, List.mem_cons, List.not_mem_nil, or_false] at hp
  rcases hp with rfl | rfl | rfl | rfl | rfl | rfl | rfl | rfl | rfl | rfl | rfl | rfl
  all_goals exact ⟨by decide +kernel, by decide +kernel⟩
theorem inst_ok : bltOk (strS "isinstance") (.builtin "isinstance") := ⟨by decide +kernel, by decide +kernel⟩
theorem BiK.form (k : BiK) : (∃ id, k.val = .builtin id) ∨ ∃ T, k.val = .type T := by
  cases k <;> first | exact .inl ⟨_, rfl⟩ | exact .inr ⟨_, rfl⟩
theorem plain_ne {x : Str} (h : plainName x = true) : x ≠ ("__name__" : Str) ∧ (x == ("__debug__" : Str)) = false ∧ (x == ("__classdict__" : Str)) = false := by
  simp only [plainName, Bool.and_eq_true, Bool.not_eq_true'] at h
  exact ⟨fun e => by have := h.2; rw [beq_eq_false_iff_ne] at this; exact this e, h.1.1, h.1.2⟩
/-! ### errors: of which class, their fields -/
theorem Wp.isXD {S : Sto} {d : D} {j : Nat} {k : Bool → Sto → Prop} {w : Exn → Sto → Prop} (h : Wp (Rv.isXD d j) S k w) : ∃ n c fs, d = .ref n ∧ S[n]? = some (.exc c fs) ∧ k (subC c j) S := by
  cases d with
  | ref n =>
    unfold Wp Rv.isXD at h
    cases e : S[n]? with
    | none => simp only [e] at h
    | some o =>
      cases o with
      | exc c fs =>
        simp only [e] at h
        exact ⟨n, c, fs, rfl, e, h⟩
      | lst xs => simp only [e] at h
      | dic xs => simp only [e] at h
  | _ => exact h.elim
theorem Wp.fldD {S : Sto} {d : D} {f : Str} {k : D → Sto → Prop} {w : Exn → Sto → Prop} (h : Wp (Rv.fldD d f) S k w) : ∃ n c fs x, d = .ref n ∧ S[n]? = some (.exc c fs) ∧ fs.lookup f = some x ∧ k x S := by
  cases d with
  | ref n =>
    unfold Wp Rv.fldD at h
    cases e : S[n]? with
    | none => simp only [e] at h
    | some o =>
      cases o with
      | exc c fs =>
        simp only [e] at h
        cases e2 : fs.lookup f with
        | none => simp only [e2] at h
        | some x =>
          simp only [e2] at h
          exact ⟨n, c, fs, x, rfl, e, e2, h⟩
      | lst xs => simp only [e] at h
      | dic xs => simp only [e] at h
  | _ => exact h.elim
section
variable {K : PySem.W.Frag} {c j : Nat}
theorem ErC.cls (E : ErC K c) : ∃ cd, PySem.W.clsIn K (cm K c) = some cd ∧ cd.mro = clMro K c := by
  obtain ⟨cd, h1, h2⟩ := Option.map_eq_some_iff.mp E.mro
  exact ⟨cd, h1, h2⟩
theorem ErC.sub (E : ErC K c) (v : Value) : PySem.W.subIn K (.ref (cm K c)) v = some ((clMro K c).contains v) := by
  obtain ⟨cd, h1, h2⟩ := E.cls
  show PySem.W.mroIn K (cm K c) v = _
  unfold PySem.W.mroIn
  rw [h1, Option.bind_some, h2]
  rfl
theorem ErC.ne (E : ErC K c) (J : ErC K j) (h : c ≠ j) : (Value.ref (cm K j) == Value.ref (cm K c)) = false := by
  rw [beq_eq_false_iff_ne]
  intro z
  exact h (E.inj j J.pos J.lt (Value.ref.inj z)).symm
theorem tail_no (a : Addr) : PySem.HandSPX.veTail.contains (.ref a) = false := by
  simp [PySem.HandSPX.veTail]
theorem ErC.has (E : ErC K c) (J : ErC K j) : (clMro K c).contains (.ref (cm K j)) = subC c j := by
  have hp := E.pos
  have hj := J.pos
  by_cases e : c = j
  · subst e
    unfold clMro subC
    simp
  · have ne := E.ne J e
    have e1 : (c == j) = false := by simpa using e
    have e2 : (j == 0) = false := by simp; omega
    unfold clMro subC
    rw [List.contains_cons, ne, Bool.false_or, e1, e2, Bool.false_or, Bool.false_or]
    by_cases h1 : c = 1
    · have h2 : (j == 1) = false := by simp; omega
      rw [if_pos h1, List.nil_append, tail_no, h2]
      rfl
    · rw [if_neg h1]
      show ((Value.ref (cm K 1)) :: PySem.HandSPX.veTail).contains (.ref (cm K j)) = _
      rw [List.contains_cons, tail_no, Bool.or_false]
      have hc : decide (1 ≤ c) = true := by simpa using hp
      rw [hc, Bool.and_true]
      by_cases h2 : j = 1
      · subst h2
        simp
      · have h3 : (j == 1) = false := by simpa using h2
        rw [h3, beq_eq_false_iff_ne]
        intro z
        exact h2 (J.inj 1 (Nat.le_refl _) (by omega) (Value.ref.inj z).symm).symm
theorem ErC.own (E : ErC K c) (J : ErC K j) : PySem.W.kitCls K (.ref (cm K c)) (.ref (cm K j)) = some (subC c j) := by
  obtain ⟨cd, h1, _⟩ := J.cls
  show (if ((PySem.W.clsIn K (cm K j)).isSome && PySem.W.typeIn K (Value.ref (cm K j)) == some (Value.type "type")) = true then PySem.W.subIn K (Value.ref (cm K c)) (.ref (cm K j)) else none) = _
  rw [if_pos (by rw [h1, J.ty]; rfl), E.sub, E.has J]
theorem ErC.one (E : ErC K c) (J : ErC K j) : PySem.W.kitOne K (.ref (cm K c)) (.ref (cm K j)) = some (subC c j) := by
  unfold PySem.W.kitOne
  by_cases h : (Value.ref (cm K c) == Value.ref (cm K j)) = true
  · rw [if_pos h]
    have : c = j := J.inj c E.pos E.lt (Value.ref.inj (beq_iff_eq.mp h))
    subst this
    unfold subC
    simp
  · rw [if_neg h]
    exact E.own J
theorem ErC.ve (E : ErC K c) : PySem.W.kitOne K (.ref (cm K c)) (.type "ValueError") = some (subC c 0) := by
  unfold PySem.W.kitOne PySem.W.kitCls
  rw [if_neg (by simp)]
  show (if PySem.W.kitMeta "ValueError" = true then _ else _) = _
  rw [if_pos (by decide +kernel), E.sub]
  unfold clMro subC
  congr 1
  rw [List.contains_cons]
  split <;> simp [PySem.HandSPX.veTail]
theorem ve_mro : fastBuiltinMro "ValueError" = some PySem.HandSPX.veTail := by kernel_rfl
theorem ErC.one0 (J : ErC K j) : PySem.W.kitOne K (.type "ValueError") (.ref (cm K j)) = some (subC 0 j) := by
  obtain ⟨cd, h1, _⟩ := J.cls
  unfold PySem.W.kitOne
  rw [if_neg (by simp)]
  show (if ((PySem.W.clsIn K (cm K j)).isSome && PySem.W.typeIn K (Value.ref (cm K j)) == some (Value.type "type")) = true then (fastBuiltinMro "ValueError").map (·.contains (.ref (cm K j))) else none) = _
  rw [if_pos (by rw [h1, J.ty]; rfl), ve_mro, Option.map_some, tail_no]
  have := J.pos
  unfold subC
  have e1 : (0 == j) = false := by simp; omega
  have e2 : (j == 0) = false := by simp; omega
  rw [e1, e2]
  simp
theorem ve_one : PySem.W.kitOne K (.type "ValueError") (.type "ValueError") = some (subC 0 0) := by
  unfold PySem.W.kitOne
  rw [if_pos (by decide)]
  rfl
theorem ErC.exm (E : ErC K c) (J : ErC K j) : PySem.W.exmOne K (.ref (cm K c)) (.ref (cm K j)) = some (subC c j) := by
  unfold PySem.W.exmOne
  rw [if_pos (by rw [J.ic.hs]; rfl)]
  exact E.own J
end
theorem XR.inst {P : Program} {w : World} {K : PySem.W.Frag} {H : Hp} {μ : List Addr} {h : Heap} {a : Addr} {c : Nat} {d : Option Addr} {fs : List (Str × D)} (hok : HOk P w H h) (ha : H a = some (erO (.ref (cm K c)) d a)) (x : XR K H μ d fs) :
    ∃ oe od, PySem.W.InstAt h a oe (cm K c) od ∧ ∀ f y, fs.lookup f = some y → ∃ o v u, od = some o ∧ PySem.W.lookIn f o = some (some u) ∧ RelV v u ∧ Den K H μ v y := by
  have q : ObjOk P w H h a (.ext fun h => ∃ oe vs, h.get? a = some oe ∧ Zc (.ref (cm K c)) d oe ∧ oe.data = .fields vs) := hok a _ ha
  obtain ⟨⟨oe, vs, hget, hz, hd⟩, _⟩ := q
  have hn : PySem.W.notCls oe = true := by unfold PySem.W.notCls; rw [hd] <;> rfl
  cases fs with
  | nil =>
    refine ⟨oe, none, ⟨hget, hz.1, hn, ?_⟩, fun f y e => by cases e⟩
    rw [hz.2, show d = none from x]
    trivial
  | cons p fs =>
    obtain ⟨dd, us, rfl, e, hl⟩ := x
    have hx : ObjOk P w H h dd (.xd us) := hok dd _ e
    obtain ⟨mA, hns, hr⟩ := hx
    obtain ⟨od, ho, hlk⟩ := lookIn_ns hns
    refine ⟨oe, some od, ⟨hget, hz.1, hn, by rw [hz.2]; exact ho⟩, fun f y e => ?_⟩
    obtain ⟨v, h1, h2⟩ := hl f y e
    obtain ⟨u, hu, ru⟩ := RelO.some_of (v := v) (o := mA f) (by rw [← h1]; exact hr f)
    exact ⟨od, v, u, rfl, by rw [hlk, hu], ru, h2⟩
theorem call_isX {X : Cx} {j : Nat} {cv : Value} {cV x : V} {pins : List (Addr × Obj)} {s : Shared} {σ : L2.St} {H : Hp} {us : List Value} {Q : VK} (hu : ∀ u, RelV cV u → u = cv) (one : ∀ c, ErC X.K c → PySem.W.kitOne X.K (.ref (cm X.K c)) cv = some (subC c j)) (one0 : PySem.W.kitOne X.K (.type "ValueError") cv = some (subC 0 j))
    (I : Inv X pins σ H s) (r : Vals [x, cV] us) (h : R1of X.K (fun x => do let k ← isXD x j; pure (.bl k)) x H Q) : wpAny (model X.prog X.w) X.A (call (.builtin "isinstance") us) (EP X pins σ Q) X.xe s := by
  obtain ⟨W, μ, S, a, R, da, h⟩ := h
  obtain ⟨n, c, fs, rfl, e, h⟩ := Wp.isXD (Wp.bind.mp h)
  have q := Wp.pure.mp h _ H μ (Step.refl _ _) R (.bl _)
  cases da with
  | @ref a0 _ h1 =>
    rcases R.obj _ _ _ h1 e with ⟨rfl, rfl, ha⟩ | ⟨⟨E, _⟩, d, ha, xr⟩
    · have q0 : ObjOk X.prog X.w H s.heap a0 (.ext fun h => ∃ oe vs, h.get? a0 = some oe ∧ Zc (.type "ValueError") none oe ∧ oe.data = .fields vs) := I.hok a0 _ ha
      obtain ⟨⟨oe, vs, hget, hz, hd⟩, _⟩ := q0
      cases r with
      | cons rx rr =>
        cases rr with
        | cons rt rr =>
          cases rr
          cases rx
          have ec := hu _ rt
          subst ec
          exact PySem.W.kia_one (PySem.W.kitx_bexc PySem.F.excAttr_ValueError PySem.F.lkClass_ValueError PySem.F.soClass_ValueError (by decide)) I.kIn ⟨oe, hget, hz.1⟩ one0 (fun z => nomatch z) fun tk => ⟨.bl _, H, I.kept (t' := tk) fun _ _ z => z, rfl, q⟩
    obtain ⟨oe, od, J, _⟩ := xr.inst I.hok ha
    cases r with
    | cons rx rr =>
      cases rr with
      | cons rt rr =>
        cases rr
        cases rx
        have ec := hu _ rt
        subst ec
        obtain ⟨cd, hcd, _⟩ := E.cls
        exact PySem.W.kia_one (PySem.W.kitx_exc (by rw [hcd]; rfl) E.ic.hg E.ic.hk E.ic.hs E.ic.ha E.ic.hn E.ic.ht E.ic.hm) I.kIn J (one c E) (fun z => nomatch z) fun tk => ⟨.bl _, H, I.kept (t' := tk) fun _ _ z => z, rfl, q⟩
theorem pe_fld {X : Cx} {W : SX} {e : Expr} {n : Str} {pos : Pos} {fe : Rv.Env → M D} (he : PE X e (TEof X.K W fe)) (hb : attributeBase e n X.env (eval e X.env) = eval e X.env) : PE X (.Attribute e n pos) (TEof X.K W fun ρ => do let x ← fe ρ; fldD x n) := by
  refine ⟨fun pins s σ H Q I h => ?_⟩
  refine attr_of hb (thn (he.run pins s σ H _ I (TEof.one h)) fun u s1 hh => ?_)
  obtain ⟨x, H1, I1, rx, W', μ, S, a, R, da, h⟩ := hh
  obtain ⟨k, c, fs, y, rfl, e1, e2, h⟩ := Wp.fldD h
  cases da with
  | @ref a0 _ h1 =>
    rcases R.obj _ _ _ h1 e1 with ⟨_, rfl, _⟩ | ⟨⟨E, hF⟩, d, ha, xr⟩
    · cases e2
    obtain ⟨oe, od, J, hl⟩ := xr.inst I1.hok ha
    obtain ⟨o, v, w, rfl, h3, rv, dv⟩ := hl n y e2
    obtain rfl : u = Value.ref a0 := rx
    have hno := hF _ (lookup_mem e2)
    exact HandSPX.exc_get I1.kIn J E.xf.ga E.xf.gg E.xf.exC (PySem.W.findObj_own E.xf.hdC hno rfl h3) (handed_of rv) ⟨v, H1, I1.tok _, rv, h v H1 μ (Step.refl _ _) R dv⟩
section
variable {X : Cx} {W : SX} {C : Cfg} {c : Ctx} {k : Nat} {sc : Scope} {f : Expr → Option E} {x : Str} {p pos cpos apos : Pos} {i : E}
theorem isStar_head {e : Expr} {es : List Expr} (h : ∀ y ∈ e :: es, isStar y = false) : starEach (e :: es) X.env = (false, eval e X.env) :: starEach es X.env := starEach_cons (h e List.mem_cons_self)
theorem isStar_tail {e : Expr} {es : List Expr} (h : ∀ y ∈ e :: es, isStar y = false) {pos : Pos} : (backTo pos (starEach es X.env)).any (·.1) = false := back_any fun y hy => h y (List.mem_cons_of_mem _ hy)
theorem cInst_snd (g : Good c C k X W sc) (h : Each X C W f) {args : List Expr} (hg : isGlob sc (strS "isinstance") = true) (q : cInst c sc f args = some i) : PE X (.Call (.Name (strS "isinstance") p) args [] pos) (TEof X.K W (ev C i)) := by
  unfold cInst at q
  split at q
  · rename_i a t tp
    split at q
    · rename_i ht
      rw [Bool.and_eq_true] at ht
      obtain ⟨ht, hpl⟩ := ht
      obtain ⟨n1, n2, _⟩ := plain_ne hpl
      obtain ⟨b3, b4⟩ := inst_ok
      have hs' : ∀ {y : E}, f a = some y → ∀ y ∈ [a, Expr.Name t tp], isStar y = false := fun e2 y hy => by
        rcases List.mem_cons.mp hy with rfl | hy
        · exact h.star _ _ e2
        · rw [List.mem_singleton.mp hy]
          rfl
      have gen : ∀ {y : E} {cV : V} {gx : D → M D}, f a = some y → (∀ (pins : List (Addr × Obj)) (s : Shared) (σ : L2.St) (H : Hp) (us : List Value) (Q : VK) (x : V), Inv X pins σ H s → Vals [x, cV] us → R1of X.K gx x H Q → wpAny (model X.prog X.w) X.A (call (.builtin "isinstance") us) (EP X pins σ Q) X.xe s) → PE X (.Name t tp) (tC cV) →
          PE X (.Call (.Name (strS "isinstance") p) [a, .Name t tp] [] pos) (TEof X.K W fun ρ => do let x ← ev C y ρ; gx x) := fun {y cV gx} e2 hc hn => by
        have hs := hs' e2
        refine PE.of (pe_callB (id := "isinstance") (r := fun vs H Q => ∃ x, vs = [x, cV] ∧ R1of X.K gx x H Q) (fun pins s σ H vs us Q I r q => ?_) (g.gl _ hg) (g.G.blt _ b3) b4
          (pa_cons (h.snd _ _ e2).pe (pa_cons hn pa_nil)  (isStar_head hs)) (by decide +kernel) (by decide +kernel) (isStar_head hs) (isStar_tail hs)) fun σ H Q q => ?_
        · obtain ⟨x, rfl, q⟩ := q
          exact hc _ _ _ _ _ _ _ I r q
        · exact (TEof.one q).mono fun v H1 q => ⟨v, rfl, q⟩
      split at q
      · rename_i k' y e1 e2
        cases q
        obtain ⟨b1, b2⟩ := tyNames_ok _ (lookup_mem e1)
        exact gen e2 (fun _ _ _ _ _ _ _ I r q => call_inst k' I r q) (pe_bltn (v := .ty k'.name) (u := .type k'.name) (g.gl _ ht) (g.G.blt _ b1) b2 rfl n1 n2)
      · rename_i y e1 e2
        split at q
        · rename_i j o e3
          cases q
          obtain ⟨_, _, m, J⟩ := g.G.er _ _ _ e3
          exact gen e2 (fun _ _ _ _ _ _ _ I r q => call_isX (j := j) (cv := .ref (cm X.K j)) (cV := .ref (cm X.K j)) (fun u z => z) (fun c E => E.one J) J.one0 I r q) (pe_glob (v := .ref (cm X.K j)) (g.gl _ ht) m rfl n2)
        · split at q
          · rename_i e4
            cases q
            have e4 := beq_iff_eq.mp e4
            subst e4
            exact gen e2 (fun _ _ _ _ _ _ _ I r q => call_isX (j := 0) (cv := .type "ValueError") (cV := .ty "ValueError") (fun u z => z) (fun c E => E.ve) ve_one I r q) (pe_bltn (v := .ty "ValueError") (u := .type "ValueError") (g.gl _ ht) g.G.ve PyProof.Rows.Boot.«ValueError» rfl n1 n2)
          · cases q
      · cases q
    · cases q
  · cases q
theorem cCallN_pe (g : Good c C k X W sc) (h : Each X C W f) (hx : isGlob sc x = true) (hp : plainName x = true) {args : List Expr} (q : cCallN c sc f x args = some i) : PE X (.Call (.Name x p) args [] pos) (TEof X.K W (ev C i)) := by
  obtain ⟨n1, n2, _⟩ := plain_ne hp
  unfold cCallN at q
  split at q
  · rename_i e
    rw [beq_iff_eq.mp e] at hx ⊢
    exact cInst_snd g h hx q
  · split at q
    · rename_i j o e0
      obtain ⟨_, _, m, EC⟩ := g.G.er _ _ _ e0
      split at q
      · cases q
      rename_i hz
      have hh : c.hot = false := by simpa using hz
      split at q
      · rename_i a
        split at q
        · rename_i y e1
          cases q
          exact pe_mkx F.excBase_ValueError (g.G.mk0 _ _ e0) EC m (g.gl _ hx) (h.snd _ _ e1).pe (starEach_cons (h.star _ _ e1)) n2
        · rename_i nn pre y e1
          cases q
          exact pe_mkk (g.G.mkk _ _ _ _ e0) EC (g.room hh) g.gd.guards m (g.gl _ hx) (h.snd _ _ e1).pe (starEach_cons (h.star _ _ e1)) n2
        · cases q
      · cases q
    split at q
    · rename_i ev
      have ev := beq_iff_eq.mp ev
      subst ev
      split at q
      · rename_i a
        obtain ⟨y, e1, rfl⟩ := Option.map_eq_some_iff.mp q
        exact pe_mk0 (g.gl _ hx) g.G.ve (h.snd _ _ e1).pe (starEach_cons (h.star _ _ e1))
      · cases q
    split at q
    · cases q
    · cases q
    · rename_i a as ys e1
      have hs := eachE_star h e1
      have hA := eachE_pa h e1
      split at q
      · rename_i j ps e2
        split at q
        · rename_i hz
          simp only [Bool.and_eq_true, Bool.not_eq_true'] at hz
          have hh := hz.2
          cases q
          obtain ⟨ad, fd, m1, m2, m3, F, _⟩ := g.G.fn _ _ _ e2
          exact pe_callG g.tk F (g.room hh) g.gd.guards (g.gl _ hx) m1 m2 m3 hA n2 (isStar_head hs) (isStar_tail hs)
        · cases q
      · split at q
        · rename_i hgc
          cases q
          simp only [Bool.and_eq_true, beq_iff_eq] at hgc
          obtain ⟨h1, rfl⟩ := hgc
          exact PE.of (pe_callBfun (op_bi g.gd .gcd (by intro z; cases z)) (g.gl _ hx) (g.G.gcd h1) hA n2 (isStar_head hs) (isStar_tail hs)) fun σ H Q q => TEof.args q
        · split at q
          rotate_left
          · cases q
          rename_i b e3
          split at q
          · cases q
          rename_i hz
          cases q
          obtain ⟨b1, b2⟩ := biNames_ok _ (lookup_mem e3)
          have hb := op_bi g.gd b (fun z => g.calm (by
            simp only [Bool.and_eq_true, Bool.not_eq_true'] at hz
            cases e : c.hot with
            | false => rfl
            | true => exact absurd ⟨e, z⟩ hz))
          have b2 : bootBuiltins x = some b.val := b2
          rcases b.form with ⟨id, e4⟩ | ⟨T, e4⟩
          · rw [e4] at hb b2
            exact PE.of (pe_callB hb (g.gl _ hx) (g.G.blt _ b1) b2 hA n1 n2 (isStar_head hs) (isStar_tail hs)) fun σ H Q q => TEof.args q
          · rw [e4] at hb b2
            exact PE.of (pe_callTy hb (g.gl _ hx) (g.G.blt _ b1) b2 hA n1 n2 (isStar_head hs) (isStar_tail hs)) fun σ H Q q => TEof.args q
theorem kwE_pk (h : Each X C W f) : ∀ {kws : List Keyword} {ys : Es}, kwE f kws = some ys → PK X kws (TAof X.K W (evs C ys))
  | [], ys, q => by
    cases q
    refine ⟨fun pos pins s σ H Q I q => pk_nil.run pos pins s σ H Q I ?_⟩
    obtain ⟨ρ, μ, S, e, R, q⟩ := q
    exact Wp.pure.mp q [] H μ (Step.refl _ _) R .nil
  | ⟨nm, e, kp⟩ :: r, ys, q => by
    unfold kwE at q
    cases e1 : f e with
    | none => rw [e1] at q; cases q
    | some i =>
      cases e2 : kwE f r with
      | none => rw [e1, e2] at q; cases q
      | some is' =>
        rw [e1, e2] at q
        cases q
        exact ⟨fun pos pins s σ H Q I q => (pk_cons (h.snd _ _ e1).pe (kwE_pk h e2)).run pos pins s σ H Q I (TAof.cons q)⟩
theorem kw_names {env : PySem.Env} : ∀ {kws : List Keyword} {ks : List Str}, kwNames kws = some ks →
    (backToKw pos (keywordEach kws env)).all (·.1.isSome) = true ∧ (backToKw pos (keywordEach kws env)).filterMap (·.1) = ks ∧ (backToKw pos (keywordEach kws env)).any (·.1.isNone) = false
  | [], ks, q => by cases q; exact ⟨rfl, rfl, rfl⟩
  | ⟨some x, e, kp⟩ :: r, ks, q => by
    obtain ⟨ks', e1, rfl⟩ := Option.map_eq_some_iff.mp (show (kwNames r).map (x :: ·) = some ks from q)
    obtain ⟨h1, h2, h3⟩ := kw_names (env := env) e1
    have he : backToKw pos (keywordEach (⟨some x, e, kp⟩ :: r) env) = (some x, do let v ← eval e env; standAt pos; pure v) :: backToKw pos (keywordEach r env) := rfl
    rw [he]
    refine ⟨?_, ?_, ?_⟩
    · rw [List.all_cons, h1]; rfl
    · rw [List.filterMap_cons, h2]
    · rw [List.any_cons, h3]; rfl
  | ⟨none, e, kp⟩ :: r, ks, q => by cases q
theorem cCallK_pe (g : Good c C k X W sc) (h : Each X C W f) (hx : isGlob sc x = true) (hp : plainName x = true) {kws : List Keyword} (q : cCallK c f x kws = some i) : PE X (.Call (.Name x p) [] kws pos) (TEof X.K W (ev C i)) := by
  obtain ⟨n1, n2, _⟩ := plain_ne hp
  unfold cCallK at q
  split at q
  · rename_i j nn pre e0
    obtain ⟨_, _, m, EC⟩ := g.G.er _ _ _ e0
    split at q
    · cases q
    rename_i hz
    have hh : c.hot = false := by simpa using hz
    split at q
    · rename_i mm e kp
      split at q
      · rename_i hm
        subst hm
        obtain ⟨y, e1, rfl⟩ := Option.map_eq_some_iff.mp q
        exact pe_mkkK (g.G.mkk _ _ _ _ e0) EC (g.room hh) g.gd.guards m (g.gl _ hx) (h.snd _ _ e1).pe n2
      · cases q
    · cases q
  split at q
  · rename_i ks ys j ps e1 e2 e3
    split at q
    · cases q
    rename_i hz
    have hh : c.hot = false := by simpa using hz
    obtain ⟨w, e4, rfl⟩ := Option.map_eq_some_iff.mp q
    have hw := List.find?_some e4
    simp only [Bool.and_eq_true, beq_iff_eq, decide_eq_true_eq] at hw
    obtain ⟨ad, fd, m1, m2, m3, F, hk⟩ := g.G.fn _ _ _ e3
    obtain ⟨k1, k2, k3⟩ := kw_names (env := X.env) (pos := pos) e1
    have hk := hk w (List.mem_of_find?_eq_some e4) hw.1
    rw [hw.2] at hk
    exact pe_callKG (gk := fun _ => fail) (tk := tNil) g.tk F (g.room hh) g.gd.guards (g.gl _ hx) m1 m2 hk (kwE_pk h e2) k1 k2 n2 (by rw [k3]; rfl)
  · cases q
/-! ### methods -/
def MethK.owner (k : MethK) : String := if k.ofStr then "str" else "list"
theorem MethK.attrs (k : MethK) : PlainAttrs k.owner := by
  unfold MethK.owner
  split
  · exact F.plainAttrs_str
  · exact F.plainAttrs_list
theorem MethK.slot {m : Str} {k : MethK} (h : methNames.lookup m = some k) : Slot k.owner m k.id ∧ typeOf (.builtin k.id) = pure (.type "method_descriptor") := by
  have h := lookup_mem h
  simp only [methNames, List.mem_cons, List.not_mem_nil, or_false] at h
  rcases h with h | h | h | h | h | h | h | h | h | h | h | h | h <;> cases h
  · exact ⟨F.slot_list_append, F.type_list_append⟩
  · exact ⟨F.slot_list_pop, F.type_list_pop⟩
  · exact ⟨F.slot_list_extend, F.type_list_extend⟩
  · exact ⟨F.slot_str_upper, F.type_str_upper⟩
  · exact ⟨F.slot_str_lower, F.type_str_lower⟩
  · exact ⟨F.slot_str_isdigit, F.type_str_isdigit⟩
  · exact ⟨F.slot_str_startswith, F.type_str_startswith⟩
  · exact ⟨F.slot_str_endswith, F.type_str_endswith⟩
  · exact ⟨F.slot_str_split, F.type_str_split⟩
  · exact ⟨F.slot_str_join, F.type_str_join⟩
  · exact ⟨F.slot_list_insert, F.type_list_insert⟩
  · exact ⟨F.slot_list_index, F.type_list_index⟩
  · exact ⟨F.slot_str_partition, F.type_str_partition⟩
theorem base_of {o : Expr} {m : Str} {env : PySem.Env} {w : Sem Value} (h : ∀ id p pos, o ≠ .Call (.Name id p) [] [] pos) : attributeBase o m env w = w := by
  cases o with
  | Call fn args kws ps =>
    cases fn with
    | Name id p =>
      cases args with
      | nil =>
        cases kws with
        | nil => exact absurd rfl (h _ _ _)
        | cons _ _ => rfl
      | cons _ _ => rfl
    | _ => rfl
  | _ => rfl
theorem cMeth_pe (g : Good c C k X W sc) (h : Each X C W f) (hsup : ∀ id p pos, f (.Call (.Name id p) [] [] pos) = none) {o : Expr} {m : Str} {args : List Expr} (q : cMeth f o m apos args cpos = some i) : PE X (.Call (.Attribute o m apos) args [] cpos) (TEof X.K W (ev C i)) := by
  unfold cMeth at q
  split at q
  · rename_i hc
    simp only [Bool.and_eq_true, decide_eq_true_eq] at hc
    split at q
    · rename_i mk y ys e1 e2 e3
      cases q
      obtain ⟨s1, s2⟩ := MethK.slot e1
      have hs := eachE_star h e3
      have hb : attributeBase o m X.env (eval o X.env) = eval o X.env := base_of fun id p pos e => by rw [e, hsup] at e2; cases e2
      have hA := eachE_pa h e3
      have key : ∀ σ H Q, TEof X.K W (ev C (.meth mk y ys)) σ H Q → TEof X.K W (ev C y) σ H fun x H1 => tyV X.K mk.owner x H1 ∧ TAof X.K W (evs C ys) σ H1 fun xs H2 => RMof X.K (methD mk) x xs H2 Q := fun σ H Q q => by
        obtain ⟨ρ, μ0, S0, e0, R0, q⟩ := q
        refine ⟨ρ, μ0, S0, e0, R0, (Wp.bind.mp q).mono (fun d S1 h1 v H1 μ1 st1 R1 dd => ?_) fun _ _ z => z⟩
        have h1 := Wp.bind.mp h1
        have ⟨ty, h1⟩ : tyV X.K mk.owner v H1 ∧ Wp (do let ds ← evs C ys ρ; methD mk d ds) S1 (After X.K H μ0 fun _ v H' _ _ => Q v H') (AfterX X.K (W σ) H μ0) := by
          unfold MethK.owner
          cases hk : mk.ofStr with
          | true =>
            unfold recvD at h1
            rw [hk] at h1
            cases d <;> try exact h1.elim
            cases dd
            exact ⟨rfl, Wp.pure.mp h1⟩
          | false =>
            unfold recvD at h1
            rw [hk] at h1
            cases d <;> try exact h1.elim
            cases dd with
            | @ref a0 _ hn =>
              obtain ⟨xs, e4, h1⟩ := Wp.items.mp (Wp.bind.mp h1)
              obtain ⟨vs, h3, h4⟩ := R1.obj _ _ _ hn e4
              exact ⟨.inl ⟨rfl, vs, .of h3⟩, Wp.pure.mp h1⟩
        refine ⟨ty, ρ, μ1, S1, e0.mono R0 st1, R1, (Wp.bind.mp h1).mono (fun ds S2 h2 us H2 μ2 st2 R2 dl => ?_) fun _ _ z => z.on st1⟩
        exact ⟨W σ, μ2, S2, d, ds, R2, Den.mono R1 st2 _ _ dd, dl, h2.mono (fun d S' h5 v H' μ' s R d => h5 v H' μ' ((st1.trans st2).trans s) R d) fun c S' z => z.on (st1.trans st2)⟩
      cases args with
      | nil =>
        refine PE.of (pe_bm0 mk.attrs s1 s2 (op_meth g.units mk) (h.snd _ _ e2).pe hb hc.1.1) fun σ H Q q => ?_
        cases e3
        refine (key σ H Q q).mono fun v H1 ⟨q1, q2⟩ => ⟨q1, ?_⟩
        obtain ⟨ρ, μ1, S1, e, R, q2⟩ := q2
        exact Wp.pure.mp q2 [] H1 μ1 (Step.refl _ _) R .nil
      | cons a as =>
        refine PE.of (pe_bm mk.attrs s1 s2 (op_meth g.units mk) (h.snd _ _ e2).pe hA hb ?_ hc.1.1 (isStar_head hs) (isStar_tail hs)) key
        have hl : as.length + 1 < 20 := hc.1.2
        have h1 : (backTo cpos (starEach (a :: as) X.env)).all (fun x => !x.1) = true := by
          have := back_any (env := X.env) (pos := cpos) hs
          rw [List.any_eq_false] at this
          rw [List.all_eq_true]
          intro z hz
          simpa using this z hz
        rw [h1]
        have h2 : (backToKw cpos (keywordEach [] X.env)).all (fun x => x.1.isSome) = true := rfl
        rw [h2]
        simp only [Bool.true_and, decide_eq_true_eq]
        show as.length + 1 + 0 + 0 < 30
        omega
    · cases q
  · cases q
theorem cCall_pe (g : Good c C k X W sc) (h : Each X C W f) (hsup : ∀ id p pos, f (.Call (.Name id p) [] [] pos) = none) {fn : Expr} {args : List Expr} {kws : List Keyword} (q : cCall c sc f fn args kws cpos = some i) : PE X (.Call fn args kws cpos) (TEof X.K W (ev C i)) := by
  unfold cCall at q
  split at q
  · split at q
    · rename_i e
      rw [Bool.and_eq_true] at e
      exact cCallN_pe g h e.1 e.2 q
    · cases q
  · split at q
    · split at q
      · rename_i e
        rw [Bool.and_eq_true] at e
        exact cCallK_pe g h e.1 e.2 q
      · cases q
    · cases q
  · exact cMeth_pe g h hsup q
  · cases q
end
end Rv
set_option Elab.async false
set_option linter.all false
set_option maxRecDepth 100000
set_option maxHeartbeats 4000000
namespace Rv
open PySem PySem.Spec PyProof.Rows L2
section
variable {X : Cx} {W : SX} {C : Cfg} {c : Ctx} {k : Nat} {sc : Scope} {f : Expr → Option E} {x : Str} {p pos cpos apos : Pos} {i : E}
/-! ### what is walked -/
theorem rng_ok : strS "range" ∈ bltAll ∧ strS "enumerate" ∈ bltAll ∧ strS "zip" ∈ bltAll := by decide +kernel
theorem isTup_of {e : Expr} (h : isTup e = true) : ∃ es kk pos, e = .Tuple es kk pos := by
  cases e <;> first | exact ⟨_, _, _, rfl⟩ | cases h
theorem star_one {a : Expr} (h : isStar a = false) : starEach [a] X.env = [(false, eval a X.env)] := starEach_cons h
theorem star_two {a b : Expr} (h : isStar a = false) (h' : isStar b = false) : starEach [a, b] X.env = [(false, eval a X.env), (false, eval b X.env)] := by rw [starEach_cons h, starEach_cons h']; rfl
theorem cIt_pi (g : Good c C k X W sc) (h : Each X C W f) {tg it : Expr} {w : Itx} (q : cIt c sc f (isTup tg) it = some w) : PI X tg it (TIof X.K W (evIt C w)) := by
  have gen : ∀ {e : Expr} {w : Itx}, (f e).map Itx.of = some w → PI X tg e (TIof X.K W (evIt C w)) := fun q => by
    obtain ⟨y, e1, rfl⟩ := Option.map_eq_some_iff.mp q
    exact pi_of (h.snd _ _ e1).pe
  unfold cIt at q
  split at q
  · rename_i x p args pos
    split at q
    · rename_i hc
      simp only [Bool.and_eq_true, beq_iff_eq] at hc
      obtain ⟨hg, rfl⟩ := hc
      split at q
      · obtain ⟨y, e1, rfl⟩ := Option.map_eq_some_iff.mp q
        exact pi_rng1 (g.gl _ hg) (g.G.blt _ rng_ok.1) (h.snd _ _ e1).pe (star_one (h.star _ _ e1))
      · split at q
        · rename_i e1 e2
          cases q
          exact pi_rng2 (g.gl _ hg) (g.G.blt _ rng_ok.1) (h.snd _ _ e1).pe (h.snd _ _ e2).pe (star_two (h.star _ _ e1) (h.star _ _ e2)) (star_one (h.star _ _ e2))
        · cases q
      · cases q
    · split at q
      · rename_i hc
        simp only [Bool.and_eq_true, beq_iff_eq] at hc
        obtain ⟨hg, rfl⟩ := hc
        split at q
        · split at q
          · rename_i ht
            obtain ⟨es, kk, tp, rfl⟩ := isTup_of ht
            obtain ⟨y, e1, rfl⟩ := Option.map_eq_some_iff.mp q
            exact pi_enumL (g.gl _ hg) (g.G.blt _ rng_ok.2.1) (h.snd _ _ e1).pe (star_one (h.star _ _ e1))
          · cases q
        · cases q
      · split at q
        · rename_i hc
          simp only [Bool.and_eq_true, beq_iff_eq] at hc
          obtain ⟨hg, rfl⟩ := hc
          split at q
          · split at q
            · rename_i ht
              obtain ⟨es, kk, tp, rfl⟩ := isTup_of ht
              split at q
              · rename_i e1 e2
                cases q
                have s1 := h.star _ _ e1
                have s2 := h.star _ _ e2
                refine pi_zipL (g.gl _ hg) (g.G.blt _ rng_ok.2.2) (h.snd _ _ e1).pe (h.snd _ _ e2).pe (starEach_cons s1) (star_one s2) (back_any fun y hy => ?_)
                rw [List.mem_singleton.mp hy]
                exact s2
              · cases q
            · cases q
          · cases q
        · exact gen q
  · exact gen q
/-! ### targets -/
theorem cName_pg (g : Good c C k X W sc) {e : Expr} {j : Nat} (q : cName c.N sc e = some j) : PG X e (gName j) ∧ isStar e = false ∧ ∀ es, assignEach (e :: es) X.env = (false, assign e X.env) :: assignEach es X.env := by
  unfold cName at q
  split at q
  · rename_i x p
    split at q
    · rename_i hl
      have hN : X.N[j]? = some x := by rw [g.N]; exact findN_get q
      have hd : X.N.Nodup := by rw [g.N]; exact g.nd
      refine ⟨?_, rfl, fun es => rfl⟩
      rcases isLC_iff.mp hl with e | e
      · exact pg_name hd hN (.inl (g.loc _ e)) (.inr (g.loc _ e))
      · exact pg_name hd hN (.inr (g.cel _ e).1) (.inl (g.cel _ e).2)
    · cases q
  · cases q
theorem cNames_pgs (g : Good c C k X W sc) : ∀ {es : List Expr} {is : List Nat}, cNames c.N sc es = some is → PGs X es (gNames is) ∧ (assignEach es X.env).length = is.length ∧ (assignEach es X.env).findIdx? (·.1) = none
  | [], is, q => by cases q; exact ⟨pgs_nil, rfl, rfl⟩
  | e :: es, is, q => by
    unfold cNames at q
    cases e1 : cName c.N sc e with
    | none => rw [e1] at q; cases q
    | some j =>
      cases e2 : cNames c.N sc es with
      | none => rw [e1, e2] at q; cases q
      | some js =>
        rw [e1, e2] at q
        cases q
        obtain ⟨h1, _, h2⟩ := cName_pg g e1
        obtain ⟨k1, k2, k3⟩ := cNames_pgs g e2
        refine ⟨pgs_cons h1 k1 (by rw [h2]; rfl), by rw [h2, List.length_cons, k2]; rfl, ?_⟩
        rw [h2, List.findIdx?_cons]
        simp [k3]
theorem cNest_pgs (g : Good c C k X W sc) (hh : c.hot = false) : ∀ {es : List Expr} {is : List Tg1}, cNest c.N sc es = some is → PGs X es (gNest X.K is) ∧ (assignEach es X.env).length = is.length ∧ (assignEach es X.env).findIdx? (·.1) = none
  | [], is, q => by cases q; exact ⟨pgs_nil, rfl, rfl⟩
  | e :: es, is, q => by
    unfold cNest at q
    cases e1 : cTg1 c.N sc e with
    | none => rw [e1] at q; cases q
    | some j =>
      cases e2 : cNest c.N sc es with
      | none => rw [e1, e2] at q; cases q
      | some js =>
        rw [e1, e2] at q
        cases q
        obtain ⟨k1, k2, k3⟩ := cNest_pgs g hh e2
        have fin : ∀ {t : TG}, PG X e t → (∀ es, assignEach (e :: es) X.env = (false, assign e X.env) :: assignEach es X.env) → PGs X (e :: es) (gCons t (gNest X.K js)) ∧ (assignEach (e :: es) X.env).length = (j :: js).length ∧ (assignEach (e :: es) X.env).findIdx? (·.1) = none := by
          intro t h1 h2
          refine ⟨pgs_cons h1 k1 (by rw [h2]; rfl), by rw [h2, List.length_cons, k2]; rfl, ?_⟩
          rw [h2, List.findIdx?_cons]
          simp [k3]
        unfold cTg1 at e1
        split at e1
        · rename_i ts kk pp
          obtain ⟨ks, e3, rfl⟩ := Option.map_eq_some_iff.mp e1
          obtain ⟨m1, m2, m3⟩ := cNames_pgs g e3
          exact fin (pg_tup (g.calm hh) m1 m2 m3) fun es => rfl
        · obtain ⟨i, e3, rfl⟩ := Option.map_eq_some_iff.mp e1
          obtain ⟨h1, _, h2⟩ := cName_pg g e3
          exact fin h1 h2
theorem cTg_pg (g : Good c C k X W sc) (hh : c.hot = false) {e : Expr} {t : Tg} (q : cTg c.N sc e = some t) : PG X e (gOf X.K t) := by
  unfold cTg at q
  split at q
  · unfold cTgT at q
    split at q
    · rename_i is e1
      cases q
      obtain ⟨k1, k2, k3⟩ := cNames_pgs g e1
      exact pg_tup (g.calm hh) k1 k2 k3
    · obtain ⟨is, e1, rfl⟩ := Option.map_eq_some_iff.mp q
      obtain ⟨k1, k2, k3⟩ := cNest_pgs g hh e1
      exact pg_tup (g.calm hh) k1 k2 k3
  · obtain ⟨j, e1, rfl⟩ := Option.map_eq_some_iff.mp q
    exact (cName_pg g e1).1
theorem gOf_of {K : PySem.W.Frag} {t : Tg} {v : V} {σ : L2.St} {H : Hp} {Q : L2.St → Hp → Prop} (q : TGof K t v σ H Q) : gOf K t v σ H Q := by
  obtain ⟨ρ, μ, S, d, e, R, dd, q⟩ := q
  cases t with
  | var i => exact q.2 _ (e.set dd)
  | tup is =>
    cases d <;> try exact q.elim
    obtain ⟨hl, q⟩ := Wp.need.mp (Wp.bind.mp q)
    have q := Wp.pure.mp q
    cases dd with
    | @tup a vs _ h1 h2 => exact ⟨a, vs, rfl, h1, by rw [h2.length]; exact hl, gNames_den hl h2 e q.2⟩
  | nest ts =>
    cases d <;> try exact q.elim
    cases dd with
    | @tup a vs _ h1 h2 => exact ⟨a, vs, rfl, h1, by rw [h2.length]; exact bindN_len q, gNest_own (own := slotsN ts) (fun _ z => z) h2 e q fun σ' ρ' e' _ hk => hk.2 σ' e'⟩
/-! ### comprehensions -/
theorem folded_of {it : Expr} (h : ∀ es kk p, it ≠ .Set es kk p) (x : Value) : foldedSetIterable it X.env x = pure x := by
  cases it <;> first | rfl | exact absurd rfl (h _ _ _)
theorem cIt_noSet (hset : ∀ es kk p, f (.Set es kk p) = none) {tup : Bool} {it : Expr} {w : Itx} (q : cIt c sc f tup it = some w) : ∀ es kk p, it ≠ .Set es kk p := by
  rintro es kk p rfl
  have q : (f (.Set es kk p)).map Itx.of = some w := q
  rw [hset] at q
  cases q
theorem cComp_pe {f2 : Expr → Option E} {csc : Scope} (g : Good c C k X W sc) (h : Each X C W f) (h2 : ∀ Y, Good c C k Y Z0 csc → Each Y C Z0 f2) (hset : ∀ es kk p, f (.Set es kk p) = none) {elt tg iter : Expr} {ifs : List Expr} (q : cComp c sc f f2 elt tg iter ifs csc = some i) :
    PE X (.ListComp elt [⟨tg, iter, ifs, 0⟩] csc pos) (TEof X.K W (ev C i)) := by
  unfold cComp at q
  split at q
  · rename_i hb
    rw [Bool.and_eq_true] at hb
    obtain ⟨hb, hh⟩ := hb
    have hh : c.hot = false := by simpa using hh
    split at q
    · rename_i it t y cond e1 e2 e3 e4
      split at q
      · rename_i hsl
        cases q
        have ok : BlkOk X.N X.env.scope csc (ownOf c.N csc) := by
          rw [g.N]
          exact blk_of hb g.cf
        have ho : ∀ j ∈ t.slots, j ∈ (ownOf c.N csc).map (·.2) := fun j hj => by
          have := List.all_eq_true.mp hsl j hj
          simpa using this
        have hN : X.N.Nodup := by rw [g.N]; exact g.nd
        have gb : ∀ (s : Shared) (H : Hp) (Cc : Addr) (cl : List (Str × Addr)) (fp : List Addr), Good c C k (X.blk s H csc (compEnvC csc cl Cc X.env) fp) Z0 csc := fun s H Cc cl fp => g.blk s H Cc cl fp
        have ht : ∃ tt : TT, (∀ (s : Shared) (H : Hp) (Cc : Addr) (cl : List (Str × Addr)) (fp : List Addr), PTs (X.blk s H csc (compEnvC csc cl Cc X.env) fp) ifs tt) ∧ ∀ σ H Q, TTof X.K Z0 (evTest C cond) σ H Q → tt σ H Q := by
          split at e4
          · cases e4
            refine ⟨tYes, fun _ _ _ _ _ => pts_nil, fun σ H Q q => ?_⟩
            obtain ⟨ρ, μ, S, e, R, q⟩ := q
            exact Wp.pure.mp q H μ (Step.refl _ _) R
          · rename_i b
            obtain ⟨j, e5, rfl⟩ := Option.map_eq_some_iff.mp e4
            exact ⟨_, fun s H Cc cl fp => pts_one ((h2 _ (gb s H Cc cl fp)).snd _ _ e5).pt, fun σ H Q q => q⟩
          · cases e4
        obtain ⟨tt, ht, ht'⟩ := ht
        exact PE.of (pe_lc (g.calm hh) hN (cIt_pi g h e1) ok (fun s H Cc cl fp => cTg_pg (gb s H Cc cl fp) hh e2) ht (fun s H Cc cl fp => ((h2 _ (gb s H Cc cl fp)).snd _ _ e3).pe) (folded_of (cIt_noSet hset e1))) fun σ H Q q =>
          tLc_of ho ht' (fun _ _ _ q => q) (fun _ _ _ q => q) q
      · cases q
    · cases q
  · cases q
end
end Rv
set_option Elab.async false
set_option linter.all false
set_option maxRecDepth 100000
set_option maxHeartbeats 4000000
namespace Rv
open PySem PySem.Spec PyProof.Rows L2
theorem Star_none {c : Ctx} : ∀ {n : Nat} {sc : Scope} {e : Expr} {i : E}, cE c n sc e = some i → isStar e = false
  | 0, _, _, _, h => by cases h
  | n + 1, sc, e, i, h => by
    cases e with
    | Starred => cases h
    | _ => rfl
theorem Set_none {c : Ctx} {n : Nat} {sc : Scope} {es : List Expr} {kk : Nat} {p : Pos} : cE c n sc (.Set es kk p) = none := by cases n <;> rfl
theorem Slice_none {c : Ctx} {n : Nat} {sc : Scope} {lo hi st : Option Expr} {p : Pos} : cE c n sc (.Slice lo hi st p) = none := by cases n <;> rfl
theorem sup_none {c : Ctx} {n : Nat} {sc : Scope} {id : Str} {p pos : Pos} : cE c n sc (.Call (.Name id p) [] [] pos) = none := by
  cases n with
  | zero => rfl
  | succ n =>
    show cCall c sc (cE c n sc) (.Name id p) [] [] pos = none
    unfold cCall
    show (if (isGlob sc id && plainName id) = true then cCallN c sc (cE c n sc) id [] else none) = none
    split
    · unfold cCallN
      repeat' split
      all_goals first | rfl | (rename_i e; cases e; done) | (rename_i e _; cases e; done) | (exfalso; simp_all; done)
    · rfl
section
variable {C : Cfg} {c : Ctx} {k : Nat}
theorem pe_lit {X : Cx} {W : SX} {kk : Const} {d : D} {j : Nat} {p : Pos} (h : simpleC kk = some d) : PE X (.Constant kk j p) (TEof X.K W fun _ => pure d) := by
  have go : ∀ (v : V), (∀ H μ, Den X.K H μ v d) → PE X (.Constant kk j p) (tC v) → PE X (.Constant kk j p) (TEof X.K W fun _ => pure d) := fun v hv hp => PE.of hp fun σ H Q q => by
    obtain ⟨ρ, μ, S, e, R, q⟩ := q
    exact Wp.pure.mp q v H μ (Step.refl _ _) R (hv H μ)
  cases kk with
  | none => cases h; exact go .non (fun _ _ => .non) pe_non
  | bool b => cases h; exact go (.bl b) (fun _ _ => .bl b) pe_bl
  | int b => cases h; exact go (.int b) (fun _ _ => .int b) pe_int
  | str b => cases h; exact go (.str b) (fun _ _ => .str b) pe_str
  | _ => cases h
theorem pieces_pj {X : Cx} {W : SX} {f : Expr → Option E} (EE : Each X C W f) : ∀ {es : List Expr} {is : Es}, eachE (cPiece f) es = some is →
    ∃ ts, PJ X es ts ∧ ∀ (σ : L2.St) (H : Hp) (acc : Str) (Q : VK), TEof X.K W (evJ C is acc) σ H Q → tJs ts acc σ H fun out H1 => Q (.str out) H1
  | [], is, q => by
    cases q
    refine ⟨[], .nil, fun σ H acc Q q => ?_⟩
    obtain ⟨ρ, μ, S, e, R, q⟩ := q
    exact Wp.pure.mp (show Wp (pure (.str acc) : M D) S _ _ from q) (.str acc) H μ (Step.refl _ _) R (.str acc)
  | e :: es, is, q => by
    unfold eachE at q
    cases e1 : cPiece f e with
    | none => rw [e1] at q; cases q
    | some i =>
      cases e2 : eachE (cPiece f) es with
      | none => rw [e1, e2] at q; cases q
      | some is' =>
        rw [e1, e2] at q
        cases q
        obtain ⟨ts, h1, h2⟩ := pieces_pj EE e2
        have go : ∀ (σ : L2.St) (H H1 : Hp) (μ μ1 : List Addr) (S S1 : Sto) (ρ : Rv.Env) (acc : Str) (Q : VK), EnvR X.K H μ σ ρ → Rel X.K H μ S → Step H μ H1 μ1 → Rel X.K H1 μ1 S1 → Wp (evJ C is' acc ρ) S1 (After X.K H μ fun _ v H' _ _ => Q v H') (AfterX X.K (W σ) H μ) → tJs ts acc σ H1 fun out H2 => Q (.str out) H2 :=
          fun σ H H1 μ μ1 S S1 ρ acc Q e R s1 R1 h => h2 σ H1 acc Q ⟨ρ, μ1, S1, e.mono R s1, R1, h.mono (fun d S' h3 v H' μ' s R d => h3 v H' μ' (s1.trans s) R d) fun c S' z => z.on s1⟩
        unfold cPiece at e1
        split at e1
        · rename_i x kk p
          split at e1
          · rename_i hk
            subst hk
            refine ⟨tFmt (TEof X.K W (ev C i)) :: ts, .cons (pe_fmt (EE.snd _ _ e1).pe) h1, fun σ H acc Q q => ?_⟩
            obtain ⟨ρ, μ, S, e, R, q⟩ := q
            have q : Wp (do
                let d ← ev C i ρ
                let y ← fmtD d
                need ((acc ++ y).length ≤ sizeLine)
                evJ C is' (acc ++ y) ρ) S (After X.K H μ fun _ v H' _ _ => Q v H') (AfterX X.K (W σ) H μ) := q
            refine ⟨ρ, μ, S, e, R, (Wp.bind.mp q).mono (fun d S1 h => ?_) fun _ _ z => z⟩
            intro v H1 μ1 s1 R1 d1
            have h := Wp.bind.mp h
            cases d with
            | str y =>
              cases d1
              obtain ⟨hz, h⟩ := Wp.need.mp (Wp.bind.mp h)
              obtain ⟨hz2, h⟩ := Wp.need.mp (Wp.bind.mp (Wp.pure.mp h))
              exact .inl ⟨y, rfl, hz, y, rfl, hz2, go σ H H1 μ μ1 S S1 ρ _ Q e R s1 R1 h⟩
            | int j =>
              cases d1
              obtain ⟨hz, h⟩ := Wp.need.mp (Wp.bind.mp h)
              obtain ⟨hz2, h⟩ := Wp.need.mp (Wp.bind.mp (Wp.pure.mp h))
              exact .inr ⟨j, rfl, hz, _, rfl, hz2, go σ H H1 μ μ1 S S1 ρ _ Q e R s1 R1 h⟩
            | _ => exact h.elim
          · cases e1
        · rename_i x j p
          cases e1
          refine ⟨TEof X.K W (fun _ => pure (.str x)) :: ts, .cons (pe_lit rfl) h1, fun σ H acc Q q => ?_⟩
          obtain ⟨ρ, μ, S, e, R, q⟩ := q
          have q : Wp (do
              let d ← ev C (.lit (.str x)) ρ
              let y ← fmtD d
              need ((acc ++ y).length ≤ sizeLine)
              evJ C is' (acc ++ y) ρ) S (After X.K H μ fun _ v H' _ _ => Q v H') (AfterX X.K (W σ) H μ) := q
          have h := Wp.bind.mp q
          have h : Wp (pure (.str x) : M D) S (fun d S' => Wp (do
              let y ← fmtD d
              need ((acc ++ y).length ≤ sizeLine)
              evJ C is' (acc ++ y) ρ) S' (After X.K H μ fun _ v H' _ _ => Q v H') (AfterX X.K (W σ) H μ)) (AfterX X.K (W σ) H μ) := h
          have h := Wp.bind.mp (Wp.pure.mp h)
          obtain ⟨hz, h⟩ := Wp.need.mp (Wp.bind.mp h)
          obtain ⟨hz2, h⟩ := Wp.need.mp (Wp.bind.mp (Wp.pure.mp h))
          refine ⟨ρ, μ, S, e, R, Wp.pure.mpr ?_⟩
          intro v H1 μ1 s1 R1 d1
          cases d1
          exact ⟨x, rfl, hz2, go σ H H1 μ μ1 S S ρ _ Q e R s1 R1 h⟩
        · cases e1
theorem cE_snd : ∀ (n : Nat) {X : Cx} {W : SX} {sc : Scope}, Good c C k X W sc → ∀ (e : Expr) (i : E), cE c n sc e = some i → Snd X W e (ev C i)
  | 0, _, _, _, _, _, _, h => by cases h
  | n + 1, X, W, sc, g, e, i, h => by
    have EE : Each X C W (cE c n sc) := ⟨fun e i => cE_snd n g e i, fun e i => Star_none⟩
    cases e with
    | Name x p =>
      have h : (if plainName x then (if isVis (sc.names.lookup x) then (findN c.N x).map E.var else if isGlob sc x then (c.globs.lookup x).map E.glob else none) else none) = some i := h
      split at h
      · rename_i hp
        obtain ⟨_, n2, n3⟩ := plain_ne hp
        split at h
        · rename_i hv
          obtain ⟨j, e1, rfl⟩ := Option.map_eq_some_iff.mp h
          have hN : X.N[j]? = some x := by rw [g.N]; exact findN_get e1
          refine Snd.plain (PE.of (pe_var hN (g.vis _ hv) n2 n3) fun σ H Q q => ?_) (isTrue_plainE rfl)
          obtain ⟨ρ, μ, S, e, R, q⟩ := q
          have q : Wp (match ρ[j]? with | some (some d) => pure d | _ => fail : M D) S (After X.K H μ fun _ v H' _ _ => Q v H') (AfterX X.K (W σ) H μ) := q
          split at q
          · rename_i d hd
            obtain ⟨v, hv, dv⟩ := e.2 j d hd
            exact ⟨v, hv, Wp.pure.mp q v H μ (Step.refl _ _) R dv⟩
          · exact q.elim
        · split at h
          · rename_i hg
            obtain ⟨j, e1, rfl⟩ := Option.map_eq_some_iff.mp h
            obtain ⟨u, v, d, m1, m2, m3, m4⟩ := g.G.glob _ _ e1
            refine Snd.plain (PE.of (pe_glob (g.gl _ hg) m1 m2 n2) fun σ H Q q => ?_) (isTrue_plainE rfl)
            obtain ⟨ρ, μ, S, e, R, q⟩ := q
            have q : Wp (ofOpt (C.glob j) : M D) S (After X.K H μ fun _ v H' _ _ => Q v H') (AfterX X.K (W σ) H μ) := q
            rw [m3] at q
            exact Wp.pure.mp q v H μ (Step.refl _ _) R (m4 H μ)
          · cases h
      · cases h
    | Constant kk j p =>
      obtain ⟨d, e1, rfl⟩ := Option.map_eq_some_iff.mp (show (simpleC kk).map E.lit = some i from h)
      exact Snd.plain (pe_lit e1) (isTrue_plainE rfl)
    | BinOp a op b p =>
      have h : (match binK op, cE c n sc a, cE c n sc b with
        | some k, some x, some y => some (E.bin k x y)
        | _, _, _ => none) = some i := h
      split at h
      · rename_i bk x y e1 e2 e3
        cases h
        rw [binK_op e1]
        exact Snd.plain (PE.of (pe_op (op_bin bk) (EE.snd _ _ e2).pe (EE.snd _ _ e3).pe) fun σ H Q q => TEof.two q) (isTrue_plainE rfl)
      · cases h
    | UnaryOp op a p =>
      cases op with
      | Not =>
        obtain ⟨x, e1, rfl⟩ := Option.map_eq_some_iff.mp (show (cE c n sc a).map E.not = some i from h)
        exact Snd.not (EE.snd _ _ e1)
      | USub =>
        obtain ⟨x, e1, rfl⟩ := Option.map_eq_some_iff.mp (show (cE c n sc a).map E.neg = some i from h)
        exact Snd.plain (PE.of (pe_un (op_neg') (EE.snd _ _ e1).pe) fun σ H Q q => TEof.one q) (isTrue_plainE rfl)
      | _ => cases h
    | BoolOp op es p =>
      cases es with
      | nil => cases h
      | cons x r =>
        cases op with
        | And =>
          obtain ⟨ys, e1, rfl⟩ := Option.map_eq_some_iff.mp (show (eachE (cE c n sc) (x :: r)).map E.and = some i from h)
          exact (eachE_and EE e1).snd
        | Or =>
          obtain ⟨ys, e1, rfl⟩ := Option.map_eq_some_iff.mp (show (eachE (cE c n sc) (x :: r)).map E.or = some i from h)
          exact (eachE_or EE e1).snd
    | Compare a ops cs p => exact cCmp_snd g EE (fun _ _ _ => Set_none) h
    | IfExp t a b p =>
      have h : (match cE c n sc t, cE c n sc a, cE c n sc b with
        | some x, some y, some z => some (E.ite x y z)
        | _, _, _ => none) = some i := h
      split at h
      · rename_i x y z e1 e2 e3
        cases h
        exact Snd.ite (EE.snd _ _ e1) (EE.snd _ _ e2) (EE.snd _ _ e3)
      · cases h
    | Tuple es kk p =>
      have h : (if es.length ≤ 1000 then (eachE (cE c n sc) es).map E.tup else none) = some i := h
      split at h
      · rename_i hl
        obtain ⟨ys, e1, rfl⟩ := Option.map_eq_some_iff.mp h
        refine Snd.plain (PE.of (pe_tup (eachE_pa EE e1)) fun σ H Q q => ?_) (isTrue_plainE rfl)
        obtain ⟨ρ, μ0, S0, e0, R0, q⟩ := q
        refine ⟨ρ, μ0, S0, e0, R0, (eachE_len e1 (Wp.bind.mp q)).mono (fun ds S1 ⟨hn, h1⟩ vs H1 μ1 st1 R1 dl => ?_) fun _ _ z => z⟩
        have h1 := Wp.pure.mp h1
        have hz : (1000 : Nat) ≤ sizeLine := by decide
        exact ⟨by rw [dl.length]; omega, fun p hp => new_tup R1 hp dl fun v H' μ' s R d => h1 v H' μ' (st1.trans s) R d⟩
      · cases h
    | List es p =>
      have h : (if es.length ≤ 1000 then (eachE (cE c n sc) es).map E.list else none) = some i := h
      split at h
      · rename_i hl
        obtain ⟨ys, e1, rfl⟩ := Option.map_eq_some_iff.mp h
        refine Snd.plain (PE.of (pe_lst (eachE_pa EE e1)) fun σ H Q q => ?_) (isTrue_plainE rfl)
        obtain ⟨ρ, μ0, S0, e0, R0, q⟩ := q
        refine ⟨ρ, μ0, S0, e0, R0, (eachE_len e1 (Wp.bind.mp q)).mono (fun ds S1 ⟨hn, h1⟩ vs H1 μ1 st1 R1 dl => ?_) fun _ _ z => z⟩
        have h1 := Wp.newO.mp h1
        have hz : (1000 : Nat) ≤ sizeLine := by decide
        exact ⟨by rw [dl.length]; omega, fun p hp => new_lst R1 hp dl fun v H' μ' s R d => h1 v H' μ' (st1.trans s) R d⟩
      · cases h
    | Attribute a m p =>
      have h : (if m == strS "__class__" then none else (cE c n sc a).map fun y => E.fld y m) = some i := h
      split at h
      · cases h
      · obtain ⟨y, e1, rfl⟩ := Option.map_eq_some_iff.mp h
        exact Snd.plain (pe_fld (EE.snd _ _ e1).pe (base_of fun id p pos e => by rw [e, sup_none] at e1; cases e1)) (isTrue_plainE rfl)
    | Subscript a b p => exact Snd.plain (cSub_pe EE (fun _ _ _ _ => Slice_none) h) (isTrue_plainE rfl)
    | Call fn args kws p => exact Snd.plain (cCall_pe g EE (fun _ _ _ => sup_none) h) (isTrue_plainE rfl)
    | ListComp elt gs csc p =>
      have h : (match (generalizing := false) gs with
        | [⟨tg, iter, ifs, 0⟩] => cComp c sc (cE c n sc) (cE c n csc) elt tg iter ifs csc
        | _ => none) = some i := h
      split at h
      · exact Snd.plain (cComp_pe g EE (fun Y gY => ⟨fun e i => cE_snd n gY e i, fun e i => Star_none⟩) (fun _ _ _ => Set_none) h) (isTrue_plainE rfl)
      · cases h
    | JoinedStr es p =>
      have h : (match (generalizing := false) es with
        | a :: b :: r => (eachE (cPiece (cE c n sc)) (a :: b :: r)).map E.fstr
        | _ => none) = some i := h
      split at h
      · rename_i a b r
        obtain ⟨ys, e1, rfl⟩ := Option.map_eq_some_iff.mp h
        obtain ⟨ts, h1, h2⟩ := pieces_pj EE e1
        exact Snd.plain (PE.of (pe_joined h1) fun σ H Q q => h2 σ H Str.empty Q q) (isTrue_plainE rfl)
      · cases h
    | Dict ks vs p =>
      have h : (match (generalizing := false) ks, vs with
        | [], [] => some E.dict0
        | _, _ => none) = some i := h
      split at h
      · cases h
        refine Snd.plain (PE.of pe_dnewK fun σ H Q q => ?_) (isTrue_plainE rfl)
        obtain ⟨ρ, μ, S, e, R, q⟩ := q
        have q := Wp.newO.mp (show Wp (newO (.dic [])) S _ _ from q)
        intro p hp
        exact q _ _ (μ ++ [p]) (Step.more hp) (R.more hp ⟨rfl, upd_same⟩) (.ref (by rw [← R.len, List.getElem?_append_right (Nat.le_refl _)]; simp))
      · cases h
    | _ => cases h
end
end Rv
set_option Elab.async false
set_option linter.all false
set_option maxRecDepth 100000
set_option maxHeartbeats 4000000
namespace Rv
open PySem PySem.Spec PyProof.Rows L2
/-! ### errors are raised -/
section
variable {X : Cx} {C : Addr} {bmB : List Value} {B newId initId : String}
/-- X(e), of a class without an own __init__ -/
theorem pmk_own1 {x : Str} {e : Expr} {ta : TE} {p pos : Pos} (F : ExcBaseFacts B newId initId bmB) (q : PySem.W.excIn X.K C bmB newId = true) (gC : X.mg x = some (.ref C)) (kC : PySem.W.keepIn X.K (.ref C) = true) (r : Raises X (.ref C)) (hg : Gl X x)
    (he : PE X e ta) (hs : starEach [e] X.env = (false, eval e X.env) :: starEach [] X.env) (hdb : (x == ("__debug__" : Str)) = false) :
    PMk X (.Call (.Name x p) [e] [] pos) (fun σ H Q => ta σ H fun _ H1 => Q (.ref C) none H1) := by
  intro pins s σ H Q I h
  refine wpAny_Call_Name_kw (ld_glob I hg gC ?_ hdb)
  refine PySem.W.callWith_K (h₀ := X.base) I.ok.mod.kin kC ?_ hs (by rfl)
  rw [hs]
  show wpAny _ _ (spliced ((false, eval e X.env) :: backTo pos (starEach [] X.env))) _ _ s
  refine Calls.spliced_cons (thn (he.run pins s σ H _ I h) fun u s1 ⟨v, H1, I1, r1, q1⟩ => ?_)
  refine Calls.spliced_nil ⟨I1.kIn, ?_⟩
  show wpAny _ _ (call (.ref C) [u]) _ _ _
  obtain ⟨bm, N, nm, qn, bs, hdct, sn, sub, ab, col, dd, k0, k1, k2, k3, k5, mN, hC, hN, hni, T⟩ := exc_obj I1.kIn q
  refine wpAny_call_exc_subT F T hC hN hni (fun h' a hm => ?_) (by show 1 ≤ sizeLine; rw [sizeLine_eq]; omega)
  exact mk_of I1 hm r q1 (I1.hok.gone hm.new)
/-- raise X(e) -/
theorem ps_rais {W : SX} {c : Nat} {x : Str} {e : Expr} {p pos rpos : Pos} {fe : Rv.Env → M D} (hc : X.calm = true) (tk : TakesR X W) (F : ExcBaseFacts B newId initId bmB) (q : PySem.W.excIn X.K (cm X.K c) bmB newId = true) (E : ErC X.K c) (gC : X.mg x = some (.ref (cm X.K c))) (hg : Gl X x)
    (he : PE X e (TEof X.K W fe)) (hs : starEach [e] X.env = (false, eval e X.env) :: starEach [] X.env) (hdb : (x == ("__debug__" : Str)) = false) :
    PS X (.Raise (some (.Call (.Name x p) [e] [] pos)) none rpos) (TSof X.K W fun ρ => do let x ← fe ρ; isText x; throwM ⟨c, []⟩) := by
  refine PS.of (ps_raise hc tk (pmk_own1 F q gC E.kp (raises_own E.ic.hs E.ty) hg he hs hdb)) fun D σ H h => ?_
  obtain ⟨ρ, μ, S, e, R, h⟩ := h
  refine ⟨ρ, μ, S, e, R, (Wp.bind.mp h).mono (fun d S1 h1 => ?_) fun _ _ z => z⟩
  intro v H1 μ1 st R1 dv
  cases d <;> try exact h1.elim
  have h1 := Wp.throw.mp (Wp.pure.mp (Wp.bind.mp h1))
  exact ⟨⟨c, []⟩, μ1, rfl, h1 none H1 μ1 st R1 ⟨E, fun _ z => nomatch z⟩ rfl⟩
end
/-! ### errors are caught -/
section
variable {X : Cx} {pins : List (Addr × Obj)} {σ : L2.St} {H : Hp} {s sI s' : Shared} {B : Heap}
/-- back on the ground, and the error's object is tracked from now on -/
theorem landedX {a : Addr} {o : HO} (I : Inv X pins σ H sI) (nb : ∀ b o, sI.heap.get? b = some o → b ∉ frs X.stack → B.get? b = some o) (st : B.StaysIn s'.heap) (up : sI.heap.UpToSlots s'.heap) (os : s'.os = sI.os) (ag : AllBare s'.gens)
    (ga : sI.heap.get? a = none) (na : H a = none) (new : ObjOk X.prog X.w (upd H a o) s'.heap a o) : Inv X pins σ (upd H a o) s' := by
  have nf : ∀ b ∈ frs X.stack, ∀ o, sI.heap.get? b = some o → ∃ sl, s'.heap.get? b = some { o with slots := sl } := fun b hb o e => by
    obtain ⟨_, o', e', hd⟩ := I.stack.mem hb
    rw [e] at e'; cases e'
    exact up b o e hd
  have ne : ∀ {b u}, sI.heap.get? b = some u → b ≠ a := fun e z => by rw [z, ga] at e; cases e
  have J := I.call (ch := []) (h' := s'.heap) (g' := s'.gens) (t' := s'.toks) (d' := s'.drawn) (H' := upd H a o)
    ⟨fun b o e _ hb _ => st b o (nb b o e hb), fun b o e _ hb _ => nf b hb o e, fun b u e n _ => by rw [upd_ne (ne e)]; exact n, fun b o e _ => by
      by_cases hb : b ∈ frs X.stack
      · obtain ⟨sl, q⟩ := nf b hb o e
        exact ⟨_, q⟩
      · exact ⟨o, st b o (nb b o e hb)⟩, fun b u e => by rw [upd_ne (ne_of_none e na)]; exact e, fun b u v e => by rw [upd_ne (ne_of_none e na)]; exact e, fun b ps e => ⟨#[], by rw [upd_ne (ne_of_none e na), e]; simp⟩⟩
    (((I.inGround nb).kept st).laidN (fun _ _ e => e) na new) ag (fun _ z => nomatch z)
  obtain ⟨a1, a2, a3, a4, a5⟩ := s'
  have e5 : a5 = sI.os := os
  subst e5
  exact J
theorem inv_suite (I : Inv X pins σ H s) (a : Addr) : Inv (X.suite a (X.pn ++ pins)) [] σ H s :=
  ⟨I.ok.suite _ _, I.os, I.bare, I.base, I.loc, I.cell, I.free, I.freeC, fun p hp => I.pin p (by rw [List.append_nil] at hp; exact hp), I.hok, I.len⟩
theorem inv_unsuite {a : Addr} {pn' : List (Addr × Obj)} (I : Inv (X.suite a (X.pn ++ pins)) pn' σ H s) (ok : X.Ok) : Inv X pins σ H s :=
  ⟨ok, I.os, I.bare, I.base, I.loc, I.cell, I.free, I.freeC, fun p hp => I.pin p (List.mem_append_left _ hp), I.hok, I.len⟩
theorem EnvR.gone {K : PySem.W.Frag} {H : Hp} {μ : List Addr} {σ : L2.St} {ρ : Env} (i : Nat) (e : EnvR K H μ σ ρ) : EnvR K H μ (σ.set i none) (ρ.set i none) := e.wipe [i]
/-- what the clauses are -/
def nmOk (X : Cx) : Option Str → Option Nat → Prop
  | none, none => True
  | some n, some i => X.N[i]? = some n ∧ X.env.kindOf n = some .local
  | _, _ => False
inductive HdsR (X : Cx) (C : Cfg) : List ExceptHandler → Hs → Prop
  | nil : HdsR X C [] .nil
  | cons {x : Str} {j : Nat} {nm : Option Str} {v : Option Nat} {b₀ : Stmt} {suite : List Stmt} {is : Ss} {np pos' : Pos} {hds : List ExceptHandler} {r : Hs} (hc : Names X x (.ref (cm X.K j))) (J : ErC X.K j) (hv : nmOk X nm v)
      (hsu : ∀ (a : Addr) (pn : List (Addr × Obj)), PSs (X.suite a pn) (b₀ :: suite) (TSof X.K Z0 (evSs C is))) (t : HdsR X C hds r) : HdsR X C (.ExceptHandler (some (.Name x np)) nm (b₀ :: suite) pos' :: hds) (.cons j v is r)
/-- the suite's ends, behind which the name is gone -/
def gEnds (v : Option Nat) (D : Ends) : Ends := match v with
  | none => D
  | some i => { nx := fun σ' H' => D.nx (σ'.set i none) H', rt := D.rt, bk := fun σ' H' => D.bk (σ'.set i none) H', ct := fun σ' H' => D.ct (σ'.set i none) H' }
theorem post_gone {K : PySem.W.Frag} {D : Ends} {v : Option Nat} {f : Flow} {S : Sto} {H : Hp} {μ : List Addr} (h : Ends.post K D H μ (goneF v f) S) : Ends.post K (gEnds v D) H μ f S := by
  intro H' μ' st R
  have h := h H' μ' st R
  cases v with
  | none => cases f <;> exact h
  | some i =>
    cases f with
    | next ρ => exact fun σ e => h _ (e.gone i)
    | ret d => exact h
    | brk ρ => exact fun σ e => h _ (e.gone i)
    | cont ρ => exact fun σ e => h _ (e.gone i)
theorem ps_tryR {W : SX} {C : Cfg} {body : List Stmt} {h₀ : ExceptHandler} {hds : List ExceptHandler} {hs0 : Hs} {pos : Pos} {fb : Rv.Env → M Flow} (hs : X.stack = X.env :: X.outer) (hf : X.env.frame = some X.env.locals) (hN : X.N.Nodup) (tk : TakesR X W)
    (hb : ∀ (W' : SX) (pn : List (Addr × Obj)) (xe : Value → Shared → Prop), TakesR (X.tr pn xe) W' → PassesOwn (model X.prog X.w) X.A X.env xe → PSs (X.tr pn xe) body (TSof X.K W' fb))
    (hh : HdsR X C (h₀ :: hds) hs0) : PS X (.Try body (h₀ :: hds) [] [] pos) (TSof X.K W fun ρ => catchM (fb ρ) fun x => evHs C hs0 x ρ) := by
  refine ⟨fun pins s σ H D I h => ?_⟩
  obtain ⟨ρ, μ, S, er, R0, h⟩ := h
  have h := Wp.catch.mp h
  have ok := I.ok
  have hfr : X.A.frames = some (X.env :: X.outer) := by rw [ok.frames, hs]
  let W' : SX := fun σ' c d H' μ' => σ' = σ ∧ ErF X.K c.cls c.fs ∧ XR X.K H' μ' d c.fs ∧ ∃ S', Step H μ H' μ' ∧ Rel X.K H' μ' S' ∧ Wp (evHs C hs0 c ρ) S' (Ends.post X.K D H μ) (AfterX X.K (W σ) H μ)
  have hq : TSof X.K W' fb D σ H := ⟨ρ, μ, S, er, R0, h.mono (fun _ _ z => z) fun c S' z d H' μ' st R' F x => ⟨rfl, F, x, S', st, R', z⟩⟩
  refine wpAny_Try_except ?_
  refine wpAny_mono ((hb W' (X.pn ++ pins) (fun e s₁ => wpAny (model X.prog X.w) X.A (noteFrame e X.env) (fun _ s₂ => wpAny (model X.prog X.w) X.A (setFlight e none) (fun _ s₃ =>
    wpAny (model X.prog X.w) X.A (handleBy e X.env (h₀ :: hds)) (SP X pins D) X.xe s₃) X.xe s₂) X.xe s₁) (fun u s' xx => ?_) PassesOwn.looking).run [] s σ H D (I.toTry _) hq) (fun f s1 hsp => ?_) (fun e s1 he => he)
  · -- the catch
    obtain ⟨a, B, sI, pins', σ', H', cls, d, rfl, J', nb, up, sky, na, os, ag, c, μ', rfl, rfl, F, xr, S', st, R', w⟩ := xx
    have J : Inv X pins σ' H' sI := J'.ofTry ok
    have sky' : Sky B (X.env :: X.outer) a (Zc (.ref (cm X.K c.cls)) d) X.env.locals s'.heap := by rw [← hs]; exact sky
    show wpAny (model X.prog X.w) X.A (noteFrame (.ref a) X.env) _ _ _
    refine Sky.land Zc.steady hfr hf sky' fun h3 fl3 up3 => ?_
    have J3 : Inv X pins σ' H' { s' with heap := h3 } := J.landed nb fl3.1 (up.trans up3) os ag
    obtain ⟨oe3, vs3, he3, hz3, hd3⟩ := fl3.there
    have notFr : ∀ {h : Heap} {o : Obj} {vs : Array Value}, h.FunFrames B (X.env :: X.outer) → h.get? a = some o → o.data = .fields vs → a ∉ frs (X.env :: X.outer) := fun {h o vs} ff e dd hm => by
      obtain ⟨_, o', e', hnf⟩ := ff.mem hm
      rw [e] at e'; cases e'
      exact hnf _ dd
    have nfr := notFr fl3.2.2.1 he3 hd3
    have gI : sI.heap.get? a = none := by
      cases e : sI.heap.get? a with
      | none => rfl
      | some o =>
        have z := nb a o e (by rw [hs]; exact nfr)
        rw [fl3.2.1] at z
        cases z
    have S3 := inv_suite J3 a
    have go : ∀ {hds' : List ExceptHandler} {hs' : Hs}, HdsR X C hds' hs' → Wp (evHs C hs' c ρ) S' (Ends.post X.K D H μ) (AfterX X.K (W σ') H μ) →
        wpAny (model X.prog X.w) X.A (handleBy (.ref a) X.env hds') (SP X pins D) X.xe { s' with heap := h3 } := by
      intro hds' hs' hk
      induction hk with
      | nil =>
        intro w
        have w := (Wp.throw.mp (show Wp (throwM c : M Flow) S' _ _ from w)) d H' μ' st R' F xr
        refine wpAny_handleBy_nil ?_
        obtain ⟨k1, k2, k3, oe, vs, T, oT, ts', he, hz, hd, h1, hr⟩ := id fl3
        unfold PySem.passOn
        refine wpAny_bind (wpAny_field he hd h1 ?_)
        rw [if_neg (show ¬ ((Value.ref T == Value.none) = true) from by simp)]
        have fin : wpAny (model X.prog X.w) X.A (setFlight (.ref a) X.env.frame) (fun _ s4 => wpAny (model X.prog X.w) X.A (throw (.ref a) : Sem _) (SP X pins D) X.xe s4) X.xe { s' with heap := h3 } := by
          rw [hf]
          refine HandSPX.setFlight_upZ fl3 fun h4 hh4 up4 => wpAny_throw (tk _ _ ?_)
          exact ⟨a, B, sI, pins, σ', H', .ref (cm X.K c.cls), d, rfl, J, nb, (up.trans up3).trans up4, .inr (.inr (by rw [hs]; exact hh4)), na, os, ag, c, μ', rfl, w⟩
        first
          | exact wpAny_bind (wpAny_pure (wpAny_bind fin))
          | exact wpAny_bind fin
      | @cons x j nm v b₀ suite is np pos' hds2 r hc Jc hv hsu t ih =>
        intro w
        have w : Wp (if subC c.cls j then do
            let o ← newO (.exc c.cls c.fs)
            let f ← noX (evSs C is (bindV v o ρ))
            pure (goneF v f)
          else evHs C r c ρ) S' (Ends.post X.K D H μ) (AfterX X.K (W σ') H μ) := w
        refine wpAny_handleBy_cons (codeAny_handlers_test ?_) (by intro q; cases q)
        have LT : PySem.W.Looks (model X.prog X.w) h3 (typeOf (.ref a)) (.ref (cm X.K c.cls)) := fun A Q E s k q => wpAny_typeOf_ref (k _ _ he3) (by rw [hz3.1]; exact q)
        have LM := PySem.W.exm_one (M := model X.prog X.w) (J3.kIn) LT (F.1.exm Jc)
        have test : ∀ {Q : Value → Shared → Prop} {E : Value → Shared → Prop}, Q (.ref (cm X.K j)) { s' with heap := h3 } → wpAny (model X.prog X.w) (X.A.mark (some (.ref a))) (eval (.Name x np) X.env) Q E { s' with heap := h3 } := fun {Q E} q => by
          obtain ⟨hg, hdbg, hm | ⟨hm, hv, hnn⟩⟩ := hc
          · exact ld_glob (X := X.suite a (X.pn ++ pins)) S3 hg hm q hdbg
          · exact ld_blt (X := X.suite a (X.pn ++ pins)) S3 hg hm hv q hnn hdbg
        refine test (LM.here ?_)
        cases hb : subC c.cls j with
        | false =>
          rw [hb, if_neg Bool.false_ne_true] at w
          show wpAny _ X.A (handleBy (.ref a) X.env hds2) _ _ _
          exact ih w
        | true =>
          rw [hb, if_pos rfl] at w
          have w := Wp.newO.mp (Wp.bind.mp w)
          have w := Wp.noX.mp (Wp.bind.mp w)
          -- the error's object is one of the store's things
          have R2 : Rel X.K (upd H' a (erO (.ref (cm X.K c.cls)) d a)) (μ' ++ [a]) (S' ++ [.exc c.cls c.fs]) := R'.more na (.inr ⟨F, d, upd_same, xr.mono R' (Step.more na)⟩)
          have st2 : Step H μ (upd H' a (erO (.ref (cm X.K c.cls)) d a)) (μ' ++ [a]) := st.trans (Step.more na)
          have dn : Den X.K (upd H' a (erO (.ref (cm X.K c.cls)) d a)) (μ' ++ [a]) (.ref a) (.ref S'.length) := .ref (by rw [← R'.len, List.getElem?_append_right (Nat.le_refl _)]; simp)
          have e2 : EnvR X.K (upd H' a (erO (.ref (cm X.K c.cls)) d a)) (μ' ++ [a]) σ' ρ := er.mono R0 st2
          have w2 : ∀ σ5, EnvR X.K (upd H' a (erO (.ref (cm X.K c.cls)) d a)) (μ' ++ [a]) σ5 (bindV v (.ref S'.length) ρ) → TSof X.K Z0 (evSs C is) (gEnds v D) σ5 (upd H' a (erO (.ref (cm X.K c.cls)) d a)) := fun σ5 e5 =>
            ⟨_, _, _, e5, R2, w.mono (fun f S5 z => post_gone (Ends.post.on st2 (Wp.pure.mp z))) fun _ _ z => z.elim⟩
          have run : ∀ {h4 : Heap}, HandSPX.FlyingZ B (X.env :: X.outer) a (Zc (.ref (cm X.K c.cls)) d) h4 → h3.UpToSlots h4 → Inv X pins σ' (upd H' a (erO (.ref (cm X.K c.cls)) d a)) { s' with heap := h4 } := fun {h4} fl4 up4 => by
            obtain ⟨oe4, vs4, he4, hz4, hd4⟩ := fl4.there
            exact landedX (s' := { s' with heap := h4 }) J nb fl4.1 ((up.trans up3).trans up4) os ag gI na (erO_ok he4 hz4 hd4)
          cases nm with
          | none =>
            cases v with
            | some i => exact hv.elim
            | none =>
              refine codeAny_handlers_suite ?_
              refine HandSPX.lands_againZ fl3 fun h4 fl4 up4 => ?_
              have S4 := inv_suite (run fl4 up4) a
              refine wpAny_mono ((hsu a (X.pn ++ pins)).run [] _ _ _ D S4 (w2 _ e2)) (fun f s6 hsp => ?_) (fun _ _ z => False.elim z)
              cases f with
              | next =>
                obtain ⟨σ6, H6, S6, q6⟩ := hsp
                exact ⟨_, _, inv_unsuite S6 ok, q6⟩
              | brk =>
                obtain ⟨σ6, H6, S6, q6⟩ := hsp
                exact ⟨_, _, inv_unsuite S6 ok, q6⟩
              | cont =>
                obtain ⟨σ6, H6, S6, q6⟩ := hsp
                exact ⟨_, _, inv_unsuite S6 ok, q6⟩
              | ret u =>
                obtain ⟨v6, σ6, H6, S6, r6, q6⟩ := hsp
                exact ⟨_, _, _, inv_unsuite S6 ok, r6, q6⟩
          | some n =>
            cases v with
            | none => exact hv.elim
            | some i =>
              obtain ⟨hi, hln⟩ := hv
              have hloc : Loc X.env.scope n := .inl hln
              refine codeAny_handlers_suite_as ?_
              refine HandSPX.lands_againZ fl3 fun h4 fl4 up4 => ?_
              have S4 := inv_suite (run fl4 up4) a
              refine store_ok (X := X.suite a (X.pn ++ pins)) (v := .ref a) S4 hN hi hloc rfl (fun s5 S5 => ?_) (.inr hln)
              refine wpAny_mono ((hsu a (X.pn ++ pins)).run [] s5 _ _ (gEnds (some i) D) S5 (w2 _ (e2.set dn))) (fun f s6 hsp => ?_) (fun _ _ z => False.elim z)
              have end_ : ∀ {σ6 : L2.St} {H6 : Hp} {Q : Shared → Prop}, Inv (X.suite a (X.pn ++ pins)) [] σ6 H6 s6 → (∀ s7, Inv X pins (σ6.set i none) H6 s7 → Q s7) →
                  wpAny (model X.prog X.w) X.A (do bindName X.env n .none; unbindBehindTheSuite X.env n pos') (fun _ s7 => Q s7) X.xe s6 := fun {σ6 H6 Q} S6 hq => gone_ok (inv_unsuite S6 ok) hN hi hln hq
              cases f with
              | next =>
                obtain ⟨σ6, H6, S6, q6⟩ := hsp
                exact end_ S6 fun s7 J7 => ⟨_, _, J7, q6⟩
              | brk =>
                obtain ⟨σ6, H6, S6, q6⟩ := hsp
                exact end_ S6 fun s7 J7 => ⟨_, _, J7, q6⟩
              | cont =>
                obtain ⟨σ6, H6, S6, q6⟩ := hsp
                exact end_ S6 fun s7 J7 => ⟨_, _, J7, q6⟩
              | ret u =>
                obtain ⟨v6, σ6, H6, S6, r6, q6⟩ := hsp
                exact end_ S6 fun s7 J7 => ⟨_, _, _, J7, r6, q6⟩
    exact go hh w
  · cases f with
    | next =>
      obtain ⟨σ', H', J', q⟩ := hsp
      exact wpAny_execs_nil ⟨σ', H', J'.ofTry ok, q⟩
    | brk =>
      obtain ⟨σ', H', J', q⟩ := hsp
      exact ⟨σ', H', J'.ofTry ok, q⟩
    | cont =>
      obtain ⟨σ', H', J', q⟩ := hsp
      exact ⟨σ', H', J'.ofTry ok, q⟩
    | ret u =>
      obtain ⟨v, σ', H', J', r, q⟩ := hsp
      exact ⟨v, σ', H', J'.ofTry ok, r, q⟩
end
end Rv
namespace Rv
open PySem PySem.Spec PyProof.Rows L2
section
variable {X : Cx} {k j : Nat} {n pre : Str}
theorem pmk_k {x : Str} {e : Expr} {ta : TE} {p pos : Pos} (km : KMk X.prog X.w X.K X.mg X.base k j n pre) (E : ErC X.K j) (hr : Room k X.A) (hgu : X.A.guards = some []) (gC : X.mg x = some (.ref (cm X.K j))) (hg : Gl X x)
    (he : PE X e ta) (hs : starEach [e] X.env = (false, eval e X.env) :: starEach [] X.env) (hdb : (x == ("__debug__" : Str)) = false) :
    PMk X (.Call (.Name x p) [e] [] pos) (fun σ H Q => ta σ H fun v H1 => FmtOk pre v ∧ ∀ dx, H1 dx = none → Q (.ref (cm X.K j)) (some dx) (upd H1 dx (.xd [(n, v)]))) := by
  intro pins s σ H Q I h
  refine wpAny_Call_Name_kw (ld_glob I hg gC ?_ hdb)
  refine PySem.W.callWith_K (h₀ := X.base) I.ok.mod.kin E.kp ?_ hs (by rfl)
  rw [hs]
  show wpAny _ _ (spliced ((false, eval e X.env) :: backTo pos (starEach [] X.env))) _ _ s
  refine Calls.spliced_cons (thn (he.run pins s σ H _ I h) fun u s1 ⟨v, H1, I1, r1, f1, q1⟩ => ?_)
  refine Calls.spliced_nil ⟨I1.kIn, ?_⟩
  show wpAny _ _ (call (.ref (cm X.K j)) [u]) _ _ _
  refine km.run X.A X.stack s1 H1 v u _ _ hr hgu I1.env0 r1 f1 fun a dx s' N => ?_
  obtain ⟨t0, ho⟩ := N.obj
  have hnd : H1 dx = none := I1.hok.gone N.newD
  have hna : H1 a = none := I1.hok.gone N.newA
  -- without the error's own object
  obtain ⟨G, g1, g2⟩ := restrict s'.heap fun b => decide (b ≠ a)
  have gk : ∀ b, b ≠ a → G.get? b = s'.heap.get? b := fun b hb => g1 b (decide_eq_true hb)
  have ge : G.get? a = none := g2 a (by simp)
  have kG : ∀ b u, s1.heap.get? b = some u → G.get? b = some u := fun b u z => by
    rw [gk b (fun e => by rw [e, N.newA] at z; cases z)]
    exact N.keep b u z
  have gs : ∀ b o, G.get? b = some o → s'.heap.get? b = some o := fun b o z => by
    by_cases hb : b = a
    · rw [hb, ge] at z; cases z
    · rw [← gk b hb]; exact z
  have J := I1.laidN (h' := G) (a := dx) (o := .xd [(n, v)]) (t' := s'.toks) kG N.newD hnd ⟨_, N.ns.at fun o y => (gk dx (Ne.symm N.ne)).trans y, fun f => by
    by_cases hf : f = n
    · subst hf
      simp [List.lookup]
      exact r1
    · have e : (f == n) = false := by simpa using hf
      simp [List.lookup, e, hf]
      exact True.intro⟩
  have J2 : Inv X pins σ (upd H1 dx (.xd [(n, v)])) { s' with heap := G } := by
    have J3 := J.call (ch := []) (h' := G) (g' := s'.gens) (t' := s'.toks) (d' := s'.drawn) (H' := upd H1 dx (.xd [(n, v)])) (Un.kept fun _ _ z => z) J.hok (by rw [N.gens]; exact I1.bare) (fun _ z => nomatch z)
    have e5 := N.os
    obtain ⟨a1, a2, a3, a4, a5⟩ := s'
    have e5 : a5 = s1.os := e5
    subst e5
    exact J3
  exact ⟨a, _, _, { s' with heap := G }, _, .ref (cm X.K j), some dx, rfl, J2, gs, ge, ho, ⟨rfl, rfl⟩, rfl, rfl, by rw [upd_ne N.ne]; exact hna, rfl, by rw [N.gens]; exact I1.bare, raises_own E.ic.hs E.ty, q1 dx hnd⟩
theorem ps_raisk {W : SX} {x : Str} {e : Expr} {p pos rpos : Pos} {fe : Rv.Env → M D} (km : KMk X.prog X.w X.K X.mg X.base k j n pre) (E : ErC X.K j) (hr : Room k X.A) (hgu : X.A.guards = some []) (hc : X.calm = true) (tk : TakesR X W) (gC : X.mg x = some (.ref (cm X.K j))) (hg : Gl X x)
    (he : PE X e (TEof X.K W fe)) (hs : starEach [e] X.env = (false, eval e X.env) :: starEach [] X.env) (hdb : (x == ("__debug__" : Str)) = false) :
    PS X (.Raise (some (.Call (.Name x p) [e] [] pos)) none rpos) (TSof X.K W fun ρ => do let x ← fe ρ; kText pre x; throwM ⟨j, [(n, x)]⟩) := by
  refine PS.of (ps_raise hc tk (pmk_k km E hr hgu gC hg he hs hdb)) fun D σ H h => ?_
  obtain ⟨ρ, μ, S, e, R, h⟩ := h
  refine ⟨ρ, μ, S, e, R, (Wp.bind.mp h).mono (fun d S1 h1 => ?_) fun _ _ z => z⟩
  intro v H1 μ1 st R1 dv
  obtain ⟨f1, h1⟩ := Wp.kText (Wp.bind.mp h1) dv
  refine ⟨f1, fun dx hn => ?_⟩
  have st2 : Step H1 μ1 (upd H1 dx (.xd [(n, v)])) μ1 := Step.aside hn
  refine ⟨⟨j, [(n, d)]⟩, μ1, rfl, Wp.throw.mp h1 (some dx) _ μ1 (st.trans st2) (R1.aside hn) ⟨E, fun q hq => ?_⟩ ⟨dx, _, rfl, upd_same, fun f y q => ?_⟩⟩
  · rw [List.mem_singleton.mp hq]
    exact km.fld
  · by_cases hf : f = n
    · subst hf
      simp [List.lookup] at q
      subst q
      exact ⟨v, by simp [List.lookup], Den.mono R1 st2 _ _ dv⟩
    · have e : (f == n) = false := by simpa using hf
      simp [List.lookup, e] at q
end
end Rv
set_option Elab.async false
set_option linter.all false
set_option maxRecDepth 100000
set_option maxHeartbeats 4000000
namespace Rv
open PySem PySem.Spec PyProof.Rows L2
/-! ### statements: from the text to the inner language -/
/-- in which sequence a tuple of names is stored: none where the model tells none -/
def swapQ (sc : Scope) (ts vs : List Expr) : Option (Option (List Str)) :=
  if !(ts.length == 2 || ts.length == 3) || vs.length != ts.length || sc.kind != .function then some none
  else if vs.any (fun e => isStar e) then some none
  else
    let line := (ts.head?.map (·.pos.line)).getD 0
    let names := ts.filterMap fun e => match e with
      | .Name id pos => if sc.names.lookup id == some .local && pos.line == line then some id else none
      | _ => none
    if names.length != ts.length || names.eraseDups.length != names.length then some none
    else if vs.all (foldedForSure 8) then some none
    else if vs.all (constantsAlone 8) then none
    else some (some names)
def isComp : Expr → Bool
  | .ListComp .. => true
  | .SetComp .. => true
  | .DictComp .. => true
  | _ => false
/-- whether a comprehension's list goes to its name while the block is still there -/
def lcUse (sc : Scope) (x : Str) (px : Pos) : Expr → Bool
  | .ListComp _ _ csc p => sc.kind == .function && sc.names.lookup x == some .local && px.line == p.line && !(csc.names.any fun (n, k) => n == x && (k == .local || k == .cell))
  | _ => false
def noDup : List Nat → Bool
  | [] => true
  | i :: is => !(is.contains i) && noDup is
def oneGen : List Comprehension → Bool
  | [⟨_, _, _, 0⟩] => true
  | _ => false
def cAsg (c : Ctx) (sc : Scope) (f : Expr → Option E) (tg e : Expr) : Option S :=
  match tg with
  | .Name _ _ => match cTg c.N sc tg, f e with
    | some t, some y => some (.asg t y)
    | _, _ => none
  | .Tuple ts _ _ => if c.hot then none else match cTg c.N sc tg, f e, e with
    | some t, some y, .Tuple vs _ _ => match swapQ sc ts vs with
      | some none => some (.asg t y)
      | some (some _) => match t with
        | .tup is => if noDup is then some (.asg t y) else none
        | _ => none
      | none => none
    | some t, some y, _ => some (.asg t y)
    | _, _, _ => none
  | .Subscript o i _ => match f o, f i, f e with
    | some x, some y, some z => some (.setIdx x y z)
    | _, _, _ => none
  | _ => none
def eachS (f : Stmt → Option S) : List Stmt → Option Ss
  | [] => some .nil
  | s :: ss => match f s, eachS f ss with
    | some x, some xs => some (.cons x xs)
    | _, _ => none
/-! in a try's body nothing is stored ahead of what may raise -/
mutual
def still : S → Bool
  | .expr _ => true | .ret _ => true | .retN => true | .rais _ _ => true | .raisk _ _ _ _ => true | .pass => true
  | .ife _ a b => stills a && stills b
  | _ => false
def stills : Ss → Bool
  | .nil => true
  | .cons s ss => still s && stills ss
end
def flat : S → Bool
  | .ife _ _ _ => false | .forr _ _ _ => false | .whil _ _ => false | .tryy _ _ => false
  | _ => true
def tryP : Ss → Bool
  | .cons s .nil => flat s || still s
  | ss => stills ss
def cHd (c : Ctx) (sc : Scope) (f : Stmt → Option S) : ExceptHandler → Option (Nat × Option Nat × Ss)
  | .ExceptHandler (some (.Name x _)) nm (b :: suite) _ => if isGlob sc x && plainName x then match c.exs.lookup x, eachS f (b :: suite) with
      | some (j, _), some is => match nm with
        | none => some (j, none, is)
        | some n => if sc.names.lookup n == some .local then (findN c.N n).map fun i => (j, some i, is) else none
      | _, _ => none
    else none
  | _ => none
def eachH (c : Ctx) (sc : Scope) (f : Stmt → Option S) : List ExceptHandler → Option Hs
  | [] => some .nil
  | h :: r => match cHd c sc f h, eachH c sc f r with
    | some (j, v, is), some t => some (.cons j v is t)
    | _, _ => none
def Ctx.heat (c : Ctx) : Ctx := { c with hot := true }
def cS1 (c : Ctx) (sc : Scope) (e : Expr → Option E) (f : Stmt → Option S) (f' : Stmt → Option S) (s : Stmt) : Option S := match s with
    | .Pass _ => some .pass
    | .Break _ => some .brk
    | .Continue _ => some .cont
    | .Return none _ => some .retN
    | .Return (some v) _ => (e v).map .ret
    | .Assign [tg] v _ => cAsg c sc e tg v
    | .Expr v _ => if isComp v then none else (e v).map .expr
    | .If t a b _ => match e t, eachS f a, eachS f b with
      | some x, some y, some z => some (.ife x y z)
      | _, _, _ => none
    | .For tg it body [] _ => if c.hot then none else match cTg c.N sc tg, cIt c sc e (isTup tg) it, eachS f body with
      | some t, some w, some y => some (.forr t w y)
      | _, _, _ => none
    | .While t body [] _ => match e t, eachS f body with
      | some x, some y => some (.whil x y)
      | _, _ => none
    | .Raise (some v) none _ => match cMkx c sc e v with
      | some (j, none, y) => some (.rais j y)
      | some (j, some (n, pre), y) => some (.raisk j n pre y)
      | none => none
    | .Try body (h :: hds) [] [] _ => if c.hot then none else match eachS f body, eachH c sc f' (h :: hds) with
      | some b, some hs => if tryP b then some (.tryy b hs) else none
      | _, _ => none
    | _ => none
/-- what has no form in the inner language is .bad there: it may not be reached -/
def cS' : Nat → Ctx → Scope → Stmt → Option S
  | 0, _, _, _ => some .bad
  | n + 1, c, sc, s => match cS1 c sc (cE c n sc) (cS' n c sc) (cS' n c.heat sc) s with
    | some x => some x
    | none => some .bad
abbrev cS (c : Ctx) (n : Nat) (sc : Scope) : Stmt → Option S := cS' n c sc
abbrev cSs (c : Ctx) (n : Nat) (sc : Scope) : List Stmt → Option Ss := eachS (cS c n sc)
/-! ### their soundness -/
structure GoodS (c : Ctx) (C : Cfg) (k : Nat) (X : Cx) (W : SX) (sc : Scope) : Prop extends Good c C k X W sc where
  pass : PassesOwn (model X.prog X.w) X.A X.env X.xe
  stk : X.stack = X.env :: X.outer
  frm : X.env.frame = some X.env.locals
  same : X.env.scope = sc
  kind : sc.kind = .function
section
variable {X : Cx} {W : SX} {C : Cfg} {c : Ctx} {k : Nat} {sc : Scope} {f : Expr → Option E} {x : Str} {p pos cpos apos : Pos} {i : E}
theorem block_fn (g : GoodS c C k X W sc) : X.env.blockKind = .function := by
  unfold Env.blockKind
  rw [g.same, g.kind]
  rfl
theorem swap_of (g : GoodS c C k X W sc) {ts vs : List Expr} {r : Option (List Str)} {k1 k2 : Nat} {p1 p2 : Pos} (h : swapQ sc ts vs = some r) : swappedStores [.Tuple ts k1 p1] (.Tuple vs k2 p2) X.env = pure r := by
  have hb := block_fn g
  have hk : ∀ id, X.env.kindOf id = sc.names.lookup id := fun id => by unfold Env.kindOf; rw [g.same]
  unfold swapQ at h
  unfold swappedStores
  simp only [hb, hk]
  rw [g.kind] at h
  by_cases c1 : (!(ts.length == 2 || ts.length == 3) || vs.length != ts.length || ScopeKind.function != ScopeKind.function) = true
  · rw [if_pos c1] at h ⊢
    cases h
    rfl
  rw [if_neg c1] at h ⊢
  split at h
  · rename_i h2
    split
    · cases h; rfl
    · rename_i h3; exact absurd h2 h3
  rename_i h2
  split
  · rename_i h3; exact absurd h3 h2
  simp only [] at h
  split at h
  · rename_i h4
    split
    · cases h; rfl
    · rename_i h5; exact absurd h4 h5
  rename_i h4
  split
  · rename_i h5; exact absurd h5 h4
  split at h
  · rename_i h6
    rw [if_pos h6]
    cases h; rfl
  rename_i h6
  rw [if_neg h6]
  split at h
  · cases h
  rename_i h7
  rw [if_neg h7]
  cases h
  rfl
end
end Rv
set_option Elab.async false
set_option linter.all false
set_option maxRecDepth 100000
set_option maxHeartbeats 4000000
namespace Rv
open PySem PySem.Spec PyProof.Rows L2
section
variable {X : Cx} {W : SX} {C : Cfg} {c : Ctx} {k : Nat} {sc : Scope} {f : Expr → Option E} {pos : Pos} {i : E}
/-! ### several names at once -/
def nameAt (sc : Scope) (line : Nat) (e : Expr) : Option Str := match e with
  | .Name id pos => if sc.names.lookup id == some .local && pos.line == line then some id else none
  | _ => none
theorem swap_some {ts vs : List Expr} {ns : List Str} (h : swapQ sc ts vs = some (some ns)) :
    (ts.length = 2 ∨ ts.length = 3) ∧ vs.length = ts.length ∧ ∃ line, ns = ts.filterMap (nameAt sc line) ∧ ns.length = ts.length := by
  unfold swapQ at h
  split at h
  · cases h
  rename_i h1
  split at h
  · cases h
  simp only [] at h
  split at h
  · cases h
  rename_i h4
  split at h
  · cases h
  split at h
  · cases h
  cases h
  simp only [Bool.or_eq_true, Bool.not_eq_true', bne_iff_ne, ne_eq, not_or, Bool.or_eq_false_iff, beq_eq_false_iff_ne, Classical.not_not] at h1 h4
  refine ⟨?_, h1.1.2, _, rfl, h4.1⟩
  have h2 := h1.1.1
  by_cases a : ts.length = 2
  · exact .inl a
  · by_cases b : ts.length = 3
    · exact .inr b
    · exact absurd ⟨a, b⟩ h2
theorem filterMap_all {α β : Type} {p : α → Option β} : ∀ {l : List α}, (l.filterMap p).length = l.length → ∀ x ∈ l, ∃ y, p x = some y
  | [], _, _, h => nomatch h
  | a :: l, h, x, hx => by
    have le : (l.filterMap p).length ≤ l.length := List.length_filterMap_le ..
    cases e : p a with
    | none =>
      rw [List.filterMap_cons_none e, List.length_cons] at h
      omega
    | some y =>
      rw [List.filterMap_cons_some e, List.length_cons, List.length_cons] at h
      rcases List.mem_cons.mp hx with rfl | hx
      · exact ⟨y, e⟩
      · exact filterMap_all (by omega) x hx
theorem nameAt_some {line : Nat} {e : Expr} {y : Str} (h : nameAt sc line e = some y) : ∃ p, e = .Name y p ∧ sc.names.lookup y = some .local := by
  unfold nameAt at h
  split at h
  · split at h
    · rename_i q
      cases h
      simp only [Bool.and_eq_true, beq_iff_eq] at q
      exact ⟨_, rfl, q.1⟩
    · cases h
  · cases h
theorem par_names (g : GoodS c C k X W sc) {e : Expr} {y : Str} {j : Nat} {p : Pos} (he : e = .Name y p) (hl : sc.names.lookup y = some .local) (q : cName c.N sc e = some j) : X.N[j]? = some y ∧ X.env.scope.names.lookup y = some .local := by
  subst he
  unfold cName at q
  simp only [hl, isLC, if_pos] at q
  exact ⟨by rw [g.N]; exact findN_get q, by rw [g.same]; exact hl⟩
theorem len2 {α : Type} {l : List α} (h : l.length = 2) : ∃ a b, l = [a, b] := by
  match l, h with
  | [a, b], _ => exact ⟨a, b, rfl⟩
theorem len3 {α : Type} {l : List α} (h : l.length = 3) : ∃ a b c, l = [a, b, c] := by
  match l, h with
  | [a, b, c], _ => exact ⟨a, b, c, rfl⟩
theorem PA.two_evs {ys : Es} {a b : Expr} (h : PA X [a, b] (TAof X.K W (evs C ys))) : PA X [a, b] (TAof X.K W (evs C ys)) := h
theorem tupE (f' : Expr → Option E) {ts vs : List Expr} {ns : List Str} {is : List Nat} {ys : Es} {kt k2 : Nat} {pt pt2 : Pos} (g : GoodS c C k X W sc) (h : Each X C W f') (e1 : cNames c.N sc ts = some is) (e2 : eachE f' vs = some ys) (hs : swapQ sc ts vs = some (some ns)) (hd : noDup is = true) (hh : c.hot = false) :
    PS X (.Assign [.Tuple ts kt pt] (.Tuple vs k2 pt2) pos) (TSof X.K W (evS C (.asg (.tup is) (.tup ys)))) := by
  have hw := swap_of g (k1 := kt) (k2 := k2) (p1 := pt) (p2 := pt2) hs
  obtain ⟨hl, hv, line, hn, hm⟩ := swap_some hs
  have hall : ∀ x ∈ ts, ∃ y, nameAt sc line x = some y := filterMap_all (by rw [← hn]; exact hm)
  have hA := eachE_pa h e2
  have hN : X.N.Nodup := by rw [g.N]; exact g.nd
  have hc := g.calm hh
  have fin : ∀ {m : Nat}, vs.length = m → ∀ {D : Ends} {σ : L2.St} {H : Hp}, TSof X.K W (evS C (.asg (.tup is) (.tup ys))) D σ H → TAof X.K W (evs C ys) σ H fun us H1 => us.length = m ∧ us.length = is.length ∧ D.nx ((is.zip us).foldl (fun σ p => σ.set p.1 (some p.2)) σ) H1 := fun {m} hm {D σ H} q => by
    obtain ⟨ρ, μ0, S0, e0, R0, q⟩ := q
    have q := Wp.bind.mp (Wp.bind.mp q)
    refine ⟨ρ, μ0, S0, e0, R0, (eachE_len e2 q).mono (fun ds S1 ⟨hn, h1⟩ us H1 μ1 st1 R1 dl => ?_) fun _ _ z => z⟩
    have h1 := Wp.bind.mp (Wp.pure.mp h1)
    obtain ⟨hlen, h1⟩ := Wp.need.mp (Wp.bind.mp h1)
    have h1 := Wp.pure.mp h1
    refine ⟨by rw [dl.length, hn, hm], by rw [dl.length, hlen], ?_⟩
    have h2 := Wp.pure.mp h1 H1 μ1 st1 R1
    refine h2 _ ?_
    -- the names one by one
    have go : ∀ (is : List Nat) (ds : List Rv.D) (us : List V) (σ : L2.St) (ρ : Env), DenL X.K H1 μ1 us ds → EnvR X.K H1 μ1 σ ρ → EnvR X.K H1 μ1 ((is.zip us).foldl (fun σ p => σ.set p.1 (some p.2)) σ) ((is.zip ds).foldl (fun ρ p => ρ.set p.1 (some p.2)) ρ) := by
      intro is
      induction is with
      | nil => intro ds us σ ρ _ e; exact e
      | cons j is ih =>
        intro ds us σ ρ dl e
        cases dl with
        | nil => exact e
        | cons h1 h2 => exact ih _ _ _ _ h2 (e.set h1)
    exact go is ds us σ ρ dl (e0.mono R0 st1)
  rcases hl with hl | hl
  · obtain ⟨t1, t2, rfl⟩ := len2 hl
    obtain ⟨a, b, rfl⟩ := len2 (hv.trans hl)
    · skip
      obtain ⟨x, hx⟩ := hall t1 (by simp)
      obtain ⟨y, hy⟩ := hall t2 (by simp)
      obtain ⟨px, rfl, lx⟩ := nameAt_some hx
      obtain ⟨py, rfl, ly⟩ := nameAt_some hy
      have hns : ns = [x, y] := by rw [hn]; simp [List.filterMap_cons, hx, hy]
      subst hns
      simp only [cNames] at e1
      cases q1 : cName c.N sc (.Name x px) with
      | none => rw [q1] at e1; cases e1
      | some i1 =>
        cases q2 : cName c.N sc (.Name y py) with
        | none => rw [q1, q2] at e1; cases e1
        | some i2 =>
          rw [q1, q2] at e1
          cases e1
          obtain ⟨n1, l1⟩ := par_names g rfl lx q1
          obtain ⟨n2, l2⟩ := par_names g rfl ly q2
          have hij : i1 ≠ i2 := by simpa [noDup] using hd
          refine PS.of (ps_par hc hN n1 n2 hij l1 l2 hA hw) fun D σ H q => ?_
          obtain ⟨ρ, μ, S, e, R, q⟩ := fin (m := 2) rfl q
          refine ⟨ρ, μ, S, e, R, q.mono (fun ds S1 h1 us H1 μ1 st R1 dl => ?_) fun _ _ z => z⟩
          obtain ⟨z1, z2, z3⟩ := h1 us H1 μ1 st R1 dl
          match us, z1, z3 with
          | [v, w], _, z3 => exact ⟨v, w, rfl, z3⟩
  · obtain ⟨t1, t2, t3, rfl⟩ := len3 hl
    obtain ⟨a, b, d, rfl⟩ := len3 (hv.trans hl)
    · skip
      obtain ⟨x, hx⟩ := hall t1 (by simp)
      obtain ⟨y, hy⟩ := hall t2 (by simp)
      obtain ⟨z, hz⟩ := hall t3 (by simp)
      obtain ⟨px, rfl, lx⟩ := nameAt_some hx
      obtain ⟨py, rfl, ly⟩ := nameAt_some hy
      obtain ⟨pz, rfl, lz⟩ := nameAt_some hz
      have hns : ns = [x, y, z] := by rw [hn]; simp [List.filterMap_cons, hx, hy, hz]
      subst hns
      simp only [cNames] at e1
      cases q1 : cName c.N sc (.Name x px) with
      | none => rw [q1] at e1; cases e1
      | some i1 =>
        cases q2 : cName c.N sc (.Name y py) with
        | none => rw [q1, q2] at e1; cases e1
        | some i2 =>
          cases q3 : cName c.N sc (.Name z pz) with
          | none => rw [q1, q2, q3] at e1; cases e1
          | some i3 =>
            rw [q1, q2, q3] at e1
            cases e1
            obtain ⟨n1, l1⟩ := par_names g rfl lx q1
            obtain ⟨n2, l2⟩ := par_names g rfl ly q2
            obtain ⟨n3, l3⟩ := par_names g rfl lz q3
            have hd' : (i1 ≠ i2 ∧ i1 ≠ i3) ∧ i2 ≠ i3 := by simpa [noDup] using hd
            refine PS.of (ps_par3 hc hN n1 n2 n3 hd'.1.1 hd'.1.2 hd'.2 l1 l2 l3 hA hw) fun D σ H q => ?_
            obtain ⟨ρ, μ, S, e, R, q⟩ := fin (m := 3) rfl q
            refine ⟨ρ, μ, S, e, R, q.mono (fun ds S1 h1 us H1 μ1 st R1 dl => ?_) fun _ _ z => z⟩
            obtain ⟨z1, z2, z3⟩ := h1 us H1 μ1 st R1 dl
            match us, z1, z3 with
            | [v, w, u], _, z3 => exact ⟨v, w, u, rfl, z3⟩
end
end Rv
set_option Elab.async false
set_option linter.all false
set_option maxRecDepth 100000
set_option maxHeartbeats 4000000
namespace Rv
open PySem PySem.Spec PyProof.Rows L2
section
variable {X : Cx} {W : SX} {C : Cfg} {c : Ctx} {k : Nat} {sc : Scope} {f : Expr → Option E} {pos spos : Pos} {i : E}
/-- name = [..], the list stored while its block is still there -/
theorem cComp_set {f2 : Expr → Option E} {csc : Scope} {y : Str} {py : Pos} {j : Nat} (g : GoodS c C k X W sc) (h : Each X C W f) (h2 : ∀ Y, Good c C k Y Z0 csc → Each Y C Z0 f2) (hset : ∀ es kk p, f (.Set es kk p) = none) {elt tg iter : Expr} {ifs : List Expr} (q : cComp c sc f f2 elt tg iter ifs csc = some i)
    (hy : X.N[j]? = some y) (hu : lcUse sc y py (.ListComp elt [⟨tg, iter, ifs, 0⟩] csc pos) = true) :
    PS X (.Assign [.Name y py] (.ListComp elt [⟨tg, iter, ifs, 0⟩] csc pos) spos) (TSof X.K W (evS C (.asg (.var j) i))) := by
  unfold cComp at q
  split at q
  · rename_i hb
    rw [Bool.and_eq_true] at hb
    obtain ⟨hb, hh⟩ := hb
    have hh : c.hot = false := by simpa using hh
    split at q
    · rename_i it t z cond e1 e2 e3 e4
      split at q
      · rename_i hsl
        cases q
        have ok : BlkOk X.N X.env.scope csc (ownOf c.N csc) := by
          rw [g.N]
          exact blk_of hb g.cf
        have ho : ∀ j ∈ t.slots, j ∈ (ownOf c.N csc).map (·.2) := fun j hj => by
          have := List.all_eq_true.mp hsl j hj
          simpa using this
        have hN : X.N.Nodup := by rw [g.N]; exact g.nd
        have gb : ∀ (s : Shared) (H : Hp) (Cc : Addr) (cl : List (Str × Addr)) (fp : List Addr), Good c C k (X.blk s H csc (compEnvC csc cl Cc X.env) fp) Z0 csc := fun s H Cc cl fp => g.toGood.blk s H Cc cl fp
        have ht : ∃ tt : TT, (∀ (s : Shared) (H : Hp) (Cc : Addr) (cl : List (Str × Addr)) (fp : List Addr), PTs (X.blk s H csc (compEnvC csc cl Cc X.env) fp) ifs tt) ∧ ∀ σ H Q, TTof X.K Z0 (evTest C cond) σ H Q → tt σ H Q := by
          split at e4
          · cases e4
            refine ⟨tYes, fun _ _ _ _ _ => pts_nil, fun σ H Q q => ?_⟩
            obtain ⟨ρ, μ, S, e, R, q⟩ := q
            exact Wp.pure.mp q H μ (Step.refl _ _) R
          · rename_i b
            obtain ⟨j, e5, rfl⟩ := Option.map_eq_some_iff.mp e4
            exact ⟨_, fun s H Cc cl fp => pts_one ((h2 _ (gb s H Cc cl fp)).snd _ _ e5).pt, fun σ H Q q => q⟩
          · cases e4
        obtain ⟨tt, ht, ht'⟩ := ht
        simp only [lcUse, Bool.and_eq_true, beq_iff_eq, Bool.not_eq_true'] at hu
        obtain ⟨⟨⟨u1, u2⟩, u3⟩, u4⟩ := hu
        have hyl : X.env.scope.names.lookup y = some .local := by rw [g.same]; exact u2
        exact PS.of (ps_setLc (g.calm hh) hN hy hyl (sw_true (by rw [g.same]; exact g.kind) hyl (by rw [u3]; exact beq_self_eq_true _) u4) (cIt_pi g.toGood h e1) ok (fun s H Cc cl fp => cTg_pg (gb s H Cc cl fp) hh e2) ht (fun s H Cc cl fp => ((h2 _ (gb s H Cc cl fp)).snd _ _ e3).pe) (folded_of (cIt_noSet hset e1))) fun D σ H q =>
          tAsg_of (fun σ H Q q => tLc_of ho ht' (fun _ _ _ q => q) (fun _ _ _ q => q) q) (fun v σ H Q q => by
            obtain ⟨ρ, μ, S, d, e, R, dd, q⟩ := q
            exact q.2 _ (e.set dd)) q
      · cases q
    · cases q
  · cases q
theorem comp_sw {e : Expr} {t : Expr} {l : Nat} {env : PySem.Env} (h : isComp e = false) : swapsWith e (some t) l env = pure false := by
  cases e <;> first | rfl | cases h
theorem comp_sw0 {e : Expr} {l : Nat} {env : PySem.Env} (h : isComp e = false) : swapsWith e none l env = pure false := by
  cases e <;> first | rfl | cases h
theorem comp_swT {e : Expr} {ts : List Expr} {kt : Nat} {pt : Pos} {l : Nat} {env : PySem.Env} : swapsWith e (some (.Tuple ts kt pt)) l env = pure false := by
  cases e <;> rfl
theorem comp_swS {e o i : Expr} {pt : Pos} {l : Nat} {env : PySem.Env} : swapsWith e (some (.Subscript o i pt)) l env = pure false := by
  cases e <;> rfl
theorem lc_no {e : Expr} {y : Str} {py : Pos} (g : GoodS c C k X W sc) (hd : ∀ a b d z, e ≠ .SetComp a b d z) (hd2 : ∀ a a' b d z, e ≠ .DictComp a a' b d z) (h : lcUse sc y py e = false) {l : Nat} : swapsWith e (some (.Name y py)) l X.env = pure false := by
  cases e with
  | ListComp elt gs csc p =>
    have hb := block_fn g
    have hk : X.env.kindOf y = sc.names.lookup y := by unfold Env.kindOf; rw [g.same]
    unfold lcUse at h
    unfold swapsWith
    simp only [hb, hk]
    rw [g.kind] at h
    exact congrArg pure h
  | SetComp => exact absurd rfl (hd _ _ _ _)
  | DictComp => exact absurd rfl (hd2 _ _ _ _ _)
  | _ => rfl
theorem swap_plain {tg e : Expr} {env : PySem.Env} (h : ∀ vs kk p, e ≠ .Tuple vs kk p) : swappedStores [tg] e env = pure none := by
  cases e with
  | Tuple => exact absurd rfl (h _ _ _)
  | _ => cases tg <;> rfl
theorem swap_name {y : Str} {py : Pos} {e : Expr} {env : PySem.Env} : swappedStores [.Name y py] e env = pure none := by cases e <;> rfl
theorem swap_sub {o i : Expr} {py : Pos} {e : Expr} {env : PySem.Env} : swappedStores [.Subscript o i py] e env = pure none := by cases e <;> rfl
theorem SetComp_none {n : Nat} {sc : Scope} {a : Expr} {b : List Comprehension} {d : Scope} {z : Pos} : cE c n sc (.SetComp a b d z) = none := by cases n <;> rfl
theorem DictComp_none {n : Nat} {sc : Scope} {a a' : Expr} {b : List Comprehension} {d : Scope} {z : Pos} : cE c n sc (.DictComp a a' b d z) = none := by cases n <;> rfl
theorem each_cE (n : Nat) (g : Good c C k X W sc) : Each X C W (cE c n sc) := ⟨cE_snd n g, fun e i => Star_none⟩
theorem comp_parts {n : Nat} {elt : Expr} {gs : List Comprehension} {csc : Scope} {p : Pos} (h : cE c n sc (.ListComp elt gs csc p) = some i) :
    ∃ m tg iter ifs, gs = [⟨tg, iter, ifs, 0⟩] ∧ cComp c sc (cE c m sc) (cE c m csc) elt tg iter ifs csc = some i := by
  cases n with
  | zero => cases h
  | succ n =>
    have h : (match (generalizing := false) gs with
        | [⟨tg, iter, ifs, 0⟩] => cComp c sc (cE c n sc) (cE c n csc) elt tg iter ifs csc
        | _ => none) = some i := h
    split at h
    · exact ⟨n, _, _, _, rfl, h⟩
    · cases h
theorem tup_parts {n : Nat} {vs : List Expr} {kk : Nat} {p : Pos} (h : cE c n sc (.Tuple vs kk p) = some i) : ∃ m ys, eachE (cE c m sc) vs = some ys ∧ i = .tup ys := by
  cases n with
  | zero => cases h
  | succ n =>
    have h : (if vs.length ≤ 1000 then (eachE (cE c n sc) vs).map E.tup else none) = some i := h
    split at h
    · obtain ⟨ys, e1, rfl⟩ := Option.map_eq_some_iff.mp h
      exact ⟨n, ys, e1, rfl⟩
    · cases h
theorem assign_sub {o i : Expr} {tpos : Pos} {env : PySem.Env} (h : isSlice i = false) (v : Value) : assign (.Subscript o i tpos) env v = (do
      let ov ← holding [v] (eval o env)
      let iv ← holding [v, ov] (eval i env)
      standAt tpos
      holding [v, ov, iv] (setItem ov iv v)
      release [v, ov, iv] []) := by
  cases i <;> first | rfl | cases h
theorem cAsg_ps {n : Nat} (g : GoodS c C k X W sc) {tg e : Expr} {s : S} (h : cAsg c sc (cE c n sc) tg e = some s) : PS X (.Assign [tg] e pos) (TSof X.K W (evS C s)) := by
  have EE := each_cE n g.toGood
  unfold cAsg at h
  split at h
  · rename_i y py
    split at h
    · rename_i t z e1 e2
      cases h
      obtain ⟨j, q1, rfl⟩ := Option.map_eq_some_iff.mp (show (cName c.N sc (.Name y py)).map Tg.var = some t from e1)
      have hpg := (cName_pg g.toGood q1).1
      have hN : X.N[j]? = some y := by
        have q1' : (if isLC (sc.names.lookup y) then findN c.N y else none) = some j := q1
        split at q1'
        · rw [g.N]; exact findN_get q1'
        · cases q1'
      cases hu : lcUse sc y py e with
      | true =>
        cases e with
        | ListComp elt gs csc p =>
          obtain ⟨m, tg', iter, ifs, rfl, q2⟩ := comp_parts e2
          exact cComp_set g (each_cE m g.toGood) (fun Y gY => each_cE m gY) (fun _ _ _ => Set_none) q2 hN hu
        | _ => cases hu
      | false =>
        have hs := lc_no (l := pos.line) g (fun a b d z e' => by rw [e', SetComp_none] at e2; cases e2) (fun a a' b d z e' => by rw [e', DictComp_none] at e2; cases e2) hu
        exact PS.of (ps_asg (EE.snd _ _ e2).pe hpg (show swapsWith e (some (.Name y py)) pos.line X.env = pure false from hs) swap_name) fun D σ H q =>
          tAsg_of (fun _ _ _ q => q) (fun v σ H Q q => by
            obtain ⟨ρ, μ, S, d, e, R, dd, q⟩ := q
            exact q.2 _ (e.set dd)) q
    · cases h
  · rename_i ts kt pt
    have plain : c.hot = false → ∀ {t : Tg} {z : E}, cTg c.N sc (.Tuple ts kt pt) = some t → cE c n sc e = some z → swappedStores [.Tuple ts kt pt] e X.env = pure none → PS X (.Assign [.Tuple ts kt pt] e pos) (TSof X.K W (evS C (.asg t z))) := fun hh _ _ e1 e2 hw =>
      PS.of (ps_asg (EE.snd _ _ e2).pe (cTg_pg g.toGood hh e1) (show swapsWith e (some (.Tuple ts kt pt)) pos.line X.env = pure false from comp_swT) hw) fun D σ H q => tAsg_of (fun _ _ _ q => q) (fun v σ H Q q => gOf_of q) q
    split at h
    · cases h
    rename_i hz
    have hh : c.hot = false := by simpa using hz
    split at h
    · rename_i t z vs k2 p2 e1 e2
      split at h
      · rename_i hsw
        cases h
        exact plain hh e1 e2 (swap_of g hsw)
      · rename_i ns hsw
        split at h
        · rename_i is
          split at h
          · rename_i hd
            cases h
            obtain ⟨m, ys, q1, rfl⟩ := tup_parts e2
            have q2 : cNames c.N sc ts = some is := by
              have q : cTgT c.N sc ts = some (.tup is) := e1
              unfold cTgT at q
              split at q
              · rename_i js q3
                cases q
                exact q3
              · obtain ⟨_, _, q3⟩ := Option.map_eq_some_iff.mp q
                cases q3
            exact tupE (cE c m sc) g (each_cE m g.toGood) q2 q1 hsw hd hh
          · cases h
        · cases h
      · cases h
    · rename_i t z e1 hne e2
      cases h
      exact plain hh e1 e2 (swap_plain fun vs kk p e' => hne _ _ _ e')
    · cases h
  · rename_i o j tp
    split at h
    · rename_i x y z e1 e2 e3
      cases h
      have hsl : isSlice j = false := by
        cases j with
        | Slice => rw [Slice_none] at e2; cases e2
        | _ => rfl
      exact ps_setI (EE.snd _ _ e1).pe (EE.snd _ _ e2).pe (EE.snd _ _ e3).pe (show swapsWith e (some (.Subscript o j tp)) pos.line X.env = pure false from comp_swS) swap_sub (assign_sub hsl)
    · cases h
  · cases h
theorem eachS_pss {W : WX} {f : Stmt → Option S} (h : ∀ s i, f s = some i → PS X s (TSof X.K (kW W) (evS C i))) : ∀ {ss : List Stmt} {is : Ss}, eachS f ss = some is → PSs X ss (TSof X.K (kW W) (evSs C is))
  | [], is, q => by
    cases q
    refine PSs.of pss_nil fun D σ H q => ?_
    obtain ⟨ρ, μ, S, e, R, q⟩ := q
    exact Wp.pure.mp q H μ (Step.refl _ _) R σ e
  | s :: ss, is, q => by
    unfold eachS at q
    cases e1 : f s with
    | none => rw [e1] at q; cases q
    | some x =>
      cases e2 : eachS f ss with
      | none => rw [e1, e2] at q; cases q
      | some xs =>
        rw [e1, e2] at q
        cases q
        exact PSs.of (pss_cons (h _ _ e1) (eachS_pss h e2)) fun D σ H q => tSeq_of (fun _ _ _ q => q) (fun _ _ _ q => q) q
theorem bad_ps {s : Stmt} : PS X s (TSof X.K W (evS C .bad)) := PS.of ps_never fun D σ H q => by
  obtain ⟨ρ, μ, S, e, R, q⟩ := q
  exact q.elim
/-! ### what a raise says -/
theorem cMkx_of {e : Expr → Option E} {v : Expr} {j : Nat} {o : Option (Str × Str)} {y : E} (h : cMkx c sc e v = some (j, o, y)) :
    ∃ x p a pos, v = .Call (.Name x p) [a] [] pos ∧ isGlob sc x = true ∧ plainName x = true ∧ c.hot = false ∧ c.exs.lookup x = some (j, o) ∧ e a = some y := by
  unfold cMkx at h
  split at h
  · rename_i x p a pos
    split at h
    · rename_i hc
      simp only [Bool.and_eq_true, Bool.not_eq_true'] at hc
      split at h
      · rename_i j' o' y' e1 e2
        cases h
        exact ⟨x, p, a, pos, rfl, hc.1.1, hc.1.2, hc.2, e1, e2⟩
      · cases h
    · cases h
  · cases h
theorem flat_ps (g : GoodS c C k X W sc) : ∀ (n : Nat) (s : Stmt) (i : S), cS c n sc s = some i → flat i = true → PS X s (TSof X.K W (evS C i))
  | 0, s, _, h, _ => by
    cases h
    exact bad_ps
  | n + 1, s, i, h, hf => by
    have EE := each_cE n g.toGood
    unfold cS cS' at h
    split at h
    rename_i h0
    rotate_left
    · cases h
      exact bad_ps
    cases h
    have h := h0
    unfold cS1 at h
    split at h
    · cases h
      refine PS.of ps_pass fun D σ H q => ?_
      obtain ⟨ρ, μ, S, e, R, q⟩ := q
      exact Wp.pure.mp q H μ (Step.refl _ _) R σ e
    · cases h
      refine PS.of ps_break fun D σ H q => ?_
      obtain ⟨ρ, μ, S, e, R, q⟩ := q
      exact Wp.pure.mp q H μ (Step.refl _ _) R σ e
    · cases h
      refine PS.of ps_continue fun D σ H q => ?_
      obtain ⟨ρ, μ, S, e, R, q⟩ := q
      exact Wp.pure.mp q H μ (Step.refl _ _) R σ e
    · cases h
      refine PS.of ps_retN fun D σ H q => ?_
      obtain ⟨ρ, μ, S, e, R, q⟩ := q
      exact Wp.pure.mp q H μ (Step.refl _ _) R .non .non
    · obtain ⟨x, e1, rfl⟩ := Option.map_eq_some_iff.mp h
      exact PS.of (ps_ret (EE.snd _ _ e1).pe) fun D σ H q => tRet_of (fun _ _ _ q => q) q
    · exact cAsg_ps g h
    · split at h
      · cases h
      · rename_i hc
        obtain ⟨x, e1, rfl⟩ := Option.map_eq_some_iff.mp h
        exact PS.of (ps_expr (EE.snd _ _ e1).pe (comp_sw0 (by simpa using hc))) fun D σ H q => tDrop_of (fun _ _ _ q => q) q
    · split at h <;> cases h
      cases hf
    · split at h
      · cases h
      · split at h <;> cases h
        cases hf
    · split at h <;> cases h
      cases hf
    · split at h
      · rename_i j y e1
        cases h
        obtain ⟨x, p, a, pos, rfl, hg, hp, hh, e2, e3⟩ := cMkx_of e1
        obtain ⟨_, n2, _⟩ := plain_ne hp
        obtain ⟨_, _, m, E⟩ := g.G.er _ _ _ e2
        exact ps_rais (g.calm hh) g.tk F.excBase_ValueError (g.G.mk0 _ _ e2) E m (g.gl _ hg) (EE.snd _ _ e3).pe (starEach_cons (EE.star _ _ e3)) n2
      · rename_i j nn pre y e1
        cases h
        obtain ⟨x, p, a, pos, rfl, hg, hp, hh, e2, e3⟩ := cMkx_of e1
        obtain ⟨_, n2, _⟩ := plain_ne hp
        obtain ⟨_, _, m, E⟩ := g.G.er _ _ _ e2
        exact ps_raisk (g.G.mkk _ _ _ _ e2) E (g.room hh) g.gd.guards (g.calm hh) g.tk m (g.gl _ hg) (EE.snd _ _ e3).pe (starEach_cons (EE.star _ _ e3)) n2
      · cases h
    · split at h
      · cases h
      · split at h
        · split at h <;> cases h
          cases hf
        · cases h
    · cases h
end
end Rv
set_option Elab.async false
set_option linter.all false
set_option maxRecDepth 100000
set_option maxHeartbeats 4000000
namespace Rv
open PySem PySem.Spec PyProof.Rows L2
/-! ### bodies of try that store nothing -/
def sameF (ρ : Env) : Flow → Prop
  | .next ρ' => ρ' = ρ
  | .ret _ => True
  | _ => False
def post0 (K : PySem.W.Frag) (D : Ends) (σ : L2.St) (ρ : Env) (H : Hp) (μ : List Addr) : Flow → Sto → Prop := fun f S' => ∀ H' μ', Step H μ H' μ' → Rel K H' μ' S' → match f with
  | .next ρ' => ρ' = ρ → D.nx σ H'
  | .ret d => ∀ v, Den K H' μ' v d → D.rt v H'
  | _ => True
def T0of (K : PySem.W.Frag) (W : SX) (f : Env → M Flow) : TS := fun D σ H => ∃ ρ μ S, EnvR K H μ σ ρ ∧ Rel K H μ S ∧ Wp (f ρ) S (post0 K D σ ρ H μ) (AfterX K (W σ) H μ)
/-- it leaves the names as they are -/
def Same (f : Env → M Flow) : Prop := ∀ (ρ : Env) (S : Sto) (k : Flow → Sto → Prop) (w : Exn → Sto → Prop), Wp (f ρ) S k w → Wp (f ρ) S (fun fl S' => k fl S' ∧ sameF ρ fl) w
theorem post0.on {K : PySem.W.Frag} {D : Ends} {σ : L2.St} {ρ : Env} {H H1 : Hp} {μ μ1 : List Addr} (s : Step H μ H1 μ1) {f : Flow} {S : Sto} (h : post0 K D σ ρ H μ f S) : post0 K D σ ρ H1 μ1 f S := fun H' μ' s' R => h H' μ' (s.trans s') R
section
variable {C : Cfg}
theorem Same.seq {f g : Env → M Flow} (hf : Same f) (hg : Same g) : Same (fun ρ => do let r ← f ρ; match r with | .next ρ' => g ρ' | .ret d => pure (.ret d) | .brk ρ' => pure (.brk ρ') | .cont ρ' => pure (.cont ρ')) := by
  intro ρ S k w h
  refine Wp.bind.mpr ((hf ρ S _ w (Wp.bind.mp h)).mono (fun r S1 h1 => ?_) fun _ _ z => z)
  obtain ⟨h1, h2⟩ := h1
  cases r with
  | next ρ' =>
    have h2 : ρ' = ρ := h2
    subst h2
    exact hg _ S1 k w h1
  | ret d => exact ⟨Wp.pure.mp h1, trivial⟩
  | brk ρ' => exact h2.elim
  | cont ρ' => exact h2.elim
mutual
theorem still_same : ∀ (s : S), still s = true → Same (evS C s)
  | .expr e, _ => fun ρ S k w h => Wp.bind.mpr ((Wp.bind.mp (show Wp (do let _ ← ev C e ρ; pure (.next ρ)) S k w from h)).mono (fun _ _ z => ⟨z, rfl⟩) fun _ _ z => z)
  | .ret e, _ => fun ρ S k w h => Wp.bind.mpr ((Wp.bind.mp (show Wp (do let d ← ev C e ρ; pure (.ret d)) S k w from h)).mono (fun _ _ z => ⟨z, trivial⟩) fun _ _ z => z)
  | .retN, _ => fun ρ S k w h => ⟨h, trivial⟩
  | .pass, _ => fun ρ S k w h => ⟨h, rfl⟩
  | .rais c e, _ => fun ρ S k w h => by
    have h : Wp (do let x ← ev C e ρ; isText x; throwM ⟨c, []⟩) S k w := h
    exact Wp.bind.mpr ((Wp.bind.mp h).mono (fun x S1 h1 => Wp.bind.mpr ((Wp.bind.mp h1).mono (fun _ _ z => z) fun _ _ z => z)) fun _ _ z => z)
  | .raisk c n pre e, _ => fun ρ S k w h => by
    have h : Wp (do let x ← ev C e ρ; kText pre x; throwM ⟨c, [(n, x)]⟩) S k w := h
    exact Wp.bind.mpr ((Wp.bind.mp h).mono (fun x S1 h1 => Wp.bind.mpr ((Wp.bind.mp h1).mono (fun _ _ z => z) fun _ _ z => z)) fun _ _ z => z)
  | .ife c a b, hs => fun ρ S k w h => by
    have hs : (stills a && stills b) = true := hs
    rw [Bool.and_eq_true] at hs
    have h : Wp (do let x ← ev C c ρ; let k ← truth x; if k then evSs C a ρ else evSs C b ρ) S k w := h
    refine Wp.bind.mpr ((Wp.bind.mp h).mono (fun x S1 h1 => Wp.bind.mpr ((Wp.bind.mp h1).mono (fun t S2 h2 => ?_) fun _ _ z => z)) fun _ _ z => z)
    cases t with
    | true => exact stills_same a hs.1 ρ S2 k w h2
    | false => exact stills_same b hs.2 ρ S2 k w h2
theorem stills_same : ∀ (ss : Ss), stills ss = true → Same (evSs C ss)
  | .nil, _ => fun ρ S k w h => ⟨h, rfl⟩
  | .cons s ss, hs => by
    have hs : (still s && stills ss) = true := hs
    rw [Bool.and_eq_true] at hs
    exact Same.seq (still_same s hs.1) (stills_same ss hs.2)
end
end
section
variable {X : Cx} {W : SX} {C : Cfg} {c : Ctx} {k : Nat} {sc : Scope} {pos : Pos}
theorem T0_of {f : Env → M Flow} {D : Ends} {σ : L2.St} {H : Hp} (h : TSof X.K W f D σ H) : T0of X.K W f D σ H := by
  obtain ⟨ρ, μ, S, e, R, h⟩ := h
  refine ⟨ρ, μ, S, e, R, h.mono (fun fl S1 h1 H1 μ1 st R1 => ?_) fun _ _ z => z⟩
  have h1 := h1 H1 μ1 st R1
  cases fl with
  | next ρ' => exact fun z => h1 σ (by rw [z]; exact e.mono R st)
  | ret d => exact h1
  | _ => trivial
theorem tSeq0 {t u : TS} {f g : Env → M Flow} (hf : Same f) (ht : ∀ D σ H, T0of X.K W f D σ H → t D σ H) (hu : ∀ D σ H, T0of X.K W g D σ H → u D σ H) {D : Ends} {σ : L2.St} {H : Hp}
    (h : T0of X.K W (fun ρ => do let r ← f ρ; match r with | .next ρ' => g ρ' | .ret d => pure (.ret d) | .brk ρ' => pure (.brk ρ') | .cont ρ' => pure (.cont ρ')) D σ H) : tSeq t u D σ H := by
  obtain ⟨ρ, μ0, S0, e0, R0, h⟩ := h
  refine ht _ _ _ ⟨ρ, μ0, S0, e0, R0, (hf _ _ _ _ (Wp.bind.mp h)).mono (fun r S1 ⟨h1, h2⟩ => ?_) fun _ _ z => z⟩
  intro H1 μ1 st1 R1
  cases r with
  | next ρ' =>
    have h2 : ρ' = ρ := h2
    subst h2
    exact fun _ => hu _ _ _ ⟨ρ', μ1, S1, e0.mono R0 st1, R1, h1.mono (fun f S2 h2 => post0.on st1 h2) fun c S' z => z.on st1⟩
  | ret d => exact Wp.pure.mp h1 H1 μ1 st1 R1
  | brk ρ' => trivial
  | cont ρ' => trivial
theorem tIf0 {tc : TT} {t u : TS} {c : Env → M Bool} {f g : Env → M Flow} (hc : ∀ σ H Q, TTof X.K W c σ H Q → tc σ H Q) (ht : ∀ D σ H, T0of X.K W f D σ H → t D σ H) (hu : ∀ D σ H, T0of X.K W g D σ H → u D σ H) {D : Ends} {σ : L2.St} {H : Hp}
    (h : T0of X.K W (fun ρ => do let k ← c ρ; if k then f ρ else g ρ) D σ H) : tIfS tc t u D σ H := by
  obtain ⟨ρ, μ0, S0, e0, R0, h⟩ := h
  refine hc _ _ _ ⟨ρ, μ0, S0, e0, R0, (Wp.bind.mp h).mono (fun b S1 h1 => ?_) fun _ _ z => z⟩
  intro H1 μ1 st1 R1
  have e1 := e0.mono R0 st1
  cases b with
  | true =>
    rw [if_pos rfl] at h1 ⊢
    exact ht _ _ _ ⟨ρ, μ1, S1, e1, R1, h1.mono (fun f S2 h2 => post0.on st1 h2) fun c S' z => z.on st1⟩
  | false =>
    rw [if_neg Bool.false_ne_true] at h1 ⊢
    exact hu _ _ _ ⟨ρ, μ1, S1, e1, R1, h1.mono (fun f S2 h2 => post0.on st1 h2) fun c S' z => z.on st1⟩
/-- what ends or raises: nothing follows -/
theorem T0_last {f : Env → M Flow} (hn : ∀ (ρ : Env) (S : Sto) (k : Flow → Sto → Prop) (w : Exn → Sto → Prop), Wp (f ρ) S k w → Wp (f ρ) S (fun fl S' => k fl S' ∧ ∃ d, fl = .ret d) w) {D : Ends} {σ : L2.St} {H : Hp} (h : T0of X.K W f D σ H) : TSof X.K W f D σ H := by
  obtain ⟨ρ, μ, S, e, R, h⟩ := h
  refine ⟨ρ, μ, S, e, R, (hn _ _ _ _ h).mono (fun fl S1 ⟨h1, d, hd⟩ H1 μ1 st R1 => ?_) fun _ _ z => z⟩
  subst hd
  exact h1 H1 μ1 st R1
theorem eachS_T0 {f : Stmt → Option S} (one : ∀ (s : Stmt) (i : S), f s = some i → still i = true → PS X s (T0of X.K W (evS C i))) : ∀ {ss : List Stmt} {is : Ss}, eachS f ss = some is → stills is = true → PSs X ss (T0of X.K W (evSs C is))
  | [], is, q, _ => by
    cases q
    refine PSs.of pss_nil fun D σ H q => ?_
    obtain ⟨ρ, μ, S, e, R, q⟩ := q
    exact Wp.pure.mp (show Wp (pure (.next ρ) : M Flow) S _ _ from q) H μ (Step.refl _ _) R rfl
  | s :: ss, is, q, hs => by
    unfold eachS at q
    cases e1 : f s with
    | none => rw [e1] at q; cases q
    | some x =>
      cases e2 : eachS f ss with
      | none => rw [e1, e2] at q; cases q
      | some xs =>
        rw [e1, e2] at q
        cases q
        have hs : (still x && stills xs) = true := hs
        rw [Bool.and_eq_true] at hs
        exact PSs.of (pss_cons (one _ _ e1 hs.1) (eachS_T0 one e2 hs.2)) fun D σ H q => tSeq0 (still_same x hs.1) (fun _ _ _ q => q) (fun _ _ _ q => q) q
theorem drop0 {f : Expr → Option E} (EE : Each X C W f) {v : Expr} {x : E} {pos : Pos} (e1 : f v = some x) (hc : isComp v = false) : PS X (.Expr v pos) (T0of X.K W (evS C (.expr x))) := by
  refine PS.of (ps_expr (EE.snd _ _ e1).pe (comp_sw0 hc)) fun D σ H q => ?_
  obtain ⟨ρ, μ, S, e, R, q⟩ := q
  have q : Wp (do let _ ← ev C x ρ; pure (.next ρ)) S (post0 X.K D σ ρ H μ) (AfterX X.K (W σ) H μ) := q
  exact ⟨ρ, μ, S, e, R, (Wp.bind.mp q).mono (fun d S1 h1 v H1 μ1 st R1 dv => Wp.pure.mp h1 H1 μ1 st R1 rfl) fun _ _ z => z⟩
theorem cAsg_flat {f : Expr → Option E} {tg e : Expr} {i : S} (h : cAsg c sc f tg e = some i) : flat i = true ∧ still i = false := by
  unfold cAsg at h
  repeat' (split at h)
  all_goals (cases h)
  all_goals exact ⟨rfl, rfl⟩
theorem still_ps (g : GoodS c C k X W sc) : ∀ (n : Nat) (s : Stmt) (i : S), cS c n sc s = some i → still i = true → PS X s (T0of X.K W (evS C i))
  | 0, s, i, h, hs => by
    cases h
    cases hs
  | n + 1, s, i, h, hs => by
    have EE := each_cE n g.toGood
    have fl := flat_ps g (n + 1) s i h
    cases i with
    | ret e => exact PS.of (fl rfl) fun D σ H q => T0_last (fun ρ S k w h => Wp.bind.mpr ((Wp.bind.mp (show Wp (do let d ← ev C e ρ; pure (.ret d)) S k w from h)).mono (fun _ _ z => ⟨z, _, rfl⟩) fun _ _ z => z)) q
    | retN => exact PS.of (fl rfl) fun D σ H q => T0_last (fun ρ S k w h => (show Wp (pure (.ret .non) : M Flow) S (fun fl S' => k fl S' ∧ ∃ d, fl = .ret d) w from ⟨h, _, rfl⟩)) q
    | rais j e => exact PS.of (fl rfl) fun D σ H q => T0_last (fun ρ S k w h => by
        have h : Wp (do let x ← ev C e ρ; isText x; throwM ⟨j, []⟩) S k w := h
        exact Wp.bind.mpr ((Wp.bind.mp h).mono (fun x S1 h1 => Wp.bind.mpr ((Wp.bind.mp h1).mono (fun _ _ z => z) fun _ _ z => z)) fun _ _ z => z)) q
    | raisk j nn pre e => exact PS.of (fl rfl) fun D σ H q => T0_last (fun ρ S k w h => by
        have h : Wp (do let x ← ev C e ρ; kText pre x; throwM ⟨j, [(nn, x)]⟩) S k w := h
        exact Wp.bind.mpr ((Wp.bind.mp h).mono (fun x S1 h1 => Wp.bind.mpr ((Wp.bind.mp h1).mono (fun _ _ z => z) fun _ _ z => z)) fun _ _ z => z)) q
    | pass | expr _ | ife _ _ _ =>
      unfold cS cS' at h
      split at h
      rename_i h0
      rotate_left
      · cases h
      cases h
      have h := h0
      unfold cS1 at h
      split at h
      · cases h
        try
          refine PS.of ps_pass fun D σ H q => ?_
          obtain ⟨ρ, μ, S, e, R, q⟩ := q
          exact Wp.pure.mp (show Wp (pure (.next ρ) : M Flow) S _ _ from q) H μ (Step.refl _ _) R rfl
      · cases h
      · cases h
      · cases h
      · obtain ⟨x, e1, e2⟩ := Option.map_eq_some_iff.mp h
        cases e2
      · exact nomatch hs.symm.trans (cAsg_flat h).2
      · split at h
        · cases h
        · rename_i hc
          obtain ⟨x, e1, e2⟩ := Option.map_eq_some_iff.mp h
          cases e2 <;> exact drop0 EE e1 (by simpa using hc)
      · split at h <;> cases h
        try
          rename_i e1 e2 e3
          have hs : (stills _ && stills _) = true := hs
          rw [Bool.and_eq_true] at hs
          refine PS.of (ps_if (EE.snd _ _ e1).pt (eachS_T0 (still_ps g n) e2 hs.1) (eachS_T0 (still_ps g n) e3 hs.2)) fun D σ H q => tIf0 (fun _ _ _ q => q) (fun _ _ _ q => q) (fun _ _ _ q => q) ?_
          obtain ⟨ρ, μ, S, e, R, q⟩ := q
          exact ⟨ρ, μ, S, e, R, Wp.bind.mpr (Wp.bind.mpr ((Wp.bind.mp (show Wp (do let a ← ev C _ ρ; let k ← truth a; if k then evSs C _ ρ else evSs C _ ρ) S _ _ from q)).mono (fun _ _ z => Wp.bind.mp z) fun _ _ z => z))⟩
      · split at h
        · cases h
        · split at h <;> cases h
      · split at h <;> cases h
      · split at h <;> cases h
      · split at h
        · cases h
        · split at h
          · split at h <;> cases h
          · cases h
      · cases h
    | _ => cases hs
/-! ### try -/
theorem GoodS.tr (g : GoodS c C k X W sc) {W' : SX} {pn : List (Addr × Obj)} {xe : Value → Shared → Prop} (tk : TakesR (X.tr pn xe) W') (hp : PassesOwn (model X.prog X.w) X.A X.env xe) : GoodS c C k (X.tr pn xe) W' sc :=
  ⟨⟨⟨g.gd.units, g.gd.guards, g.gd.sys⟩, g.N, g.nd, tk, g.calm, g.room, g.vis, g.cf, g.loc, g.cel, g.gl, g.G⟩, hp, g.stk, g.frm, g.same, g.kind⟩
theorem GoodS.suite (g : GoodS c C k X W sc) (a : Addr) (pn : List (Addr × Obj)) : GoodS c.heat C k (X.suite a pn) Z0 sc :=
  ⟨⟨⟨g.gd.units, g.gd.guards, g.gd.sys⟩, g.N, g.nd, takesR_none, (fun h => by cases h), (fun h => by cases h), g.vis, g.cf, g.loc, g.cel, g.gl, ⟨g.G.fn, g.G.glob, g.G.blt, g.G.gcd, g.G.er, g.G.ve, g.G.mkk, g.G.mk0⟩⟩, PassesOwn.never, g.stk, g.frm, g.same, g.kind⟩
theorem hds_ok (g : GoodS c C k X W sc) {f : Stmt → Option S} (hf : ∀ (a : Addr) (pn : List (Addr × Obj)) (s : Stmt) (i : S), f s = some i → PS (X.suite a pn) s (TSof X.K Z0 (evS C i))) : ∀ {hds : List ExceptHandler} {hs : Hs}, eachH c sc f hds = some hs → HdsR X C hds hs
  | [], hs, q => by
    cases q
    exact .nil
  | h :: r, hs, q => by
    unfold eachH at q
    split at q
    · rename_i j v is t e1 e2
      cases q
      have tl := hds_ok g hf e2
      unfold cHd at e1
      split at e1
      · rename_i x np nm b suite pos'
        split at e1
        · rename_i hx
          rw [Bool.and_eq_true] at hx
          obtain ⟨n1, n2, _⟩ := plain_ne hx.2
          split at e1
          · rename_i j' o is' e3 e4
            obtain ⟨_, _, m, J⟩ := g.G.er _ _ _ e3
            have nmk : Names X x (.ref (cm X.K j')) := ⟨g.gl _ hx.1, n2, .inl m⟩
            have su : ∀ (a : Addr) (pn : List (Addr × Obj)), PSs (X.suite a pn) (b :: suite) (TSof X.K Z0 (evSs C is')) := fun a pn => eachS_pss (X := X.suite a pn) (W := W0) (hf a pn) e4
            split at e1
            · cases e1
              exact .cons nmk J trivial su tl
            · split at e1
              · rename_i n hl
                obtain ⟨i, e5, e6⟩ := Option.map_eq_some_iff.mp e1
                cases e6
                refine .cons nmk J ⟨by rw [g.N]; exact findN_get e5, ?_⟩ su tl
                unfold Env.kindOf
                rw [g.same]
                exact beq_iff_eq.mp hl
              · cases e1
          · cases e1
        · cases e1
      · cases e1
    · cases q
/-- one statement alone -/
theorem one_pss {s : Stmt} {i : S} (h : PS X s (TSof X.K W (evS C i))) : PSs X [s] (TSof X.K W (evSs C (.cons i .nil))) := by
  refine PSs.of (pss_cons h pss_nil) fun D σ H q => ?_
  obtain ⟨ρ, μ0, S0, e0, R0, q⟩ := q
  have q : Wp (do let f ← evS C i ρ; match f with | .next ρ' => evSs C .nil ρ' | .ret d => pure (.ret d) | .brk ρ' => pure (.brk ρ') | .cont ρ' => pure (.cont ρ')) S0 _ _ := q
  refine ⟨ρ, μ0, S0, e0, R0, (Wp.bind.mp q).mono (fun r S1 h1 => ?_) fun _ _ z => z⟩
  intro H1 μ1 st1 R1
  cases r with
  | next ρ' => exact fun σ' e' => Wp.pure.mp (show Wp (pure (.next ρ') : M Flow) S1 _ _ from h1) H1 μ1 st1 R1 σ' e'
  | ret d => exact Wp.pure.mp h1 H1 μ1 st1 R1
  | brk ρ' => exact Wp.pure.mp h1 H1 μ1 st1 R1
  | cont ρ' => exact Wp.pure.mp h1 H1 μ1 st1 R1
theorem try_body (g : GoodS c C k X W sc) (n : Nat) {ss : List Stmt} {b : Ss} (h : eachS (cS c n sc) ss = some b) (hp : tryP b = true) : PSs X ss (TSof X.K W (evSs C b)) := by
  have st : stills b = true → PSs X ss (TSof X.K W (evSs C b)) := fun hs => PSs.of (eachS_T0 (still_ps g n) h hs) fun _ _ _ q => T0_of q
  cases ss with
  | nil =>
    cases h
    exact st rfl
  | cons s ss =>
    unfold eachS at h
    cases e1 : cS c n sc s with
    | none => rw [e1] at h; cases h
    | some x =>
      cases e2 : eachS (cS c n sc) ss with
      | none => rw [e1, e2] at h; cases h
      | some xs =>
        rw [e1, e2] at h
        cases h
        cases xs with
        | cons y ys => exact st hp
        | nil =>
          cases ss with
          | cons s' ss' =>
            unfold eachS at e2
            cases e3 : cS c n sc s' with
            | none => rw [e3] at e2; cases e2
            | some x' =>
              cases e4 : eachS (cS c n sc) ss' with
              | none => rw [e3, e4] at e2; cases e2
              | some xs' => rw [e3, e4] at e2; cases e2
          | nil =>
            have hp : (flat x || still x) = true := hp
            rcases Bool.or_eq_true_iff.mp hp with q | q
            · exact one_pss (flat_ps g n _ _ e1 q)
            · exact st (show (still x && true) = true by rw [q]; rfl)
end
section
variable {C : Cfg} {k : Nat} {sc : Scope}
theorem cS_ps : ∀ (n : Nat) {c : Ctx} {X : Cx} {W : WX}, GoodS c C k X (kW W) sc → ∀ (s : Stmt) (i : S), cS c n sc s = some i → PS X s (TSof X.K (kW W) (evS C i))
  | 0, c, X, W, g, s, i, h => by
    cases h
    exact bad_ps
  | n + 1, c, X, W, g, s, i, h => by
    have EE := each_cE n g.toGood
    have SS : ∀ {ss : List Stmt} {is : Ss}, eachS (cS c n sc) ss = some is → PSs X ss (TSof X.K (kW W) (evSs C is)) := fun q => eachS_pss (cS_ps n g) q
    have fl := flat_ps g (n + 1) s i h
    cases hf : flat i with
    | true => exact fl hf
    | false =>
      unfold cS cS' at h
      split at h
      rename_i h0
      rotate_left
      · cases h
        cases hf
      cases h
      have h := h0
      unfold cS1 at h
      split at h
      · cases h; cases hf
      · cases h; cases hf
      · cases h; cases hf
      · cases h; cases hf
      · obtain ⟨x, e1, e2⟩ := Option.map_eq_some_iff.mp h
        cases e2; cases hf
      · exact nomatch hf.symm.trans (cAsg_flat h).1
      · split at h
        · cases h
        · obtain ⟨x, e1, e2⟩ := Option.map_eq_some_iff.mp h
          cases e2; cases hf
      · split at h
        · rename_i x y z e1 e2 e3
          cases h
          refine PS.of (ps_if (EE.snd _ _ e1).pt (SS e2) (SS e3)) fun D σ H q => tIfS_of (fun _ _ _ q => q) (fun _ _ _ q => q) (fun _ _ _ q => q) ?_
          obtain ⟨ρ, μ, S, e, R, q⟩ := q
          exact ⟨ρ, μ, S, e, R, Wp.bind.mpr (Wp.bind.mpr ((Wp.bind.mp q).mono (fun _ _ z => Wp.bind.mp z) fun _ _ z => z))⟩
        · cases h
      · split at h
        · cases h
        rename_i hz
        have hh : c.hot = false := by simpa using hz
        split at h
        · rename_i t w y e1 e2 e3
          cases h
          exact PS.of (ps_for g.pass (g.calm hh) (cIt_pi g.toGood EE e2) (cTg_pg g.toGood hh e1) (SS e3) (folded_of (cIt_noSet (fun _ _ _ => Set_none) e2))) fun D σ H q => tFor_of (fun v σ H Q q => gOf_of q) (fun _ _ _ q => q) (fun _ _ _ q => q) q
        · cases h
      · split at h
        · rename_i x y e1 e2
          cases h
          exact PS.of (ps_while g.pass (EE.snd _ _ e1).pt (SS e2)) fun D σ H q => tWhile_of (fun _ _ _ q => q) (fun _ _ _ q => q) q
        · cases h
      · split at h <;> cases h <;> cases hf
      · split at h
        · cases h
        · split at h
          · rename_i b hs e1 e2
            split at h
            · rename_i hp
              cases h
              exact ps_tryR g.stk g.frm (by rw [g.N]; exact g.nd) g.tk (fun W' pn xe tk hpo => try_body (g.tr tk hpo) n e1 hp) (hds_ok g (fun a pn s i q => cS_ps n (g.suite a pn) s i q) e2)
            · cases h
          · cases h
      · cases h
theorem cSs_pss {c : Ctx} {X : Cx} {W : WX} (g : GoodS c C k X (kW W) sc) {n : Nat} {ss : List Stmt} {is : Ss} (h : cSs c n sc ss = some is) : PSs X ss (TSof X.K (kW W) (evSs C is)) := eachS_pss (cS_ps n g) h
end
end Rv
set_option Elab.async false
set_option linter.all false
set_option maxRecDepth 100000
set_option maxHeartbeats 4000000
namespace Rv
open PySem PySem.Spec PyProof.Rows L2
/-! ### a program of defs -/
structure Dfn where
  nm : Str
  st : Stmt
  N : List Str
  ps : List Str
  ir : Ss
def Ctx.at (c : Ctx) (N : List Str) : Ctx := { c with N := N }
abbrev deepE : Nat := 60
/-- a def of the text, as it stands behind the top, and its form in the inner language -/
structure DfnOk (c : Ctx) (K : PySem.W.Frag) (mg : Str → Option Value) (d : Dfn) : Prop where
  sc : FnScope d.N d.ps (defScope d.st)
  tx : cSs (c.at d.N) deepE (defScope d.st) (defBody d.st) = some d.ir
  fn : ∃ f fd, Fun K d.nm d.nm d.st f fd ∧ mg d.nm = some (.ref f)
  bd : ∀ (kV doc pm : Value) (an : Option Addr) (cdv ct : Value) (us : List Value), us.length = d.ps.length → bindArgs (PySem.W.fnOf d.nm d.nm (defArgs d.st) (defBody d.st) (defScope d.st) .none kV doc pm an cdv ct) ⟨us, []⟩ = pure (d.ps.zip us)
  kw : ∀ q ∈ c.kws, q.1 = d.nm → ∀ (kV doc pm : Value) (an : Option Addr) (cdv ct : Value) (ws us : List Value), mapO (fun j => ws[j]?) q.2.2 = some us → us.length = d.ps.length →
    bindArgs (PySem.W.fnOf d.nm d.nm (defArgs d.st) (defBody d.st) (defScope d.st) .none kV doc pm an cdv ct) ⟨[], q.2.1.zip ws⟩ = pure (d.ps.zip us)
def irs (T : List Dfn) (gl : List D) (fuel : Nat) : Pg := ⟨T.map fun d => ⟨d.ps.length, d.N.length, d.ir⟩, gl, fuel⟩
/-- what is asked of the program behind its top -/
structure TopOk (P : Program) (w : World) (c : Ctx) (T : List Dfn) (gl : List D) (K : PySem.W.Frag) (mg : Str → Option Value) (base : Heap) : Prop where
  fns : ∀ x i ps, c.fns.lookup x = some (i, ps) → ∃ d, T[i]? = some d ∧ d.nm = x ∧ d.ps = ps
  ok : ∀ d ∈ T, DfnOk c K mg d
  glob : ∀ x g, c.globs.lookup x = some g → ∃ u v d, mg x = some u ∧ RelV v u ∧ gl[g]? = some d ∧ ∀ H μ, Den K H μ v d
  blt : ∀ x ∈ bltAll, mg x = none
  gcd : c.gcd = true → mg (strS "gcd") = some (.builtin "math.gcd")
  sys : ∃ o, base.get? sysModules = some o
  er : ∀ x j o, c.exs.lookup x = some (j, o) → 1 ≤ j ∧ j < 27 ∧ mg x = some (.ref (cm K j)) ∧ ErC K j
  ve : mg (strS "ValueError") = none
  mkk : ∀ x j n pre, c.exs.lookup x = some (j, some (n, pre)) → ∀ k, KMk P w K mg base k j n pre
  mk0 : ∀ x j, c.exs.lookup x = some (j, none) → PySem.W.excIn K (cm K j) PySem.HandSPX.veTail "ValueError.__new__" = true
section
variable {P : Program} {w : World} {K : PySem.W.Frag} {mg : Str → Option Value} {base : Heap} {c : Ctx} {T : List Dfn} {gl : List D} {fuel : Nat}
theorem fn_all (G : TopOk P w c T gl K mg base) : ∀ (k i : Nat) (d : Dfn) (f : Addr) (fd : FuncData), T[i]? = some d → Fun K d.nm d.nm d.st f fd → FnG P w K mg base k f fd d.ps (run (irs T gl fuel) k i)
  | 0, i, d, f, fd, _, _ => ⟨fun ds S p q h => h.elim, fun A outer s H args us vs Q _ _ _ _ _ _ h => by
      obtain ⟨μ, S, ds, _, _, h⟩ := h
      exact h.elim⟩
  | k + 1, i, d, f, fd, hi, F => by
    have hd := G.ok d (List.mem_of_getElem? hi)
    have GO : ∀ N, GOk (c.at N) ⟨run (irs T gl fuel) k, fun g => gl[g]?, fuel⟩ k P w K mg base := fun N => {
      fn := fun x j ps h => by
        obtain ⟨d', h1, h2, h3⟩ := G.fns x j ps h
        have hd' := G.ok d' (List.mem_of_getElem? h1)
        obtain ⟨f', fd', F', m'⟩ := hd'.fn
        subst h2 h3
        refine ⟨f', fd', m', F'.kp, F'.binds hd'.bd, fn_all G k j d' f' fd' h1 F', fun q hq e s ws us hin hm hl => ?_⟩
        obtain ⟨oc, od, kV, doc, pm, an, cdv, ct, osl, rfl, lk, hcd⟩ := F'.ex
        exact .of_eq (hd'.kw q hq e kV doc pm an cdv ct ws us hm hl)
      glob := G.glob
      blt := G.blt
      gcd := G.gcd
      er := G.er
      ve := G.ve
      mkk := fun x j n pre h => G.mkk x j n pre h k
      mk0 := G.mk0 }
    obtain ⟨oc, od, kV, doc, pm, an, cdv, ct, osl, rfl, lk, hcd⟩ := F.ex
    have R := FnG.of (P := P) (w := w) (mg := mg) (base := base) (k := k) (N := d.N) (ps := d.ps) (fb := evSs ⟨run (irs T gl fuel) k, fun g => gl[g]?, fuel⟩ d.ir) lk hcd hd.sc fun A outer s H W hr hg => cSs_pss (c := c.at d.N) (k := k) (sc := defScope d.st) (W := W) {
      gd := ⟨by have := hr.un; show (A.deeper _).units + 70 < cLine; omega, hg, G.sys⟩
      N := rfl
      nd := hd.sc.nd
      tk := show Takes _ (fun cls d _ H => xk K W cls d H) from takes_of (E := xk K W) rfl rfl rfl rfl
      calm := fun _ => rfl
      room := fun _ => hr
      pass := passes_of rfl
      stk := rfl
      frm := rfl
      vis := fun x h => isVis_iff.mp h
      cf := fun x h => h
      loc := fun x h => h
      cel := fun x h => ⟨h, rfl⟩
      gl := fun x h => by
        show (defScope d.st).names.lookup x = some .globalImplicit
        simpa [isGlob] using h
      G := GO d.N
      same := rfl
      kind := hd.sc.kind } hd.tx
    have e : run (irs T gl fuel) (k + 1) i = (fun ds => do
      need (ds.length = d.ps.length)
      let r ← evSs ⟨run (irs T gl fuel) k, fun g => gl[g]?, fuel⟩ d.ir (startE d.N.length ds)
      match r with
      | .next _ => pure .non
      | .ret d => pure d
      | _ => fail) := by
      funext ds
      have h1 : (irs T gl fuel).fns[i]? = some ⟨d.ps.length, d.N.length, d.ir⟩ := by
        show (T.map _)[i]? = _
        rw [List.getElem?_map, hi]
        rfl
      rw [run]
      simp only [h1]
      rfl
    rw [e]
    exact R
end
end Rv
set_option Elab.async false
set_option linter.all false
set_option maxRecDepth 100000
set_option maxHeartbeats 4000000
namespace Rv
open PySem PySem.Spec PyProof.Rows L2
/-! ### the law's call -/
/-- the script as an object that no one writes -/
def frzH (a : Addr) (vs : List Value) (ns : List Int) (t : Bool) : Hp := fun b => if b = a ∧ t = true then some (.frz ⟨.type "list", none, .seq vs.toArray 0, #[]⟩ (.lst (ns.map V.int))) else none
theorem frzH_off {a : Addr} {vs : List Value} {ns : List Int} {b : Addr} (h : b ≠ a) {t : Bool} : frzH a vs ns t b = none := if_neg fun z => h z.1
section
variable {P : Program} {w : World} {K : PySem.W.Frag} {mg mb : Str → Option Value} {k : Nat} {fa a : Addr} {fd : FuncData} {x : Str} {s1 : Shared} {vs : List Value} {ns : List Int} {g : List D → M D}
/-- what stands behind the top, as the call finds it -/
structure Behind (K : PySem.W.Frag) (mg mb : Str → Option Value) (s : Shared) : Prop where
  inK : K.In s.heap
  glb : s.heap.Ns mainGlobals mg
  bltn : s.heap.Ns builtinsNs mb
  boot : ∀ x : Str, x ≠ "__name__" → mb x = bootBuiltins x
  lim : s.heap.NoLimit
  mods : ∃ mm, s.heap.Ns sysModules mm
  gens : s.gens = #[]
theorem ns_ne {h : Heap} {b : Addr} {m : Str → Option Value} {o : Obj} {its : Array Value} {n : Nat} (hb : h.Ns b m) (ha : h.get? a = some o) (d : o.data = .seq its n) : b ≠ a := fun e => by
  obtain ⟨u, es, ep, h1, h2, _⟩ := hb
  rw [e, ha] at h1
  cases h1
  rw [d] at h2
  cases h2
theorem law_run (B : Behind K mg mb s1) (ha : s1.heap.get? a = some { cls := .type "list", data := .seq vs.toArray }) (hi : IntsAre vs ns) (hl : ns.length ≤ sizeLine) (hr : Room k callerA)
    (F : ∀ base : Heap, K.In base → base.Ns mainGlobals mg → (∃ o, base.get? sysModules = some o) → FnG P w K mg base k fa fd [x] g) (hb : ∀ (s : Shared) (u : Value), BindsTo s fd ⟨[u], []⟩ [(x, u)])
    (hg : Wp (g [.fro ns]) [] (fun d _ => d = .bl true) fun _ _ => False) :
    codeAny (model P w) callerA (.call (.ref fa) ⟨[.ref a], []⟩) (fun r s' => r = .ok (.ret (.bool true)) ∧ OldK s1.heap s'.heap ∧ s'.os = s1.os ∧ AllBare s'.gens) s1 := by
  have rv : Vals (ns.map V.int) vs := vals_ints hi
  have hlen : vs.length ≤ sizeLine := by rw [hi.length]; exact hl
  -- whether the script is one of the module's own objects
  have main : ∀ t : Bool, (t = true → K.lookup a = none) → (t = false → ∃ o, K.lookup a = some o) → codeAny (model P w) callerA (.call (.ref fa) ⟨[.ref a], []⟩) (fun r s' => r = .ok (.ret (.bool true)) ∧ OldK s1.heap s'.heap ∧ s'.os = s1.os ∧ AllBare s'.gens) s1 := by
    intro t ht hf
    generalize hH : frzH a vs ns t = H
    have off : ∀ {b}, b ≠ a → H b = none := fun hb => by rw [← hH]; exact frzH_off hb
    have isF : ∀ {b u}, H b = some u → b = a ∧ t = true ∧ u = .frz ⟨.type "list", none, .seq vs.toArray 0, #[]⟩ (.lst (ns.map V.int)) := fun {b u} e => by
      rw [← hH] at e
      unfold frzH at e
      split at e
      · rename_i c
        cases e
        exact ⟨c.1, c.2, rfl⟩
      · cases e
    have fro : Fro K H a (ns.map V.int) := by
      cases t with
      | true =>
        refine .inl ⟨⟨.type "list", none, .seq vs.toArray 0, #[]⟩, ?_⟩
        rw [← hH]
        exact if_pos ⟨rfl, rfl⟩
      | false =>
        obtain ⟨o, e⟩ := hf rfl
        have e1 := B.inK a o e
        rw [ha] at e1
        cases e1
        exact .inr ⟨_, vs.toArray, 0, e, rfl, rfl, rfl, by rw [List.size_toArray]; exact hlen, by simpa using rv⟩
    have hok : HOk P w H s1.heap := fun b u e => by
      obtain ⟨rfl, _, rfl⟩ := isF e
      exact ⟨ha, by rw [List.length_map]; exact hl, vs, 0, rv, ha⟩
    generalize hbase : hidT s1.heap H = base
    have up : ∀ {b o}, s1.heap.get? b = some o → H b = none → base.get? b = some o := fun e n => by rw [← hbase]; exact hidT_get e n
    have upNs : ∀ {b : Addr} {m}, s1.heap.Ns b m → base.Ns b m := fun q => by
      have hne := ns_ne q ha rfl
      exact q.at fun o e => up e (off hne)
    have inB : K.In base := fun b o e => up (B.inK b o e) (by
      cases q : H b with
      | none => rfl
      | some u =>
        obtain ⟨rfl, q1, _⟩ := isF q
        rw [ht q1] at e
        cases e)
    have sysB : ∃ o, base.get? sysModules = some o := by
      obtain ⟨mm, q⟩ := B.mods
      obtain ⟨o, _, _, e, _⟩ := upNs q
      exact ⟨o, e⟩
    have e0 : Env0 P w K mg base callerA [] s1 H := by
      refine ⟨rfl, ⟨inB, upNs B.glb, ⟨mb, upNs B.bltn, B.boot⟩, ?_⟩, ?_, ?_, trivial, (fun b q => nomatch q), hok, .of_eq B.gens⟩
      · obtain ⟨mc, q1, q2⟩ := B.lim
        exact ⟨mc, upNs q1, q2⟩
      · rw [← hbase]
        exact fun b o q => of_hidT q
      · rw [← hbase, hidT_size]
        exact Nat.le_refl _
    have sp : RFof K W0 g [.ref a] H fun v _ => v = .bl true := by
      refine ⟨[], [], [.fro ns], ⟨rfl, .nil, fun n a o e => by simp at e⟩, .cons (.fro fro) .nil, hg.mono (fun d S' e v H' μ' st R dv => ?_) fun _ _ z => z.elim⟩
      subst e
      cases dv
      rfl
    refine codeAny_mono ((F base inB (upNs B.glb) sysB).run callerA [] s1 H ⟨[.ref a], []⟩ [.ref a] [.ref a] _ W0 hr rfl e0 (hb s1 _) (.cons rfl .nil) sp) fun r s' q => ?_
    match r, q with
    | .error e, q => exact (by obtain ⟨_, _, _, _, _, _, _, _, _, _, _, _, _, _, _, z⟩ := q; exact z.elim)
    | .ok (.ret u), ⟨v, H', os, bare, un, hok', rvu, hv⟩ =>
      have hv : v = .bl true := hv
      subst hv
      obtain rfl : u = Value.bool true := rvu
      refine ⟨rfl, OldK.of_keep fun b o e => ?_, os, bare⟩
      cases q : H b with
      | none => exact un.keep b o e q (fun z => nomatch z) fun z => nomatch z
      | some u =>
        obtain ⟨rfl, _, rfl⟩ := isF q
        have z := un.frzs b _ _ q
        have z1 := (hok b _ q).1
        have z2 := (hok' b _ z).1
        rw [z1] at e
        cases e
        exact z2
  cases hk : K.lookup a with
  | none => exact main true (fun _ => hk) fun z => nomatch z
  | some o => exact main false (fun z => nomatch z) fun _ => ⟨o, hk⟩
theorem walk {l : PySem.W.OpenLaw} {q : Program} {loose : List Str} {XP : (Str → Option Value) → Heap → Prop} {YP : World → Heap → Prop} {d : DefRec} {KK : Params → PySem.W.Frag} {k : Nat} {g : List D → M D}
    (hn : l.most = some 63) (hdf : d.params.defaults = []) (himp : importsNone q = true) (hr : Room k callerA) (hY : ∀ (w : World) (h : Heap), YP w h → (KK w.params).In h)
    (F : ∀ (w : World) (mg : Str → Option Value) (fa : Addr) (h : Heap), (KK w.params).In h → h.Ns mainGlobals mg → mg d.name = some (.ref fa) →
      ∃ fd : FuncData, (∀ (s : Shared) (u : Value), BindsTo s fd ⟨[u], []⟩ [(x, u)]) ∧ ∀ base : Heap, (KK w.params).In base → base.Ns mainGlobals mg → (∃ o, base.get? sysModules = some o) → FnG l.prog w (KK w.params) mg base k fa fd [x] g)
    (hg : ∀ ns : List Int, ns.length ≤ 63 → (∀ z ∈ ns, Builtin.Int.intBits z ≤ 1048576) → Wp (g [.fro ns]) [] (fun d _ => d = .bl true) fun _ _ => False) :
    PySem.W.WalkO q loose XP YP l.row.toRowW d [] (fun f vs => PySem.call f vs) :=
  Att.attach_callB hn hdf fun w s0 s1 mg mb fa o pm cd doc a vs ns G Y ho hd hcd hmg hobj hints hlen hbits hgens => by
    have KX := hY w _ Y
    obtain ⟨fd, hb, hF⟩ := F w mg fa _ KX G.T.g hmg
    obtain ⟨mm, q1, _⟩ := (G.T.seer himp).mods
    exact law_run ⟨KX, G.T.g, G.T.b, G.T.builtins, G.T.nolimit, ⟨mm, q1⟩, hgens⟩ hobj hints (Nat.le_trans hlen (by decide)) hr hF hb (hg ns hlen hbits)
end
end Rv
set_option Elab.async false
set_option linter.all false
set_option maxRecDepth 100000
set_option maxHeartbeats 4000000
namespace Rv
open PySem PySem.Spec PyProof.Rows L2
/-! ### from the row's own text -/
/-- what the text alone says of a def -/
structure DfnSt (c : Ctx) (d : Dfn) : Prop where
  sc : FnScope d.N d.ps (defScope d.st)
  tx : cSs (c.at d.N) deepE (defScope d.st) (defBody d.st) = some d.ir
  bd : ∀ (kV doc pm : Value) (an : Option Addr) (cdv ct : Value) (us : List Value), us.length = d.ps.length → bindArgs (PySem.W.fnOf d.nm d.nm (defArgs d.st) (defBody d.st) (defScope d.st) .none kV doc pm an cdv ct) ⟨us, []⟩ = pure (d.ps.zip us)
  kw : ∀ q ∈ c.kws, q.1 = d.nm → ∀ (kV doc pm : Value) (an : Option Addr) (cdv ct : Value) (ws us : List Value), mapO (fun j => ws[j]?) q.2.2 = some us → us.length = d.ps.length →
    bindArgs (PySem.W.fnOf d.nm d.nm (defArgs d.st) (defBody d.st) (defScope d.st) .none kV doc pm an cdv ct) ⟨[], q.2.1.zip ws⟩ = pure (d.ps.zip us)
def At (K : PySem.W.Frag) (mg : Str → Option Value) (x : Str) (st : Stmt) : Prop := ∃ f fd, Fun K x x st f fd ∧ mg x = some (.ref f)
theorem at_of {K : PySem.W.Frag} {h : Heap} {mg : Str → Option Value} (X : K.In h) (G : h.Ns mainGlobals mg) {x : Str} {st : Stmt} {f : Addr} {oc : Value} {od an : Option Addr} {osl : Array (Option Value)} {kV doc pm cdv ct : Value}
    (a : PySem.W.nsIn K mainGlobals x = some (some (.ref f))) (l : K.lookup f = some ⟨oc, od, .func (PySem.W.fnOf x x (defArgs st) (defBody st) (defScope st) .none kV doc pm an cdv ct), osl⟩) (c : PySem.W.codeIn K cdv x = true) (k : PySem.W.keepIn K (.ref f) = true) : At K mg x st :=
  ⟨f, _, fun_mk l c k, PySem.W.mg_of X G a⟩
def fnTab (T : List Dfn) : List (Str × Nat × List Str) := T.zipIdx.map fun p => (p.1.nm, p.2, p.1.ps)
theorem fnTab_ok {T : List Dfn} {x : Str} {i : Nat} {ps : List Str} (h : (fnTab T).lookup x = some (i, ps)) : ∃ d, T[i]? = some d ∧ d.nm = x ∧ d.ps = ps := by
  have h := lookup_mem h
  unfold fnTab at h
  obtain ⟨⟨d, j⟩, h1, h2⟩ := List.mem_map.mp h
  cases h2
  obtain ⟨z1, z2⟩ := List.mem_zipIdx' h1
  exact ⟨d, (List.getElem?_eq_getElem z1).trans (congrArg some z2.symm), rfl, rfl⟩
/-- a module's constant, as the written part has it -/
def kd (K : PySem.W.Frag) : Nat → Value → Option D
  | 0, _ => none
  | n + 1, v => match v with
    | .none => some .non
    | .bool b => some (.bl b)
    | .int i _ => some (.int i)
    | .str x _ => some (.str x)
    | .ref a => match K.lookup a with
      | some ⟨.type t, none, .seq its m, _⟩ => if t == "tuple" && its.size ≤ 1000 then (mapO (kd K n) its.toList).map .tup else none
      | _ => none
    | _ => none
theorem kd_all {K : PySem.W.Frag} {f : Value → Option D} (hf : ∀ u d, f u = some d → ∃ v, RelV v u ∧ ∀ H μ, Den K H μ v d) : ∀ (us : List Value) (ds : List D), mapO f us = some ds → ∃ vs, Vals vs us ∧ ∀ H μ, DenL K H μ vs ds
  | [], ds, h => by cases h; exact ⟨[], .nil, fun _ _ => .nil⟩
  | u :: us, ds, h => by
    unfold mapO at h
    cases e1 : f u with
    | none => rw [e1] at h; cases h
    | some d =>
      cases e2 : mapO f us with
      | none => rw [e1, e2] at h; cases h
      | some ds' =>
        rw [e1, e2] at h
        cases h
        obtain ⟨v, r, dv⟩ := hf u d e1
        obtain ⟨vs, rs, dl⟩ := kd_all hf us ds' e2
        exact ⟨v :: vs, .cons r rs, fun H μ => .cons (dv H μ) (dl H μ)⟩
theorem kd_den {K : PySem.W.Frag} : ∀ (n : Nat) (u : Value) (d : D), kd K n u = some d → ∃ v, RelV v u ∧ ∀ H μ, Den K H μ v d
  | 0, _, _, h => by cases h
  | n + 1, u, d, h => by
    unfold kd at h
    split at h
    · cases h; exact ⟨.non, rfl, fun _ _ => .non⟩
    · cases h; exact ⟨.bl _, rfl, fun _ _ => .bl _⟩
    · cases h; exact ⟨.int _, ⟨_, rfl⟩, fun _ _ => .int _⟩
    · cases h; exact ⟨.str _, ⟨_, rfl⟩, fun _ _ => .str _⟩
    · rename_i a
      split at h
      · rename_i t its m sl hk
        split at h
        · rename_i hc
          simp only [Bool.and_eq_true, beq_iff_eq, decide_eq_true_eq] at hc
          obtain ⟨rfl, hz⟩ := hc
          obtain ⟨ds, e1, rfl⟩ := Option.map_eq_some_iff.mp h
          obtain ⟨vs, r, dl⟩ := kd_all (kd_den n) its.toList ds e1
          have hz' : its.size ≤ sizeLine := Nat.le_trans hz (by decide)
          exact ⟨.ref a, rfl, fun H μ => .tup (.inr ⟨_, its, m, hk, rfl, rfl, hz', r⟩) (dl H μ)⟩
        · cases h
      · cases h
    · cases h
def Glb (K : PySem.W.Frag) (mg : Str → Option Value) (x : Str) (d : D) : Prop := ∃ u v, mg x = some u ∧ RelV v u ∧ ∀ H μ, Den K H μ v d
theorem glb_of {K : PySem.W.Frag} {h : Heap} {mg : Str → Option Value} (X : K.In h) (G : h.Ns mainGlobals mg) {x : Str} {u : Value} {d : D} (a : PySem.W.nsIn K mainGlobals x = some (some u)) (b : kd K 8 u = some d) : Glb K mg x d := by
  obtain ⟨v, r, dv⟩ := kd_den 8 u d b
  exact ⟨u, v, PySem.W.mg_of X G a, r, dv⟩
def glTab (gs : List (Str × D)) : List (Str × Nat) := gs.zipIdx.map fun p => (p.1.1, p.2)
theorem glTab_ok {gs : List (Str × D)} {x : Str} {i : Nat} (h : (glTab gs).lookup x = some i) : ∃ d, gs[i]? = some (x, d) := by
  have h := lookup_mem h
  unfold glTab at h
  obtain ⟨⟨⟨y, d⟩, j⟩, h1, h2⟩ := List.mem_map.mp h
  cases h2
  obtain ⟨z1, z2⟩ := List.mem_zipIdx' h1
  exact ⟨d, (List.getElem?_eq_getElem z1).trans (congrArg some z2.symm)⟩
/-- the whole table -/
abbrev Exs := List (Str × Nat × Option (Str × Str))
def tabC (T : List Dfn) (gs : List (Str × D)) (kws : List (Str × List Str × List Nat)) (gcd : Bool) (exs : Exs) : Ctx := ⟨[], fnTab T, glTab gs, kws, gcd, exs, false⟩
/-- an error class of the program -/
structure ErOk (P : Program) (w : World) (K : PySem.W.Frag) (mg : Str → Option Value) (p : Str × Nat × Option (Str × Str)) : Prop where
  lo : 1 ≤ p.2.1
  hi : p.2.1 < 27
  loc : mg p.1 = some (.ref (cm K p.2.1))
  er : ErC K p.2.1
  mk0 : p.2.2 = none → PySem.W.excIn K (cm K p.2.1) PySem.HandSPX.veTail "ValueError.__new__" = true
  mkk : ∀ n pre, p.2.2 = some (n, pre) → ∀ base k, KMk P w K mg base k p.2.1 n pre
/-- the error classes' addresses, by their numbers -/
def ErAll (K : PySem.W.Frag) (tab : List Addr) : Prop := ∀ i, 1 ≤ i → i < 27 → cm K i = tab.getD i 0
theorem cm_of {K : PySem.W.Frag} {i : Nat} {x : Str} {a : Addr} (hx : clN.getD i Str.empty = x) (h : PySem.W.nsIn K mainGlobals x = some (some (.ref a))) : cm K i = a := by
  unfold cm
  rw [hx, h]
theorem cm_no {K : PySem.W.Frag} {i : Nat} {x : Str} (hx : clN.getD i Str.empty = x) (h : PySem.W.nsIn K mainGlobals x = some none) : cm K i = 0 := by
  unfold cm
  rw [hx, h]
theorem clm_contains {a a1 j : Nat} {X : String} (h : PySem.HandSPX.veTail.contains (.type X) = true) : (Value.ref a :: ((if j = 1 then [] else [.ref a1]) ++ PySem.HandSPX.veTail)).contains (.type X) = true := by
  rw [List.contains_cons]
  split
  · rw [List.nil_append, h, Bool.or_true]
  · show (_ || (Value.ref a1 :: PySem.HandSPX.veTail).contains _) = true
    rw [List.contains_cons, h, Bool.or_true, Bool.or_true]
theorem er_of {K : PySem.W.Frag} {tab : List Addr} {j a a1 : Nat} {cd : ClassData} (A : ErAll K tab) (ha' : tab[j]? = some a) (h1' : tab[1]? = some a1) (lo : 1 ≤ j) (hi : j < 27) (sep : ((List.range 27).all fun i => i == 0 || tab.getD i 0 != a || i == j) = true)
    (cl : PySem.W.clsIn K a = some cd) (hm : cd.mro = .ref a :: ((if j = 1 then [] else [.ref a1]) ++ PySem.HandSPX.veTail)) (hd : cd.hasDict = true)
    (ga : PySem.W.findIn K (.ref a) "__getattribute__" = some (some (.builtin "BaseException.__getattribute__"))) (gg : PySem.W.findIn K (.ref a) "__getattr__" = some none) (gc : PySem.W.findIn K (.ref a) "__class__" = some (some (.builtin "object.__class__")))
    (sp : PySem.W.specialIn K (.builtin "object.__class__") "__get__" = some (some (.builtin "getset_descriptor.__get__"))) (tk : PySem.W.takesIn K (.builtin "object.__class__") = some true) (k : PySem.W.keepIn K (.ref a) = true) (t : PySem.W.typeIn K (.ref a) = some (.type "type")) : ErC K j := by
  have ha : tab.getD j 0 = a := by rw [List.getD_eq_getElem?_getD, ha']; rfl
  have h1 : tab.getD 1 0 = a1 := by rw [List.getD_eq_getElem?_getD, h1']; rfl
  have e : cm K j = a := (A j lo hi).trans ha
  have e1 : cm K 1 = a1 := (A 1 (Nat.le_refl _) (by omega)).trans h1
  have mroI : ∀ X : String, PySem.HandSPX.veTail.contains (.type X) = true → PySem.W.mroIn K a (.type X) = some true := fun X h => by
    unfold PySem.W.mroIn
    rw [cl, Option.bind_some, hm, if_neg (by simp), clm_contains h]
  have hdI : PySem.W.hasDictIn K a = true := by
    unfold PySem.W.hasDictIn
    rw [cl]
    exact hd
  have sub : PySem.W.subIn K (.ref a) (.type "BaseException") = some true := mroI _ (by decide +kernel)
  refine ⟨by rw [e]; exact ⟨ga, gg, sub, hdI⟩, by rw [e]; exact ⟨ga, gg, sub, hdI, gc, sp, tk, mroI _ (by decide +kernel)⟩, by rw [e]; exact k, by rw [e]; exact t, by unfold clMro; rw [e, e1, cl, Option.map_some, hm], fun l l1 l2 q => ?_, lo, hi⟩
  have z := List.all_eq_true.mp sep l (List.mem_range.mpr l2)
  rw [A l l1 l2, e] at q
  have h0 : (l == 0) = false := by simp; omega
  rw [h0, q] at z
  simpa using z
/-- the address that a name's value is -/
def cmv : Option Value → Addr
  | some (.ref a) => a
  | _ => 0
theorem cm_v {K : PySem.W.Frag} {i : Nat} {x : Str} {o : Option Value} (hx : clN.getD i Str.empty = x) (h : PySem.W.nsIn K mainGlobals x = some o) : cm K i = cmv o := by
  unfold cm
  rw [hx, h]
  cases o with
  | none => rfl
  | some v => cases v <;> rfl
theorem erAll_of {K : PySem.W.Frag} {tab : List Addr} (h : ∀ p ∈ clN.zipIdx, 1 ≤ p.2 → ∃ o, PySem.W.nsIn K mainGlobals p.1 = some o ∧ tab.getD p.2 0 = cmv o) : ErAll K tab := fun i l1 l2 => by
  have hl : clN.length = 27 := by decide
  have hm : (clN[i]'(by omega), i) ∈ clN.zipIdx := List.mem_zipIdx_iff_getElem?.mpr (by simp)
  obtain ⟨o, h1, h2⟩ := h _ hm l1
  rw [cm_v (x := clN[i]'(by omega)) (by simp [List.getD, List.getElem?_eq_getElem (show i < clN.length by omega)]) h1, h2]
theorem erAll26 {K : PySem.W.Frag} {h0 : Heap} (_X : K.In h0) {o1 o2 o3 o4 o5 o6 o7 o8 o9 o10 o11 o12 o13 o14 o15 o16 o17 o18 o19 o20 o21 o22 o23 o24 o25 o26 : Option Value} (h1 : PySem.W.nsIn K mainGlobals ("SignError" : Str) = some o1)
    (h2 : PySem.W.nsIn K mainGlobals ("BadStock" : Str) = some o2)
    (h3 : PySem.W.nsIn K mainGlobals ("BadName" : Str) = some o3)
    (h4 : PySem.W.nsIn K mainGlobals ("BadSign" : Str) = some o4)
    (h5 : PySem.W.nsIn K mainGlobals ("BadText" : Str) = some o5)
    (h6 : PySem.W.nsIn K mainGlobals ("BadPicture" : Str) = some o6)
    (h7 : PySem.W.nsIn K mainGlobals ("BadPath" : Str) = some o7)
    (h8 : PySem.W.nsIn K mainGlobals ("BadWord" : Str) = some o8)
    (h9 : PySem.W.nsIn K mainGlobals ("BadBox" : Str) = some o9)
    (h10 : PySem.W.nsIn K mainGlobals ("BadMove" : Str) = some o10)
    (h11 : PySem.W.nsIn K mainGlobals ("BadHand" : Str) = some o11)
    (h12 : PySem.W.nsIn K mainGlobals ("BadOrder" : Str) = some o12)
    (h13 : PySem.W.nsIn K mainGlobals ("BadBook" : Str) = some o13)
    (h14 : PySem.W.nsIn K mainGlobals ("BadKinds" : Str) = some o14)
    (h15 : PySem.W.nsIn K mainGlobals ("NoPutting" : Str) = some o15)
    (h16 : PySem.W.nsIn K mainGlobals ("BadSamples" : Str) = some o16)
    (h17 : PySem.W.nsIn K mainGlobals ("BadSigns" : Str) = some o17)
    (h18 : PySem.W.nsIn K mainGlobals ("BadSorts" : Str) = some o18)
    (h19 : PySem.W.nsIn K mainGlobals ("BadStroke" : Str) = some o19)
    (h20 : PySem.W.nsIn K mainGlobals ("BadGrid" : Str) = some o20)
    (h21 : PySem.W.nsIn K mainGlobals ("BadCount" : Str) = some o21)
    (h22 : PySem.W.nsIn K mainGlobals ("BadCut" : Str) = some o22)
    (h23 : PySem.W.nsIn K mainGlobals ("NothingToUndo" : Str) = some o23)
    (h24 : PySem.W.nsIn K mainGlobals ("Full" : Str) = some o24)
    (h25 : PySem.W.nsIn K mainGlobals ("BadCommand" : Str) = some o25)
    (h26 : PySem.W.nsIn K mainGlobals ("TooMany" : Str) = some o26) {G : Prop} (k : ErAll K [0, cmv o1, cmv o2, cmv o3, cmv o4, cmv o5, cmv o6, cmv o7, cmv o8, cmv o9, cmv o10, cmv o11, cmv o12, cmv o13, cmv o14, cmv o15, cmv o16, cmv o17, cmv o18, cmv o19, cmv o20, cmv o21, cmv o22, cmv o23, cmv o24, cmv o25, cmv o26] → G) : G := by
  refine k (erAll_of fun p hp lo => ?_)
  simp only [clN, List.zipIdx, List.mem_cons, List.not_mem_nil, or_false] at hp
  rcases hp with rfl | rfl | rfl | rfl | rfl | rfl | rfl | rfl | rfl | rfl | rfl | rfl | rfl | rfl | rfl | rfl | rfl | rfl | rfl | rfl | rfl | rfl | rfl | rfl | rfl | rfl | rfl
  · exact absurd lo (by decide)
  · exact ⟨_, h1, rfl⟩
  · exact ⟨_, h2, rfl⟩
  · exact ⟨_, h3, rfl⟩
  · exact ⟨_, h4, rfl⟩
  · exact ⟨_, h5, rfl⟩
  · exact ⟨_, h6, rfl⟩
  · exact ⟨_, h7, rfl⟩
  · exact ⟨_, h8, rfl⟩
  · exact ⟨_, h9, rfl⟩
  · exact ⟨_, h10, rfl⟩
  · exact ⟨_, h11, rfl⟩
  · exact ⟨_, h12, rfl⟩
  · exact ⟨_, h13, rfl⟩
  · exact ⟨_, h14, rfl⟩
  · exact ⟨_, h15, rfl⟩
  · exact ⟨_, h16, rfl⟩
  · exact ⟨_, h17, rfl⟩
  · exact ⟨_, h18, rfl⟩
  · exact ⟨_, h19, rfl⟩
  · exact ⟨_, h20, rfl⟩
  · exact ⟨_, h21, rfl⟩
  · exact ⟨_, h22, rfl⟩
  · exact ⟨_, h23, rfl⟩
  · exact ⟨_, h24, rfl⟩
  · exact ⟨_, h25, rfl⟩
  · exact ⟨_, h26, rfl⟩
/-- what stands behind the top of the program T -/
structure Facts (P : Program) (w : World) (K : PySem.W.Frag) (mg : Str → Option Value) (T : List Dfn) (gs : List (Str × D)) (gcd : Bool) (exs : Exs) : Prop where
  defs : ∀ d ∈ T, At K mg d.nm d.st
  glbs : ∀ p ∈ gs, Glb K mg p.1 p.2
  blts : ∀ x ∈ bltAll, mg x = none
  gcds : gcd = true → mg (strS "gcd") = some (.builtin "math.gcd")
  ves : mg (strS "ValueError") = none
  ers : ∀ p ∈ exs, ErOk P w K mg p
section
variable {T : List Dfn} {gs : List (Str × D)} {kws : List (Str × List Str × List Nat)} {gcd : Bool} {exs : Exs} {fuel : Nat}
theorem prog_fn {P : Program} {w : World} {K : PySem.W.Frag} {base : Heap} {mg : Str → Option Value}
    (S : ∀ d ∈ T, DfnSt (tabC T gs kws gcd exs) d) (A : Facts P w K mg T gs gcd exs) (sys : ∃ o, base.get? sysModules = some o)
    (k i : Nat) (d : Dfn) (f : Addr) (fd : FuncData) (hi : T[i]? = some d) (F : Fun K d.nm d.nm d.st f fd) : FnG P w K mg base k f fd d.ps (run (irs T (gs.map (·.2)) fuel) k i) :=
  fn_all (c := tabC T gs kws gcd exs) {
    fns := fun x i ps h => fnTab_ok h
    ok := fun d hd => ⟨(S d hd).sc, (S d hd).tx, A.defs d hd, (S d hd).bd, (S d hd).kw⟩
    glob := fun x j hj => by
      obtain ⟨d, e⟩ := glTab_ok hj
      obtain ⟨u, v, m1, m2, m3⟩ := A.glbs _ (List.mem_of_getElem? e)
      exact ⟨u, v, d, m1, m2, by rw [List.getElem?_map, e]; rfl, m3⟩
    blt := A.blts
    gcd := A.gcds
    sys := sys
    er := fun x j o h => by
      have q := A.ers _ (lookup_mem h)
      exact ⟨q.lo, q.hi, q.loc, q.er⟩
    ve := A.ves
    mkk := fun x j n pre h k => (A.ers _ (lookup_mem h)).mkk n pre rfl base k
    mk0 := fun x j h => (A.ers _ (lookup_mem h)).mk0 rfl } k i d f fd hi F
theorem walk_prog {l : PySem.W.OpenLaw} {q : Program} {loose : List Str} {XP : (Str → Option Value) → Heap → Prop} {YP : World → Heap → Prop} {d : DefRec} {KK : Params → PySem.W.Frag} {k i : Nat} {x : Str} {dl : Dfn}
    (hn : l.most = some 63) (hdf : d.params.defaults = []) (himp : importsNone q = true) (hr : Room k callerA) (hY : ∀ (w : World) (h : Heap), YP w h → (KK w.params).In h)
    (S : ∀ d ∈ T, DfnSt (tabC T gs kws gcd exs) d) (hi : T[i]? = some dl) (hnm : dl.nm = d.name) (hps : dl.ps = [x])
    (A : ∀ (w : World) (mg : Str → Option Value) (h : Heap), (KK w.params).In h → h.Ns mainGlobals mg → Facts l.prog w (KK w.params) mg T gs gcd exs)
    (hg : ∀ ns : List Int, ns.length ≤ 63 → (∀ z ∈ ns, Builtin.Int.intBits z ≤ 1048576) → Wp (run (irs T (gs.map (·.2)) fuel) k i [.fro ns]) [] (fun d _ => d = .bl true) fun _ _ => False) :
    PySem.W.WalkO q loose XP YP l.row.toRowW d [] (fun f vs => PySem.call f vs) :=
  walk (x := x) (k := k) hn hdf himp hr hY (fun w mg fa h KX G hm => by
    have FA := A w mg h KX G
    have hd := List.mem_of_getElem? hi
    obtain ⟨f', fd, F, m⟩ := FA.defs dl hd
    rw [hnm, hm] at m
    cases m
    refine ⟨fd, fun s u => ?_, fun base _ _ sys => ?_⟩
    · obtain ⟨oc, od, kV, doc, pm, an, cdv, ct, osl, rfl, lk, hcd⟩ := F.ex
      have := (S dl hd).bd kV doc pm an cdv ct [u] (by rw [hps]; rfl)
      rw [hps] at this
      exact .of_eq this
    · have := prog_fn (P := l.prog) (w := w) (fuel := fuel) S FA sys k i dl fa fd hi F
      rw [hps] at this
      exact this) hg
end
end Rv
set_option Elab.async false
set_option linter.all false
set_option maxRecDepth 100000
set_option maxHeartbeats 4000000
namespace Rv
open PySem PySem.Spec PySem.Calls PyProof.Rows L2
/-! ### a class of errors, called by keywords alone -/
section
variable {P : Program} {w : World} {A : Around} {E : Value → Shared → Prop} {R : Result → Shared → Prop} {h : Heap} {g : Array GenState} {d : Drawn} {t : Nat} {os : OsState} {kw : List (Str × Value)}
variable {nm q : Str} {C N : Addr} {bs bm bmB : List Value} {hdct : Bool} {sn : List Str} {sub : List Value} {ab : Bool} {col : Option Bool} {dd : Option Addr} {k0 k1 k2 k3 k5 : Option Value} {B newId initId : String}
abbrev clsO (nm q : Str) (C N : Addr) (bs bm : List Value) (hdct : Bool) (sn : List Str) (sub : List Value) (ab : Bool) (col : Option Bool) (dd : Option Addr) (k0 k1 k2 k3 k5 : Option Value) (newId : String) : Obj := excClassObj nm q C N bs bm hdct sn sub ab col dd k0 k1 k2 k3 k5 newId
theorem kw_check_new {M : Model} (F : ExcBaseFacts B newId initId bmB) (hT : ∀ Y : String, bm.contains (.type Y) = bmB.contains (.type Y)) {Q : Unit → Shared → Prop}
    (hC : h.get? C = some (clsO nm q C N bs bm hdct sn sub ab col dd k0 k1 k2 k3 k5 newId)) (hq : Q () ⟨h, g, d, t, os⟩) : wpAny M A (checkBuiltinCall newId ⟨[.ref C], kw⟩) Q E ⟨h, g, d, t, os⟩ := by
  have c1 : (Value.ref C :: bm).contains (.type B) = true := by
    rw [List.contains_cons, hT, F.hasB]
    exact Bool.or_true _
  have c2 := F.noStar
  simp only [F.newRow, F.newSplit, F.newKind, checkBuiltinCall]
  repeat (first
    | refine wpAny_loadPart_at hC ?_
    | (refine wpAny_isSubtype_exc hC ?_
       rw [c1])
    | refine wpAny_staticBase_exc hC ?_
    | refine wpAny_madeBy_exc hC ?_
    | simp only [bne_self_eq_false, if_false, Bool.false_eq_true]
    | wp_step)
  exact hq
theorem kw_new (F : ExcBaseFacts B newId initId bmB) (hT : ∀ Y : String, bm.contains (.type Y) = bmB.contains (.type Y)) (hC : h.get? C = some (clsO nm q C N bs bm hdct sn sub ab col dd k0 k1 k2 k3 k5 newId))
    (hq : R (.ok (.ret (.ref (h.objs.size + 1)))) ⟨(h.push (PySem.W.kdv_tup [])).push (PySem.HandSPX.excO C h.objs.size), g, d, t, os⟩) :
    codeAny (model P w) A (.builtin newId ⟨[.ref C], kw⟩) R ⟨h, g, d, t, os⟩ := by
  have e1 := F.ends
  have has : ∀ Y : String, (Value.ref C :: bm).contains (.type Y) = bmB.contains (.type Y) := fun Y => by
    rw [List.contains_cons, hT]
    rfl
  have cB := (has B).trans F.hasB
  have cA := (has "AttributeError").trans F.noAttr
  have cN := (has "NameError").trans F.noName
  refine codeAny_builtinAt F.entry ?_
  unfold Builtin.«BaseException.__new__»
  refine PySem.wpAt_bind ?_
  show PySem.wpAt _ _ _ (stack >>= _) _ _ _
  refine PySem.wpAt_bind (PySem.wpAt_stack fun p below => PySem.wpAt_of_wpAny ?_)
  wp_walk
  refine PySem.wpAt_of_wpAny ?_
  rw [F.owner]
  repeat (first
    | with_reducible refine wpAny_madeHere_exc F.canon hC ?_
    | with_reducible refine wpAny_loadPart_at hC ?_
    | (with_reducible refine wpAny_isSubtype_exc hC ?_
       first | rw [cB] | rw [cA] | rw [cN])
    | wp_step)
  show R _ _
  rw [Heap.size_push]
  exact hq
theorem kw_type_call (F : ExcBaseFacts B newId initId bmB) (hT : ∀ Y : String, bm.contains (.type Y) = bmB.contains (.type Y)) {fI : Addr} {Q : Fin → Shared → Prop} (hC : h.get? C = some (clsO nm q C N bs bm hdct sn sub ab col dd k0 k1 k2 k3 k5 newId))
    (hi : PySem.W.Looks (model P w) h (typeLookup (.ref C) "__init__") (some (.ref fI))) (hb : ∀ self, PySem.W.Looks (model P w) h (bindSpecial (.ref fI) self) (.ref fI, [self]))
    (hq : codeAny (model P w) A (.call (.ref fI) ⟨[.ref (h.objs.size + 1)], kw⟩) (fun r s' => match r with | .ok (.ret v) => v = .none ∧ Q (.done (.ret (.ref (h.objs.size + 1)))) s' | .ok _ => False | .error e => E e s')
      ⟨(h.push (PySem.W.kdv_tup [])).push (PySem.HandSPX.excO C h.objs.size), g, d, t, os⟩) : wpAny (model P w) A (Builtin.«type.__call__» ⟨[.ref C], kw⟩) Q E ⟨h, g, d, t, os⟩ := by
  repeat (first
    | with_reducible refine wpAny_loadPart_at hC ?_
    | with_reducible refine wpAny_madeBy_exc hC ?_
    | wp_step)
  refine codeAny_call_builtin_code (Code.quiet_builtin _ F.quiet) (kw_check_new F hT hC ?_)
  refine kw_new F hT hC ?_
  show wpAny _ _ _ _ _ _
  have up : ∀ b o, h.get? b = some o → ((h.push (PySem.W.kdv_tup [])).push (PySem.HandSPX.excO C h.objs.size)).get? b = some o := fun b o e => Heap.get?_push_of_some _ (Heap.get?_push_of_some _ e)
  have atE : ((h.push (PySem.W.kdv_tup [])).push (PySem.HandSPX.excO C h.objs.size)).get? (h.objs.size + 1) = some (PySem.HandSPX.excO C h.objs.size) := by heap_get
  have own : (Value.ref C :: bm).contains (.ref C) = true := by simp
  have i1 := hi.keeps up
  have b1 := (hb (.ref (h.objs.size + 1))).keeps up
  have hC1 := up _ _ hC
  unfold isInstance
  repeat (first
    | with_reducible refine wpAny_loadPart_at atE ?_
    | (with_reducible refine wpAny_isSubtype_exc hC1 ?_
       rw [own])
    | wp_step)
  show wpAny _ _ (typeLookup (.ref C) _) _ _ _
  refine i1.at ?_
  refine wpAny_holding (wpAny_bind (b1.at (wpAny_bind (wpAny_call (codeAny_mono hq fun r s' z => ?_)))))
  rcases r with e | (v | _ | _ | _) <;> first | exact z | exact z.elim | skip
  obtain ⟨rfl, z⟩ := z
  first
    | exact wpAny_pure (wpAny_pure z)
    | (wp_walk; exact z)
theorem kw_check_tc {M : Model} {Q : Unit → Shared → Prop} (hC : h.get? C = some (clsO nm q C N bs bm hdct sn sub ab col dd k0 k1 k2 k3 k5 newId)) (hq : Q () ⟨h, g, d, t, os⟩) : wpAny M A (checkBuiltinCall "type.__call__" ⟨[.ref C], kw⟩) Q E ⟨h, g, d, t, os⟩ := by
  have e3 := tc_sub
  have ty : (⟨h, g, d, t, os⟩ : Shared).TypeIs (.ref C) "type" := ⟨_, hC, rfl⟩
  simp only [tc_kind, tc_split, checkBuiltinCall]
  repeat (any_goals (first
    | assumption
    | with_reducible refine wpAny_loadPart_at hC ?_
    | with_reducible refine wpAny_onRaise ?_
    | with_reducible refine wpAny_map ?_
    | wp_step))
theorem kw_call (F : ExcBaseFacts B newId initId bmB) (hT : ∀ Y : String, bm.contains (.type Y) = bmB.contains (.type Y)) {fI : Addr} (hC : h.get? C = some (clsO nm q C N bs bm hdct sn sub ab col dd k0 k1 k2 k3 k5 newId))
    (hi : PySem.W.Looks (model P w) h (typeLookup (.ref C) "__init__") (some (.ref fI))) (hb : ∀ self, PySem.W.Looks (model P w) h (bindSpecial (.ref fI) self) (.ref fI, [self]))
    (hq : codeAny (model P w) (A.under (.builtin "type.__call__" ⟨[.ref C], kw⟩)) (.call (.ref fI) ⟨[.ref (h.objs.size + 1)], kw⟩) (PySem.W.InitBack (h.objs.size + 1) R) ⟨(h.push (PySem.W.kdv_tup [])).push (PySem.HandSPX.excO C h.objs.size), g, d, t, os⟩) :
    codeAny (model P w) A (.call (.ref C) ⟨[], kw⟩) R ⟨h, g, d, t, os⟩ := by
  have e1 := tc_lookup
  have e2 := tc_bind (.ref C)
  have ty : (⟨h, g, d, t, os⟩ : Shared).TypeIs (.ref C) "type" := ⟨_, hC, rfl⟩
  refine codeAny_of_tree ?_
  show wpAny _ _ (callAny (.ref C) _) _ _ _
  repeat (any_goals (first
    | assumption
    | with_reducible refine wpAny_loadPart_at hC ?_
    | wp_step))
  refine ⟨rfl, ?_⟩
  refine codeAny_call_builtin_at (Code.quiet_builtin _ (by decide +kernel)) entry_typeCall (kw_check_tc hC (kw_type_call F hT hC hi hb (codeAny_mono hq fun r s' z => ?_)))
  rcases r with e | (v | _ | _ | _) <;> exact z
end
end Rv
set_option Elab.async false
set_option linter.all false
set_option maxRecDepth 100000
set_option maxHeartbeats 4000000
namespace Rv
open PySem PySem.Spec PySem.Calls PyProof.Rows L2
/-! ### an error whose own __init__ says super().__init__(f"..{x}"), then self.f = x -/
abbrev iCall (pre x : Str) (j : Nat) (p0 p1 p2 p3 p4 p5 p6 p7 : Pos) : Expr := .Call (.Attribute (.Call (.Name "super" p0) [] [] p1) "__init__" p2) [.JoinedStr [.Constant (.str pre) j p3, .FormattedValue (.Name x p4) (-1) none p5] p6] [] p7
abbrev iArg (pre x : Str) (j : Nat) (p3 p4 p5 p6 : Pos) : Expr := .JoinedStr [.Constant (.str pre) j p3, .FormattedValue (.Name x p4) (-1) none p5] p6
section
variable {P : Program} {w : World} {K : PySem.W.Frag} {mg : Str → Option Value} {base : Heap}
/-- the error's text -/
theorem init_text {A : Around} {E : Value → Shared → Prop} {fd : FuncData} {L a : Addr} {pre x : Str} {j : Nat} {p3 p4 p5 p6 : Pos} {s : Shared} {m : Str → Option Value} {v : V} {u : Value} {Q : Value → Shared → Prop} (hk : fd.scope.kind = .function)
    (hl : (callEnv fd L a).kindOf x = some .local) (hn : s.heap.Ns L m) (hv : m x = some u) (hd : (x == ("__debug__" : Str)) = false) (r : RelV v u) (f : FmtOk pre v) (hp : pre.length ≤ sizeLine)
    (h : ∀ (y : Str) (t : Tok) (tk : Nat), Q (.str y t) { s with toks := tk }) : wpAny (model P w) A (eval (iArg pre x j p3 p4 p5 p6) (callEnv fd L a)) Q E s := by
  refine JoinedStr_many (joinParts_cons (Calls.Constant_str ?_))
  refine ⟨by rw [strLen_append]; show 0 + _ ≤ _; omega, joinParts_cons (wpAny_FormattedValue_plain (ldc hk hl (show Heap.Ns _ L m from hn) hv ?_ hd))⟩
  have e0 : (Str.empty ++ pre).length = pre.length := by rw [strLen_append]; show 0 + _ = _; omega
  cases v with
  | int i =>
    obtain ⟨t, rfl⟩ := r
    obtain ⟨f1, f2⟩ := f
    rw [strLen_append] at f2
    exact wpAny_formatField_int f1 ⟨by rw [strLen_append, e0]; exact f2, joinParts_nil (h _ _ _) (by rw [strLen_append, e0]; exact f2)⟩
  | str y =>
    obtain ⟨t, rfl⟩ := r
    obtain ⟨f1, f2⟩ := f
    rw [strLen_append] at f2
    exact wpAny_formatField_str ⟨by rw [strLen_append, e0]; exact f2, joinParts_nil (h _ _ _) (by rw [strLen_append, e0]; exact f2)⟩ ⟨by rw [strLen_append, e0]; exact f2, joinParts_nil (h _ _ _) (by rw [strLen_append, e0]; exact f2)⟩ f1
  | _ => exact f.elim
/-- what is asked of the class, its __init__ and the program -/
structure IniF (P : Program) (K : PySem.W.Frag) (mg : Str → Option Value) (C fI : Addr) (fd : FuncData) (n pre sf : Str) : Prop where
  T : OexC K C
  iC : PySem.W.findIn K (.ref C) "__init__" = some (some (.ref fI))
  tI : PySem.W.typeIn K (.ref fI) = some (.type "function")
  fld : PySem.W.findIn K (.ref C) n = some none
  lf : ∃ oc od osl, K.lookup fI = some ⟨oc, od, .func fd, osl⟩
  code : ∃ cda ccl cdd ccs vs file tf, fd.code = .ref cda ∧ K.lookup cda = some ⟨ccl, cdd, .fields vs, ccs⟩ ∧ vs[2]? = some (.str file tf) ∧ ((P.main.file : Str) == file) = true ∧ PySem.W.codeIn K (.ref cda) fd.qualname = true
  cell : ∃ cc cl cld csl, fd.closure.lookup ("__class__" : Str) = some cc ∧ K.lookup cc = some ⟨cl, cld, .cell (some (.ref C)), csl⟩
  glob : fd.globals = mainGlobals
  blt : fd.builtins = builtinsNs
  body : ∃ (jn : Nat) (p0 p1 p2 p3 p4 p5 p6 p7 p8 p9 p10 p11 p12 : Pos) (pl : PySem.Env → Sem Bool), fd.body = .stmts [.Expr (iCall pre n jn p0 p1 p2 p3 p4 p5 p6 p7) p8, .Assign [.Attribute (.Name sf p9) n p10] (.Name n p11) p12] ∧
    ∀ env, eval (iCall pre n jn p0 p1 p2 p3 p4 p5 p6 p7) env = (do
      let ov ← attributeBase (.Call (.Name "super" p0) [] [] p1) "__init__" env (eval (.Call (.Name "super" p0) [] [] p1) env)
      standAt p2.atName
      let (f, first) ← holding [ov] (getMethod ov "__init__" (pl env))
      callWith p7 f first (backTo p7 (starEach [iArg pre n jn p3 p4 p5 p6] env)) [])
  kind : fd.scope.kind = .function
  co : fd.scope.isCoroutine = false
  gen : fd.scope.isGenerator = false
  nocell : ∀ y ∈ fd.scope.names, y.2 ≠ .cell
  lself : fd.scope.names.lookup sf = some .local
  lx : fd.scope.names.lookup n = some .local
  sup : fd.scope.names.lookup ("super" : Str) = some .globalImplicit
  cls : fd.scope.names.lookup ("__class__" : Str) = some .free
  ne : (n == sf) = false
  dx : (n == ("__debug__" : Str)) = false
  ds : (sf == ("__debug__" : Str)) = false
  par : ∃ ar, (fd.params.posonlyargs ++ fd.params.args).head? = some ar ∧ ar.arg = sf
  bind : ∀ a b : Value, bindArgs fd ⟨[a, b], []⟩ = pure [(sf, a), (n, b)]
  bindK : ∀ a b : Value, bindArgs fd ⟨[a], [(n, b)]⟩ = pure [(sf, a), (n, b)]
  top : (P.main.scope.names.lookup ("super" : Str)).isSome = false
  super : mg "super" = none
  op : PySem.W.nsIn K cStatics "thirdparty.any" = some none
  mro : ∃ cd, PySem.W.clsIn K C = some cd ∧ PySem.W.alongIn K "__init__" ((cd.mro.dropWhile (· != .ref C)).drop 1) = some (some (.builtin "ValueError.__init__")) ∧ cd.hasDict = true ∧ PySem.HandSPX.refsVE cd.mro = true
  subC : PySem.W.mroIn K C (.ref C) = some true
  subV : PySem.W.subIn K (.ref C) (.type "ValueError") = some true
  sz : pre.length ≤ sizeLine
theorem init_core {n pre self : Str} {C fI t0 ex : Addr} {fd : FuncData} (Fc : IniF P K mg C fI fd n pre self) {A A' : Around} {outer : List PySem.Env} {H : Hp} {hp h2 : Heap} {g : Array GenState} {dr : Drawn} {tk : Nat} {os : OsState} {v : V} {u : Value} {E Q : Value → Shared → Prop} {args : Args}
    (e0 : Env0 P w K mg base A outer ⟨hp, g, dr, tk, os⟩ H) (ru : RelV v u) (hf : FmtOk pre v) (hQ : ∀ a dx s', KNew ⟨hp, g, dr, tk, os⟩ s' C n u a dx → Q (.ref a) s') (hd2 : A'.depth < recursionLimit) (kk : ∀ b o, hp.get? b = some o → h2.get? b = some o) (hget : h2.get? ex = some (PySem.HandSPX.excO C t0))
    (he2 : hp.get? ex = none) (hsz : hp.objs.size < ex) (hbn : BindsTo ⟨h2, g, dr, tk, os⟩ fd args [(self, .ref ex), (n, u)]) :
    codeAny (model P w) A' (.call (.ref fI) args) (PySem.W.InitBack ex fun r s' => match r with | .ok (.ret v) => Q v s' | .ok _ => False | .error e => E e s') ⟨h2, g, dr, tk, os⟩ := by
  obtain ⟨T, iC, tI, fld, ⟨oc, od, osl, lf⟩, ⟨cda, ccl, cdd, ccs, vs, file, tf, fcode, lc, hvs, hfile, hcode⟩, ⟨cc, cl, cld, csl, fclo, lcell⟩, fglob, fblt, ⟨jn, p0, p1, p2, p3, p4, p5, p6, p7, p8, p9, p10, p11, p12, pl, fbody, he⟩, fkind, fco, fgen, fcell, fself, fx, fsup, fcls, hne, hdx, hds, ⟨ar, hpar, har⟩, _, _, htop, hsuper, ho, ⟨cd, hcd, hal, hdict, hmro⟩, hsubC, hsubV, hpre⟩ := Fc
  obtain ⟨nm, q, N, bs, bm, sn, sub, ab, col, dd, k0, k1, k2, k3, k5, lC, hbm⟩ := T.cls
  have KX : K.In hp := e0.mod.kin.keeps fun b o e => (e0.bs b o e).1
  have lim : hp.NoLimit := e0.mod.nolimit.keeps fun b o e => (e0.bs b o e).1
  have glb : hp.Ns mainGlobals mg := e0.mod.glob.keeps fun b o e => (e0.bs b o e).1
  obtain ⟨mb, blt0, bltv⟩ := e0.mod.blt
  have blt : hp.Ns builtinsNs mb := blt0.keeps fun b o e => (e0.bs b o e).1
  refine PySem.ks_codeAny_call_defAt (fd := fd) (binds := [(self, .ref ex), (n, u)]) hd2 (kk _ _ (KX _ _ lf)) rfl (lim.keeps kk) (by rw [fcode]; exact PySem.W.codeRec_of (KX.keeps kk) hcode) fbody hbn fcell (fun y hy => ?_) (fun h3 ns3 k3' => ?_) fco fgen fkind
  · rcases List.mem_cons.mp hy with rfl | hy
    · exact fself
    · rw [List.mem_singleton.mp hy]
      exact fx
  have K3 : K.In h3 := (KX.keeps kk).keeps k3'
  have kh3 : ∀ b o, hp.get? b = some o → h3.get? b = some o := fun b o e => k3' _ _ (kk _ _ e)
  have hget3 := k3' _ _ hget
  have mself : (fun y => ([(self, Value.ref ex), (n, u)] : List (Str × Value)).reverse.lookup y) self = some (.ref ex) := by
    have : (self == n) = false := by
      rw [beq_eq_false_iff_ne] at hne ⊢
      exact Ne.symm hne
    simp [List.lookup, this]
  have mx : (fun y => ([(self, Value.ref ex), (n, u)] : List (Str × Value)).reverse.lookup y) n = some u := by simp [List.lookup]
  have exC : ex ≠ C := fun z => by
    have := K3 _ _ lC
    rw [← z, hget3] at this
    cases this
  generalize hL : h2.objs.size = L at ns3
  have I3 : PySem.W.InstAt h3 ex (PySem.HandSPX.excO C t0) (C) none := ⟨hget3, rfl, rfl, trivial⟩
  obtain ⟨oD, hD1, hD2⟩ : ∃ oD : Obj, h3.get? (C) = some oD ∧ oD.data = .cls cd := by
    have hcd' := hcd
    unfold PySem.W.clsIn at hcd'
    split at hcd'
    · rename_i c d cd' sl ho'
      cases hcd'
      exact ⟨_, K3 _ _ ho', rfl⟩
    · cases hcd'
  refine PySem.ks_wpAt_execs_cons (PySem.ks_wpAt_Expr_any (PySem.ks_wpAt_MethodCall (pl := pl (callEnv fd L fI)) (PySem.ks_wpAt_super_base (env := callEnv fd L fI) fsup fcls rfl rfl (K3 _ _ lf) rfl hpar fcode (K3 _ _ lc) rfl hvs hfile htop ?_) (he _)) (by simp [interactive, callEnv, newEnv, fkind]) rfl)
  refine PySem.W.ks_loadName_global fkind fsup (loadGlobal_builtin (env := callEnv fd L fI) (show h3.Ns (callEnv fd L fI).globals mg by show h3.Ns fd.globals mg; rw [fglob]; exact glb.keeps kh3) hsuper (show h3.Ns (callEnv fd L fI).builtins mb by show h3.Ns fd.builtins mb; rw [fblt]; exact blt.keeps kh3) ((bltv _ (by decide +kernel)).trans (by decide +kernel)) ⟨rfl, ?_⟩)
  refine wpAny_loadName_free fkind fcls (show (callEnv fd L fI).cells.lookup ("__class__" : Str) = some cc from fclo) ⟨_, K3 _ _ lcell, rfl⟩ ?_
  rw [har]
  refine wpAny_loadName_local fkind fself ns3 mself ?_
  refine ks_wpAny_isType_cls hD1 hD2 ⟨rfl, ?_⟩
  refine ks_wpAny_call_super hD1 hD2 hget3 rfl (fun c e => by cases e) (PySem.W.looks_mroIn K3 hsubC) (fun h4 hso k4 => ?_)
  have K4 : K.In h4 := K3.keeps k4
  have hget4 := k4 _ _ hget3
  have I4 : PySem.W.InstAt h4 ex (PySem.HandSPX.excO C t0) (C) none := ⟨hget4, rfl, rfl, trivial⟩
  refine PySem.W.kxs_getMethod PySem.W.kxs_ValueError hso (PySem.W.looks_opaque K4 ho) (l₀ := cd.mro) ((PySem.W.looks_clsIn K4 hcd).andThen .now) rfl K4 hal (I4.type.andThen (PySem.W.looks_subIn K4 hsubV)) exC (by decide) ?_
  have k5 : ∀ b o, h4.get? b = some o → (h4.push (PySem.W.kxs_mw "ValueError.__init__" ex)).get? b = some o := fun b o e => Heap.get?_push_of_some _ e
  have hmw : (h4.push (PySem.W.kxs_mw "ValueError.__init__" ex)).get? h4.objs.size = some (PySem.W.kxs_mw "ValueError.__init__" ex) := Heap.get?_push_at rfl rfl
  generalize hh5 : h4.push (PySem.W.kxs_mw "ValueError.__init__" ex) = h5 at k5 hmw
  generalize h4.objs.size = mw at hmw
  have ns5 : h5.Ns L (fun y => ([(self, Value.ref ex), (n, u)] : List (Str × Value)).reverse.lookup y) := ns3.keeps fun b o e => k5 _ _ (k4 _ _ e)
  have K5 : K.In h5 := K4.keeps k5
  have hget5 := k5 _ _ hget4
  refine PySem.W.kxs_callWith (i := "ValueError.__init__") (x := ex) rfl (evalArgs_plain (spliced_cons ?_))
  refine init_text (p6 := p6) (m := fun y => ([(self, Value.ref ex), (n, u)] : List (Str × Value)).reverse.lookup y) fkind fx ns5 mx hdx ru hf hpre fun y t tk' => spliced_nil ⟨hmw, ?_⟩
  -- ValueError.__init__
  refine wpAny_call (codeAny_of_tree ?_)
  show wpAny _ _ (callAny (.ref mw) ⟨[.str y t], []⟩) _ _ _
  simp only [callAny]
  refine wpAny_bind (wpAny_load hmw ?_)
  simp only [PySem.W.kxs_mw, show (Value.type "method-wrapper" == Value.type "method" || Value.type "method-wrapper" == Value.type "builtin_function_or_method" || Value.type "method-wrapper" == Value.type "method-wrapper") = true by decide, if_true]
  refine PySem.W.KFB.if_so (by decide) ?_
  refine wpAny_bind (PySem.W.check_bound_init F.excBase_ValueError.toExcCallFacts (K5 _ _ lC) hget5 rfl ?_)
  refine wpAny_bind (wpAny_pure (wpAny_pure ?_))
  refine ⟨plainId_quiet F.excBase_ValueError.init.plain _, codeAny_builtin F.excBase_ValueError.initEntry ?_⟩
  refine PySem.W.exc_init_tree (cls := .ref (C)) (t0 := t0) (dv := none) (c2 := .none) (c3 := .none) (b4 := .bool false) hget5 (by show 1 ≤ sizeLine; rw [sizeLine_eq]; omega) (fun h6 k6 hget6 _ => ?_)
  have ne6 : ∀ {b o}, hp.get? b = some o → b ≠ ex := fun e z => by rw [z, he2] at e; cases e
  have K6 : K.In h6 := fun b o e => k6 b o (ne6 (KX b o e)) (K5 b o e)
  have lL : ex < L := by rw [← hL]; exact Heap.lt_size hget
  have ns6 : h6.Ns L (fun y => ([(self, Value.ref ex), (n, u)] : List (Str × Value)).reverse.lookup y) := ns5.at fun o e => k6 _ _ (Nat.ne_of_gt lL) e
  refine wpAt_of_wpAny (wpAny_execs_cons (plainObj_wpAny_Assign_Attribute (ldc fkind fx ns6 mx (ldc fkind fself ns6 mself ?_ hds) hdx) rfl))
  refine PySem.W.set_plain K6 (ox := { cls := .ref (C), dict := none, data := .fields #[.ref h5.objs.size, .none, .none, .none, .bool false, .none] }) (od := none) ⟨hget6, rfl, rfl, trivial⟩ T.sa ?_
  refine PySem.HandSPX.exc_osa K6 hget6 hcd hmro hdict fld (fun h7 tk7 dx k7 hdx7 hne7 hx7 hns7 => ?_)
  refine wpAny_execs_nil ⟨rfl, hQ ex dx _ ⟨fun b o e => ?_, he2, ?_, Ne.symm hne7, ⟨_, hx7⟩, hns7, rfl, rfl⟩⟩
  · exact k7 _ _ (ne6 e) (k6 _ _ (ne6 e) (k5 _ _ (k4 _ _ (kh3 _ _ e))))
  · refine Heap.get?_none_of_le (Nat.le_trans ?_ hdx7)
    have h1 : ex < h6.objs.size := Heap.lt_size hget6
    exact Nat.le_of_lt (Nat.lt_trans hsz h1)
theorem kmk_of {k j : Nat} {n pre sf : Str} {C fI : Addr} {fd : FuncData} (hC : cm K j = C) (Fc : IniF P K mg C fI fd n pre sf) : KMk P w K mg base k j n pre := by
  subst hC
  obtain ⟨nm, q, N, bs, bm, sn, sub, ab, col, dd, k0, k1, k2, k3, k5, lC, hbm⟩ := Fc.T.cls
  have up : ∀ {hp : Heap} {rest : List Value}, ∀ b o, hp.get? b = some o → ((hp.push (PySem.W.kdv_tup rest)).push (PySem.HandSPX.excO (cm K j) hp.objs.size)).get? b = some o := fun b o e => Heap.get?_push_of_some _ (Heap.get?_push_of_some _ e)
  have atE : ∀ {hp : Heap} {rest : List Value}, ((hp.push (PySem.W.kdv_tup rest)).push (PySem.HandSPX.excO (cm K j) hp.objs.size)).get? (hp.objs.size + 1) = some (PySem.HandSPX.excO (cm K j) hp.objs.size) := by
    intro hp rest
    heap_get
  have mk : ∀ {A : Around} {kw : List (Str × Value)} {us : List Value}, Room k A → (A.under (.builtin "type.__call__" ⟨.ref (cm K j) :: us, kw⟩)).depth < recursionLimit := fun {A kw us} hr => by
    have := hr.dp
    rw [make_depth]
    omega
  refine ⟨Fc.fld, fun A outer s H v u E Q hr hgu e0 ru hf hQ => ?_, fun A outer s H v u E Q hr hgu e0 ru hf hQ => ?_⟩
  all_goals
    have KX : K.In s.heap := e0.mod.kin.keeps fun b o e => (e0.bs b o e).1
    obtain ⟨hp, g, dr, tk, os⟩ := s
    have he2 : hp.get? (hp.objs.size + 1) = none := Heap.get?_none_of_le (Nat.le_succ _)
  · refine wpAny_call (PySem.HandSPX.call_own F.excBase_ValueError (fun Y => PySem.HandSPX.refsVE_contains Y bm hbm) (KX _ _ lC) (PySem.W.looks_findIn KX Fc.iC) (fun self => PySem.W.bind_fn KX self Fc.tI) (by show 1 ≤ sizeLine; rw [sizeLine_eq]; omega) ?_)
    exact init_core Fc e0 ru hf hQ (mk hr) up atE he2 (Nat.lt_succ_self _) (.of_eq (Fc.bind _ _))
  · refine wpAny_call (kw_call F.excBase_ValueError (fun Y => PySem.HandSPX.refsVE_contains Y bm hbm) (KX _ _ lC) (PySem.W.looks_findIn KX Fc.iC) (fun self => PySem.W.bind_fn KX self Fc.tI) ?_)
    exact init_core Fc e0 ru hf hQ (mk hr) up atE he2 (Nat.lt_succ_self _) (.of_eq (Fc.bindK _ _))
theorem iniF_of {C fI cc cda : Addr} {n pre sf : Str} {fd : FuncData} {nm q : Str} {N : Addr} {bs bm : List Value} {sn : List Str} {sub : List Value} {ab : Bool} {col : Option Bool} {dd : Option Addr} {k0 k1 k2 k3 k5 : Option Value} {oC oF oK oD : Obj} {vs : Array Value} {file : Str} {tf : Tok} {jn : Nat} {p0 p1 p2 p3 p4 p5 p6 p7 p8 p9 p10 p11 p12 : Pos} {pl : PySem.Env → Sem Bool} {ar : Arg} {cd : ClassData}
    (l : K.lookup C = some oC) (l2 : oC = excClassObj nm q C N bs bm true sn sub ab col dd k0 k1 k2 k3 k5 "ValueError.__new__") (r : PySem.HandSPX.refsVE bm = true) (sa : PySem.W.findIn K (.ref C) "__setattr__" = some (some (.builtin "object.__setattr__"))) (ex : PySem.W.subIn K (.ref C) (.type "BaseException") = some true)
    (ty : PySem.W.typeIn K (.ref C) = some (.type "type")) (kc : PySem.W.keepIn K (.ref C) = true) (iC : PySem.W.findIn K (.ref C) "__init__" = some (some (.ref fI))) (tI : PySem.W.typeIn K (.ref fI) = some (.type "function")) (fl : PySem.W.findIn K (.ref C) n = some none)
    (lf : K.lookup fI = some oF) (lf2 : oF.data = .func fd) (c1 : fd.code = .ref cda) (c2 : K.lookup cda = some oK) (c2' : oK.data = .fields vs) (c3 : vs[2]? = some (.str file tf)) (c4 : ((P.main.file : Str) == file) = true) (c5 : PySem.W.codeIn K (.ref cda) fd.qualname = true)
    (d1 : fd.closure.lookup ("__class__" : Str) = some cc) (d2 : K.lookup cc = some oD) (d2' : oD.data = .cell (some (.ref C))) (g1 : fd.globals = mainGlobals) (g2 : fd.builtins = builtinsNs)
    (b1 : fd.body = .stmts [.Expr (iCall pre n jn p0 p1 p2 p3 p4 p5 p6 p7) p8, .Assign [.Attribute (.Name sf p9) n p10] (.Name n p11) p12])
    (b2 : ∀ env, eval (iCall pre n jn p0 p1 p2 p3 p4 p5 p6 p7) env = (do
      let ov ← attributeBase (.Call (.Name "super" p0) [] [] p1) "__init__" env (eval (.Call (.Name "super" p0) [] [] p1) env)
      standAt p2.atName
      let (f, first) ← holding [ov] (getMethod ov "__init__" (pl env))
      callWith p7 f first (backTo p7 (starEach [iArg pre n jn p3 p4 p5 p6] env)) []))
    (k1' : fd.scope.kind = .function) (k2' : fd.scope.isCoroutine = false) (k3' : fd.scope.isGenerator = false) (k4 : ∀ y ∈ fd.scope.names, y.2 ≠ .cell) (k5' : fd.scope.names.lookup sf = some .local) (k6 : fd.scope.names.lookup n = some .local)
    (k7 : fd.scope.names.lookup ("super" : Str) = some .globalImplicit) (k8 : fd.scope.names.lookup ("__class__" : Str) = some .free) (k9 : (n == sf) = false) (m1 : (n == ("__debug__" : Str)) = false) (m2 : (sf == ("__debug__" : Str)) = false)
    (p1' : (fd.params.posonlyargs ++ fd.params.args).head? = some ar) (p2' : ar.arg = sf) (q1 : ∀ a b : Value, bindArgs fd ⟨[a, b], []⟩ = pure [(sf, a), (n, b)]) (q2 : ∀ a b : Value, bindArgs fd ⟨[a], [(n, b)]⟩ = pure [(sf, a), (n, b)])
    (q3 : (P.main.scope.names.lookup ("super" : Str)).isSome = false) (q4 : mg "super" = none) (q5 : PySem.W.nsIn K cStatics "thirdparty.any" = some none) (r1 : PySem.W.clsIn K C = some cd) (r2 : PySem.W.alongIn K "__init__" ((cd.mro.dropWhile (· != .ref C)).drop 1) = some (some (.builtin "ValueError.__init__")))
    (r3 : cd.hasDict = true) (r4 : PySem.HandSPX.refsVE cd.mro = true) (s1 : PySem.W.mroIn K C (.ref C) = some true) (s2 : PySem.W.subIn K (.ref C) (.type "ValueError") = some true) (s3 : pre.length ≤ sizeLine) : IniF P K mg C fI fd n pre sf := by
  subst l2
  refine ⟨⟨⟨nm, q, N, bs, bm, sn, sub, ab, col, dd, k0, k1, k2, k3, k5, l, r⟩, sa, ex, ty, kc⟩, iC, tI, fl, ?_, ?_, ?_, g1, g2, ⟨jn, p0, p1, p2, p3, p4, p5, p6, p7, p8, p9, p10, p11, p12, pl, b1, b2⟩, k1', k2', k3', k4, k5', k6, k7, k8, k9, m1, m2, ⟨ar, p1', p2'⟩, q1, q2, q3, q4, q5, ⟨cd, r1, r2, r3, r4⟩, s1, s2, s3⟩
  · obtain ⟨c, d, dt, sl⟩ := oF
    cases lf2
    exact ⟨_, _, _, lf⟩
  · obtain ⟨c, d, dt, sl⟩ := oK
    cases c2'
    exact ⟨cda, _, _, _, vs, file, tf, c1, c2, c3, c4, c5⟩
  · obtain ⟨c, d, dt, sl⟩ := oD
    cases d2'
    exact ⟨cc, _, _, _, d1, d2⟩
theorem ErOk.mk2 {tab : List Addr} {p : Str × Nat × Option (Str × Str)} {a : Addr} (A : ErAll K tab) (ha' : tab[p.2.1]? = some a) (lo : 1 ≤ p.2.1) (hi : p.2.1 < 27) (loc : mg p.1 = some (.ref a)) (er : ErC K p.2.1)
    (mk0 : p.2.2 = none → PySem.W.excIn K a PySem.HandSPX.veTail "ValueError.__new__" = true) (mkk : ∀ n pre, p.2.2 = some (n, pre) → ∀ C, cm K p.2.1 = C → C = a → ∀ base k, KMk P w K mg base k p.2.1 n pre) : ErOk P w K mg p := by
  have ha : tab.getD p.2.1 0 = a := by rw [List.getD_eq_getElem?_getD, ha']; rfl
  have e : cm K p.2.1 = a := (A _ lo hi).trans ha
  exact ⟨lo, hi, by rw [e]; exact loc, er, fun z => by rw [e]; exact mk0 z, fun n pre z base k => mkk n pre z a e rfl base k⟩
end
end Rv
set_option Elab.async false
set_option linter.all false
set_option maxRecDepth 100000
set_option maxHeartbeats 4000000
namespace K00
open PySem Rv L2
def top (i : Nat) : Stmt := PySem.Challenge.pw_brushedsigns_k00_error_classes.main.body.getD i (.Pass ⟨0, 0, 0, 0⟩)
def gs : List (Str × D) := []
def kws : List (Str × List Str × List Nat) := []
def exs : Exs := [(strS "SignError", 1, none), (strS "BadStock", 2, none), (strS "BadName", 3, none), (strS "BadSign", 4, none), (strS "BadText", 5, some (strS "index", strS "the text of the sign goes wrong at word ")), (strS "BadPicture", 6, none), (strS "BadPath", 7, none), (strS "BadWord", 8, none), (strS "BadBox", 9, none), (strS "BadMove", 10, none), (strS "BadHand", 11, none), (strS "BadOrder", 12, none), (strS "BadBook", 13, none), (strS "BadKinds", 14, none), (strS "NoPutting", 15, none), (strS "BadSamples", 16, none), (strS "BadSigns", 17, none), (strS "BadSorts", 18, none), (strS "BadStroke", 19, none), (strS "BadGrid", 20, none), (strS "BadCount", 21, none), (strS "BadCut", 22, none), (strS "NothingToUndo", 23, none), (strS "Full", 24, none), (strS "BadCommand", 25, none), (strS "TooMany", 26, none)]
/-- 0: _law_flags -/
def ir0 : Ss := (.cons (.asg (.var 1) (.list (.cons (.isX (.var 0) 2) (.cons (.isX (.var 0) 3) (.cons (.isX (.var 0) 4) (.cons (.isX (.var 0) 5) (.cons (.isX (.var 0) 6) .nil))))))) (.cons (.asg (.var 1) (.bin .add (.var 1) (.list (.cons (.isX (.var 0) 7) (.cons (.isX (.var 0) 8) (.cons (.isX (.var 0) 9) (.cons (.isX (.var 0) 10) (.cons (.isX (.var 0) 11) .nil)))))))) (.cons (.asg (.var 1) (.bin .add (.var 1) (.list (.cons (.isX (.var 0) 12) (.cons (.isX (.var 0) 13) (.cons (.isX (.var 0) 14) (.cons (.isX (.var 0) 15) (.cons (.isX (.var 0) 16) .nil)))))))) (.cons (.asg (.var 1) (.bin .add (.var 1) (.list (.cons (.isX (.var 0) 17) (.cons (.isX (.var 0) 18) (.cons (.isX (.var 0) 19) (.cons (.isX (.var 0) 20) (.cons (.isX (.var 0) 21) .nil)))))))) (.cons (.ret (.bin .add (.var 1) (.list (.cons (.isX (.var 0) 22) (.cons (.isX (.var 0) 23) (.cons (.isX (.var 0) 24) (.cons (.isX (.var 0) 25) (.cons (.isX (.var 0) 26) .nil)))))))) .nil)))))
def d0 : Dfn := ⟨strS "_law_flags", top 28, [strS "_law_e", strS "_law_got"], [strS "_law_e"], ir0⟩
/-- 1: _law_made -/
def ir1 : Ss := (.cons (.asg (.var 2) (.list (.cons (.mkx 2 (.var 0)) (.cons (.mkx 3 (.var 0)) (.cons (.mkx 4 (.var 0)) (.cons (.mkk 5 (strS "index") (strS "the text of the sign goes wrong at word ") (.var 1)) (.cons (.mkx 6 (.var 0)) (.cons (.mkx 7 (.var 0)) (.cons (.mkx 8 (.var 0)) .nil))))))))) (.cons (.asg (.var 2) (.bin .add (.var 2) (.list (.cons (.mkx 9 (.var 0)) (.cons (.mkx 10 (.var 0)) (.cons (.mkx 11 (.var 0)) (.cons (.mkx 12 (.var 0)) (.cons (.mkx 13 (.var 0)) (.cons (.mkx 14 (.var 0)) .nil))))))))) (.cons (.asg (.var 2) (.bin .add (.var 2) (.list (.cons (.mkx 15 (.var 0)) (.cons (.mkx 16 (.var 0)) (.cons (.mkx 17 (.var 0)) (.cons (.mkx 18 (.var 0)) (.cons (.mkx 19 (.var 0)) (.cons (.mkx 20 (.var 0)) .nil))))))))) (.cons (.ret (.bin .add (.var 2) (.list (.cons (.mkx 21 (.var 0)) (.cons (.mkx 22 (.var 0)) (.cons (.mkx 23 (.var 0)) (.cons (.mkx 24 (.var 0)) (.cons (.mkx 25 (.var 0)) (.cons (.mkx 26 (.var 0)) .nil))))))))) .nil))))
def d1 : Dfn := ⟨strS "_law_made", top 29, [strS "_law_text", strS "_law_index", strS "_law_got"], [strS "_law_text", strS "_law_index"], ir1⟩
/-- 2: _law_is_caught -/
def ir2 : Ss := (.cons (.tryy (.cons (.ife (.cmp .eq (.var 0) (.lit (.int 0))) (.cons (.rais 2 (.var 1)) .nil) .nil) (.cons (.ife (.cmp .eq (.var 0) (.lit (.int 3))) (.cons (.raisk 5 (strS "index") (strS "the text of the sign goes wrong at word ") (.var 2)) .nil) .nil) (.cons (.ife (.cmp .eq (.var 0) (.lit (.int 13))) (.cons (.rais 15 (.var 1)) .nil) .nil) (.cons (.ife (.cmp .eq (.var 0) (.lit (.int 22))) (.cons (.rais 24 (.var 1)) .nil) .nil) (.cons (.rais 26 (.var 1)) .nil))))) (.cons 2 none (.cons (.ret (.cmp .eq (.var 0) (.lit (.int 0)))) .nil) (.cons 5 (some 3) (.cons (.ret (.and (.cons (.cmp .eq (.var 0) (.lit (.int 3))) (.cons (.cmp .eq (.fld (.var 3) (strS "index")) (.var 2)) .nil)))) .nil) (.cons 15 none (.cons (.ret (.cmp .eq (.var 0) (.lit (.int 13)))) .nil) (.cons 24 none (.cons (.ret (.cmp .eq (.var 0) (.lit (.int 22)))) .nil) (.cons 1 (some 3) (.cons (.ret (.and (.cons (.cmp .eq (.var 0) (.lit (.int 24))) (.cons (.isX (.var 3) 26) .nil)))) .nil) .nil)))))) .nil)
def d2 : Dfn := ⟨strS "_law_is_caught", top 30, [strS "_law_number", strS "_law_text", strS "_law_index", strS "_law_e"], [strS "_law_number", strS "_law_text", strS "_law_index"], ir2⟩
/-- 3: law -/
def ir3 : Ss := (.cons (.asg (.var 1) (.bi .sum (.cons (.slice (.var 0) .none (.some (.lit (.int 1)))) .nil))) (.cons (.asg (.tup [2, 3]) (.tup (.cons (.bin .add (.lit (.str (strS "t"))) (.bi .str (.cons (.bin .mod (.bi .int (.cons (.var 1) .nil)) (.lit (.int 1000))) .nil))) (.cons (.bin .mod (.bi .int (.cons (.var 1) .nil)) (.lit (.int 997))) .nil)))) (.cons (.asg (.var 4) (.call 1 (.cons (.var 2) (.cons (.var 3) .nil)))) (.cons (.forr (.tup [5, 6]) (.enum (.var 4)) (.cons (.ife (.cmp .ne (.call 0 (.cons (.var 6) .nil)) (.comp [9, 10] (.cmp .eq (.var 5) (.var 10)) (.var 10) (.rng1 (.bi .len (.cons (.var 4) .nil))) .none)) (.cons (.ret (.lit (.bl false))) .nil) .nil) (.cons (.ife (.or (.cons (.not (.isX (.var 6) 1)) (.cons (.not (.isX (.var 6) 0)) .nil))) (.cons (.ret (.lit (.bl false))) .nil) .nil) .nil))) (.cons (.ife (.cmp .isin (.lit (.bl false)) (.comp [9, 5] (.call 2 (.cons (.var 5) (.cons (.var 2) (.cons (.var 3) .nil)))) (.var 5) (.of (.list (.cons (.lit (.int 0)) (.cons (.lit (.int 3)) (.cons (.lit (.int 13)) (.cons (.lit (.int 22)) (.cons (.lit (.int 24)) .nil))))))) .none)) (.cons (.ret (.lit (.bl false))) .nil) .nil) (.cons (.asg (.var 7) (.mkk 5 (strS "index") (strS "the text of the sign goes wrong at word ") (.var 3))) (.cons (.ife (.or (.cons (.cmp .ne (.bi .repr (.cons (.list (.cons (.fld (.var 7) (strS "index")) (.cons (.fld (.idx (.var 4) (.lit (.int 3))) (strS "index")) .nil))) .nil)) (.bi .repr (.cons (.list (.cons (.var 3) (.cons (.var 3) .nil))) .nil))) (.cons (.cmp .ne (.call 0 (.cons (.var 7) .nil)) (.call 0 (.cons (.idx (.var 4) (.lit (.int 3))) .nil))) .nil))) (.cons (.ret (.lit (.bl false))) .nil) .nil) (.cons (.asg (.var 8) (.mkx 1 (.var 2))) (.cons (.ret (.and (.cons (.isX (.var 8) 0) (.cons (.cmp .notin (.lit (.bl true)) (.call 0 (.cons (.var 8) .nil))) (.cons (.cmp .notin (.lit (.bl true)) (.call 0 (.cons (.mkx 0 (.var 2)) .nil))) .nil))))) .nil)))))))))
def d3 : Dfn := ⟨strS "law", top 31, [strS "_law_script", strS "_law_number", strS "_law_text", strS "_law_index", strS "_law_made_here", strS "_law_at", strS "_law_error", strS "_law_named", strS "_law_base", strS ".0", strS "_law_other"], [strS "_law_script"], ir3⟩
def T : List Dfn := [d0, d1, d2, d3]

abbrev cx : Rv.Ctx := tabC T gs kws false exs
theorem s0 : DfnSt cx d0 := ⟨⟨rfl, rfl, rfl, by decide +kernel, rfl, by decide +kernel, by decide +kernel⟩, by kernel_rfl, by (intro kV doc pm an cdv ct us hl; first | (match us, hl with | [_], _ => rfl) | (match us, hl with | [_, _], _ => rfl) | (match us, hl with | [_, _, _], _ => rfl) | (match us, hl with | [_, _, _, _], _ => rfl) | (match us, hl with | [_, _, _, _, _], _ => rfl) | (match us, hl with | [_, _, _, _, _, _], _ => rfl) | (match us, hl with | [_, _, _, _, _, _, _], _ => rfl) | (match us, hl with | [], _ => rfl)), by (intro q hq; cases hq)⟩
theorem s1 : DfnSt cx d1 := ⟨⟨rfl, rfl, rfl, by decide +kernel, rfl, by decide +kernel, by decide +kernel⟩, by kernel_rfl, by (intro kV doc pm an cdv ct us hl; first | (match us, hl with | [_], _ => rfl) | (match us, hl with | [_, _], _ => rfl) | (match us, hl with | [_, _, _], _ => rfl) | (match us, hl with | [_, _, _, _], _ => rfl) | (match us, hl with | [_, _, _, _, _], _ => rfl) | (match us, hl with | [_, _, _, _, _, _], _ => rfl) | (match us, hl with | [_, _, _, _, _, _, _], _ => rfl) | (match us, hl with | [], _ => rfl)), by (intro q hq; cases hq)⟩
theorem s2 : DfnSt cx d2 := ⟨⟨rfl, rfl, rfl, by decide +kernel, rfl, by decide +kernel, by decide +kernel⟩, by kernel_rfl, by (intro kV doc pm an cdv ct us hl; first | (match us, hl with | [_], _ => rfl) | (match us, hl with | [_, _], _ => rfl) | (match us, hl with | [_, _, _], _ => rfl) | (match us, hl with | [_, _, _, _], _ => rfl) | (match us, hl with | [_, _, _, _, _], _ => rfl) | (match us, hl with | [_, _, _, _, _, _], _ => rfl) | (match us, hl with | [_, _, _, _, _, _, _], _ => rfl) | (match us, hl with | [], _ => rfl)), by (intro q hq; cases hq)⟩
theorem s3 : DfnSt cx d3 := ⟨⟨rfl, rfl, rfl, by decide +kernel, rfl, by decide +kernel, by decide +kernel⟩, by kernel_rfl, by (intro kV doc pm an cdv ct us hl; first | (match us, hl with | [_], _ => rfl) | (match us, hl with | [_, _], _ => rfl) | (match us, hl with | [_, _, _], _ => rfl) | (match us, hl with | [_, _, _, _], _ => rfl) | (match us, hl with | [_, _, _, _, _], _ => rfl) | (match us, hl with | [_, _, _, _, _, _], _ => rfl) | (match us, hl with | [_, _, _, _, _, _, _], _ => rfl) | (match us, hl with | [], _ => rfl)), by (intro q hq; cases hq)⟩
theorem all : ∀ d ∈ T, DfnSt cx d := by
  intro d hd
  simp only [T, List.mem_cons, List.not_mem_nil, or_false] at hd
  rcases hd with rfl | rfl | rfl | rfl
  · exact s0
  · exact s1
  · exact s2
  · exact s3
end K00
set_option Elab.async false
set_option linter.all false
set_option maxRecDepth 100000
set_option maxHeartbeats 4000000
namespace Rv
open PySem
/-! ### reckoning by hand: what a step does at a store -/
section
variable {α β : Type} {S : Sto}
theorem pure_at (a : α) : (pure a : M α) S = .ok a S := rfl
theorem bind_at (m : M α) (f : α → M β) : (m >>= f) S = match m S with | .ok a S' => f a S' | .ex c S' => .ex c S' | .bad => .bad := rfl
theorem bind_ok {m : M α} {f : α → M β} {a : α} {S' : Sto} (h : m S = .ok a S') : (m >>= f) S = f a S' := by rw [bind_at, h]
theorem need_at (p : Prop) [Decidable p] : (need p : M Unit) S = if p then .ok () S else .bad := by unfold need; split <;> rfl
theorem opt_at (o : Option α) : (ofOpt o : M α) S = match o with | some a => .ok a S | none => .bad := by cases o <;> rfl
theorem items_at (n : Nat) : items n S = match S[n]? with | some (.lst xs) => .ok xs S | _ => .bad := rfl
theorem setO_at (n : Nat) (o : O) : setO n o S = .ok () (S.set n o) := rfl
theorem newO_at (o : O) : newO o S = .ok (.ref S.length) (S ++ [o]) := rfl
theorem fail_at : (fail : M α) S = .bad := rfl
/-- an answer told by what it is -/
def Ends (m : M α) (S : Sto) (Q : α → Sto → Prop) : Prop := ∃ a S', m S = .ok a S' ∧ Q a S'
theorem Ends.wp {m : M α} {Q : α → Sto → Prop} {w : Exn → Sto → Prop} (h : Ends m S Q) : Wp m S Q w := by
  obtain ⟨a, S', e, q⟩ := h
  unfold Wp
  rw [e]
  exact q
theorem Ends.bind {m : M α} {f : α → M β} {Q : α → Sto → Prop} {R : β → Sto → Prop} (h : Ends m S Q) (k : ∀ a S', Q a S' → Ends (f a) S' R) : Ends (m >>= f) S R := by
  obtain ⟨a, S', e, q⟩ := h
  obtain ⟨b, S2, e2, r⟩ := k a S' q
  exact ⟨b, S2, by rw [bind_ok e]; exact e2, r⟩
theorem Ends.mono {m : M α} {Q R : α → Sto → Prop} (h : Ends m S Q) (k : ∀ a S', Q a S' → R a S') : Ends m S R := by
  obtain ⟨a, S', e, q⟩ := h
  exact ⟨a, S', e, k a S' q⟩
theorem Ends.pure {a : α} {Q : α → Sto → Prop} (h : Q a S) : Ends (Pure.pure a) S Q := ⟨a, S, rfl, h⟩
/-- a def's run by its body -/
theorem run_at {P : Pg} {k i ps sl : Nat} {ir : Ss} {ds : List D} (h : P.fns[i]? = some ⟨ps, sl, ir⟩) (hl : ds.length = ps) {Q : D → Sto → Prop}
    (hb : Ends (evSs ⟨Rv.run P k, fun g => P.globs[g]?, P.fuel⟩ ir (startE sl ds)) S fun r S' => match r with | .next _ => Q .non S' | .ret d => Q d S' | _ => False) : Ends (Rv.run P (k + 1) i ds) S Q := by
  obtain ⟨r, S', e, q⟩ := hb
  cases r with
  | next ρ => exact ⟨.non, S', by rw [Rv.run]; simp only [h, bind_at, need_at, if_pos hl, e]; rfl, q⟩
  | ret d => exact ⟨d, S', by rw [Rv.run]; simp only [h, bind_at, need_at, if_pos hl, e]; rfl, q⟩
  | brk ρ => exact q.elim
  | cont ρ => exact q.elim
end
/-! ### the stream of draws that the laws use -/
def irDraw : Ss := (.cons (.ife (.cmp .gt (.idx (.var 0) (.lit (.int 0))) (.lit (.int 0))) (.cons (.asg (.var 2) (.bin .fdiv (.idx (.var 0) (.lit (.int 0))) (.var 1))) (.cons (.asg (.var 3) (.bin .sub (.idx (.var 0) (.lit (.int 0))) (.bin .mul (.var 2) (.var 1)))) (.cons (.setIdx (.var 0) (.lit (.int 0)) (.var 2)) (.cons (.ret (.var 3)) .nil)))) .nil) (.cons (.setIdx (.var 0) (.lit (.int 2)) (.bin .add (.idx (.var 0) (.lit (.int 2))) (.lit (.int 1)))) (.cons (.asg (.var 4) (.bin .add (.idx (.var 0) (.lit (.int 1))) (.bin .mul (.lit (.int 6700417)) (.idx (.var 0) (.lit (.int 2)))))) (.cons (.asg (.var 4) (.bin .mod (.bi .int (.cons (.bin .add (.bin .mul (.bin .mul (.var 4) (.var 4)) (.var 4)) (.bin .mul (.lit (.int 15485863)) (.idx (.var 0) (.lit (.int 2))))) .nil)) (.bin .add (.bin .pow (.lit (.int 10)) (.lit (.int 43))) (.lit (.int 57))))) (.cons (.asg (.var 4) (.bin .mod (.bi .int (.cons (.bin .add (.bin .mul (.var 4) (.var 4)) (.lit (.int 32452843))) .nil)) (.bin .add (.bin .pow (.lit (.int 10)) (.lit (.int 38))) (.lit (.int 133))))) (.cons (.ret (.bin .mod (.bi .int (.cons (.bin .fdiv (.var 4) (.bin .pow (.lit (.int 10)) (.lit (.int 9)))) .nil)) (.var 1))) .nil))))))
/-- a feed at n: what is left of its number, its second number, how often it was stirred -/
structure Feed (n N : Nat) (S : Sto) : Prop where
  ex : ∃ a b c : Int, S[n]? = some (.lst [.int a, .int b, .int c]) ∧ 0 ≤ a ∧ a.natAbs.log2 < 2000000 ∧ 0 ≤ b ∧ b < 2 ^ 200 ∧ 0 ≤ c ∧ c ≤ N
theorem log2_le {i : Int} {b : Nat} (h0 : 0 ≤ i) (h : i < 2 ^ b) (hb : 0 < b) : i.natAbs.log2 < b := by
  have h1 : i.natAbs < 2 ^ b := by
    have : ((i.natAbs : Nat) : Int) < ((2 ^ b : Nat) : Int) := by
      rw [Int.natAbs_of_nonneg h0]
      push_cast
      exact h
    exact Int.ofNat_lt.mp this
  exact PySem.Flt.log2_lt_of hb h1
end Rv
set_option Elab.async false
set_option linter.all false
set_option maxRecDepth 100000
set_option maxHeartbeats 4000000
namespace Rv
open PySem
theorem log2_mono {a b : Nat} (h : a ≤ b) : a.log2 ≤ b.log2 := by
  by_cases ha : a = 0
  · subst ha
    simp
  · exact (Nat.le_log2 (by omega)).mpr (Nat.le_trans (Nat.log2_self_le ha) h)
theorem mulOk_of {i j : Int} {a b : Nat} (h1 : i.natAbs.log2 < a) (h2 : j.natAbs.log2 < b) (h : a + b ≤ 100000000) : i.natAbs.log2 + j.natAbs.log2 < 100000000 := by omega
set_option exponentiation.threshold 500 in
theorem draw_ends {P : Pg} {k i n N : Nat} {m : Int} {S : Sto} (hf : P.fns[i]? = some ⟨2, 5, irDraw⟩) (F : Feed n N S) (hN : N < 10 ^ 12) (h0 : 0 < m) (hm : m < 2 ^ 60) :
    Ends (Rv.run P (k + 1) i [.ref n, .int m]) S fun d S' => ∃ v, d = .int v ∧ 0 ≤ v ∧ v < m ∧ Feed n (N + 1) S' ∧ ∃ o, S' = S.set n o := by
  obtain ⟨a, b, c, hS, ha, hal, hb, hb2, hc, hcN⟩ := F.ex
  have hn : n < S.length := (List.getElem?_eq_some_iff.mp hS).1
  have hml : m.natAbs.log2 < 60 := log2_le (by omega) hm (by decide)
  have hml9 : m.natAbs.log2 < 9000 := by omega
  refine run_at hf rfl ?_
  by_cases h : 0 < a
  · have hq0 : 0 ≤ a / m := Int.ediv_nonneg ha (by omega)
    have hle : a / m ≤ a := Int.ediv_le_self m ha
    have hql : (a / m).natAbs.log2 < 2000000 := by
      have : (a / m).natAbs ≤ a.natAbs := by omega
      exact Nat.lt_of_le_of_lt (log2_mono this) hal
    have hmul : (a / m).natAbs.log2 + m.natAbs.log2 < 100000000 := by omega
    have hv := Int.emod_nonneg a (show m ≠ 0 by omega)
    have hv2 := Int.emod_lt_of_pos a h0
    have hve : a - a / m * m = a % m := by have := Int.emod_add_mul_ediv a m; rw [Int.mul_comm] at this; omega
    refine ⟨.ret (.int (a - a / m * m)), S.set n (.lst [.int (a / m), .int b, .int c]), ?_, a - a / m * m, rfl, by omega, by omega, ⟨a / m, b, c, List.getElem?_set_self hn, hq0, hql, hb, hb2, hc, by omega⟩, _, rfl⟩
    simp [irDraw, startE, evSs, evS, ev, evs, truth, binD, cmpD, idxD, ixD, bindT, setIdxD, L2.atI, L2.ixN, pure_at, bind_at, need_at, items_at, setO_at, opt_at, hS, h, h0, hml9, hmul]
  · have hc1 : 0 ≤ c + 1 := by omega
    have hc2 : c + 1 < 2 ^ 60 := by omega
    generalize e1 : b + 6700417 * (c + 1) = s1
    have s1a : 0 ≤ s1 := by omega
    have s1b : s1 < 2 ^ 201 := by omega
    have l1 : s1.natAbs.log2 < 201 := log2_le s1a s1b (by decide)
    have lc : (c + 1).natAbs.log2 < 60 := log2_le hc1 hc2 (by decide)
    have m0 : (6700417 : Int).natAbs.log2 + (c + 1).natAbs.log2 < 100000000 := mulOk_of (a := 24) (by decide) lc (by decide)
    have m1 : s1.natAbs.log2 + s1.natAbs.log2 < 100000000 := by omega
    have l2 : (s1 * s1).natAbs.log2 < 402 := log2_le (Int.mul_nonneg s1a s1a) (by
      have : s1 * s1 < 2 ^ 201 * 2 ^ 201 := Int.mul_lt_mul' (Int.le_of_lt s1b) s1b s1a (by decide)
      exact Int.lt_of_lt_of_le this (by decide)) (by decide)
    have m2 : (s1 * s1).natAbs.log2 + s1.natAbs.log2 < 100000000 := by omega
    have m3 : (15485863 : Int).natAbs.log2 + (c + 1).natAbs.log2 < 100000000 := mulOk_of (a := 24) (by decide) lc (by decide)
    generalize e2 : (s1 * s1 * s1 + 15485863 * (c + 1)) % (10 ^ 43 + 57) = s2
    have s2a : 0 ≤ s2 := by rw [← e2]; exact Int.emod_nonneg _ (by decide)
    have s2b : s2 < 2 ^ 150 := by rw [← e2]; exact Int.lt_of_lt_of_le (Int.emod_lt_of_pos _ (by decide)) (by decide)
    have l3 : s2.natAbs.log2 < 150 := log2_le s2a s2b (by decide)
    have m4 : s2.natAbs.log2 + s2.natAbs.log2 < 100000000 := by omega
    generalize e3 : (s2 * s2 + 32452843) % (10 ^ 38 + 133) = s3
    have hv := Int.emod_nonneg (s3 / 10 ^ 9) (show m ≠ 0 by omega)
    have hv2 := Int.emod_lt_of_pos (s3 / 10 ^ 9) h0
    refine ⟨.ret (.int (s3 / 10 ^ 9 % m)), S.set n (.lst [.int a, .int b, .int (c + 1)]), ?_, s3 / 10 ^ 9 % m, rfl, hv, hv2, ⟨a, b, c + 1, List.getElem?_set_self hn, ha, hal, hb, hb2, hc1, by omega⟩, _, rfl⟩
    have hg : (S.set n (.lst [.int a, .int b, .int (c + 1)]))[n]? = some (.lst [.int a, .int b, .int (c + 1)]) := List.getElem?_set_self hn
    have q1 : Nat.log2 6700417 + (c + 1).natAbs.log2 < 100000000 := m0
    have q2 : Nat.log2 15485863 + (c + 1).natAbs.log2 < 100000000 := m3
    have q3 : Nat.log2 1000000000 < 9000 := by decide +kernel
    have e2 : (s1 * s1 * s1 + 15485863 * (c + 1)) % 10000000000000000000000000000000000000000057 = s2 := e2
    have e3 : (s2 * s2 + 32452843) % 100000000000000000000000000000000000133 = s3 := e3
    simp [irDraw, startE, evSs, evS, ev, evs, truth, binD, cmpD, idxD, ixD, bindT, setIdxD, biD, L2.atI, L2.ixN, pure_at, bind_at, need_at, items_at, setO_at, opt_at, hS, hg, h, h0, q1, q2, q3, m1, m2, m4, e1, e2, e3]
end Rv
set_option Elab.async false
set_option linter.all false
set_option maxRecDepth 100000
set_option maxHeartbeats 4000000
namespace Rv
open PySem
/-! ### reckoning forwards: what must hold ahead of a step -/
section
variable {α β : Type} {S : Sto}
theorem En.pure_iff {a : α} {Q : α → Sto → Prop} : Ends (pure a : M α) S Q ↔ Q a S := ⟨fun ⟨_, _, e, q⟩ => by cases e; exact q, fun h => ⟨a, S, rfl, h⟩⟩
theorem En.bind_iff {m : M α} {f : α → M β} {R : β → Sto → Prop} : Ends (m >>= f) S R ↔ Ends m S fun a S' => Ends (f a) S' R := by
  constructor
  · rintro ⟨b, S2, e, r⟩
    rw [bind_at] at e
    cases h : m S with
    | ok a S' =>
      rw [h] at e
      exact ⟨a, S', h, b, S2, e, r⟩
    | ex c S' => rw [h] at e; cases e
    | bad => rw [h] at e; cases e
  · intro h
    exact Ends.bind h fun _ _ q => q
theorem En.need_iff {p : Prop} [Decidable p] {Q : Unit → Sto → Prop} : Ends (need p) S Q ↔ p ∧ Q () S := by
  unfold need
  by_cases h : p
  · rw [if_pos h, En.pure_iff]; exact ⟨fun q => ⟨h, q⟩, fun q => q.2⟩
  · rw [if_neg h]; exact ⟨fun ⟨_, _, e, _⟩ => (by cases e), fun q => absurd q.1 h⟩
theorem En.opt_iff {o : Option α} {Q : α → Sto → Prop} : Ends (ofOpt o : M α) S Q ↔ ∃ a, o = some a ∧ Q a S := by
  cases o with
  | none => exact ⟨fun ⟨_, _, e, _⟩ => (by cases e), fun ⟨_, e, _⟩ => by cases e⟩
  | some a => exact ⟨fun ⟨_, _, e, q⟩ => by cases e; exact ⟨a, rfl, q⟩, fun ⟨_, e, q⟩ => by cases e; exact ⟨a, S, rfl, q⟩⟩
theorem En.some_iff {a : α} {Q : α → Sto → Prop} : Ends (ofOpt (some a) : M α) S Q ↔ Q a S := En.pure_iff
theorem En.fail_iff {Q : α → Sto → Prop} : Ends (fail : M α) S Q ↔ False := ⟨fun ⟨_, _, e, _⟩ => (by cases e), False.elim⟩
theorem En.newO_iff {o : O} {Q : D → Sto → Prop} : Ends (newO o) S Q ↔ Q (.ref S.length) (S ++ [o]) := ⟨fun ⟨_, _, e, q⟩ => by cases e; exact q, fun h => ⟨_, _, rfl, h⟩⟩
theorem En.setO_iff {n : Nat} {o : O} {Q : Unit → Sto → Prop} : Ends (setO n o) S Q ↔ Q () (S.set n o) := ⟨fun ⟨_, _, e, q⟩ => by cases e; exact q, fun h => ⟨_, _, rfl, h⟩⟩
theorem En.items_iff {n : Nat} {Q : List D → Sto → Prop} : Ends (items n) S Q ↔ ∃ xs, S[n]? = some (.lst xs) ∧ Q xs S := by
  constructor
  · rintro ⟨xs, S', e, q⟩
    rw [items_at] at e
    cases h : S[n]? with
    | none => rw [h] at e; cases e
    | some o =>
      cases o with
      | lst ys => rw [h] at e; cases e; exact ⟨_, rfl, q⟩
      | dic ys => rw [h] at e; cases e
      | exc c fs => rw [h] at e; cases e
  · rintro ⟨xs, h, q⟩
    exact ⟨xs, S, by rw [items_at, h], q⟩
theorem En.ite_iff {c : Prop} [Decidable c] {m m' : M α} {Q : α → Sto → Prop} : Ends (if c then m else m') S Q ↔ if c then Ends m S Q else Ends m' S Q := by split <;> rfl
theorem En.noX_iff {m : M α} {Q : α → Sto → Prop} : Ends (noX m) S Q ↔ Ends m S Q := by
  constructor
  · rintro ⟨a, S', e, q⟩
    unfold noX at e
    cases h : m S with
    | ok b S2 => rw [h] at e; cases e; exact ⟨_, _, h, q⟩
    | ex c S' => rw [h] at e; cases e
    | bad => rw [h] at e; cases e
  · rintro ⟨a, S', e, q⟩
    exact ⟨a, S', by unfold noX; rw [e], q⟩
theorem En.chk_iff {p : Sto → Prop} {Q : Unit → Sto → Prop} : Ends (chkM p) S Q ↔ p S ∧ Q () S := by
  unfold chkM
  by_cases h : p S
  · exact ⟨fun ⟨_, _, e, q⟩ => (by simp only [if_pos h] at e; cases e; exact ⟨h, q⟩), fun q => ⟨(), S, by simp only [if_pos h], q.2⟩⟩
  · exact ⟨fun ⟨_, _, e, _⟩ => (by simp only [if_neg h] at e; cases e), fun q => absurd q.1 h⟩
/-- a branch by a truth -/
theorem En.bif {b : Bool} {m m' : M α} {Q : α → Sto → Prop} (h1 : b = true → Ends m S Q) (h2 : b = false → Ends m' S Q) : Ends (if b = true then m else m') S Q := by
  cases b with
  | true => rw [if_pos rfl]; exact h1 rfl
  | false => rw [if_neg (by decide)]; exact h2 rfl
end
/-- the walk of a loop by an invariant -/
theorem forL_ends {chk : Sto → Prop} {tg : Tg} {body : Env → M Flow} {Q : Flow → Sto → Prop} (I : List D → Env → Sto → Prop) : ∀ (its : List D) (ρ : Env) (S : Sto), I its ρ S →
    (∀ d ds ρ S, I (d :: ds) ρ S → chk S ∧ Ends (bindT tg d ρ >>= body) S fun f S' => match f with
      | .next ρ' => I ds ρ' S' | .cont ρ' => I ds ρ' S' | .brk ρ' => Q (.next ρ') S' | .ret d => Q (.ret d) S') →
    (∀ ρ S, I [] ρ S → chk S ∧ Q (.next ρ) S) → Ends (forL chk tg body its ρ) S Q
  | [], ρ, S, h, _, e => by
    unfold forL
    rw [En.bind_iff, En.chk_iff, En.pure_iff]
    exact e ρ S h
  | d :: ds, ρ, S, h, k, e => by
    have h1 := k d ds ρ S h
    unfold forL
    rw [En.bind_iff, En.chk_iff]
    refine ⟨h1.1, ?_⟩
    have h2 := En.bind_iff.mp h1.2
    rw [En.bind_iff]
    refine h2.mono fun ρ' S1 h3 => ?_
    rw [En.bind_iff]
    refine h3.mono fun f S2 h4 => ?_
    cases f with
    | next ρ2 => exact forL_ends I ds ρ2 S2 h4 k e
    | cont ρ2 => exact forL_ends I ds ρ2 S2 h4 k e
    | brk ρ2 => exact En.pure_iff.mpr h4
    | ret d => exact En.pure_iff.mpr h4
/-- the walk of a comprehension by an invariant -/
theorem compL_ends {chk : Sto → Prop} {tg : Tg} {ρ : Env} {cond : Env → M Bool} {elt : Env → M D} {Q : List D → Sto → Prop} (I : List D → List D → Sto → Prop) : ∀ (its acc : List D) (S : Sto), I its acc S →
    (∀ d ds acc S, I (d :: ds) acc S → chk S ∧ Ends (bindT tg d ρ) S fun ρ' S1 => Ends (cond ρ') S1 fun b S2 => if b = true then Ends (elt ρ') S2 fun y S3 => I ds (acc ++ [y]) S3 else I ds acc S2) →
    (∀ acc S, I [] acc S → chk S ∧ Q acc S) → Ends (compL chk tg ρ cond elt its acc) S Q
  | [], acc, S, h, _, e => by
    unfold compL
    rw [En.bind_iff, En.chk_iff, En.pure_iff]
    exact e acc S h
  | d :: ds, acc, S, h, k, e => by
    have h1 := k d ds acc S h
    unfold compL
    rw [En.bind_iff, En.chk_iff]
    refine ⟨h1.1, ?_⟩
    rw [En.bind_iff]
    refine h1.2.mono fun ρ' S1 h2 => ?_
    rw [En.bind_iff]
    refine h2.mono fun b S2 h3 => ?_
    cases b with
    | true =>
      rw [if_pos rfl] at h3 ⊢
      rw [En.bind_iff]
      exact h3.mono fun y S3 h4 => compL_ends I ds (acc ++ [y]) S3 h4 k e
    | false =>
      rw [if_neg (by decide)] at h3 ⊢
      exact compL_ends I ds acc S2 h3 k e
/-- a loop by its test: a measure that goes down -/
theorem whileL_ends {c : Env → M Bool} {body : Env → M Flow} {Q : Flow → Sto → Prop} (I : Nat → Env → Sto → Prop) : ∀ (fuel : Nat) (m : Nat) (ρ : Env) (S : Sto), m < fuel → I m ρ S →
    (∀ m ρ S, I m ρ S → Ends (c ρ) S fun b S1 => if b = true then Ends (body ρ) S1 fun f S' => match f with
      | .next ρ' => ∃ m', m' < m ∧ I m' ρ' S' | .cont ρ' => ∃ m', m' < m ∧ I m' ρ' S' | .brk ρ' => Q (.next ρ') S' | .ret d => Q (.ret d) S' else Q (.next ρ) S1) →
    Ends (whileL c body fuel ρ) S Q
  | 0, m, _, _, h, _, _ => absurd h (Nat.not_lt_zero _)
  | fuel + 1, m, ρ, S, hm, h, k => by
    unfold whileL
    rw [En.bind_iff]
    refine (k m ρ S h).mono fun b S1 h1 => ?_
    cases b with
    | true =>
      rw [if_pos rfl] at h1 ⊢
      rw [En.bind_iff]
      refine h1.mono fun f S2 h2 => ?_
      cases f with
      | next ρ2 =>
        obtain ⟨m', hm', h3⟩ := h2
        exact whileL_ends I fuel m' ρ2 S2 (by omega) h3 k
      | cont ρ2 =>
        obtain ⟨m', hm', h3⟩ := h2
        exact whileL_ends I fuel m' ρ2 S2 (by omega) h3 k
      | brk ρ2 => exact En.pure_iff.mpr h2
      | ret d => exact En.pure_iff.mpr h2
    | false =>
      rw [if_neg (by decide)] at h1 ⊢
      exact En.pure_iff.mpr h1
/-- what stands at the store's places but one stays -/
structure Keeps (n : Nat) (S S' : Sto) : Prop where
  len : S.length ≤ S'.length
  at_ : ∀ j, j ≠ n → j < S.length → S'[j]? = S[j]?
theorem Keeps.refl {n : Nat} {S : Sto} : Keeps n S S := ⟨Nat.le_refl _, fun _ _ _ => rfl⟩
theorem Keeps.trans {n : Nat} {S S1 S2 : Sto} (a : Keeps n S S1) (b : Keeps n S1 S2) : Keeps n S S2 :=
  ⟨Nat.le_trans a.len b.len, fun j h hj => (b.at_ j h (Nat.lt_of_lt_of_le hj a.len)).trans (a.at_ j h hj)⟩
theorem Keeps.set {n : Nat} {S : Sto} {o : O} : Keeps n S (S.set n o) := ⟨by simp, fun j h _ => List.getElem?_set_ne (Ne.symm h)⟩
theorem Keeps.new {n : Nat} {S : Sto} {o : O} : Keeps n S (S ++ [o]) := ⟨by simp, fun j _ h => List.getElem?_append_left h⟩
theorem Keeps.news {n : Nat} {S T : Sto} : Keeps n S (S ++ T) := ⟨by simp, fun j _ h => List.getElem?_append_left h⟩
/-- a place behind those that were changed -/
theorem Keeps.setNew {n p : Nat} {S S' : Sto} {o : O} (a : Keeps n S S') (h : S.length ≤ p) : Keeps n S (S'.set p o) :=
  ⟨by simpa using a.len, fun j h1 h2 => by rw [List.getElem?_set_ne (by omega)]; exact a.at_ j h1 h2⟩
theorem Keeps.get {n j : Nat} {S S' : Sto} {o : O} (a : Keeps n S S') (h : S[j]? = some o) (hj : j ≠ n) : S'[j]? = some o := by
  rw [a.at_ j hj (List.getElem?_eq_some_iff.mp h).1]; exact h
theorem Feed.mono {n N N' : Nat} {S : Sto} (F : Feed n N S) (h : N ≤ N') : Feed n N' S := by
  obtain ⟨a, b, c, h1, h2, h3, h4, h5, h6, h7⟩ := F.ex
  exact ⟨a, b, c, h1, h2, h3, h4, h5, h6, by omega⟩
theorem Feed.lt {n N : Nat} {S : Sto} (F : Feed n N S) : n < S.length := by
  obtain ⟨a, b, c, h1, _⟩ := F.ex
  exact (List.getElem?_eq_some_iff.mp h1).1
theorem Feed.same {n N : Nat} {S S' : Sto} (F : Feed n N S) (h : S'[n]? = S[n]?) : Feed n N S' := by
  obtain ⟨a, b, c, h1, h2⟩ := F.ex
  exact ⟨a, b, c, h.trans h1, h2⟩
theorem Feed.new {n N : Nat} {S T : Sto} (F : Feed n N S) : Feed n N (S ++ T) := F.same (List.getElem?_append_left F.lt)
theorem Feed.set {n N p : Nat} {S : Sto} {o : O} (F : Feed n N S) (h : p ≠ n) : Feed n N (S.set p o) := F.same (List.getElem?_set_ne h)
/-- what a step from a feed leaves: c stirs at most, all else as it was -/
abbrev Post (n N c : Nat) (S S' : Sto) : Prop := Feed n (N + c) S' ∧ Keeps n S S'
theorem Post.refl {n N : Nat} {S : Sto} (F : Feed n N S) : Post n N 0 S S := ⟨F, .refl⟩
theorem draw_post {P : Pg} {k i n N : Nat} {m : Int} {S : Sto} (hf : P.fns[i]? = some ⟨2, 5, irDraw⟩) (F : Feed n N S) (hN : N < 10 ^ 12) (h0 : 0 < m) (hm : m < 2 ^ 60) :
    Ends (Rv.run P (k + 1) i [.ref n, .int m]) S fun d S' => ∃ v, d = .int v ∧ 0 ≤ v ∧ v < m ∧ Feed n (N + 1) S' ∧ Keeps n S S' :=
  (draw_ends hf F hN h0 hm).mono fun d S' ⟨v, e, h1, h2, h3, o, h4⟩ => ⟨v, e, h1, h2, h3, by rw [h4]; exact .set⟩
end Rv
set_option Elab.async false
set_option linter.all false
set_option maxRecDepth 100000
namespace Rv
open PySem
theorem ins_non (t : TyK) : instD .non t = pure false := by cases t <;> rfl
theorem ins_bl_b (b : Bool) : instD (.bl b) .bool = pure true := rfl
theorem ins_bl_i (b : Bool) : instD (.bl b) .int = pure true := rfl
theorem ins_bl_s (b : Bool) : instD (.bl b) .str = pure false := rfl
theorem ins_bl_t (b : Bool) : instD (.bl b) .tuple = pure false := rfl
theorem ins_bl_l (b : Bool) : instD (.bl b) .list = pure false := rfl
theorem ins_int_i (i : Int) : instD (.int i) .int = pure true := rfl
theorem ins_int_b (i : Int) : instD (.int i) .bool = pure false := rfl
theorem ins_int_s (i : Int) : instD (.int i) .str = pure false := rfl
theorem ins_int_t (i : Int) : instD (.int i) .tuple = pure false := rfl
theorem ins_int_l (i : Int) : instD (.int i) .list = pure false := rfl
theorem ins_str_s (x : Str) : instD (.str x) .str = pure true := rfl
theorem ins_str_i (x : Str) : instD (.str x) .int = pure false := rfl
theorem ins_str_b (x : Str) : instD (.str x) .bool = pure false := rfl
theorem ins_str_t (x : Str) : instD (.str x) .tuple = pure false := rfl
theorem ins_str_l (x : Str) : instD (.str x) .list = pure false := rfl
theorem ins_tup_t (x : List D) : instD (.tup x) .tuple = pure true := rfl
theorem ins_tup_i (x : List D) : instD (.tup x) .int = pure false := rfl
theorem ins_tup_b (x : List D) : instD (.tup x) .bool = pure false := rfl
theorem ins_tup_s (x : List D) : instD (.tup x) .str = pure false := rfl
theorem ins_tup_l (x : List D) : instD (.tup x) .list = pure false := rfl
theorem ins_ref {n : Nat} {t : TyK} {S : Sto} {Q : Bool → Sto → Prop} : Ends (instD (.ref n) t) S Q ↔ ∃ o b, S[n]? = some o ∧ instO o t = some b ∧ Q b S := by
  show Ends (fun S => (ofOpt (S[n]?.bind fun o => instO o t) : M Bool) S) S Q ↔ _
  unfold Ends
  cases h : S[n]? with
  | none =>
    simp only [h, Option.bind_none]
    exact ⟨fun ⟨_, _, e, _⟩ => (by cases e), fun ⟨_, _, e, _⟩ => (by cases e)⟩
  | some o =>
    simp only [h, Option.bind_some]
    cases h2 : instO o t with
    | none => exact ⟨fun ⟨_, _, e, _⟩ => (by cases e), fun ⟨_, _, e, e2, _⟩ => (by cases e; rw [h2] at e2; cases e2)⟩
    | some b => exact ⟨fun ⟨_, _, e, q⟩ => (by cases e; exact ⟨o, b, rfl, h2, q⟩), fun ⟨_, _, e, e2, q⟩ => (by cases e; rw [h2] at e2; cases e2; exact ⟨_, _, rfl, q⟩)⟩
/-- no error -/
def noE : O → Prop
  | .exc _ _ => False
  | _ => True
theorem insO_t {o : O} (h : noE o) : instO o .tuple = some false := by cases o <;> first | rfl | exact h.elim
theorem insO_i {o : O} (h : noE o) : instO o .int = some false := by cases o <;> first | rfl | exact h.elim
theorem insO_b {o : O} (h : noE o) : instO o .bool = some false := by cases o <;> first | rfl | exact h.elim
theorem insO_s {o : O} (h : noE o) : instO o .str = some false := by cases o <;> first | rfl | exact h.elim
end Rv
set_option Elab.async false
set_option linter.all false
set_option maxRecDepth 100000
namespace Rv
open PySem
noncomputable def bod (C : Cfg) (body : Ss) : Env → M Flow := evSs C body
noncomputable def tst (C : Cfg) (c : E) : Env → M Bool := fun ρ => do let x ← ev C c ρ; truth x
noncomputable def cnd (C : Cfg) (c : Eo) : Env → M Bool := fun ρ => noX (evTest C c ρ)
noncomputable def elt (C : Cfg) (e : E) : Env → M D := fun ρ => noX (ev C e ρ)
def getV (ρ : Env) (i : Nat) : M D := match ρ[i]? with | some (some d) => pure d | _ => fail
section
variable {C : Cfg} {ρ : Env}
theorem w_pass : evS C .pass ρ = pure (.next ρ) := by simp only [evS]
theorem w_bad : evS C .bad ρ = fail := by simp only [evS]
theorem w_brk : evS C .brk ρ = pure (.brk ρ) := by simp only [evS]
theorem w_cont : evS C .cont ρ = pure (.cont ρ) := by simp only [evS]
theorem w_retN : evS C .retN ρ = pure (.ret .non) := by simp only [evS]
theorem w_ret {e : E} : evS C (.ret e) ρ = (do let d ← ev C e ρ; pure (.ret d)) := by simp only [evS]
theorem w_asg {t : Tg} {e : E} : evS C (.asg t e) ρ = (do let d ← ev C e ρ; let ρ' ← bindT t d ρ; pure (.next ρ')) := by simp only [evS]
theorem w_setIdx {o i e : E} : evS C (.setIdx o i e) ρ = (do let d ← ev C e ρ; let x ← ev C o ρ; let y ← ev C i ρ; setIdxD x y d; pure (.next ρ)) := by simp only [evS]
theorem w_expr {e : E} : evS C (.expr e) ρ = (do let _ ← ev C e ρ; pure (.next ρ)) := by simp only [evS]
theorem w_ife {e : E} {a b : Ss} : evS C (.ife e a b) ρ = (do let x ← ev C e ρ; let k ← truth x; if k then evSs C a ρ else evSs C b ρ) := by simp only [evS]
theorem w_forr {t : Tg} {it : Itx} {b : Ss} : evS C (.forr t it b) ρ = (do let s ← evIt C it ρ; forL s.ok t (bod C b) s.its ρ) := by simp only [evS]; rfl
theorem w_whil {e : E} {b : Ss} : evS C (.whil e b) ρ = whileL (tst C e) (bod C b) C.fuel ρ := by simp only [evS]; rfl
theorem w_var {i : Nat} : ev C (.var i) ρ = getV ρ i := by
  simp only [ev]
  unfold getV
  rcases ρ[i]? with _ | _ | _ <;> rfl
theorem w_lit {d : D} : ev C (.lit d) ρ = pure d := by simp only [ev]
theorem w_glob {g : Nat} : ev C (.glob g) ρ = ofOpt (C.glob g) := by simp only [ev]
theorem w_tup {es : Es} : ev C (.tup es) ρ = (do let ds ← evs C es ρ; pure (.tup ds)) := by simp only [ev]
theorem w_list {es : Es} : ev C (.list es) ρ = (do let ds ← evs C es ρ; newO (.lst ds)) := by simp only [ev]
theorem w_dict0 : ev C .dict0 ρ = newO (.dic []) := by simp only [ev]
theorem w_bin {op : BinK} {a b : E} : ev C (.bin op a b) ρ = (do let x ← ev C a ρ; let y ← ev C b ρ; binD op x y) := by simp only [ev]
theorem w_cmp {op : CmpK} {a b : E} : ev C (.cmp op a b) ρ = (do let x ← ev C a ρ; let y ← ev C b ρ; let k ← cmpD op x y; pure (.bl k)) := by simp only [ev]
theorem w_chain {op op' : CmpK} {a b c : E} : ev C (.chain op op' a b c) ρ = (do
    let x ← ev C a ρ
    let y ← ev C b ρ
    let k ← cmpD op x y
    if k then do
      let z ← ev C c ρ
      let k' ← cmpD op' y z
      pure (.bl k')
    else pure (.bl false)) := by simp only [ev]
def isNone : D → Bool
  | .non => true
  | _ => false
theorem w_isN {a : E} : ev C (.isN a) ρ = (do let x ← ev C a ρ; pure (.bl (isNone x))) := by
  simp only [ev]
  congr 1
  funext x
  cases x <;> rfl
theorem w_notN {a : E} : ev C (.notN a) ρ = (do let x ← ev C a ρ; pure (.bl (!isNone x))) := by
  simp only [ev]
  congr 1
  funext x
  cases x <;> rfl
theorem w_and {es : Es} : ev C (.and es) ρ = evAnd C es ρ := by simp only [ev]
theorem w_or {es : Es} : ev C (.or es) ρ = evOr C es ρ := by simp only [ev]
theorem w_not {a : E} : ev C (.not a) ρ = (do let x ← ev C a ρ; let k ← truth x; pure (.bl (!k))) := by simp only [ev]
theorem w_ite {c a b : E} : ev C (.ite c a b) ρ = (do let x ← ev C c ρ; let k ← truth x; if k then ev C a ρ else ev C b ρ) := by simp only [ev]
theorem w_inst {a : E} {t : TyK} : ev C (.inst a t) ρ = (do let x ← ev C a ρ; let k ← instD x t; pure (.bl k)) := by simp only [ev]
theorem w_bi {f : BiK} {es : Es} : ev C (.bi f es) ρ = (do let ds ← evs C es ρ; biD f ds) := by simp only [ev]
theorem w_call {f : Nat} {es : Es} : ev C (.call f es) ρ = (do let ds ← evs C es ρ; C.call f ds) := by simp only [ev]
theorem w_callk {f : Nat} {ix : List Nat} {es : Es} : ev C (.callk f ix es) ρ = (do let ds ← evs C es ρ; let as ← ofOpt (perm ix ds); C.call f as) := by simp only [ev]
theorem w_meth {m : MethK} {o : E} {es : Es} : ev C (.meth m o es) ρ = (do let x ← ev C o ρ; recvD m x; let ds ← evs C es ρ; methD m x ds) := by simp only [ev]
theorem w_idx {a b : E} : ev C (.idx a b) ρ = (do let x ← ev C a ρ; let y ← ev C b ρ; idxD x y) := by simp only [ev]
theorem w_slice {a : E} {lo hi : Eo} : ev C (.slice a lo hi) ρ = (do let x ← ev C a ρ; let l ← evPart C lo ρ; let h ← evPart C hi ρ; sliceD x l h) := by simp only [ev]
theorem w_rev {a : E} : ev C (.rev a) ρ = (do let x ← ev C a ρ; revD x) := by simp only [ev]
theorem w_comp {own : List Nat} {e : E} {tg : Tg} {it : Itx} {c : Eo} : ev C (.comp own e tg it c) ρ = (do
    let s ← evIt C it ρ
    need (s.its.length ≤ sizeLine)
    let ys ← compL s.ok tg (wipeE ρ own) (cnd C c) (elt C e) s.its []
    newO (.lst ys)) := by simp only [ev]; rfl
end
theorem t_bl {b : Bool} : truth (.bl b) = pure b := rfl
/-! comparisons -/
theorem c_lt {i j : Int} : cmpD .lt (.int i) (.int j) = pure (decide (i < j)) := rfl
theorem c_le {i j : Int} : cmpD .le (.int i) (.int j) = pure (decide (i ≤ j)) := rfl
theorem c_gt {i j : Int} : cmpD .gt (.int i) (.int j) = pure (decide (j < i)) := rfl
theorem c_ge {i j : Int} : cmpD .ge (.int i) (.int j) = pure (decide (j ≤ i)) := rfl
theorem c_eq {x y : D} : cmpD .eq x y = eqD x y := rfl
theorem c_ne {x y : D} : cmpD .ne x y = (do let b ← eqD x y; pure (!b)) := rfl
theorem c_in_str {x y : Str} : cmpD .isin (.str x) (.str y) = pure (strIn x y) := rfl
theorem c_nin_str {x y : Str} : cmpD .notin (.str x) (.str y) = pure (!strIn x y) := rfl
theorem c_in_tup {x : D} {ys : List D} : cmpD .isin x (.tup ys) = inD x ys := by
  cases x <;> exact M_pure_bind
  where M_pure_bind {α β : Type} {a : α} {f : α → M β} : (pure a >>= f) = f a := rfl
theorem c_nin_tup {x : D} {ys : List D} : cmpD .notin x (.tup ys) = (do let b ← inD x ys; pure (!b)) := by
  cases x <;> rfl
theorem c_in_ref {x : D} {n : Nat} : cmpD .isin x (.ref n) = (do let ys ← items n; inD x ys) := by
  cases x <;> rfl
theorem c_nin_ref {x : D} {n : Nat} : cmpD .notin x (.ref n) = (do let ys ← items n; let b ← inD x ys; pure (!b)) := by
  cases x <;> rfl
/-- what the model's own data are -/
theorem eq_at {S : Sto} {x y : D} {a b : PyData} (hx : pd S 64 x = some a) (hy : pd S 64 y = some b) (ha : SeqAt.shaped a = true) (hb : SeqAt.shaped b = true) {Q : Bool → Sto → Prop} : Ends (eqD x y) S Q ↔ Q (PyData.eqv a b) S := by
  rcases eqD_cases x y with ⟨x1, y1, rfl, rfl⟩ | h
  · cases hx
    cases hy
    have : eqD (.str x1) (.str y1) = pure (x1 == y1) := rfl
    rw [this, En.pure_iff]
    simp [PyData.eqv]
  · rw [h]
    unfold eqG
    unfold Ends
    simp only [hx, hy, ha, hb, and_self, if_true]
    exact ⟨fun ⟨_, _, e, q⟩ => (by cases e; exact q), fun q => ⟨_, _, rfl, q⟩⟩
theorem e_int {i j : Int} : eqD (.int i) (.int j) = pure (decide (i = j)) := by
  funext S
  show (match pd S 64 (.int i), pd S 64 (.int j) with | some a, some b => if SeqAt.shaped a = true ∧ SeqAt.shaped b = true then Out.ok (PyData.eqv a b) S else .bad | _, _ => .bad) = _
  simp [pd, pd0, PyData.eqv, show ∀ i, SeqAt.shaped (.int i) = true from fun _ => rfl]
  rfl
theorem e_strs {x y : Str} : eqD (.str x) (.str y) = pure (x == y) := rfl
theorem e_str {x y : Str} (hx : SeqAt.shaped (.str x) = true) (hy : SeqAt.shaped (.str y) = true) : eqD (.str x) (.str y) = pure (x == y) := rfl
/-! sums and the like -/
theorem b_add {i j : Int} : binD .add (.int i) (.int j) = pure (.int (i + j)) := rfl
theorem b_addS {x y : Str} : binD .add (.str x) (.str y) = (do need (x.length + y.length ≤ sizeLine); pure (.str (x ++ y))) := rfl
theorem b_addT {x y : List D} : binD .add (.tup x) (.tup y) = (do need (x.length + y.length ≤ sizeLine); pure (.tup (x ++ y))) := rfl
theorem b_addL {a b : Nat} : binD .add (.ref a) (.ref b) = (do
    let xs ← items a
    let ys ← items b
    need (xs.length + ys.length ≤ sizeLine)
    newO (.lst (xs ++ ys))) := rfl
theorem b_sub {i j : Int} : binD .sub (.int i) (.int j) = pure (.int (i - j)) := rfl
theorem b_mul {i j : Int} : binD .mul (.int i) (.int j) = (do need (MulOk i j); pure (.int (i * j))) := rfl
theorem b_mulL {a : Nat} {k : Int} : binD .mul (.ref a) (.int k) = (do
    let xs ← items a
    need (RepOk xs.length k)
    newO (.lst (List.replicate k.toNat xs).flatten)) := rfl
theorem b_fdiv {i j : Int} : binD .fdiv (.int i) (.int j) = (do need (0 < j ∧ j.natAbs.log2 < 9000); pure (.int (i / j))) := rfl
theorem b_mod {i j : Int} : binD .mod (.int i) (.int j) = (do need (0 < j); pure (.int (i % j))) := rfl
theorem b_pow {i j : Int} : binD .pow (.int i) (.int j) = (do need (0 ≤ j ∧ j ≤ 1000000 ∧ i.natAbs < 2 ^ 64); pure (.int (i ^ j.toNat))) := rfl
theorem q_tup {xs : List D} : seqD (.tup xs) = pure xs := rfl
theorem q_ref {n : Nat} : seqD (.ref n) = items n := rfl
theorem q_fro {ns : List Int} : seqD (.fro ns) = pure (ns.map .int) := rfl
theorem x_tup {xs : List D} {i : Int} : idxD (.tup xs) (.int i) = ofOpt (L2.atI xs i) := rfl
theorem x_ref {n : Nat} {i : Int} : idxD (.ref n) (.int i) = (do let xs ← items n; ofOpt (L2.atI xs i)) := rfl
theorem x_fro {ns : List Int} {i : Int} : idxD (.fro ns) (.int i) = (do let j ← ofOpt (L2.atI ns i); pure (.int j)) := rfl
theorem x_str {z : Str} {i : Int} : idxD (.str z) (.int i) = (do
    need (z.length ≤ sizeLine)
    let c ← ofOpt (L2.atI z.cps.toList i)
    pure (.str ⟨#[c]⟩)) := rfl
theorem l_tup {xs : List D} {lo hi : Option Int} : sliceD (.tup xs) lo hi = pure (.tup (cutL xs lo hi)) := rfl
theorem l_ref {n : Nat} {lo hi : Option Int} : sliceD (.ref n) lo hi = (do let xs ← items n; newO (.lst (cutL xs lo hi))) := rfl
theorem l_fro {ns : List Int} {lo hi : Option Int} : sliceD (.fro ns) lo hi = newO (.lst (cutL (ns.map .int) lo hi)) := rfl
theorem l_str {z : Str} {lo hi : Option Int} : sliceD (.str z) lo hi = (do need (z.length ≤ sizeLine); pure (.str (L2.cutS z lo hi))) := rfl
theorem r_ref {n : Nat} : revD (.ref n) = (do let xs ← items n; newO (.lst xs.reverse)) := rfl
theorem r_tup {xs : List D} : revD (.tup xs) = pure (.tup xs.reverse) := rfl
theorem s_ref {n : Nat} {i : Int} {x : D} : setIdxD (.ref n) (.int i) x = (do
    let xs ← items n
    let j ← ofOpt (L2.ixN xs.length i)
    setO n (.lst (xs.set j x))) := rfl
/-! functions -/
theorem f_len_str {x : Str} : biD .len [.str x] = (do need (x.length ≤ sizeLine); pure (.int x.length)) := rfl
theorem f_len_tup {xs : List D} : biD .len [.tup xs] = pure (.int xs.length) := rfl
theorem f_len_ref {n : Nat} : biD .len [.ref n] = (do let xs ← items n; pure (.int xs.length)) := rfl
theorem f_len_fro {ns : List Int} : biD .len [.fro ns] = pure (.int ns.length) := by show (pure (.int ((ns.map D.int).length)) : M D) = _; rw [List.length_map]
theorem f_repr {x : D} : biD .repr [x] = reprD x := rfl
theorem f_tuple {x : D} : biD .tuple [x] = (do let xs ← seqD x; pure (.tup xs)) := rfl
theorem f_list {x : D} : biD .list [x] = (do let xs ← seqD x; newO (.lst xs)) := rfl
theorem f_int {i : Int} : biD .int [.int i] = pure (.int i) := rfl
theorem f_intB {b : Bool} : biD .int [.bl b] = pure (.int (if b then 1 else 0)) := rfl
theorem f_str {i : Int} : biD .str [.int i] = (do need (i.natAbs.log2 < 1920); pure (.str (toString i))) := rfl
theorem f_abs {i : Int} : biD .abs [.int i] = pure (.int (if i < 0 then -i else i)) := rfl
theorem f_max {i j : Int} : biD .max [.int i, .int j] = pure (.int (if j > i then j else i)) := rfl
theorem f_min {i j : Int} : biD .min [.int i, .int j] = pure (.int (if j < i then j else i)) := rfl
theorem f_maxL {n : Nat} : biD .max [.ref n] = (do
    let xs ← items n
    let ns ← ofOpt (intsOf xs)
    match ns with
    | [] => fail
    | a :: r => pure (.int (r.foldl max a))) := rfl
theorem f_sum {n : Nat} : biD .sum [.ref n] = (do
    let xs ← items n
    let ns ← ofOpt (intsOf xs)
    pure (.int ns.sum)) := rfl
theorem f_all {n : Nat} : biD .all [.ref n] = (do
    let xs ← items n
    let bs ← ofOpt (blsOf xs)
    pure (.bl (bs.all id))) := rfl
theorem f_any {n : Nat} : biD .any [.ref n] = (do
    let xs ← items n
    let bs ← ofOpt (blsOf xs)
    pure (.bl (bs.any id))) := rfl
theorem f_gcd {i j : Int} : biD .gcd [.int i, .int j] = pure (.int ((Nat.gcd i.natAbs j.natAbs : Nat) : Int)) := rfl
/-! methods -/
theorem v_ref {m : MethK} {n : Nat} (h : m.ofStr = false) : recvD m (.ref n) = (do let _ ← items n; pure ()) := by unfold recvD; rw [h]
theorem v_append {n : Nat} : recvD .append (.ref n) = (do let _ ← items n; pure ()) := rfl
theorem v_pop {n : Nat} : recvD .pop (.ref n) = (do let _ ← items n; pure ()) := rfl
theorem v_extend {n : Nat} : recvD .extend (.ref n) = (do let _ ← items n; pure ()) := rfl
theorem v_insert {n : Nat} : recvD .insert (.ref n) = (do let _ ← items n; pure ()) := rfl
theorem v_index {n : Nat} : recvD .index (.ref n) = (do let _ ← items n; pure ()) := rfl
theorem v_upper {x : Str} : recvD .upper (.str x) = pure () := rfl
theorem v_join {x : Str} : recvD .join (.str x) = pure () := rfl
theorem v_split {x : Str} : recvD .split (.str x) = pure () := rfl
theorem m_append {n : Nat} {x : D} : methD .append (.ref n) [x] = (do
    let xs ← items n
    need (xs.length < sizeLine)
    setO n (.lst (xs ++ [x]))
    pure .non) := rfl
theorem m_pop {n : Nat} : methD .pop (.ref n) [] = (do
    let xs ← items n
    let x ← ofOpt (xs[xs.length - 1]?)
    setO n (.lst xs.dropLast)
    pure x) := rfl
theorem m_popI {n : Nat} {i : Int} : methD .pop (.ref n) [.int i] = (do
    let xs ← items n
    need (-(2 ^ 63) ≤ i ∧ i < 2 ^ 63)
    let k ← ofOpt (seqIndex? i xs.length)
    let x ← ofOpt (xs[k]?)
    setO n (.lst (xs.eraseIdx k))
    pure x) := rfl
theorem m_extend {n m : Nat} : methD .extend (.ref n) [.ref m] = (do
    let xs ← items n
    let ys ← items m
    need (xs.length + ys.length ≤ sizeLine)
    setO n (.lst (xs ++ ys))
    pure .non) := rfl
theorem m_upper {x : Str} : methD .upper (.str x) [] = (do need (x.length ≤ 5592405); pure (.str (Txt.upper x))) := rfl
/-! targets and what is walked -/
theorem g_var {i : Nat} {d : D} {ρ : Env} : bindT (.var i) d ρ = pure (ρ.set i (some d)) := rfl
theorem g_tup {is : List Nat} {ds : List D} {ρ : Env} : bindT (.tup is) (.tup ds) ρ = (do need (ds.length = is.length); pure (((is.zip ds).foldl (fun ρ p => ρ.set p.1 (some p.2)) ρ))) := rfl
theorem i_of {C : Cfg} {e : E} {ρ : Env} : evIt C (.of e) ρ = (do let d ← ev C e ρ; srcOf d) := by simp only [evIt]
theorem i_rng1 {C : Cfg} {e : E} {ρ : Env} : evIt C (.rng1 e) ρ = (do let d ← ev C e ρ; srcRng1 d) := by simp only [evIt]
theorem i_rng2 {C : Cfg} {a b : E} {ρ : Env} : evIt C (.rng2 a b) ρ = (do let x ← ev C a ρ; let y ← ev C b ρ; srcRng2 x y) := by simp only [evIt]
theorem i_enum {C : Cfg} {e : E} {ρ : Env} : evIt C (.enum e) ρ = (do let d ← ev C e ρ; srcEnum d) := by simp only [evIt]
theorem i_zip {C : Cfg} {a b : E} {ρ : Env} : evIt C (.zip a b) ρ = (do let x ← ev C a ρ; let y ← ev C b ρ; srcZip x y) := by simp only [evIt]
theorem u_rng1 {j : Int} : srcRng1 (.int j) = (do need (RngOk 0 j); pure ⟨rngL 0 j, always⟩) := rfl
theorem u_rng2 {i j : Int} : srcRng2 (.int i) (.int j) = (do need (RngOk i j); pure ⟨rngL i j, always⟩) := rfl
theorem u_tup {xs : List D} : srcOf (.tup xs) = pure ⟨xs, always⟩ := rfl
theorem u_str {x : Str} : srcOf (.str x) = pure ⟨x.cps.toList.map fun c => .str ⟨#[c]⟩, always⟩ := rfl
theorem u_ref {n : Nat} : srcOf (.ref n) = (do let xs ← items n; pure ⟨xs, stays n xs⟩) := rfl
theorem always_iff {S : Sto} : always S ↔ True := Iff.rfl
end Rv
set_option Elab.async false
set_option linter.all false
set_option maxRecDepth 100000
namespace Rv
open PySem
/-! errors: what a step does -/
section
variable {C : Cfg} {ρ : Env} {S : Sto} {α β : Type}
theorem w_isX {a : E} {j : Nat} : ev C (.isX a j) ρ = (do let x ← ev C a ρ; let k ← isXD x j; pure (.bl k)) := by simp only [ev]
theorem w_fld {a : E} {n : Str} : ev C (.fld a n) ρ = (do let x ← ev C a ρ; fldD x n) := by simp only [ev]
theorem w_mkx {a : E} {j : Nat} : ev C (.mkx j a) ρ = (do let x ← ev C a ρ; isText x; newO (.exc j [])) := by simp only [ev]
theorem w_mkk {a : E} {j : Nat} {n pre : Str} : ev C (.mkk j n pre a) ρ = (do let x ← ev C a ρ; kText pre x; newO (.exc j [(n, x)])) := by simp only [ev]
theorem w_rais {a : E} {j : Nat} : evS C (.rais j a) ρ = (do let x ← ev C a ρ; isText x; throwM ⟨j, []⟩) := by simp only [evS]
theorem w_raisk {a : E} {j : Nat} {n pre : Str} : evS C (.raisk j n pre a) ρ = (do let x ← ev C a ρ; kText pre x; throwM ⟨j, [(n, x)]⟩) := by simp only [evS]
theorem w_tryy {b : Ss} {hs : Hs} : evS C (.tryy b hs) ρ = catchM (evSs C b ρ) fun x => evHs C hs x ρ := by simp only [evS]
theorem w_hs0 {x : Exn} : evHs C .nil x ρ = throwM x := by simp only [evHs]
theorem w_hs {c : Nat} {v : Option Nat} {s : Ss} {r : Hs} {x : Exn} : evHs C (.cons c v s r) x ρ = (if subC x.cls c then do
      let o ← newO (.exc x.cls x.fs)
      let f ← noX (evSs C s (bindV v o ρ))
      pure (goneF v f)
    else evHs C r x ρ) := by simp only [evHs]
theorem isXD_at {m j : Nat} : isXD (.ref m) j S = match S[m]? with | some (.exc c _) => .ok (subC c j) S | _ => .bad := rfl
theorem fldD_at {m : Nat} {f : Str} : fldD (.ref m) f S = match S[m]? with
    | some (.exc _ fs) => match fs.lookup f with
      | some d => .ok d S
      | none => .bad
    | _ => .bad := rfl
theorem isX_ok {m j c : Nat} {fs : List (Str × D)} (h : S[m]? = some (.exc c fs)) : isXD (.ref m) j S = .ok (subC c j) S := by rw [isXD_at, h]
theorem fld_ok {m c : Nat} {fs : List (Str × D)} {f : Str} {d : D} (h : S[m]? = some (.exc c fs)) (e : fs.lookup f = some d) : fldD (.ref m) f S = .ok d S := by rw [fldD_at, h]; simp only [e]
theorem isText_ok {x : Str} : isText (.str x) S = .ok () S := rfl
theorem kText_int {pre : Str} {i : Int} (h1 : i.natAbs.log2 < 1920) (h2 : (pre ++ (toString i : Str)).length ≤ sizeLine) : kText pre (.int i) S = .ok () S := by
  show (do let y ← fmtD (.int i); need ((pre ++ y).length ≤ sizeLine) : M Unit) S = _
  have : fmtD (.int i) S = .ok (toString i) S := by
    show (do need (i.natAbs.log2 < 1920); pure (toString i) : M Str) S = _
    rw [bind_at, need_at, if_pos h1]
    rfl
  rw [bind_at, this]
  simp only
  rw [need_at, if_pos h2]
theorem throw_at {x : Exn} : (throwM x : M α) S = .ex x S := rfl
theorem catch_at {m : M α} {h : Exn → M α} : catchM m h S = match m S with | .ok a S' => .ok a S' | .ex c S' => h c S' | .bad => .bad := rfl
theorem noX_at {m : M α} : noX m S = match m S with | .ok a S' => .ok a S' | _ => .bad := rfl
theorem w_nil : evSs C .nil ρ = pure (.next ρ) := by simp only [evSs]
theorem w_ss {s : Rv.S} {ss : Ss} : evSs C (.cons s ss) ρ = (do
    let f ← evS C s ρ
    match f with
    | .next ρ' => evSs C ss ρ'
    | .ret d => pure (.ret d)
    | .brk ρ' => pure (.brk ρ')
    | .cont ρ' => pure (.cont ρ')) := by
  simp only [evSs]
  all_goals rfl
theorem w_as0 : evs C .nil ρ = pure [] := by simp only [evs]
theorem w_as {e : E} {es : Es} : evs C (.cons e es) ρ = (do let d ← ev C e ρ; let ds ← evs C es ρ; pure (d :: ds)) := by simp only [evs]
end
end Rv
set_option Elab.async false
set_option linter.all false
set_option maxRecDepth 100000
set_option maxHeartbeats 1000000
namespace K00
open PySem Rv
def flagL (c : Nat) : List D := [.bl (subC c 2), .bl (subC c 3), .bl (subC c 4), .bl (subC c 5), .bl (subC c 6), .bl (subC c 7), .bl (subC c 8), .bl (subC c 9), .bl (subC c 10), .bl (subC c 11), .bl (subC c 12), .bl (subC c 13), .bl (subC c 14), .bl (subC c 15), .bl (subC c 16), .bl (subC c 17), .bl (subC c 18), .bl (subC c 19), .bl (subC c 20), .bl (subC c 21), .bl (subC c 22), .bl (subC c 23), .bl (subC c 24), .bl (subC c 25), .bl (subC c 26)]
section
variable {C : Cfg} {ρ : Rv.Env} {S : Sto} {m c j : Nat} {fs : List (Str × D)}
theorem var_at {i : Nat} {d : D} (h : ρ[i]? = some (some d)) : ev C (.var i) ρ S = .ok d S := by
  rw [w_var]
  unfold getV
  rw [h]
  rfl
theorem isX_at (h : S[m]? = some (.exc c fs)) (hr : ρ[0]? = some (some (.ref m))) : ev C (.isX (.var 0) j) ρ S = .ok (.bl (subC c j)) S := by
  rw [w_isX, bind_at, var_at hr]
  simp only
  rw [bind_at, isX_ok h]
  rfl
theorem as_at {e : E} {es : Es} {d : D} {ds : List D} {S1 S2 : Sto} (h : ev C e ρ S = .ok d S1) (k : evs C es ρ S1 = .ok ds S2) : evs C (.cons e es) ρ S = .ok (d :: ds) S2 := by
  rw [w_as, bind_at, h]
  simp only
  rw [bind_at, k]
  rfl
theorem as0_at : evs C .nil ρ S = .ok [] S := by rw [w_as0]; rfl
theorem lst_at {es : Es} {ds : List D} {S1 : Sto} (h : evs C es ρ S = .ok ds S1) : ev C (.list es) ρ S = .ok (.ref S1.length) (S1 ++ [.lst ds]) := by
  rw [w_list, bind_at, h]
  rfl
/-- got + [..] -/
theorem add_at {i r : Nat} {es : Es} {xs ds : List D} {S1 : Sto} (hr : ρ[i]? = some (some (.ref r))) (h : evs C es ρ S = .ok ds S1) (hx : S1[r]? = some (.lst xs)) (hz : xs.length + ds.length ≤ sizeLine) :
    ev C (.bin .add (.var i) (.list es)) ρ S = .ok (.ref (S1.length + 1)) (S1 ++ [.lst ds, .lst (xs ++ ds)]) := by
  have hl : r < S1.length := (List.getElem?_eq_some_iff.mp hx).1
  rw [w_bin, bind_at, var_at hr]
  simp only
  rw [bind_at, lst_at h]
  simp only
  rw [b_addL, bind_at, items_at, List.getElem?_append_left hl, hx]
  simp only
  rw [bind_at, items_at, List.getElem?_append_right (Nat.le_refl _), Nat.sub_self]
  simp only [List.getElem?_cons_zero]
  rw [bind_at, need_at, if_pos hz]
  simp only
  rw [newO_at, List.length_append, List.append_assoc]
  rfl
theorem asg_at {i : Nat} {e : E} {d : D} {S1 : Sto} (h : ev C e ρ S = .ok d S1) : evS C (.asg (.var i) e) ρ S = .ok (.next (ρ.set i (some d))) S1 := by
  rw [w_asg, bind_at, h]
  rfl
theorem ret_at {e : E} {d : D} {S1 : Sto} (h : ev C e ρ S = .ok d S1) : evS C (.ret e) ρ S = .ok (.ret d) S1 := by
  rw [w_ret, bind_at, h]
  rfl
theorem nx_at {s : Rv.S} {ss : Ss} {ρ1 : Rv.Env} {f : Rv.Flow} {S1 S2 : Sto} (h : evS C s ρ S = .ok (.next ρ1) S1) (k : evSs C ss ρ1 S1 = .ok f S2) : evSs C (.cons s ss) ρ S = .ok f S2 := by
  rw [w_ss, bind_at, h]
  exact k
theorem rt_at {s : Rv.S} {ss : Ss} {d : D} {S1 : Sto} (h : evS C s ρ S = .ok (.ret d) S1) : evSs C (.cons s ss) ρ S = .ok (.ret d) S1 := by
  rw [w_ss, bind_at, h]
  rfl
end
abbrev P0 (fuel : Nat) : Pg := irs T (gs.map (·.2)) fuel
theorem run_ret {P : Pg} {k i ps sl : Nat} {ir : Ss} {ds : List D} {d : D} {S S1 : Sto} (h : P.fns[i]? = some ⟨ps, sl, ir⟩) (hl : ds.length = ps) (hb : evSs ⟨Rv.run P k, fun g => P.globs[g]?, P.fuel⟩ ir (startE sl ds) S = .ok (.ret d) S1) : Rv.run P (k + 1) i ds S = .ok d S1 := by
  rw [Rv.run]
  simp only [h, bind_at, need_at, if_pos hl, hb]
  rfl
theorem small {n : Nat} (h : n ≤ 1000) : n ≤ sizeLine := Nat.le_trans h (by decide)
def Ext (S S' : Sto) : Prop := ∃ U, S' = S ++ U
theorem Ext.refl (S : Sto) : Ext S S := ⟨[], by simp⟩
theorem Ext.trans {S S1 S2 : Sto} (a : Ext S S1) (b : Ext S1 S2) : Ext S S2 := by
  obtain ⟨U, rfl⟩ := a
  obtain ⟨V, rfl⟩ := b
  exact ⟨U ++ V, by rw [List.append_assoc]⟩
theorem Ext.get {S S1 : Sto} {m : Nat} {o : O} (a : Ext S S1) (h : S[m]? = some o) : S1[m]? = some o := by
  obtain ⟨U, rfl⟩ := a
  rw [List.getElem?_append_left (List.getElem?_eq_some_iff.mp h).1]
  exact h
theorem more_at {S U : Sto} {m : Nat} {o : O} (h : S[m]? = some o) : (S ++ U)[m]? = some o := by
  rw [List.getElem?_append_left (List.getElem?_eq_some_iff.mp h).1]
  exact h
theorem one_at {S : Sto} {a : O} : (S ++ [a])[S.length]? = some a := by simp
theorem two_at {S : Sto} {a b : O} : (S ++ [a, b])[S.length + 1]? = some b := by
  rw [List.getElem?_append_right (Nat.le_add_right _ _), Nat.add_sub_cancel_left]
  rfl
abbrev xs5 (a b d e f : Nat) : Es := .cons (.isX (.var 0) a) (.cons (.isX (.var 0) b) (.cons (.isX (.var 0) d) (.cons (.isX (.var 0) e) (.cons (.isX (.var 0) f) .nil))))
abbrev bs5 (c a b d e f : Nat) : List D := [.bl (subC c a), .bl (subC c b), .bl (subC c d), .bl (subC c e), .bl (subC c f)]
theorem five {C : Cfg} {ρ : Rv.Env} {T : Sto} {m c : Nat} {fs : List (Str × D)} (h : T[m]? = some (.exc c fs)) (hr : ρ[0]? = some (some (.ref m))) (a b d e f : Nat) : evs C (xs5 a b d e f) ρ T = .ok (bs5 c a b d e f) T :=
  as_at (isX_at h hr) (as_at (isX_at h hr) (as_at (isX_at h hr) (as_at (isX_at h hr) (as_at (isX_at h hr) as0_at))))
/-- the flags of an error -/
theorem flags_at {fuel k m c : Nat} {fs : List (Str × D)} {S : Sto} (h : S[m]? = some (.exc c fs)) : ∃ r S', run (P0 fuel) (k + 1) 0 [.ref m] S = .ok (.ref r) S' ∧ Ext S S' ∧ S'[r]? = some (.lst (flagL c)) := by
  have h1 := more_at (U := [.lst (bs5 c 2 3 4 5 6)]) h
  have e1 := one_at (S := S) (a := .lst (bs5 c 2 3 4 5 6))
  generalize hS1 : S ++ [.lst (bs5 c 2 3 4 5 6)] = S1 at h1 e1
  have h2 := more_at (U := [.lst (bs5 c 7 8 9 10 11), .lst (bs5 c 2 3 4 5 6 ++ bs5 c 7 8 9 10 11)]) h1
  have e2 := two_at (S := S1) (a := .lst (bs5 c 7 8 9 10 11)) (b := .lst (bs5 c 2 3 4 5 6 ++ bs5 c 7 8 9 10 11))
  generalize hS2 : S1 ++ [.lst (bs5 c 7 8 9 10 11), .lst (bs5 c 2 3 4 5 6 ++ bs5 c 7 8 9 10 11)] = S2 at h2 e2
  have h3 := more_at (U := [.lst (bs5 c 12 13 14 15 16), .lst (bs5 c 2 3 4 5 6 ++ bs5 c 7 8 9 10 11 ++ bs5 c 12 13 14 15 16)]) h2
  have e3 := two_at (S := S2) (a := .lst (bs5 c 12 13 14 15 16)) (b := .lst (bs5 c 2 3 4 5 6 ++ bs5 c 7 8 9 10 11 ++ bs5 c 12 13 14 15 16))
  generalize hS3 : S2 ++ [.lst (bs5 c 12 13 14 15 16), .lst (bs5 c 2 3 4 5 6 ++ bs5 c 7 8 9 10 11 ++ bs5 c 12 13 14 15 16)] = S3 at h3 e3
  have h4 := more_at (U := [.lst (bs5 c 17 18 19 20 21), .lst (bs5 c 2 3 4 5 6 ++ bs5 c 7 8 9 10 11 ++ bs5 c 12 13 14 15 16 ++ bs5 c 17 18 19 20 21)]) h3
  have e4 := two_at (S := S3) (a := .lst (bs5 c 17 18 19 20 21)) (b := .lst (bs5 c 2 3 4 5 6 ++ bs5 c 7 8 9 10 11 ++ bs5 c 12 13 14 15 16 ++ bs5 c 17 18 19 20 21))
  generalize hS4 : S3 ++ [.lst (bs5 c 17 18 19 20 21), .lst (bs5 c 2 3 4 5 6 ++ bs5 c 7 8 9 10 11 ++ bs5 c 12 13 14 15 16 ++ bs5 c 17 18 19 20 21)] = S4 at h4 e4
  have e5 := two_at (S := S4) (a := .lst (bs5 c 22 23 24 25 26)) (b := .lst (bs5 c 2 3 4 5 6 ++ bs5 c 7 8 9 10 11 ++ bs5 c 12 13 14 15 16 ++ bs5 c 17 18 19 20 21 ++ bs5 c 22 23 24 25 26))
  have z : ∀ {n : Nat}, n ≤ 1000 → n ≤ sizeLine := small
  have body : ∀ C : Cfg, evSs C ir0 (startE 2 [.ref m]) S = .ok (.ret (.ref (S4.length + 1))) (S4 ++ [.lst (bs5 c 22 23 24 25 26), .lst (bs5 c 2 3 4 5 6 ++ bs5 c 7 8 9 10 11 ++ bs5 c 12 13 14 15 16 ++ bs5 c 17 18 19 20 21 ++ bs5 c 22 23 24 25 26)]) := fun C => by
    refine nx_at (S1 := S1) (asg_at (S1 := S1) (by rw [← hS1]; exact lst_at (five h rfl 2 3 4 5 6))) ?_
    refine nx_at (S1 := S2) (asg_at (S1 := S2) (by rw [← hS2]; exact add_at rfl (five h1 rfl 7 8 9 10 11) e1 (z (by simp [bs5])))) ?_
    refine nx_at (S1 := S3) (asg_at (S1 := S3) (by rw [← hS3]; exact add_at rfl (five h2 rfl 12 13 14 15 16) e2 (z (by simp [bs5])))) ?_
    refine nx_at (S1 := S4) (asg_at (S1 := S4) (by rw [← hS4]; exact add_at rfl (five h3 rfl 17 18 19 20 21) e3 (z (by simp [bs5])))) ?_
    exact rt_at (ret_at (add_at rfl (five h4 rfl 22 23 24 25 26) e4 (z (by simp [bs5]))))
  exact ⟨_, _, run_ret (ps := 1) (sl := 2) (ir := ir0) rfl rfl (body _), (((Ext.trans ⟨_, hS1.symm⟩ ⟨_, hS2.symm⟩).trans ⟨_, hS3.symm⟩).trans ⟨_, hS4.symm⟩).trans ⟨_, rfl⟩, e5⟩

/-! the errors made -/
abbrev txT : Str := strS "the text of the sign goes wrong at word "
structure Ok (i : Int) : Prop where
  lo : i.natAbs.log2 < 1920
  sz : (txT ++ (toString i : Str)).length ≤ sizeLine
abbrev eo (i : Int) (c : Nat) : O := .exc c (if c = 5 then [(strS "index", .int i)] else [])
abbrev eE (c : Nat) : E := if c = 5 then .mkk 5 (strS "index") (strS "the text of the sign goes wrong at word ") (.var 1) else .mkx c (.var 0)
def esM : List Nat → Es
  | [] => .nil
  | c :: cs => .cons (eE c) (esM cs)
def MadeL (i : Int) (S : Sto) : List D → List Nat → Prop
  | [], [] => True
  | .ref n :: xs, c :: cs => S[n]? = some (eo i c) ∧ MadeL i S xs cs
  | _, _ => False
theorem MadeL.ext {i : Int} {S S' : Sto} (e : Ext S S') : ∀ {xs : List D} {cs : List Nat}, MadeL i S xs cs → MadeL i S' xs cs
  | [], [], _ => trivial
  | .ref n :: xs, c :: cs, h => ⟨e.get h.1, MadeL.ext e (xs := xs) (cs := cs) h.2⟩
  | [], _ :: _, h => h.elim
  | .non :: _, _, h => by cases ‹List Nat› <;> exact h.elim
  | .bl _ :: _, _, h => by cases ‹List Nat› <;> exact h.elim
  | .int _ :: _, _, h => by cases ‹List Nat› <;> exact h.elim
  | .str _ :: _, _, h => by cases ‹List Nat› <;> exact h.elim
  | .tup _ :: _, _, h => by cases ‹List Nat› <;> exact h.elim
  | .fro _ :: _, _, h => by cases ‹List Nat› <;> exact h.elim
  | .ref _ :: _, [], h => h.elim
theorem MadeL.append {i : Int} {S : Sto} : ∀ {xs ys : List D} {cs ds : List Nat}, MadeL i S xs cs → MadeL i S ys ds → MadeL i S (xs ++ ys) (cs ++ ds)
  | [], _, [], _, _, k => k
  | .ref n :: xs, ys, c :: cs, ds, h, k => ⟨h.1, MadeL.append (xs := xs) (cs := cs) h.2 k⟩
  | [], _, _ :: _, _, h, _ => h.elim
  | .non :: _, _, _, _, h, _ => by cases ‹List Nat› <;> exact h.elim
  | .bl _ :: _, _, _, _, h, _ => by cases ‹List Nat› <;> exact h.elim
  | .int _ :: _, _, _, _, h, _ => by cases ‹List Nat› <;> exact h.elim
  | .str _ :: _, _, _, _, h, _ => by cases ‹List Nat› <;> exact h.elim
  | .tup _ :: _, _, _, _, h, _ => by cases ‹List Nat› <;> exact h.elim
  | .fro _ :: _, _, _, _, h, _ => by cases ‹List Nat› <;> exact h.elim
  | .ref _ :: _, _, [], _, h, _ => h.elim

theorem MadeL.len {i : Int} {S : Sto} : ∀ {xs : List D} {cs : List Nat}, MadeL i S xs cs → xs.length = cs.length
  | [], [], _ => rfl
  | .ref n :: xs, c :: cs, h => by
    have := MadeL.len (xs := xs) (cs := cs) h.2
    simp [this]
  | [], _ :: _, h => h.elim
  | .non :: _, _, h => by cases ‹List Nat› <;> exact h.elim
  | .bl _ :: _, _, h => by cases ‹List Nat› <;> exact h.elim
  | .int _ :: _, _, h => by cases ‹List Nat› <;> exact h.elim
  | .str _ :: _, _, h => by cases ‹List Nat› <;> exact h.elim
  | .tup _ :: _, _, h => by cases ‹List Nat› <;> exact h.elim
  | .fro _ :: _, _, h => by cases ‹List Nat› <;> exact h.elim
  | .ref _ :: _, [], h => h.elim
section
variable {C : Cfg} {ρ : Rv.Env} {S : Sto} {i : Int} {t : Str}
theorem mkx_at {j n : Nat} (h : ρ[n]? = some (some (.str t))) : ev C (.mkx j (.var n)) ρ S = .ok (.ref S.length) (S ++ [.exc j []]) := by
  rw [w_mkx, bind_at, var_at h]
  simp only
  rw [bind_at, isText_ok]
  rfl
theorem mkk_at {j n : Nat} {f pre : Str} (h : ρ[n]? = some (some (.int i))) (h1 : i.natAbs.log2 < 1920) (h2 : (pre ++ (toString i : Str)).length ≤ sizeLine) : ev C (.mkk j f pre (.var n)) ρ S = .ok (.ref S.length) (S ++ [.exc j [(f, .int i)]]) := by
  rw [w_mkk, bind_at, var_at h]
  simp only
  rw [bind_at, kText_int h1 h2]
  rfl
theorem eE_at {c : Nat} (o : Ok i) (h0 : ρ[0]? = some (some (.str t))) (h1 : ρ[1]? = some (some (.int i))) : ev C (eE c) ρ S = .ok (.ref S.length) (S ++ [eo i c]) := by
  by_cases h : c = 5
  · subst h
    exact mkk_at h1 o.lo o.sz
  · unfold eE eo
    rw [if_neg h, if_neg h]
    exact mkx_at h0
theorem mks_at (o : Ok i) (h0 : ρ[0]? = some (some (.str t))) (h1 : ρ[1]? = some (some (.int i))) : ∀ (cs : List Nat) (S : Sto), ∃ xs S1, evs C (esM cs) ρ S = .ok xs S1 ∧ Ext S S1 ∧ MadeL i S1 xs cs
  | [], S => ⟨[], S, as0_at, .refl S, trivial⟩
  | c :: cs, S => by
    obtain ⟨xs, S1, e, x, m⟩ := mks_at o h0 h1 cs (S ++ [eo i c])
    have x0 : Ext S (S ++ [eo i c]) := ⟨_, rfl⟩
    exact ⟨.ref S.length :: xs, S1, as_at (eE_at o h0 h1) e, x0.trans x, x.get one_at, m⟩
end
theorem made_at {fuel k : Nat} {i : Int} {t : Str} {S : Sto} (o : Ok i) : ∃ r S' xs, run (P0 fuel) (k + 1) 1 [.str t, .int i] S = .ok (.ref r) S' ∧ Ext S S' ∧ S'[r]? = some (.lst xs) ∧ MadeL i S' xs [2, 3, 4, 5, 6, 7, 8, 9, 10, 11, 12, 13, 14, 15, 16, 17, 18, 19, 20, 21, 22, 23, 24, 25, 26] := by
  have z : ∀ {n : Nat}, n ≤ 1000 → n ≤ sizeLine := small
  -- one row more
  have row : ∀ {C : Cfg} {ρ : Rv.Env} {T : Sto} {r : Nat} {xs : List D} {cs : List Nat} (ds : List Nat), ρ[0]? = some (some (.str t)) → ρ[1]? = some (some (.int i)) → ρ[2]? = some (some (.ref r)) → T[r]? = some (.lst xs) → MadeL i T xs cs → cs.length + ds.length ≤ 1000 →
      ∃ r' T' ys, ev C (.bin .add (.var 2) (.list (esM ds))) ρ T = .ok (.ref r') T' ∧ Ext T T' ∧ T'[r']? = some (.lst ys) ∧ MadeL i T' ys (cs ++ ds) := fun {C ρ T r xs cs} ds h0 h1 h2 hx m hl => by
    obtain ⟨ys, T1, e, x, my⟩ := mks_at (C := C) o h0 h1 ds T
    have x2 : Ext T1 (T1 ++ [.lst ys, .lst (xs ++ ys)]) := ⟨_, rfl⟩
    exact ⟨_, _, xs ++ ys, add_at h2 e (x.get hx) (z (by rw [m.len, my.len]; exact hl)), x.trans x2, two_at, ((m.ext x).ext x2).append (my.ext x2)⟩
  have e0 : (P0 fuel).fns[1]? = some ⟨2, 3, ir1⟩ := rfl
  obtain ⟨xs1, S1, e1, x1, m1⟩ := mks_at (C := ⟨run (P0 fuel) k, fun g => (P0 fuel).globs[g]?, (P0 fuel).fuel⟩) (ρ := startE 3 [.str t, .int i]) o rfl rfl [2, 3, 4, 5, 6, 7, 8] S
  have y1 : Ext S1 (S1 ++ [.lst xs1]) := ⟨_, rfl⟩
  obtain ⟨r2, S2, xs2, e2, x2, h2, m2⟩ := row (C := ⟨run (P0 fuel) k, fun g => (P0 fuel).globs[g]?, (P0 fuel).fuel⟩) (ρ := (startE 3 [.str t, .int i]).set 2 (some (.ref S1.length))) [9, 10, 11, 12, 13, 14] rfl rfl rfl one_at (m1.ext y1) (by decide)
  obtain ⟨r3, S3, xs3, e3, x3, h3, m3⟩ := row (C := ⟨run (P0 fuel) k, fun g => (P0 fuel).globs[g]?, (P0 fuel).fuel⟩) (ρ := (startE 3 [.str t, .int i]).set 2 (some (.ref r2))) [15, 16, 17, 18, 19, 20] rfl rfl rfl h2 m2 (by decide)
  obtain ⟨r4, S4, xs4, e4, x4, h4, m4⟩ := row (C := ⟨run (P0 fuel) k, fun g => (P0 fuel).globs[g]?, (P0 fuel).fuel⟩) (ρ := (startE 3 [.str t, .int i]).set 2 (some (.ref r3))) [21, 22, 23, 24, 25, 26] rfl rfl rfl h3 m3 (by decide)
  exact ⟨r4, S4, xs4, run_ret (ps := 2) (sl := 3) e0 rfl (nx_at (asg_at (lst_at e1)) (nx_at (asg_at e2) (nx_at (asg_at e3) (rt_at (ret_at e4))))), (((x1.trans y1).trans x2).trans x3).trans x4, h4, m4⟩

section
variable {C : Cfg} {ρ : Rv.Env} {S : Sto} {i : Int} {t : Str}
theorem cmpI_at {a b : E} {x y : Int} (h : ev C a ρ S = .ok (.int x) S) (k : ev C b ρ S = .ok (.int y) S) : ev C (.cmp .eq a b) ρ S = .ok (.bl (decide (x = y))) S := by
  rw [w_cmp, bind_at, h]
  simp only
  rw [bind_at, k]
  simp only
  rw [c_eq, e_int]
  rfl
theorem lit_at {d : D} : ev C (.lit d) ρ S = .ok d S := by rw [w_lit]; rfl
/-- an if whose test is false *)-/
theorem skip_at {c : E} {a : Ss} (h : ev C c ρ S = .ok (.bl false) S) : evS C (.ife c a .nil) ρ S = .ok (.next ρ) S := by
  rw [w_ife, bind_at, h]
  simp only
  rw [t_bl, bind_at, pure_at]
  simp only
  rw [if_neg Bool.false_ne_true, w_nil]
  rfl
theorem hit_at {c : E} {a : Ss} {x : Exn} (h : ev C c ρ S = .ok (.bl true) S) (k : evSs C a ρ S = .ex x S) : evS C (.ife c a .nil) ρ S = .ex x S := by
  rw [w_ife, bind_at, h]
  simp only
  rw [t_bl, bind_at, pure_at]
  simp only
  rw [if_pos trivial, k]
theorem ex_at {s : Rv.S} {ss : Ss} {x : Exn} {S1 : Sto} (h : evS C s ρ S = .ex x S1) : evSs C (.cons s ss) ρ S = .ex x S1 := by
  rw [w_ss, bind_at, h]
theorem nxe_at {s : Rv.S} {ss : Ss} {ρ1 : Rv.Env} {x : Exn} {S1 S2 : Sto} (h : evS C s ρ S = .ok (.next ρ1) S1) (k : evSs C ss ρ1 S1 = .ex x S2) : evSs C (.cons s ss) ρ S = .ex x S2 := by
  rw [w_ss, bind_at, h]
  exact k
theorem rais_at {j n : Nat} (h : ρ[n]? = some (some (.str t))) : evS C (.rais j (.var n)) ρ S = .ex ⟨j, []⟩ S := by
  rw [w_rais, bind_at, var_at h]
  simp only
  rw [bind_at, isText_ok]
  rfl
theorem raisk_at {j n : Nat} {f pre : Str} (h : ρ[n]? = some (some (.int i))) (h1 : i.natAbs.log2 < 1920) (h2 : (pre ++ (toString i : Str)).length ≤ sizeLine) : evS C (.raisk j f pre (.var n)) ρ S = .ex ⟨j, [(f, .int i)]⟩ S := by
  rw [w_raisk, bind_at, var_at h]
  simp only
  rw [bind_at, kText_int h1 h2]
  rfl
theorem try_at {b : Ss} {hs : Hs} {x : Exn} {f : Rv.Flow} {S1 S2 : Sto} (h : evSs C b ρ S = .ex x S1) (k : evHs C hs x ρ S1 = .ok f S2) : evS C (.tryy b hs) ρ S = .ok f S2 := by
  rw [w_tryy, catch_at, h]
  exact k
theorem miss_at {j : Nat} {v : Option Nat} {s : Ss} {r : Hs} {x : Exn} {f : Rv.Flow} {S2 : Sto} (h : subC x.cls j = false) (k : evHs C r x ρ S = .ok f S2) : evHs C (.cons j v s r) x ρ S = .ok f S2 := by
  rw [w_hs, h, if_neg Bool.false_ne_true]
  exact k
theorem take_at {j : Nat} {v : Option Nat} {s : Ss} {r : Hs} {x : Exn} {d : D} {S2 : Sto} (h : subC x.cls j = true) (k : evSs C s (bindV v (.ref S.length) ρ) (S ++ [.exc x.cls x.fs]) = .ok (.ret d) S2) : evHs C (.cons j v s r) x ρ S = .ok (.ret d) S2 := by
  rw [w_hs, h, if_pos rfl, bind_at, newO_at]
  simp only
  rw [bind_at, noX_at, k]
  rfl
theorem fld_at {n m c : Nat} {f : Str} {fs : List (Str × D)} {d : D} (h : ρ[n]? = some (some (.ref m))) (k : S[m]? = some (.exc c fs)) (e : fs.lookup f = some d) : ev C (.fld (.var n) f) ρ S = .ok d S := by
  rw [w_fld, bind_at, var_at h]
  simp only
  exact fld_ok k e
theorem isXv_at {n m c j : Nat} {fs : List (Str × D)} (h : ρ[n]? = some (some (.ref m))) (k : S[m]? = some (.exc c fs)) : ev C (.isX (.var n) j) ρ S = .ok (.bl (subC c j)) S := by
  rw [w_isX, bind_at, var_at h]
  simp only
  rw [bind_at, isX_ok k]
  rfl
theorem and_at {a b : E} {y : Bool} {S1 : Sto} (h : ev C a ρ S = .ok (.bl true) S) (k : ev C b ρ S = .ok (.bl y) S1) : ev C (.and (.cons a (.cons b .nil))) ρ S = .ok (.bl y) S1 := by
  rw [w_and]
  simp only [evAnd]
  rw [bind_at, h]
  simp only
  rw [t_bl, bind_at, pure_at]
  simp only
  rw [if_pos trivial]
  exact k
end
theorem caught_at {fuel k : Nat} {i : Int} {t : Str} {S : Sto} (o : Ok i) {x : Int} (hx : x = 0 ∨ x = 3 ∨ x = 13 ∨ x = 22 ∨ x = 24) : ∃ S', run (P0 fuel) (k + 1) 2 [.int x, .str t, .int i] S = .ok (.bl true) S' ∧ Ext S S' := by
  have e0 : (P0 fuel).fns[2]? = some ⟨3, 4, ir2⟩ := rfl
  have t0 : ∀ {C : Cfg} {ρ : Rv.Env} {S : Sto} {a : Int} (n : Int), ρ[0]? = some (some (.int a)) → ev C (.cmp .eq (.var 0) (.lit (.int n))) ρ S = .ok (.bl (decide (a = n))) S := fun n h => cmpI_at (var_at h) lit_at
  have tt : ∀ {C : Cfg} {ρ : Rv.Env} {S : Sto} (n : Int), ρ[0]? = some (some (.int n)) → ev C (.cmp .eq (.var 0) (.lit (.int n))) ρ S = .ok (.bl true) S := fun n h => (t0 n h).trans (by rw [decide_eq_true rfl])
  have ff : ∀ {C : Cfg} {ρ : Rv.Env} {S : Sto} {a : Int} (n : Int), ρ[0]? = some (some (.int a)) → a ≠ n → ev C (.cmp .eq (.var 0) (.lit (.int n))) ρ S = .ok (.bl false) S := fun n h e => (t0 n h).trans (by rw [decide_eq_false e])
  rcases hx with rfl | rfl | rfl | rfl | rfl
  · exact ⟨_, run_ret (ps := 3) (sl := 4) e0 rfl (rt_at (try_at (x := ⟨2, []⟩) (S1 := S) (ex_at (hit_at (tt 0 rfl) (ex_at (rais_at rfl)))) (take_at rfl (rt_at (ret_at (tt 0 rfl)))))), ⟨_, rfl⟩⟩
  · exact ⟨_, run_ret (ps := 3) (sl := 4) e0 rfl (rt_at (try_at (x := ⟨5, [(strS "index", .int i)]⟩) (S1 := S) (nxe_at (skip_at (ff (a := 3) 0 rfl (by decide))) (ex_at (hit_at (tt 3 rfl) (ex_at (raisk_at rfl o.lo o.sz))))) (miss_at rfl (take_at rfl (rt_at (ret_at (and_at (tt 3 rfl) ((cmpI_at (x := i) (y := i) (fld_at rfl one_at rfl) (var_at rfl)).trans (by rw [decide_eq_true rfl]))))))))), ⟨_, rfl⟩⟩
  · exact ⟨_, run_ret (ps := 3) (sl := 4) e0 rfl (rt_at (try_at (x := ⟨15, []⟩) (S1 := S) (nxe_at (skip_at (ff (a := 13) 0 rfl (by decide))) (nxe_at (skip_at (ff (a := 13) 3 rfl (by decide))) (ex_at (hit_at (tt 13 rfl) (ex_at (rais_at rfl)))))) (miss_at rfl (miss_at rfl (take_at rfl (rt_at (ret_at (tt 13 rfl)))))))), ⟨_, rfl⟩⟩
  · exact ⟨_, run_ret (ps := 3) (sl := 4) e0 rfl (rt_at (try_at (x := ⟨24, []⟩) (S1 := S) (nxe_at (skip_at (ff (a := 22) 0 rfl (by decide))) (nxe_at (skip_at (ff (a := 22) 3 rfl (by decide))) (nxe_at (skip_at (ff (a := 22) 13 rfl (by decide))) (ex_at (hit_at (tt 22 rfl) (ex_at (rais_at rfl))))))) (miss_at rfl (miss_at rfl (miss_at rfl (take_at rfl (rt_at (ret_at (tt 22 rfl))))))))), ⟨_, rfl⟩⟩
  · exact ⟨_, run_ret (ps := 3) (sl := 4) e0 rfl (rt_at (try_at (x := ⟨26, []⟩) (S1 := S) (nxe_at (skip_at (ff (a := 24) 0 rfl (by decide))) (nxe_at (skip_at (ff (a := 24) 3 rfl (by decide))) (nxe_at (skip_at (ff (a := 24) 13 rfl (by decide))) (nxe_at (skip_at (ff (a := 24) 22 rfl (by decide))) (ex_at (rais_at rfl)))))) (miss_at rfl (miss_at rfl (miss_at rfl (miss_at rfl (take_at rfl (rt_at (ret_at (and_at (tt 24 rfl) ((isXv_at (c := 26) (fs := []) rfl one_at).trans rfl))))))))))), ⟨_, rfl⟩⟩

/-! lists of truths -/
theorem mapO_bls {S : Sto} {n : Nat} : ∀ l : List Bool, mapO (pd S n) (l.map D.bl) = some (l.map PyData.bool)
  | [] => rfl
  | a :: r => by
    simp only [List.map_cons, mapO, mapO_bls r]
    cases n <;> rfl
theorem shaped_bls (l : List Bool) : SeqAt.shaped (.list (l.map PyData.bool)) = true := by
  unfold SeqAt.shaped
  have h1 : PyData.canLayAll0 (l.map PyData.bool) = true := by
    induction l with
    | nil => rfl
    | cons a r ih =>
      simp only [List.map_cons, PyData.canLayAll0, PyData.canLay0, Bool.and_eq_true]
      exact ⟨trivial, ih⟩
  have h2 : PyData.depthAll (l.map PyData.bool) = 0 := by
    clear h1
    induction l with
    | nil => rfl
    | cons a r ih =>
      simp only [List.map_cons, PyData.depthAll, PyData.depth, ih]
      rfl
  simp [PyData.canLay0, PyData.depth, h1, h2]
theorem pd_bls {S : Sto} {r : Nat} {l : List Bool} (h : S[r]? = some (.lst (l.map D.bl))) : pd S 64 (.ref r) = some (.list (l.map PyData.bool)) := by
  show (match S[r]? with | some (.lst xs) => (mapO (pd S 63) xs).map PyData.list | some (.dic []) => some (.dict []) | _ => none) = _
  rw [h]
  simp only [mapO_bls]
  rfl
theorem eqv_bls : ∀ l : List Bool, PyData.eqvAll (l.map PyData.bool) (l.map PyData.bool) = true
  | [] => rfl
  | a :: r => by
    simp only [List.map_cons, PyData.eqvAll, eqv_bls r, Bool.and_true]
    cases a <;> rfl
theorem eqD_bls {S : Sto} {r1 r2 : Nat} {l : List Bool} (h1 : S[r1]? = some (.lst (l.map D.bl))) (h2 : S[r2]? = some (.lst (l.map D.bl))) : eqD (.ref r1) (.ref r2) S = .ok true S := by
  show (match pd S 64 (.ref r1), pd S 64 (.ref r2) with | some a, some b => if SeqAt.shaped a = true ∧ SeqAt.shaped b = true then Out.ok (PyData.eqv a b) S else .bad | _, _ => .bad) = _
  rw [pd_bls h1, pd_bls h2]
  simp only [shaped_bls, and_self, if_true]
  have : PyData.eqv (.list (l.map PyData.bool)) (.list (l.map PyData.bool)) = true := by
    simp only [PyData.eqv]
    exact eqv_bls l
  rw [this]
theorem inD_bls {S : Sto} {b : Bool} {l : List Bool} : inD (.bl b) (l.map D.bl) S = .ok (l.any fun z => z == b) S := by
  show (match pd S 64 (.bl b), pds S 63 (l.map D.bl) with | some a, some bs => if SeqAt.shaped a = true ∧ SeqAt.shaped (.list bs) = true then Out.ok (bs.any fun z => PyData.eqv z a) S else .bad | _, _ => .bad) = _
  have e1 : pd S 64 (.bl b) = some (.bool b) := rfl
  have e2 : pds S 63 (l.map D.bl) = some (l.map PyData.bool) := mapO_bls l
  rw [e1, e2]
  have e3 : SeqAt.shaped (.bool b) = true := rfl
  simp only [e3, shaped_bls, and_self, if_true]
  have e4 : (l.map PyData.bool).any (fun z => PyData.eqv z (.bool b)) = l.any fun z => z == b := by
    rw [List.any_map]
    first
      | rfl
      | (congr 1
         funext z
         cases z <;> cases b <;> rfl)
  rw [e4]
/-- the flags as truths -/
def flagB (c : Nat) : List Bool := (List.range 25).map fun k => subC c (k + 2)
theorem flag_eq (c : Nat) : flagL c = (flagB c).map D.bl := rfl
theorem flag_own {j : Nat} (h : j < 25) : flagB (j + 2) = (List.range 25).map fun k => decide ((j : Int) = 0 + (k : Nat)) := by
  unfold flagB
  refine List.map_congr_left fun k hk => ?_
  unfold subC
  have e2 : (k + 2 == 0) = false := by simp
  have e3 : (k + 2 == 1) = false := by simp
  rw [e2, e3, Bool.or_false, Bool.false_and, Bool.or_false]
  by_cases e : j = k
  · subst e
    simp
  · have h1 : (j + 2 == k + 2) = false := by simpa using e
    rw [h1]
    symm
    rw [decide_eq_false_iff_not]
    omega
section
variable {C : Cfg} {ρ : Rv.Env} {S : Sto}
theorem ne_at {a b : E} {x y : D} {S1 S2 : Sto} (h : ev C a ρ S = .ok x S1) (k : ev C b ρ S1 = .ok y S2) (e : eqD x y S2 = .ok true S2) : ev C (.cmp .ne a b) ρ S = .ok (.bl false) S2 := by
  rw [w_cmp, bind_at, h]
  simp only
  rw [bind_at, k]
  simp only
  rw [c_ne, bind_at, bind_at, e]
  rfl
theorem skip2_at {c : E} {a : Ss} {S1 : Sto} (h : ev C c ρ S = .ok (.bl false) S1) : evS C (.ife c a .nil) ρ S = .ok (.next ρ) S1 := by
  rw [w_ife, bind_at, h]
  simp only
  rw [t_bl, bind_at, pure_at]
  simp only
  rw [if_neg Bool.false_ne_true, w_nil]
  rfl
theorem not_at {a : E} {b : Bool} {S1 : Sto} (h : ev C a ρ S = .ok (.bl b) S1) : ev C (.not a) ρ S = .ok (.bl (!b)) S1 := by
  rw [w_not, bind_at, h]
  rfl
theorem or_at {a b : E} {y : Bool} {S1 S2 : Sto} (h : ev C a ρ S = .ok (.bl false) S1) (k : ev C b ρ S1 = .ok (.bl y) S2) : ev C (.or (.cons a (.cons b .nil))) ρ S = .ok (.bl y) S2 := by
  rw [w_or]
  simp only [evOr]
  rw [bind_at, h]
  simp only
  rw [t_bl, bind_at, pure_at]
  simp only
  rw [if_neg Bool.false_ne_true]
  exact k
theorem call_at {f : Nat} {es : Es} {ds : List D} {d : D} {S1 S2 : Sto} (h : evs C es ρ S = .ok ds S1) (k : C.call f ds S1 = .ok d S2) : ev C (.call f es) ρ S = .ok d S2 := by
  rw [w_call, bind_at, h]
  exact k
/-- a comprehension without a test whose things are told one by one -/
theorem compL_at {tg : Tg} {chk : Sto → Prop} {e : E} (hc : ∀ S S', Ext S S' → chk S → chk S') (I : Sto → Prop) (hI : ∀ S S', I S → Ext S S' → I S') (f : D → D) (P : D → Prop) (step : ∀ (d : D) (S : Sto), P d → I S → ∃ ρ' S', bindT tg d ρ S = .ok ρ' S ∧ ev C e ρ' S = .ok (f d) S' ∧ Ext S S') :
    ∀ (its acc : List D) (S : Sto), (∀ d ∈ its, P d) → I S → chk S → ∃ S', compL chk tg ρ (cnd C .none) (elt C e) its acc S = .ok (acc ++ its.map f) S' ∧ Ext S S'
  | [], acc, S, _, _, h => ⟨S, by
      unfold compL
      rw [bind_at]
      have : chkM chk S = .ok () S := by unfold chkM; rw [if_pos h]
      rw [this]
      simp only [List.map_nil, List.append_nil]
      rfl, .refl S⟩
  | d :: ds, acc, S, hp, hi, h => by
    obtain ⟨ρ', S1, e1, e2, x⟩ := step d S (hp d List.mem_cons_self) hi
    obtain ⟨S2, e3, x2⟩ := compL_at hc I hI f P step ds (acc ++ [f d]) S1 (fun d hd => hp d (List.mem_cons_of_mem _ hd)) (hI _ _ hi x) (hc _ _ x h)
    refine ⟨S2, ?_, x.trans x2⟩
    unfold compL
    have h1 : chkM chk S = .ok () S := by unfold chkM; rw [if_pos h]
    rw [bind_at, h1]
    simp only
    rw [bind_at, e1]
    simp only
    have h2 : cnd C .none ρ' S = .ok true S := by
      unfold cnd
      rw [noX_at]
      simp only [evTest]
      rfl
    rw [bind_at, h2]
    simp only
    rw [if_pos trivial]
    have h3 : elt C e ρ' S = .ok (f d) S1 := by
      unfold elt
      rw [noX_at, e2]
    rw [bind_at, h3]
    simp only
    rw [e3]
    simp
end

/-! the law -/
theorem small_ok : ∀ v < 1000, (txT ++ (toString ((v : Nat) : Int) : Str)).length ≤ 60 ∧ (strS "t").length + (toString ((v : Nat) : Int) : Str).length ≤ 60 := by decide +kernel
theorem ok_of {i : Int} (h0 : 0 ≤ i) (h : i < 1000) : Ok i ∧ (strS "t").length + (toString i : Str).length ≤ sizeLine := by
  obtain ⟨v, rfl⟩ := Int.eq_ofNat_of_zero_le h0
  have := small_ok v (by omega)
  have hl : ((v : Nat) : Int).natAbs.log2 < 1920 := by
    have : ((v : Nat) : Int).natAbs.log2 < 10 := log2_le h0 (by omega) (by decide)
    omega
  exact ⟨⟨hl, small (Nat.le_trans this.1 (by decide))⟩, small (Nat.le_trans this.2 (by decide))⟩
section
variable {C : Cfg} {ρ : Rv.Env} {S : Sto}
theorem sum_at {ns : List Int} (h : ρ[0]? = some (some (.fro ns))) : ∃ S', ev C (.bi .sum (.cons (.slice (.var 0) .none (.some (.lit (.int 1)))) .nil)) ρ S = .ok (.int (ns.take 1).sum) S' := by
  have hin : intsOf (cutL (ns.map D.int) none (some 1)) = some (ns.take 1) := by
    cases ns with
    | nil => rfl
    | cons z r =>
      have h1 : cutL ((z :: r).map D.int) none (some 1) = [D.int z] := by
        simp [cutL, HT.sIx]
      rw [h1]
      rfl
  have e1 : ev C (.slice (.var 0) .none (.some (.lit (.int 1)))) ρ S = .ok (.ref S.length) (S ++ [.lst (cutL (ns.map D.int) none (some 1))]) := by
    rw [w_slice, bind_at, var_at h]
    simp only
    have p1 : evPart C .none ρ S = .ok none S := by simp only [evPart]; rfl
    have p2 : evPart C (.some (.lit (.int 1))) ρ S = .ok (some 1) S := by
      simp only [evPart]
      rw [bind_at, lit_at]
      rfl
    rw [bind_at, p1]
    simp only
    rw [bind_at, p2]
    simp only
    rw [l_fro]
    rfl
  refine ⟨S ++ [.lst (cutL (ns.map D.int) none (some 1))], ?_⟩
  rw [w_bi, bind_at, as_at e1 as0_at]
  simp only
  rw [f_sum, bind_at, items_at, one_at]
  simp only
  rw [bind_at, opt_at, hin]
  simp only
  rfl
theorem mod_at {n m : Nat} {x : Int} (h : ρ[n]? = some (some (.int x))) (hm : 0 < m) : ev C (.bin .mod (.bi .int (.cons (.var n) .nil)) (.lit (.int m))) ρ S = .ok (.int (x % m)) S := by
  have e1 : ev C (.bi .int (.cons (.var n) .nil)) ρ S = .ok (.int x) S := by
    rw [w_bi, bind_at, as_at (var_at h) as0_at]
    rfl
  rw [w_bin, bind_at, e1]
  simp only
  rw [bind_at, lit_at]
  simp only
  rw [b_mod, bind_at, need_at, if_pos (by omega)]
  rfl
theorem text_at {a : E} {x : Int} (h : ev C a ρ S = .ok (.int x) S) (h1 : x.natAbs.log2 < 1920) (h2 : (strS "t").length + (toString x : Str).length ≤ sizeLine) : ev C (.bin .add (.lit (.str (strS "t"))) (.bi .str (.cons a .nil))) ρ S = .ok (.str (strS "t" ++ toString x)) S := by
  have e1 : ev C (.bi .str (.cons a .nil)) ρ S = .ok (.str (toString x)) S := by
    rw [w_bi, bind_at, as_at h as0_at]
    simp only
    rw [f_str, bind_at, need_at, if_pos h1]
    rfl
  rw [w_bin, bind_at, lit_at]
  simp only
  rw [bind_at, e1]
  simp only
  rw [b_addS, bind_at, need_at, if_pos h2]
  rfl
theorem tup_at {i j : Nat} {a b : E} {x y : D} (h : ev C a ρ S = .ok x S) (k : ev C b ρ S = .ok y S) : evS C (.asg (.tup [i, j]) (.tup (.cons a (.cons b .nil)))) ρ S = .ok (.next ((ρ.set i (some x)).set j (some y))) S := by
  rw [w_asg, w_tup, bind_at, bind_at, as_at h (as_at k as0_at)]
  rfl
theorem isxT_at {n m c j : Nat} {fs : List (Str × D)} (h : ρ[n]? = some (some (.ref m))) (k : S[m]? = some (.exc c fs)) : ev C (.not (.isX (.var n) j)) ρ S = .ok (.bl (!subC c j)) S := not_at (isXv_at h k)
theorem len_at {n r : Nat} {xs : List D} (h : ρ[n]? = some (some (.ref r))) (k : S[r]? = some (.lst xs)) : ev C (.bi .len (.cons (.var n) .nil)) ρ S = .ok (.int xs.length) S := by
  rw [w_bi, bind_at, as_at (var_at h) as0_at]
  simp only
  rw [f_len_ref, bind_at, items_at, k]
  rfl
end
theorem MadeL.nth {i : Int} {S : Sto} : ∀ {xs : List D} {cs : List Nat} (j : Nat), MadeL i S xs cs → j < cs.length → ∃ n, xs[j]? = some (.ref n) ∧ S[n]? = some (eo i (cs.getD j 0))
  | [], [], j, _, h => absurd h (Nat.not_lt_zero _)
  | .ref n :: xs, c :: cs, 0, h, _ => ⟨n, rfl, h.1⟩
  | .ref n :: xs, c :: cs, j + 1, h, hj => by
    obtain ⟨m, h1, h2⟩ := MadeL.nth (xs := xs) (cs := cs) j h.2 (by simpa using hj)
    exact ⟨m, by simpa using h1, by simpa using h2⟩
  | [], _ :: _, _, h, _ => h.elim
  | .non :: _, _, _, h, _ => by cases ‹List Nat› <;> exact h.elim
  | .bl _ :: _, _, _, h, _ => by cases ‹List Nat› <;> exact h.elim
  | .int _ :: _, _, _, h, _ => by cases ‹List Nat› <;> exact h.elim
  | .str _ :: _, _, _, h, _ => by cases ‹List Nat› <;> exact h.elim
  | .tup _ :: _, _, _, h, _ => by cases ‹List Nat› <;> exact h.elim
  | .fro _ :: _, _, _, h, _ => by cases ‹List Nat› <;> exact h.elim
  | .ref _ :: _, [], _, h, _ => h.elim
abbrev all25 : List Nat := [2, 3, 4, 5, 6, 7, 8, 9, 10, 11, 12, 13, 14, 15, 16, 17, 18, 19, 20, 21, 22, 23, 24, 25, 26]
theorem all_nth : ∀ j < 25, all25.getD j 0 = j + 2 := by decide
/-- [at == other for other in range(len(made))] -/
theorem row_at {C : Cfg} {ρ : Rv.Env} {S : Sto} {r j : Nat} {xs : List D} (h4 : ρ[4]? = some (some (.ref r))) (hx : S[r]? = some (.lst xs)) (hl : xs.length = 25) (h5 : ρ[5]? = some (some (.int j))) (hn : ρ.length = 11) :
    ∃ S', ev C (.comp [9, 10] (.cmp .eq (.var 5) (.var 10)) (.var 10) (.rng1 (.bi .len (.cons (.var 4) .nil))) .none) ρ S = .ok (.ref S'.length) (S' ++ [.lst (((List.range 25).map fun k => decide ((j : Int) = 0 + (k : Nat))).map D.bl)]) ∧ Ext S S' := by
  have e1 : evIt C (.rng1 (.bi .len (.cons (.var 4) .nil))) ρ S = .ok ⟨rngL 0 25, always⟩ S := by
    rw [i_rng1, bind_at, len_at h4 hx, hl]
    simp only
    show srcRng1 (.int 25) S = _
    rw [u_rng1, bind_at, need_at, if_pos (by decide)]
    rfl
  have w5 : (wipeE ρ [9, 10])[5]? = some (some (.int j)) := by
    show ((ρ.set 10 none).set 9 none)[5]? = _
    rw [List.getElem?_set_ne (by decide), List.getElem?_set_ne (by decide)]
    exact h5
  have wl : (wipeE ρ [9, 10]).length = 11 := by
    show ((ρ.set 10 none).set 9 none).length = _
    simp [hn]
  obtain ⟨S', e2, x⟩ := compL_at (C := C) (ρ := wipeE ρ [9, 10]) (tg := .var 10) (chk := always) (e := .cmp .eq (.var 5) (.var 10)) (fun _ _ _ h => h) (fun _ => True) (fun _ _ h _ => h)
    (fun d => match d with | .int v => .bl (decide ((j : Int) = v)) | d => d) (fun d => ∃ v, d = .int v) (fun d T hd _ => by
      obtain ⟨v, rfl⟩ := hd
      refine ⟨_, T, rfl, cmpI_at (x := j) (y := v) (var_at ?_) (var_at ?_), .refl T⟩
      · rw [List.getElem?_set_ne (by decide)]
        exact w5
      · rw [List.getElem?_set_self (by omega)]) (rngL 0 25) [] S (fun d hd => by
      obtain ⟨k, _, rfl⟩ := List.mem_map.mp hd
      exact ⟨_, rfl⟩) trivial trivial
  refine ⟨S', ?_, x⟩
  rw [w_comp, bind_at, e1]
  simp only
  rw [bind_at, need_at, if_pos (small (by decide))]
  simp only
  rw [bind_at, e2]
  simp only [List.nil_append]
  rw [newO_at]
  unfold rngL
  rw [List.map_map, List.map_map]
  rfl
/-- one turn of the loop leaves all as it is -/
theorem turn_at {fuel k j n r : Nat} {i : Int} {ρ : Rv.Env} {S : Sto} {xs : List D} {fs : List (Str × D)} (hj : j < 25) (hn : S[n]? = some (.exc (j + 2) fs)) (hx : S[r]? = some (.lst xs)) (hl : xs.length = 25) (h4 : ρ[4]? = some (some (.ref r))) (h5 : ρ[5]? = some (some (.int j))) (h6 : ρ[6]? = some (some (.ref n))) (hr : ρ.length = 11) :
    ∃ S', evSs ⟨run (P0 fuel) (k + 1), fun g => (P0 fuel).globs[g]?, (P0 fuel).fuel⟩ (.cons (.ife (.cmp .ne (.call 0 (.cons (.var 6) .nil)) (.comp [9, 10] (.cmp .eq (.var 5) (.var 10)) (.var 10) (.rng1 (.bi .len (.cons (.var 4) .nil))) .none)) (.cons (.ret (.lit (.bl false))) .nil) .nil) (.cons (.ife (.or (.cons (.not (.isX (.var 6) 1)) (.cons (.not (.isX (.var 6) 0)) .nil))) (.cons (.ret (.lit (.bl false))) .nil) .nil) .nil)) ρ S = .ok (.next ρ) S' ∧ Ext S S' := by
  obtain ⟨q, S1, e1, x1, f1⟩ := flags_at (fuel := fuel) (k := k) hn
  obtain ⟨S2, e2, x2⟩ := row_at (C := ⟨run (P0 fuel) (k + 1), fun g => (P0 fuel).globs[g]?, (P0 fuel).fuel⟩) h4 (x1.get hx) hl h5 hr
  have x3 : Ext S2 (S2 ++ [.lst (((List.range 25).map fun k => decide ((j : Int) = 0 + (k : Nat))).map D.bl)]) := ⟨_, rfl⟩
  have g1 := x3.get (x2.get f1)
  rw [flag_eq, flag_own hj] at g1
  have n3 := x3.get (x2.get (x1.get hn))
  have c1 : subC (j + 2) 1 = true := by
    unfold subC
    simp
  have c0 : subC (j + 2) 0 = true := by
    unfold subC
    simp
  refine ⟨_, nx_at (skip2_at (ne_at (call_at (as_at (var_at h6) as0_at) e1) e2 (eqD_bls g1 one_at))) (nx_at (skip2_at (or_at ((isxT_at h6 n3).trans (by rw [c1]; rfl)) ((isxT_at h6 n3).trans (by rw [c0]; rfl)))) ?_), (x1.trans x2).trans x3⟩
  rw [w_nil]
  rfl

end K00
set_option Elab.async false
set_option linter.all false
set_option maxRecDepth 100000
set_option maxHeartbeats 1000000
namespace K00
open PySem Rv
abbrev loopB : Ss := (.cons (.ife (.cmp .ne (.call 0 (.cons (.var 6) .nil)) (.comp [9, 10] (.cmp .eq (.var 5) (.var 10)) (.var 10) (.rng1 (.bi .len (.cons (.var 4) .nil))) .none)) (.cons (.ret (.lit (.bl false))) .nil) .nil) (.cons (.ife (.or (.cons (.not (.isX (.var 6) 1)) (.cons (.not (.isX (.var 6) 0)) .nil))) (.cons (.ret (.lit (.bl false))) .nil) .nil) .nil))
theorem loop_at {fuel k r : Nat} {xs : List D} (hl : xs.length = 25) : ∀ (l : List (D × Nat)) (ρ : Rv.Env) (S : Sto), S[r]? = some (.lst xs) → ρ[4]? = some (some (.ref r)) → ρ.length = 11 → (∀ p ∈ l, ∃ n fs, p.1 = .ref n ∧ S[n]? = some (.exc (p.2 + 2) fs) ∧ p.2 < 25) →
    ∃ ρ' S', forL (stays r xs) (.tup [5, 6]) (evSs ⟨run (P0 fuel) (k + 1), fun g => (P0 fuel).globs[g]?, (P0 fuel).fuel⟩ loopB) (l.map fun p => .tup [.int p.2, p.1]) ρ S = .ok (.next ρ') S' ∧ Ext S S' ∧ ρ'.length = 11 ∧ ∀ q, q ≠ 5 → q ≠ 6 → ρ'[q]? = ρ[q]?
  | [], ρ, S, hx, _, hr, _ => ⟨ρ, S, by
      have : chkM (stays r xs) S = .ok () S := by unfold chkM; rw [if_pos (show stays r xs S from hx)]
      rw [List.map_nil]
      unfold forL
      rw [bind_at, this]
      rfl, .refl S, hr, fun _ _ _ => rfl⟩
  | (d, j) :: l, ρ, S, hx, h4, hr, hp => by
    obtain ⟨n, fs, e0, hn, hj⟩ := hp (d, j) List.mem_cons_self
    have e0 : d = .ref n := e0
    subst e0
    have h4' : ((ρ.set 5 (some (.int j))).set 6 (some (.ref n)))[4]? = some (some (.ref r)) := by
      rw [List.getElem?_set_ne (by decide), List.getElem?_set_ne (by decide)]
      exact h4
    have h5' : ((ρ.set 5 (some (.int j))).set 6 (some (.ref n)))[5]? = some (some (.int j)) := by
      rw [List.getElem?_set_ne (by decide), List.getElem?_set_self (by omega)]
    have h6' : ((ρ.set 5 (some (.int j))).set 6 (some (.ref n)))[6]? = some (some (.ref n)) := by
      rw [List.getElem?_set_self (by simp; omega)]
    have hr' : ((ρ.set 5 (some (.int j))).set 6 (some (.ref n))).length = 11 := by simp [hr]
    obtain ⟨S1, e1, x1⟩ := turn_at (fuel := fuel) (k := k) (i := 0) hj hn hx hl h4' h5' h6' hr'
    obtain ⟨ρ2, S2, e2, x2, l2, k2⟩ := loop_at (fuel := fuel) (k := k) hl l _ S1 (x1.get hx) h4' hr' (fun p hq => by
      obtain ⟨n, fs, a, b, c⟩ := hp p (List.mem_cons_of_mem _ hq)
      exact ⟨n, fs, a, x1.get b, c⟩)
    refine ⟨ρ2, S2, ?_, x1.trans x2, l2, fun q h1 h2 => by rw [k2 q h1 h2, List.getElem?_set_ne (Ne.symm h2), List.getElem?_set_ne (Ne.symm h1)]⟩
    have hc : chkM (stays r xs) S = .ok () S := by unfold chkM; rw [if_pos (show stays r xs S from hx)]
    rw [List.map_cons]
    unfold forL
    rw [bind_at, hc]
    simp only
    rw [bind_at]
    have hb : bindT (.tup [5, 6]) (.tup [.int j, .ref n]) ρ S = .ok ((ρ.set 5 (some (.int j))).set 6 (some (.ref n))) S := rfl
    rw [hb]
    simp only
    rw [bind_at, e1]
    exact e2
section
variable {C : Cfg} {ρ : Rv.Env} {S : Sto}
theorem for_at {t : Tg} {it : Itx} {b : Ss} {s : Src} {f : Rv.Flow} {S1 S2 : Sto} (h : evIt C it ρ S = .ok s S1) (k : forL s.ok t (evSs C b) s.its ρ S1 = .ok f S2) : evS C (.forr t it b) ρ S = .ok f S2 := by
  rw [w_forr, bind_at, h]
  exact k
theorem enum_at {n r : Nat} {xs : List D} (h : ρ[n]? = some (some (.ref r))) (k : S[r]? = some (.lst xs)) : evIt C (.enum (.var n)) ρ S = .ok ⟨enumL xs, stays r xs⟩ S := by
  rw [i_enum, bind_at, var_at h]
  simp only
  show (do let xs ← items r; pure ⟨enumL xs, stays r xs⟩ : M Src) S = _
  rw [bind_at, items_at, k]
  rfl
/-- False in [.. for ..] -/
theorem caughts_at {fuel k : Nat} {i : Int} {t : Str} {ρ : Rv.Env} {S : Sto} (o : Ok i) (h2 : ρ[2]? = some (some (.str t))) (h3 : ρ[3]? = some (some (.int i))) (hn : ρ.length = 11) :
    ∃ S', ev ⟨run (P0 fuel) (k + 1), fun g => (P0 fuel).globs[g]?, (P0 fuel).fuel⟩ (.cmp .isin (.lit (.bl false)) (.comp [9, 5] (.call 2 (.cons (.var 5) (.cons (.var 2) (.cons (.var 3) .nil)))) (.var 5) (.of (.list (.cons (.lit (.int 0)) (.cons (.lit (.int 3)) (.cons (.lit (.int 13)) (.cons (.lit (.int 22)) (.cons (.lit (.int 24)) .nil))))))) .none)) ρ S = .ok (.bl false) S' ∧ Ext S S' := by
  let C : Cfg := ⟨run (P0 fuel) (k + 1), fun g => (P0 fuel).globs[g]?, (P0 fuel).fuel⟩
  have x0 : Ext S (S ++ [.lst [.int 0, .int 3, .int 13, .int 22, .int 24]]) := ⟨_, rfl⟩
  have e1 : evIt C (.of (.list (.cons (.lit (.int 0)) (.cons (.lit (.int 3)) (.cons (.lit (.int 13)) (.cons (.lit (.int 22)) (.cons (.lit (.int 24)) .nil))))))) ρ S = .ok ⟨[.int 0, .int 3, .int 13, .int 22, .int 24], stays S.length [.int 0, .int 3, .int 13, .int 22, .int 24]⟩ (S ++ [.lst [.int 0, .int 3, .int 13, .int 22, .int 24]]) := by
    rw [i_of, bind_at, lst_at (as_at lit_at (as_at lit_at (as_at lit_at (as_at lit_at (as_at lit_at as0_at)))))]
    simp only
    rw [u_ref, bind_at, items_at, one_at]
    rfl
  have wl : (wipeE ρ [9, 5]).length = 11 := by
    show ((ρ.set 5 none).set 9 none).length = _
    simp [hn]
  have w2 : (wipeE ρ [9, 5])[2]? = some (some (.str t)) := by
    show ((ρ.set 5 none).set 9 none)[2]? = _
    rw [List.getElem?_set_ne (by decide), List.getElem?_set_ne (by decide)]
    exact h2
  have w3 : (wipeE ρ [9, 5])[3]? = some (some (.int i)) := by
    show ((ρ.set 5 none).set 9 none)[3]? = _
    rw [List.getElem?_set_ne (by decide), List.getElem?_set_ne (by decide)]
    exact h3
  obtain ⟨S1, e2, x1⟩ := compL_at (C := C) (ρ := wipeE ρ [9, 5]) (tg := .var 5) (chk := stays S.length [.int 0, .int 3, .int 13, .int 22, .int 24]) (e := .call 2 (.cons (.var 5) (.cons (.var 2) (.cons (.var 3) .nil)))) (fun S S' x h => x.get h) (fun _ => True) (fun _ _ h _ => h)
    (fun _ => .bl true) (fun d => ∃ x : Int, d = .int x ∧ (x = 0 ∨ x = 3 ∨ x = 13 ∨ x = 22 ∨ x = 24)) (fun d T hd _ => by
      obtain ⟨x, rfl, hx⟩ := hd
      obtain ⟨T1, e, y⟩ := caught_at (fuel := fuel) (k := k) (t := t) (S := T) o hx
      refine ⟨_, T1, rfl, call_at (as_at (var_at ?_) (as_at (var_at ?_) (as_at (var_at ?_) as0_at))) e, y⟩
      · rw [List.getElem?_set_self (by omega)]
      · rw [List.getElem?_set_ne (by decide)]
        exact w2
      · rw [List.getElem?_set_ne (by decide)]
        exact w3) [.int 0, .int 3, .int 13, .int 22, .int 24] [] _ (fun d hd => by
      simp only [List.mem_cons, List.not_mem_nil, or_false] at hd
      rcases hd with rfl | rfl | rfl | rfl | rfl
      all_goals exact ⟨_, rfl, by decide⟩) trivial one_at
  have x2 : Ext S1 (S1 ++ [.lst ([true, true, true, true, true].map D.bl)]) := ⟨_, rfl⟩
  refine ⟨_, ?_, (x0.trans x1).trans x2⟩
  rw [w_cmp, bind_at, lit_at]
  simp only
  have e3 : ev C (.comp [9, 5] (.call 2 (.cons (.var 5) (.cons (.var 2) (.cons (.var 3) .nil)))) (.var 5) (.of (.list (.cons (.lit (.int 0)) (.cons (.lit (.int 3)) (.cons (.lit (.int 13)) (.cons (.lit (.int 22)) (.cons (.lit (.int 24)) .nil))))))) .none) ρ S = .ok (.ref S1.length) (S1 ++ [.lst ([true, true, true, true, true].map D.bl)]) := by
    rw [w_comp, bind_at, e1]
    simp only
    rw [bind_at, need_at, if_pos (small (by decide))]
    simp only
    rw [bind_at, e2]
    rfl
  rw [bind_at, e3]
  simp only
  rw [c_in_ref, bind_at, bind_at, items_at, one_at]
  simp only
  rw [inD_bls]
  rfl
/-- True not in the flags -/
theorem noflag_at {fuel k m c : Nat} {fs : List (Str × D)} {ρ : Rv.Env} {S S0 : Sto} {e : E} (hc : (flagB c).any (fun z => z == true) = false) (he : ev ⟨run (P0 fuel) (k + 1), fun g => (P0 fuel).globs[g]?, (P0 fuel).fuel⟩ e ρ S0 = .ok (.ref m) S) (h : S[m]? = some (.exc c fs)) :
    ∃ S', ev ⟨run (P0 fuel) (k + 1), fun g => (P0 fuel).globs[g]?, (P0 fuel).fuel⟩ (.cmp .notin (.lit (.bl true)) (.call 0 (.cons e .nil))) ρ S0 = .ok (.bl true) S' ∧ Ext S S' := by
  obtain ⟨q, S1, e1, x1, f1⟩ := flags_at (fuel := fuel) (k := k) h
  refine ⟨S1, ?_, x1⟩
  rw [w_cmp, bind_at, lit_at]
  simp only
  rw [bind_at, call_at (as_at he as0_at) e1]
  simp only
  rw [c_nin_ref, bind_at, bind_at, items_at, f1, flag_eq]
  simp only
  rw [bind_at, inD_bls, hc]
  rfl
theorem and3_at {a b c : E} {y : Bool} {S1 S2 S3 : Sto} (h : ev C a ρ S = .ok (.bl true) S1) (k : ev C b ρ S1 = .ok (.bl true) S2) (l : ev C c ρ S2 = .ok (.bl y) S3) : ev C (.and (.cons a (.cons b (.cons c .nil)))) ρ S = .ok (.bl y) S3 := by
  rw [w_and]
  simp only [evAnd]
  rw [bind_at, h]
  simp only
  rw [t_bl, bind_at, pure_at]
  simp only
  rw [if_pos trivial, bind_at, k]
  simp only
  rw [t_bl, bind_at, pure_at]
  simp only
  rw [if_pos trivial]
  exact l
end
end K00
set_option Elab.async false
set_option linter.all false
set_option maxRecDepth 100000
namespace Rv
open PySem
section
variable {α : Type} {a b c d e f g : α} {r : List α}
theorem at_0 : L2.atI (a :: r) 0 = some a := by simp [L2.atI, L2.ixN]
theorem at_1 : L2.atI (a :: b :: r) 1 = some b := by
  have h : (1 : Int) < (r.length : Int) + 1 + 1 := by omega
  simp [L2.atI, L2.ixN, h]
theorem at_2 : L2.atI (a :: b :: c :: r) 2 = some c := by
  have h : (2 : Int) < (r.length : Int) + 1 + 1 + 1 := by omega
  simp [L2.atI, L2.ixN, h]
theorem at_3 : L2.atI (a :: b :: c :: d :: r) 3 = some d := by
  have h : (3 : Int) < (r.length : Int) + 1 + 1 + 1 + 1 := by omega
  simp [L2.atI, L2.ixN, h]
theorem at_4 : L2.atI (a :: b :: c :: d :: e :: r) 4 = some e := by
  have h : (4 : Int) < (r.length : Int) + 1 + 1 + 1 + 1 + 1 := by omega
  simp [L2.atI, L2.ixN, h]
theorem at_n {xs : List α} {v : Int} (h0 : 0 ≤ v) (h1 : v < xs.length) : L2.atI xs v = xs[v.toNat]? := by
  simp [L2.atI, L2.ixN, h0, h1]
end
theorem n_non : isNone .non = true := rfl
theorem n_int {i : Int} : isNone (.int i) = false := rfl
theorem n_tup {i : List D} : isNone (.tup i) = false := rfl
theorem n_str {i : Str} : isNone (.str i) = false := rfl
theorem n_bl {i : Bool} : isNone (.bl i) = false := rfl
theorem n_ref {i : Nat} : isNone (.ref i) = false := rfl
end Rv
namespace Rv
open PySem
def negD : D → M D
  | .int i => pure (.int (-i))
  | _ => fail
theorem w_neg {C : Cfg} {ρ : Env} {a : E} : ev C (.neg a) ρ = (do let x ← ev C a ρ; negD x) := by
  simp only [ev]
  congr 1
theorem neg_int {i : Int} : negD (.int i) = pure (.int (-i)) := rfl
end Rv
set_option Elab.async false
set_option linter.all false
set_option maxRecDepth 100000
set_option maxHeartbeats 1000000
namespace K00
open PySem Rv
theorem shown_small : ∀ v < 1000, (PyData.shown (.list [.int ((v : Nat) : Int), .int ((v : Nat) : Int)])).length ≤ 60 := by decide +kernel
theorem repr_two {S : Sto} {r : Nat} {i : Int} (h : S[r]? = some (.lst [.int i, .int i])) (h0 : 0 ≤ i) (h1 : i < 1000) : reprD (.ref r) S = .ok (.str (PyData.shown (.list [.int i, .int i]))) S := by
  have o := (ok_of h0 h1).1
  have hp : pd S 64 (.ref r) = some (.list [.int i, .int i]) := by
    show (match S[r]? with | some (.lst xs) => (mapO (pd S 63) xs).map PyData.list | some (.dic []) => some (.dict []) | _ => none) = _
    rw [h]
    rfl
  have hs : (PyData.list [.int i, .int i]).showable = true := by
    simp [PyData.showable, PyData.showableAll, o.lo]
  have hd : (PyData.list [.int i, .int i]).depth ≤ 64 := by simp [PyData.depth, PyData.depthAll]
  have hl : (PyData.list [.int i, .int i]).shown.length ≤ sizeLine := by
    obtain ⟨v, rfl⟩ := Int.eq_ofNat_of_zero_le h0
    exact small (Nat.le_trans (shown_small v (by omega)) (by decide))
  unfold reprD
  simp only [hp, hs, hd, hl, and_self, if_true]
section
variable {C : Cfg} {ρ : Rv.Env} {S : Sto}
theorem repr_e {e : E} {r : Nat} {i : Int} {S1 : Sto} (he : ev C e ρ S = .ok (.ref r) S1) (h : S1[r]? = some (.lst [.int i, .int i])) (h0 : 0 ≤ i) (h1 : i < 1000) : ev C (.bi .repr (.cons e .nil)) ρ S = .ok (.str (PyData.shown (.list [.int i, .int i]))) S1 := by
  rw [w_bi, bind_at, as_at he as0_at]
  simp only
  rw [f_repr, repr_two h h0 h1]
theorem neS_at {a b : E} {x : Str} {S1 S2 : Sto} (h : ev C a ρ S = .ok (.str x) S1) (k : ev C b ρ S1 = .ok (.str x) S2) : ev C (.cmp .ne a b) ρ S = .ok (.bl false) S2 :=
  ne_at h k (by rw [e_strs, beq_self_eq_true]; rfl)
theorem idx_at {n r : Nat} {j : Int} {xs : List D} {d : D} (h : ρ[n]? = some (some (.ref r))) (k : S[r]? = some (.lst xs)) (e : L2.atI xs j = some d) : ev C (.idx (.var n) (.lit (.int j))) ρ S = .ok d S := by
  rw [w_idx, bind_at, var_at h]
  simp only
  rw [bind_at, lit_at]
  simp only
  rw [x_ref, bind_at, items_at, k]
  simp only
  rw [e]
  rfl
theorem fldE_at {a : E} {m c : Nat} {f : Str} {fs : List (Str × D)} {d : D} (h : ev C a ρ S = .ok (.ref m) S) (k : S[m]? = some (.exc c fs)) (e : fs.lookup f = some d) : ev C (.fld a f) ρ S = .ok d S := by
  rw [w_fld, bind_at, h]
  simp only
  exact fld_ok k e
end
theorem atI_3 {xs : List D} {n : Nat} (h : xs[3]? = some (.ref n)) (hl : xs.length = 25) : L2.atI xs 3 = some (.ref n) := by
  match xs, hl, h with
  | a :: b :: c :: d :: r, _, h => exact at_3.trans (by simpa using h)
abbrev ρ1 (ns : List Int) (v : Int) : Rv.Env := (startE 11 [.fro ns]).set 1 (some (.int v))
abbrev ρ3 (ns : List Int) (v : Int) (t : Str) (i : Int) : Rv.Env := ((ρ1 ns v).set 2 (some (.str t))).set 3 (some (.int i))
theorem law_at {fuel k : Nat} (ns : List Int) : ∃ S', run (P0 fuel) (k + 1 + 1) 3 [.fro ns] [] = .ok (.bl true) S' := by
  have e0 : (P0 fuel).fns[3]? = some ⟨1, 11, ir3⟩ := rfl
  let C : Cfg := ⟨run (P0 fuel) (k + 1), fun g => (P0 fuel).globs[g]?, (P0 fuel).fuel⟩
  obtain ⟨S1, e1⟩ := sum_at (C := C) (ρ := startE 11 [.fro ns]) (S := []) (ns := ns) rfl
  generalize hv : (ns.take 1).sum = v at e1
  have p1 : 0 ≤ v % 1000 := Int.emod_nonneg _ (by decide)
  have p2 : v % 1000 < 1000 := Int.emod_lt_of_pos _ (by decide)
  have q1 : 0 ≤ v % 997 := Int.emod_nonneg _ (by decide)
  have q2 : v % 997 < 1000 := Int.lt_trans (Int.emod_lt_of_pos _ (by decide)) (by decide)
  have oa := ok_of p1 p2
  have ob := (ok_of q1 q2).1
  have e2 : evS C (.asg (.tup [2, 3]) (.tup (.cons (.bin .add (.lit (.str (strS "t"))) (.bi .str (.cons (.bin .mod (.bi .int (.cons (.var 1) .nil)) (.lit (.int 1000))) .nil))) (.cons (.bin .mod (.bi .int (.cons (.var 1) .nil)) (.lit (.int 997))) .nil)))) (ρ1 ns v) S1 = .ok (.next (ρ3 ns v (strS "t" ++ toString (v % 1000)) (v % 997))) S1 :=
    tup_at (text_at (mod_at (m := 1000) rfl (by decide)) oa.1.lo oa.2) (mod_at (m := 997) rfl (by decide))
  generalize strS "t" ++ toString (v % 1000) = t at e2
  generalize v % 997 = i at e2 q1 q2 ob
  obtain ⟨r, S2, xs, e3, x3, hr, hm⟩ := made_at (fuel := fuel) (k := k) (i := i) (t := t) (S := S1) ob
  have hl : xs.length = 25 := hm.len
  have l4 : ((ρ3 ns v t i).set 4 (some (.ref r))).length = 11 := rfl
  have a3 : evS C (.asg (.var 4) (.call 1 (.cons (.var 2) (.cons (.var 3) .nil)))) (ρ3 ns v t i) S1 = .ok (.next ((ρ3 ns v t i).set 4 (some (.ref r)))) S2 := asg_at (call_at (as_at (var_at rfl) (as_at (var_at rfl) as0_at)) e3)
  obtain ⟨ρ5, S3, e4, x4, l5, k5⟩ := loop_at (fuel := fuel) (k := k) hl xs.zipIdx ((ρ3 ns v t i).set 4 (some (.ref r))) S2 hr rfl l4 (fun p hp => by
    have hj : p.2 < xs.length ∧ xs[p.2]? = some p.1 := by
      have := List.mem_zipIdx_iff_getElem?.mp hp
      exact ⟨(List.getElem?_eq_some_iff.mp this).1, this⟩
    obtain ⟨n, h1, h2⟩ := hm.nth p.2 (by rw [← hm.len]; exact hj.1)
    rw [hj.2] at h1
    have e5 := all_nth p.2 (by omega)
    unfold all25 at e5
    rw [e5] at h2
    exact ⟨n, _, Option.some.inj h1, h2, by omega⟩)
  have a4 : evS C (.forr (.tup [5, 6]) (.enum (.var 4)) loopB) ((ρ3 ns v t i).set 4 (some (.ref r))) S2 = .ok (.next ρ5) S3 := for_at (enum_at rfl hr) e4
  have v2 : ρ5[2]? = some (some (.str t)) := k5 2 (by decide) (by decide)
  have v3 : ρ5[3]? = some (some (.int i)) := k5 3 (by decide) (by decide)
  have v4 : ρ5[4]? = some (some (.ref r)) := k5 4 (by decide) (by decide)
  obtain ⟨S4, e5, x5⟩ := caughts_at (fuel := fuel) (k := k) (S := S3) ob v2 v3 l5
  have a6 : evS C (.asg (.var 7) (.mkk 5 (strS "index") (strS "the text of the sign goes wrong at word ") (.var 3))) ρ5 S4 = .ok (.next (ρ5.set 7 (some (.ref S4.length)))) (S4 ++ [.exc 5 [(strS "index", .int i)]]) := asg_at (mkk_at v3 ob.lo ob.sz)
  -- the seventh step: the two texts and the two rows of flags
  obtain ⟨n3, m1, m2⟩ := hm.nth 3 (by decide)
  have y0 := x4.trans x5
  generalize hS5 : S4 ++ [.exc 5 [(strS "index", .int i)]] = S5 at a6
  have x6 : Ext S4 S5 := ⟨_, hS5.symm⟩
  have g7 : S5[S4.length]? = some (.exc 5 [(strS "index", .int i)]) := by rw [← hS5]; exact one_at
  have g3 : S5[n3]? = some (.exc 5 [(strS "index", .int i)]) := x6.get (y0.get m2)
  have gr : S5[r]? = some (.lst xs) := x6.get (y0.get hr)
  generalize hρ6 : ρ5.set 7 (some (.ref S4.length)) = ρ6 at a6
  have w7 : ρ6[7]? = some (some (.ref S4.length)) := by rw [← hρ6, List.getElem?_set_self (by omega)]
  have w3 : ρ6[3]? = some (some (.int i)) := by rw [← hρ6, List.getElem?_set_ne (by decide)]; exact v3
  have w4 : ρ6[4]? = some (some (.ref r)) := by rw [← hρ6, List.getElem?_set_ne (by decide)]; exact v4
  have w2 : ρ6[2]? = some (some (.str t)) := by rw [← hρ6, List.getElem?_set_ne (by decide)]; exact v2
  have w8 : ρ6.length = 11 := by rw [← hρ6]; simp [l5]
  have ix : ∀ {S : Sto}, S[r]? = some (.lst xs) → ev C (.idx (.var 4) (.lit (.int 3))) ρ6 S = .ok (.ref n3) S := fun h => idx_at w4 h (atI_3 m1 hl)
  have b1 : ev C (.list (.cons (.fld (.var 7) (strS "index")) (.cons (.fld (.idx (.var 4) (.lit (.int 3))) (strS "index")) .nil))) ρ6 S5 = .ok (.ref S5.length) (S5 ++ [.lst [.int i, .int i]]) :=
    lst_at (as_at (fld_at w7 g7 rfl) (as_at (fldE_at (ix gr) g3 rfl) as0_at))
  generalize hS6 : S5 ++ [.lst [.int i, .int i]] = S6 at b1
  have x7 : Ext S5 S6 := ⟨_, hS6.symm⟩
  have c1 : S6[S5.length]? = some (.lst [.int i, .int i]) := by rw [← hS6]; exact one_at
  have b2 : ev C (.list (.cons (.var 3) (.cons (.var 3) .nil))) ρ6 S6 = .ok (.ref S6.length) (S6 ++ [.lst [.int i, .int i]]) := lst_at (as_at (var_at w3) (as_at (var_at w3) as0_at))
  generalize hS7 : S6 ++ [.lst [.int i, .int i]] = S7 at b2
  have x8 : Ext S6 S7 := ⟨_, hS7.symm⟩
  have c2 : S7[S6.length]? = some (.lst [.int i, .int i]) := by rw [← hS7]; exact one_at
  have n1 := neS_at (repr_e b1 c1 q1 q2) (repr_e b2 c2 q1 q2)
  have x57 := x7.trans x8
  obtain ⟨f1, S8, d1, x9, k1⟩ := flags_at (fuel := fuel) (k := k) (x57.get g7)
  obtain ⟨f2, S9, d2, x10, k2⟩ := flags_at (fuel := fuel) (k := k) (x9.get (x57.get g3))
  have n2 := ne_at (C := C) (ρ := ρ6) (call_at (f := 0) (as_at (var_at w7) as0_at) d1) (call_at (f := 0) (as_at (ix (x9.get (x57.get gr))) as0_at) d2) (eqD_bls (l := flagB 5) (x10.get k1) k2)
  -- the last two steps
  generalize hρ7 : ρ6.set 8 (some (.ref S9.length)) = ρ7
  have a8 : evS C (.asg (.var 8) (.mkx 1 (.var 2))) ρ6 S9 = .ok (.next ρ7) (S9 ++ [.exc 1 []]) := by
    rw [← hρ7]
    exact asg_at (mkx_at w2)
  have z8 : ρ7[8]? = some (some (.ref S9.length)) := by rw [← hρ7, List.getElem?_set_self (by omega)]
  have z2 : ρ7[2]? = some (some (.str t)) := by rw [← hρ7, List.getElem?_set_ne (by decide)]; exact w2
  generalize hS10 : S9 ++ [O.exc 1 []] = S10 at a8
  have g8 : S10[S9.length]? = some (.exc 1 []) := by rw [← hS10]; exact one_at
  obtain ⟨S11, r1, x11⟩ := noflag_at (fuel := fuel) (k := k) (c := 1) rfl (var_at z8) g8
  obtain ⟨S12, r2, x12⟩ := noflag_at (fuel := fuel) (k := k) (c := 0) rfl (mkx_at (C := ⟨run (P0 fuel) (k + 1), fun g => (P0 fuel).globs[g]?, (P0 fuel).fuel⟩) (j := 0) (S := S11) z2) one_at
  have r0 : ev C (.isX (.var 8) 0) ρ7 S10 = .ok (.bl true) S10 := (isXv_at z8 g8).trans rfl
  refine ⟨S12, run_ret (ps := 1) (sl := 11) (ir := ir3) e0 rfl ?_⟩
  exact nx_at (asg_at e1) (nx_at e2 (nx_at a3 (nx_at a4 (nx_at (skip2_at e5) (nx_at a6 (nx_at (skip2_at (or_at n1 n2)) (nx_at a8 (rt_at (ret_at (and3_at r0 r1 r2))))))))))
end K00
namespace K00
open PySem Rv L2
abbrev fuel : Nat := 100
abbrev level : Nat := 4
theorem room : Room level callerA := ⟨rfl, by decide, by decide⟩
theorem hg : ∀ ns : List Int, ns.length ≤ 63 → (∀ z ∈ ns, Builtin.Int.intBits z ≤ 1048576) → Wp (run (irs T (gs.map (·.2)) fuel) level 3 [.fro ns]) [] (fun d _ => d = .bl true) fun _ _ => False := by
  intro ns _ _
  obtain ⟨S', e⟩ := law_at (fuel := fuel) (k := 2) ns
  unfold Wp
  rw [e]
end K00
set_option Elab.async false
set_option linter.all false
set_option maxRecDepth 100000
open PySem PySem.W PyProof.Rows
set_option maxHeartbeats 0 in
theorem PySem.Challenge.cw_brushedsigns_k00_error_classes_holds : PySem.Challenge.rw_brushedsigns_k00_error_classes.Holds := by
  w_on; o_law; k_head; (case hw => w_witness2)
  k_fill
  refine Rv.walk_prog (T := K00.T) (gs := K00.gs) (kws := K00.kws) (gcd := false) (exs := K00.exs) (fuel := K00.fuel) (k := K00.level) (i := 3) (x := ("_law_script" : Str)) (dl := K00.d3) rfl rfl (by kernel_rfl) K00.room (fun w h Y => PySem.W.kIn_of Y) K00.all rfl rfl rfl ?A K00.hg
  case A =>
    intro w mg h KX G
    refine ⟨?defs, ?glbs, ?blts, ?gcds, ?ves, ?ers⟩
    case defs =>
      intro d hd
      simp only [K00.T, List.mem_cons, List.not_mem_nil, or_false] at hd
      rcases hd with rfl | rfl | rfl | rfl
      · show Rv.At _ mg ("_law_flags" : Str) (K00.top 28)
        refine' Rv.at_of KX G ?a ?l ?c ?k; (case a => k_is); (case l => k_is); (case c => k_is); (case k => k_is)
      · show Rv.At _ mg ("_law_made" : Str) (K00.top 29)
        refine' Rv.at_of KX G ?a ?l ?c ?k; (case a => k_is); (case l => k_is); (case c => k_is); (case k => k_is)
      · show Rv.At _ mg ("_law_is_caught" : Str) (K00.top 30)
        refine' Rv.at_of KX G ?a ?l ?c ?k; (case a => k_is); (case l => k_is); (case c => k_is); (case k => k_is)
      · show Rv.At _ mg ("law" : Str) (K00.top 31)
        refine' Rv.at_of KX G ?a ?l ?c ?k; (case a => k_is); (case l => k_is); (case c => k_is); (case k => k_is)
    case glbs =>
      intro p hp
      simp only [K00.gs, List.mem_cons, List.not_mem_nil, or_false] at hp
    case blts =>
      intro x hx
      simp only [Rv.bltAll, List.mem_cons, List.not_mem_nil, or_false] at hx
      rcases hx with rfl | rfl | rfl | rfl | rfl | rfl | rfl | rfl | rfl | rfl | rfl | rfl | rfl | rfl | rfl | rfl | rfl
      · refine' PySem.W.mg_none_of (n := ("len" : Str)) KX G ?a; (case a => k_is)
      · refine' PySem.W.mg_none_of (n := ("repr" : Str)) KX G ?a; (case a => k_is)
      · refine' PySem.W.mg_none_of (n := ("tuple" : Str)) KX G ?a; (case a => k_is)
      · refine' PySem.W.mg_none_of (n := ("list" : Str)) KX G ?a; (case a => k_is)
      · refine' PySem.W.mg_none_of (n := ("int" : Str)) KX G ?a; (case a => k_is)
      · refine' PySem.W.mg_none_of (n := ("str" : Str)) KX G ?a; (case a => k_is)
      · refine' PySem.W.mg_none_of (n := ("abs" : Str)) KX G ?a; (case a => k_is)
      · refine' PySem.W.mg_none_of (n := ("max" : Str)) KX G ?a; (case a => k_is)
      · refine' PySem.W.mg_none_of (n := ("min" : Str)) KX G ?a; (case a => k_is)
      · refine' PySem.W.mg_none_of (n := ("sum" : Str)) KX G ?a; (case a => k_is)
      · refine' PySem.W.mg_none_of (n := ("all" : Str)) KX G ?a; (case a => k_is)
      · refine' PySem.W.mg_none_of (n := ("any" : Str)) KX G ?a; (case a => k_is)
      · refine' PySem.W.mg_none_of (n := ("isinstance" : Str)) KX G ?a; (case a => k_is)
      · refine' PySem.W.mg_none_of (n := ("range" : Str)) KX G ?a; (case a => k_is)
      · refine' PySem.W.mg_none_of (n := ("enumerate" : Str)) KX G ?a; (case a => k_is)
      · refine' PySem.W.mg_none_of (n := ("zip" : Str)) KX G ?a; (case a => k_is)
      · refine' PySem.W.mg_none_of (n := ("bool" : Str)) KX G ?a; (case a => k_is)
    case gcds =>
      intro e
      cases e
    case ves =>
      refine' PySem.W.mg_none_of (n := ("ValueError" : Str)) KX G ?a; (case a => k_is)
    case ers =>
      refine' Rv.erAll26 KX ?h1 ?h2 ?h3 ?h4 ?h5 ?h6 ?h7 ?h8 ?h9 ?h10 ?h11 ?h12 ?h13 ?h14 ?h15 ?h16 ?h17 ?h18 ?h19 ?h20 ?h21 ?h22 ?h23 ?h24 ?h25 ?h26 ?k
      case h1 => k_is
      case h2 => k_is
      case h3 => k_is
      case h4 => k_is
      case h5 => k_is
      case h6 => k_is
      case h7 => k_is
      case h8 => k_is
      case h9 => k_is
      case h10 => k_is
      case h11 => k_is
      case h12 => k_is
      case h13 => k_is
      case h14 => k_is
      case h15 => k_is
      case h16 => k_is
      case h17 => k_is
      case h18 => k_is
      case h19 => k_is
      case h20 => k_is
      case h21 => k_is
      case h22 => k_is
      case h23 => k_is
      case h24 => k_is
      case h25 => k_is
      case h26 => k_is
      case k =>
        intro EA
        simp only [Rv.cmv] at EA
        intro p hp
        simp only [K00.exs, List.mem_cons, List.not_mem_nil, or_false] at hp
        rcases hp with rfl | rfl | rfl | rfl | rfl | rfl | rfl | rfl | rfl | rfl | rfl | rfl | rfl | rfl | rfl | rfl | rfl | rfl | rfl | rfl | rfl | rfl | rfl | rfl | rfl | rfl
        · refine' Rv.ErOk.mk2 EA ?ha ?lo ?hi ?loc ?er ?mk0 ?mkk; (case ha => rfl); (case lo => decide); (case hi => decide)
          (case loc => refine' PySem.W.mg_of (n := ("SignError" : Str)) KX G ?a; (case a => k_is))
          (case er => refine' Rv.er_of EA ?ha ?h1 ?lo ?hi ?sep ?cl ?hm ?hd ?ga ?gg ?gc ?sp ?tk ?kp ?ty; (case ha => rfl); (case h1 => rfl); (case lo => decide); (case hi => decide); (case cl => k_is); (case sep => decide); (case hm => rfl); (case hd => rfl); (case ga => k_is); (case gg => k_is); (case gc => k_is); (case sp => k_is); (case tk => k_is); (case kp => k_is); (case ty => k_is))
          (case mk0 => intro z; show PySem.W.excIn _ _ [.type "ValueError", .type "Exception", .type "BaseException", .type "object"] "ValueError.__new__" = true; k_exc)
          (case mkk => intro n pre z; cases z)
        · refine' Rv.ErOk.mk2 EA ?ha ?lo ?hi ?loc ?er ?mk0 ?mkk; (case ha => rfl); (case lo => decide); (case hi => decide)
          (case loc => refine' PySem.W.mg_of (n := ("BadStock" : Str)) KX G ?a; (case a => k_is))
          (case er => refine' Rv.er_of EA ?ha ?h1 ?lo ?hi ?sep ?cl ?hm ?hd ?ga ?gg ?gc ?sp ?tk ?kp ?ty; (case ha => rfl); (case h1 => rfl); (case lo => decide); (case hi => decide); (case cl => k_is); (case sep => decide); (case hm => rfl); (case hd => rfl); (case ga => k_is); (case gg => k_is); (case gc => k_is); (case sp => k_is); (case tk => k_is); (case kp => k_is); (case ty => k_is))
          (case mk0 => intro z; show PySem.W.excIn _ _ [.type "ValueError", .type "Exception", .type "BaseException", .type "object"] "ValueError.__new__" = true; k_exc)
          (case mkk => intro n pre z; cases z)
        · refine' Rv.ErOk.mk2 EA ?ha ?lo ?hi ?loc ?er ?mk0 ?mkk; (case ha => rfl); (case lo => decide); (case hi => decide)
          (case loc => refine' PySem.W.mg_of (n := ("BadName" : Str)) KX G ?a; (case a => k_is))
          (case er => refine' Rv.er_of EA ?ha ?h1 ?lo ?hi ?sep ?cl ?hm ?hd ?ga ?gg ?gc ?sp ?tk ?kp ?ty; (case ha => rfl); (case h1 => rfl); (case lo => decide); (case hi => decide); (case cl => k_is); (case sep => decide); (case hm => rfl); (case hd => rfl); (case ga => k_is); (case gg => k_is); (case gc => k_is); (case sp => k_is); (case tk => k_is); (case kp => k_is); (case ty => k_is))
          (case mk0 => intro z; show PySem.W.excIn _ _ [.type "ValueError", .type "Exception", .type "BaseException", .type "object"] "ValueError.__new__" = true; k_exc)
          (case mkk => intro n pre z; cases z)
        · refine' Rv.ErOk.mk2 EA ?ha ?lo ?hi ?loc ?er ?mk0 ?mkk; (case ha => rfl); (case lo => decide); (case hi => decide)
          (case loc => refine' PySem.W.mg_of (n := ("BadSign" : Str)) KX G ?a; (case a => k_is))
          (case er => refine' Rv.er_of EA ?ha ?h1 ?lo ?hi ?sep ?cl ?hm ?hd ?ga ?gg ?gc ?sp ?tk ?kp ?ty; (case ha => rfl); (case h1 => rfl); (case lo => decide); (case hi => decide); (case cl => k_is); (case sep => decide); (case hm => rfl); (case hd => rfl); (case ga => k_is); (case gg => k_is); (case gc => k_is); (case sp => k_is); (case tk => k_is); (case kp => k_is); (case ty => k_is))
          (case mk0 => intro z; show PySem.W.excIn _ _ [.type "ValueError", .type "Exception", .type "BaseException", .type "object"] "ValueError.__new__" = true; k_exc)
          (case mkk => intro n pre z; cases z)
        · refine' Rv.ErOk.mk2 EA ?ha ?lo ?hi ?loc ?er ?mk0 ?mkk; (case ha => rfl); (case lo => decide); (case hi => decide)
          (case loc => refine' PySem.W.mg_of (n := ("BadText" : Str)) KX G ?a; (case a => k_is))
          (case er => refine' Rv.er_of EA ?ha ?h1 ?lo ?hi ?sep ?cl ?hm ?hd ?ga ?gg ?gc ?sp ?tk ?kp ?ty; (case ha => rfl); (case h1 => rfl); (case lo => decide); (case hi => decide); (case cl => k_is); (case sep => decide); (case hm => rfl); (case hd => rfl); (case ga => k_is); (case gg => k_is); (case gc => k_is); (case sp => k_is); (case tk => k_is); (case kp => k_is); (case ty => k_is))
          (case mk0 => intro z; cases z)
          (case mkk =>
            intro n pre z
            obtain ⟨rfl, rfl⟩ := Prod.mk.inj (Option.some.inj z)
            intro C hC eC base k
            subst eC
            refine' Rv.kmk_of (sf := ("self" : Str)) hC (Rv.iniF_of ?l ?l2 ?r ?sa ?ex ?ty ?kc ?iC ?tI ?fl ?lf ?lf2 ?c1 ?c2 ?c2' ?c3 ?c4 ?c5 ?d1 ?d2 ?d2' ?g1 ?g2 ?b1 ?b2 ?k1 ?k2 ?k3 ?k4 ?k5 ?k6 ?k7 ?k8 ?k9 ?m1 ?m2 ?p1 ?p2 ?q1 ?q2 ?q3 ?q4 ?q5 ?r1 ?r2 ?r3 ?r4 ?s1 ?s2 ?s3)
            (case iC => k_is)
            (case lf => k_is)
            (case lf2 => rfl)
            (case l => k_is)
            (case l2 => rfl)
            (case r => first | rfl | decide | kernel_rfl)
            (case sa => k_is)
            (case ex => k_is)
            (case ty => k_is)
            (case kc => k_is)
            (case tI => k_is)
            (case fl => k_is)
            (case c1 => rfl)
            (case c2 => k_is)
            (case c2' => rfl)
            (case c3 => rfl)
            (case c4 => first | rfl | decide | kernel_rfl)
            (case c5 => k_is)
            (case d1 => rfl)
            (case d2 => k_is)
            (case d2' => rfl)
            (case g1 => rfl)
            (case g2 => rfl)
            (case b1 => rfl)
            (case b2 => (intro env; rfl))
            (case k1 => rfl)
            (case k2 => rfl)
            (case k3 => rfl)
            (case k4 => decide)
            (case k5 => rfl)
            (case k6 => rfl)
            (case k7 => rfl)
            (case k8 => rfl)
            (case k9 => decide)
            (case m1 => decide)
            (case m2 => decide)
            (case p1 => rfl)
            (case p2 => rfl)
            (case q1 => (intro a b; rfl))
            (case q2 => (intro a b; rfl))
            (case q3 => first | rfl | decide | kernel_rfl)
            (case q4 => (refine' PySem.W.mg_none_of KX G ?a; (case a => k_is)))
            (case q5 => k_is)
            (case r1 => k_is)
            (case r2 => first | rfl | decide | kernel_rfl)
            (case r3 => rfl)
            (case r4 => first | rfl | decide | kernel_rfl)
            (case s1 => k_is)
            (case s2 => k_is)
            (case s3 => decide)
          )
        · refine' Rv.ErOk.mk2 EA ?ha ?lo ?hi ?loc ?er ?mk0 ?mkk; (case ha => rfl); (case lo => decide); (case hi => decide)
          (case loc => refine' PySem.W.mg_of (n := ("BadPicture" : Str)) KX G ?a; (case a => k_is))
          (case er => refine' Rv.er_of EA ?ha ?h1 ?lo ?hi ?sep ?cl ?hm ?hd ?ga ?gg ?gc ?sp ?tk ?kp ?ty; (case ha => rfl); (case h1 => rfl); (case lo => decide); (case hi => decide); (case cl => k_is); (case sep => decide); (case hm => rfl); (case hd => rfl); (case ga => k_is); (case gg => k_is); (case gc => k_is); (case sp => k_is); (case tk => k_is); (case kp => k_is); (case ty => k_is))
          (case mk0 => intro z; show PySem.W.excIn _ _ [.type "ValueError", .type "Exception", .type "BaseException", .type "object"] "ValueError.__new__" = true; k_exc)
          (case mkk => intro n pre z; cases z)
        · refine' Rv.ErOk.mk2 EA ?ha ?lo ?hi ?loc ?er ?mk0 ?mkk; (case ha => rfl); (case lo => decide); (case hi => decide)
          (case loc => refine' PySem.W.mg_of (n := ("BadPath" : Str)) KX G ?a; (case a => k_is))
          (case er => refine' Rv.er_of EA ?ha ?h1 ?lo ?hi ?sep ?cl ?hm ?hd ?ga ?gg ?gc ?sp ?tk ?kp ?ty; (case ha => rfl); (case h1 => rfl); (case lo => decide); (case hi => decide); (case cl => k_is); (case sep => decide); (case hm => rfl); (case hd => rfl); (case ga => k_is); (case gg => k_is); (case gc => k_is); (case sp => k_is); (case tk => k_is); (case kp => k_is); (case ty => k_is))
          (case mk0 => intro z; show PySem.W.excIn _ _ [.type "ValueError", .type "Exception", .type "BaseException", .type "object"] "ValueError.__new__" = true; k_exc)
          (case mkk => intro n pre z; cases z)
        · refine' Rv.ErOk.mk2 EA ?ha ?lo ?hi ?loc ?er ?mk0 ?mkk; (case ha => rfl); (case lo => decide); (case hi => decide)
          (case loc => refine' PySem.W.mg_of (n := ("BadWord" : Str)) KX G ?a; (case a => k_is))
          (case er => refine' Rv.er_of EA ?ha ?h1 ?lo ?hi ?sep ?cl ?hm ?hd ?ga ?gg ?gc ?sp ?tk ?kp ?ty; (case ha => rfl); (case h1 => rfl); (case lo => decide); (case hi => decide); (case cl => k_is); (case sep => decide); (case hm => rfl); (case hd => rfl); (case ga => k_is); (case gg => k_is); (case gc => k_is); (case sp => k_is); (case tk => k_is); (case kp => k_is); (case ty => k_is))
          (case mk0 => intro z; show PySem.W.excIn _ _ [.type "ValueError", .type "Exception", .type "BaseException", .type "object"] "ValueError.__new__" = true; k_exc)
          (case mkk => intro n pre z; cases z)
        · refine' Rv.ErOk.mk2 EA ?ha ?lo ?hi ?loc ?er ?mk0 ?mkk; (case ha => rfl); (case lo => decide); (case hi => decide)
          (case loc => refine' PySem.W.mg_of (n := ("BadBox" : Str)) KX G ?a; (case a => k_is))
          (case er => refine' Rv.er_of EA ?ha ?h1 ?lo ?hi ?sep ?cl ?hm ?hd ?ga ?gg ?gc ?sp ?tk ?kp ?ty; (case ha => rfl); (case h1 => rfl); (case lo => decide); (case hi => decide); (case cl => k_is); (case sep => decide); (case hm => rfl); (case hd => rfl); (case ga => k_is); (case gg => k_is); (case gc => k_is); (case sp => k_is); (case tk => k_is); (case kp => k_is); (case ty => k_is))
          (case mk0 => intro z; show PySem.W.excIn _ _ [.type "ValueError", .type "Exception", .type "BaseException", .type "object"] "ValueError.__new__" = true; k_exc)
          (case mkk => intro n pre z; cases z)
        · refine' Rv.ErOk.mk2 EA ?ha ?lo ?hi ?loc ?er ?mk0 ?mkk; (case ha => rfl); (case lo => decide); (case hi => decide)
          (case loc => refine' PySem.W.mg_of (n := ("BadMove" : Str)) KX G ?a; (case a => k_is))
          (case er => refine' Rv.er_of EA ?ha ?h1 ?lo ?hi ?sep ?cl ?hm ?hd ?ga ?gg ?gc ?sp ?tk ?kp ?ty; (case ha => rfl); (case h1 => rfl); (case lo => decide); (case hi => decide); (case cl => k_is); (case sep => decide); (case hm => rfl); (case hd => rfl); (case ga => k_is); (case gg => k_is); (case gc => k_is); (case sp => k_is); (case tk => k_is); (case kp => k_is); (case ty => k_is))
          (case mk0 => intro z; show PySem.W.excIn _ _ [.type "ValueError", .type "Exception", .type "BaseException", .type "object"] "ValueError.__new__" = true; k_exc)
          (case mkk => intro n pre z; cases z)
        · refine' Rv.ErOk.mk2 EA ?ha ?lo ?hi ?loc ?er ?mk0 ?mkk; (case ha => rfl); (case lo => decide); (case hi => decide)
          (case loc => refine' PySem.W.mg_of (n := ("BadHand" : Str)) KX G ?a; (case a => k_is))
          (case er => refine' Rv.er_of EA ?ha ?h1 ?lo ?hi ?sep ?cl ?hm ?hd ?ga ?gg ?gc ?sp ?tk ?kp ?ty; (case ha => rfl); (case h1 => rfl); (case lo => decide); (case hi => decide); (case cl => k_is); (case sep => decide); (case hm => rfl); (case hd => rfl); (case ga => k_is); (case gg => k_is); (case gc => k_is); (case sp => k_is); (case tk => k_is); (case kp => k_is); (case ty => k_is))
          (case mk0 => intro z; show PySem.W.excIn _ _ [.type "ValueError", .type "Exception", .type "BaseException", .type "object"] "ValueError.__new__" = true; k_exc)
          (case mkk => intro n pre z; cases z)
        · refine' Rv.ErOk.mk2 EA ?ha ?lo ?hi ?loc ?er ?mk0 ?mkk; (case ha => rfl); (case lo => decide); (case hi => decide)
          (case loc => refine' PySem.W.mg_of (n := ("BadOrder" : Str)) KX G ?a; (case a => k_is))
          (case er => refine' Rv.er_of EA ?ha ?h1 ?lo ?hi ?sep ?cl ?hm ?hd ?ga ?gg ?gc ?sp ?tk ?kp ?ty; (case ha => rfl); (case h1 => rfl); (case lo => decide); (case hi => decide); (case cl => k_is); (case sep => decide); (case hm => rfl); (case hd => rfl); (case ga => k_is); (case gg => k_is); (case gc => k_is); (case sp => k_is); (case tk => k_is); (case kp => k_is); (case ty => k_is))
          (case mk0 => intro z; show PySem.W.excIn _ _ [.type "ValueError", .type "Exception", .type "BaseException", .type "object"] "ValueError.__new__" = true; k_exc)
          (case mkk => intro n pre z; cases z)
        · refine' Rv.ErOk.mk2 EA ?ha ?lo ?hi ?loc ?er ?mk0 ?mkk; (case ha => rfl); (case lo => decide); (case hi => decide)
          (case loc => refine' PySem.W.mg_of (n := ("BadBook" : Str)) KX G ?a; (case a => k_is))
          (case er => refine' Rv.er_of EA ?ha ?h1 ?lo ?hi ?sep ?cl ?hm ?hd ?ga ?gg ?gc ?sp ?tk ?kp ?ty; (case ha => rfl); (case h1 => rfl); (case lo => decide); (case hi => decide); (case cl => k_is); (case sep => decide); (case hm => rfl); (case hd => rfl); (case ga => k_is); (case gg => k_is); (case gc => k_is); (case sp => k_is); (case tk => k_is); (case kp => k_is); (case ty => k_is))
          (case mk0 => intro z; show PySem.W.excIn _ _ [.type "ValueError", .type "Exception", .type "BaseException", .type "object"] "ValueError.__new__" = true; k_exc)
          (case mkk => intro n pre z; cases z)
        · refine' Rv.ErOk.mk2 EA ?ha ?lo ?hi ?loc ?er ?mk0 ?mkk; (case ha => rfl); (case lo => decide); (case hi => decide)
          (case loc => refine' PySem.W.mg_of (n := ("BadKinds" : Str)) KX G ?a; (case a => k_is))
          (case er => refine' Rv.er_of EA ?ha ?h1 ?lo ?hi ?sep ?cl ?hm ?hd ?ga ?gg ?gc ?sp ?tk ?kp ?ty; (case ha => rfl); (case h1 => rfl); (case lo => decide); (case hi => decide); (case cl => k_is); (case sep => decide); (case hm => rfl); (case hd => rfl); (case ga => k_is); (case gg => k_is); (case gc => k_is); (case sp => k_is); (case tk => k_is); (case kp => k_is); (case ty => k_is))
          (case mk0 => intro z; show PySem.W.excIn _ _ [.type "ValueError", .type "Exception", .type "BaseException", .type "object"] "ValueError.__new__" = true; k_exc)
          (case mkk => intro n pre z; cases z)
        · refine' Rv.ErOk.mk2 EA ?ha ?lo ?hi ?loc ?er ?mk0 ?mkk; (case ha => rfl); (case lo => decide); (case hi => decide)
          (case loc => refine' PySem.W.mg_of (n := ("NoPutting" : Str)) KX G ?a; (case a => k_is))
          (case er => refine' Rv.er_of EA ?ha ?h1 ?lo ?hi ?sep ?cl ?hm ?hd ?ga ?gg ?gc ?sp ?tk ?kp ?ty; (case ha => rfl); (case h1 => rfl); (case lo => decide); (case hi => decide); (case cl => k_is); (case sep => decide); (case hm => rfl); (case hd => rfl); (case ga => k_is); (case gg => k_is); (case gc => k_is); (case sp => k_is); (case tk => k_is); (case kp => k_is); (case ty => k_is))
          (case mk0 => intro z; show PySem.W.excIn _ _ [.type "ValueError", .type "Exception", .type "BaseException", .type "object"] "ValueError.__new__" = true; k_exc)
          (case mkk => intro n pre z; cases z)
        · refine' Rv.ErOk.mk2 EA ?ha ?lo ?hi ?loc ?er ?mk0 ?mkk; (case ha => rfl); (case lo => decide); (case hi => decide)
          (case loc => refine' PySem.W.mg_of (n := ("BadSamples" : Str)) KX G ?a; (case a => k_is))
          (case er => refine' Rv.er_of EA ?ha ?h1 ?lo ?hi ?sep ?cl ?hm ?hd ?ga ?gg ?gc ?sp ?tk ?kp ?ty; (case ha => rfl); (case h1 => rfl); (case lo => decide); (case hi => decide); (case cl => k_is); (case sep => decide); (case hm => rfl); (case hd => rfl); (case ga => k_is); (case gg => k_is); (case gc => k_is); (case sp => k_is); (case tk => k_is); (case kp => k_is); (case ty => k_is))
          (case mk0 => intro z; show PySem.W.excIn _ _ [.type "ValueError", .type "Exception", .type "BaseException", .type "object"] "ValueError.__new__" = true; k_exc)
          (case mkk => intro n pre z; cases z)
        · refine' Rv.ErOk.mk2 EA ?ha ?lo ?hi ?loc ?er ?mk0 ?mkk; (case ha => rfl); (case lo => decide); (case hi => decide)
          (case loc => refine' PySem.W.mg_of (n := ("BadSigns" : Str)) KX G ?a; (case a => k_is))
          (case er => refine' Rv.er_of EA ?ha ?h1 ?lo ?hi ?sep ?cl ?hm ?hd ?ga ?gg ?gc ?sp ?tk ?kp ?ty; (case ha => rfl); (case h1 => rfl); (case lo => decide); (case hi => decide); (case cl => k_is); (case sep => decide); (case hm => rfl); (case hd => rfl); (case ga => k_is); (case gg => k_is); (case gc => k_is); (case sp => k_is); (case tk => k_is); (case kp => k_is); (case ty => k_is))
          (case mk0 => intro z; show PySem.W.excIn _ _ [.type "ValueError", .type "Exception", .type "BaseException", .type "object"] "ValueError.__new__" = true; k_exc)
          (case mkk => intro n pre z; cases z)
        · refine' Rv.ErOk.mk2 EA ?ha ?lo ?hi ?loc ?er ?mk0 ?mkk; (case ha => rfl); (case lo => decide); (case hi => decide)
          (case loc => refine' PySem.W.mg_of (n := ("BadSorts" : Str)) KX G ?a; (case a => k_is))
          (case er => refine' Rv.er_of EA ?ha ?h1 ?lo ?hi ?sep ?cl ?hm ?hd ?ga ?gg ?gc ?sp ?tk ?kp ?ty; (case ha => rfl); (case h1 => rfl); (case lo => decide); (case hi => decide); (case cl => k_is); (case sep => decide); (case hm => rfl); (case hd => rfl); (case ga => k_is); (case gg => k_is); (case gc => k_is); (case sp => k_is); (case tk => k_is); (case kp => k_is); (case ty => k_is))
          (case mk0 => intro z; show PySem.W.excIn _ _ [.type "ValueError", .type "Exception", .type "BaseException", .type "object"] "ValueError.__new__" = true; k_exc)
          (case mkk => intro n pre z; cases z)
        · refine' Rv.ErOk.mk2 EA ?ha ?lo ?hi ?loc ?er ?mk0 ?mkk; (case ha => rfl); (case lo => decide); (case hi => decide)
          (case loc => refine' PySem.W.mg_of (n := ("BadStroke" : Str)) KX G ?a; (case a => k_is))
          (case er => refine' Rv.er_of EA ?ha ?h1 ?lo ?hi ?sep ?cl ?hm ?hd ?ga ?gg ?gc ?sp ?tk ?kp ?ty; (case ha => rfl); (case h1 => rfl); (case lo => decide); (case hi => decide); (case cl => k_is); (case sep => decide); (case hm => rfl); (case hd => rfl); (case ga => k_is); (case gg => k_is); (case gc => k_is); (case sp => k_is); (case tk => k_is); (case kp => k_is); (case ty => k_is))
          (case mk0 => intro z; show PySem.W.excIn _ _ [.type "ValueError", .type "Exception", .type "BaseException", .type "object"] "ValueError.__new__" = true; k_exc)
          (case mkk => intro n pre z; cases z)
        · refine' Rv.ErOk.mk2 EA ?ha ?lo ?hi ?loc ?er ?mk0 ?mkk; (case ha => rfl); (case lo => decide); (case hi => decide)
          (case loc => refine' PySem.W.mg_of (n := ("BadGrid" : Str)) KX G ?a; (case a => k_is))
          (case er => refine' Rv.er_of EA ?ha ?h1 ?lo ?hi ?sep ?cl ?hm ?hd ?ga ?gg ?gc ?sp ?tk ?kp ?ty; (case ha => rfl); (case h1 => rfl); (case lo => decide); (case hi => decide); (case cl => k_is); (case sep => decide); (case hm => rfl); (case hd => rfl); (case ga => k_is); (case gg => k_is); (case gc => k_is); (case sp => k_is); (case tk => k_is); (case kp => k_is); (case ty => k_is))
          (case mk0 => intro z; show PySem.W.excIn _ _ [.type "ValueError", .type "Exception", .type "BaseException", .type "object"] "ValueError.__new__" = true; k_exc)
          (case mkk => intro n pre z; cases z)
        · refine' Rv.ErOk.mk2 EA ?ha ?lo ?hi ?loc ?er ?mk0 ?mkk; (case ha => rfl); (case lo => decide); (case hi => decide)
          (case loc => refine' PySem.W.mg_of (n := ("BadCount" : Str)) KX G ?a; (case a => k_is))
          (case er => refine' Rv.er_of EA ?ha ?h1 ?lo ?hi ?sep ?cl ?hm ?hd ?ga ?gg ?gc ?sp ?tk ?kp ?ty; (case ha => rfl); (case h1 => rfl); (case lo => decide); (case hi => decide); (case cl => k_is); (case sep => decide); (case hm => rfl); (case hd => rfl); (case ga => k_is); (case gg => k_is); (case gc => k_is); (case sp => k_is); (case tk => k_is); (case kp => k_is); (case ty => k_is))
          (case mk0 => intro z; show PySem.W.excIn _ _ [.type "ValueError", .type "Exception", .type "BaseException", .type "object"] "ValueError.__new__" = true; k_exc)
          (case mkk => intro n pre z; cases z)
        · refine' Rv.ErOk.mk2 EA ?ha ?lo ?hi ?loc ?er ?mk0 ?mkk; (case ha => rfl); (case lo => decide); (case hi => decide)
          (case loc => refine' PySem.W.mg_of (n := ("BadCut" : Str)) KX G ?a; (case a => k_is))
          (case er => refine' Rv.er_of EA ?ha ?h1 ?lo ?hi ?sep ?cl ?hm ?hd ?ga ?gg ?gc ?sp ?tk ?kp ?ty; (case ha => rfl); (case h1 => rfl); (case lo => decide); (case hi => decide); (case cl => k_is); (case sep => decide); (case hm => rfl); (case hd => rfl); (case ga => k_is); (case gg => k_is); (case gc => k_is); (case sp => k_is); (case tk => k_is); (case kp => k_is); (case ty => k_is))
          (case mk0 => intro z; show PySem.W.excIn _ _ [.type "ValueError", .type "Exception", .type "BaseException", .type "object"] "ValueError.__new__" = true; k_exc)
          (case mkk => intro n pre z; cases z)
        · refine' Rv.ErOk.mk2 EA ?ha ?lo ?hi ?loc ?er ?mk0 ?mkk; (case ha => rfl); (case lo => decide); (case hi => decide)
          (case loc => refine' PySem.W.mg_of (n := ("NothingToUndo" : Str)) KX G ?a; (case a => k_is))
          (case er => refine' Rv.er_of EA ?ha ?h1 ?lo ?hi ?sep ?cl ?hm ?hd ?ga ?gg ?gc ?sp ?tk ?kp ?ty; (case ha => rfl); (case h1 => rfl); (case lo => decide); (case hi => decide); (case cl => k_is); (case sep => decide); (case hm => rfl); (case hd => rfl); (case ga => k_is); (case gg => k_is); (case gc => k_is); (case sp => k_is); (case tk => k_is); (case kp => k_is); (case ty => k_is))
          (case mk0 => intro z; show PySem.W.excIn _ _ [.type "ValueError", .type "Exception", .type "BaseException", .type "object"] "ValueError.__new__" = true; k_exc)
          (case mkk => intro n pre z; cases z)
        · refine' Rv.ErOk.mk2 EA ?ha ?lo ?hi ?loc ?er ?mk0 ?mkk; (case ha => rfl); (case lo => decide); (case hi => decide)
          (case loc => refine' PySem.W.mg_of (n := ("Full" : Str)) KX G ?a; (case a => k_is))
          (case er => refine' Rv.er_of EA ?ha ?h1 ?lo ?hi ?sep ?cl ?hm ?hd ?ga ?gg ?gc ?sp ?tk ?kp ?ty; (case ha => rfl); (case h1 => rfl); (case lo => decide); (case hi => decide); (case cl => k_is); (case sep => decide); (case hm => rfl); (case hd => rfl); (case ga => k_is); (case gg => k_is); (case gc => k_is); (case sp => k_is); (case tk => k_is); (case kp => k_is); (case ty => k_is))
          (case mk0 => intro z; show PySem.W.excIn _ _ [.type "ValueError", .type "Exception", .type "BaseException", .type "object"] "ValueError.__new__" = true; k_exc)
          (case mkk => intro n pre z; cases z)
        · refine' Rv.ErOk.mk2 EA ?ha ?lo ?hi ?loc ?er ?mk0 ?mkk; (case ha => rfl); (case lo => decide); (case hi => decide)
          (case loc => refine' PySem.W.mg_of (n := ("BadCommand" : Str)) KX G ?a; (case a => k_is))
          (case er => refine' Rv.er_of EA ?ha ?h1 ?lo ?hi ?sep ?cl ?hm ?hd ?ga ?gg ?gc ?sp ?tk ?kp ?ty; (case ha => rfl); (case h1 => rfl); (case lo => decide); (case hi => decide); (case cl => k_is); (case sep => decide); (case hm => rfl); (case hd => rfl); (case ga => k_is); (case gg => k_is); (case gc => k_is); (case sp => k_is); (case tk => k_is); (case kp => k_is); (case ty => k_is))
          (case mk0 => intro z; show PySem.W.excIn _ _ [.type "ValueError", .type "Exception", .type "BaseException", .type "object"] "ValueError.__new__" = true; k_exc)
          (case mkk => intro n pre z; cases z)
        · refine' Rv.ErOk.mk2 EA ?ha ?lo ?hi ?loc ?er ?mk0 ?mkk; (case ha => rfl); (case lo => decide); (case hi => decide)
          (case loc => refine' PySem.W.mg_of (n := ("TooMany" : Str)) KX G ?a; (case a => k_is))
          (case er => refine' Rv.er_of EA ?ha ?h1 ?lo ?hi ?sep ?cl ?hm ?hd ?ga ?gg ?gc ?sp ?tk ?kp ?ty; (case ha => rfl); (case h1 => rfl); (case lo => decide); (case hi => decide); (case cl => k_is); (case sep => decide); (case hm => rfl); (case hd => rfl); (case ga => k_is); (case gg => k_is); (case gc => k_is); (case sp => k_is); (case tk => k_is); (case kp => k_is); (case ty => k_is))
          (case mk0 => intro z; show PySem.W.excIn _ _ [.type "ValueError", .type "Exception", .type "BaseException", .type "object"] "ValueError.__new__" = true; k_exc)
          (case mkk => intro n pre z; cases z)
