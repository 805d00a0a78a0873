import PyProof.Rows.All
import Wide.All
import OpenK.AllK
import Wide.FinOn
import PyProof.EqAt
import PyProof.EqKinds
import PyProof.TupleCall
import HandS.ForMost
import HandS.WordsExc
import HandS.TryMany
import HandS.Lambda
import HandS.Wide
import HandS.Gcd
import HandS.FStr
import HandS.RaiseMore
import HandS.CallSlots
import HandS.TupAny
import HandS.TupMul
import HandS.StrMore
import HandS.TupLe
import HandS.NoneIn
import HandS.Zip
import HandS.TryOnly
import HandS.Defaults
import HandS.HeadHook4
import HandS.HeadWalk
import HandS.Head2
import HandS.Head3
import PySem.Challenge.RW_stepwright_k01_parts_and_rows
/-! ## PV1 -/
section
set_option Elab.async false
set_option linter.all false
set_option maxRecDepth 100000
set_option maxHeartbeats 4000000
/-! A plain evaluator of a part of Python by values: data, cells (lists that change), expressions, statements. -/
namespace PV
open PySem L2

inductive D where
  | non | bl (b : Bool) | int (i : Int) | str (s : Str)
  | tup (l : List D) | lst (l : List D) | frz (l : List D)
  | cell (n : Nat) | lam (n : Nat)

/-- the cells: a list that stands and may change, or none (given up) -/
abbrev Gs := List (Option (List D))

inductive R (α : Type) where
  | ok (a : α) (G : Gs)
  | exc (c : Nat) (G : Gs)
  | bad
def R.bind {α β : Type} (r : R α) (f : α → Gs → R β) : R β := match r with
  | .ok a G => f a G
  | .exc c G => .exc c G
  | .bad => .bad
def R.of {α : Type} (o : Option α) (G : Gs) : R α := match o with
  | some a => .ok a G
  | none => .bad
/-- no exception may pass -/
def R.calm {α : Type} : R α → R α
  | .ok a G => .ok a G
  | .exc _ _ => .bad
  | .bad => .bad

mutual
def toPy : D → Option PyData
  | .non => some .none
  | .bl b => some (.bool b)
  | .int i => some (.int i)
  | .str s => some (.str s)
  | .tup l => (toPys l).map .tuple
  | .lst l => (toPys l).map .list
  | .frz l => (toPys l).map .list
  | .cell _ => none
  | .lam _ => none
def toPys : List D → Option (List PyData)
  | [] => some []
  | d :: ds => match toPy d, toPys ds with
    | some p, some ps => some (p :: ps)
    | _, _ => none
end

inductive Bop where | add | sub | mul | fdiv | mod | pow
  deriving DecidableEq
inductive Cop where | eq | ne | lt | le | gt | ge | isIn | notIn | isN | notN
  deriving DecidableEq
inductive Pr where | len | abs | max1 | min1 | max2 | min2 | sum | list | tuple | int | str | gcd
  deriving DecidableEq
inductive Mt where | partition | removeprefix | strip1 | join | split1 | count
  deriving DecidableEq

abbrev okMul (i j : Int) : Bool := decide (i.natAbs.log2 + j.natAbs.log2 < 100000000)
abbrev okDiv (j : Int) : Bool := (decide (0 < j) && decide (j.natAbs.log2 < 9000)) || (decide (j ≠ 0) && decide (j.natAbs < 1073741824))

def binD : Bop → D → D → Option D
  | .add, .int i, .int j => some (.int (i + j))
  | .add, .str a, .str b => if a.length + b.length ≤ sizeLine then some (.str (a ++ b)) else none
  | .add, .tup a, .tup b => if a.length + b.length ≤ sizeLine then some (.tup (a ++ b)) else none
  | .add, .lst a, .lst b => if a.length + b.length ≤ sizeLine then some (.lst (a ++ b)) else none
  | .sub, .int i, .int j => some (.int (i - j))
  | .mul, .int i, .int j => if okMul i j then some (.int (i * j)) else none
  | .mul, .lst a, .int k => if 0 ≤ k ∧ k ≤ 1000 ∧ a.length ≤ 1000 then some (.lst (List.replicate k.toNat a).flatten) else none
  | .fdiv, .int i, .int j => if okDiv j then some (.int (i.fdiv j)) else none
  | .mod, .int i, .int j => if j ≠ 0 then some (.int (i.fmod j)) else none
  | .pow, .int i, .int j => if 0 ≤ j ∧ j ≤ 1000000 ∧ i.natAbs < 2 ^ 64 then some (.int (i ^ j.toNat)) else none
  | _, _, _ => none

def eqD (a b : D) : Option Bool := match toPy a, toPy b with
  | some p, some q => if SeqAt.shaped p && SeqAt.shaped q then some (PyData.eqv p q) else none
  | _, _ => none

def isFlat : D → Bool
  | .non | .bl _ | .int _ | .str _ => true
  | _ => false

def isNonD : D → Bool
  | .non => true
  | _ => false
def cmpD : Cop → D → D → Option Bool
  | .eq, a, b => eqD a b
  | .ne, a, b => (eqD a b).map (!·)
  | .lt, .int i, .int j => some (decide (i < j))
  | .le, .int i, .int j => some (decide (i ≤ j))
  | .gt, .int i, .int j => some (decide (j < i))
  | .ge, .int i, .int j => some (decide (j ≤ i))
  | .isIn, .str i, .str j => some (!(Builtin.Str.occurrences j i 0 j.length 1).isEmpty)
  | .notIn, .str i, .str j => some (!(!(Builtin.Str.occurrences j i 0 j.length 1).isEmpty))
  | .isN, a, .non => some (isNonD a)
  | .notN, a, .non => some (!isNonD a)
  | _, _, _ => none

def intsD : List D → Option (List Int)
  | [] => some []
  | .int i :: r => (intsD r).map (i :: ·)
  | _ :: _ => none
def strsD : List D → Option (List Str)
  | [] => some []
  | .str i :: r => (strsD r).map (i :: ·)
  | _ :: _ => none

def maxI : List Int → Option Int
  | [] => none
  | x :: r => some (r.foldl (fun a b => if b > a then b else a) x)
def minI : List Int → Option Int
  | [] => none
  | x :: r => some (r.foldl (fun a b => if b < a then b else a) x)

def lstOf : D → Option (List D)
  | .lst l => some l
  | .frz l => some l
  | _ => none
def seqOf : D → Option (List D)
  | .tup l => some l
  | .lst l => some l
  | .frz l => some l
  | _ => none

/-- what may be walked -/
def walkOf : D → Option (List D)
  | .tup l => some l
  | .lst l => some l
  | .frz l => some l
  | .str s => some (s.cps.toList.map fun c => .str ⟨#[c]⟩)
  | _ => none

def pLen (G : Gs) : List D → Option D
  | [.str s] => if s.length ≤ sizeLine then some (.int s.length) else none
  | [.cell n] => match G[n]? with
    | some (some l) => some (.int l.length)
    | _ => none
  | [d] => (seqOf d).map fun l => .int l.length
  | _ => none
def pAbs : List D → Option D
  | [.int i] => some (.int (if i < 0 then -i else i))
  | _ => none
def pMax2 : List D → Option D
  | [.int i, .int j] => some (.int (if j > i then j else i))
  | _ => none
def pMin2 : List D → Option D
  | [.int i, .int j] => some (.int (if j < i then j else i))
  | _ => none
def pMax1 : List D → Option D
  | [d] => ((lstOf d).bind intsD).bind fun ns => (maxI ns).map .int
  | _ => none
def pMin1 : List D → Option D
  | [d] => ((lstOf d).bind intsD).bind fun ns => (minI ns).map .int
  | _ => none
def pSum : List D → Option D
  | [d] => ((lstOf d).bind intsD).map fun ns => .int ns.sum
  | _ => none
def pList : List D → Option D
  | [d] => (seqOf d).map .lst
  | _ => none
def pTuple : List D → Option D
  | [d] => (seqOf d).map .tup
  | _ => none
def pInt : List D → Option D
  | [.int i] => some (.int i)
  | [.bl b] => some (.int (if b then 1 else 0))
  | [.str s] => match PySem.intText? s with
    | some n => if s.length ≤ 640 then some (.int n) else none
    | none => none
  | _ => none
def pStr : List D → Option D
  | [.int i] => if i.natAbs.log2 < 1920 then some (.str (toString i)) else none
  | _ => none
def pGcd : List D → Option D
  | [.int a, .int b] => some (.int (Nat.gcd a.natAbs b.natAbs : Nat))
  | _ => none
def prim (G : Gs) (p : Pr) (ds : List D) : Option D := match p with
  | .len => pLen G ds
  | .abs => pAbs ds
  | .max1 => pMax1 ds
  | .min1 => pMin1 ds
  | .max2 => pMax2 ds
  | .min2 => pMin2 ds
  | .sum => pSum ds
  | .list => pList ds
  | .tuple => pTuple ds
  | .int => pInt ds
  | .str => pStr ds
  | .gcd => pGcd ds

def joinSize (a : Str) (ys : List Str) : Bool := decide ((ys.map (·.length)).sum + ys.length * a.length ≤ 16777216)

def mPartition (a : Str) : List D → Option D
  | [.str b] => if (b.length == 0) = false ∧ a.length ≤ sizeLine then some (.tup [.str (Txt.partition a b).1, .str (Txt.partition a b).2.1, .str (Txt.partition a b).2.2]) else none
  | _ => none
def mRemove (a : Str) : List D → Option D
  | [.str b] => if a.length ≤ sizeLine then some (.str (Txt.removeprefix a b)) else none
  | _ => none
def mStrip (a : Str) : List D → Option D
  | [.str b] => if a.length ≤ sizeLine then some (.str (Txt.stripChars a b)) else none
  | _ => none
def mJoin (a : Str) : List D → Option D
  | [d] => ((seqOf d).bind strsD).bind fun ys => if joinSize a ys then some (.str (Txt.join a ys)) else none
  | _ => none
def mSplit (a : Str) : List D → Option D
  | [.str b] => if (b.length == 0) = false ∧ a.length + 2 ≤ sizeLine then some (.lst ((Txt.split a b).map .str)) else none
  | _ => none
def mCount (a : Str) : List D → Option D
  | [.str b] => some (.int (Txt.count a b))
  | _ => none
def meth (m : Mt) (a : Str) (ds : List D) : Option D := match m with
  | .partition => mPartition a ds
  | .removeprefix => mRemove a ds
  | .strip1 => mStrip a ds
  | .join => mJoin a ds
  | .split1 => mSplit a ds
  | .count => mCount a ds

abbrev Env := List (Option D)

inductive Tg where
  | nm (i : Nat)
  | tp (l : List Nat)

mutual
inductive E where
  | var (i : Nat) | con (d : D)
  | bin (o : Bop) (a b : E) | not (a : E) | neg (a : E)
  | and (a b : E) | or (a b : E) | ite (c a b : E)
  | cmp (o : Cop) (a b : E) | chain (o1 o2 : Cop) (a b c : E)
  | tup (es : List E) | lst (es : List E) | lstC (es : List E)
  | call (f : Nat) (es : List E)
  | prim (p : Pr) (es : List E) | meth (m : Mt) (a : E) (es : List E)
  | ix (a b : E) | sl (a : E) (lo hi : Option E)
  | comp (own : List Nat) (el : E) (tg : Tg) (it : It) (cs : List E)
  | told (b : E) | lam (k : Nat)
  | fv (a : E) | fmt (es : List E)
inductive It where
  | seq (a : E) | rng1 (a : E) | rng2 (a b : E) | zip2 (a b : E)
end

def assign (ρ : Env) : Tg → D → Option Env
  | .nm i, d => some (ρ.set i (some d))
  | .tp l, .tup ds => if l.length = ds.length then some ((l.zip ds).foldl (fun r p => r.set p.1 (some p.2)) ρ) else none
  | .tp l, .lst ds => if l.length = ds.length then some ((l.zip ds).foldl (fun r p => r.set p.1 (some p.2)) ρ) else none
  | .tp _, _ => none

def wipeE (ρ : Env) : List Nat → Env
  | [] => ρ
  | v :: vs => (wipeE ρ vs).set v none

structure Sem where
  cal : Nat → List D → Gs → R D
  lam : Nat → Gs → R D
  told : Nat → Option Str

def compL (f : D → Gs → R (Option D)) : List D → Gs → R (List D)
  | [], G => .ok [] G
  | d :: ds, G => (f d G).bind fun o G1 => (compL f ds G1).bind fun r G2 => match o with
    | some y => .ok (y :: r) G2
    | none => .ok r G2

def rangeD (lo hi : Int) : List D := (List.range (hi - lo).toNat).map fun (k : Nat) => .int (lo + (k : Int))

def atD {α : Type} (xs : List α) (i : Int) : Option α := atI xs i

def ixD (G : Gs) : D → D → Option D
  | .tup l, .int i => atI l i
  | .lst l, .int i => atI l i
  | .frz l, .int i => atI l i
  | .cell n, .int i => match G[n]? with
    | some (some l) => atI l i
    | _ => none
  | .str z, .int i => if z.length ≤ sizeLine then (atI z.cps.toList i).map fun c => .str ⟨#[c]⟩ else none
  | _, _ => none

def cutD (xs : List D) (lo hi : Option Int) : List D := (xs.drop (HT.sIx xs.length 0 lo)).take (HT.sIx xs.length xs.length hi - HT.sIx xs.length 0 lo)
def slD : D → Option Int → Option Int → Option D
  | .tup l, lo, hi => some (.tup (cutD l lo hi))
  | .lst l, lo, hi => some (.lst (cutD l lo hi))
  | .frz l, lo, hi => some (.lst (cutD l lo hi))
  | .str z, lo, hi => if z.length ≤ sizeLine then some (.str (cutS z lo hi)) else none
  | _, _, _ => none

def fvD : D → Option D
  | .str y => if y.length ≤ sizeLine then some (.str y) else none
  | .int i => if i.natAbs.log2 < 1920 then some (.str (toString i)) else none
  | _ => none
def zipD : D → D → Option (List D)
  | .lst xs, .lst ys => if xs.length = ys.length then some ((xs.zip ys).map fun p => .tup [p.1, p.2]) else none
  | .tup xs, .tup ys => if xs.length = ys.length then some ((xs.zip ys).map fun p => .tup [p.1, p.2]) else none
  | _, _ => none

def toldR (S : Sem) : R D → R D
  | .ok d G => .ok d G
  | .exc c G => match S.told c with
    | some r => .ok (.str r) G
    | none => .bad
  | .bad => .bad

mutual
def evE (S : Sem) (ρ : Env) : E → Gs → R D
  | .var i, G => match ρ[i]? with
    | some (some d) => .ok d G
    | _ => .bad
  | .con d, G => .ok d G
  | .bin o a b, G => (evE S ρ a G).bind fun x G1 => (evE S ρ b G1).bind fun y G2 => .of (binD o x y) G2
  | .not a, G => (evE S ρ a G).bind fun x G1 => match x with
    | .bl b => .ok (.bl (!b)) G1
    | _ => .bad
  | .neg a, G => (evE S ρ a G).bind fun x G1 => match x with
    | .int i => .ok (.int (-i)) G1
    | _ => .bad
  | .and a b, G => (evE S ρ a G).bind fun x G1 => match x with
    | .bl true => evE S ρ b G1
    | .bl false => .ok (.bl false) G1
    | _ => .bad
  | .or a b, G => (evE S ρ a G).bind fun x G1 => match x with
    | .bl true => .ok (.bl true) G1
    | .bl false => evE S ρ b G1
    | _ => .bad
  | .ite c a b, G => (evE S ρ c G).bind fun x G1 => match x with
    | .bl true => evE S ρ a G1
    | .bl false => evE S ρ b G1
    | _ => .bad
  | .cmp o a b, G => (evE S ρ a G).bind fun x G1 => (evE S ρ b G1).bind fun y G2 => .of ((cmpD o x y).map .bl) G2
  | .chain o1 o2 a b c, G => (evE S ρ a G).bind fun x G1 => (evE S ρ b G1).bind fun y G2 => match cmpD o1 x y with
    | some true => (evE S ρ c G2).bind fun z G3 => .of ((cmpD o2 y z).map .bl) G3
    | some false => .ok (.bl false) G2
    | none => .bad
  | .tup es, G => (evEs S ρ es G).bind fun ds G1 => if ds.length ≤ sizeLine then .ok (.tup ds) G1 else .bad
  | .lst es, G => (evEs S ρ es G).bind fun ds G1 => if ds.length ≤ sizeLine then .ok (.lst ds) G1 else .bad
  | .lstC es, G => (evEs S ρ es G).bind fun ds G1 => if ds.length ≤ sizeLine then .ok (.cell G1.length) (G1 ++ [some ds]) else .bad
  | .call f es, G => (evEs S ρ es G).bind fun ds G1 => S.cal f ds G1
  | .prim p es, G => (evEs S ρ es G).bind fun ds G1 => .of (prim G1 p ds) G1
  | .meth m a es, G => (evE S ρ a G).bind fun x G1 => match x with
    | .str s => (evEs S ρ es G1).bind fun ds G2 => .of (meth m s ds) G2
    | _ => .bad
  | .ix a b, G => (evE S ρ a G).bind fun x G1 => (evE S ρ b G1).bind fun y G2 => .of (ixD G2 x y) G2
  | .sl a lo hi, G => (evE S ρ a G).bind fun x G1 => (evO S ρ lo G1).bind fun l G2 => (evO S ρ hi G2).bind fun h G3 => .of (slD x l h) G3
  | .comp own el tg it cs, G => (evI S ρ it G).bind fun ds G1 =>
      ((compL (fun d G2 => match assign (wipeE ρ own) tg d with
        | some ρ' => (evT S ρ' cs G2).bind fun b G3 => if b then (evE S ρ' el G3).bind fun y G4 => .ok (some y) G4 else .ok none G3
        | none => .bad) ds G1).calm).bind fun ys G5 => if ys.length < sizeLine then .ok (.lst ys) G5 else .bad
  | .told b, G => toldR S (evE S ρ b G)
  | .fv a, G => (evE S ρ a G).bind fun x G1 => .of (fvD x) G1
  | .fmt es, G => evF S ρ es Str.empty G
  | .lam k, G => .ok (.lam k) G
def evEs (S : Sem) (ρ : Env) : List E → Gs → R (List D)
  | [], G => .ok [] G
  | e :: es, G => (evE S ρ e G).bind fun d G1 => (evEs S ρ es G1).bind fun ds G2 => .ok (d :: ds) G2
def evF (S : Sem) (ρ : Env) : List E → Str → Gs → R D
  | [], acc, G => .ok (.str acc) G
  | e :: es, acc, G => (evE S ρ e G).bind fun d G1 => match d with
    | .str y => if (acc ++ y).length ≤ sizeLine then evF S ρ es (acc ++ y) G1 else .bad
    | _ => .bad
def evO (S : Sem) (ρ : Env) : Option E → Gs → R (Option Int)
  | none, G => .ok none G
  | some e, G => (evE S ρ e G).bind fun d G1 => match d with
    | .int i => .ok (some i) G1
    | _ => .bad
/-- tests one after another -/
def evT (S : Sem) (ρ : Env) : List E → Gs → R Bool
  | [], G => .ok true G
  | e :: es, G => (evE S ρ e G).bind fun d G1 => match d with
    | .bl true => evT S ρ es G1
    | .bl false => .ok false G1
    | _ => .bad
def evI (S : Sem) (ρ : Env) : It → Gs → R (List D)
  | .seq a, G => (evE S ρ a G).bind fun x G1 => .of (walkOf x) G1
  | .rng1 a, G => (evE S ρ a G).bind fun x G1 => match x with
    | .int j => if -(2 ^ 62) ≤ j ∧ j < 2 ^ 62 then .ok (rangeD 0 j) G1 else .bad
    | _ => .bad
  | .rng2 a b, G => (evE S ρ a G).bind fun x G1 => (evE S ρ b G1).bind fun y G2 => match x, y with
    | .int i, .int j => if (-(2 ^ 62) ≤ i ∧ i < 2 ^ 62) ∧ (-(2 ^ 62) ≤ j ∧ j < 2 ^ 62) then .ok (rangeD i j) G2 else .bad
    | _, _ => .bad
  | .zip2 a b, G => (evE S ρ a G).bind fun x G1 => (evE S ρ b G1).bind fun y G2 => .of (zipD x y) G2
end

/-- what a statement leaves -/
inductive F where
  | next (ρ : Env) (G : Gs) | ret (d : D) (G : Gs) | brk (ρ : Env) (G : Gs) | cont (ρ : Env) (G : Gs) | exc (c : Nat) (G : Gs) | bad
def F.then : F → (Env → Gs → F) → F
  | .next ρ G, f => f ρ G
  | .ret d G, _ => .ret d G
  | .brk ρ G, _ => .brk ρ G
  | .cont ρ G, _ => .cont ρ G
  | .exc c G, _ => .exc c G
  | .bad, _ => .bad
def R.go {α : Type} (r : R α) (f : α → Gs → F) : F := match r with
  | .ok a G => f a G
  | .exc c G => .exc c G
  | .bad => .bad

inductive St where
  | set (t : Tg) (e : E)
  | setC (i : Nat) (e : E)          -- name = [..] (a comprehension)
  | setix (o i e : E)
  | ex (e : E)
  | ret (e : E)
  | ite (c : E) (a b : List St)
  | for_ (t : Tg) (it : It) (b : List St)
  | raise (c : Nat) (e : E)
  | pass

def forL (f : D → Env → Gs → F) : List D → Env → Gs → F
  | [], ρ, G => .next ρ G
  | d :: ds, ρ, G => match f d ρ G with
    | .next ρ' G' => forL f ds ρ' G'
    | .cont ρ' G' => forL f ds ρ' G'
    | .brk ρ' G' => .next ρ' G'
    | .ret d G' => .ret d G'
    | .exc c G' => .exc c G'
    | .bad => .bad

def setD (G : Gs) : D → D → D → Option Gs
  | .cell n, .int k, v => match G[n]? with
    | some (some l) => match ixN l.length k with
      | some j => some (G.set n (some (l.set j v)))
      | none => none
    | _ => none
  | _, _, _ => none

mutual
def evS (S : Sem) : St → Env → Gs → F
  | .set t e, ρ, G => (evE S ρ e G).go fun d G1 => match assign ρ t d with
    | some ρ' => .next ρ' G1
    | none => .bad
  | .setC i e, ρ, G => (evE S ρ e G).go fun d G1 => .next (ρ.set i (some d)) G1
  | .setix o i e, ρ, G => (evE S ρ e G).go fun v G1 => (evE S ρ o G1).go fun x G2 => (evE S ρ i G2).go fun y G3 => match setD G3 x y v with
    | some G4 => .next ρ G4
    | none => .bad
  | .ex e, ρ, G => (evE S ρ e G).go fun _ G1 => .next ρ G1
  | .ret e, ρ, G => (evE S ρ e G).go fun d G1 => .ret d G1
  | .ite c a b, ρ, G => (evE S ρ c G).go fun x G1 => match x with
    | .bl true => evB S a ρ G1
    | .bl false => evB S b ρ G1
    | _ => .bad
  | .for_ t it b, ρ, G => (evI S ρ it G).go fun ds G1 => forL (fun d ρ1 G2 => match assign ρ1 t d with
    | some ρ2 => evB S b ρ2 G2
    | none => .bad) ds ρ G1
  | .raise c e, ρ, G => (evE S ρ e G).go fun _ G1 => .exc c G1
  | .pass, ρ, G => .next ρ G
def evB (S : Sem) : List St → Env → Gs → F
  | [], ρ, G => .next ρ G
  | s :: r, ρ, G => (evS S s ρ G).then fun ρ' G' => evB S r ρ' G'
end

structure Fn where
  np : Nat
  ns : Nat
  body : List St

structure Prog where
  fns : List Fn
  lams : List E
  told : Nat → Option Str
  toldI : Nat

def runFn (S : Sem) (f : Fn) (args : List D) (G : Gs) : R D :=
  if args.length = f.np then (match evB S f.body (args.map some ++ List.replicate (f.ns - f.np) none) G with
    | .next _ G' => .ok .non G'
    | .ret d G' => .ok d G'
    | .exc c G' => .exc c G'
    | _ => .bad) else .bad
/-- the def that tells, called with a kept lambda -/
def toldCal (S : Sem) (L : Nat → Gs → R D) (ds : List D) (G : Gs) : R D := match ds with
  | [.lam k] => toldR S (L k G)
  | _ => .bad
def lamAt (S : Sem) (P : Prog) (k : Nat) (G : Gs) : R D := match P.lams[k]? with
  | some e => evE S [] e G
  | none => .bad
def calAt (S : Sem) (P : Prog) (g : Nat) (args : List D) (G : Gs) : R D := if g = P.toldI then toldCal S (lamAt S P) args G else match P.fns[g]? with
  | some f => runFn S f args G
  | none => .bad
def semAt (P : Prog) : Nat → Sem
  | 0 => ⟨fun _ _ _ => .bad, fun _ _ => .bad, P.told⟩
  | n + 1 => ⟨calAt (semAt P n) P, lamAt (semAt P n) P, P.told⟩
end PV
end
/-! ## PV2 -/
section
set_option Elab.async false
set_option linter.all false
set_option maxRecDepth 100000
set_option maxHeartbeats 4000000
/-! What a plain value is in a heap, what an evaluation leaves, and the judgement: an expression of the text does what the evaluator says. -/
namespace PV
open PySem L2 LamX

/-- a lambda without parameters that reads no name of its maker -/
structure LamD where
  qual : Str
  params : Arguments
  body : Expr
  scope : Scope
structure Par where
  lamD : Nat → LamD
  T : List (Addr × Str)
  cls : Nat → Value
/-- the function object of such a lambda at f, its code at c -/
def lamO (l : LamD) (f c : Addr) : HO := .ext fun h => ∃ pm ctv, h.get? f = some (PySem.W.kla_obj "<lambda>" l.qual l.params l.body l.scope [] pm c ctv)

/-- a state of the heap as the evaluator sees it: the cells' places, the cells, lists that none may touch, the heap -/
structure Z where
  μ : List Addr
  G : Gs
  B : List Addr
  H : Hp

def Live (z : Z) (a : Addr) : Prop := ∃ (n : Nat) (ds : List D), z.G[n]? = some (some ds) ∧ z.μ[n]? = some a
def Free (z : Z) (a : Addr) : Prop := a ∉ z.B ∧ ¬ Live z a
/-- a list of the written part -/
def KL (K : PySem.W.Frag) (a : Addr) (xs : List V) : Prop := ∃ (o : Obj) (its : Array Value) (n : Nat), K.lookup a = some o ∧ o.cls = .type "list" ∧ o.dict = none ∧ o.data = .seq its n ∧ its.size ≤ sizeLine ∧ Vals xs its.toList

section
variable (K : PySem.W.Frag) (q : Par)
mutual
def Has (z : Z) : D → V → Prop
  | .non, v => v = .non
  | .bl b, v => v = .bl b
  | .int i, v => v = .int i
  | .str s, v => v = .str s
  | .tup ds, v => ∃ a vs, v = .ref a ∧ SqT K z.H a vs ∧ HasL z ds vs
  | .lst ds, v => ∃ a vs, v = .ref a ∧ z.H a = some (.lst vs) ∧ Free z a ∧ HasL z ds vs
  | .frz ds, v => ∃ a vs, v = .ref a ∧ ((Rd z.H a (.lst vs) ∧ Free z a) ∨ KL K a vs) ∧ HasL z ds vs
  | .cell n, v => ∃ a, v = .ref a ∧ z.μ[n]? = some a
  | .lam k, v => ∃ f c, v = .ref f ∧ z.H f = some (lamO (q.lamD k) f c) ∧ z.H c = some (CodeO c (q.lamD k).qual)
def HasL (z : Z) : List D → List V → Prop
  | [], vs => vs = []
  | d :: ds, vs => ∃ v r, vs = v :: r ∧ Has z d v ∧ HasL z ds r
end

structure Ok (z : Z) : Prop where
  len : z.μ.length = z.G.length
  cells : ∀ (n : Nat) (ds : List D), z.G[n]? = some (some ds) → ∃ a vs, z.μ[n]? = some a ∧ z.H a = some (.lst vs) ∧ HasL K q z ds vs ∧ a ∉ z.B
  inj : ∀ (n m : Nat) (ds es : List D) (a : Addr), z.G[n]? = some (some ds) → z.G[m]? = some (some es) → z.μ[n]? = some a → z.μ[m]? = some a → n = m
  blk : ∀ b ∈ z.B, ∃ vs, z.H b = some (.lst vs)
  tabs : Tabs q.T z.H
end

/-- nothing stands there but perhaps a table of code -/
def NewA (z : Z) (a : Addr) : Prop := ∀ o, z.H a = some o → ∃ ps, o = .tbl ps
theorem newA {z : Z} {a : Addr} (h : z.H a = none) : NewA z a := fun o e => by rw [h] at e; cases e
theorem NewA.no {z : Z} {a : Addr} {o : HO} {P : Prop} (n : NewA z a) (h : z.H a = some o) (nt : ∀ ps, o ≠ .tbl ps) : P := by
  obtain ⟨ps, e⟩ := n o h
  exact absurd e (nt ps)
structure Ext (z z' : Z) : Prop where
  pre : z.μ <+: z'.μ
  bs : z'.B = z.B
  live : ∀ a, Live z' a → Live z a ∨ NewA z a
  keep : ∀ b o, z.H b = some o → (∀ ps, o ≠ .tbl ps) → ¬ Live z b → z'.H b = some o
  dom : ∀ b, NewA z' b → NewA z b

theorem Ext.refl (z : Z) : Ext z z := ⟨List.prefix_refl _, rfl, fun _ h => .inl h, fun _ _ h _ _ => h, fun _ h => h⟩

section
variable {K : PySem.W.Frag} {q : Par} {z z' z'' : Z}
theorem Ok.liveL (o : Ok K q z) {a : Addr} (l : Live z a) : ∃ vs, z.H a = some (.lst vs) := by
  obtain ⟨n, ds, h1, h2⟩ := l
  obtain ⟨a', vs, e1, e2, _⟩ := o.cells n ds h1
  rw [h2] at e1
  cases e1
  exact ⟨vs, e2⟩
theorem Ok.liveB (o : Ok K q z) {a : Addr} (l : Live z a) : a ∉ z.B := by
  obtain ⟨n, ds, h1, h2⟩ := l
  obtain ⟨a', vs, e1, _, _, e2⟩ := o.cells n ds h1
  rw [h2] at e1
  cases e1
  exact e2
theorem Ext.trans (a : Ext z z') (b : Ext z' z'') : Ext z z'' := by
  refine ⟨List.IsPrefix.trans a.pre b.pre, b.bs.trans a.bs, fun x l => ?_, fun x o h nt nl => ?_, fun x h => a.dom x (b.dom x h)⟩
  · rcases b.live x l with l' | n
    · exact a.live x l'
    · exact .inr (a.dom x n)
  · refine b.keep x o (a.keep x o h nt nl) nt fun l => ?_
    rcases a.live x l with l' | n
    · exact nl l'
    · exact n.no h nt
theorem Ext.free (e : Ext z z') {a : Addr} {o : HO} (h : z.H a = some o) (nt : ∀ ps, o ≠ .tbl ps) (f : Free z a) : Free z' a := by
  refine ⟨by rw [e.bs]; exact f.1, fun l => ?_⟩
  rcases e.live a l with l | n
  · exact f.2 l
  · exact n.no h nt
theorem Ok.notLive (o : Ok K q z) {a : Addr} {u : HO} (hu : z.H a = some u) (hn : ∀ w, u ≠ .lst w) : ¬ Live z a := fun l => by
  obtain ⟨w, e⟩ := o.liveL l
  rw [hu] at e; cases e
  exact hn w rfl
theorem Ext.sqT (e : Ext z z') (o : Ok K q z) {a : Addr} {vs : List V} (h : SqT K z.H a vs) : SqT K z'.H a vs := by
  rcases h with (h | ⟨ob, h⟩) | h
  · exact .inl (.inl (e.keep _ _ h (fun _ x => nomatch x) (o.notLive h (fun _ x => nomatch x))))
  · exact .inl (.inr ⟨ob, e.keep _ _ h (fun _ x => nomatch x) (o.notLive h (fun _ x => nomatch x))⟩)
  · exact .inr h
theorem Ext.rdL (e : Ext z z') (o : Ok K q z) {a : Addr} {vs : List V} (f : Free z a) (h : Rd z.H a (.lst vs)) : Rd z'.H a (.lst vs) ∧ Free z' a := by
  rcases h with h | ⟨ob, h⟩
  · exact ⟨.inl (e.keep _ _ h (fun _ x => nomatch x) f.2), e.free h (fun _ x => nomatch x) f⟩
  · exact ⟨.inr ⟨ob, e.keep _ _ h (fun _ x => nomatch x) f.2⟩, e.free h (fun _ x => nomatch x) f⟩

/-- values may move from one state to another -/
structure Mv (K : PySem.W.Frag) (q : Par) (z z' : Z) : Prop where
  mu : ∀ (n : Nat) (a : Addr), z.μ[n]? = some a → z'.μ[n]? = some a
  t : ∀ a vs, SqT K z.H a vs → SqT K z'.H a vs
  l : ∀ a vs, z.H a = some (.lst vs) → Free z a → z'.H a = some (.lst vs) ∧ Free z' a
  r : ∀ a vs, Rd z.H a (.lst vs) → Free z a → Rd z'.H a (.lst vs) ∧ Free z' a
  m : ∀ f φ, z.H f = some (.ext φ) → z'.H f = some (.ext φ)
mutual
theorem Has.mv (e : Mv K q z z') : ∀ (d : D) (v : V), Has K q z d v → Has K q z' d v
  | .non, v, h => by simpa only [Has] using h
  | .bl b, v, h => by simpa only [Has] using h
  | .int i, v, h => by simpa only [Has] using h
  | .str s, v, h => by simpa only [Has] using h
  | .tup ds, v, h => by
    simp only [Has] at h ⊢
    obtain ⟨a, vs, rfl, h1, h2⟩ := h
    exact ⟨a, vs, rfl, e.t a vs h1, HasL.mv e ds vs h2⟩
  | .lst ds, v, h => by
    simp only [Has] at h ⊢
    obtain ⟨a, vs, rfl, h1, f, h2⟩ := h
    exact ⟨a, vs, rfl, (e.l a vs h1 f).1, (e.l a vs h1 f).2, HasL.mv e ds vs h2⟩
  | .frz ds, v, h => by
    simp only [Has] at h ⊢
    obtain ⟨a, vs, rfl, h1, h2⟩ := h
    refine ⟨a, vs, rfl, ?_, HasL.mv e ds vs h2⟩
    rcases h1 with ⟨r, f⟩ | h1
    · exact .inl (e.r a vs r f)
    · exact .inr h1
  | .cell n, v, h => by
    simp only [Has] at h ⊢
    obtain ⟨a, rfl, h1⟩ := h
    exact ⟨a, rfl, e.mu n a h1⟩
  | .lam k, v, h => by
    simp only [Has] at h ⊢
    obtain ⟨f, c, rfl, h1, h2⟩ := h
    exact ⟨f, c, rfl, e.m f _ h1, e.m c _ h2⟩
theorem HasL.mv (e : Mv K q z z') : ∀ (ds : List D) (vs : List V), HasL K q z ds vs → HasL K q z' ds vs
  | [], vs, h => by simpa only [HasL] using h
  | d :: ds, vs, h => by
    simp only [HasL] at h ⊢
    obtain ⟨v, r, rfl, h1, h2⟩ := h
    exact ⟨v, r, rfl, Has.mv e d v h1, HasL.mv e ds r h2⟩
end
theorem Ext.mv (e : Ext z z') (o : Ok K q z) : Mv K q z z' where
  mu := fun n a h1 => by
    obtain ⟨t, ht⟩ := e.pre
    rw [← ht, List.getElem?_append_left (List.getElem?_eq_some_iff.mp h1).1]
    exact h1
  t := fun a vs h => e.sqT o h
  l := fun a vs h f => ⟨e.keep _ _ h (fun _ x => nomatch x) f.2, e.free h (fun _ x => nomatch x) f⟩
  r := fun a vs h f => e.rdL o f h
  m := fun f φ h => e.keep _ _ h (fun _ x => nomatch x) (o.notLive h (fun _ x => nomatch x))
theorem Has.ext (o : Ok K q z) (e : Ext z z') (d : D) (v : V) (h : Has K q z d v) : Has K q z' d v := Has.mv (e.mv o) d v h
theorem HasL.ext (o : Ok K q z) (e : Ext z z') (ds : List D) (vs : List V) (h : HasL K q z ds vs) : HasL K q z' ds vs := HasL.mv (e.mv o) ds vs h

/-! ### lists of values -/
theorem HasL.len : ∀ {ds : List D} {vs : List V}, HasL K q z ds vs → vs.length = ds.length
  | [], vs, h => by simp only [HasL] at h; subst h; rfl
  | d :: ds, vs, h => by
    simp only [HasL] at h
    obtain ⟨v, r, rfl, _, h2⟩ := h
    simp [HasL.len h2]
theorem HasL.nil : HasL K q z [] [] := by simp only [HasL]
theorem HasL.cons {d : D} {v : V} {ds : List D} {vs : List V} (h : Has K q z d v) (t : HasL K q z ds vs) : HasL K q z (d :: ds) (v :: vs) := by
  simp only [HasL]
  exact ⟨v, vs, rfl, h, t⟩
theorem HasL.cons_inv {d : D} {ds : List D} {vs : List V} (h : HasL K q z (d :: ds) vs) : ∃ v r, vs = v :: r ∧ Has K q z d v ∧ HasL K q z ds r := by simpa only [HasL] using h
theorem HasL.nil_inv {vs : List V} (h : HasL K q z [] vs) : vs = [] := by simpa only [HasL] using h
theorem HasL.app : ∀ {ds es : List D} {vs ws : List V}, HasL K q z ds vs → HasL K q z es ws → HasL K q z (ds ++ es) (vs ++ ws)
  | [], es, vs, ws, h, g => by
    have e := h.nil_inv
    subst e
    exact g
  | d :: ds, es, vs, ws, h, g => by
    obtain ⟨v, r, rfl, h1, h2⟩ := h.cons_inv
    exact HasL.cons h1 (HasL.app h2 g)
theorem HasL.get : ∀ {ds : List D} {vs : List V} {i : Nat} {d : D}, HasL K q z ds vs → ds[i]? = some d → ∃ v, vs[i]? = some v ∧ Has K q z d v
  | [], vs, i, d, h, e => by simp at e
  | d0 :: ds, vs, 0, d, h, e => by
    obtain ⟨v, r, rfl, h1, h2⟩ := h.cons_inv
    simp at e; subst e
    exact ⟨v, rfl, h1⟩
  | d0 :: ds, vs, i + 1, d, h, e => by
    obtain ⟨v, r, rfl, h1, h2⟩ := h.cons_inv
    obtain ⟨w, e1, e2⟩ := HasL.get (i := i) (d := d) h2 (by simpa using e)
    exact ⟨w, by simpa using e1, e2⟩
theorem HasL.get' : ∀ {ds : List D} {vs : List V} {i : Nat} {v : V}, HasL K q z ds vs → vs[i]? = some v → ∃ d, ds[i]? = some d ∧ Has K q z d v
  | [], vs, i, d, h, e => by rw [h.nil_inv] at e; simp at e
  | d0 :: ds, vs, 0, v, h, e => by
    obtain ⟨v, r, rfl, h1, h2⟩ := h.cons_inv
    simp at e; subst e
    exact ⟨d0, rfl, h1⟩
  | d0 :: ds, vs, i + 1, v, h, e => by
    obtain ⟨v, r, rfl, h1, h2⟩ := h.cons_inv
    obtain ⟨w, e1, e2⟩ := HasL.get' (i := i) h2 (by simpa using e)
    exact ⟨w, by simpa using e1, e2⟩
theorem HasL.set {d : D} {v : V} (hv : Has K q z d v) : ∀ {ds : List D} {vs : List V} (i : Nat), HasL K q z ds vs → HasL K q z (ds.set i d) (vs.set i v)
  | [], vs, i, h => by rw [h.nil_inv]; exact HasL.nil
  | d0 :: ds, vs, 0, h => by
    obtain ⟨w, r, rfl, h1, h2⟩ := h.cons_inv
    exact HasL.cons hv h2
  | d0 :: ds, vs, i + 1, h => by
    obtain ⟨w, r, rfl, h1, h2⟩ := h.cons_inv
    exact HasL.cons h1 (HasL.set hv i h2)
theorem HasL.take : ∀ {ds : List D} {vs : List V} (n : Nat), HasL K q z ds vs → HasL K q z (ds.take n) (vs.take n)
  | _, _, 0, _ => HasL.nil
  | [], vs, n + 1, h => by rw [h.nil_inv]; exact HasL.nil
  | d0 :: ds, vs, n + 1, h => by
    obtain ⟨w, r, rfl, h1, h2⟩ := h.cons_inv
    exact HasL.cons h1 (HasL.take n h2)
theorem HasL.drop : ∀ {ds : List D} {vs : List V} (n : Nat), HasL K q z ds vs → HasL K q z (ds.drop n) (vs.drop n)
  | _, _, 0, h => h
  | [], vs, n + 1, h => by rw [h.nil_inv]; exact HasL.nil
  | d0 :: ds, vs, n + 1, h => by
    obtain ⟨w, r, rfl, h1, h2⟩ := h.cons_inv
    exact HasL.drop n h2
theorem HasL.rep {ds : List D} {vs : List V} (h : HasL K q z ds vs) : ∀ k : Nat, HasL K q z (List.replicate k ds).flatten (List.replicate k vs).flatten
  | 0 => HasL.nil
  | k + 1 => by
    rw [List.replicate_succ, List.replicate_succ, List.flatten_cons, List.flatten_cons]
    exact h.app (HasL.rep h k)
theorem Has.ref_of_tup {ds : List D} {v : V} (h : Has K q z (.tup ds) v) : ∃ a vs, v = .ref a ∧ SqT K z.H a vs ∧ HasL K q z ds vs := by simpa only [Has] using h
theorem Has.of_lst {ds : List D} {v : V} (h : Has K q z (.lst ds) v) : ∃ a vs, v = .ref a ∧ z.H a = some (.lst vs) ∧ Free z a ∧ HasL K q z ds vs := by simpa only [Has] using h
theorem Has.of_int {i : Int} {v : V} (h : Has K q z (.int i) v) : v = .int i := by simpa only [Has] using h
theorem Has.of_bl {i : Bool} {v : V} (h : Has K q z (.bl i) v) : v = .bl i := by simpa only [Has] using h
theorem Has.of_str {i : Str} {v : V} (h : Has K q z (.str i) v) : v = .str i := by simpa only [Has] using h
theorem Has.of_non {v : V} (h : Has K q z .non v) : v = .non := by simpa only [Has] using h
theorem Has.int {i : Int} : Has K q z (.int i) (.int i) := by simp only [Has]
theorem Has.bl {i : Bool} : Has K q z (.bl i) (.bl i) := by simp only [Has]
theorem Has.str {i : Str} : Has K q z (.str i) (.str i) := by simp only [Has]
theorem Has.non : Has K q z .non .non := by simp only [Has]
theorem Has.tup {ds : List D} {a : Addr} {vs : List V} (h : SqT K z.H a vs) (t : HasL K q z ds vs) : Has K q z (.tup ds) (.ref a) := by
  simp only [Has]; exact ⟨a, vs, rfl, h, t⟩
theorem Has.lst {ds : List D} {a : Addr} {vs : List V} (h : z.H a = some (.lst vs)) (f : Free z a) (t : HasL K q z ds vs) : Has K q z (.lst ds) (.ref a) := by
  simp only [Has]; exact ⟨a, vs, rfl, h, f, t⟩

/-! ### a new object -/
abbrev Z.put (z : Z) (p : Addr) (o : HO) : Z := { z with H := upd z.H p o }
theorem live_put {p : Addr} {o : HO} {a : Addr} : Live (z.put p o) a ↔ Live z a := Iff.rfl
theorem Ext.put {p : Addr} {o : HO} (h : z.H p = none) : Ext z (z.put p o) := by
  refine ⟨List.prefix_refl _, rfl, fun _ l => .inl l, fun b u hb _ _ => ?_, fun b hb u hu => hb u ?_⟩
  · show upd z.H p o b = some u
    rw [upd_ne (ne_of_none hb h)]; exact hb
  · show upd z.H p o b = some u
    rw [upd_ne (ne_of_none hu h)]; exact hu
theorem Ok.put (ok : Ok K q z) {p : Addr} {o : HO} (h : z.H p = none) : Ok K q (z.put p o) := by
  have e := Ext.put (o := o) h
  refine ⟨ok.len, fun n ds hn => ?_, fun n m ds es a h1 h2 h3 h4 => ok.inj n m ds es a h1 h2 h3 h4, fun b hb => ?_, ok.tabs.ext fun b u hb => ?_⟩
  · obtain ⟨a, vs, h1, h2, h3, h4⟩ := ok.cells n ds hn
    refine ⟨a, vs, h1, ?_, HasL.ext ok e ds vs h3, h4⟩
    show upd z.H p o a = _
    rw [upd_ne (ne_of_none h2 h)]; exact h2
  · obtain ⟨vs, hv⟩ := ok.blk b hb
    refine ⟨vs, ?_⟩
    show upd z.H p o b = _
    rw [upd_ne (ne_of_none hv h)]; exact hv
  · show upd z.H p o b = some u
    rw [upd_ne (ne_of_none hb h)]; exact hb
theorem Ok.freeNew (ok : Ok K q z) {p : Addr} {o : HO} (h : z.H p = none) : Free (z.put p o) p := by
  refine ⟨fun hb => ?_, fun l => ?_⟩
  · obtain ⟨vs, hv⟩ := ok.blk p hb
    rw [h] at hv; cases hv
  · obtain ⟨vs, hv⟩ := ok.liveL (z := z) l
    rw [h] at hv; cases hv
theorem put_tup (ok : Ok K q z) {p : Addr} {ds : List D} {vs : List V} (h : z.H p = none) (t : HasL K q z ds vs) : Has K q (z.put p (.tup vs)) (.tup ds) (.ref p) :=
  Has.tup (SqT.of upd_same) (HasL.ext ok (Ext.put h) ds vs t)
theorem put_lst (ok : Ok K q z) {p : Addr} {ds : List D} {vs : List V} (h : z.H p = none) (t : HasL K q z ds vs) : Has K q (z.put p (.lst vs)) (.lst ds) (.ref p) :=
  Has.lst upd_same (ok.freeNew h) (HasL.ext ok (Ext.put h) ds vs t)

/-! ### a list that none may touch -/
abbrev Z.push (z : Z) (p : Addr) (vs : List V) : Z := { z with B := p :: z.B, H := upd z.H p (.lst vs) }
theorem mv_push (o : Ok K q z) {p : Addr} {vs : List V} (h : z.H p = none) : Mv K q z (z.push p vs) := by
  have e := (Ext.put (o := .lst vs) h).mv o
  have fr : ∀ a, Free z a → z.H a ≠ none → Free (z.push p vs) a := fun a f n => ⟨fun hb => by
    rcases List.mem_cons.mp hb with e1 | hb
    · rw [e1] at n; exact n h
    · exact f.1 hb, f.2⟩
  refine ⟨fun n a h1 => h1, e.t, fun a ws h1 f => ⟨(e.l a ws h1 f).1, fr a f (by rw [h1]; simp)⟩, fun a ws h1 f => ⟨(e.r a ws h1 f).1, fr a f ?_⟩, e.m⟩
  rcases h1 with h1 | ⟨ob, h1⟩ <;> rw [h1] <;> simp
theorem Ok.push (o : Ok K q z) {p : Addr} {vs : List V} (h : z.H p = none) : Ok K q (z.push p vs) := by
  have o' := o.put (o := .lst vs) h
  refine ⟨o'.len, fun n ds hn => ?_, o'.inj, fun b hb => ?_, o'.tabs⟩
  · obtain ⟨a, ws, h1, h2, h3, h4⟩ := o.cells n ds hn
    refine ⟨a, ws, h1, ?_, HasL.mv (mv_push o h) ds ws h3, fun hb => ?_⟩
    · show upd z.H p _ a = _
      rw [upd_ne (ne_of_none h2 h)]; exact h2
    · rcases List.mem_cons.mp hb with e1 | hb
      · rw [e1, h] at h2; cases h2
      · exact h4 hb
  · rcases List.mem_cons.mp hb with e1 | hb
    · subst e1
      exact ⟨vs, upd_same⟩
    · exact o'.blk b hb
/-- the list at p, of those that none may touch, is written -/
abbrev Z.wr (z : Z) (p : Addr) (vs : List V) : Z := { z with H := upd z.H p (.lst vs) }
theorem mv_wr {p : Addr} {vs ws : List V} (hb : p ∈ z.B) (h : z.H p = some (.lst ws)) : Mv K q z (z.wr p vs) := by
  have ne : ∀ a (u : HO), z.H a = some u → (∀ w, u ≠ .lst w) → a ≠ p := fun a u e n e1 => by rw [e1, h] at e; cases e; exact n _ rfl
  have nf : ∀ a, Free z a → a ≠ p := fun a f e => f.1 (e ▸ hb)
  refine ⟨fun n a h1 => h1, fun a us h1 => ?_, fun a us h1 f => ⟨?_, f⟩, fun a us h1 f => ⟨?_, f⟩, fun f φ h1 => ?_⟩
  · rcases h1 with (h1 | ⟨ob, h1⟩) | h1
    · exact .inl (.inl (by show upd z.H p _ a = _; rw [upd_ne (ne a _ h1 fun w x => nomatch x)]; exact h1))
    · exact .inl (.inr ⟨ob, by show upd z.H p _ a = _; rw [upd_ne (ne a _ h1 fun w x => nomatch x)]; exact h1⟩)
    · exact .inr h1
  · show upd z.H p _ a = _
    rw [upd_ne (nf a f)]; exact h1
  · rcases h1 with h1 | ⟨ob, h1⟩
    · exact .inl (by show upd z.H p _ a = _; rw [upd_ne (nf a f)]; exact h1)
    · exact .inr ⟨ob, by show upd z.H p _ a = _; rw [upd_ne (nf a f)]; exact h1⟩
  · show upd z.H p _ f = _
    rw [upd_ne (ne f _ h1 fun w x => nomatch x)]; exact h1
theorem tabs_wr {T : List (Addr × Str)} {H : Hp} {p : Addr} {vs ws : List V} (h : H p = some (.lst ws)) (t : Tabs T H) : Tabs T (upd H p (.lst vs)) := fun x hx => by
  obtain ⟨ps, h1, h2, h3⟩ := t x hx
  refine ⟨ps, by rw [upd_ne (fun e => by rw [e, h] at h1; cases h1)]; exact h1, h2, fun pos cv hc => ?_⟩
  obtain ⟨c, e1, e2⟩ := h3 pos cv hc
  exact ⟨c, e1, by rw [upd_ne (fun e => by rw [e, h] at e2; unfold CodeO at e2; cases e2)]; exact e2⟩
theorem Ok.wr (o : Ok K q z) {p : Addr} {vs ws : List V} (hb : p ∈ z.B) (h : z.H p = some (.lst ws)) : Ok K q (z.wr p vs) := by
  refine ⟨o.len, fun n ds hn => ?_, o.inj, fun b hb' => ?_, tabs_wr h o.tabs⟩
  · obtain ⟨a, us, h1, h2, h3, h4⟩ := o.cells n ds hn
    refine ⟨a, us, h1, ?_, HasL.mv (mv_wr hb h) ds us h3, h4⟩
    show upd z.H p _ a = _
    rw [upd_ne (fun e => h4 (by rw [e]; exact hb))]; exact h2
  · by_cases e : b = p
    · rw [e]; exact ⟨vs, upd_same⟩
    · obtain ⟨us, hu⟩ := o.blk b hb'
      exact ⟨us, by show upd z.H p _ b = _; rw [upd_ne e]; exact hu⟩
/-- fewer are kept from touch -/
theorem mv_less {B : List Addr} (hB : ∀ b ∈ B, b ∈ z.B) : Mv K q z { z with B := B } :=
  ⟨fun n a h1 => h1, fun a us h1 => h1, fun a us h1 f => ⟨h1, fun hb => f.1 (hB a hb), f.2⟩, fun a us h1 f => ⟨h1, fun hb => f.1 (hB a hb), f.2⟩, fun k f h1 => h1⟩
theorem Ok.less (o : Ok K q z) {B : List Addr} (hB : ∀ b ∈ B, b ∈ z.B) : Ok K q { z with B := B } := by
  refine ⟨o.len, fun n ds hn => ?_, o.inj, fun b hb => o.blk b (hB b hb), o.tabs⟩
  obtain ⟨a, us, h1, h2, h3, h4⟩ := o.cells n ds hn
  exact ⟨a, us, h1, h2, HasL.mv (mv_less hB) ds us h3, fun hb => h4 (hB a hb)⟩

/-! ### slots -/
def RelS (K : PySem.W.Frag) (q : Par) (z : Z) (ρ : Env) (σ : L2.St) : Prop := ρ.length = σ.length ∧ ∀ (i : Nat) (d : D), ρ[i]? = some (some d) → ∃ v, σ[i]? = some (some v) ∧ Has K q z d v
theorem RelS.ext {ρ : Env} {σ : L2.St} (r : RelS K q z ρ σ) (o : Ok K q z) (e : Ext z z') : RelS K q z' ρ σ :=
  ⟨r.1, fun i d h => by obtain ⟨v, h1, h2⟩ := r.2 i d h; exact ⟨v, h1, Has.ext o e d v h2⟩⟩
theorem RelS.mv {ρ : Env} {σ : L2.St} (r : RelS K q z ρ σ) (e : Mv K q z z') : RelS K q z' ρ σ :=
  ⟨r.1, fun i d h => by obtain ⟨v, h1, h2⟩ := r.2 i d h; exact ⟨v, h1, Has.mv e d v h2⟩⟩
theorem RelS.set {ρ : Env} {σ : L2.St} (r : RelS K q z ρ σ) {d : D} {v : V} (h : Has K q z d v) (i : Nat) : RelS K q z (ρ.set i (some d)) (σ.set i (some v)) := by
  refine ⟨by rw [List.length_set, List.length_set]; exact r.1, fun j e hj => ?_⟩
  by_cases hij : i = j
  · subst hij
    have hl : i < ρ.length := by
      have := (List.getElem?_eq_some_iff.mp hj).1
      rwa [List.length_set] at this
    rw [List.getElem?_set_self hl] at hj
    cases hj
    exact ⟨v, List.getElem?_set_self (by rw [← r.1]; exact hl), h⟩
  · rw [List.getElem?_set_ne hij] at hj
    rw [List.getElem?_set_ne hij]
    exact r.2 j e hj
theorem RelS.wipe {ρ : Env} {σ : L2.St} (r : RelS K q z ρ σ) : ∀ own : List Nat, RelS K q z (wipeE ρ own) (L2.wipe σ own)
  | [] => r
  | v :: vs => by
    have ih := RelS.wipe r vs
    refine ⟨by show (List.set _ _ _).length = (List.set _ _ _).length; rw [List.length_set, List.length_set]; exact ih.1, fun j e hj => ?_⟩
    have hj : ((wipeE ρ vs).set v none)[j]? = some (some e) := hj
    show ∃ w, ((L2.wipe σ vs).set v none)[j]? = some (some w) ∧ _
    by_cases hij : v = j
    · subst hij
      by_cases hl : v < (wipeE ρ vs).length
      · rw [List.getElem?_set_self hl] at hj; cases hj
      · rw [List.getElem?_eq_none (by rw [List.length_set]; omega)] at hj; cases hj
    · rw [List.getElem?_set_ne hij] at hj
      rw [List.getElem?_set_ne hij]
      exact ih.2 j e hj

/-! ### what is wanted of an evaluation -/
def wp {α : Type} (K : PySem.W.Frag) (q : Par) (z : Z) (r : R α) (P : α → Z → Prop) (E : XK) : Prop := match r with
  | .ok a G' => ∀ z' : Z, z'.G = G' → Ok K q z' → Ext z z' → P a z'
  | .exc c G' => ∀ z' : Z, z'.G = G' → Ok K q z' → Ext z z' → E (q.cls c) none z'.H
  | .bad => False
theorem wp.ext {α : Type} {r : R α} {P : α → Z → Prop} {E : XK} (e : Ext z z') (h : wp K q z r P E) : wp K q z' r P E := by
  cases r with
  | ok a G' => exact fun w hw o e' => h w hw o (e.trans e')
  | exc c G' => exact fun w hw o e' => h w hw o (e.trans e')
  | bad => exact h
theorem wp.bind {α β : Type} {r : R α} {f : α → Gs → R β} {P : β → Z → Prop} {E : XK} (h : wp K q z (r.bind f) P E) : wp K q z r (fun a z' => wp K q z' (f a z'.G) P E) E := by
  cases r with
  | ok a G' =>
    intro w hw o e
    subst hw
    exact wp.ext e h
  | exc c G' => exact h
  | bad => exact h
theorem wp.mono {α : Type} {r : R α} {P P' : α → Z → Prop} {E : XK} (h : wp K q z r P E) (hp : ∀ a z', Ok K q z' → Ext z z' → P a z' → P' a z') : wp K q z r P' E := by
  cases r with
  | ok a G' => exact fun w hw o e => hp a w o e (h w hw o e)
  | exc c G' => exact h
  | bad => exact h
theorem wp.of {α : Type} {o : Option α} {P : α → Z → Prop} {E : XK} (h : wp K q z (.of o z.G) P E) : ∃ a, o = some a ∧ ∀ z' : Z, z'.G = z.G → Ok K q z' → Ext z z' → P a z' := by
  cases o with
  | none => exact False.elim h
  | some a => exact ⟨a, rfl, h⟩
theorem wp.here {α : Type} {a : α} {P : α → Z → Prop} {E : XK} (o : Ok K q z) (h : wp K q z (.ok a z.G) P E) : P a z := h z rfl o (Ext.refl z)
/-- the result as a value, wanted by Q -/
abbrev PQ (K : PySem.W.Frag) (q : Par) (Q : VK) : D → Z → Prop := fun d z' => ∀ v, Has K q z' d v → Q v z'.H

/-! ### the judgements -/
def rdE (K : PySem.W.Frag) (q : Par) (S : Sem) (E : XK) (e : PV.E) : TE := fun σ H Q => ∃ z ρ, z.H = H ∧ Ok K q z ∧ RelS K q z ρ σ ∧ wp K q z (evE S ρ e z.G) (PQ K q Q) E
def rdEs (K : PySem.W.Frag) (q : Par) (S : Sem) (E : XK) (es : List PV.E) : TA := fun σ H Q => ∃ z ρ, z.H = H ∧ Ok K q z ∧ RelS K q z ρ σ ∧ wp K q z (evEs S ρ es z.G) (fun ds z' => ∀ vs, HasL K q z' ds vs → Q vs z'.H) E
def rdT (K : PySem.W.Frag) (q : Par) (S : Sem) (E : XK) (e : PV.E) : TT := fun σ H Q => ∃ z ρ, z.H = H ∧ Ok K q z ∧ RelS K q z ρ σ ∧ wp K q z (evE S ρ e z.G) (fun d z' => ∃ b, d = .bl b ∧ Q b z'.H) E
abbrev Tk (X : Cx) (E : XK) : Prop := Takes X (fun cls d _ H => E cls d H)
def Sd (X : Cx) (q : Par) (S : Sem) (e : Expr) (m : PV.E) : Prop := ∀ E : XK, Tk X E → PE X e (rdE X.K q S E m)
def SdA (X : Cx) (q : Par) (S : Sem) (es : List Expr) (ms : List PV.E) : Prop := ∀ E : XK, Tk X E → PA X es (rdEs X.K q S E ms)
def Td (X : Cx) (q : Par) (S : Sem) (e : Expr) (m : PV.E) : Prop := ∀ E : XK, Tk X E → PT X e (rdT X.K q S E m)
theorem pe_imp {X : Cx} {e : Expr} {t t' : TE} (h : PE X e t) (f : ∀ σ H Q, t' σ H Q → t σ H Q) : PE X e t' := ⟨fun pins s σ H Q I w => h.run pins s σ H Q I (f σ H Q w)⟩
theorem pa_imp {X : Cx} {e : List Expr} {t t' : TA} (h : PA X e t) (f : ∀ σ H Q, t' σ H Q → t σ H Q) : PA X e t' := ⟨fun pos pins s σ H Q I w => h.run pos pins s σ H Q I (f σ H Q w)⟩
theorem pt_imp {X : Cx} {e : Expr} {t t' : TT} (h : PT X e t) (f : ∀ σ H Q, t' σ H Q → t σ H Q) : PT X e t' := ⟨fun pins s σ H Q I w => h.run pins s σ H Q I (f σ H Q w)⟩
theorem pw_imp {X : Cx} {e : Expr} {t t' : TT} (h : PW X e t) (f : ∀ σ H Q, t' σ H Q → t σ H Q) : PW X e t' := ⟨fun wh pins s σ H Q I w => h.run wh pins s σ H Q I (f σ H Q w)⟩
theorem ps_imp {X : Cx} {e : Stmt} {t t' : TS} (h : PS X e t) (f : ∀ D σ H, t' D σ H → t D σ H) : PS X e t' := ⟨fun pins s σ H D I w => h.run pins s σ H D I (f D σ H w)⟩
theorem pss_imp {X : Cx} {e : List Stmt} {t t' : TS} (h : PSs X e t) (f : ∀ D σ H, t' D σ H → t D σ H) : PSs X e t' := ⟨fun pins s σ H D I w => h.run pins s σ H D I (f D σ H w)⟩
end
end PV
end
/-! ## PV3 -/
section
set_option Elab.async false
set_option linter.all false
set_option maxRecDepth 100000
set_option maxHeartbeats 4000000
/-! The rules: expressions. -/
namespace PV
open PySem L2 LamX
section
variable {X : Cx} {q : Par} {S : Sem}

theorem sd_var (i : Nat) {x : Str} {pos : Pos} (hN : X.N[i]? = some x := by rfl) (hv : Vis X.env.scope x := by first | exact Or.inl rfl | exact Or.inr (Or.inl rfl) | exact Or.inr (Or.inr rfl)) (hd : (x == ("__debug__" : Str)) = false := by decide)
    (hcd : (x == ("__classdict__" : Str)) = false := by decide) : Sd X q S (.Name x pos) (.var i) := fun E tk =>
  pe_imp (pe_var hN hv hd hcd) fun σ H Q ⟨z, ρ, hH, ok, rl, w⟩ => by
    subst hH
    have w : wp X.K q z (match ρ[i]? with
      | some (some d) => R.ok d z.G
      | _ => R.bad) (PQ X.K q Q) E := w
    split at w
    · rename_i d e
      obtain ⟨v, h1, h2⟩ := rl.2 i d e
      exact ⟨v, h1, wp.here (P := PQ X.K q Q) ok w v h2⟩
    · exact w.elim
theorem sd_int {i : Int} {j pos} : Sd X q S (.Constant (.int i) j pos) (.con (.int i)) := fun E tk =>
  pe_imp pe_int fun σ H Q ⟨z, ρ, hH, ok, rl, w⟩ => by subst hH; exact wp.here (P := PQ X.K q Q) ok w _ Has.int
theorem sd_bl {i : Bool} {j pos} : Sd X q S (.Constant (.bool i) j pos) (.con (.bl i)) := fun E tk =>
  pe_imp pe_bl fun σ H Q ⟨z, ρ, hH, ok, rl, w⟩ => by subst hH; exact wp.here (P := PQ X.K q Q) ok w _ Has.bl
theorem sd_non {j pos} : Sd X q S (.Constant .none j pos) (.con .non) := fun E tk =>
  pe_imp pe_non fun σ H Q ⟨z, ρ, hH, ok, rl, w⟩ => by subst hH; exact wp.here (P := PQ X.K q Q) ok w _ Has.non
theorem sd_str {x : Str} {j pos} : Sd X q S (.Constant (.str x) j pos) (.con (.str x)) := fun E tk =>
  pe_imp pe_str fun σ H Q ⟨z, ρ, hH, ok, rl, w⟩ => by subst hH; exact wp.here (P := PQ X.K q Q) ok w _ Has.str
/-- a module's constant -/
theorem sd_glob {x : Str} {d : D} {pos : Pos} (hg : Gl X x) (hm : ∃ u v, X.mg x = some u ∧ RelV v u ∧ ∀ z : Z, Has X.K q z d v) (hd : (x == ("__debug__" : Str)) = false := by decide) : Sd X q S (.Name x pos) (.con d) := fun E tk => by
  obtain ⟨u, v, h1, h2, h3⟩ := hm
  exact pe_imp (pe_glob hg h1 h2 hd) fun σ H Q ⟨z, ρ, hH, ok, rl, w⟩ => by subst hH; exact wp.here (P := PQ X.K q Q) ok w _ (h3 z)

/-! ### operators -/
/-- what follows a result that made nothing that changes the cells -/
abbrev Post (K : PySem.W.Frag) (q : Par) (z : Z) (Q : VK) (c : D) : Prop := ∀ z' : Z, z'.G = z.G → Ok K q z' → Ext z z' → PQ K q Q c z'
theorem Post.at {K : PySem.W.Frag} {q : Par} {z : Z} {Q : VK} {c : D} (h : Post K q z Q c) (ok : Ok K q z) {v : V} (hv : Has K q z c v) : Q v z.H := h z rfl ok (Ext.refl z) v hv
theorem Post.put {K : PySem.W.Frag} {q : Par} {z : Z} {Q : VK} {c : D} (h : Post K q z Q c) (ok : Ok K q z) {p : Addr} {o : HO} (hp : z.H p = none) (hv : Has K q (z.put p o) c (.ref p)) : Q (.ref p) (upd z.H p o) := h (z.put p o) rfl (ok.put hp) (Ext.put hp) _ hv
/-- an operator by values does what the evaluator's function says -/
def rD (K : PySem.W.Frag) (q : Par) (g : D → D → Option D) : R2 := fun x y H Q => ∃ (z : Z) (d e c : D), z.H = H ∧ Ok K q z ∧ Has K q z d x ∧ Has K q z e y ∧ g d e = some c ∧ Post K q z Q c
abbrev OpD (X : Cx) (q : Par) (f : Value → Value → PySem.Sem Value) (g : D → D → Option D) : Prop := OpR X f (rD X.K q g)

theorem bin_imp {a b : Expr} {ma mb : E} {E : XK} {g : D → D → Option D} {r : R2} (hr : ∀ x y H Q, rD X.K q g x y H Q → r x y H Q) {σ : L2.St} {H : Hp} {Q : VK}
    (h : ∃ z ρ, z.H = H ∧ Ok X.K q z ∧ RelS X.K q z ρ σ ∧ wp X.K q z ((evE S ρ ma z.G).bind fun x G1 => (evE S ρ mb G1).bind fun y G2 => .of (g x y) G2) (PQ X.K q Q) E) :
    tOp r (rdE X.K q S E ma) (rdE X.K q S E mb) σ H Q := by
  obtain ⟨z, ρ, hH, ok, rl, w⟩ := h
  subst hH
  refine ⟨z, ρ, rfl, ok, rl, (wp.bind w).mono fun d z1 ok1 e1 w1 v hv => ?_⟩
  refine ⟨z1, ρ, rfl, ok1, rl.ext ok e1, (wp.bind w1).mono fun e z2 ok2 e2 w2 u hu => ?_⟩
  obtain ⟨c, hc, hp⟩ := wp.of w2
  exact hr _ _ _ _ ⟨z2, d, e, c, rfl, ok2, Has.ext ok1 e2 d v hv, hu, hc, hp⟩
theorem sd_bin {op : Operator} {o : Bop} {a b : Expr} {ma mb : E} {pos : Pos} (ho : OpD X q (binaryOp op) (binD o)) (ha : Sd X q S a ma) (hb : Sd X q S b mb) : Sd X q S (.BinOp a op b pos) (.bin o ma mb) := fun E tk =>
  pe_imp (pe_op ho (ha E tk) (hb E tk)) fun σ H Q ⟨z, ρ, hH, ok, rl, w⟩ => bin_imp (a := a) (b := b) (fun _ _ _ _ h => h) ⟨z, ρ, hH, ok, rl, w⟩
theorem sd_cmp {op : CmpOp} {o : Cop} {a b : Expr} {ma mb : E} {pos : Pos} (ho : OpD X q (compareOp op) (fun x y => (cmpD o x y).map .bl)) (ha : Sd X q S a ma) (hb : Sd X q S b mb) (hm : behindInMarks op b = false) : Sd X q S (.Compare a [op] [b] pos) (.cmp o ma mb) := fun E tk =>
  pe_imp (pe_cmpR ho (ha E tk) (hb E tk) hm) fun σ H Q ⟨z, ρ, hH, ok, rl, w⟩ => bin_imp (a := a) (b := b) (fun _ _ _ _ h => h) ⟨z, ρ, hH, ok, rl, w⟩
theorem td_cmp {op : CmpOp} {o : Cop} {a b : Expr} {ma mb : E} {pos : Pos} (ho : OpD X q (compareOp op) (fun x y => (cmpD o x y).map .bl)) (ha : Sd X q S a ma) (hb : Sd X q S b mb) (hm : behindInMarks op b = false) : Td X q S (.Compare a [op] [b] pos) (.cmp o ma mb) := fun E tk =>
  pt_imp (pt_cmpR ho (ha E tk) (hb E tk) hm) fun σ H Q ⟨z, ρ, hH, ok, rl, w⟩ => by
    refine bin_imp (a := a) (b := b) (fun _ _ _ _ h => h) ⟨z, ρ, hH, ok, rl, wp.mono w fun d z' ok' e' ⟨b, hb, hq⟩ v hv => ?_⟩
    subst hb
    exact ⟨b, hv.of_bl, hq⟩

theorem eqD_some {a b : D} {c : Bool} (h : eqD a b = some c) : ∃ p q, toPy a = some p ∧ toPy b = some q ∧ SeqAt.shaped p = true ∧ SeqAt.shaped q = true ∧ PyData.eqv p q = c := by
  unfold eqD at h
  split at h
  · rename_i p q h1 h2
    split at h
    · rename_i hs
      simp only [Bool.and_eq_true] at hs
      exact ⟨p, q, h1, h2, hs.1, hs.2, Option.some.inj h⟩
    · cases h
  · cases h
mutual
theorem has_dp {K : PySem.W.Frag} {z : Z} : ∀ (d : D) (p : PyData) (v : V), toPy d = some p → Has K q z d v → Dp K z.H v p
  | .non, p, v, e, h => by simp only [toPy, Option.some.injEq] at e; subst e; rw [h.of_non]; exact .non
  | .bl b, p, v, e, h => by simp only [toPy, Option.some.injEq] at e; subst e; rw [h.of_bl]; exact .bl b
  | .int b, p, v, e, h => by simp only [toPy, Option.some.injEq] at e; subst e; rw [h.of_int]; exact .int b
  | .str b, p, v, e, h => by simp only [toPy, Option.some.injEq] at e; subst e; rw [h.of_str]; exact .str b
  | .tup ds, p, v, e, h => by
    simp only [toPy, Option.map_eq_some_iff] at e
    obtain ⟨ps, e1, rfl⟩ := e
    simp only [Has] at h
    obtain ⟨a, vs, rfl, h1, h2⟩ := h
    exact .tup h1 (has_dps ds ps vs e1 h2)
  | .lst ds, p, v, e, h => by
    simp only [toPy, Option.map_eq_some_iff] at e
    obtain ⟨ps, e1, rfl⟩ := e
    simp only [Has] at h
    obtain ⟨a, vs, rfl, h1, _, h2⟩ := h
    exact .lst (SqL.of h1) (has_dps ds ps vs e1 h2)
  | .frz ds, p, v, e, h => by
    simp only [toPy, Option.map_eq_some_iff] at e
    obtain ⟨ps, e1, rfl⟩ := e
    simp only [Has] at h
    obtain ⟨a, vs, rfl, h1, h2⟩ := h
    refine .lst ?_ (has_dps ds ps vs e1 h2)
    rcases h1 with ⟨r, _⟩ | h1
    · exact .inl r
    · exact .inr h1
  | .cell n, p, v, e, h => by simp only [toPy] at e; cases e
  | .lam n, p, v, e, h => by simp only [toPy] at e; cases e
theorem has_dps {K : PySem.W.Frag} {z : Z} : ∀ (ds : List D) (ps : List PyData) (vs : List V), toPys ds = some ps → HasL K q z ds vs → DpAll K z.H vs ps
  | [], ps, vs, e, h => by
    simp only [toPys, Option.some.injEq] at e
    subst e
    rw [h.nil_inv]; exact .nil
  | d :: ds, ps, vs, e, h => by
    obtain ⟨v, r, rfl, h1, h2⟩ := h.cons_inv
    simp only [toPys] at e
    split at e
    · rename_i p ps' e1 e2
      cases e
      exact .cons (has_dp d p v e1 h1) (has_dps ds ps' r e2 h2)
    · cases e
end
theorem od_eq (hu : X.A.units + 64 < cLine) : OpD X q (compareOp .Eq) (fun x y => (cmpD .eq x y).map .bl) := by
  intro pins s σ H x y v u Q I rx ry h
  obtain ⟨z, d, e, c, rfl, ok, hd, he, hg, hp⟩ := h
  simp only [cmpD, Option.map_eq_some_iff] at hg
  obtain ⟨b, hg, rfl⟩ := hg
  obtain ⟨p, r, h1, h2, h3, h4, h5⟩ := eqD_some hg
  refine op_eqD hu pins s σ _ x y v u Q I rx ry ⟨p, r, has_dp d p x h1 hd, has_dp e r y h2 he, h3, h4, ?_⟩
  rw [h5]
  exact hp.at ok Has.bl
theorem od_ne (hu : X.A.units + 64 < cLine) : OpD X q (compareOp .NotEq) (fun x y => (cmpD .ne x y).map .bl) := by
  intro pins s σ H x y v u Q I rx ry h
  obtain ⟨z, d, e, c, rfl, ok, hd, he, hg, hp⟩ := h
  simp only [cmpD, Option.map_eq_some_iff] at hg
  obtain ⟨b, ⟨b', hg, rfl⟩, rfl⟩ := hg
  obtain ⟨p, r, h1, h2, h3, h4, h5⟩ := eqD_some hg
  refine op_neD hu pins s σ _ x y v u Q I rx ry ⟨p, r, has_dp d p x h1 hd, has_dp e r y h2 he, h3, h4, ?_⟩
  rw [h5]
  exact hp.at ok Has.bl
theorem cmp_int {o : Cop} {p : Int → Int → Bool} {d e c : D} (ho : o = .lt ∨ o = .le ∨ o = .gt ∨ o = .ge) (h : (cmpD o d e).map D.bl = some c) : ∃ i j, d = .int i ∧ e = .int j := by
  rcases ho with rfl | rfl | rfl | rfl <;> (cases d <;> cases e <;> simp [cmpD] at h) <;> exact ⟨_, _, rfl, rfl⟩
theorem od_lt : OpD X q (compareOp .Lt) (fun x y => (cmpD .lt x y).map .bl) := by
  intro pins s σ H x y v u Q I rx ry h
  obtain ⟨z, d, e, c, rfl, ok, hd, he, hg, hp⟩ := h
  obtain ⟨i, j, rfl, rfl⟩ := cmp_int (p := fun _ _ => true) (.inl rfl) hg
  simp only [cmpD, Option.map_some, Option.some.injEq] at hg
  subst hg
  exact op_lt pins s σ _ x y v u Q I rx ry ⟨i, j, hd.of_int, he.of_int, hp.at ok Has.bl⟩
theorem od_le : OpD X q (compareOp .LtE) (fun x y => (cmpD .le x y).map .bl) := by
  intro pins s σ H x y v u Q I rx ry h
  obtain ⟨z, d, e, c, rfl, ok, hd, he, hg, hp⟩ := h
  obtain ⟨i, j, rfl, rfl⟩ := cmp_int (p := fun _ _ => true) (.inr (.inl rfl)) hg
  simp only [cmpD, Option.map_some, Option.some.injEq] at hg
  subst hg
  exact op_le pins s σ _ x y v u Q I rx ry ⟨i, j, hd.of_int, he.of_int, hp.at ok Has.bl⟩
theorem od_gt : OpD X q (compareOp .Gt) (fun x y => (cmpD .gt x y).map .bl) := by
  intro pins s σ H x y v u Q I rx ry h
  obtain ⟨z, d, e, c, rfl, ok, hd, he, hg, hp⟩ := h
  obtain ⟨i, j, rfl, rfl⟩ := cmp_int (p := fun _ _ => true) (.inr (.inr (.inl rfl))) hg
  simp only [cmpD, Option.map_some, Option.some.injEq] at hg
  subst hg
  exact op_gt pins s σ _ x y v u Q I rx ry ⟨i, j, hd.of_int, he.of_int, hp.at ok Has.bl⟩
theorem od_ge : OpD X q (compareOp .GtE) (fun x y => (cmpD .ge x y).map .bl) := by
  intro pins s σ H x y v u Q I rx ry h
  obtain ⟨z, d, e, c, rfl, ok, hd, he, hg, hp⟩ := h
  obtain ⟨i, j, rfl, rfl⟩ := cmp_int (p := fun _ _ => true) (.inr (.inr (.inr rfl))) hg
  simp only [cmpD, Option.map_some, Option.some.injEq] at hg
  subst hg
  exact op_ge pins s σ _ x y v u Q I rx ry ⟨i, j, hd.of_int, he.of_int, hp.at ok Has.bl⟩
theorem od_in : OpD X q (compareOp .In) (fun x y => (cmpD .isIn x y).map .bl) := by
  intro pins s σ H x y v u Q I rx ry h
  obtain ⟨z, d, e, c, rfl, ok, hd, he, hg, hp⟩ := h
  cases d <;> cases e <;> simp [cmpD] at hg
  subst hg
  exact op_in_str pins s σ _ x y v u Q I rx ry ⟨_, _, hd.of_str, he.of_str, hp.at ok (by simp only [Has]; try simp)⟩
theorem od_notIn : OpD X q (compareOp .NotIn) (fun x y => (cmpD .notIn x y).map .bl) := by
  intro pins s σ H x y v u Q I rx ry h
  obtain ⟨z, d, e, c, rfl, ok, hd, he, hg, hp⟩ := h
  cases d <;> cases e <;> simp [cmpD] at hg
  subst hg
  exact op_notin_str pins s σ _ x y v u Q I rx ry ⟨_, _, hd.of_str, he.of_str, hp.at ok (by simp only [Has]; try simp)⟩
theorem od_add : OpD X q (binaryOp .Add) (binD .add) := by
  intro pins s σ H x y v u Q I rx ry h
  obtain ⟨z, d, e, c, rfl, ok, hd, he, hg, hp⟩ := h
  cases d <;> cases e <;> simp only [binD, reduceCtorEq] at hg
  · cases hg
    exact op_add pins s σ _ x y v u Q I rx ry ⟨_, _, hd.of_int, he.of_int, hp.at ok Has.int⟩
  · split at hg <;> cases hg
    rename_i hs
    exact op_add_str pins s σ _ x y v u Q I rx ry ⟨_, _, hd.of_str, he.of_str, hs, hp.at ok Has.str⟩
  · split at hg <;> cases hg
    rename_i l1 l2 hs
    obtain ⟨a, vs, rfl, h1, h2⟩ := hd.ref_of_tup
    obtain ⟨b, ws, rfl, h3, h4⟩ := he.ref_of_tup
    refine op_catA pins s σ _ _ _ v u Q I rx ry ⟨a, b, vs, ws, rfl, rfl, h1, h3, by rw [h2.len, h4.len]; exact hs, fun e1 => ?_, fun _ e2 => ?_, fun _ _ p hn => hp.put ok hn (put_tup ok hn (h2.app h4))⟩
    · subst e1
      have e : l1 = [] := List.eq_nil_of_length_eq_zero (by rw [← h2.len]; rfl)
      subst e
      exact hp.at ok he
    · subst e2
      have e : l2 = [] := List.eq_nil_of_length_eq_zero (by rw [← h4.len]; rfl)
      subst e
      rw [List.append_nil] at hp
      exact hp.at ok hd
  · split at hg <;> cases hg
    rename_i l1 l2 hs
    obtain ⟨a, vs, rfl, h1, _, h2⟩ := hd.of_lst
    obtain ⟨b, ws, rfl, h3, _, h4⟩ := he.of_lst
    exact op_cat pins s σ _ _ _ v u Q I rx ry ⟨a, b, vs, ws, rfl, rfl, h1, h3, by rw [h2.len, h4.len]; exact hs, fun p hn => hp.put ok hn (put_lst ok hn (h2.app h4))⟩
theorem od_sub : OpD X q (binaryOp .Sub) (binD .sub) := by
  intro pins s σ H x y v u Q I rx ry h
  obtain ⟨z, d, e, c, rfl, ok, hd, he, hg, hp⟩ := h
  cases d <;> cases e <;> simp only [binD, reduceCtorEq] at hg
  cases hg
  exact op_sub pins s σ _ x y v u Q I rx ry ⟨_, _, hd.of_int, he.of_int, hp.at ok Has.int⟩
/-- * of two factors of together less than a hundred million bits -/
def CMulV (i j : Int) : Prop := i.natAbs.log2 + j.natAbs.log2 < 100000000
theorem CMulV.ok {i j : Int} (h : CMulV i j) : IntMulOk i j := by
  have b : ∀ x : Int, Builtin.Int.intBits x ≤ x.natAbs.log2 + 1 := fun x => by
    unfold Builtin.Int.intBits
    split <;> omega
  have h1 := b i
  have h2 := b j
  have h3 : i.natAbs.log2 + j.natAbs.log2 < 100000000 := h
  have e : bitsLine = 134217728 := by decide
  unfold IntMulOk
  intro z
  rw [Bool.and_eq_true] at z
  have z2 := z.2
  unfold Builtin.Int.intTooBig at z2
  have z3 := of_decide_eq_true z2
  rw [e] at z3
  omega
open PySem.Spec PyProof.Rows in
theorem op_mulV {X : Cx} : OpR X (binaryOp .Mult) (rI CMulV fun i j => .int (i * j)) := opI fun _ _ _ _ _ _ _ hc q => mul_int q hc.ok
theorem od_mul : OpD X q (binaryOp .Mult) (binD .mul) := by
  intro pins s σ H x y v u Q I rx ry h
  obtain ⟨z, d, e, c, rfl, ok, hd, he, hg, hp⟩ := h
  cases d <;> cases e <;> simp only [binD, reduceCtorEq] at hg
  · split at hg <;> cases hg
    rename_i i j hs
    exact op_mulV pins s σ _ x y v u Q I rx ry ⟨_, _, hd.of_int, he.of_int, (by simpa [okMul] using hs : i.natAbs.log2 + j.natAbs.log2 < 100000000), hp.at ok Has.int⟩
  · split at hg <;> cases hg
    rename_i l k hs
    obtain ⟨a, vs, rfl, h1, _, h2⟩ := hd.of_lst
    obtain ⟨k0, k1, k2⟩ := hs
    refine op_rep pins s σ _ _ y v u Q I rx ry ⟨a, k, vs, rfl, he.of_int, h1, by omega, by omega, ?_, fun p hn => hp.put ok hn (put_lst ok hn (h2.rep _))⟩
    have e : vs.length ≤ 1000 := by rw [h2.len]; exact k2
    have e2 : k.toNat ≤ 1000 := by omega
    exact Nat.le_trans (Nat.mul_le_mul e e2) (by rw [sizeLine_eq]; decide)
theorem od_fdiv : OpD X q (binaryOp .FloorDiv) (binD .fdiv) := by
  intro pins s σ H x y v u Q I rx ry h
  obtain ⟨z, d, e, c, rfl, ok, hd, he, hg, hp⟩ := h
  cases d <;> cases e <;> simp only [binD, reduceCtorEq] at hg
  split at hg <;> cases hg
  rename_i i j hs
  simp only [Bool.or_eq_true, Bool.and_eq_true, decide_eq_true_eq] at hs
  rcases hs with ⟨h1, h2⟩ | ⟨h1, h2⟩
  · refine op_fdivW pins s σ _ x y v u Q I rx ry ⟨_, _, hd.of_int, he.of_int, ⟨h1, h2⟩, ?_⟩
    show Q (.int (i / j)) z.H
    rw [← Int.fdiv_eq_ediv_of_nonneg i (Int.le_of_lt h1)]
    exact hp.at ok Has.int
  · exact op_fdivN pins s σ _ x y v u Q I rx ry ⟨_, _, hd.of_int, he.of_int, ⟨h1, h2⟩, hp.at ok Has.int⟩
theorem od_mod : OpD X q (binaryOp .Mod) (binD .mod) := by
  intro pins s σ H x y v u Q I rx ry h
  obtain ⟨z, d, e, c, rfl, ok, hd, he, hg, hp⟩ := h
  cases d <;> cases e <;> simp only [binD, reduceCtorEq] at hg
  split at hg <;> cases hg
  rename_i i j hs
  exact op_modN pins s σ _ x y v u Q I rx ry ⟨_, _, hd.of_int, he.of_int, hs, hp.at ok Has.int⟩
theorem od_pow : OpD X q (binaryOp .Pow) (binD .pow) := by
  intro pins s σ H x y v u Q I rx ry h
  obtain ⟨z, d, e, c, rfl, ok, hd, he, hg, hp⟩ := h
  cases d <;> cases e <;> simp only [binD, reduceCtorEq] at hg
  split at hg <;> cases hg
  rename_i i j hs
  exact op_pow pins s σ _ x y v u Q I rx ry ⟨_, _, hd.of_int, he.of_int, hs, hp.at ok Has.int⟩

/-! ### not, and, or, a if t else b -/
/-- an expression whose value is a bool, as a test -/
theorem td_val {e : Expr} {m : E} (h : Sd X q S e m) (he : ∀ whole, isTrue e X.env whole = (do let v ← whole; standAt e.pos; holding [v] (truthy v)) := by intro _; rfl) : Td X q S e m := fun E tk =>
  pt_imp (pt_val (h E tk) he) fun σ H Q ⟨z, ρ, hH, ok, rl, w⟩ => ⟨z, ρ, hH, ok, rl, w.mono fun d z' ok' e' ⟨b, hb, hq⟩ v hv => by
    subst hb
    exact ⟨b, hv.of_bl, hq⟩⟩
theorem td_not {a : Expr} {ma : E} {pos : Pos} (h : Td X q S a ma) : Td X q S (.UnaryOp .Not a pos) (.not ma) := fun E tk =>
  pt_imp (pt_not (h E tk)) fun σ H Q ⟨z, ρ, hH, ok, rl, w⟩ => ⟨z, ρ, hH, ok, rl, (wp.bind w).mono fun d z' ok' e' w' => by
    cases d <;> try exact False.elim w'
    rename_i b
    obtain ⟨b', hb', hq⟩ := wp.here (P := fun d z' => ∃ b, d = D.bl b ∧ Q b z'.H) ok' w'
    cases hb'
    exact ⟨b, rfl, hq⟩⟩
theorem sd_not {a : Expr} {ma : E} {pos : Pos} (h : Sd X q S a ma) : Sd X q S (.UnaryOp .Not a pos) (.not ma) := fun E tk =>
  pe_imp (pe_not (h E tk)) fun σ H Q ⟨z, ρ, hH, ok, rl, w⟩ => ⟨z, ρ, hH, ok, rl, (wp.bind w).mono fun d z' ok' e' w' v hv => by
    cases d <;> try exact False.elim w'
    rename_i b
    exact ⟨b, hv.of_bl, wp.here (P := PQ X.K q Q) ok' w' _ Has.bl⟩⟩
/-- tests joined by and, or -/
def TdW (X : Cx) (q : Par) (S : Sem) (e : Expr) (m : E) : Prop := ∀ E : XK, Tk X E → PW X e (rdT X.K q S E m)
theorem TdW.td {e : Expr} {m : E} (h : TdW X q S e m) : Td X q S e m := fun E tk => (h E tk).pt
theorem tw_and1 {a : Expr} {ma : E} {pos : Pos} (h : Td X q S a ma) : TdW X q S (.BoolOp .And [a] pos) ma := fun E tk => pw_and1 (h E tk)
theorem tw_or1 {a : Expr} {ma : E} {pos : Pos} (h : Td X q S a ma) : TdW X q S (.BoolOp .Or [a] pos) ma := fun E tk => pw_or1 (h E tk)
theorem tw_and {a b : Expr} {rest : List Expr} {ma mb : E} {pos : Pos} (h : Td X q S a ma) (g : TdW X q S (.BoolOp .And (b :: rest) pos) mb) : TdW X q S (.BoolOp .And (a :: b :: rest) pos) (.and ma mb) := fun E tk =>
  pw_imp (pw_and (h E tk) (g E tk)) fun σ H Q ⟨z, ρ, hH, ok, rl, w⟩ => ⟨z, ρ, hH, ok, rl, (wp.bind w).mono fun d z' ok' e' w' => by
    cases d <;> try exact False.elim w'
    rename_i b
    refine ⟨b, rfl, ?_⟩
    cases b with
    | true => exact ⟨z', ρ, rfl, ok', rl.ext ok e', w'⟩
    | false =>
      obtain ⟨b', hb', hq⟩ := wp.here (P := fun d z' => ∃ b, d = D.bl b ∧ Q b z'.H) ok' w'
      cases hb'
      exact hq⟩
theorem tw_or {a b : Expr} {rest : List Expr} {ma mb : E} {pos : Pos} (h : Td X q S a ma) (g : TdW X q S (.BoolOp .Or (b :: rest) pos) mb) : TdW X q S (.BoolOp .Or (a :: b :: rest) pos) (.or ma mb) := fun E tk =>
  pw_imp (pw_or (h E tk) (g E tk)) fun σ H Q ⟨z, ρ, hH, ok, rl, w⟩ => ⟨z, ρ, hH, ok, rl, (wp.bind w).mono fun d z' ok' e' w' => by
    cases d <;> try exact False.elim w'
    rename_i b
    refine ⟨b, rfl, ?_⟩
    cases b with
    | false => exact ⟨z', ρ, rfl, ok', rl.ext ok e', w'⟩
    | true =>
      obtain ⟨b', hb', hq⟩ := wp.here (P := fun d z' => ∃ b, d = D.bl b ∧ Q b z'.H) ok' w'
      cases hb'
      exact hq⟩
theorem sd_one {op} {a : Expr} {ma : E} {pos : Pos} (h : Sd X q S a ma) : Sd X q S (.BoolOp op [a] pos) ma := fun E tk => pe_one (h E tk)
theorem sd_and {a b : Expr} {rest : List Expr} {ma mb : E} {pos : Pos} (h : Sd X q S a ma) (g : Sd X q S (.BoolOp .And (b :: rest) pos) mb) : Sd X q S (.BoolOp .And (a :: b :: rest) pos) (.and ma mb) := fun E tk =>
  pe_imp (pe_and (h E tk) (g E tk)) fun σ H Q ⟨z, ρ, hH, ok, rl, w⟩ => ⟨z, ρ, hH, ok, rl, (wp.bind w).mono fun d z' ok' e' w' v hv => by
    cases d <;> try exact False.elim w'
    rename_i b
    refine ⟨b, hv.of_bl, ?_⟩
    cases b with
    | true => exact ⟨z', ρ, rfl, ok', rl.ext ok e', w'⟩
    | false => exact wp.here (P := PQ X.K q Q) ok' w' _ Has.bl⟩
theorem sd_or {a b : Expr} {rest : List Expr} {ma mb : E} {pos : Pos} (h : Sd X q S a ma) (g : Sd X q S (.BoolOp .Or (b :: rest) pos) mb) : Sd X q S (.BoolOp .Or (a :: b :: rest) pos) (.or ma mb) := fun E tk =>
  pe_imp (pe_or (h E tk) (g E tk)) fun σ H Q ⟨z, ρ, hH, ok, rl, w⟩ => ⟨z, ρ, hH, ok, rl, (wp.bind w).mono fun d z' ok' e' w' v hv => by
    cases d <;> try exact False.elim w'
    rename_i b
    refine ⟨b, hv.of_bl, ?_⟩
    cases b with
    | false => exact ⟨z', ρ, rfl, ok', rl.ext ok e', w'⟩
    | true => exact wp.here (P := PQ X.K q Q) ok' w' _ Has.bl⟩
theorem sd_if {c a b : Expr} {mc ma mb : E} {pos : Pos} (hc : Td X q S c mc) (ha : Sd X q S a ma) (hb : Sd X q S b mb) : Sd X q S (.IfExp c a b pos) (.ite mc ma mb) := fun E tk =>
  pe_imp (pe_ifExp (hc E tk) (ha E tk) (hb E tk)) fun σ H Q ⟨z, ρ, hH, ok, rl, w⟩ => ⟨z, ρ, hH, ok, rl, (wp.bind w).mono fun d z' ok' e' w' => by
    cases d <;> try exact False.elim w'
    rename_i b
    refine ⟨b, rfl, ?_⟩
    cases b with
    | false => exact ⟨z', ρ, rfl, ok', rl.ext ok e', w'⟩
    | true => exact ⟨z', ρ, rfl, ok', rl.ext ok e', w'⟩⟩
end
end PV
end
/-! ## PV4 -/
section
set_option Elab.async false
set_option linter.all false
set_option maxRecDepth 100000
set_option maxHeartbeats 4000000
/-! The rules: arguments, displays, calls, built-ins, items, slices. -/
namespace PV
open PySem L2 LamX
section
variable {X : Cx} {q : Par} {S : PV.Sem}

theorem sda_nil : SdA X q S [] [] := fun E tk => pa_imp pa_nil fun σ H Q ⟨z, ρ, hH, ok, rl, w⟩ => by
  subst hH
  exact wp.here (P := fun ds z' => ∀ vs, HasL X.K q z' ds vs → Q vs z'.H) ok w [] HasL.nil
theorem sda_cons {e : Expr} {es : List Expr} {m : E} {ms : List E} (h : Sd X q S e m) (t : SdA X q S es ms) (hs : starEach (e :: es) X.env = (false, eval e X.env) :: starEach es X.env := by rfl) : SdA X q S (e :: es) (m :: ms) := fun E tk =>
  pa_imp (pa_cons (h E tk) (t E tk) hs) fun σ H Q ⟨z, ρ, hH, ok, rl, w⟩ => ⟨z, ρ, hH, ok, rl, (wp.bind w).mono fun d z1 ok1 e1 w1 v hv => ⟨z1, ρ, rfl, ok1, rl.ext ok e1, (wp.bind w1).mono fun ds z2 ok2 e2 w2 vs hvs =>
    wp.here (P := fun ds z' => ∀ vs, HasL X.K q z' ds vs → Q vs z'.H) ok2 w2 _ (HasL.cons (Has.ext ok1 e2 d v hv) hvs)⟩⟩
theorem sd_tup {es : List Expr} {ms : List E} {x1} {pos : Pos} (h : SdA X q S es ms) : Sd X q S (.Tuple es x1 pos) (.tup ms) := fun E tk =>
  pe_imp (pe_tup (h E tk)) fun σ H Q ⟨z, ρ, hH, ok, rl, w⟩ => ⟨z, ρ, hH, ok, rl, (wp.bind w).mono fun ds z1 ok1 e1 w1 vs hvs => by
    have w1 : wp X.K q z1 (if ds.length ≤ sizeLine then R.ok (D.tup ds) z1.G else R.bad) (PQ X.K q Q) E := w1
    split at w1
    · rename_i hz
      refine ⟨by rw [hvs.len]; exact hz, fun p hp => ?_⟩
      exact w1 (z1.put p (.tup vs)) rfl (ok1.put hp) (Ext.put hp) _ (put_tup ok1 hp hvs)
    · exact w1.elim⟩
theorem sd_lst {es : List Expr} {ms : List E} {pos : Pos} (h : SdA X q S es ms) : Sd X q S (.List es pos) (.lst ms) := fun E tk =>
  pe_imp (pe_lst (h E tk)) fun σ H Q ⟨z, ρ, hH, ok, rl, w⟩ => ⟨z, ρ, hH, ok, rl, (wp.bind w).mono fun ds z1 ok1 e1 w1 vs hvs => by
    have w1 : wp X.K q z1 (if ds.length ≤ sizeLine then R.ok (D.lst ds) z1.G else R.bad) (PQ X.K q Q) E := w1
    split at w1
    · rename_i hz
      refine ⟨by rw [hvs.len]; exact hz, fun p hp => ?_⟩
      exact w1 (z1.put p (.lst vs)) rfl (ok1.put hp) (Ext.put hp) _ (put_lst ok1 hp hvs)
    · exact w1.elim⟩

/-! ### a new cell -/
abbrev Z.cell (z : Z) (p : Addr) (ds : List D) (vs : List V) : Z := { μ := z.μ ++ [p], G := z.G ++ [some ds], B := z.B, H := upd z.H p (.lst vs) }
theorem Ext.cell {K : PySem.W.Frag} {z : Z} (ok : Ok K q z) {p : Addr} {ds : List D} {vs : List V} (h : z.H p = none) : Ext z (z.cell p ds vs) := by
  refine ⟨List.prefix_append _ _, rfl, fun a ⟨n, es, h1, h2⟩ => ?_, fun b u hb _ _ => ?_, fun b hb => ?_⟩
  · have h1 : (z.G ++ [some ds])[n]? = some (some es) := h1
    have h2 : (z.μ ++ [p])[n]? = some a := h2
    by_cases hn : n < z.G.length
    · rw [List.getElem?_append_left hn] at h1
      rw [List.getElem?_append_left (by rw [ok.len]; exact hn)] at h2
      exact .inl ⟨n, es, h1, h2⟩
    · rw [List.getElem?_append_right (by rw [ok.len]; omega)] at h2
      have : n - z.μ.length = 0 := by
        have := (List.getElem?_eq_some_iff.mp h2).1
        simp at this; omega
      rw [this] at h2
      simp at h2
      subst h2
      exact .inr (newA h)
  · show upd z.H p _ b = some u
    rw [upd_ne (ne_of_none hb h)]; exact hb
  · refine fun u hu => hb u ?_
    show upd z.H p _ b = some u
    rw [upd_ne (ne_of_none hu h)]; exact hu
theorem Ok.cell {K : PySem.W.Frag} {z : Z} (ok : Ok K q z) {p : Addr} {ds : List D} {vs : List V} (h : z.H p = none) (hv : HasL K q z ds vs) : Ok K q (z.cell p ds vs) := by
  have e := Ext.cell (ds := ds) (vs := vs) ok h
  have pm : ∀ (n : Nat) (a : Addr), z.μ[n]? = some a → (z.μ ++ [p])[n]? = some a := fun n a ha => by
    rw [List.getElem?_append_left (List.getElem?_eq_some_iff.mp ha).1]; exact ha
  have split : ∀ (n : Nat) (es : List D), (z.G ++ [some ds])[n]? = some (some es) → (n < z.G.length ∧ z.G[n]? = some (some es)) ∨ (n = z.G.length ∧ es = ds) := fun n es hn => by
    by_cases hl : n < z.G.length
    · rw [List.getElem?_append_left hl] at hn
      exact .inl ⟨hl, hn⟩
    · rw [List.getElem?_append_right (by omega)] at hn
      have : n - z.G.length = 0 := by
        have := (List.getElem?_eq_some_iff.mp hn).1
        simp at this; omega
      rw [this] at hn
      simp at hn
      exact .inr ⟨by omega, hn.symm⟩
  have atp : (z.μ ++ [p])[z.G.length]? = some p := by rw [← ok.len]; simp
  refine ⟨by show (z.μ ++ [p]).length = (z.G ++ [some ds]).length; rw [List.length_append, List.length_append, ok.len]; rfl, fun n es hn => ?_, fun n m es fs a h1 h2 h3 h4 => ?_, fun b hb => ?_, ok.tabs.ext fun b u hb => ?_⟩
  · rcases split n es hn with ⟨hl, hn⟩ | ⟨rfl, rfl⟩
    · obtain ⟨a, ws, h1, h2, h3, h4⟩ := ok.cells n es hn
      refine ⟨a, ws, pm n a h1, ?_, HasL.ext ok e es ws h3, h4⟩
      show upd z.H p _ a = _
      rw [upd_ne (ne_of_none h2 h)]; exact h2
    · refine ⟨p, vs, atp, upd_same, HasL.ext ok e es vs hv, fun hb => ?_⟩
      obtain ⟨ws, hw⟩ := ok.blk p hb
      rw [h] at hw; cases hw
  · have h1 : (z.G ++ [some ds])[n]? = some (some es) := h1
    have h2 : (z.G ++ [some ds])[m]? = some (some fs) := h2
    have h3 : (z.μ ++ [p])[n]? = some a := h3
    have h4 : (z.μ ++ [p])[m]? = some a := h4
    have lo : ∀ (k : Nat) (gs : List D), z.G[k]? = some (some gs) → (z.μ ++ [p])[k]? = some a → a ≠ p := fun k gs hk ha e' => by
      obtain ⟨a', ws, g1, g2, _⟩ := ok.cells k gs hk
      rw [pm k a' g1] at ha
      cases ha
      rw [e', h] at g2; cases g2
    rcases split n es h1 with ⟨l1, h1⟩ | ⟨e1, _⟩
    · rcases split m fs h2 with ⟨l2, h2⟩ | ⟨e2, _⟩
      · rw [List.getElem?_append_left (by rw [ok.len]; exact l1)] at h3
        rw [List.getElem?_append_left (by rw [ok.len]; exact l2)] at h4
        exact ok.inj n m es fs a h1 h2 h3 h4
      · exfalso
        rw [e2, atp] at h4
        exact lo n es h1 h3 (Option.some.inj h4).symm
    · rcases split m fs h2 with ⟨l2, h2⟩ | ⟨e2, _⟩
      · exfalso
        rw [e1, atp] at h3
        exact lo m fs h2 h4 (Option.some.inj h3).symm
      · rw [e1, e2]
  · obtain ⟨ws, hw⟩ := ok.blk b hb
    refine ⟨ws, ?_⟩
    show upd z.H p _ b = _
    rw [upd_ne (ne_of_none hw h)]; exact hw
  · show upd z.H p _ b = some u
    rw [upd_ne (ne_of_none hb h)]; exact hb
theorem sd_lstC {es : List Expr} {ms : List E} {pos : Pos} (h : SdA X q S es ms) : Sd X q S (.List es pos) (.lstC ms) := fun E tk =>
  pe_imp (pe_lst (h E tk)) fun σ H Q ⟨z, ρ, hH, ok, rl, w⟩ => ⟨z, ρ, hH, ok, rl, (wp.bind w).mono fun ds z1 ok1 e1 w1 vs hvs => by
    have w1 : wp X.K q z1 (if ds.length ≤ sizeLine then R.ok (D.cell z1.G.length) (z1.G ++ [some ds]) else R.bad) (PQ X.K q Q) E := w1
    split at w1
    · rename_i hz
      refine ⟨by rw [hvs.len]; exact hz, fun p hp => ?_⟩
      refine w1 (z1.cell p ds vs) rfl (ok1.cell hp hvs) (Ext.cell ok1 hp) _ ?_
      simp only [Has]
      exact ⟨p, rfl, by show (z1.μ ++ [p])[z1.G.length]? = some p; rw [← ok1.len]; simp⟩
    · exact w1.elim⟩

/-! ### calls of defs -/
def spC (K : PySem.W.Frag) (q : Par) (S : PV.Sem) (g : Nat) (n : Nat) : Sp := fun vs H Q E => ∃ (z : Z) (ds : List D), z.H = H ∧ Ok K q z ∧ HasL K q z ds vs ∧ vs.length = n ∧ wp K q z (S.cal g ds z.G) (PQ K q Q) E
structure FnAt (P : Program) (w : World) (K : PySem.W.Frag) (mg : Str → Option Value) (base : Heap) (q : Par) (S : PV.Sem) (k g : Nat) (x : Str) (dd : List D) : Prop where
  ex : ∃ f fd ps ds dvs, FnOk P w K mg base (L2.CX P w) k f fd ps (spC K q S g ps.length) ∧ mg x = some (.ref f) ∧ PySem.W.keepIn K (.ref f) = true ∧ Binds K fd ps ds ∧ Vals dvs ds ∧ (∀ z, HasL K q z dd dvs) ∧ ∀ ds G, ds.length ≠ ps.length → S.cal g ds G = .bad
theorem passes_tk {E : XK} (tk : Tk X E) : Passes (L2.CX X.prog X.w) X E := fun pins σ H s e s' I c => passAt tk σ pins H s e s' I c
theorem call_pre {g n : Nat} {z : Z} {ds : List D} {vs : List V} {Q : VK} {E : XK} (ar : ∀ ds G, ds.length ≠ n → S.cal g ds G = .bad) (ok : Ok X.K q z) (hv : HasL X.K q z ds vs) (w : wp X.K q z (S.cal g ds z.G) (PQ X.K q Q) E) : spC X.K q S g n vs z.H Q E := by
  refine ⟨z, ds, rfl, ok, hv, ?_, w⟩
  rw [hv.len]
  by_cases hl : ds.length = n
  · exact hl
  · rw [ar ds z.G hl] at w
    exact w.elim
theorem evEs_app {ρ : Env} : ∀ (ms : List E) (dd : List D) (G : Gs), evEs S ρ (ms ++ dd.map .con) G = (evEs S ρ ms G).bind fun ds G1 => .ok (ds ++ dd) G1
  | [], dd, G => by
    show evEs S ρ (dd.map .con) G = .ok ([] ++ dd) G
    induction dd with
    | nil => rfl
    | cons d r ih =>
      show (R.bind (.ok d G) fun d G1 => (evEs S ρ (r.map .con) G1).bind fun ds G2 => .ok (d :: ds) G2) = _
      show ((evEs S ρ (r.map .con) G).bind fun ds G2 => R.ok (d :: ds) G2) = _
      rw [ih]
      rfl
  | m :: ms, dd, G => by
    show ((evE S ρ m G).bind fun d G1 => (evEs S ρ (ms ++ dd.map .con) G1).bind fun ds G2 => .ok (d :: ds) G2) = ((evE S ρ m G).bind fun d G1 => (evEs S ρ ms G1).bind fun ds G2 => R.ok (d :: ds) G2).bind fun ds G1 => .ok (ds ++ dd) G1
    cases evE S ρ m G with
    | bad => rfl
    | exc c G' => rfl
    | ok d G1 =>
      show ((evEs S ρ (ms ++ dd.map .con) G1).bind fun ds G2 => R.ok (d :: ds) G2) = ((evEs S ρ ms G1).bind fun ds G2 => R.ok (d :: ds) G2).bind fun ds G1 => .ok (ds ++ dd) G1
      rw [evEs_app ms dd G1]
      cases evEs S ρ ms G1 <;> rfl
theorem sd_callD {k g : Nat} {x : Str} {p pos : Pos} {e : Expr} {es : List Expr} {ms ms' : List E} {dd : List D} (F : FnAt X.prog X.w X.K X.mg X.base q S k g x dd) (hr : Room k X.A) (hg : Gl X x) (ha : SdA X q S (e :: es) ms) (hm' : ms' = ms ++ dd.map .con)
    (hdb : (x == ("__debug__" : Str)) = false := by decide) (he : starEach (e :: es) X.env = (false, eval e X.env) :: starEach es X.env := by rfl) (hpl : (backTo pos (starEach es X.env)).any (·.1) = false := by rfl) : Sd X q S (.Call (.Name x p) (e :: es) [] pos) (.call g ms') := fun E tk => by
  obtain ⟨f, fd, ps, ds, dvs, F1, hm, hk, hb, hv, hd, ar⟩ := F.ex
  subst hm'
  exact pe_imp (pe_call F1 hr hg hm hk hb hv (passes_tk tk) (ha E tk) hdb he hpl) fun σ H Q ⟨z, ρ, hH, ok, rl, w⟩ => ⟨z, ρ, hH, ok, rl, by
    have w : wp X.K q z ((evEs S ρ (ms ++ dd.map .con) z.G).bind fun ds G1 => S.cal g ds G1) (PQ X.K q Q) E := w
    rw [evEs_app] at w
    have e0 : ((evEs S ρ ms z.G).bind fun ds G1 => R.ok (ds ++ dd) G1).bind (fun ds G1 => S.cal g ds G1) = (evEs S ρ ms z.G).bind fun ds G1 => S.cal g (ds ++ dd) G1 := by cases evEs S ρ ms z.G <;> rfl
    rw [e0] at w
    exact (wp.bind w).mono fun ds' z1 ok1 e1 w1 vs hvs => call_pre ar ok1 (hvs.app (hd z1)) w1⟩
theorem sd_call {k g : Nat} {x : Str} {p pos : Pos} {e : Expr} {es : List Expr} {ms : List E} (F : FnAt X.prog X.w X.K X.mg X.base q S k g x []) (hr : Room k X.A) (hg : Gl X x) (ha : SdA X q S (e :: es) ms)
    (hdb : (x == ("__debug__" : Str)) = false := by decide) (he : starEach (e :: es) X.env = (false, eval e X.env) :: starEach es X.env := by rfl) (hpl : (backTo pos (starEach es X.env)).any (·.1) = false := by rfl) : Sd X q S (.Call (.Name x p) (e :: es) [] pos) (.call g ms) := sd_callD F hr hg ha (by simp) hdb he hpl
theorem sd_call0 {k g : Nat} {x : Str} {p pos : Pos} (F : FnAt X.prog X.w X.K X.mg X.base q S k g x []) (hr : Room k X.A) (hg : Gl X x)
    (hdb : (x == ("__debug__" : Str)) = false := by decide) : Sd X q S (.Call (.Name x p) [] [] pos) (.call g []) := fun E tk => by
  obtain ⟨f, fd, ps, ds, dvs, F1, hm, hk, hb, hv, hd, ar⟩ := F.ex
  have hd0 := (hd ⟨[], [], [], fun _ => none⟩).nil_inv
  subst hd0
  exact pe_imp (pe_call0 F1 hr hg hm hk hb hv (passes_tk tk) hdb) fun σ H Q ⟨z, ρ, hH, ok, rl, w⟩ => by
    subst hH
    exact call_pre ar ok HasL.nil w

/-! ### calls of what is built in -/
def rC (K : PySem.W.Frag) (q : Par) (p : Pr) : List V → Hp → VK → Prop := fun vs H Q => ∃ (z : Z) (ds : List D) (c : D), z.H = H ∧ Ok K q z ∧ HasL K q z ds vs ∧ prim z.G p ds = some c ∧ Post K q z Q c
theorem prim_imp {p : Pr} {ms : List E} {E : XK} {σ : L2.St} {H : Hp} {Q : VK} (h : rdE X.K q S E (.prim p ms) σ H Q) : tCB (rC X.K q p) (rdEs X.K q S E ms) σ H Q := by
  obtain ⟨z, ρ, hH, ok, rl, w⟩ := h
  refine ⟨z, ρ, hH, ok, rl, (wp.bind w).mono fun ds z1 ok1 e1 w1 vs hvs => ?_⟩
  obtain ⟨c, hc, hp⟩ := wp.of w1
  exact ⟨z1, ds, c, rfl, ok1, hvs, hc, hp⟩
theorem sd_callB {p : Pr} {id : String} {x : Str} {pp pos : Pos} {e : Expr} {es : List Expr} {ms : List E} (hc : CallR X (.builtin id) (rC X.K q p)) (hg : Gl X x) (hm : X.mg x = none) (hv : bootBuiltins x = some (.builtin id)) (ha : SdA X q S (e :: es) ms)
    (hn : x ≠ "__name__" := by decide) (hdb : (x == ("__debug__" : Str)) = false := by decide) (he : starEach (e :: es) X.env = (false, eval e X.env) :: starEach es X.env := by rfl) (hpl : (backTo pos (starEach es X.env)).any (·.1) = false := by rfl) : Sd X q S (.Call (.Name x pp) (e :: es) [] pos) (.prim p ms) := fun E tk =>
  pe_imp (pe_callB hc hg hm hv (ha E tk) hn hdb he hpl) fun σ H Q h => prim_imp h
theorem sd_callTy {p : Pr} {T : String} {x : Str} {pp pos : Pos} {e : Expr} {es : List Expr} {ms : List E} (hc : CallR X (.type T) (rC X.K q p)) (hg : Gl X x) (hm : X.mg x = none) (hv : bootBuiltins x = some (.type T)) (ha : SdA X q S (e :: es) ms)
    (hn : x ≠ "__name__" := by decide) (hdb : (x == ("__debug__" : Str)) = false := by decide) (he : starEach (e :: es) X.env = (false, eval e X.env) :: starEach es X.env := by rfl) (hpl : (backTo pos (starEach es X.env)).any (·.1) = false := by rfl) : Sd X q S (.Call (.Name x pp) (e :: es) [] pos) (.prim p ms) := fun E tk =>
  pe_imp (pe_callTy hc hg hm hv (ha E tk) hn hdb he hpl) fun σ H Q h => prim_imp h
theorem sd_callF {p : Pr} {id : String} {x : Str} {pp pos : Pos} {e : Expr} {es : List Expr} {ms : List E} (hc : CallR X (.builtin id) (rC X.K q p)) (hg : Gl X x) (hm : X.mg x = some (.builtin id)) (ha : SdA X q S (e :: es) ms)
    (hdb : (x == ("__debug__" : Str)) = false := by decide) (he : starEach (e :: es) X.env = (false, eval e X.env) :: starEach es X.env := by rfl) (hpl : (backTo pos (starEach es X.env)).any (·.1) = false := by rfl) : Sd X q S (.Call (.Name x pp) (e :: es) [] pos) (.prim p ms) := fun E tk =>
  pe_imp (pe_callBfun hc hg hm (ha E tk) hdb he hpl) fun σ H Q h => prim_imp h

theorem has_seq {K : PySem.W.Frag} {z : Z} {d : D} {l : List D} {v : V} (h : seqOf d = some l) (hv : Has K q z d v) : ∃ a vs, v = .ref a ∧ (SqL K z.H a vs ∨ SqT K z.H a vs) ∧ HasL K q z l vs := by
  cases d <;> simp only [seqOf, reduceCtorEq, Option.some.injEq] at h
  · subst h
    obtain ⟨a, vs, rfl, h1, h2⟩ := hv.ref_of_tup
    exact ⟨a, vs, rfl, .inr h1, h2⟩
  · subst h
    obtain ⟨a, vs, rfl, h1, _, h2⟩ := hv.of_lst
    exact ⟨a, vs, rfl, .inl (SqL.of h1), h2⟩
  · subst h
    simp only [Has] at hv
    obtain ⟨a, vs, rfl, h1, h2⟩ := hv
    refine ⟨a, vs, rfl, .inl ?_, h2⟩
    rcases h1 with ⟨r, _⟩ | h1
    · exact .inl r
    · exact .inr h1
theorem has_lst {K : PySem.W.Frag} {z : Z} {d : D} {l : List D} {v : V} (h : lstOf d = some l) (hv : Has K q z d v) : ∃ a vs, v = .ref a ∧ SqL K z.H a vs ∧ HasL K q z l vs := by
  cases d <;> simp only [lstOf, reduceCtorEq, Option.some.injEq] at h
  · subst h
    obtain ⟨a, vs, rfl, h1, _, h2⟩ := hv.of_lst
    exact ⟨a, vs, rfl, SqL.of h1, h2⟩
  · subst h
    simp only [Has] at hv
    obtain ⟨a, vs, rfl, h1, h2⟩ := hv
    refine ⟨a, vs, rfl, ?_, h2⟩
    rcases h1 with ⟨r, _⟩ | h1
    · exact .inl r
    · exact .inr h1
theorem has_ints {K : PySem.W.Frag} {z : Z} : ∀ {l : List D} {vs : List V} {ns : List Int}, intsD l = some ns → HasL K q z l vs → vs = ns.map V.int
  | [], vs, ns, h, hv => by
    simp only [intsD, Option.some.injEq] at h
    subst h
    exact hv.nil_inv
  | d :: l, vs, ns, h, hv => by
    obtain ⟨v, r, rfl, h1, h2⟩ := hv.cons_inv
    cases d <;> simp only [intsD, reduceCtorEq, Option.map_eq_some_iff] at h
    obtain ⟨ms, h, rfl⟩ := h
    rw [h1.of_int, has_ints h h2]
    rfl
theorem has_strs {K : PySem.W.Frag} {z : Z} : ∀ {l : List D} {vs : List V} {ns : List Str}, strsD l = some ns → HasL K q z l vs → vs = ns.map V.str
  | [], vs, ns, h, hv => by
    simp only [strsD, Option.some.injEq] at h
    subst h
    exact hv.nil_inv
  | d :: l, vs, ns, h, hv => by
    obtain ⟨v, r, rfl, h1, h2⟩ := hv.cons_inv
    cases d <;> simp only [strsD, reduceCtorEq, Option.map_eq_some_iff] at h
    obtain ⟨ms, h, rfl⟩ := h
    rw [h1.of_str, has_strs h h2]
    rfl
theorem strs_has {K : PySem.W.Frag} {z : Z} : ∀ ns : List Str, HasL K q z (ns.map .str) (ns.map V.str)
  | [] => HasL.nil
  | n :: ns => HasL.cons Has.str (strs_has ns)
theorem HasL.one {K : PySem.W.Frag} {z : Z} {d : D} {vs : List V} (h : HasL K q z [d] vs) : ∃ v, vs = [v] ∧ Has K q z d v := by
  obtain ⟨v, r, rfl, h1, h2⟩ := h.cons_inv
  rw [h2.nil_inv]
  exact ⟨v, rfl, h1⟩
theorem HasL.two {K : PySem.W.Frag} {z : Z} {d e : D} {vs : List V} (h : HasL K q z [d, e] vs) : ∃ v u, vs = [v, u] ∧ Has K q z d v ∧ Has K q z e u := by
  obtain ⟨v, r, rfl, h1, h2⟩ := h.cons_inv
  obtain ⟨u, rfl, h3⟩ := h2.one
  exact ⟨v, u, rfl, h1, h3⟩
/-! the functions -/
theorem pr_len : CallR X (.builtin "len") (rC X.K q .len) := by
  intro pins s σ H xs us Q I r h
  obtain ⟨z, ds, c, rfl, ok, hv, hc, hp⟩ := h
  have hc : pLen z.G ds = some c := hc
  unfold pLen at hc
  split at hc <;> try (cases hc; done)
  · split at hc <;> cases hc
    rename_i s' hs
    obtain ⟨v, rfl, h1⟩ := hv.one
    rw [h1.of_str] at r
    exact call_len_str pins s σ _ _ us Q I r ⟨_, rfl, hs, hp.at ok Has.int⟩
  · split at hc <;> cases hc
    rename_i n l hn
    obtain ⟨v, rfl, h1⟩ := hv.one
    simp only [Has] at h1
    obtain ⟨a, rfl, h1⟩ := h1
    obtain ⟨a', vs, e1, e2, e3, _⟩ := ok.cells _ _ hn
    rw [h1] at e1
    cases e1
    exact call_len_seq pins s σ _ _ us Q I r ⟨a, vs, rfl, .inl (SqL.of e2), by rw [e3.len]; exact hp.at ok Has.int⟩
  · rename_i d hd1 hd2
    simp only [Option.map_eq_some_iff] at hc
    obtain ⟨l, hl, rfl⟩ := hc
    obtain ⟨v, rfl, h1⟩ := hv.one
    obtain ⟨a, vs, rfl, h2, h3⟩ := has_seq hl h1
    exact call_len_seq pins s σ _ _ us Q I r ⟨a, vs, rfl, h2, by rw [h3.len]; exact hp.at ok Has.int⟩
theorem pr_abs : CallR X (.builtin "abs") (rC X.K q .abs) := by
  intro pins s σ H xs us Q I r h
  obtain ⟨z, ds, c, rfl, ok, hv, hc, hp⟩ := h
  have hc : pAbs ds = some c := hc
  unfold pAbs at hc
  split at hc <;> try (cases hc; done)
  cases hc
  obtain ⟨v, rfl, h1⟩ := hv.one
  rw [h1.of_int] at r
  exact call_abs pins s σ _ _ us Q I r ⟨_, rfl, hp.at ok Has.int⟩
theorem pr_list : CallR X (.type "list") (rC X.K q .list) := by
  intro pins s σ H xs us Q I r h
  obtain ⟨z, ds, c, rfl, ok, hv, hc, hp⟩ := h
  have hc : pList ds = some c := hc
  unfold pList at hc
  split at hc <;> try (cases hc; done)
  simp only [Option.map_eq_some_iff] at hc
  obtain ⟨l, hl, rfl⟩ := hc
  obtain ⟨v, rfl, h1⟩ := hv.one
  obtain ⟨a, vs, rfl, h2, h3⟩ := has_seq hl h1
  exact call_list_of pins s σ _ _ us Q I r ⟨a, vs, rfl, h2, fun p hn => hp.put ok hn (put_lst ok hn h3)⟩
theorem pr_tuple : CallR X (.type "tuple") (rC X.K q .tuple) := by
  intro pins s σ H xs us Q I r h
  obtain ⟨z, ds, c, rfl, ok, hv, hc, hp⟩ := h
  have hc : pTuple ds = some c := hc
  unfold pTuple at hc
  split at hc <;> try (cases hc; done)
  simp only [Option.map_eq_some_iff] at hc
  obtain ⟨l, hl, rfl⟩ := hc
  obtain ⟨v, rfl, h1⟩ := hv.one
  obtain ⟨a, vs, rfl, h2, h3⟩ := has_seq hl h1
  refine call_tuple_of pins s σ _ _ us Q I r ⟨a, vs, rfl, ?_⟩
  rcases h2 with h2 | h2
  · exact .inl ⟨h2, fun p hn => hp.put ok hn (put_tup ok hn h3)⟩
  · exact .inr ⟨h2, hp.at ok (Has.tup h2 h3)⟩
theorem pr_int : CallR X (.type "int") (rC X.K q .int) := by
  intro pins s σ H xs us Q I r h
  obtain ⟨z, ds, c, rfl, ok, hv, hc, hp⟩ := h
  have hc : pInt ds = some c := hc
  unfold pInt at hc
  split at hc <;> try (cases hc; done)
  · cases hc
    obtain ⟨v, rfl, h1⟩ := hv.one
    rw [h1.of_int] at r
    exact call_int1 pins s σ _ _ us Q I r (.inl ⟨_, rfl, hp.at ok Has.int⟩)
  · cases hc
    obtain ⟨v, rfl, h1⟩ := hv.one
    rw [h1.of_bl] at r
    exact call_int1 pins s σ _ _ us Q I r (.inr ⟨_, rfl, hp.at ok Has.int⟩)
  · split at hc <;> try (cases hc; done)
    split at hc <;> cases hc
    rename_i s' n hn hl
    obtain ⟨v, rfl, h1⟩ := hv.one
    rw [h1.of_str] at r
    exact call_int_str pins s σ _ _ us Q I r ⟨_, _, rfl, hn, hl, hp.at ok Has.int⟩
theorem pr_str : CallR X (.type "str") (rC X.K q .str) := by
  intro pins s σ H xs us Q I r h
  obtain ⟨z, ds, c, rfl, ok, hv, hc, hp⟩ := h
  have hc : pStr ds = some c := hc
  unfold pStr at hc
  split at hc <;> try (cases hc; done)
  split at hc <;> cases hc
  rename_i i hs
  obtain ⟨v, rfl, h1⟩ := hv.one
  rw [h1.of_int] at r
  exact call_str_int pins s σ _ _ us Q I r ⟨_, rfl, hs, hp.at ok Has.str⟩
theorem pr_gcd : CallR X (.builtin "math.gcd") (rC X.K q .gcd) := by
  intro pins s σ H xs us Q I r h
  obtain ⟨z, ds, c, rfl, ok, hv, hc, hp⟩ := h
  have hc : pGcd ds = some c := hc
  unfold pGcd at hc
  split at hc <;> try (cases hc; done)
  cases hc
  obtain ⟨v, u, rfl, h1, h2⟩ := hv.two
  rw [h1.of_int, h2.of_int] at r
  exact cr_gcd pins s σ _ _ us Q I r ⟨_, _, rfl, hp.at ok Has.int⟩
theorem fold_max : ∀ (r : List Int) (x m : Int), (m = x ∨ m ∈ r) → x ≤ m → (∀ y ∈ r, y ≤ m) → r.foldl (fun a b => if b > a then b else a) x = m
  | [], x, m, h, _, _ => by
    rcases h with h | h
    · exact h.symm
    · cases h
  | b :: r, x, m, h, hx, hr => by
    rw [List.foldl_cons]
    have hb := hr b (List.mem_cons_self ..)
    refine fold_max r _ m ?_ ?_ fun y hy => hr y (List.mem_cons_of_mem _ hy)
    · rcases h with h | h
      · subst h
        split
        · omega
        · exact .inl rfl
      · rcases List.mem_cons.mp h with h | h
        · subst h
          split
          · exact .inl rfl
          · left; omega
        · exact .inr h
    · split <;> omega
theorem fold_min : ∀ (r : List Int) (x m : Int), (m = x ∨ m ∈ r) → m ≤ x → (∀ y ∈ r, m ≤ y) → r.foldl (fun a b => if b < a then b else a) x = m
  | [], x, m, h, _, _ => by
    rcases h with h | h
    · exact h.symm
    · cases h
  | b :: r, x, m, h, hx, hr => by
    rw [List.foldl_cons]
    have hb := hr b (List.mem_cons_self ..)
    refine fold_min r _ m ?_ ?_ fun y hy => hr y (List.mem_cons_of_mem _ hy)
    · rcases h with h | h
      · subst h
        split
        · omega
        · exact .inl rfl
      · rcases List.mem_cons.mp h with h | h
        · subst h
          split
          · exact .inl rfl
          · left; omega
        · exact .inr h
    · split <;> omega
theorem pr_max1 (hcm : X.calm = true) : CallR X (.builtin "max") (rC X.K q .max1) := by
  intro pins s σ H xs us Q I r h
  obtain ⟨z, ds, c, rfl, ok, hv, hc, hp⟩ := h
  have hc : pMax1 ds = some c := hc
  unfold pMax1 at hc
  split at hc <;> try (cases hc; done)
  simp only [Option.map_eq_some_iff, Option.bind_eq_some_iff] at hc
  obtain ⟨ns, ⟨l, hl, hn⟩, m, hm, rfl⟩ := hc
  obtain ⟨v, rfl, h1⟩ := hv.one
  obtain ⟨a, vs, rfl, h2, h3⟩ := has_lst hl h1
  have e := has_ints hn h3
  subst e
  cases ns with
  | nil => simp [maxI] at hm
  | cons x rr =>
    simp only [maxI, Option.some.injEq] at hm
    refine cr_max hcm pins s σ _ _ us Q I r ⟨a, _, rfl, h2, by simp, fun m' h4 h5 => ?_⟩
    have := fold_max rr x m' (List.mem_cons.mp h4) (h5 x (List.mem_cons_self ..)) fun y hy => h5 y (List.mem_cons_of_mem _ hy)
    rw [← this, hm]
    exact hp.at ok Has.int
theorem pr_min1 (hcm : X.calm = true) : CallR X (.builtin "min") (rC X.K q .min1) := by
  intro pins s σ H xs us Q I r h
  obtain ⟨z, ds, c, rfl, ok, hv, hc, hp⟩ := h
  have hc : pMin1 ds = some c := hc
  unfold pMin1 at hc
  split at hc <;> try (cases hc; done)
  simp only [Option.map_eq_some_iff, Option.bind_eq_some_iff] at hc
  obtain ⟨ns, ⟨l, hl, hn⟩, m, hm, rfl⟩ := hc
  obtain ⟨v, rfl, h1⟩ := hv.one
  obtain ⟨a, vs, rfl, h2, h3⟩ := has_lst hl h1
  have e := has_ints hn h3
  subst e
  cases ns with
  | nil => simp [minI] at hm
  | cons x rr =>
    simp only [minI, Option.some.injEq] at hm
    refine cr_min hcm pins s σ _ _ us Q I r ⟨a, _, rfl, h2, by simp, fun m' h4 h5 => ?_⟩
    have := fold_min rr x m' (List.mem_cons.mp h4) (h5 x (List.mem_cons_self ..)) fun y hy => h5 y (List.mem_cons_of_mem _ hy)
    rw [← this, hm]
    exact hp.at ok Has.int
theorem pr_max2 (hcm : X.calm = true) : CallR X (.builtin "max") (rC X.K q .max2) := by
  intro pins s σ H xs us Q I r h
  obtain ⟨z, ds, c, rfl, ok, hv, hc, hp⟩ := h
  have hc : pMax2 ds = some c := hc
  unfold pMax2 at hc
  split at hc <;> try (cases hc; done)
  cases hc
  obtain ⟨v, u, rfl, h1, h2⟩ := hv.two
  rw [h1.of_int, h2.of_int] at r
  exact call_max2 hcm pins s σ _ _ us Q I r ⟨_, _, rfl, hp.at ok Has.int⟩
theorem pr_min2 (hcm : X.calm = true) : CallR X (.builtin "min") (rC X.K q .min2) := by
  intro pins s σ H xs us Q I r h
  obtain ⟨z, ds, c, rfl, ok, hv, hc, hp⟩ := h
  have hc : pMin2 ds = some c := hc
  unfold pMin2 at hc
  split at hc <;> try (cases hc; done)
  cases hc
  obtain ⟨v, u, rfl, h1, h2⟩ := hv.two
  rw [h1.of_int, h2.of_int] at r
  exact call_min2 hcm pins s σ _ _ us Q I r ⟨_, _, rfl, hp.at ok Has.int⟩
theorem pr_sum (hcm : X.calm = true) : CallR X (.builtin "sum") (rC X.K q .sum) := by
  intro pins s σ H xs us Q I r h
  obtain ⟨z, ds, c, rfl, ok, hv, hc, hp⟩ := h
  have hc : pSum ds = some c := hc
  unfold pSum at hc
  split at hc <;> try (cases hc; done)
  simp only [Option.map_eq_some_iff, Option.bind_eq_some_iff] at hc
  obtain ⟨ns, ⟨l, hl, hn⟩, rfl⟩ := hc
  obtain ⟨v, rfl, h1⟩ := hv.one
  obtain ⟨a, vs, rfl, h2, h3⟩ := has_lst hl h1
  have e := has_ints hn h3
  subst e
  exact cr_sum hcm pins s σ _ _ us Q I r ⟨a, _, rfl, h2, hp.at ok Has.int⟩
end
end PV
end
/-! ## PV5 -/
section
set_option Elab.async false
set_option linter.all false
set_option maxRecDepth 100000
set_option maxHeartbeats 4000000
/-! The rules: walks, targets, comprehensions, loops. -/
namespace PV
open PySem L2 LamX RZ
section
variable {X : Cx} {q : Par} {S : PV.Sem}

/-! ### walks -/
structure Wk (K : PySem.W.Frag) (q : Par) (J : L2.It) (ds : List D) (I : Z → Prop) : Prop where
  stop : ∀ z, Ok K q z → I z → J.stop ds.length z.H
  go : ∀ z i, Ok K q z → I z → i < ds.length → J.go i z.H
  yld : ∀ z i x H', Ok K q z → I z → i < ds.length → J.yld i z.H x H' → ∃ z' : Z, z'.H = H' ∧ z'.G = z.G ∧ Ok K q z' ∧ Ext z z' ∧ ∃ d, ds[i]? = some d ∧ Has K q z' d x
  st : ∀ z z', Mv K q z z' → I z → I z'
def rdI (K : PySem.W.Frag) (q : Par) (S : PV.Sem) (E : XK) (it : PV.It) : TI := fun σ H R => ∃ z ρ, z.H = H ∧ Ok K q z ∧ RelS K q z ρ σ ∧ wp K q z (evI S ρ it z.G) (fun ds z' => ∀ J I, Wk K q J ds I → I z' → R J z'.H) E
def SdI (X : Cx) (q : Par) (S : PV.Sem) (tg e : Expr) (it : PV.It) : Prop := ∀ E : XK, Tk X E → PI X tg e (rdI X.K q S E it)
theorem pi_imp {tg e : Expr} {t t' : TI} (h : PI X tg e t) (f : ∀ σ H R, t' σ H R → t σ H R) : PI X tg e t' := ⟨fun pins s σ H R I w => h.run pins s σ H R I (f σ H R w)⟩
theorem pi_or {tg e : Expr} {t t' : TI} (h : PI X tg e t) (h' : PI X tg e t') : PI X tg e (fun σ H R => t σ H R ∨ t' σ H R) := ⟨fun pins s σ H R I w => by
  rcases w with w | w
  · exact h.run pins s σ H R I w
  · exact h'.run pins s σ H R I w⟩
theorem wk_lst {K : PySem.W.Frag} {a : Addr} {ds : List D} {vs : List V} : Wk K q (Itl K a) ds (fun z => Rd z.H a (.lst vs) ∧ Free z a ∧ HasL K q z ds vs) where
  stop := fun z ok ⟨h1, _, h2⟩ => ⟨vs, .inl h1, by rw [h2.len]; exact Nat.le_refl _⟩
  go := fun z i ok ⟨h1, _, h2⟩ hi => ⟨vs, vs[i]'(by rw [h2.len]; exact hi), .inl h1, by simp⟩
  yld := fun z i x H' ok ⟨h1, _, h2⟩ hi ⟨e, h3⟩ => by
    subst e
    obtain ⟨d, h4, h5⟩ := h2.get' (h3 vs (.inl h1))
    exact ⟨z, rfl, rfl, ok, Ext.refl z, d, h4, h5⟩
  st := fun z z' m ⟨h1, f, h2⟩ => ⟨(m.r a vs h1 f).1, (m.r a vs h1 f).2, HasL.mv m ds vs h2⟩
theorem wk_kl {K : PySem.W.Frag} {a : Addr} {ds : List D} {vs : List V} (hk : KL K a vs) : Wk K q (Itl K a) ds (fun z => HasL K q z ds vs) where
  stop := fun z ok h2 => ⟨vs, .inr hk, by rw [h2.len]; exact Nat.le_refl _⟩
  go := fun z i ok h2 hi => ⟨vs, vs[i]'(by rw [h2.len]; exact hi), .inr hk, by simp⟩
  yld := fun z i x H' ok h2 hi ⟨e, h3⟩ => by
    subst e
    obtain ⟨d, h4, h5⟩ := h2.get' (h3 vs (.inr hk))
    exact ⟨z, rfl, rfl, ok, Ext.refl z, d, h4, h5⟩
  st := fun z z' m h2 => HasL.mv m ds vs h2
theorem wk_tup {K : PySem.W.Frag} {a : Addr} {ds : List D} {vs : List V} : Wk K q (Itt K a) ds (fun z => SqT K z.H a vs ∧ HasL K q z ds vs) where
  stop := fun z ok ⟨h1, h2⟩ => ⟨vs, h1, by rw [h2.len]; exact Nat.le_refl _⟩
  go := fun z i ok ⟨h1, h2⟩ hi => ⟨vs, vs[i]'(by rw [h2.len]; exact hi), h1, by simp⟩
  yld := fun z i x H' ok ⟨h1, h2⟩ hi ⟨e, h3⟩ => by
    subst e
    obtain ⟨d, h4, h5⟩ := h2.get' (h3 vs h1)
    exact ⟨z, rfl, rfl, ok, Ext.refl z, d, h4, h5⟩
  st := fun z z' m ⟨h1, h2⟩ => ⟨m.t a vs h1, HasL.mv m ds vs h2⟩
theorem rangeD_len (lo hi : Int) : (rangeD lo hi).length = (hi - lo).toNat := by simp [rangeD]
theorem wk_rng {K : PySem.W.Frag} {lo hi : Int} : Wk K q (Itr lo (hi - lo).toNat) (rangeD lo hi) (fun _ => True) where
  stop := fun z ok _ => by rw [rangeD_len]; exact Nat.le_refl _
  go := fun z i ok _ h => by rw [rangeD_len] at h; exact h
  yld := fun z i x H' ok _ h ⟨e, e2⟩ => by
    subst e; subst e2
    rw [rangeD_len] at h
    refine ⟨z, rfl, rfl, ok, Ext.refl z, .int (lo + i), ?_, Has.int⟩
    simp [rangeD, h]
  st := fun _ _ _ _ => trivial
theorem wk_zip {K : PySem.W.Frag} {a b : Addr} {ds es : List D} {vs ws : List V} (hl : ds.length = es.length) : Wk K q (Itz K a b) ((ds.zip es).map fun p => .tup [p.1, p.2]) (fun z => z.H a = some (.lst vs) ∧ z.H b = some (.lst ws) ∧ Free z a ∧ Free z b ∧ HasL K q z ds vs ∧ HasL K q z es ws) where
  stop := fun z ok ⟨h1, h2, _, _, h3, h4⟩ => ⟨vs, ws, SqL.of h1, SqL.of h2, .inl (by rw [h3.len]; simp [hl])⟩
  go := fun z i ok ⟨h1, h2, _, _, h3, h4⟩ hi => by
    have hi : i < ds.length := by simp [hl] at hi; omega
    exact ⟨vs, ws, vs[i]'(by rw [h3.len]; exact hi), ws[i]'(by rw [h4.len, ← hl]; exact hi), SqL.of h1, SqL.of h2, by simp, by simp⟩
  yld := fun z i x H' ok ⟨h1, h2, _, _, h3, h4⟩ hi ⟨T, x1, y1, e1, hn, e2, h5, h6⟩ => by
    subst e1; subst e2
    obtain ⟨d, g1, g2⟩ := h3.get' (h5 vs (SqL.of h1))
    obtain ⟨e, g3, g4⟩ := h4.get' (h6 ws (SqL.of h2))
    refine ⟨z.put T (.tup [x1, y1]), rfl, rfl, ok.put hn, Ext.put hn, .tup [d, e], ?_, put_tup ok hn (HasL.cons g2 (HasL.cons g4 HasL.nil))⟩
    have : (ds.zip es)[i]? = some (d, e) := List.getElem?_zip_eq_some.mpr ⟨g1, g3⟩
    rw [List.getElem?_map, this]
    rfl
  st := fun z z' m ⟨h1, h2, f1, f2, h3, h4⟩ => ⟨(m.l a vs h1 f1).1, (m.l b ws h2 f2).1, (m.l a vs h1 f1).2, (m.l b ws h2 f2).2, HasL.mv m ds vs h3, HasL.mv m es ws h4⟩
theorem wk_zipT {K : PySem.W.Frag} {a b : Addr} {ds es : List D} {vs ws : List V} (hl : ds.length = es.length) : Wk K q (ItzT K a b) ((ds.zip es).map fun p => .tup [p.1, p.2]) (fun z => SqT K z.H a vs ∧ SqT K z.H b ws ∧ HasL K q z ds vs ∧ HasL K q z es ws) where
  stop := fun z ok ⟨h1, h2, h3, h4⟩ => ⟨vs, ws, h1, h2, .inl (by rw [h3.len]; simp [hl])⟩
  go := fun z i ok ⟨h1, h2, h3, h4⟩ hi => by
    have hi : i < ds.length := by simp [hl] at hi; omega
    exact ⟨vs, ws, vs[i]'(by rw [h3.len]; exact hi), ws[i]'(by rw [h4.len, ← hl]; exact hi), h1, h2, by simp, by simp⟩
  yld := fun z i x H' ok ⟨h1, h2, h3, h4⟩ hi ⟨T, x1, y1, e1, hn, e2, h5, h6⟩ => by
    subst e1; subst e2
    obtain ⟨d, g1, g2⟩ := h3.get' (h5 vs h1)
    obtain ⟨e, g3, g4⟩ := h4.get' (h6 ws h2)
    refine ⟨z.put T (.tup [x1, y1]), rfl, rfl, ok.put hn, Ext.put hn, .tup [d, e], ?_, put_tup ok hn (HasL.cons g2 (HasL.cons g4 HasL.nil))⟩
    have : (ds.zip es)[i]? = some (d, e) := List.getElem?_zip_eq_some.mpr ⟨g1, g3⟩
    rw [List.getElem?_map, this]
    rfl
  st := fun z z' m ⟨h1, h2, h3, h4⟩ => ⟨m.t a vs h1, m.t b ws h2, HasL.mv m ds vs h3, HasL.mv m es ws h4⟩

theorem wk_str {K : PySem.W.Frag} {x : Str} : Wk K q (Its x) (x.cps.toList.map fun c => D.str ⟨#[c]⟩) (fun _ => True) where
  stop := fun z ok _ => by show x.cps.size ≤ _; simp
  go := fun z i ok _ h => by show i < x.cps.size; simpa using h
  yld := fun z i y H' ok _ h ⟨e, c, hc, e2⟩ => by
    subst e; subst e2
    refine ⟨z, rfl, rfl, ok, Ext.refl z, .str ⟨#[c]⟩, ?_, Has.str⟩
    rw [List.getElem?_map, Array.getElem?_toList, hc]
    rfl
  st := fun _ _ _ _ => trivial
/-- a walk over a list or a tuple -/
theorem sdi_seq {tg a : Expr} {ma : E} (h : Sd X q S a ma) : SdI X q S tg a (.seq ma) := fun E tk =>
  pi_imp (pi_or (pi_str (h E tk)) (pi_or (pi_list (h E tk)) (pi_tup (h E tk)))) fun σ H R ⟨z, ρ, hH, ok, rl, w⟩ => by
    have w1 := wp.bind w
    cases hr : evE S ρ ma z.G with
    | bad => rw [hr] at w1; exact w1.elim
    | exc c G' =>
      refine .inl ⟨z, ρ, hH, ok, rl, ?_⟩
      rw [hr] at w1 ⊢
      exact w1
    | ok d G' =>
      have no : walkOf d = none → ∀ P : Prop, ∀ z1 : Z, z1.G = G' → Ok X.K q z1 → Ext z z1 → P := fun hn P z1 hG ok1 e1 => by
        rw [hr] at w1
        obtain ⟨c, hc, _⟩ := wp.of (w1 z1 hG ok1 e1)
        rw [hn] at hc; cases hc
      have li : ∀ l, walkOf d = some l → ∀ z1 : Z, z1.G = G' → Ok X.K q z1 → Ext z z1 → ∀ J I, Wk X.K q J l I → I z1 → R J z1.H := fun l hl z1 hG ok1 e1 => by
        rw [hr] at w1
        obtain ⟨c, hc, hp⟩ := wp.of (w1 z1 hG ok1 e1)
        rw [hl] at hc; cases hc
        exact hp z1 rfl ok1 (Ext.refl _)
      by_cases ht : ∃ l, d = .tup l
      · obtain ⟨l, rfl⟩ := ht
        refine .inr (.inr ⟨z, ρ, hH, ok, rl, ?_⟩)
        rw [hr]
        intro z1 hG ok1 e1 v hv
        obtain ⟨a, vs, rfl, h1, h2⟩ := hv.ref_of_tup
        exact ⟨a, rfl, ⟨vs, h1⟩, li l rfl z1 hG ok1 e1 _ _ wk_tup ⟨h1, h2⟩⟩
      · by_cases hs : ∃ x, d = .str x
        · obtain ⟨x, rfl⟩ := hs
          refine .inl ⟨z, ρ, hH, ok, rl, ?_⟩
          rw [hr]
          intro z1 hG ok1 e1 v hv
          exact ⟨x, hv.of_str, li _ rfl z1 hG ok1 e1 _ _ wk_str trivial⟩
        refine .inr (.inl ⟨z, ρ, hH, ok, rl, ?_⟩)
        rw [hr]
        intro z1 hG ok1 e1 v hv
        cases d with
        | str x => exact absurd ⟨x, rfl⟩ hs
        | tup l => exact absurd ⟨l, rfl⟩ ht
        | lst l =>
          obtain ⟨a, vs, rfl, h1, f, h2⟩ := hv.of_lst
          exact ⟨a, rfl, ⟨vs, SqL.of h1⟩, li l rfl z1 hG ok1 e1 _ _ wk_lst ⟨.inl h1, f, h2⟩⟩
        | frz l =>
          simp only [Has] at hv
          obtain ⟨a, vs, rfl, h1, h2⟩ := hv
          rcases h1 with ⟨h1, f⟩ | h1
          · exact ⟨a, rfl, ⟨vs, .inl h1⟩, li l rfl z1 hG ok1 e1 _ _ wk_lst ⟨h1, f, h2⟩⟩
          · exact ⟨a, rfl, ⟨vs, .inr h1⟩, li l rfl z1 hG ok1 e1 _ _ (wk_kl h1) h2⟩
        | _ => exact no rfl _ z1 hG ok1 e1
theorem sdi_rng1 {tg a : Expr} {ma : E} {p pos : Pos} (hg : Gl X "range") (hm : X.mg "range" = none) (h : Sd X q S a ma) (hs : starEach [a] X.env = [(false, eval a X.env)] := by rfl) : SdI X q S tg (.Call (.Name "range" p) [a] [] pos) (.rng1 ma) := fun E tk =>
  pi_imp (pi_range1 hg hm (sda_cons h sda_nil (by rw [hs]; rfl) E tk) hs) fun σ H R ⟨z, ρ, hH, ok, rl, w⟩ => by
    refine ⟨z, ρ, hH, ok, rl, ?_⟩
    have e0 : evEs S ρ [ma] z.G = (evE S ρ ma z.G).bind fun d G1 => .ok [d] G1 := rfl
    have w1 := wp.bind w
    rw [e0]
    cases hr : evE S ρ ma z.G with
    | bad => rw [hr] at w1; exact w1.elim
    | exc c G' => rw [hr] at w1; exact w1
    | ok d G' =>
      rw [hr] at w1
      intro z1 hG ok1 e1 vs hvs
      have w2 := w1 z1 hG ok1 e1
      obtain ⟨v, rfl, hv⟩ := hvs.one
      cases d with
      | int j =>
        have w2 : wp X.K q z1 (if -(2 ^ 62) ≤ j ∧ j < 2 ^ 62 then PV.R.ok (rangeD 0 j) z1.G else PV.R.bad) _ E := w2
        split at w2
        · rename_i hb
          refine ⟨j, by rw [hv.of_int], hb.1, hb.2, ?_⟩
          have wk := wk_rng (K := X.K) (q := q) (lo := 0) (hi := j)
          rw [Int.sub_zero] at wk
          exact w2 z1 rfl ok1 (Ext.refl _) _ _ wk trivial
        · exact w2.elim
      | _ => exact w2.elim
theorem sdi_rng2 {tg a b : Expr} {ma mb : E} {p pos : Pos} (hg : Gl X "range") (hm : X.mg "range" = none) (h : Sd X q S a ma) (g : Sd X q S b mb) (hs : starEach [a, b] X.env = [(false, eval a X.env), (false, eval b X.env)] := by rfl) (hs2 : starEach [b] X.env = [(false, eval b X.env)] := by rfl) : SdI X q S tg (.Call (.Name "range" p) [a, b] [] pos) (.rng2 ma mb) := fun E tk =>
  pi_imp (pi_range2 hg hm (sda_cons h (sda_cons g sda_nil (by rw [hs2]; rfl)) (by rw [hs, hs2]) E tk) hs hs2) fun σ H R ⟨z, ρ, hH, ok, rl, w⟩ => by
    refine ⟨z, ρ, hH, ok, rl, ?_⟩
    have e0 : evEs S ρ [ma, mb] z.G = (evE S ρ ma z.G).bind fun d G1 => ((evE S ρ mb G1).bind fun e G2 => .ok [e] G2).bind fun ds G3 => .ok (d :: ds) G3 := rfl
    rw [e0]
    have w1 : wp X.K q z ((evE S ρ ma z.G).bind fun x G1 => (evE S ρ mb G1).bind fun y G2 => match x, y with
      | .int i, .int j => if (-(2 ^ 62) ≤ i ∧ i < 2 ^ 62) ∧ (-(2 ^ 62) ≤ j ∧ j < 2 ^ 62) then PV.R.ok (rangeD i j) G2 else .bad
      | _, _ => .bad) (fun ds z' => ∀ J I, Wk X.K q J ds I → I z' → R J z'.H) E := w
    cases hr : evE S ρ ma z.G with
    | bad => rw [hr] at w1; exact w1.elim
    | exc c G' => rw [hr] at w1; exact w1
    | ok d G' =>
      rw [hr] at w1
      show wp X.K q z (((evE S ρ mb G').bind fun e G2 => .ok [e] G2).bind fun ds G3 => .ok (d :: ds) G3) _ E
      have w1 : wp X.K q z ((evE S ρ mb G').bind fun y G2 => match d, y with
        | .int i, .int j => if (-(2 ^ 62) ≤ i ∧ i < 2 ^ 62) ∧ (-(2 ^ 62) ≤ j ∧ j < 2 ^ 62) then PV.R.ok (rangeD i j) G2 else .bad
        | _, _ => .bad) (fun ds z' => ∀ J I, Wk X.K q J ds I → I z' → R J z'.H) E := w1
      cases hr2 : evE S ρ mb G' with
      | bad => rw [hr2] at w1; exact w1.elim
      | exc c G' => rw [hr2] at w1; exact w1
      | ok e G2 =>
        rw [hr2] at w1
        intro z1 hG ok1 e1 vs hvs
        obtain ⟨v, u, rfl, hv, hu⟩ := hvs.two
        cases d with
        | int i =>
          cases e with
          | int j =>
            have w1 : wp X.K q z (if (-(2 ^ 62) ≤ i ∧ i < 2 ^ 62) ∧ (-(2 ^ 62) ≤ j ∧ j < 2 ^ 62) then PV.R.ok (rangeD i j) G2 else PV.R.bad) _ E := w1
            split at w1
            · rename_i hb
              exact ⟨i, j, by rw [hv.of_int, hu.of_int], ⟨hb.1.1, hb.1.2, hb.2.1, hb.2.2⟩, w1 z1 hG ok1 e1 _ _ wk_rng trivial⟩
            · exact w1.elim
          | _ => exact w1.elim
        | _ => exact w1.elim

/-! ### targets -/
def slotsT : Tg → List Nat
  | .nm i => [i]
  | .tp l => l
theorem wipe_get {σ : L2.St} {j : Nat} : ∀ {vs : List Nat}, j ∈ vs → (L2.wipe σ vs)[j]? = if j < σ.length then some none else none
  | [], h => by cases h
  | v :: vs, h => by
    show ((L2.wipe σ vs).set v none)[j]? = _
    by_cases e : v = j
    · subst e
      by_cases hl : v < σ.length
      · rw [List.getElem?_set_self (by rw [L2.wipe_length]; exact hl), if_pos hl]
      · rw [List.getElem?_eq_none (by rw [List.length_set, L2.wipe_length]; omega), if_neg hl]
    · rw [List.getElem?_set_ne e]
      exact wipe_get ((List.mem_cons.mp h).resolve_left fun x => e x.symm)
theorem wipe_set {σ : L2.St} {i : Nat} {x : Option V} {vs : List Nat} (h : i ∈ vs) : L2.wipe (σ.set i x) vs = L2.wipe σ vs := by
  refine List.ext_getElem? fun j => ?_
  by_cases hj : j ∈ vs
  · rw [wipe_get hj, wipe_get hj, List.length_set]
  · rw [L2.wipe_out hj, L2.wipe_out hj, List.getElem?_set_ne (fun e => hj (by rw [← e]; exact h))]
def rdG (K : PySem.W.Frag) (q : Par) (tg : Tg) : TG := fun v σ H Q => ∃ z d ρ ρ', z.H = H ∧ Ok K q z ∧ RelS K q z ρ σ ∧ Has K q z d v ∧ PV.assign ρ tg d = some ρ' ∧ ∀ σ', RelS K q z ρ' σ' → (∀ vs, (∀ i ∈ slotsT tg, i ∈ vs) → L2.wipe σ' vs = L2.wipe σ vs) → Q σ' H
def rdGs (K : PySem.W.Frag) (q : Par) (l : List Nat) : TGs := fun vs σ H Q => ∃ z ds ρ, z.H = H ∧ Ok K q z ∧ RelS K q z ρ σ ∧ HasL K q z ds vs ∧ l.length = ds.length ∧ ∀ σ', RelS K q z ((l.zip ds).foldl (fun r p => r.set p.1 (some p.2)) ρ) σ' → (∀ vs, (∀ i ∈ l, i ∈ vs) → L2.wipe σ' vs = L2.wipe σ vs) → Q σ' H
abbrev SdG (X : Cx) (q : Par) (e : Expr) (tg : Tg) : Prop := PG X e (rdG X.K q tg)
abbrev SdGs (X : Cx) (q : Par) (es : List Expr) (l : List Nat) : Prop := PGs X es (rdGs X.K q l)
theorem pg_imp {e : Expr} {t t' : TG} (h : PG X e t) (f : ∀ v σ H Q, t' v σ H Q → t v σ H Q) : PG X e t' := ⟨fun pins s σ H v u Q I r w => h.run pins s σ H v u Q I r (f v σ H Q w)⟩
theorem pgs_imp {e : List Expr} {t t' : TGs} (h : PGs X e t) (f : ∀ v σ H Q, t' v σ H Q → t v σ H Q) : PGs X e t' := ⟨fun pins s σ H v u Q I r w => h.run pins s σ H v u Q I r (f v σ H Q w)⟩
theorem pg_or {e : Expr} {t t' : TG} (h : PG X e t) (h' : PG X e t') : PG X e (fun v σ H Q => t v σ H Q ∨ t' v σ H Q) := ⟨fun pins s σ H v u Q I r w => by
  rcases w with w | w
  · exact h.run pins s σ H v u Q I r w
  · exact h'.run pins s σ H v u Q I r w⟩
theorem sdg_name (i : Nat) {x : Str} {pos : Pos} (hN : X.N.Nodup) (hi : X.N[i]? = some x := by rfl) (hx : Loc X.env.scope x := by first | exact Or.inl rfl | exact Or.inr rfl) (hf : X.fn x = true ∨ X.env.scope.names.lookup x = some .local := by first | exact .inl rfl | exact .inr rfl) : SdG X q (.Name x pos) (.nm i) :=
  pg_imp (pg_name hN hi hx hf) fun v σ H Q ⟨z, d, ρ, ρ', hH, ok, rl, hv, ha, k⟩ => by
    simp only [PV.assign, Option.some.injEq] at ha
    subst ha
    exact k _ (rl.set hv i) fun vs hs => wipe_set (hs i (by simp [slotsT]))
theorem sdgs_nil : SdGs X q [] [] := pgs_imp pgs_nil fun vs σ H Q ⟨z, ds, ρ, hH, ok, rl, hv, hl, k⟩ => by
  have e : ds = [] := List.eq_nil_of_length_eq_zero hl.symm
  subst e
  exact ⟨hv.nil_inv, k σ rl fun _ _ => rfl⟩
theorem sdgs_cons (i : Nat) {e : Expr} {es : List Expr} {l : List Nat} (h : SdG X q e (.nm i)) (t : SdGs X q es l) (hs : (assignEach (e :: es) X.env).map (·.2) = PySem.assign e X.env :: (assignEach es X.env).map (·.2) := by rfl) : SdGs X q (e :: es) (i :: l) :=
  pgs_imp (pgs_cons h t hs) fun vs σ H Q ⟨z, ds, ρ, hH, ok, rl, hv, hl, k⟩ => by
    cases ds with
    | nil => simp at hl
    | cons d ds =>
      obtain ⟨v, r, rfl, h1, h2⟩ := hv.cons_inv
      refine ⟨v, r, rfl, z, d, ρ, ρ.set i (some d), hH, ok, rl, h1, rfl, fun σ1 rl1 w1 => ?_⟩
      refine ⟨z, ds, _, hH, ok, rl1, h2, by simpa using hl, fun σ2 rl2 w2 => k σ2 rl2 fun vs hs => ?_⟩
      rw [w2 vs (fun j hj => hs j (List.mem_cons_of_mem _ hj)), w1 vs (fun j hj => ?_)]
      simp [slotsT] at hj
      exact hs j (by rw [hj]; exact List.mem_cons_self ..)
theorem sdg_tup {es : List Expr} {k : Nat} {l : List Nat} {n : Nat} {pos : Pos} (hc : X.calm = true) (h : SdGs X q es l) (hln : l.length = n) (hn : (assignEach es X.env).length = n := by rfl) (hst : (assignEach es X.env).findIdx? (·.1) = none := by rfl) : SdG X q (.Tuple es k pos) (.tp l) :=
  pg_imp (pg_or (pg_tup (n := n) hc h hn hst) (pg_unl (n := n) hc h hn hst)) fun v σ H Q ⟨z, d, ρ, ρ', hH, ok, rl, hv, ha, k⟩ => by
    subst hH
    cases d <;> simp only [PV.assign, reduceCtorEq] at ha
    · split at ha <;> cases ha
      rename_i ds hl
      obtain ⟨a, vs, rfl, h1, h2⟩ := hv.ref_of_tup
      exact .inl ⟨a, vs, rfl, h1, by rw [h2.len, ← hl]; exact hln, z, ds, ρ, rfl, ok, rl, h2, hl, fun σ' r w => k σ' r w⟩
    · split at ha <;> cases ha
      rename_i ds hl
      obtain ⟨a, vs, rfl, h1, _, h2⟩ := hv.of_lst
      exact .inr ⟨a, vs, rfl, SqL.of h1, by rw [h2.len, ← hl]; exact hln, z, ds, ρ, rfl, ok, rl, h2, hl, fun σ' r w => k σ' r w⟩

/-! ### comprehensions -/
/-- the tests of a comprehension -/
def SdTs (X : Cx) (q : Par) (S : PV.Sem) (cs : List Expr) (ms : List E) : Prop := ∀ E : XK, Tk X E → PTs X cs (fun σ H Q => ∃ z ρ, z.H = H ∧ Ok X.K q z ∧ RelS X.K q z ρ σ ∧ wp X.K q z (evT S ρ ms z.G) (fun b z' => Q b z'.H) E)
theorem pts_imp {cs : List Expr} {t t' : TT} (h : PTs X cs t) (f : ∀ σ H Q, t' σ H Q → t σ H Q) : PTs X cs t' := ⟨fun pins s σ H Q I w => h.run pins s σ H Q I (f σ H Q w)⟩
theorem sdts_nil : SdTs X q S [] [] := fun E tk => pts_imp pts_nil fun σ H Q ⟨z, ρ, hH, ok, rl, w⟩ => by
  subst hH
  exact wp.here (P := fun b z' => Q b z'.H) ok w
theorem sdts_one {c : Expr} {m : E} (h : Td X q S c m) : SdTs X q S [c] [m] := fun E tk => pts_imp (pts_one (h E tk)) fun σ H Q ⟨z, ρ, hH, ok, rl, w⟩ => ⟨z, ρ, hH, ok, rl, (wp.bind w).mono fun d z1 ok1 e1 w1 => by
  cases d with
  | bl b =>
    refine ⟨b, rfl, ?_⟩
    cases b with
    | true => exact wp.here (P := fun b z' => Q b z'.H) ok1 w1
    | false => exact wp.here (P := fun b z' => Q b z'.H) ok1 w1
  | _ => exact w1.elim⟩

abbrev Z.less (z : Z) (B : List Addr) : Z := { z with B := B }
/-- one turn of a comprehension, as the evaluator has it -/
def turnC (S : PV.Sem) (ρ : Env) (tg : Tg) (cs : List E) (el : E) (d : D) (G : Gs) : R (Option D) := match PV.assign ρ tg d with
  | some ρ' => (evT S ρ' cs G).bind fun b G3 => if b then (evE S ρ' el G3).bind fun y G4 => .ok (some y) G4 else .ok none G3
  | none => .bad
theorem bind_ok {α β : Type} {r : R α} {f : α → Gs → R β} {b : β} {G : Gs} (h : r.bind f = .ok b G) : ∃ a G1, r = .ok a G1 ∧ f a G1 = .ok b G := by
  cases r with
  | ok a G1 => exact ⟨a, G1, rfl, h⟩
  | exc c G1 => cases h
  | bad => cases h
/-- the state within a comprehension -/
structure CI (K : PySem.W.Frag) (q : Par) (S : PV.Sem) (z1 : Z) (D0 : Addr) (ρ : Env) (σ : L2.St) (tg : Tg) (cs : List E) (el : E) (ds : List D) (I : Z → Prop) (PF : List D → Gs → Prop) (i : Nat) (z : Z) : Prop where
  ok : Ok K q z
  B : z.B = D0 :: z1.B
  ext : Ext z1 (z.less z1.B)
  rl : RelS K q z ρ σ
  src : I z
  acc : ∃ acc accV ys G5, z.H D0 = some (.lst accV) ∧ HasL K q z acc accV ∧ compL (turnC S ρ tg cs el) (ds.drop i) z.G = .ok ys G5 ∧ PF (acc ++ ys) G5
theorem ext_less {z z' : Z} {B : List Addr} (e : Ext z z') : Ext (z.less B) (z'.less B) := ⟨e.pre, rfl, e.live, e.keep, e.dom⟩
theorem ext_wr {z1 z : Z} {p : Addr} {vs : List V} (e : Ext z1 (z.less z1.B)) (h : z1.H p = none) (hs : ∃ o, z.H p = some o) : Ext z1 ((z.wr p vs).less z1.B) := by
  refine ⟨e.pre, rfl, e.live, fun b o hb nt nl => ?_, fun b hb => ?_⟩
  · show upd z.H p _ b = some o
    rw [upd_ne (ne_of_none hb h)]
    exact e.keep b o hb nt nl
  · by_cases eb : b = p
    · rw [eb]; exact newA h
    · refine e.dom b fun u hu => hb u ?_
      show upd z.H p _ b = some u
      rw [upd_ne eb]; exact hu
theorem ci_ext {z1 z z' : Z} {D0 : Addr} (B : z.B = D0 :: z1.B) (ext : Ext z1 (z.less z1.B)) (e : Ext z z') : z'.B = D0 :: z1.B ∧ Ext z1 (z'.less z1.B) := ⟨e.bs.trans B, ext.trans (ext_less e)⟩
theorem sd_comp {elt tg iter : Expr} {ifs : List Expr} {scope : Scope} {own : List (Str × Nat)} {pos : Pos} {tgm : Tg} {it : PV.It} {mel : E} {mcs : List E} {ownm : List Nat} (hc : X.calm = true) (hN : X.N.Nodup) (hi : SdI X q S tg iter it) (okb : BlkOk X.N X.env.scope scope own)
    (ho : ownm = own.map (·.2)) (hsl : ∀ i ∈ slotsT tgm, i ∈ ownm)
    (hg : ∀ (s : Shared) (H : Hp) (C : Addr) (cl : List (Str × Addr)) (fp : List Addr), SdG (X.blk s H scope (compEnvC scope cl C X.env) fp) q tg tgm) (ht : ∀ (s : Shared) (H : Hp) (C : Addr) (cl : List (Str × Addr)) (fp : List Addr), SdTs (X.blk s H scope (compEnvC scope cl C X.env) fp) q S ifs mcs)
    (he : ∀ (s : Shared) (H : Hp) (C : Addr) (cl : List (Str × Addr)) (fp : List Addr), Sd (X.blk s H scope (compEnvC scope cl C X.env) fp) q S elt mel) (hs : ∀ x, foldedSetIterable iter X.env x = pure x := by intro _; rfl) :
    ∀ E : XK, Tk X E → ∃ wi g tt te, PI X tg iter wi ∧ (∀ (s : Shared) (H : Hp) (C : Addr) (cl : List (Str × Addr)) (fp : List Addr), PG (X.blk s H scope (compEnvC scope cl C X.env) fp) tg g) ∧ (∀ (s : Shared) (H : Hp) (C : Addr) (cl : List (Str × Addr)) (fp : List Addr), PTs (X.blk s H scope (compEnvC scope cl C X.env) fp) ifs tt) ∧
      (∀ (s : Shared) (H : Hp) (C : Addr) (cl : List (Str × Addr)) (fp : List Addr), PE (X.blk s H scope (compEnvC scope cl C X.env) fp) elt te) ∧ ∀ σ H Q, rdE X.K q S E (.comp ownm mel tgm it mcs) σ H Q → tLc wi g tt te (own.map (·.2)) σ H Q := by
  intro E tk
  subst ho
  refine ⟨_, rdG X.K q tgm, (fun σ H Q => ∃ z ρ, z.H = H ∧ Ok X.K q z ∧ RelS X.K q z ρ σ ∧ wp X.K q z (evT S ρ mcs z.G) (fun b z' => Q b z'.H) (fun _ _ _ => False)), rdE X.K q S (fun _ _ _ => False) mel, hi E tk, hg, fun s H C cl fp => ht s H C cl fp (fun _ _ _ => False) L2.takes0, fun s H C cl fp => he s H C cl fp (fun _ _ _ => False) L2.takes0, fun σ H Q ⟨z, ρ, hH, ok, rl, w⟩ => ?_⟩
  refine ⟨z, ρ, hH, ok, rl, (wp.bind w).mono fun ds z1 ok1 e1 w1 J I wk hI D0 hD => ?_⟩
  -- what the evaluator has: all turns go, the list is short
  have rl1 := rl.ext ok e1
  obtain ⟨ys, G5, hcl, hys, hfin⟩ : ∃ ys G5, compL (turnC S (wipeE ρ (own.map (·.2))) tgm mcs mel) ds z1.G = .ok ys G5 ∧ ys.length < sizeLine ∧ ∀ z' : Z, z'.G = G5 → Ok X.K q z' → Ext z1 z' → PQ X.K q Q (.lst ys) z' := by
    have w1 : wp X.K q z1 (((compL (turnC S (wipeE ρ (own.map (·.2))) tgm mcs mel) ds z1.G).calm).bind fun ys G5 => if ys.length < sizeLine then PV.R.ok (.lst ys) G5 else .bad) (PQ X.K q Q) E := w1
    cases hr : compL (turnC S (wipeE ρ (own.map (·.2))) tgm mcs mel) ds z1.G with
    | bad => rw [hr] at w1; exact w1.elim
    | exc c G' => rw [hr] at w1; exact w1.elim
    | ok ys G5 =>
      rw [hr] at w1
      have w1 : wp X.K q z1 (if ys.length < sizeLine then PV.R.ok (.lst ys) G5 else .bad) (PQ X.K q Q) E := w1
      split at w1
      · rename_i hlt
        exact ⟨ys, G5, rfl, hlt, w1⟩
      · exact w1.elim
  have start : CI X.K q S z1 D0 (wipeE ρ (own.map (·.2))) (L2.wipe σ (own.map (·.2))) tgm mcs mel ds I (fun ys G5 => ys.length < sizeLine ∧ ∀ z' : Z, z'.G = G5 → Ok X.K q z' → Ext z1 z' → PQ X.K q Q (.lst ys) z') 0 (z1.push D0 []) := by
    refine ⟨ok1.push hD, rfl, ⟨List.prefix_refl _, rfl, fun a l => .inl l, fun b o hb _ _ => ?_, fun b hb => ?_⟩, (rl1.mv (mv_push ok1 hD)).wipe _, wk.st _ _ (mv_push ok1 hD) hI, [], [], ys, G5, upd_same, HasL.nil, hcl, hys, hfin⟩
    · show upd z1.H D0 _ b = some o
      rw [upd_ne (ne_of_none hb hD)]; exact hb
    · by_cases eb : b = D0
      · rw [eb]; exact newA hD
      · refine fun u hu => hb u ?_
        show upd z1.H D0 _ b = some u
        rw [upd_ne eb]; exact hu
  refine ⟨fun i m H => m = ds.length - i ∧ i ≤ ds.length ∧ ∃ z, z.H = H ∧ CI X.K q S z1 D0 (wipeE ρ (own.map (·.2))) (L2.wipe σ (own.map (·.2))) tgm mcs mel ds I (fun ys G5 => ys.length < sizeLine ∧ ∀ z' : Z, z'.G = G5 → Ok X.K q z' → Ext z1 z' → PQ X.K q Q (.lst ys) z') i z, ⟨ds.length, by simp, Nat.zero_le _, _, rfl, start⟩, ?_⟩
  rintro i m H ⟨rfl, hi, z2, rfl, c⟩
  obtain ⟨acc, accV, ys, G5, hacc, hav, hcl, hf⟩ := c.acc
  by_cases hlt : i < ds.length
  · refine .inr ⟨wk.go z2 i c.ok c.src hlt, fun H' => ∃ z, z.H = H' ∧ CI X.K q S z1 D0 (wipeE ρ (own.map (·.2))) (L2.wipe σ (own.map (·.2))) tgm mcs mel ds I (fun ys G5 => ys.length < sizeLine ∧ ∀ z' : Z, z'.G = G5 → Ok X.K q z' → Ext z1 z' → PQ X.K q Q (.lst ys) z') (i + 1) z, fun H' ⟨z, hz, c'⟩ => ⟨ds.length - (i + 1), by omega, rfl, hlt, z, hz, c'⟩, fun x H' hy => ?_⟩
    obtain ⟨z3, rfl, hG3, ok3, e3, d, hd, hx⟩ := wk.yld z2 i x H' c.ok c.src hlt hy
    have hdr : ds.drop i = d :: ds.drop (i + 1) := by
      rw [List.drop_eq_getElem_cons hlt]
      congr 1
      rw [List.getElem?_eq_getElem hlt] at hd
      exact Option.some.inj hd
    rw [hdr] at hcl
    obtain ⟨o, G6, h6, hcl⟩ := bind_ok hcl
    obtain ⟨r, G7, h7, hcl⟩ := bind_ok hcl
    unfold turnC at h6
    split at h6
    · rename_i ρ' hρ
      have rl3 := c.rl.ext c.ok e3
      refine ⟨z3, d, _, ρ', rfl, ok3, rl3, hx, hρ, fun σ' rl4 hw => ⟨?_, ?_⟩⟩
      · rw [hw _ hsl]
        refine List.ext_getElem? fun j => ?_
        by_cases hj : j ∈ own.map (·.2)
        · rw [wipe_get hj, wipe_get hj, L2.wipe_length]
        · rw [L2.wipe_out hj]
      · refine ⟨z3, ρ', rfl, ok3, rl4, ?_⟩
        obtain ⟨b, G8, h8, h6⟩ := bind_ok h6
        rw [hG3, h8]
        intro z4 hG4 ok4 e4
        have e24 := e3.trans e4
        obtain ⟨B4, x4⟩ := ci_ext c.B c.ext e24
        have rl5 := rl4.ext ok3 e4
        cases b with
        | false =>
          rw [if_neg (by simp)] at h6
          dsimp only
          rw [if_neg (by simp)]
          cases h6
          cases hcl
          refine ⟨z4, rfl, ok4, B4, x4, ?_, wk.st _ _ (e24.mv c.ok) c.src, acc, accV, _, _, ?_, HasL.ext c.ok e24 acc accV hav, by rw [hG4]; exact h7, hf⟩
          · exact c.rl.ext c.ok e24
          · refine e24.keep _ _ hacc (fun _ x => nomatch x) fun l => ?_
            exact c.ok.liveB l (by rw [c.B]; exact List.mem_cons_self ..)
        | true =>
          rw [if_pos rfl] at h6
          dsimp only
          rw [if_pos rfl]
          obtain ⟨y, G9, h9, h6⟩ := bind_ok h6
          cases h6
          cases hcl
          refine ⟨z4, ρ', rfl, ok4, rl5, ?_⟩
          rw [hG4, h9]
          intro z5 hG5 ok5 e5 yv hyv
          have e25 := e24.trans e5
          obtain ⟨B5, x5⟩ := ci_ext c.B c.ext e25
          have hacc5 : z5.H D0 = some (.lst accV) := e25.keep _ _ hacc (fun _ x => nomatch x) fun l => c.ok.liveB l (by rw [c.B]; exact List.mem_cons_self ..)
          have hb5 : D0 ∈ z5.B := by rw [B5]; exact List.mem_cons_self ..
          have mw := mv_wr (q := q) (K := X.K) (vs := accV ++ [yv]) hb5 hacc5
          have hacn : acc.length ≤ (acc ++ y :: r).length := by simp
          refine ⟨accV, hacc5, by rw [hav.len]; exact Nat.lt_of_le_of_lt hacn hf.1, z5.wr D0 (accV ++ [yv]), rfl, ok5.wr hb5 hacc5, B5, ext_wr x5 hD ⟨_, hacc5⟩, (c.rl.ext c.ok e25).mv mw, wk.st _ _ mw (wk.st _ _ (e25.mv c.ok) c.src), acc ++ [y], accV ++ [yv], r, _, upd_same, ?_, by show compL _ _ z5.G = _; rw [hG5]; exact h7, by rw [List.append_assoc]; exact hf⟩
          exact HasL.mv mw _ _ ((HasL.ext c.ok e25 acc accV hav).app (HasL.cons hyv HasL.nil))
    · cases h6
  · have e : i = ds.length := by omega
    subst e
    refine .inl ⟨wk.stop z2 c.ok c.src, ?_⟩
    rw [List.drop_length] at hcl
    cases hcl
    rw [List.append_nil] at hf
    have hB : ∀ b ∈ z1.B, b ∈ z2.B := fun b hb => by rw [c.B]; exact List.mem_cons_of_mem _ hb
    refine hf.2 (z2.less z1.B) rfl (c.ok.less hB) c.ext _ (Has.lst (z := z2.less z1.B) hacc ⟨fun hb => ?_, fun l => ?_⟩ (HasL.mv (mv_less hB) acc accV hav))
    · obtain ⟨vs, hv⟩ := ok1.blk D0 hb
      rw [hD] at hv; cases hv
    · exact c.ok.liveB (a := D0) l (by rw [c.B]; exact List.mem_cons_self ..)
theorem sd_lc {elt tg iter : Expr} {ifs : List Expr} {scope : Scope} {pos : Pos} {tgm : Tg} {it : PV.It} {mel : E} {mcs : List E} {ownm : List Nat} (own : List (Str × Nat)) (hc : X.calm = true) (hN : X.N.Nodup) (hi : SdI X q S tg iter it) (okb : BlkOk X.N X.env.scope scope own)
    (hg : ∀ (s : Shared) (H : Hp) (C : Addr) (cl : List (Str × Addr)) (fp : List Addr), SdG (X.blk s H scope (compEnvC scope cl C X.env) fp) q tg tgm) (ht : ∀ (s : Shared) (H : Hp) (C : Addr) (cl : List (Str × Addr)) (fp : List Addr), SdTs (X.blk s H scope (compEnvC scope cl C X.env) fp) q S ifs mcs)
    (he : ∀ (s : Shared) (H : Hp) (C : Addr) (cl : List (Str × Addr)) (fp : List Addr), Sd (X.blk s H scope (compEnvC scope cl C X.env) fp) q S elt mel) (ho : ownm = own.map (·.2) := by rfl) (hsl : ∀ i ∈ slotsT tgm, i ∈ ownm := by decide) (hs : ∀ x, foldedSetIterable iter X.env x = pure x := by intro _; rfl) :
    Sd X q S (.ListComp elt [⟨tg, iter, ifs, 0⟩] scope pos) (.comp ownm mel tgm it mcs) := fun E tk => by
  obtain ⟨wi, g, tt, te, h1, h2, h3, h4, h5⟩ := sd_comp (pos := pos) hc hN hi okb ho hsl hg ht he hs E tk
  exact pe_imp (pe_lc hc hN h1 okb h2 h3 h4 hs) h5
end
end PV
end
/-! ## PV6 -/
section
set_option Elab.async false
set_option linter.all false
set_option maxRecDepth 100000
set_option maxHeartbeats 4000000
/-! The rules: statements, defs. -/
namespace PV
open PySem L2 LamX PyProof.Rows
section
variable {X : Cx} {q : Par} {S : PV.Sem} {K : PySem.W.Frag} {z z' : Z}

def wpF (K : PySem.W.Frag) (q : Par) (z : Z) (f : F) (D : Ends) (E : XK) : Prop := match f with
  | .next ρ' G' => ∀ z' σ', z'.G = G' → Ok K q z' → Ext z z' → RelS K q z' ρ' σ' → D.nx σ' z'.H
  | .brk ρ' G' => ∀ z' σ', z'.G = G' → Ok K q z' → Ext z z' → RelS K q z' ρ' σ' → D.bk σ' z'.H
  | .cont ρ' G' => ∀ z' σ', z'.G = G' → Ok K q z' → Ext z z' → RelS K q z' ρ' σ' → D.ct σ' z'.H
  | .ret d G' => ∀ z' v, z'.G = G' → Ok K q z' → Ext z z' → Has K q z' d v → D.rt v z'.H
  | .exc c G' => ∀ z' : Z, z'.G = G' → Ok K q z' → Ext z z' → E (q.cls c) none z'.H
  | .bad => False
theorem wpF.ext {f : F} {D : Ends} {E : XK} (e : Ext z z') (h : wpF K q z f D E) : wpF K q z' f D E := by
  cases f with
  | next ρ' G' => exact fun w σ' hw o e' r => h w σ' hw o (e.trans e') r
  | brk ρ' G' => exact fun w σ' hw o e' r => h w σ' hw o (e.trans e') r
  | cont ρ' G' => exact fun w σ' hw o e' r => h w σ' hw o (e.trans e') r
  | ret d G' => exact fun w v hw o e' r => h w v hw o (e.trans e') r
  | exc c G' => exact fun w hw o e' => h w hw o (e.trans e')
  | bad => exact h
theorem wpF.go {α : Type} {r : R α} {f : α → Gs → F} {D : Ends} {E : XK} (h : wpF K q z (r.go f) D E) : wp K q z r (fun a z' => wpF K q z' (f a z'.G) D E) E := by
  cases r with
  | ok a G' =>
    intro w hw o e
    subst hw
    exact wpF.ext e h
  | exc c G' => exact h
  | bad => exact h
def rdS (K : PySem.W.Frag) (q : Par) (S : PV.Sem) (E : XK) (m : PV.St) : TS := fun D σ H => ∃ z ρ, z.H = H ∧ Ok K q z ∧ RelS K q z ρ σ ∧ wpF K q z (evS S m ρ z.G) D E
def rdB (K : PySem.W.Frag) (q : Par) (S : PV.Sem) (E : XK) (ms : List PV.St) : TS := fun D σ H => ∃ z ρ, z.H = H ∧ Ok K q z ∧ RelS K q z ρ σ ∧ wpF K q z (evB S ms ρ z.G) D E
def SdS (X : Cx) (q : Par) (S : PV.Sem) (st : Stmt) (m : PV.St) : Prop := ∀ E : XK, Tk X E → PS X st (rdS X.K q S E m)
def SdB (X : Cx) (q : Par) (S : PV.Sem) (sts : List Stmt) (ms : List PV.St) : Prop := ∀ E : XK, Tk X E → PSs X sts (rdB X.K q S E ms)
theorem sb_nil : SdB X q S [] [] := fun E tk => pss_imp pss_nil fun D σ H ⟨z, ρ, hH, ok, rl, w⟩ => by
  subst hH
  exact w z σ rfl ok (Ext.refl z) rl
theorem sb_cons {st : Stmt} {rest : List Stmt} {m : PV.St} {ms : List PV.St} (h : SdS X q S st m) (t : SdB X q S rest ms) : SdB X q S (st :: rest) (m :: ms) := fun E tk =>
  pss_imp (pss_cons (h E tk) (t E tk)) fun D σ H ⟨z, ρ, hH, ok, rl, w⟩ => by
    refine ⟨z, ρ, hH, ok, rl, ?_⟩
    have w : wpF X.K q z ((evS S m ρ z.G).then fun ρ' G' => evB S ms ρ' G') D E := w
    cases hr : evS S m ρ z.G with
    | next ρ' G' =>
      rw [hr] at w
      intro z1 σ1 hG ok1 e1 rl1
      subst hG
      exact ⟨z1, ρ', rfl, ok1, rl1, wpF.ext e1 w⟩
    | brk ρ' G' => rw [hr] at w; exact w
    | cont ρ' G' => rw [hr] at w; exact w
    | ret d G' => rw [hr] at w; exact w
    | exc c G' => rw [hr] at w; exact w
    | bad => rw [hr] at w; exact w
theorem ss_pass {pos : Pos} : SdS X q S (.Pass pos) .pass := fun E tk => ps_imp ps_pass fun D σ H ⟨z, ρ, hH, ok, rl, w⟩ => by
  subst hH
  exact w z σ rfl ok (Ext.refl z) rl
theorem ss_doc {x j pos pos'} : SdS X q S (.Expr (.Constant (.str x) j pos) pos') .pass := fun E tk => ps_imp ps_doc fun D σ H ⟨z, ρ, hH, ok, rl, w⟩ => by
  subst hH
  exact w z σ rfl ok (Ext.refl z) rl
theorem ss_ex {e : Expr} {m : PV.E} {pos : Pos} (h : Sd X q S e m) (hs : swapsWith e none pos.line X.env = pure false := by rfl) : SdS X q S (.Expr e pos) (.ex m) := fun E tk =>
  ps_imp (ps_expr (h E tk) hs) fun D σ H ⟨z, ρ, hH, ok, rl, w⟩ => ⟨z, ρ, hH, ok, rl, (wpF.go w).mono fun d z1 ok1 e1 w1 v hv => w1 z1 σ rfl ok1 (Ext.refl _) (rl.ext ok e1)⟩
theorem ss_ret {e : Expr} {m : PV.E} {pos : Pos} (h : Sd X q S e m) : SdS X q S (.Return (some e) pos) (.ret m) := fun E tk =>
  ps_imp (ps_ret (h E tk)) fun D σ H ⟨z, ρ, hH, ok, rl, w⟩ => ⟨z, ρ, hH, ok, rl, (wpF.go w).mono fun d z1 ok1 e1 w1 v hv => w1 z1 v rfl ok1 (Ext.refl _) hv⟩
theorem ss_if {c : Expr} {a b : List Stmt} {mc : PV.E} {ma mb : List PV.St} {pos : Pos} (hc : Td X q S c mc) (ha : SdB X q S a ma) (hb : SdB X q S b mb) : SdS X q S (.If c a b pos) (.ite mc ma mb) := fun E tk =>
  ps_imp (ps_if (hc E tk) (ha E tk) (hb E tk)) fun D σ H ⟨z, ρ, hH, ok, rl, w⟩ => ⟨z, ρ, hH, ok, rl, (wpF.go w).mono fun d z1 ok1 e1 w1 => by
    cases d with
    | bl b =>
      refine ⟨b, rfl, ?_⟩
      cases b with
      | true => exact ⟨z1, ρ, rfl, ok1, rl.ext ok e1, w1⟩
      | false => exact ⟨z1, ρ, rfl, ok1, rl.ext ok e1, w1⟩
    | _ => exact w1.elim⟩
theorem ss_set {tg e : Expr} {tgm : Tg} {m : PV.E} {pos : Pos} (hg : SdG X q tg tgm) (h : Sd X q S e m) (hs : swapsWithSole [tg] e pos.line X.env = pure false := by rfl) (hw : swappedStores [tg] e X.env = pure none := by rfl)
    (h1 : (assignEach [tg] X.env).map (·.2) = [PySem.assign tg X.env] := by rfl) : SdS X q S (.Assign [tg] e pos) (.set tgm m) := fun E tk =>
  ps_imp (ps_asg (h E tk) hg hs hw h1) fun D σ H ⟨z, ρ, hH, ok, rl, w⟩ => ⟨z, ρ, hH, ok, rl, (wpF.go w).mono fun d z1 ok1 e1 w1 v hv => by
    have w1 : wpF X.K q z1 (match PV.assign ρ tgm d with
      | some ρ' => F.next ρ' z1.G
      | none => F.bad) D E := w1
    split at w1
    · rename_i ρ' hρ
      exact ⟨z1, d, ρ, ρ', rfl, ok1, rl.ext ok e1, hv, hρ, fun σ' rl' _ => w1 z1 σ' rfl ok1 (Ext.refl _) rl'⟩
    · exact w1.elim⟩
/-- a, b = x, y: no tuple is made -/
theorem ss_par {i j : Nat} {x y : Str} {a b : Expr} {ma mb : PV.E} {px py pt pos : Pos} {kt k2 pt2} (hc : X.calm = true) (hN : X.N.Nodup) (ha : Sd X q S a ma) (hb : Sd X q S b mb) (hi : X.N[i]? = some x := by rfl) (hj : X.N[j]? = some y := by rfl) (hij : i ≠ j := by decide)
    (hx : X.env.scope.names.lookup x = some .local := by rfl) (hy : X.env.scope.names.lookup y = some .local := by rfl)
    (hw : swappedStores [.Tuple [.Name x px, .Name y py] kt pt] (.Tuple [a, b] k2 pt2) X.env = pure (some [x, y]) := by rfl)
    (hs : swapsWithSole [.Tuple [.Name x px, .Name y py] kt pt] (.Tuple [a, b] k2 pt2) pos.line X.env = pure false := by rfl)
    (he1 : starEach (b :: []) X.env = (false, eval b X.env) :: starEach [] X.env := by rfl) (he2 : starEach (a :: [b]) X.env = (false, eval a X.env) :: starEach [b] X.env := by rfl) :
    SdS X q S (.Assign [.Tuple [.Name x px, .Name y py] kt pt] (.Tuple [a, b] k2 pt2) pos) (.set (.tp [i, j]) (.tup [ma, mb])) := fun E tk =>
  ps_imp (ps_par hc hN hi hj hij hx hy (sda_cons ha (sda_cons hb sda_nil he1) he2 E tk) hw hs) fun D σ H ⟨z, ρ, hH, ok, rl, w⟩ => ⟨z, ρ, hH, ok, rl, by
    have w1 := wpF.go w
    refine (wp.bind w1).mono fun ds z1 ok1 e1 w2 vs hvs => ?_
    have w2 : wp X.K q z1 (if ds.length ≤ sizeLine then R.ok (PV.D.tup ds) z1.G else R.bad) _ E := w2
    split at w2
    · have w3 := w2 z1 rfl ok1 (Ext.refl _)
      have w3 : wpF X.K q z1 (match PV.assign ρ (.tp [i, j]) (.tup ds) with
        | some ρ' => F.next ρ' z1.G
        | none => F.bad) D E := w3
      split at w3
      · rename_i ρ' hρ
        simp only [PV.assign] at hρ
        split at hρ <;> cases hρ
        rename_i hl
        match ds, hl with
        | [d1, d2], _ =>
          obtain ⟨v, u, rfl, h1, h2⟩ := hvs.two
          exact ⟨v, u, rfl, w3 z1 _ rfl ok1 (Ext.refl _) (((rl.ext ok e1).set h1 i).set h2 j)⟩
      · exact w3.elim
    · exact w2.elim⟩
/-- name = [..], a comprehension -/
theorem ss_setLc {i : Nat} {y : Str} {py : Pos} {spos : Pos} {elt tg iter : Expr} {ifs : List Expr} {scope : Scope} {pos : Pos} {tgm : Tg} {it : PV.It} {mel : PV.E} {mcs : List PV.E} {ownm : List Nat} (own : List (Str × Nat)) (hc : X.calm = true) (hN : X.N.Nodup) (hi : SdI X q S tg iter it) (okb : BlkOk X.N X.env.scope scope own)
    (hg : ∀ (s : Shared) (H : Hp) (C : Addr) (cl : List (Str × Addr)) (fp : List Addr), SdG (X.blk s H scope (compEnvC scope cl C X.env) fp) q tg tgm) (ht : ∀ (s : Shared) (H : Hp) (C : Addr) (cl : List (Str × Addr)) (fp : List Addr), SdTs (X.blk s H scope (compEnvC scope cl C X.env) fp) q S ifs mcs)
    (he : ∀ (s : Shared) (H : Hp) (C : Addr) (cl : List (Str × Addr)) (fp : List Addr), Sd (X.blk s H scope (compEnvC scope cl C X.env) fp) q S elt mel) (hsw : swapsWith (.ListComp elt [⟨tg, iter, ifs, 0⟩] scope pos) (some (.Name y py)) spos.line X.env = pure true) (ho : ownm = own.map (·.2) := by rfl) (hsl : ∀ i ∈ slotsT tgm, i ∈ ownm := by decide)
    (hy : X.N[i]? = some y := by rfl) (hyl : X.env.scope.names.lookup y = some .local := by rfl) (hs : ∀ x, foldedSetIterable iter X.env x = pure x := by intro _; rfl) :
    SdS X q S (.Assign [.Name y py] (.ListComp elt [⟨tg, iter, ifs, 0⟩] scope pos) spos) (.set (.nm i) (.comp ownm mel tgm it mcs)) := fun E tk => by
  obtain ⟨wi, g, tt, te, h1, h2, h3, h4, h5⟩ := sd_comp (pos := pos) hc hN hi okb ho hsl hg ht he hs E tk
  refine ps_imp (ps_setLc hc hN hy hyl hsw h1 okb h2 h3 h4 hs) fun D σ H ⟨z, ρ, hH, ok, rl, w⟩ => h5 σ H _ ⟨z, ρ, hH, ok, rl, (wpF.go w).mono fun d z1 ok1 e1 w1 v hv => ?_⟩
  exact w1 z1 _ rfl ok1 (Ext.refl _) ((rl.ext ok e1).set hv i)

/-! ### loops -/
theorem wpF.fin {f : F} {D D' : Ends} {E : XK} (h : wpF K q z f D E) (hn : ∀ σ' H', D.nx σ' H' → D'.nx σ' H') (hb : ∀ σ' H', D.bk σ' H' → D'.bk σ' H') (hc : ∀ σ' H', D.ct σ' H' → D'.ct σ' H') (hr : ∀ v H', D.rt v H' → D'.rt v H') : wpF K q z f D' E := by
  cases f with
  | next ρ' G' => exact fun w σ' hw o e' r => hn _ _ (h w σ' hw o e' r)
  | brk ρ' G' => exact fun w σ' hw o e' r => hb _ _ (h w σ' hw o e' r)
  | cont ρ' G' => exact fun w σ' hw o e' r => hc _ _ (h w σ' hw o e' r)
  | ret d G' => exact fun w v hw o e' r => hr _ _ (h w v hw o e' r)
  | exc c G' => exact h
  | bad => exact h
/-- one turn of a for -/
def turnF (S : PV.Sem) (t : Tg) (b : List PV.St) (d : PV.D) (ρ1 : Env) (G2 : Gs) : F := match PV.assign ρ1 t d with
  | some ρ2 => evB S b ρ2 G2
  | none => .bad
theorem ss_for {tg iter : Expr} {body : List Stmt} {tgm : Tg} {it : PV.It} {mb : List PV.St} {pos : Pos} (hp : PassesOwn (model X.prog X.w) X.A X.env X.xe) (hc : X.calm = true) (hi : SdI X q S tg iter it) (hg : SdG X q tg tgm) (hb : SdB X q S body mb)
    (hs : ∀ x, foldedSetIterable iter X.env x = pure x := by intro _; rfl) : SdS X q S (.For tg iter body [] pos) (.for_ tgm it mb) := fun E tk => by
  refine ps_imp (ps_for hp hc (hi E tk) hg (hb E tk) hs) fun D σ H ⟨z, ρ, hH, ok, rl, w⟩ => ⟨z, ρ, hH, ok, rl, (wpF.go w).mono fun ds z1 ok1 e1 w1 J I wk hI => ?_⟩
  have w1 : wpF X.K q z1 (forL (turnF S tgm mb) ds ρ z1.G) D E := w1
  refine ⟨fun i m σ' H' => m = ds.length - i ∧ i ≤ ds.length ∧ ∃ z' ρ', z'.H = H' ∧ Ok X.K q z' ∧ RelS X.K q z' ρ' σ' ∧ I z' ∧ wpF X.K q z' (forL (turnF S tgm mb) (ds.drop i) ρ' z'.G) D E, ⟨ds.length, by simp, Nat.zero_le _, z1, ρ, rfl, ok1, rl.ext ok e1, hI, w1⟩, ?_⟩
  rintro i m σ2 H2 ⟨rfl, hi', z2, ρ2, rfl, ok2, rl2, hI2, w2⟩
  by_cases hlt : i < ds.length
  · refine .inr ⟨wk.go z2 i ok2 hI2 hlt, fun σ' H' => ∃ z' ρ', z'.H = H' ∧ Ok X.K q z' ∧ RelS X.K q z' ρ' σ' ∧ I z' ∧ wpF X.K q z' (forL (turnF S tgm mb) (ds.drop (i + 1)) ρ' z'.G) D E, fun σ' H' h => ⟨ds.length - (i + 1), by omega, rfl, hlt, h⟩, fun x H' hy => ?_⟩
    obtain ⟨z3, rfl, hG3, ok3, e3, d, hd, hx⟩ := wk.yld z2 i x H' ok2 hI2 hlt hy
    have hdr : ds.drop i = d :: ds.drop (i + 1) := by
      rw [List.drop_eq_getElem_cons hlt]
      congr 1
      rw [List.getElem?_eq_getElem hlt] at hd
      exact Option.some.inj hd
    rw [hdr] at w2
    have w3 := wpF.ext e3 w2
    have e0 : forL (turnF S tgm mb) (d :: ds.drop (i + 1)) ρ2 z2.G = (match turnF S tgm mb d ρ2 z2.G with
      | .next ρ' G' => forL (turnF S tgm mb) (ds.drop (i + 1)) ρ' G'
      | .cont ρ' G' => forL (turnF S tgm mb) (ds.drop (i + 1)) ρ' G'
      | .brk ρ' G' => .next ρ' G'
      | .ret d G' => .ret d G'
      | .exc c G' => .exc c G'
      | .bad => .bad) := rfl
    rw [e0] at w3
    cases ha : PV.assign ρ2 tgm d with
    | none =>
      have : turnF S tgm mb d ρ2 z2.G = .bad := by unfold turnF; rw [ha]
      rw [this] at w3
      exact w3.elim
    | some ρ3 =>
      have ht : turnF S tgm mb d ρ2 z2.G = evB S mb ρ3 z3.G := by unfold turnF; rw [ha, hG3]
      rw [ht] at w3
      refine ⟨z3, d, ρ2, ρ3, rfl, ok3, rl2.ext ok2 e3, hx, ha, fun σ' rl4 _ => ⟨z3, ρ3, rfl, ok3, rl4, ?_⟩⟩
      have hI3 := wk.st _ _ (e3.mv ok2) hI2
      cases hr : evB S mb ρ3 z3.G with
      | next ρ4 G4 =>
        rw [hr] at w3
        intro z4 σ4 hG4 ok4 e4 rl4
        subst hG4
        exact ⟨z4, ρ4, rfl, ok4, rl4, wk.st _ _ (e4.mv ok3) hI3, wpF.ext e4 w3⟩
      | cont ρ4 G4 =>
        rw [hr] at w3
        intro z4 σ4 hG4 ok4 e4 rl4
        subst hG4
        exact ⟨z4, ρ4, rfl, ok4, rl4, wk.st _ _ (e4.mv ok3) hI3, wpF.ext e4 w3⟩
      | brk ρ4 G4 => rw [hr] at w3; exact w3
      | ret d' G4 => rw [hr] at w3; exact w3
      | exc c G4 => rw [hr] at w3; exact w3
      | bad => rw [hr] at w3; exact w3
  · have e : i = ds.length := by omega
    subst e
    rw [List.drop_length] at w2
    exact .inl ⟨wk.stop z2 ok2 hI2, w2 z2 σ2 rfl ok2 (Ext.refl _) rl2⟩

/-! ### a cell's item stored -/
abbrev Z.stC (z : Z) (n : Nat) (a : Addr) (ds : List PV.D) (vs : List V) : Z := { z with G := z.G.set n (some ds), H := upd z.H a (.lst vs) }
theorem live_stC {n : Nat} {a : Addr} {ds ds' : List PV.D} {vs : List V} (h : z.G[n]? = some (some ds)) (x : Addr) : Live (z.stC n a ds' vs) x ↔ Live z x := by
  constructor
  · rintro ⟨m, es, h1, h2⟩
    have h1 : (z.G.set n (some ds'))[m]? = some (some es) := h1
    by_cases e : n = m
    · subst e
      exact ⟨n, ds, h, h2⟩
    · rw [List.getElem?_set_ne e] at h1
      exact ⟨m, es, h1, h2⟩
  · rintro ⟨m, es, h1, h2⟩
    by_cases e : n = m
    · subst e
      exact ⟨n, ds', List.getElem?_set_self (List.getElem?_eq_some_iff.mp h1).1, h2⟩
    · exact ⟨m, es, by show (z.G.set n (some ds'))[m]? = _; rw [List.getElem?_set_ne e]; exact h1, h2⟩
theorem ext_stC {n : Nat} {a : Addr} {ds ds' : List PV.D} {vs : List V} (ok : Ok K q z) (h : z.G[n]? = some (some ds)) (ha : z.μ[n]? = some a) : Ext z (z.stC n a ds' vs) := by
  have la : Live z a := ⟨n, ds, h, ha⟩
  refine ⟨List.prefix_refl _, rfl, fun x l => .inl ((live_stC h x).mp l), fun b o hb nt nl => ?_, fun b hb => ?_⟩
  · show upd z.H a _ b = some o
    rw [upd_ne (fun e => nl (by rw [e]; exact la))]
    exact hb
  · by_cases e : b = a
    · exact hb.no (z := z.stC n a ds' vs) (o := .lst vs) (by rw [e]; exact upd_same) (fun _ x => nomatch x)
    · refine fun u hu => hb u ?_
      show upd z.H a _ b = some u
      rw [upd_ne e]; exact hu
theorem ok_stC {n : Nat} {a : Addr} {ds ds' : List PV.D} {vs : List V} (ok : Ok K q z) (h : z.G[n]? = some (some ds)) (ha : z.μ[n]? = some a) (hv : HasL K q z ds' vs) : Ok K q (z.stC n a ds' vs) := by
  have e := ext_stC (ds' := ds') (vs := vs) ok h ha
  obtain ⟨a0, ws, g1, g2, _, g4⟩ := ok.cells n ds h
  rw [ha] at g1; cases g1
  refine ⟨by show z.μ.length = (z.G.set n _).length; rw [List.length_set]; exact ok.len, fun m es hm => ?_, fun m k es fs x h1 h2 h3 h4 => ?_, fun b hb => ?_, tabs_wr g2 ok.tabs⟩
  · have hm : (z.G.set n (some ds'))[m]? = some (some es) := hm
    by_cases em : n = m
    · subst em
      rw [List.getElem?_set_self (List.getElem?_eq_some_iff.mp h).1] at hm
      cases hm
      exact ⟨a, vs, ha, upd_same, HasL.ext ok e ds' vs hv, g4⟩
    · rw [List.getElem?_set_ne em] at hm
      obtain ⟨b, us, k1, k2, k3, k4⟩ := ok.cells m es hm
      refine ⟨b, us, k1, ?_, HasL.ext ok e es us k3, k4⟩
      show upd z.H a _ b = _
      rw [upd_ne (fun eb => em (ok.inj n m ds es a h hm ha (by rw [← eb]; exact k1)))]
      exact k2
  · have get : ∀ (m : Nat) (es : List PV.D), (z.G.set n (some ds'))[m]? = some (some es) → ∃ es', z.G[m]? = some (some es') := fun m es hm => by
      by_cases em : n = m
      · subst em; exact ⟨ds, h⟩
      · rw [List.getElem?_set_ne em] at hm; exact ⟨es, hm⟩
    obtain ⟨e1, h1⟩ := get m es h1
    obtain ⟨e2, h2⟩ := get k fs h2
    exact ok.inj m k e1 e2 x h1 h2 h3 h4
  · obtain ⟨us, hu⟩ := ok.blk b hb
    refine ⟨us, ?_⟩
    show upd z.H a _ b = _
    rw [upd_ne (fun eb => g4 (by rw [← eb]; exact hb))]; exact hu
theorem ss_setix {o i e : Expr} {mo mi me : PV.E} {pos pos2 : Pos} (ho : Sd X q S o mo) (hi : Sd X q S i mi) (he : Sd X q S e me) (ha : ∀ v, PySem.assign (.Subscript o i pos) X.env v = (do
      let ov ← holding [v] (eval o X.env)
      let iv ← holding [v, ov] (eval i X.env)
      standAt pos
      holding [v, ov, iv] (setItem ov iv v)
      release [v, ov, iv] []) := by intro _; rfl) (hs : swapsWithSole [.Subscript o i pos] e pos2.line X.env = pure false := by rfl) (hw : swappedStores [.Subscript o i pos] e X.env = pure none := by rfl)
    (h1 : (assignEach [.Subscript o i pos] X.env).map (·.2) = [PySem.assign (.Subscript o i pos) X.env] := by rfl) : SdS X q S (.Assign [.Subscript o i pos] e pos2) (.setix mo mi me) := fun E tk =>
  ps_imp (ps_asg (he E tk) (pg_sub (ho E tk) (hi E tk) set_list ha) hs hw h1) fun D σ H ⟨z, ρ, hH, ok, rl, w⟩ => ⟨z, ρ, hH, ok, rl, (wpF.go w).mono fun d z1 ok1 e1 w1 v hv =>
    ⟨z1, ρ, rfl, ok1, rl.ext ok e1, (wpF.go w1).mono fun x z2 ok2 e2 w2 u hu => ⟨z2, ρ, rfl, ok2, (rl.ext ok e1).ext ok1 e2, (wpF.go w2).mono fun y z3 ok3 e3 w3 t ht => by
      have w3 : wpF X.K q z3 (match setD z3.G x y d with
        | some G4 => F.next ρ G4
        | none => F.bad) D E := w3
      split at w3
      · rename_i G4 hG
        unfold setD at hG
        split at hG
        · rename_i n k
          split at hG
          · rename_i l hl
            split at hG <;> cases hG
            rename_i j hj
            have hu := Has.ext ok2 e3 _ _ hu
            have hv := Has.ext ok2 e3 _ _ (Has.ext ok1 e2 _ _ hv)
            simp only [Has] at hu
            obtain ⟨a, ea, hua⟩ := hu
            subst ea
            obtain ⟨a', vs, g1, g2, g3, g4⟩ := ok3.cells n l hl
            rw [hua] at g1; cases g1
            refine ⟨a, vs, k, j, rfl, ht.of_int, g2, by rw [g3.len]; exact hj, ?_⟩
            exact w3 (z3.stC n a (l.set j d) (vs.set j v)) σ rfl (ok_stC ok3 hl hua (g3.set hv j)) (ext_stC ok3 hl hua) ((((rl.ext ok e1).ext ok1 e2).ext ok2 e3).ext ok3 (ext_stC ok3 hl hua))
          · cases hG
        · cases hG
      · exact w3.elim⟩⟩⟩

/-! ### raise -/
theorem ss_raise {C : Addr} {c : Nat} {bmB : List Value} {B newId initId : String} {x : Str} {e : Expr} {me : PV.E} {p pos pos2 : Pos} (hc : X.calm = true) (Fx : PySem.ExcBaseFacts B newId initId bmB) (qx : PySem.W.excIn X.K C bmB newId = true) (gC : X.mg x = some (.ref C)) (kC : PySem.W.keepIn X.K (.ref C) = true) (r : Raises X (.ref C)) (hg : Gl X x)
    (hcl : q.cls c = .ref C) (he : Sd X q S e me) (hs : starEach [e] X.env = (false, eval e X.env) :: starEach [] X.env := by rfl) (hdb : (x == ("__debug__" : Str)) = false := by decide) : SdS X q S (.Raise (some (.Call (.Name x p) [e] [] pos)) none pos2) (.raise c me) := fun E tk =>
  ps_imp (ps_raise hc tk (SkE.pmk_own1 Fx qx gC kC r hg (he E tk) hs hdb)) fun D σ H ⟨z, ρ, hH, ok, rl, w⟩ => ⟨z, ρ, hH, ok, rl, (wpF.go w).mono fun d z1 ok1 e1 w1 v hv => by
    have w1 : wpF X.K q z1 (.exc c z1.G) D E := w1
    have := w1 z1 rfl ok1 (Ext.refl _)
    rw [hcl] at this
    exact this⟩
end

/-! ### defs -/
section
variable {P : Program} {w : World} {K : PySem.W.Frag} {mg : Str → Option Value} {base : Heap} {q : Par}
theorem rels_start {z : Z} {N : List Str} {ds : List D} {vs : List V} (hv : HasL K q z ds vs) (hl : ds.length ≤ N.length) : RelS K q z (ds.map some ++ List.replicate (N.length - ds.length) none) (L2.start N vs) := by
  have e := hv.len
  refine ⟨by simp [L2.start, e], fun i d h => ?_⟩
  by_cases hi : i < ds.length
  · rw [List.getElem?_append_left (by simpa using hi), List.getElem?_map] at h
    cases hd : ds[i]? with
    | none => rw [hd] at h; cases h
    | some d' =>
      rw [hd] at h
      cases h
      obtain ⟨v, h1, h2⟩ := hv.get hd
      refine ⟨v, ?_, h2⟩
      unfold L2.start
      rw [List.getElem?_append_left (by rw [List.length_map, e]; exact hi), List.getElem?_map, h1]
      rfl
  · rw [List.getElem?_append_right (by simpa using hi), List.getElem?_replicate] at h
    split at h <;> cases h
theorem fn_step {S S' : PV.Sem} {g k : Nat} {x qual : Str} {params : Arguments} {body : List Stmt} {scope : Scope} {dvs : List V} {kws : List (Str × V)} {f : Addr} {fd : FuncData} {N ps : List Str} {fn : Fn} (F : FunD K x qual params body scope dvs kws f fd) (Sc : FnScope N ps scope)
    (hS : ∀ ds G, S'.cal g ds G = runFn S fn ds G) (hns : N.length = fn.ns) (hnp : ps.length = fn.np) (hle : fn.np ≤ fn.ns)
    (hbody : ∀ (cdv : Value) (A : Around) (outer : List PySem.Env) (s : Shared) (H : Hp) (E : XK), Room k (A.deeper (envOfC qual scope s.heap.objs.size f cdv)) → SdB (cxOf (L2.CX P w) P w K mg base N qual scope f cdv A outer s H E) q S body fn.body) :
    FnOk P w K mg base (L2.CX P w) (k + 1) f fd ps (spC K q S' g ps.length) := by
  refine F.ok Sc (fun vs H Q E h => ?_) (fun cdv A outer s H vs Q E hr h => ?_)
  · obtain ⟨_, _, _, _, _, h, _⟩ := h
    exact h
  · obtain ⟨z, ds, rfl, ok, hv, hlen, hw⟩ := h
    refine ⟨_, hbody cdv A outer s z.H E hr E (takes_of rfl rfl rfl rfl), z, _, rfl, ok, rels_start hv (by rw [← hv.len, hlen, hnp, hns]; exact hle), ?_⟩
    rw [hS] at hw
    unfold runFn at hw
    have hdl : ds.length = fn.np := by rw [← hv.len, hlen, hnp]
    rw [if_pos hdl] at hw
    rw [hns, hdl]
    cases hr : evB S fn.body (ds.map some ++ List.replicate (fn.ns - fn.np) none) z.G with
    | next ρ' G' =>
      rw [hr] at hw
      exact fun z' σ' hG ok' e' _ => hw z' hG ok' e' _ Has.non
    | ret d G' =>
      rw [hr] at hw
      exact fun z' v hG ok' e' hd => hw z' hG ok' e' v hd
    | exc c G' =>
      rw [hr] at hw
      exact hw
    | brk ρ' G' => rw [hr] at hw; exact hw.elim
    | cont ρ' G' => rw [hr] at hw; exact hw.elim
    | bad => rw [hr] at hw; exact hw.elim
/-- nothing is promised at the last level -/
theorem fn_zero {S' : PV.Sem} {g k : Nat} {x qual : Str} {params : Arguments} {body : List Stmt} {scope : Scope} {dvs : List V} {kws : List (Str × V)} {f : Addr} {fd : FuncData} {N ps : List Str} (F : FunD K x qual params body scope dvs kws f fd) (Sc : FnScope N ps scope)
    (hS : ∀ ds G, S'.cal g ds G = .bad) : FnOk P w K mg base (L2.CX P w) (k + 1) f fd ps (spC K q S' g ps.length) := by
  refine F.ok Sc (fun vs H Q E h => ?_) (fun cdv A outer s H vs Q E hr h => ?_)
  · obtain ⟨_, _, _, _, _, h, _⟩ := h
    exact h
  · obtain ⟨z, ds, rfl, ok, hv, hlen, hw⟩ := h
    rw [hS] at hw
    exact hw.elim
theorem run_ar {S : PV.Sem} {fn : Fn} {n : Nat} (h : n = fn.np) : ∀ (ds : List D) (G : Gs), ds.length ≠ n → runFn S fn ds G = .bad := fun ds G hn => by
  unfold runFn
  rw [if_neg (by rw [← h]; exact hn)]
end
end PV
end
/-! ## PV7 -/
section
set_option Elab.async false
set_option linter.all false
set_option maxRecDepth 100000
set_option maxHeartbeats 4000000
/-! The rules: items, slices, chains, methods of texts, zip, texts made of parts. -/
namespace PV
open PySem L2 LamX PyProof.Rows RZ
section
variable {X : Cx} {q : Par} {S : PV.Sem}

theorem has_at {K : PySem.W.Frag} {z : Z} {l : List PV.D} {vs : List V} {i : Int} {c : PV.D} (hv : HasL K q z l vs) (h : atI l i = some c) : ∃ v, atI vs i = some v ∧ Has K q z c v := by
  unfold atI at h ⊢
  rw [hv.len]
  cases e : ixN l.length i with
  | none => rw [e] at h; cases h
  | some j =>
    rw [e] at h
    exact hv.get h
theorem sd_ix {a b : Expr} {ma mb : PV.E} {pos : Pos} (ha : Sd X q S a ma) (hb : Sd X q S b mb) (hs : PlainIx b := by intro _ _; rfl) : Sd X q S (.Subscript a b pos) (.ix ma mb) := fun E tk =>
  pe_imp (pe_ix ix_seq (ha E tk) (hb E tk) hs) fun σ H Q ⟨z, ρ, hH, ok, rl, w⟩ => ⟨z, ρ, hH, ok, rl, (wp.bind w).mono fun d z1 ok1 e1 w1 v hv => ⟨z1, ρ, rfl, ok1, rl.ext ok e1, (wp.bind w1).mono fun e z2 ok2 e2 w2 u hu => by
    obtain ⟨c, hc, hp⟩ := wp.of w2
    replace hp : Post X.K q z2 Q c := hp
    replace hv := Has.ext ok1 e2 d v hv
    unfold ixD at hc
    split at hc
    · rename_i l i
      obtain ⟨p, vs, rfl, h1, h2⟩ := hv.ref_of_tup
      obtain ⟨x, h3, h4⟩ := has_at h2 hc
      exact .inr (.inl ⟨p, vs, i, x, rfl, hu.of_int, h1, h3, hp.at ok2 h4⟩)
    · rename_i l i
      obtain ⟨p, vs, rfl, h1, _, h2⟩ := hv.of_lst
      obtain ⟨x, h3, h4⟩ := has_at h2 hc
      exact .inl ⟨p, vs, i, x, rfl, hu.of_int, SqL.of h1, h3, hp.at ok2 h4⟩
    · rename_i l i
      obtain ⟨p, vs, rfl, h1, h2⟩ := has_seq (d := .frz l) rfl hv
      obtain ⟨x, h3, h4⟩ := has_at h2 hc
      rcases h1 with h1 | h1
      · exact .inl ⟨p, vs, i, x, rfl, hu.of_int, h1, h3, hp.at ok2 h4⟩
      · exact .inr (.inl ⟨p, vs, i, x, rfl, hu.of_int, h1, h3, hp.at ok2 h4⟩)
    · rename_i n i
      split at hc
      · rename_i l hl
        simp only [Has] at hv
        obtain ⟨p, rfl, h1⟩ := hv
        obtain ⟨p', vs, g1, g2, g3, _⟩ := ok2.cells n l hl
        rw [h1] at g1; cases g1
        obtain ⟨x, h3, h4⟩ := has_at g3 hc
        exact .inl ⟨p, vs, i, x, rfl, hu.of_int, SqL.of g2, h3, hp.at ok2 h4⟩
      · cases hc
    · rename_i s i
      split at hc
      · rename_i hz
        simp only [Option.map_eq_some_iff] at hc
        obtain ⟨k, hk, rfl⟩ := hc
        exact .inr (.inr ⟨s, i, k, hv.of_str, hu.of_int, hz, hk, hp.at ok2 Has.str⟩)
      · cases hc
    · cases hc⟩⟩

theorem sd_neg {a : Expr} {ma : PV.E} {pos : Pos} (h : Sd X q S a ma) : Sd X q S (.UnaryOp .USub a pos) (.neg ma) := fun E tk =>
  pe_imp (pe_un un_neg (h E tk)) fun σ H Q ⟨z, ρ, hH, ok, rl, w⟩ => ⟨z, ρ, hH, ok, rl, (wp.bind w).mono fun d z1 ok1 e1 w1 v hv => by
    cases d with
    | int i => exact ⟨i, hv.of_int, wp.here (P := PQ X.K q Q) ok1 w1 _ Has.int⟩
    | _ => exact w1.elim⟩
theorem has_non {K : PySem.W.Frag} {z : Z} {d : PV.D} {v : V} (h : Has K q z d v) : decide (v = V.non) = isNonD d := by
  cases d with
  | non => rw [h.of_non]; rfl
  | int i => rw [h.of_int]; rfl
  | bl b => rw [h.of_bl]; rfl
  | str s => rw [h.of_str]; rfl
  | tup l => obtain ⟨a, vs, rfl, _⟩ := h.ref_of_tup; rfl
  | lst l => obtain ⟨a, vs, rfl, _⟩ := h.of_lst; rfl
  | frz l => simp only [Has] at h; obtain ⟨a, vs, rfl, _⟩ := h; rfl
  | cell n => simp only [Has] at h; obtain ⟨a, rfl, _⟩ := h; rfl
  | lam n => simp only [Has] at h; obtain ⟨a, c, rfl, _⟩ := h; rfl
theorem od_isN : OpD X q (compareOp .Is) (fun x y => (cmpD .isN x y).map .bl) := by
  intro pins s σ H x y v u Q I rx ry h
  obtain ⟨z, d, e, c, rfl, ok, hd, he, hg, hp⟩ := h
  have hg : (cmpD .isN d e).map PV.D.bl = some c := hg
  cases e <;> (try (cases d <;> simp [cmpD] at hg))
  all_goals
    refine op_isN pins s σ _ x y v u Q I rx ry ⟨he.of_non, ?_⟩
    rw [has_non hd]
    subst hg
    exact hp.at ok Has.bl
theorem od_notN : OpD X q (compareOp .IsNot) (fun x y => (cmpD .notN x y).map .bl) := by
  intro pins s σ H x y v u Q I rx ry h
  obtain ⟨z, d, e, c, rfl, ok, hd, he, hg, hp⟩ := h
  have hg : (cmpD .notN d e).map PV.D.bl = some c := hg
  cases e <;> (try (cases d <;> simp [cmpD] at hg))
  all_goals
    refine op_notN pins s σ _ x y v u Q I rx ry ⟨he.of_non, ?_⟩
    rw [has_non hd]
    subst hg
    exact hp.at ok Has.bl

/-! ### slices -/
def SdO (X : Cx) (q : Par) (S : PV.Sem) (e : Option Expr) (m : Option PV.E) : Prop := ∀ E : XK, Tk X E → PO X e (fun σ H Q => ∃ z ρ, z.H = H ∧ Ok X.K q z ∧ RelS X.K q z ρ σ ∧ wp X.K q z (evO S ρ m z.G) (fun o z' => Q o z'.H) E)
theorem po_imp {e : Option Expr} {t t' : TO} (h : PO X e t) (f : ∀ σ H Q, t' σ H Q → t σ H Q) : PO X e t' := ⟨fun pins s σ H Q I w => h.run pins s σ H Q I (f σ H Q w)⟩
theorem sdo_none : SdO X q S none none := fun E tk => po_imp po_none fun σ H Q ⟨z, ρ, hH, ok, rl, w⟩ => by
  subst hH
  exact wp.here (P := fun o z' => Q o z'.H) ok w
theorem sdo_some {e : Expr} {m : PV.E} (h : Sd X q S e m) : SdO X q S (some e) (some m) := fun E tk => po_imp (po_some (h E tk)) fun σ H Q ⟨z, ρ, hH, ok, rl, w⟩ => ⟨z, ρ, hH, ok, rl, (wp.bind w).mono fun d z1 ok1 e1 w1 v hv => by
  cases d with
  | int i => exact ⟨i, hv.of_int, wp.here (P := fun o z' => Q o z'.H) ok1 w1⟩
  | _ => exact w1.elim⟩
theorem has_cut {K : PySem.W.Frag} {z : Z} {l : List PV.D} {vs : List V} (hv : HasL K q z l vs) (lo hi : Option Int) : HasL K q z (cutD l lo hi) (cutV vs lo hi) := by
  unfold cutD cutV
  rw [hv.len]
  exact (hv.drop _).take _
theorem cut_whole {l : List PV.D} {lo hi : Option Int} (h1 : HT.sIx l.length 0 lo = 0) (h2 : HT.sIx l.length l.length hi = l.length) : cutD l lo hi = l := by
  unfold cutD
  rw [h1, h2, Nat.sub_zero, List.drop_zero, List.take_length]
theorem sd_sl {a : Expr} {lo hi : Option Expr} {ma : PV.E} {mlo mhi : Option PV.E} {p2 pos : Pos} (ha : Sd X q S a ma) (hlo : SdO X q S lo mlo) (hhi : SdO X q S hi mhi) : Sd X q S (.Subscript a (.Slice lo hi none p2) pos) (.sl ma mlo mhi) := fun E tk =>
  pe_imp (pe_slice (sl_tupA.or (sl_list.or sl_str)) (ha E tk) (hlo E tk) (hhi E tk)) fun σ H Q ⟨z, ρ, hH, ok, rl, w⟩ => ⟨z, ρ, hH, ok, rl, (wp.bind w).mono fun d z1 ok1 e1 w1 v hv => ⟨z1, ρ, rfl, ok1, rl.ext ok e1, (wp.bind w1).mono fun l z2 ok2 e2 w2 => ⟨z2, ρ, rfl, ok2, (rl.ext ok e1).ext ok1 e2, (wp.bind w2).mono fun h z3 ok3 e3 w3 => by
    obtain ⟨c, hc, hp⟩ := wp.of w3
    replace hp : Post X.K q z3 Q c := hp
    replace hv := Has.ext ok2 e3 d v (Has.ext ok1 e2 d v hv)
    cases d <;> simp only [slD, reduceCtorEq, Option.some.injEq] at hc
    · rename_i s
      split at hc <;> cases hc
      rename_i hz
      exact .inr (.inr ⟨s, hv.of_str, hz, hp.at ok3 Has.str⟩)
    · rename_i ds
      subst hc
      obtain ⟨p, vs, rfl, h1, h2⟩ := hv.ref_of_tup
      refine .inl ⟨p, vs, rfl, h1, fun ⟨g1, g2⟩ => ?_, fun _ p' hn => hp.put ok3 hn (put_tup ok3 hn (has_cut h2 l h))⟩
      rw [h2.len] at g1 g2
      rw [cut_whole g1 g2] at hp
      exact hp.at ok3 hv
    · rename_i ds
      subst hc
      obtain ⟨p, vs, rfl, h1, _, h2⟩ := hv.of_lst
      exact .inr (.inl ⟨p, vs, rfl, SqL.of h1, fun p' hn => hp.put ok3 hn (put_lst ok3 hn (has_cut h2 l h))⟩)
    · rename_i ds
      subst hc
      simp only [Has] at hv
      obtain ⟨p, vs, rfl, h1, h2⟩ := hv
      refine .inr (.inl ⟨p, vs, rfl, ?_, fun p' hn => hp.put ok3 hn (put_lst ok3 hn (has_cut h2 l h))⟩)
      rcases h1 with ⟨r, _⟩ | h1
      · exact .inl r
      · exact .inr h1⟩⟩⟩

/-! ### a < b < c -/
theorem chain_imp {a b c : Expr} {ma mb mc : PV.E} {o1 o2 : Cop} {E : XK} {σ : L2.St} {H : Hp} {Q : VK}
    (h : rdE X.K q S E (.chain o1 o2 ma mb mc) σ H Q) (hb : ∀ x y : PV.D, cmpD o1 x y ≠ none → True) :
    tChain (rD X.K q (fun x y => (cmpD o1 x y).map .bl)) (rD X.K q (fun x y => (cmpD o2 x y).map .bl)) (rdE X.K q S E ma) (rdE X.K q S E mb) (rdE X.K q S E mc) σ H Q := by
  obtain ⟨z, ρ, hH, ok, rl, w⟩ := h
  refine ⟨z, ρ, hH, ok, rl, (wp.bind w).mono fun d z1 ok1 e1 w1 v hv => ⟨z1, ρ, rfl, ok1, rl.ext ok e1, (wp.bind w1).mono fun e z2 ok2 e2 w2 u hu => ?_⟩⟩
  have hv := Has.ext ok1 e2 d v hv
  have rl2 := (rl.ext ok e1).ext ok1 e2
  have w2 : wp X.K q z2 (match cmpD o1 d e with
    | some true => (evE S ρ mc z2.G).bind fun z G3 => .of ((cmpD o2 e z).map .bl) G3
    | some false => .ok (.bl false) z2.G
    | none => .bad) (PQ X.K q Q) E := w2
  cases hc : cmpD o1 d e with
  | none => rw [hc] at w2; exact w2.elim
  | some k =>
    rw [hc] at w2
    refine ⟨z2, d, e, .bl k, rfl, ok2, hv, hu, (by show (cmpD o1 d e).map D.bl = _; rw [hc]; rfl), fun z3 hG ok3 e3 x hx => ⟨k, hx.of_bl, ?_⟩⟩
    cases k with
    | false =>
      rw [if_neg (by simp)]
      have w2 : wp X.K q z2 (.ok (.bl false) z2.G) (PQ X.K q Q) E := w2
      exact w2 z3 hG ok3 e3 _ Has.bl
    | true =>
      rw [if_pos rfl]
      have w2 : wp X.K q z2 ((evE S ρ mc z2.G).bind fun z G3 => .of ((cmpD o2 e z).map .bl) G3) (PQ X.K q Q) E := w2
      have w3 := wp.ext e3 w2
      rw [← hG] at w3
      refine ⟨z3, ρ, rfl, ok3, rl2.ext ok2 e3, (wp.bind w3).mono fun f z4 ok4 e4 w4 t ht => ?_⟩
      obtain ⟨c', hc', hp'⟩ := wp.of w4
      exact ⟨z4, e, f, c', rfl, ok4, Has.ext ok3 e4 e u (Has.ext ok2 e3 e u hu), ht, hc', hp'⟩
theorem sd_chain {op1 op2 : CmpOp} {o1 o2 : Cop} {a b c : Expr} {ma mb mc : PV.E} {pos : Pos} (h1 : OpD X q (compareOp op1) (fun x y => (cmpD o1 x y).map .bl)) (h2 : OpD X q (compareOp op2) (fun x y => (cmpD o2 x y).map .bl)) (ha : Sd X q S a ma) (hb : Sd X q S b mb) (hc : Sd X q S c mc)
    (hm : lastMarks [op1, op2] [b, c] = false := by with_unfolding_all rfl) : Sd X q S (.Compare a [op1, op2] [b, c] pos) (.chain o1 o2 ma mb mc) := fun E tk =>
  pe_imp (pe_chain h1 h2 (ha E tk) (hb E tk) (hc E tk) hm) fun σ H Q h => chain_imp (a := a) (b := b) (c := c) h fun _ _ _ => trivial
theorem td_chain {op1 op2 : CmpOp} {o1 o2 : Cop} {a b c : Expr} {ma mb mc : PV.E} {pos : Pos} (h1 : OpD X q (compareOp op1) (fun x y => (cmpD o1 x y).map .bl)) (h2 : OpD X q (compareOp op2) (fun x y => (cmpD o2 x y).map .bl)) (ha : Sd X q S a ma) (hb : Sd X q S b mb) (hc : Sd X q S c mc)
    (hm : lastMarks [op1, op2] [b, c] = false := by with_unfolding_all rfl) : Td X q S (.Compare a [op1, op2] [b, c] pos) (.chain o1 o2 ma mb mc) := fun E tk =>
  pt_imp (pt_chain h1 h2 (ha E tk) (hb E tk) (hc E tk) hm) fun σ H Q ⟨z, ρ, hH, ok, rl, w⟩ => chain_imp (a := a) (b := b) (c := c) ⟨z, ρ, hH, ok, rl, w.mono fun d z' ok' e' ⟨b, hb, hq⟩ v hv => by
    subst hb
    exact ⟨b, hv.of_bl, hq⟩⟩ fun _ _ _ => trivial

/-! ### methods of texts -/
def rM (K : PySem.W.Frag) (q : Par) (m : Mt) : V → List V → Hp → VK → Prop := fun x vs H Q => ∃ (z : Z) (s : Str) (ds : List PV.D) (c : PV.D), z.H = H ∧ Ok K q z ∧ x = .str s ∧ HasL K q z ds vs ∧ meth m s ds = some c ∧ Post K q z Q c
theorem sd_meth1 {m : Mt} {id : String} {name : Str} {o e : Expr} {mo me : PV.E} {apos pos : Pos} (slot : Slot "str" name id) (ty : typeOf (.builtin id) = pure (.type "method_descriptor")) (rule : MtR X id (rM X.K q m)) (ho : Sd X q S o mo) (he : Sd X q S e me)
    (hs : starEach [e] X.env = [(false, eval e X.env)] := by rfl) (hbase : attributeBase o name X.env (eval o X.env) = eval o X.env := by rfl) (hline : (apos.endLine == pos.line) = true := by rfl) : Sd X q S (.Call (.Attribute o name apos) [e] [] pos) (.meth m mo [me]) := fun E tk =>
  pe_imp (pe_m1 slot ty rule (ho E tk) (he E tk) hs hbase hline) fun σ H Q ⟨z, ρ, hH, ok, rl, w⟩ => ⟨z, ρ, hH, ok, rl, (wp.bind w).mono fun d z1 ok1 e1 w1 v hv => by
    cases d with
    | str s =>
      refine ⟨⟨s, hv.of_str⟩, z1, ρ, rfl, ok1, rl.ext ok e1, ?_⟩
      have w1 : wp X.K q z1 ((evEs S ρ [me] z1.G).bind fun ds G2 => .of (meth m s ds) G2) (PQ X.K q Q) E := w1
      have e0 : ((evEs S ρ [me] z1.G).bind fun ds G2 => PV.R.of (meth m s ds) G2) = (evE S ρ me z1.G).bind fun d G2 => .of (meth m s [d]) G2 := by
        show (((evE S ρ me z1.G).bind fun d G1 => .ok [d] G1).bind fun ds G2 => PV.R.of (meth m s ds) G2) = _
        cases evE S ρ me z1.G <;> rfl
      rw [e0] at w1
      refine (wp.bind w1).mono fun e' z2 ok2 e2 w2 u hu => ?_
      obtain ⟨c, hc, hp⟩ := wp.of w2
      exact ⟨z2, s, [e'], c, rfl, ok2, hv.of_str, HasL.cons hu HasL.nil, hc, hp⟩
    | _ => exact w1.elim⟩
theorem mt_one {m : Mt} {id : String} {C : Str → Str → Prop} {g : Str → Str → PV.D} {r : V → List V → Hp → VK → Prop} (h : MtR X id r) (hm : ∀ s ds c, meth m s ds = some c → ∃ b, ds = [.str b] ∧ C s b ∧ c = g s b) (hr : ∀ (z : Z) s b Q, Ok X.K q z → C s b → Post X.K q z Q (g s b) → r (.str s) [.str b] z.H Q) : MtR X id (rM X.K q m) := by
  intro pins s σ H x xs v us Q I rx rs hh
  obtain ⟨z, a, ds, c, rfl, ok, rfl, hv, hc, hp⟩ := hh
  obtain ⟨b, rfl, hC, rfl⟩ := hm _ _ _ hc
  obtain ⟨u, rfl, h1⟩ := hv.one
  rw [h1.of_str] at rs
  exact h pins s σ z.H (.str a) [.str b] v us Q I rx rs (hr z a b Q ok hC hp)
theorem mr_removeprefix : MtR X "str.removeprefix" (rM X.K q .removeprefix) :=
  mt_one (C := fun a _ => a.length ≤ sizeLine) (g := fun a b => .str (Txt.removeprefix a b)) mt_removeprefix (fun s ds c h => by
    have h : mRemove s ds = some c := h
    unfold mRemove at h
    split at h
    · split at h <;> cases h
      rename_i hh
      exact ⟨_, rfl, hh, rfl⟩
    · cases h) fun z s b Q ok hC hp => ⟨s, b, rfl, rfl, hC, hp.at ok Has.str⟩
theorem mr_strip : MtR X "str.strip" (rM X.K q .strip1) :=
  mt_one (C := fun a _ => a.length ≤ sizeLine) (g := fun a b => .str (Txt.stripChars a b)) mt_stripChars (fun s ds c h => by
    have h : mStrip s ds = some c := h
    unfold mStrip at h
    split at h
    · split at h <;> cases h
      rename_i hh
      exact ⟨_, rfl, hh, rfl⟩
    · cases h) fun z s b Q ok hC hp => ⟨s, b, rfl, rfl, hC, hp.at ok Has.str⟩
theorem mr_count : MtR X "str.count" (rM X.K q .count) :=
  mt_one (C := fun _ _ => True) (g := fun a b => .int (Txt.count a b)) mt_count (fun s ds c h => by
    have h : mCount s ds = some c := h
    unfold mCount at h
    split at h
    · cases h
      exact ⟨_, rfl, trivial, rfl⟩
    · cases h) fun z s b Q ok hC hp => ⟨s, b, rfl, rfl, hp.at ok Has.int⟩
theorem mr_split : MtR X "str.split" (rM X.K q .split1) :=
  mt_one (C := fun a b => (b.length == 0) = false ∧ a.length + 2 ≤ sizeLine) (g := fun a b => .lst ((Txt.split a b).map .str)) mt_split (fun s ds c h => by
    have h : mSplit s ds = some c := h
    unfold mSplit at h
    split at h
    · split at h <;> cases h
      rename_i hh
      exact ⟨_, rfl, hh, rfl⟩
    · cases h) fun z s b Q ok hC hp => ⟨s, b, rfl, rfl, hC.1, hC.2, fun p hn => hp.put ok hn (put_lst ok hn (strs_has _))⟩
theorem mr_partition : MtR X "str.partition" (rM X.K q .partition) :=
  mt_one (C := fun a b => (b.length == 0) = false ∧ a.length ≤ sizeLine) (g := fun a b => .tup [.str (Txt.partition a b).1, .str (Txt.partition a b).2.1, .str (Txt.partition a b).2.2]) mt_partition (fun s ds c h => by
    have h : mPartition s ds = some c := h
    unfold mPartition at h
    split at h
    · split at h <;> cases h
      rename_i hh
      exact ⟨_, rfl, hh, rfl⟩
    · cases h) fun z s b Q ok hC hp => ⟨s, b, rfl, rfl, hC.1, hC.2, fun p hn => hp.put ok hn (put_tup ok hn (HasL.cons Has.str (HasL.cons Has.str (HasL.cons Has.str HasL.nil))))⟩
theorem mr_join : MtR X "str.join" (rM X.K q .join) := by
  intro pins s σ H x xs v us Q I rx rs hh
  obtain ⟨z, a, ds, c, rfl, ok, rfl, hv, hc, hp⟩ := hh
  have hc : mJoin a ds = some c := hc
  unfold mJoin at hc
  split at hc
  · simp only [Option.bind_eq_some_iff] at hc
    obtain ⟨ys, ⟨l, hl, hy⟩, hc⟩ := hc
    split at hc <;> cases hc
    rename_i hz
    obtain ⟨u, rfl, h1⟩ := hv.one
    obtain ⟨p, vs, rfl, h2, h3⟩ := has_seq hl h1
    have e := has_strs hy h3
    subst e
    exact mt_join pins s σ z.H (.str a) _ v us Q I rx rs ⟨a, p, ys, rfl, rfl, h2, of_decide_eq_true hz, hp.at ok Has.str⟩
  · cases hc

/-! ### zip -/
theorem sdi_zip {a b : Expr} {ma mb : PV.E} {elts : List Expr} {kk : Nat} {tpos p pos : Pos} (hg : Gl X "zip") (hm : X.mg "zip" = none) (ha : Sd X q S a ma) (hb : Sd X q S b mb)
    (hs : starEach [a, b] X.env = (false, eval a X.env) :: starEach [b] X.env := by rfl) (hs2 : starEach [b] X.env = (false, eval b X.env) :: starEach [] X.env := by rfl) (hpl : (backTo pos (starEach [b] X.env)).any (·.1) = false := by rfl) :
    SdI X q S (.Tuple elts kk tpos) (.Call (.Name "zip" p) [a, b] [] pos) (.zip2 ma mb) := fun E tk =>
  pi_imp (pi_zipA hg hm (sda_cons ha (sda_cons hb sda_nil hs2) hs E tk) hs hpl) fun σ H R ⟨z, ρ, hH, ok, rl, w⟩ => ⟨z, ρ, hH, ok, rl, by
    have e0 : ((evE S ρ ma z.G).bind fun x G1 => (evE S ρ mb G1).bind fun y G2 => PV.R.of (zipD x y) G2) = (evEs S ρ [ma, mb] z.G).bind fun ds G => match ds with
      | [x, y] => .of (zipD x y) G
      | _ => .bad := by
      show _ = ((evE S ρ ma z.G).bind fun d G1 => (((evE S ρ mb G1).bind fun e G2 => .ok [e] G2).bind fun ds G3 => PV.R.ok (d :: ds) G3)).bind _
      cases evE S ρ ma z.G with
      | ok d G1 =>
        show ((evE S ρ mb G1).bind fun y G2 => PV.R.of (zipD d y) G2) = (((evE S ρ mb G1).bind fun e G2 => .ok [e] G2).bind fun ds G3 => PV.R.ok (d :: ds) G3).bind _
        cases evE S ρ mb G1 <;> rfl
      | exc c G1 => rfl
      | bad => rfl
    have w : wp X.K q z ((evE S ρ ma z.G).bind fun x G1 => (evE S ρ mb G1).bind fun y G2 => PV.R.of (zipD x y) G2) (fun ds z' => ∀ J I, Wk X.K q J ds I → I z' → R J z'.H) E := w
    rw [e0] at w
    refine (wp.bind w).mono fun ds z1 ok1 e1 w1 vs hvs => ?_
    match ds, w1 with
    | [x, y], w1 =>
      obtain ⟨c, hc, hp⟩ := wp.of w1
      obtain ⟨v, u, rfl, hv, hu⟩ := hvs.two
      cases x <;> cases y <;> simp only [zipD, reduceCtorEq] at hc
      · split at hc <;> cases hc
        rename_i hl
        obtain ⟨p1, vs, rfl, h1, h2⟩ := hv.ref_of_tup
        obtain ⟨p2, ws, rfl, h3, h4⟩ := hu.ref_of_tup
        exact ⟨p1, p2, vs, ws, rfl, .inr ⟨h1, h3, hp z1 rfl ok1 (Ext.refl _) _ _ (wk_zipT hl) ⟨h1, h3, h2, h4⟩⟩⟩
      · split at hc <;> cases hc
        rename_i hl
        obtain ⟨p1, vs, rfl, h1, f1, h2⟩ := hv.of_lst
        obtain ⟨p2, ws, rfl, h3, f3, h4⟩ := hu.of_lst
        exact ⟨p1, p2, vs, ws, rfl, .inl ⟨SqL.of h1, SqL.of h3, hp z1 rfl ok1 (Ext.refl _) _ _ (wk_zip hl) ⟨h1, h3, f1, f3, h2, h4⟩⟩⟩⟩

/-! ### texts made of parts -/
theorem sd_fv {e : Expr} {m : PV.E} {pos : Pos} (h : Sd X q S e m) : Sd X q S (.FormattedValue e (-1) none pos) (.fv m) := fun E tk =>
  pe_imp (pe_fmt (h E tk)) fun σ H Q ⟨z, ρ, hH, ok, rl, w⟩ => ⟨z, ρ, hH, ok, rl, (wp.bind w).mono fun d z1 ok1 e1 w1 v hv => by
    obtain ⟨c, hc, hp⟩ := wp.of w1
    replace hp : Post X.K q z1 Q c := hp
    cases d <;> simp only [fvD, reduceCtorEq] at hc
    · rename_i i
      split at hc <;> cases hc
      rename_i hz
      exact .inr ⟨i, hv.of_int, hz, hp.at ok1 Has.str⟩
    · rename_i y
      split at hc <;> cases hc
      rename_i hz
      exact .inl ⟨y, hv.of_str, hz, hp.at ok1 Has.str⟩⟩
/-- the parts' judgements -/
inductive SdJ (X : Cx) (q : Par) (S : PV.Sem) : List Expr → List PV.E → Prop where
  | nil : SdJ X q S [] []
  | cons {e : Expr} {m : PV.E} {es : List Expr} {ms : List PV.E} (h : Sd X q S e m) (r : SdJ X q S es ms) : SdJ X q S (e :: es) (m :: ms)
theorem SdJ.pj {es : List Expr} {ms : List PV.E} (h : SdJ X q S es ms) (E : XK) (tk : Tk X E) : PJ X es (ms.map (rdE X.K q S E)) := by
  induction h with
  | nil => exact .nil
  | cons h r ih => exact .cons (h E tk) ih
theorem evF_js {E : XK} {ρ : Env} {σ : L2.St} {Q : VK} : ∀ (ms : List PV.E) (acc : Str) (z : Z), Ok X.K q z → RelS X.K q z ρ σ → wp X.K q z (evF S ρ ms acc z.G) (PQ X.K q Q) E → tJs (ms.map (rdE X.K q S E)) acc σ z.H fun out H1 => Q (.str out) H1
  | [], acc, z, ok, rl, w => wp.here (P := PQ X.K q Q) ok w _ Has.str
  | m :: ms, acc, z, ok, rl, w => ⟨z, ρ, rfl, ok, rl, (wp.bind w).mono fun d z1 ok1 e1 w1 v hv => by
    cases d with
    | str y =>
      have w1 : wp X.K q z1 (if (acc ++ y).length ≤ sizeLine then evF S ρ ms (acc ++ y) z1.G else .bad) (PQ X.K q Q) E := w1
      split at w1
      · rename_i hz
        exact ⟨y, hv.of_str, hz, evF_js ms (acc ++ y) z1 ok1 (rl.ext ok e1) w1⟩
      · exact w1.elim
    | _ => exact w1.elim⟩
theorem sd_fmt {v1 v2 : Expr} {rest : List Expr} {ms : List PV.E} {pos : Pos} (h : SdJ X q S (v1 :: v2 :: rest) ms) : Sd X q S (.JoinedStr (v1 :: v2 :: rest) pos) (.fmt ms) := fun E tk =>
  pe_imp (pe_joined (h.pj E tk)) fun σ H Q ⟨z, ρ, hH, ok, rl, w⟩ => by
    subst hH
    exact evF_js ms Str.empty z ok rl w
end
end PV
end
/-! ## PV8 -/
section
set_option Elab.async false
set_option linter.all false
set_option maxRecDepth 100000
set_option maxHeartbeats 4000000
/-! The rules: what is told of a call that may be refused; lambdas. -/
namespace PV
open PySem L2 LamX PyProof.Rows RZ
/-- what the clauses tell of an exception -/
def Wt (K : PySem.W.Frag) (Q : VK) (cls : Value) (H : Hp) : List (Value × Str) → Prop
  | [] => False
  | (c, r) :: l => ∃ b, PySem.W.exmOne K cls c = some b ∧ (b = true → Q (.str r) H) ∧ (b = false → Wt K Q cls H l)
def TTm (K : PySem.W.Frag) (hl : List (Value × Str)) : (XK → Hp → VK → Prop) → Hp → VK → Prop := fun tl H Q => tl (fun cls _ H' => Wt K Q cls H' hl) H Q
abbrev sayT (r : Str) : Addr → Value → Option Addr → TS := fun _ _ _ => tRet (tC (.str r))
theorem wMany_of {K : PySem.W.Frag} {D : Ends} {cls : Value} {d : Option Addr} {σ : L2.St} {H : Hp} : ∀ {hl : List (Value × Str)}, Wt K D.rt cls H hl → wMany K (fun _ _ _ _ => False) D (hl.map fun p => (p.1, sayT p.2)) cls d σ H
  | [], h => h
  | (c, r) :: l, ⟨b, h1, h2, h3⟩ => ⟨b, h1, fun hb a _ => h2 hb, fun hb => wMany_of (h3 hb)⟩
section
variable {X : Cx} {q : Par} {S : PV.Sem}
theorem gives_many {Ng : List Str} {x a qn : Str} {sg : Scope} {g : Addr} {cdg : Value} {p1 p2 p3 p8 : Pos} {h0 : ExceptHandler} {hds : List ExceptHandler} {hl : List (Value × Str)}
    (hh : ∀ s H, HdsOk (cxOf C8.CX0 X.prog X.w X.K X.mg X.base Ng x sg g cdg X.A X.stack s H C8.E0).nox (h0 :: hds) (hl.map fun p => (p.1, sayT p.2))) (hf0 : ∀ f : Addr, (L2.start Ng [V.ref f])[0]? = some (some (V.ref f))) :
    GivesTo X Ng x sg g cdg [.Try [.Return (some (.Call (.Name a p1) [] [] p2)) p3] (h0 :: hds) [] [] p8] a qn (TTm X.K hl) := by
  intro f c1 st H Q tl act hcode hq
  let tbody : WX → TS := fun W D σ H => ∃ Eo : XK, (∀ cls d σ1 H1, Eo cls d H1 → W cls d σ1 H1) ∧ σ[0]? = some (some (.ref f)) ∧ H c1 = some (CodeO c1 qn) ∧ tl Eo H D.rt
  refine ⟨_, pss_one (ps_try_many (tb := tbody) (Wout := fun _ _ _ _ => False) rfl rfl L2.takes0 (fun W pn xe tk _ => ⟨fun pins s1 σ1 H1 D1 I1 hw => ?_⟩) (hh st H)), ?_⟩
  · obtain ⟨Eo, w1, w2, w3, w4⟩ := hw
    exact (pss_one (ps_ret (pos := p3) (act W pn xe Eo p1 p2 tk w1))).run pins s1 σ1 H1 D1 I1 ⟨w2, w3, w4⟩
  · exact ⟨fun cls _ H1 => Wt X.K Q cls H1 hl, fun cls d σ1 H1 hw => wMany_of hw, hf0 f, hcode, hq⟩
theorem ok_extN {K : PySem.W.Frag} {z : Z} (ok : Ok K q z) {H1 : Hp} (e : ExtN z.H H1) (t : Tabs q.T H1) : Ok K q { z with H := H1 } ∧ Ext z { z with H := H1 } := by
  have ex : Ext z { z with H := H1 } := by
    refine ⟨List.prefix_refl _, rfl, fun a l => .inl l, fun b o hb nt nl => e b o hb nt, fun b hn o hb => ?_⟩
    by_cases ht : ∃ ps, o = .tbl ps
    · exact ht
    · exact absurd (hn o (e b o hb fun ps hps => ht ⟨ps, hps⟩)) ht
  refine ⟨⟨ok.len, fun n ds hn => ?_, ok.inj, fun b hb => ?_, t⟩, ex⟩
  · obtain ⟨a, vs, h1, h2, h3, h4⟩ := ok.cells n ds hn
    exact ⟨a, vs, h1, e a _ h2 (fun _ x => (nomatch x)), HasL.ext ok ex ds vs h3, h4⟩
  · obtain ⟨vs, hv⟩ := ok.blk b hb
    exact ⟨vs, e b _ hv (fun _ x => (nomatch x))⟩
theorem told_imp {E : XK} {mb : PV.E} {hl : List (Value × Str)} (ht : ∀ c r, S.told c = some r → ∀ (Q : VK) (H : Hp), Q (.str r) H → Wt X.K Q (q.cls c) H hl) {σ : L2.St} {H : Hp} {Q : VK} (h : rdE X.K q S E (.told mb) σ H Q) :
    tLam q.T (TTm X.K hl) (fun E' => rdE X.K q S E' mb) σ H Q := by
  obtain ⟨z, ρ, hH, ok, rl, w⟩ := h
  subst hH
  refine ⟨ok.tabs, fun H1 e t => ?_⟩
  obtain ⟨ok1, e1⟩ := ok_extN ok e t
  refine ⟨{ z with H := H1 }, ρ, rfl, ok1, rl.ext ok e1, ?_⟩
  have w : wp X.K q z (toldR S (evE S ρ mb z.G)) (PQ X.K q Q) E := w
  have w1 := wp.ext e1 w
  show wp X.K q { z with H := H1 } (evE S ρ mb z.G) _ _
  cases hr : evE S ρ mb z.G with
  | bad => rw [hr] at w1; exact w1.elim
  | ok d G' => rw [hr] at w1; exact w1
  | exc c G' =>
    rw [hr] at w1
    intro z2 hG ok2 e2
    have w1 : wp X.K q { z with H := H1 } (match S.told c with
      | some r => R.ok (.str r) G'
      | none => .bad) (PQ X.K q Q) E := w1
    cases hc : S.told c with
    | none => rw [hc] at w1; exact w1.elim
    | some r =>
      rw [hc] at w1
      exact ht c r hc Q z2.H (w1 z2 hG ok2 e2 _ Has.str)
/-- what is known of the def that tells: x(what) -/
structure ToldAt (K : PySem.W.Frag) (mg : Str → Option Value) (q : Par) (x a : Str) (Ng : List Str) (hl : List (Value × Str)) : Prop where
  ex : ∃ (g : Addr) (pg : Arguments) (bg : List Stmt) (sg : Scope) (dV kV doc pm cdv ct oc : Value) (an od : Option Addr) (osl : Array (Option Value)) (p1 p2 p3 p8 : Pos) (h0 : ExceptHandler) (hds : List ExceptHandler),
    mg x = some (.ref g) ∧ PySem.W.keepIn K (.ref g) = true ∧ K.lookup g = some ⟨oc, od, .func (PySem.W.fnOf x x pg bg sg dV kV doc pm an cdv ct), osl⟩ ∧ PySem.W.codeIn K cdv x = true ∧ L2.Binds K (PySem.W.fnOf x x pg bg sg dV kV doc pm an cdv ct) [a] [] ∧ FnScope Ng [a] sg ∧
    bg = [.Try [.Return (some (.Call (.Name a p1) [] [] p2)) p3] (h0 :: hds) [] [] p8] ∧ Ng[0]? = some a ∧ Vis sg a ∧ (∀ f : Addr, (L2.start Ng [V.ref f])[0]? = some (some (V.ref f))) ∧
    ∀ (P : Program) (w : World) (base : Heap) (A : Around) (stack : List PySem.Env) (s : Shared) (H : Hp), HdsOk (cxOf C8.CX0 P w K mg base Ng x sg g cdv A stack s H C8.E0).nox (h0 :: hds) (hl.map fun p => (p.1, sayT p.2))
theorem sd_told {x a : Str} {Ng : List Str} {hl : List (Value × Str)} {c P : Addr} {k : Nat} {params : Arguments} {body : Expr} {scope : Scope} {mb : PV.E} {p lpos pos : Pos} (Td : ToldAt X.K X.mg q x a Ng hl) (ht : ∀ c r, S.told c = some r → ∀ (Q : VK) (H : Hp), Q (.str r) H → Wt X.K Q (q.cls c) H hl)
    (hg : Gl X x) (TB : TabB X.base X.mg c P) (hcode : X.env.code = .ref c) (hmT : (P, X.env.qual ++ "<lambda>") ∈ q.T) (hu : ∀ p ∈ q.T, p.1 = P → p.2 = X.env.qual ++ "<lambda>") (hr : Room (k + 2) X.A) (L : LamS X.env.scope scope)
    (hbody : ∀ (A : Around) (outer : List PySem.Env) (s : Shared) (H : Hp) (E : XK) (f c' : Addr), Room k (A.deeper (lamEnv X scope s.heap.objs.size f c')) → Sd (lamCx X A outer s H E scope f c') q S body mb) (hdef : defaultsOf params X.env = ([], []) := by rfl)
    (hbind : ∀ (q : Str) (cl : List (Str × Addr)) (pm cv ctv : Value), bindArgs (PySem.W.kla_fn "<lambda>" q params body scope cl pm cv ctv) ⟨[], []⟩ = pure [] := by intros; rfl)
    (hdb : (x == ("__debug__" : Str)) = false := by decide) (hd : (a == ("__debug__" : Str)) = false := by decide) (hcd : (a == ("__classdict__" : Str)) = false := by decide) : Sd X q S (.Call (.Name x p) [.Lambda params body scope lpos] [] pos) (.told mb) := fun E tk => by
  obtain ⟨g, pg, bg, sg, dV, kV, doc, pm, cdv, ct, oc, an, od, osl, p1, p2, p3, p8, h0, hds, hm, hk, lk, hcg, hb, Sg, rfl, hNg, hva, hf0, hh⟩ := Td.ex
  exact pe_imp (pe_lamcall (t := fun E' => rdE X.K q S E' mb) hg hm hk lk hcg hb Sg hNg hva (gives_many (hl := hl) (fun s H => hh _ _ _ _ _ s H) hf0) TB hcode hmT hu hr L hdef hbind (fun A outer s H E' f c' hr' => hbody A outer s H E' f c' hr' E' (takes_of rfl rfl rfl rfl)) hdb hd hcd)
    fun σ H Q h => told_imp ht h
end
end PV
end
/-! ## PV9 -/
section
set_option Elab.async false
set_option linter.all false
set_option maxRecDepth 100000
set_option maxHeartbeats 4000000
/-! Lambdas that are kept: made, handed on, called by the def that tells. -/
namespace PV
open PySem L2 LamX PyProof.Rows RZ
section
variable {X : Cx} {pins : List (Addr × Obj)} {σ : L2.St} {H : Hp} {s : Shared}
theorem lamO_ok {P : Program} {w : World} {H : Hp} {h : Heap} {l : LamD} {f c : Addr} {pm ctv : Value} (e : h.get? f = some (PySem.W.kla_obj "<lambda>" l.qual l.params l.body l.scope [] pm c ctv)) : ObjOk P w H h f (lamO l f c) :=
  ⟨⟨pm, ctv, e⟩, ⟨_, e⟩, fun h1 h2 ⟨p1, c1, g⟩ st => ⟨p1, c1, st _ g⟩⟩
/-- a lambda is made and known -/
theorem lam_kept {T : List (Addr × Str)} {c P : Addr} {l : LamD} {pos : Pos} {E : Value → Shared → Prop} {Q : Value → Shared → Prop} (I : Inv X pins σ H s) (TB : TabB X.base X.mg c P) (hcode : X.env.code = .ref c) (hq : l.qual = X.env.qual ++ "<lambda>")
    (hm : (P, l.qual) ∈ T) (hu : ∀ p ∈ T, p.1 = P → p.2 = l.qual) (hT : Tabs T H) (hdef : defaultsOf l.params X.env = ([], [])) (hfree : ∀ y ∈ l.scope.names, y.2 = .free → ∃ c, X.env.cells.lookup y.1 = some c) (hclo : cloFrom X.env.cells l.scope.names [] = [])
    (h : ∀ (f c1 : Addr) (H2 : Hp) (s2 : Shared), Inv X pins σ H2 s2 → ExtN H H2 → Tabs T H2 → H2 f = some (lamO l f c1) → H2 c1 = some (CodeO c1 l.qual) → Q (.ref f) s2) :
    wpAny (model X.prog X.w) X.A (eval (.Lambda l.params l.body l.scope pos) X.env) Q E s := by
  obtain ⟨tab, hP, htri, hnames⟩ := hT _ hm
  have gP : s.heap.get? P = some { cls := .none, data := .fields tab } := I.hok P _ hP
  have bP := TB.bm.keeps I.bk
  have hclo2 : closureFor l.scope X.env = pure [] := by rw [closure_ok hfree, hclo]
  -- the last step of both ways: the function object is laid and known
  have last : ∀ {H1 : Hp} {h1 : Heap} {t1 t2 : Nat} {c1 : Addr} {pm ctv : Value}, Inv X pins σ H1 { s with heap := h1, toks := t1 } → ExtN H H1 → Tabs T H1 → H1 c1 = some (CodeO c1 l.qual) →
      Q (.ref h1.objs.size) { s with heap := h1.push (PySem.W.kla_obj "<lambda>" l.qual l.params l.body l.scope [] pm c1 ctv), toks := t2 } := fun {H1 h1 t1 t2 c1 pm ctv} J en tb hc1 => by
    have nF : H1 h1.objs.size = none := J.hok.fresh (Nat.le_refl _)
    have J2 := J.laid (a := h1.objs.size) (o := lamO l h1.objs.size c1) (t' := t2) (h' := h1.push (PySem.W.kla_obj "<lambda>" l.qual l.params l.body l.scope [] pm c1 ctv)) (fun b u e => Heap.get?_push_of_some _ e) (Nat.le_refl _) (lamO_ok (Heap.get?_push_size _ rfl))
    exact h h1.objs.size c1 _ _ J2 (en.trans (ExtN.of fun b o e => by rw [upd_ne (ne_of_none e nF)]; exact e)) (tb.ext fun b o e => by rw [upd_ne (ne_of_none e nF)]; exact e) upd_same (by rw [upd_ne (ne_of_none hc1 nF)]; exact hc1)
  refine PySem.W.kla_eval hdef ?_
  rw [← hq]
  cases hfind : codeAmong pos tab.toList with
  | some cv =>
    obtain ⟨c1, rfl, hc1⟩ := hnames pos cv hfind
    exact PySem.W.kla_makeFunctionHit (mg := X.mg) hclo2 I.ok.glob (I.mod.glob.keeps I.bk) hcode (TB.code.keeps I.bk) gP htri hfind bP fun ctv h1 t2 keep _ => last (I.kept (t' := s.toks) keep) (ExtN.refl H) hT hc1
  | none =>
    refine PySem.W.kla_makeFunction (mg := X.mg) hclo2 I.ok.glob (I.mod.glob.keeps I.bk) hcode (TB.code.keeps I.bk) gP htri hfind TB.gP bP fun c1 ctv h1 t2 but low lt rec tabP => ?_
    obtain ⟨c2, oc, vs, tk, e2, g1, g2, g3⟩ := rec
    cases e2
    have nC : H c1 = none := I.hok.fresh low
    have J := inv_table (t' := s.toks) (more := #[rawInt pos.line, rawInt pos.col, .ref c1]) (q := l.qual) I hP (fun b o hb e => but b o hb e) tabP low ⟨oc, vs, tk, g1, g2, g3⟩
    have en : ExtN H (upd (upd H P (.tbl (tab ++ #[rawInt pos.line, rawInt pos.col, .ref c1]))) c1 (CodeO c1 l.qual)) := fun b o e nt => by
      rw [upd_ne (ne_of_none e nC), upd_ne (fun e' => nt tab (Option.some.inj (e.symm.trans (by rw [e']; exact hP))))]
      exact e
    refine last J en (fun p hp => ?_) upd_same
    by_cases hb : p.1 = P
    · rw [hu p hp hb, hb]
      refine ⟨tab ++ #[rawInt pos.line, rawInt pos.col, .ref c1], by rw [upd_ne (ne_of_none hP nC), upd_same], ?_, fun p1 cv hcv => ?_⟩
      · rw [Array.toList_append]
        exact PySem.TriplesOk_snoc _ _ _ _ htri
      · rw [Array.toList_append] at hcv
        rcases among_app _ htri hcv with hcv | hcv
        · obtain ⟨c0, k1, k2⟩ := hnames p1 cv hcv
          exact ⟨c0, k1, en _ _ k2 codeO_ne⟩
        · exact ⟨c1, hcv, upd_same⟩
    · obtain ⟨ps1, a1, a2, a3⟩ := hT p hp
      refine ⟨ps1, by rw [upd_ne (ne_of_none a1 nC), upd_ne hb]; exact a1, a2, fun p1 cv hcv => ?_⟩
      obtain ⟨c0, k1, k2⟩ := a3 p1 cv hcv
      exact ⟨c0, k1, en _ _ k2 codeO_ne⟩
end
section
variable {X : Cx} {q : Par} {S : PV.Sem}
theorem sd_lam {k : Nat} {c P : Addr} {params : Arguments} {body : Expr} {scope : Scope} {pos : Pos} (hl : q.lamD k = ⟨X.env.qual ++ "<lambda>", params, body, scope⟩) (TB : TabB X.base X.mg c P) (hcode : X.env.code = .ref c) (hm : (P, X.env.qual ++ "<lambda>") ∈ q.T) (hu : ∀ p ∈ q.T, p.1 = P → p.2 = X.env.qual ++ "<lambda>")
    (hfree : ∀ y ∈ scope.names, y.2 = .free → False) (hclo : cloFrom X.env.cells scope.names [] = [] := by rfl) (hdef : defaultsOf params X.env = ([], []) := by rfl) : Sd X q S (.Lambda params body scope pos) (.lam k) := fun E tk => ⟨fun pins s σ H Q I ⟨z, ρ, hH, ok, rl, w⟩ => by
  subst hH
  refine lam_kept (l := ⟨X.env.qual ++ "<lambda>", params, body, scope⟩) I TB hcode rfl hm hu ok.tabs hdef (fun y hy e => (hfree y hy e).elim) hclo fun f c1 H2 s2 I2 en tb h1 h2 => ?_
  obtain ⟨ok2, e2⟩ := ok_extN ok en tb
  refine ⟨.ref f, H2, I2, rfl, w { z with H := H2 } rfl ok2 e2 _ ?_⟩
  simp only [Has]
  exact ⟨f, c1, rfl, by rw [hl]; exact h1, by rw [hl]; exact h2⟩⟩
end
end PV
end
/-! ## PVa -/
section
set_option Elab.async false
set_option linter.all false
set_option maxRecDepth 100000
set_option maxHeartbeats 4000000
/-! A kept lambda called; the def that tells, by values. -/
namespace PV
open PySem L2 LamX PyProof.Rows RZ
structure CloS (l : LamD) : Prop where
  kind : l.scope.kind = .function
  co : l.scope.isCoroutine = false
  gen : l.scope.isGenerator = false
  own : ∀ y ∈ l.scope.names, y.2 ≠ .local ∧ y.2 ≠ .cell ∧ y.2 ≠ .free
  bind : ∀ (qn : Str) (cl : List (Str × Addr)) (pm cv ctv : Value), bindArgs (PySem.W.kla_fn "<lambda>" qn l.params l.body l.scope cl pm cv ctv) ⟨[], []⟩ = pure []
abbrev cloEnv (l : LamD) (L f c : Addr) : PySem.Env := PySem.W.envX l.qual l.scope L f (.ref c) []
def cloCx (P : Program) (w : World) (K : PySem.W.Frag) (mg : Str → Option Value) (base : Heap) (A : Around) (outer : List PySem.Env) (s : Shared) (H : Hp) (E : XK) (l : LamD) (f c : Addr) : Cx where
  prog := P
  w := w
  K := K
  mg := mg
  base := base
  A := A.deeper (cloEnv l s.heap.objs.size f c)
  N := []
  s_0 := s
  H_0 := H
  env := cloEnv l s.heap.objs.size f c
  outer := outer
  stack := cloEnv l s.heap.objs.size f c :: outer
  ex := []
  fn := fun _ => false
  calm := true
  pn := []
  xe := fun e s' => wpAny (model P w) (A.deeper (cloEnv l s.heap.objs.size f c)) (leaving (cloEnv l s.heap.objs.size f c) e) (fun _ s'' => L2.CX P w outer H s E e s'') (fun e' s'' => L2.CX P w outer H s E e' s'') s'
section
variable {P : Program} {w : World} {K : PySem.W.Frag} {mg : Str → Option Value} {base : Heap} {A : Around} {outer : List PySem.Env} {s : Shared} {H : Hp} {E : XK} {l : LamD} {f c : Addr}
theorem clo_start {h1 : Heap} {tk : Nat} (e0 : Env0 P w K mg base A outer s H) (hd : A.handled = none) (C : CloS l) (hns : h1.Ns s.heap.objs.size fun y => ([] : List (Str × Value)).reverse.lookup y) (kp : ∀ b o, s.heap.get? b = some o → h1.get? b = some o) :
    Inv (cloCx P w K mg base A outer s H E l f c) [] [] H { s with heap := h1, toks := tk } := by
  have nn : ∀ b : Addr, b ∉ (cloCx P w K mg base A outer s H E l f c).ex := fun b hb => nomatch (show b ∈ ([] : List Addr) from hb)
  have nc : ∀ (y : Str) (a : Addr), (cloCx P w K mg base A outer s H E l f c).env.cells.lookup y = some a → False := fun y a e => nomatch (show (none : Option Addr) = some a from e)
  have okc : (cloCx P w K mg base A outer s H E l f c).Ok := by
    refine ⟨e0.mod, C.kind, rfl, rfl, Nat.le_refl _, fun x y a e _ => (nc x a e).elim, fun x hx => ?_, fun x a _ e => (nc x a e).elim, fun _ => hd, Around.frames_deeper e0.frames, .inr ⟨rfl, rfl⟩, fun b hb => (nn b hb).elim, e0.bs, e0.bsz, fun b _ _ => nn b, fun b hb => (nn b hb).elim, e0.funs, e0.frf⟩
    have hx : l.scope.names.lookup x = some .cell ∨ l.scope.names.lookup x = some .free := hx
    rcases hx with hx | hx
    · exact absurd rfl (C.own _ (PySem.mem_of_lookup hx)).2.1
    · exact absurd rfl (C.own _ (PySem.mem_of_lookup hx)).2.2
  refine ⟨okc, rfl, e0.bare, Un.kept kp, ⟨_, hns, fun i x v e1 _ _ => ?_⟩, fun x a e => (nc x a e).elim, e0.hok.fresh (Nat.le_refl _), fun x a e => (nc x a e).elim, fun p hp => ?_, e0.hok.kept kp, rfl⟩
  · exact nomatch (show ([] : List Str)[i]? = some x from e1)
  · exact nomatch (show p ∈ ([] : List (Addr × Obj)) from hp)
theorem run_closed {k : Nat} {pm ctv : Value} {tb : TE} {Q : VK} (hf : s.heap.get? f = some (PySem.W.kla_obj "<lambda>" l.qual l.params l.body l.scope [] pm c ctv)) (hc : ∃ (oc : Obj) (vs : Array Value) (t : Tok), s.heap.get? c = some oc ∧ oc.data = .fields vs ∧ vs[1]? = some (.str l.qual t)) (hr : Room (k + 1) A)
    (e0 : Env0 P w K mg base A outer s H) (C : CloS l) (hbody : Room k (A.deeper (cloEnv l s.heap.objs.size f c)) → PE (cloCx P w K mg base A outer s H E l f c) l.body tb) (h : tb [] H Q) :
    codeAny (model P w) A (.call (.ref f) ⟨[], []⟩) (CR (L2.CX P w) outer P w H s Q E) s := by
  have lim : s.heap.NoLimit := e0.mod.nolimit.keeps fun b o e => (e0.bs b o e).1
  obtain ⟨oc, vs, t, g1, g2, g3⟩ := hc
  refine PySem.W.kla_callFunE hr.depth hf rfl C.co C.gen rfl ⟨c, oc, vs, t, rfl, g1, g2, g3⟩ ?_
  rw [C.bind]
  refine wpAny_pure (wpAny_newFunctionEnv (fun y hy => (C.own y hy).2.1) (fun y hy => nomatch hy) (fun h1 hns sb => ⟨lim.fresh _ sb, ?_⟩) C.kind)
  have kp : ∀ b o, s.heap.get? b = some o → h1.get? b = some o := fun b o e => sb.extBut b o (Nat.ne_of_lt (Heap.lt_size e)) (Heap.get?_push_of_some _ e)
  have J : Inv (cloCx P w K mg base A outer s H E l f c) [] [] H { s with heap := h1, toks := s.toks + ([] : List (Str × Value)).length } := clo_start e0 hr.hd C hns kp
  refine PySem.W.kla_codeExpr (wpAny_mono ((hbody (hr.deeper _)).run [] _ _ H Q J h) (fun v s1 hq => ?_) fun _ _ hq => hq)
  obtain ⟨u, H1, J1, rv, hq⟩ := hq
  exact ⟨u, H1, J1.os, J1.bare, J1.base, J1.hok, rv, hq⟩
end
section
variable {X : Cx} {q : Par} {S0 : PV.Sem}
/-- x(), x a local that holds a kept lambda -/
def tAct (K : PySem.W.Frag) (q : Par) (L : Nat → Gs → R D) (E : XK) (i : Nat) : TE := fun σ H Q => ∃ (z : Z) (k : Nat) (v : V), z.H = H ∧ Ok K q z ∧ σ[i]? = some (some v) ∧ Has K q z (.lam k) v ∧ wp K q z (L k z.G) (PQ K q Q) E
theorem pe_actv {i k0 : Nat} {L : Nat → Gs → R D} {a : Str} {E : XK} {p1 p2 : Pos} (tk : Tk X E) (hr : Room (k0 + 1) X.A)
    (hL : ∀ (k : Nat), (∃ m : PV.E, (∀ G, L k G = evE S0 [] m G) ∧ CloS (q.lamD k) ∧ ∀ (A : Around) (outer : List PySem.Env) (s : Shared) (H : Hp) (E : XK) (f c : Addr), Room k0 (A.deeper (cloEnv (q.lamD k) s.heap.objs.size f c)) → Sd (cloCx X.prog X.w X.K X.mg X.base A outer s H E (q.lamD k) f c) q S0 (q.lamD k).body m) ∨ ∀ G, L k G = .bad)
    (hN : X.N[i]? = some a) (hv : Vis X.env.scope a) (hd : (a == ("__debug__" : Str)) = false := by decide) (hcd : (a == ("__classdict__" : Str)) = false := by decide) : PE X (.Call (.Name a p1) [] [] p2) (tAct X.K q L E i) := by
  refine ⟨fun pins s σ H Q I hw => ?_⟩
  obtain ⟨z, k, v, hz, ok, hs, hv', w⟩ := hw
  simp only [Has] at hv'
  obtain ⟨f, c, rfl, h1, h2⟩ := hv'
  rw [hz] at h1 h2
  refine wpAny_Call_Name_kw (thn ((pe_var (pos := p1) (i := i) hN hv hd hcd).run pins s σ H (fun u H1 => u = .ref f ∧ H1 = H) I ⟨.ref f, hs, rfl, rfl⟩) fun u s1 ⟨v1, H1, I1, r1, ev, eH⟩ => ?_)
  subst ev
  rw [eH] at I1
  obtain rfl : u = Value.ref f := r1
  obtain ⟨⟨pm, ctv, of1⟩, _, _⟩ := I1.hok f _ h1
  obtain ⟨oc1, _, _⟩ := I1.hok c _ h2
  refine PySem.W.callWith_F0 ⟨_, _, _, _, of1⟩ ?_
  rcases hL k with ⟨m, hm, C, hb⟩ | hbad
  · have rc := run_closed (P := X.prog) (w := X.w) (E := E) (Q := Q) (tb := rdE X.K q S0 E m) of1 oc1 hr I1.env0 C (fun hr' => hb _ _ _ _ E _ _ hr' E (takes_of rfl rfl rfl rfl)) (by
      refine ⟨z, [], hz, ok, ⟨rfl, fun j d e => nomatch (show ([] : List (Option D))[j]? = some (some d) from e)⟩, ?_⟩
      rw [hm] at w
      exact w)
    have hx := passes_tk tk
    refine wpAny_call (codeAny_mono rc fun r s2 hq => ?_)
    cases r with
    | error e => exact hx pins σ H s1 e s2 I1 hq
    | ok fl =>
      cases fl with
      | ret u => exact I1.after hq
      | next => exact False.elim hq
      | brk => exact False.elim hq
      | cont => exact False.elim hq
  · rw [hbad] at w
    exact w.elim
end
theorem toldR_wp {K : PySem.W.Frag} {q : Par} {S : PV.Sem} {hl : List (Value × Str)} (ht : ∀ c r, S.told c = some r → ∀ (Q : VK) (H : Hp), Q (.str r) H → Wt K Q (q.cls c) H hl) {z : Z} {r : R D} {Q : VK} {E : XK} (w1 : wp K q z (toldR S r) (PQ K q Q) E) : wp K q z r (PQ K q Q) (fun cls _ H' => Wt K Q cls H' hl) := by
  cases r with
  | bad => exact w1.elim
  | ok d G' => exact w1
  | exc c G' =>
    intro z2 hG ok2 e2
    have w1 : wp K q z (match S.told c with
      | some r => R.ok (.str r) G'
      | none => .bad) (PQ K q Q) E := w1
    cases hc : S.told c with
    | none => rw [hc] at w1; exact w1.elim
    | some r =>
      rw [hc] at w1
      exact ht c r hc Q z2.H (w1 z2 hG ok2 e2 _ Has.str)
section
variable {P : Program} {w : World} {K : PySem.W.Frag} {mg : Str → Option Value} {base : Heap} {q : Par}
theorem fn_told {S S' S0 : PV.Sem} {L : Nat → Gs → R D} {gi k0 : Nat} {x a qual : Str} {params : Arguments} {scope : Scope} {dvs : List V} {kws : List (Str × V)} {f : Addr} {fd : FuncData} {N : List Str} {hl : List (Value × Str)} {p1 p2 p3 p8 : Pos} {h0 : ExceptHandler} {hds : List ExceptHandler}
    (F : FunD K x qual params [.Try [.Return (some (.Call (.Name a p1) [] [] p2)) p3] (h0 :: hds) [] [] p8] scope dvs kws f fd) (Sc : FnScope N [a] scope)
    (hS : ∀ ds G, S'.cal gi ds G = toldCal S L ds G) (ht : ∀ c r, S.told c = some r → ∀ (Q : VK) (H : Hp), Q (.str r) H → Wt K Q (q.cls c) H hl)
    (hL : ∀ (k : Nat), (∃ m : PV.E, (∀ G, L k G = evE S0 [] m G) ∧ CloS (q.lamD k) ∧ ∀ (A : Around) (outer : List PySem.Env) (s : Shared) (H : Hp) (E : XK) (f c : Addr), Room k0 (A.deeper (cloEnv (q.lamD k) s.heap.objs.size f c)) → Sd (cloCx P w K mg base A outer s H E (q.lamD k) f c) q S0 (q.lamD k).body m) ∨ ∀ G, L k G = .bad)
    (hh : ∀ (cdv : Value) (A : Around) (outer : List PySem.Env) (s : Shared) (H : Hp) (E : XK), HdsOk (cxOf (L2.CX P w) P w K mg base N qual scope f cdv A outer s H E) (h0 :: hds) (hl.map fun p => (p.1, sayT p.2)))
    (hN : N[0]? = some a) (hv : Vis scope a) (hf0 : ∀ v : V, (L2.start N [v])[0]? = some (some v)) (hd : (a == ("__debug__" : Str)) = false := by decide) (hcd : (a == ("__classdict__" : Str)) = false := by decide) :
    FnOk P w K mg base (L2.CX P w) (k0 + 2) f fd [a] (spC K q S' gi [a].length) := by
  refine F.ok Sc (fun vs H Q E h => ?_) (fun cdv A outer s H vs Q E hr h => ?_)
  · obtain ⟨_, _, _, _, _, h, _⟩ := h
    exact h
  · obtain ⟨z, ds, rfl, ok, hvs, hlen, hw⟩ := h
    rw [hS] at hw
    unfold toldCal at hw
    split at hw
    · rename_i k
      obtain ⟨v, rfl, h1⟩ := hvs.one
      let tbody : WX → TS := fun W D σ H => ∃ Eo : XK, (∀ cls d σ1 H1, Eo cls d H1 → W cls d σ1 H1) ∧ tAct K q L Eo 0 σ H D.rt
      refine ⟨_, pss_one (ps_try_many (tb := tbody) (Wout := fun _ _ _ _ => False) rfl rfl L2.takes0 (fun W pn xe tk _ => ⟨fun pins s1 σ1 H1 D1 I1 hw => ?_⟩) (hh cdv A outer s z.H E)), ?_⟩
      · obtain ⟨Eo, w1, w2⟩ := hw
        exact (pss_one (ps_ret (pos := p3) (pe_actv (i := 0) (E := Eo) (Takes.imp tk fun c d σ H h => w1 c d σ H h) hr hL hN hv hd hcd))).run pins s1 σ1 H1 D1 I1 w2
      · exact ⟨fun cls _ H1 => Wt K Q cls H1 hl, fun cls d σ1 H1 h => wMany_of h, z, k, v, rfl, ok, hf0 v, h1, toldR_wp ht hw⟩
    · exact hw.elim
end
end PV
namespace PV
open PySem L2 LamX PyProof.Rows RZ
section
variable {P : Program} {w : World} {K : PySem.W.Frag} {mg : Str → Option Value} {base : Heap} {q : Par}
/-- where a def's code stands -/
def CodeAt (K : PySem.W.Frag) (f : Addr) (qual : Str) (cdv : Value) : Prop := ∃ (oc : Value) (od : Option Addr) (osl : Array (Option Value)) (fd : FuncData), K.lookup f = some ⟨oc, od, .func fd, osl⟩ ∧ fd.code = cdv ∧ PySem.W.codeIn K cdv qual = true
theorem fn_stepC {S S' : PV.Sem} {g k : Nat} {x qual : Str} {params : Arguments} {body : List Stmt} {scope : Scope} {dvs : List V} {kws : List (Str × V)} {f : Addr} {fd : FuncData} {N ps : List Str} {fn : Fn} (F : FunD K x qual params body scope dvs kws f fd) (Sc : FnScope N ps scope)
    (hS : ∀ ds G, S'.cal g ds G = runFn S fn ds G) (hns : N.length = fn.ns) (hnp : ps.length = fn.np) (hle : fn.np ≤ fn.ns)
    (hbody : ∀ (cdv : Value) (A : Around) (outer : List PySem.Env) (s : Shared) (H : Hp) (E : XK), CodeAt K f qual cdv → Room k (A.deeper (envOfC qual scope s.heap.objs.size f cdv)) → SdB (cxOf (L2.CX P w) P w K mg base N qual scope f cdv A outer s H E) q S body fn.body) :
    FnOk P w K mg base (L2.CX P w) (k + 1) f fd ps (spC K q S' g ps.length) := by
  have hex := F.ex
  obtain ⟨oc, od, dV, kV, doc, pm, an, cdv, ct, osl, e, lk, hcd, _, _⟩ := hex
  have hc : CodeAt K f qual cdv := ⟨oc, od, osl, fd, lk, by rw [e], hcd⟩
  subst e
  refine fn_of lk hcd Sc (fun vs H Q E h => ?_) fun A outer s H vs Q E hr h => ?_
  · obtain ⟨_, _, _, _, _, h, _⟩ := h
    exact h
  · obtain ⟨z, ds, rfl, ok, hv, hlen, hw⟩ := h
    refine ⟨_, hbody cdv A outer s z.H E hc hr E (takes_of rfl rfl rfl rfl), z, _, rfl, ok, rels_start hv (by rw [← hv.len, hlen, hnp, hns]; exact hle), ?_⟩
    rw [hS] at hw
    unfold runFn at hw
    have hdl : ds.length = fn.np := by rw [← hv.len, hlen, hnp]
    rw [if_pos hdl] at hw
    rw [hns, hdl]
    cases hr : evB S fn.body (ds.map some ++ List.replicate (fn.ns - fn.np) none) z.G with
    | next ρ' G' =>
      rw [hr] at hw
      exact fun z' σ' hG ok' e' _ => hw z' hG ok' e' _ Has.non
    | ret d G' =>
      rw [hr] at hw
      exact fun z' v hG ok' e' hd => hw z' hG ok' e' v hd
    | exc c G' =>
      rw [hr] at hw
      exact hw
    | brk ρ' G' => rw [hr] at hw; exact hw.elim
    | cont ρ' G' => rw [hr] at hw; exact hw.elim
    | bad => rw [hr] at hw; exact hw.elim
theorem told_ar {S : PV.Sem} {L : Nat → Gs → R D} : ∀ (ds : List D) (G : Gs), ds.length ≠ 1 → toldCal S L ds G = .bad := fun ds G hn => by
  match ds, hn with
  | [], _ => rfl
  | [d], hn => exact absurd rfl hn
  | d :: _ :: _, _ => cases d <;> rfl
/-- a law's call: the script as the evaluator has it -/
theorem law_start {S : PV.Sem} {g : Nat} {H : Hp} {a : Addr} {ns : List Int} {Gz : Gs} (ht : Tabs q.T H) (hS : SqL K H a (ns.map V.int)) (h : S.cal g [.frz (ns.map .int)] [] = .ok (.bl true) Gz) {E : XK} : spC K q S g 1 [.ref a] H (fun v _ => v = .bl true) E := by
  have hi : ∀ ms : List Int, HasL K q ⟨[], [], [], H⟩ (ms.map .int) (ms.map V.int) := fun ms => by
    induction ms with
    | nil => exact HasL.nil
    | cons m ms ih => exact HasL.cons Has.int ih
  refine ⟨⟨[], [], [], H⟩, [.frz (ns.map .int)], rfl, ⟨rfl, fun n ds hn => ?_, fun n m ds es a h1 => ?_, fun b hb => ?_, ht⟩, HasL.cons ?_ HasL.nil, rfl, ?_⟩
  · exact nomatch (show ([] : Gs)[n]? = some (some ds) from hn)
  · exact nomatch (show ([] : Gs)[n]? = some (some ds) from h1)
  · exact nomatch (show b ∈ ([] : List Addr) from hb)
  · simp only [Has]
    refine ⟨a, _, rfl, ?_, hi ns⟩
    rcases hS with hS | hS
    · exact .inl ⟨hS, (fun hb => (nomatch (show a ∈ ([] : List Addr) from hb))), fun ⟨n, ds, h1, _⟩ => (nomatch (show ([] : Gs)[n]? = some (some ds) from h1))⟩
    · exact .inr hS
  · show wp K q _ (S.cal g [.frz (ns.map .int)] []) _ _
    rw [h]
    exact fun z' hG ok e v hv => hv.of_bl
end
end PV
end
/-! ## K01a -/
section
set_option Elab.async false
set_option linter.all false
set_option maxRecDepth 100000
set_option maxHeartbeats 4000000
namespace LK
open PySem L2 LamX PyProof.Rows RZ PV
/-! the text by places -/
def top (i : Nat) : Stmt := PySem.Challenge.pw_stepwright_k01_parts_and_rows.main.body.getD i (.Pass ⟨0, 0, 0, 0⟩)
abbrev s_shared : Stmt := top 15
abbrev s_part : Stmt := top 16
abbrev s_plus : Stmt := top 17
abbrev s_minus : Stmt := top 18
abbrev s_times : Stmt := top 19
abbrev s_over : Stmt := top 20
abbrev s_is_less : Stmt := top 21
abbrev s_size_of : Stmt := top 22
abbrev s_total : Stmt := top 23
abbrev s_product : Stmt := top 24
abbrev s_raised : Stmt := top 25
abbrev s_told : Stmt := top 26
abbrev s_read : Stmt := top 27
abbrev s_is_number : Stmt := top 28
abbrev s_scaled : Stmt := top 29
abbrev s_rows_added : Stmt := top 30
abbrev s_dot : Stmt := top 31
abbrev s_check_lengths : Stmt := top 32
abbrev s_law_dice : Stmt := top 34
abbrev s_law_roll : Stmt := top 35
abbrev s_law_rounds : Stmt := top 36
abbrev s_law_told : Stmt := top 37
abbrev s_law : Stmt := top 38
/-! the program as the evaluator has it -/
def m_shared : Fn := ⟨2, 2, [.ret (.prim .gcd [.var 0, .var 1])]⟩
def m_part : Fn := ⟨2, 3, [.ite (.cmp .eq (.var 1) (.con (.int 0))) [.raise 0 (.con (.str "a part by nought"))] [],
    .set (.nm 2) (.call 0 [.var 0, .var 1]),
    .ite (.cmp .lt (.var 1) (.con (.int 0))) [.set (.nm 2) (.neg (.var 2))] [],
    .ret (.tup [.bin .fdiv (.var 0) (.var 2), .bin .fdiv (.var 1) (.var 2)])]⟩
def m_plus : Fn := ⟨2, 2, [.ret (.call 1 [.bin .add (.bin .mul (.ix (.var 0) (.con (.int 0))) (.ix (.var 1) (.con (.int 1)))) (.bin .mul (.ix (.var 1) (.con (.int 0))) (.ix (.var 0) (.con (.int 1)))), .bin .mul (.ix (.var 0) (.con (.int 1))) (.ix (.var 1) (.con (.int 1)))])]⟩
def m_minus : Fn := ⟨2, 2, [.ret (.call 1 [.bin .sub (.bin .mul (.ix (.var 0) (.con (.int 0))) (.ix (.var 1) (.con (.int 1)))) (.bin .mul (.ix (.var 1) (.con (.int 0))) (.ix (.var 0) (.con (.int 1)))), .bin .mul (.ix (.var 0) (.con (.int 1))) (.ix (.var 1) (.con (.int 1)))])]⟩
def m_times : Fn := ⟨2, 2, [.ret (.call 1 [.bin .mul (.ix (.var 0) (.con (.int 0))) (.ix (.var 1) (.con (.int 0))), .bin .mul (.ix (.var 0) (.con (.int 1))) (.ix (.var 1) (.con (.int 1)))])]⟩
def m_over : Fn := ⟨2, 2, [.ret (.call 1 [.bin .mul (.ix (.var 0) (.con (.int 0))) (.ix (.var 1) (.con (.int 1))), .bin .mul (.ix (.var 0) (.con (.int 1))) (.ix (.var 1) (.con (.int 0)))])]⟩
def m_is_less : Fn := ⟨2, 2, [.ret (.cmp .lt (.bin .mul (.ix (.var 0) (.con (.int 0))) (.ix (.var 1) (.con (.int 1)))) (.bin .mul (.ix (.var 1) (.con (.int 0))) (.ix (.var 0) (.con (.int 1)))))]⟩
def m_size_of : Fn := ⟨1, 1, [.ret (.tup [.prim .abs [.ix (.var 0) (.con (.int 0))], .ix (.var 0) (.con (.int 1))])]⟩
def m_total : Fn := ⟨1, 3, [.set (.nm 1) (.tup [.con (.int 0), .con (.int 1)]),
    .for_ (.nm 2) (.seq (.var 0)) [.set (.nm 1) (.call 2 [.var 1, .var 2])],
    .ret (.var 1)]⟩
def m_product : Fn := ⟨1, 3, [.set (.nm 1) (.tup [.con (.int 1), .con (.int 1)]),
    .for_ (.nm 2) (.seq (.var 0)) [.set (.nm 1) (.call 4 [.var 1, .var 2])],
    .ret (.var 1)]⟩
def m_raised : Fn := ⟨2, 2, [.ite (.cmp .lt (.var 1) (.con (.int 0))) [.raise 0 (.fmt [.con (.str "a part can't be raised to "), .fv (.var 1)])] [],
    .ret (.call 9 [.bin .mul (.lst [.var 0]) (.var 1)])]⟩
def m_told : Fn := ⟨1, 1, [.ite (.cmp .eq (.ix (.var 0) (.con (.int 1))) (.con (.int 1))) [.ret (.prim .str [.ix (.var 0) (.con (.int 0))])] [],
    .ret (.fmt [.fv (.ix (.var 0) (.con (.int 0))), .con (.str "/"), .fv (.ix (.var 0) (.con (.int 1)))])]⟩
def m_read : Fn := ⟨1, 4, [.set (.tp [1, 2, 3]) (.meth .partition (.var 0) [.con (.str "/")]),
    .ite (.not (.call 13 [.meth .removeprefix (.var 1) [.con (.str "-")]])) [.raise 0 (.fmt [.con (.str "no part: "), .fv (.var 0)])] [],
    .ite (.cmp .eq (.var 2) (.con (.str ""))) [.ret (.call 1 [.prim .int [.var 1], .con (.int 1)])] [],
    .ite (.not (.call 13 [.var 3])) [.raise 0 (.fmt [.con (.str "no part: "), .fv (.var 0)])] [],
    .ret (.call 1 [.prim .int [.var 1], .prim .int [.var 3]])]⟩
def m_is_number : Fn := ⟨1, 1, [.ret (.and (.chain .lt .le (.con (.int 0)) (.prim .len [.var 0]) (.con (.int 12))) (.cmp .eq (.meth .strip1 (.var 0) [.con (.str "0123456789")]) (.con (.str ""))))]⟩
def m_scaled : Fn := ⟨2, 3, [.ret (.prim .tuple [.comp [2] (.call 4 [.var 2, .var 1]) (.nm 2) (.seq (.var 0)) []])]⟩
def m_rows_added : Fn := ⟨2, 4, [.ex (.call 17 [.var 0, .var 1]),
    .ret (.prim .tuple [.comp [2, 3] (.call 2 [.var 2, .var 3]) (.tp [2, 3]) (.zip2 (.var 0) (.var 1)) []])]⟩
def m_dot : Fn := ⟨2, 4, [.ex (.call 17 [.var 0, .var 1]),
    .ret (.call 8 [.comp [2, 3] (.call 4 [.var 2, .var 3]) (.tp [2, 3]) (.zip2 (.var 0) (.var 1)) []])]⟩
def m_check_lengths : Fn := ⟨2, 2, [.ite (.cmp .ne (.prim .len [.var 0]) (.prim .len [.var 1])) [.raise 0 (.fmt [.con (.str "rows of "), .fv (.prim .len [.var 0]), .con (.str " and "), .fv (.prim .len [.var 1]), .con (.str " parts")])] []]⟩
def m_law_dice : Fn := ⟨1, 1, [.ite (.chain .lt .lt (.bin .sub (.con (.int 0)) (.con (.int 10))) (.var 0) (.con (.int 10))) [.ret (.lstC [.prim .abs [.var 0], .con (.int 0), .con (.int 2)])] [],
    .ret (.lstC [.var 0, .bin .add (.con (.int 1)) (.bin .mod (.prim .int [.var 0]) (.con (.int 1009))), .prim .int [.cmp .ge (.var 0) (.bin .pow (.con (.int 10)) (.con (.int 18)))]])]⟩
def m_law_roll : Fn := ⟨2, 3, [.ite (.or (.cmp .eq (.ix (.var 0) (.con (.int 2))) (.con (.int 2))) (.and (.cmp .eq (.ix (.var 0) (.con (.int 2))) (.con (.int 1))) (.cmp .gt (.ix (.var 0) (.con (.int 0))) (.con (.int 0))))) [.set (.nm 2) (.bin .mod (.prim .int [.ix (.var 0) (.con (.int 0))]) (.var 1)),
    .setix (.var 0) (.con (.int 0)) (.bin .fdiv (.ix (.var 0) (.con (.int 0))) (.var 1)),
    .ret (.var 2)] [],
    .setix (.var 0) (.con (.int 2)) (.con (.int 0)),
    .setix (.var 0) (.con (.int 0)) (.bin .mod (.prim .int [.bin .add (.bin .add (.bin .mul (.ix (.var 0) (.con (.int 0))) (.con (.int 48271))) (.bin .mul (.ix (.var 0) (.con (.int 1))) (.con (.int 69621)))) (.con (.int 11))]) (.con (.int 2147483647))),
    .setix (.var 0) (.con (.int 1)) (.bin .add (.ix (.var 0) (.con (.int 1))) (.con (.int 1))),
    .ret (.bin .mod (.prim .int [.bin .add (.bin .fdiv (.ix (.var 0) (.con (.int 0))) (.con (.int 7))) (.ix (.var 0) (.con (.int 0)))]) (.var 1))]⟩
def m_law_rounds : Fn := ⟨2, 4, [.set (.nm 2) (.sl (.var 0) none (some (.var 1))),
    .ite (.cmp .eq (.var 2) (.lst [])) [.set (.nm 2) (.lst [.con (.int 0)])] [],
    .ret (.comp [3] (.call 18 [.var 3]) (.nm 3) (.seq (.var 2)) [])]⟩
def m_law_told : Fn := ⟨1, 1, []⟩
def m_law : Fn := ⟨1, 24, [.for_ (.nm 1) (.seq (.call 20 [.var 0, .con (.int 1)])) [.set (.tp [2, 3, 4, 5]) (.tup [.bin .sub (.call 19 [.var 1, .con (.int 19)]) (.con (.int 9)), .bin .add (.con (.int 1)) (.call 19 [.var 1, .con (.int 9)]), .bin .sub (.call 19 [.var 1, .con (.int 19)]) (.con (.int 9)), .bin .add (.con (.int 1)) (.call 19 [.var 1, .con (.int 9)])]),
    .set (.tp [6, 7]) (.tup [.call 1 [.var 2, .var 3], .call 1 [.var 4, .var 5]]),
    .ite (.or (.cmp .ne (.bin .mul (.ix (.var 6) (.con (.int 0))) (.var 3)) (.bin .mul (.ix (.var 6) (.con (.int 1))) (.var 2))) (.or (.cmp .lt (.ix (.var 6) (.con (.int 1))) (.con (.int 1))) (.or (.cmp .ne (.comp [20] (.var 20) (.nm 20) (.rng2 (.con (.int 2)) (.con (.int 10))) [.and (.cmp .eq (.bin .mod (.ix (.var 6) (.con (.int 0))) (.var 20)) (.con (.int 0))) (.cmp .eq (.bin .mod (.ix (.var 6) (.con (.int 1))) (.var 20)) (.con (.int 0)))]) (.lst [])) (.cmp .ne (.call 1 [.bin .sub (.con (.int 0)) (.var 2), .bin .sub (.con (.int 0)) (.var 3)]) (.var 6))))) [.ret (.con (.bl false))] [],
    .set (.nm 8) (.ite (.or (.cmp .ne (.var 2) (.con (.int 0))) (.cmp .ne (.var 4) (.con (.int 0)))) (.prim .max1 [.comp [20] (.var 20) (.nm 20) (.rng2 (.con (.int 1)) (.con (.int 19))) [.and (.cmp .eq (.bin .mod (.var 2) (.var 20)) (.con (.int 0))) (.cmp .eq (.bin .mod (.var 4) (.var 20)) (.con (.int 0)))]]) (.con (.int 0))),
    .ite (.or (.cmp .ne (.call 0 [.var 2, .var 4]) (.var 8)) (.or (.cmp .ne (.call 6 [.var 6, .var 7]) (.cmp .lt (.bin .mul (.var 2) (.var 5)) (.bin .mul (.var 4) (.var 3)))) (.cmp .ne (.call 7 [.var 6]) (.call 1 [.prim .abs [.var 2], .var 3])))) [.ret (.con (.bl false))] [],
    .ite (.or (.cmp .ne (.call 2 [.var 6, .var 7]) (.call 1 [.bin .add (.bin .mul (.var 2) (.var 5)) (.bin .mul (.var 4) (.var 3)), .bin .mul (.var 3) (.var 5)])) (.or (.cmp .ne (.call 3 [.var 6, .var 7]) (.call 1 [.bin .sub (.bin .mul (.var 2) (.var 5)) (.bin .mul (.var 4) (.var 3)), .bin .mul (.var 3) (.var 5)])) (.cmp .ne (.call 4 [.var 6, .var 7]) (.call 1 [.bin .mul (.var 2) (.var 4), .bin .mul (.var 3) (.var 5)])))) [.ret (.con (.bl false))] [],
    .ite (.cmp .ne (.told (.call 5 [.var 6, .var 7])) (.ite (.cmp .ne (.var 4) (.con (.int 0))) (.call 1 [.bin .mul (.var 2) (.var 5), .bin .mul (.var 3) (.var 4)]) (.con (.str "part")))) [.ret (.con (.bl false))] [],
    .set (.nm 9) (.comp [20] (.call 1 [.bin .sub (.call 19 [.var 1, .con (.int 9)]) (.con (.int 4)), .bin .add (.con (.int 1)) (.call 19 [.var 1, .con (.int 4)])]) (.nm 20) (.rng1 (.call 19 [.var 1, .con (.int 5)])) []),
    .set (.tp [10, 11]) (.tup [.tup [.con (.int 0), .con (.int 1)], .tup [.con (.int 1), .con (.int 1)]]),
    .for_ (.nm 12) (.seq (.var 9)) [.set (.tp [10, 11]) (.tup [.call 1 [.bin .add (.bin .mul (.ix (.var 10) (.con (.int 0))) (.ix (.var 12) (.con (.int 1)))) (.bin .mul (.ix (.var 12) (.con (.int 0))) (.ix (.var 10) (.con (.int 1)))), .bin .mul (.ix (.var 10) (.con (.int 1))) (.ix (.var 12) (.con (.int 1)))], .call 1 [.bin .mul (.ix (.var 11) (.con (.int 0))) (.ix (.var 12) (.con (.int 0))), .bin .mul (.ix (.var 11) (.con (.int 1))) (.ix (.var 12) (.con (.int 1)))]])],
    .ite (.or (.cmp .ne (.call 8 [.var 9]) (.var 10)) (.or (.cmp .ne (.call 9 [.var 9]) (.var 11)) (.cmp .ne (.prim .list [.call 14 [.var 9, .var 6]]) (.comp [12] (.call 4 [.var 12, .var 6]) (.nm 12) (.seq (.var 9)) [])))) [.ret (.con (.bl false))] [],
    .set (.nm 13) (.comp [12] (.call 1 [.call 19 [.var 1, .con (.int 9)], .con (.int 3)]) (.nm 12) (.seq (.var 9)) []),
    .ite (.or (.cmp .ne (.prim .list [.call 15 [.var 9, .var 13]]) (.comp [20] (.call 2 [.ix (.var 9) (.var 20), .ix (.var 13) (.var 20)]) (.nm 20) (.rng1 (.prim .len [.var 9])) [])) (.cmp .ne (.call 16 [.var 9, .var 13]) (.call 8 [.comp [20] (.call 4 [.ix (.var 9) (.var 20), .ix (.var 13) (.var 20)]) (.nm 20) (.rng1 (.prim .len [.var 9])) []]))) [.ret (.con (.bl false))] [],
    .set (.nm 14) (.call 19 [.var 1, .con (.int 5)]),
    .ite (.or (.cmp .ne (.call 10 [.var 6, .var 14]) (.call 9 [.bin .mul (.lst [.var 6]) (.var 14)])) (.or (.cmp .ne (.call 12 [.call 11 [.var 6]]) (.var 6)) (.cmp .ne (.call 11 [.var 6]) (.bin .add (.prim .str [.ix (.var 6) (.con (.int 0))]) (.ite (.cmp .eq (.ix (.var 6) (.con (.int 1))) (.con (.int 1))) (.con (.str "")) (.bin .add (.con (.str "/")) (.prim .str [.ix (.var 6) (.con (.int 1))]))))))) [.ret (.con (.bl false))] [],
    .set (.nm 15) (.meth .join (.con (.str "")) [.comp [20] (.ix (.con (.str "12-/ ")) (.call 19 [.var 1, .con (.int 5)])) (.nm 20) (.rng1 (.call 19 [.var 1, .con (.int 5)])) []]),
    .set (.tp [16, 17]) (.ite (.cmp .lt (.meth .count (.var 15) [.con (.str "/")]) (.con (.int 2))) (.sl (.bin .add (.meth .split1 (.var 15) [.con (.str "/")]) (.lst [.con .non])) none (some (.con (.int 2)))) (.tup [.con (.str ""), .con .non])),
    .set (.nm 18) (.cmp .eq (.comp [21] (.var 21) (.nm 21) (.seq (.bin .add (.lst [.ite (.cmp .eq (.sl (.var 16) none (some (.con (.int 1)))) (.con (.str "-"))) (.sl (.var 16) (some (.con (.int 1))) none) (.var 16)]) (.ite (.cmp .notN (.var 17) (.con .non)) (.lst [.var 17]) (.lst [])))) [.or (.cmp .eq (.var 21) (.con (.str ""))) (.cmp .ne (.comp [23] (.var 23) (.nm 23) (.seq (.var 21)) [.cmp .notIn (.var 23) (.con (.str "12"))]) (.lst []))]) (.lst [])),
    .ite (.or (.cmp .ne (.told (.call 12 [.var 15])) (.ite (.var 18) (.call 1 [.prim .int [.var 16], .ite (.cmp .isN (.var 17) (.con .non)) (.con (.int 1)) (.prim .int [.var 17])]) (.con (.str "part")))) (.cmp .ne (.call 13 [.var 15]) (.and (.cmp .ne (.var 15) (.con (.str ""))) (.cmp .eq (.comp [23] (.var 23) (.nm 23) (.seq (.var 15)) [.cmp .notIn (.var 23) (.con (.str "12"))]) (.lst []))))) [.ret (.con (.bl false))] []],
    .set (.nm 19) (.lst [.tup [.lam 0, .con (.str "part")], .tup [.lam 1, .con (.str "part")], .tup [.lam 2, .con (.str "part")], .tup [.lam 3, .con (.str "part")], .tup [.lam 4, .con (.str "part")], .tup [.lam 5, .con (.str "part")], .tup [.lam 6, .con (.str "part")], .tup [.lam 7, .con (.str "part")]]),
    .ret (.and (.cmp .eq (.comp [22] (.var 22) (.nm 22) (.seq (.var 19)) [.cmp .ne (.call 21 [.ix (.var 22) (.con (.int 0))]) (.ix (.var 22) (.con (.int 1)))]) (.lst [])) (.cmp .eq (.call 10 [.tup [.con (.int 0), .con (.int 1)], .con (.int 0)]) (.tup [.con (.int 1), .con (.int 1)])))]⟩
def l_0 : PV.E := .call 1 [.con (.int 1), .con (.int 0)]
def l_1 : PV.E := .call 5 [.tup [.con (.int 1), .con (.int 1)], .tup [.con (.int 0), .con (.int 1)]]
def l_2 : PV.E := .call 10 [.tup [.con (.int 1), .con (.int 1)], .bin .sub (.con (.int 0)) (.con (.int 1))]
def l_3 : PV.E := .call 15 [.lst [.tup [.con (.int 1), .con (.int 1)]], .lst []]
def l_4 : PV.E := .call 16 [.lst [], .lst [.tup [.con (.int 1), .con (.int 1)]]]
def l_5 : PV.E := .call 12 [.con (.str "1/0")]
def l_6 : PV.E := .call 12 [.con (.str "1/-2")]
def l_7 : PV.E := .call 12 [.con (.str "1234567890123")]
def tolds : Nat → Option Str
  | 0 => some "part"
  | _ => none
def prog : Prog := { fns := [m_shared, m_part, m_plus, m_minus, m_times, m_over, m_is_less, m_size_of, m_total, m_product, m_raised, m_told, m_read, m_is_number, m_scaled, m_rows_added, m_dot, m_check_lengths, m_law_dice, m_law_roll, m_law_rounds, m_law_told, m_law], lams := [l_0, l_1, l_2, l_3, l_4, l_5, l_6, l_7], told := tolds, toldI := 21 }
def assignVal : Stmt → Expr
  | .Assign _ v _ => v
  | _ => .Constant .none 0 ⟨0, 0, 0, 0⟩
def elAt (e : Expr) (k : Nat) : Expr := match e with
  | .List es _ => es.getD k (.Constant .none 0 ⟨0, 0, 0, 0⟩)
  | .Tuple es _ _ => es.getD k (.Constant .none 0 ⟨0, 0, 0, 0⟩)
  | _ => .Constant .none 0 ⟨0, 0, 0, 0⟩
def lamOf (qual : Str) (e : Expr) : LamD := match e with
  | .Lambda a b sc _ => ⟨qual, a, b, sc⟩
  | _ => ⟨qual, { posonlyargs := [], args := [], vararg := none, kwonlyargs := [], kw_defaults := [], kwarg := none, defaults := [] }, .Constant .none 0 ⟨0, 0, 0, 0⟩, { kind := .function, names := [], isGenerator := false, isCoroutine := false }⟩
def lamDs : Nat → LamD
  | 0 => lamOf "law.<locals>.<lambda>" (elAt (elAt (assignVal ((defBody s_law).getD 1 (.Pass ⟨0, 0, 0, 0⟩))) 0) 0)
  | 1 => lamOf "law.<locals>.<lambda>" (elAt (elAt (assignVal ((defBody s_law).getD 1 (.Pass ⟨0, 0, 0, 0⟩))) 1) 0)
  | 2 => lamOf "law.<locals>.<lambda>" (elAt (elAt (assignVal ((defBody s_law).getD 1 (.Pass ⟨0, 0, 0, 0⟩))) 2) 0)
  | 3 => lamOf "law.<locals>.<lambda>" (elAt (elAt (assignVal ((defBody s_law).getD 1 (.Pass ⟨0, 0, 0, 0⟩))) 3) 0)
  | 4 => lamOf "law.<locals>.<lambda>" (elAt (elAt (assignVal ((defBody s_law).getD 1 (.Pass ⟨0, 0, 0, 0⟩))) 4) 0)
  | 5 => lamOf "law.<locals>.<lambda>" (elAt (elAt (assignVal ((defBody s_law).getD 1 (.Pass ⟨0, 0, 0, 0⟩))) 5) 0)
  | 6 => lamOf "law.<locals>.<lambda>" (elAt (elAt (assignVal ((defBody s_law).getD 1 (.Pass ⟨0, 0, 0, 0⟩))) 6) 0)
  | 7 => lamOf "law.<locals>.<lambda>" (elAt (elAt (assignVal ((defBody s_law).getD 1 (.Pass ⟨0, 0, 0, 0⟩))) 7) 0)
  | _ => lamOf "" (.Constant .none 0 ⟨0, 0, 0, 0⟩)
/-! scopes -/
abbrev N_shared : List Str := ["one", "other"]
theorem sc_shared : FnScope N_shared ["one", "other"] (defScope s_shared) := ⟨rfl, rfl, rfl, by decide +kernel, rfl, by decide +kernel, by decide +kernel⟩
abbrev N_part : List Str := ["top", "low", "by"]
theorem sc_part : FnScope N_part ["top", "low"] (defScope s_part) := ⟨rfl, rfl, rfl, by decide +kernel, rfl, by decide +kernel, by decide +kernel⟩
abbrev N_plus : List Str := ["one", "other"]
theorem sc_plus : FnScope N_plus ["one", "other"] (defScope s_plus) := ⟨rfl, rfl, rfl, by decide +kernel, rfl, by decide +kernel, by decide +kernel⟩
abbrev N_minus : List Str := ["one", "other"]
theorem sc_minus : FnScope N_minus ["one", "other"] (defScope s_minus) := ⟨rfl, rfl, rfl, by decide +kernel, rfl, by decide +kernel, by decide +kernel⟩
abbrev N_times : List Str := ["one", "other"]
theorem sc_times : FnScope N_times ["one", "other"] (defScope s_times) := ⟨rfl, rfl, rfl, by decide +kernel, rfl, by decide +kernel, by decide +kernel⟩
abbrev N_over : List Str := ["one", "other"]
theorem sc_over : FnScope N_over ["one", "other"] (defScope s_over) := ⟨rfl, rfl, rfl, by decide +kernel, rfl, by decide +kernel, by decide +kernel⟩
abbrev N_is_less : List Str := ["one", "other"]
theorem sc_is_less : FnScope N_is_less ["one", "other"] (defScope s_is_less) := ⟨rfl, rfl, rfl, by decide +kernel, rfl, by decide +kernel, by decide +kernel⟩
abbrev N_size_of : List Str := ["one"]
theorem sc_size_of : FnScope N_size_of ["one"] (defScope s_size_of) := ⟨rfl, rfl, rfl, by decide +kernel, rfl, by decide +kernel, by decide +kernel⟩
abbrev N_total : List Str := ["parts", "found", "one"]
theorem sc_total : FnScope N_total ["parts"] (defScope s_total) := ⟨rfl, rfl, rfl, by decide +kernel, rfl, by decide +kernel, by decide +kernel⟩
abbrev N_product : List Str := ["parts", "found", "one"]
theorem sc_product : FnScope N_product ["parts"] (defScope s_product) := ⟨rfl, rfl, rfl, by decide +kernel, rfl, by decide +kernel, by decide +kernel⟩
abbrev N_raised : List Str := ["one", "count"]
theorem sc_raised : FnScope N_raised ["one", "count"] (defScope s_raised) := ⟨rfl, rfl, rfl, by decide +kernel, rfl, by decide +kernel, by decide +kernel⟩
abbrev N_told : List Str := ["one"]
theorem sc_told : FnScope N_told ["one"] (defScope s_told) := ⟨rfl, rfl, rfl, by decide +kernel, rfl, by decide +kernel, by decide +kernel⟩
abbrev N_read : List Str := ["text", "top", "stroke", "low"]
theorem sc_read : FnScope N_read ["text"] (defScope s_read) := ⟨rfl, rfl, rfl, by decide +kernel, rfl, by decide +kernel, by decide +kernel⟩
abbrev N_is_number : List Str := ["text"]
theorem sc_is_number : FnScope N_is_number ["text"] (defScope s_is_number) := ⟨rfl, rfl, rfl, by decide +kernel, rfl, by decide +kernel, by decide +kernel⟩
abbrev N_scaled : List Str := ["row", "by", "one"]
theorem sc_scaled : FnScope N_scaled ["row", "by"] (defScope s_scaled) := ⟨rfl, rfl, rfl, by decide +kernel, rfl, by decide +kernel, by decide +kernel⟩
abbrev N_rows_added : List Str := ["one", "other", "mine", "its"]
theorem sc_rows_added : FnScope N_rows_added ["one", "other"] (defScope s_rows_added) := ⟨rfl, rfl, rfl, by decide +kernel, rfl, by decide +kernel, by decide +kernel⟩
abbrev N_dot : List Str := ["one", "other", "mine", "its"]
theorem sc_dot : FnScope N_dot ["one", "other"] (defScope s_dot) := ⟨rfl, rfl, rfl, by decide +kernel, rfl, by decide +kernel, by decide +kernel⟩
abbrev N_check_lengths : List Str := ["one", "other"]
theorem sc_check_lengths : FnScope N_check_lengths ["one", "other"] (defScope s_check_lengths) := ⟨rfl, rfl, rfl, by decide +kernel, rfl, by decide +kernel, by decide +kernel⟩
abbrev N_law_dice : List Str := ["cell"]
theorem sc_law_dice : FnScope N_law_dice ["cell"] (defScope s_law_dice) := ⟨rfl, rfl, rfl, by decide +kernel, rfl, by decide +kernel, by decide +kernel⟩
abbrev N_law_roll : List Str := ["dice", "many", "found"]
theorem sc_law_roll : FnScope N_law_roll ["dice", "many"] (defScope s_law_roll) := ⟨rfl, rfl, rfl, by decide +kernel, rfl, by decide +kernel, by decide +kernel⟩
abbrev N_law_rounds : List Str := ["script", "most", "cells", "cell"]
theorem sc_law_rounds : FnScope N_law_rounds ["script", "most"] (defScope s_law_rounds) := ⟨rfl, rfl, rfl, by decide +kernel, rfl, by decide +kernel, by decide +kernel⟩
abbrev N_law_told : List Str := ["what"]
theorem sc_law_told : FnScope N_law_told ["what"] (defScope s_law_told) := ⟨rfl, rfl, rfl, by decide +kernel, rfl, by decide +kernel, by decide +kernel⟩
abbrev N_law : List Str := ["script", "dice", "a", "b", "c", "d", "one", "other", "most", "rows", "sum_now", "all_now", "each", "more", "count", "word", "top", "low", "good", "wrong", "k", "bit", "pair", "sign"]
theorem sc_law : FnScope N_law ["script"] (defScope s_law) := ⟨rfl, rfl, rfl, by decide +kernel, rfl, by decide +kernel, by decide +kernel⟩
/-! what the top has written -/
structure ExcAt (K : PySem.W.Frag) (mg : Str → Option Value) (q : Par) (x : Str) (c : Nat) (C : Addr) : Prop where
  xq : PySem.W.excIn K C [.type "ValueError", .type "Exception", .type "BaseException", .type "object"] "ValueError.__new__" = true
  xg : mg x = some (.ref C)
  xk : PySem.W.keepIn K (.ref C) = true
  r1 : PySem.W.subIn K (.ref C) (.type "BaseException") = some true
  r2 : PySem.W.typeIn K (.ref C) = some (.type "type")
  xc : q.cls c = .ref C
/-- the facts that the defs lean on -/
structure Txt (K : PySem.W.Frag) (mg : Str → Option Value) (q : Par) : Prop where
  b_abs : mg "abs" = none
  b_int : mg "int" = none
  b_len : mg "len" = none
  b_list : mg "list" = none
  b_max : mg "max" = none
  b_range : mg "range" = none
  b_str : mg "str" = none
  b_tuple : mg "tuple" = none
  b_zip : mg "zip" = none
  g_gcd : mg "gcd" = some (.builtin "math.gcd")
  k_FIGURES : ∃ u v, mg "FIGURES" = some u ∧ RelV v u ∧ ∀ z : Z, Has K q z (.str "0123456789") v
  k_MOST_FIGURES : ∃ u v, mg "MOST_FIGURES" = some u ∧ RelV v u ∧ ∀ z : Z, Has K q z (.int 12) v
  x_BadPart : ∃ C, ExcAt K mg q "BadPart" 0 C
  told : ∃ hl, ToldAt K mg q "_law_told" "what" ["what"] hl ∧ ∀ c r, tolds c = some r → ∀ (Q : VK) (H : Hp), Q (.str r) H → Wt K Q (q.cls c) H hl
structure Fns (P : Program) (w : World) (K : PySem.W.Frag) (mg : Str → Option Value) (base : Heap) (q : Par) (S : PV.Sem) (k : Nat) : Prop where
  f_shared : FnAt P w K mg base q S k 0 "shared" []
  f_part : FnAt P w K mg base q S k 1 "part" []
  d_part : FnAt P w K mg base q S k 1 "part" [.int 1]
  f_plus : FnAt P w K mg base q S k 2 "plus" []
  f_minus : FnAt P w K mg base q S k 3 "minus" []
  f_times : FnAt P w K mg base q S k 4 "times" []
  f_over : FnAt P w K mg base q S k 5 "over" []
  f_is_less : FnAt P w K mg base q S k 6 "is_less" []
  f_size_of : FnAt P w K mg base q S k 7 "size_of" []
  f_total : FnAt P w K mg base q S k 8 "total" []
  f_product : FnAt P w K mg base q S k 9 "product" []
  f_raised : FnAt P w K mg base q S k 10 "raised" []
  f_told : FnAt P w K mg base q S k 11 "told" []
  f_read : FnAt P w K mg base q S k 12 "read" []
  f_is_number : FnAt P w K mg base q S k 13 "is_number" []
  f_scaled : FnAt P w K mg base q S k 14 "scaled" []
  f_rows_added : FnAt P w K mg base q S k 15 "rows_added" []
  f_dot : FnAt P w K mg base q S k 16 "dot" []
  f_check_lengths : FnAt P w K mg base q S k 17 "check_lengths" []
  f_law_dice : FnAt P w K mg base q S k 18 "_law_dice" []
  f_law_roll : FnAt P w K mg base q S k 19 "_law_roll" []
  f_law_rounds : FnAt P w K mg base q S k 20 "_law_rounds" []
  f_law_told : FnAt P w K mg base q S k 21 "_law_told" []
  f_law : FnAt P w K mg base q S k 22 "law" []
/-! the bodies -/
section
variable {P : Program} {w : World} {K : PySem.W.Frag} {mg : Str → Option Value} {base : Heap} {q : Par} {S : PV.Sem} {k : Nat} {f : Addr} {cdv : Value} {A : Around} {outer : List PySem.Env} {s : Shared} {H : Hp} {E : XK}
set_option maxRecDepth 200000 in
theorem b_shared (T : Txt K mg q) (Fs : Fns P w K mg base q S k) (hr : Room (k + 2) (A.deeper (envOfC "shared" (defScope s_shared) s.heap.objs.size f cdv))) :
    SdB (cxOf (L2.CX P w) P w K mg base N_shared "shared" (defScope s_shared) f cdv A outer s H E) q S (defBody s_shared) m_shared.body :=
  (sb_cons (ss_ret (sd_callF pr_gcd rfl T.g_gcd (sda_cons (sd_var 0) (sda_cons (sd_var 1) sda_nil))))
    sb_nil)
set_option maxRecDepth 200000 in
theorem b_part (T : Txt K mg q) (Fs : Fns P w K mg base q S k) (hr : Room (k + 2) (A.deeper (envOfC "part" (defScope s_part) s.heap.objs.size f cdv))) :
    SdB (cxOf (L2.CX P w) P w K mg base N_part "part" (defScope s_part) f cdv A outer s H E) q S (defBody s_part) m_part.body := by
  obtain ⟨_, X_BadPart⟩ := T.x_BadPart
  exact (sb_cons (ss_if (td_cmp (od_eq hr.units) (sd_var 1) sd_int (nomark _)) (sb_cons (ss_raise rfl PySem.F.excBase_ValueError X_BadPart.xq X_BadPart.xg X_BadPart.xk (raises_own X_BadPart.r1 X_BadPart.r2) rfl X_BadPart.xc sd_str)
    sb_nil) sb_nil)
    (sb_cons (ss_set (sdg_name 2 sc_part.nd) (sd_call Fs.f_shared (hr.mono (by omega)) rfl (sda_cons (sd_var 0) (sda_cons (sd_var 1) sda_nil))))
    (sb_cons (ss_if (td_cmp od_lt (sd_var 1) sd_int (nomark _)) (sb_cons (ss_set (sdg_name 2 sc_part.nd) (sd_neg (sd_var 2)))
    sb_nil) sb_nil)
    (sb_cons (ss_ret (sd_tup (sda_cons (sd_bin od_fdiv (sd_var 0) (sd_var 2)) (sda_cons (sd_bin od_fdiv (sd_var 1) (sd_var 2)) sda_nil))))
    sb_nil))))
set_option maxRecDepth 200000 in
theorem b_plus (T : Txt K mg q) (Fs : Fns P w K mg base q S k) (hr : Room (k + 2) (A.deeper (envOfC "plus" (defScope s_plus) s.heap.objs.size f cdv))) :
    SdB (cxOf (L2.CX P w) P w K mg base N_plus "plus" (defScope s_plus) f cdv A outer s H E) q S (defBody s_plus) m_plus.body :=
  (sb_cons (ss_ret (sd_call Fs.f_part (hr.mono (by omega)) rfl (sda_cons (sd_bin od_add (sd_bin od_mul (sd_ix (sd_var 0) sd_int) (sd_ix (sd_var 1) sd_int)) (sd_bin od_mul (sd_ix (sd_var 1) sd_int) (sd_ix (sd_var 0) sd_int))) (sda_cons (sd_bin od_mul (sd_ix (sd_var 0) sd_int) (sd_ix (sd_var 1) sd_int)) sda_nil))))
    sb_nil)
set_option maxRecDepth 200000 in
theorem b_minus (T : Txt K mg q) (Fs : Fns P w K mg base q S k) (hr : Room (k + 2) (A.deeper (envOfC "minus" (defScope s_minus) s.heap.objs.size f cdv))) :
    SdB (cxOf (L2.CX P w) P w K mg base N_minus "minus" (defScope s_minus) f cdv A outer s H E) q S (defBody s_minus) m_minus.body :=
  (sb_cons (ss_ret (sd_call Fs.f_part (hr.mono (by omega)) rfl (sda_cons (sd_bin od_sub (sd_bin od_mul (sd_ix (sd_var 0) sd_int) (sd_ix (sd_var 1) sd_int)) (sd_bin od_mul (sd_ix (sd_var 1) sd_int) (sd_ix (sd_var 0) sd_int))) (sda_cons (sd_bin od_mul (sd_ix (sd_var 0) sd_int) (sd_ix (sd_var 1) sd_int)) sda_nil))))
    sb_nil)
set_option maxRecDepth 200000 in
theorem b_times (T : Txt K mg q) (Fs : Fns P w K mg base q S k) (hr : Room (k + 2) (A.deeper (envOfC "times" (defScope s_times) s.heap.objs.size f cdv))) :
    SdB (cxOf (L2.CX P w) P w K mg base N_times "times" (defScope s_times) f cdv A outer s H E) q S (defBody s_times) m_times.body :=
  (sb_cons (ss_ret (sd_call Fs.f_part (hr.mono (by omega)) rfl (sda_cons (sd_bin od_mul (sd_ix (sd_var 0) sd_int) (sd_ix (sd_var 1) sd_int)) (sda_cons (sd_bin od_mul (sd_ix (sd_var 0) sd_int) (sd_ix (sd_var 1) sd_int)) sda_nil))))
    sb_nil)
set_option maxRecDepth 200000 in
theorem b_over (T : Txt K mg q) (Fs : Fns P w K mg base q S k) (hr : Room (k + 2) (A.deeper (envOfC "over" (defScope s_over) s.heap.objs.size f cdv))) :
    SdB (cxOf (L2.CX P w) P w K mg base N_over "over" (defScope s_over) f cdv A outer s H E) q S (defBody s_over) m_over.body :=
  (sb_cons (ss_ret (sd_call Fs.f_part (hr.mono (by omega)) rfl (sda_cons (sd_bin od_mul (sd_ix (sd_var 0) sd_int) (sd_ix (sd_var 1) sd_int)) (sda_cons (sd_bin od_mul (sd_ix (sd_var 0) sd_int) (sd_ix (sd_var 1) sd_int)) sda_nil))))
    sb_nil)
set_option maxRecDepth 200000 in
theorem b_is_less (T : Txt K mg q) (Fs : Fns P w K mg base q S k) (hr : Room (k + 2) (A.deeper (envOfC "is_less" (defScope s_is_less) s.heap.objs.size f cdv))) :
    SdB (cxOf (L2.CX P w) P w K mg base N_is_less "is_less" (defScope s_is_less) f cdv A outer s H E) q S (defBody s_is_less) m_is_less.body :=
  (sb_cons (ss_ret (sd_cmp od_lt (sd_bin od_mul (sd_ix (sd_var 0) sd_int) (sd_ix (sd_var 1) sd_int)) (sd_bin od_mul (sd_ix (sd_var 1) sd_int) (sd_ix (sd_var 0) sd_int)) (nomark _)))
    sb_nil)
set_option maxRecDepth 200000 in
theorem b_size_of (T : Txt K mg q) (Fs : Fns P w K mg base q S k) (hr : Room (k + 2) (A.deeper (envOfC "size_of" (defScope s_size_of) s.heap.objs.size f cdv))) :
    SdB (cxOf (L2.CX P w) P w K mg base N_size_of "size_of" (defScope s_size_of) f cdv A outer s H E) q S (defBody s_size_of) m_size_of.body :=
  (sb_cons (ss_ret (sd_tup (sda_cons (sd_callB pr_abs rfl T.b_abs (by decide +kernel) (sda_cons (sd_ix (sd_var 0) sd_int) sda_nil)) (sda_cons (sd_ix (sd_var 0) sd_int) sda_nil))))
    sb_nil)
set_option maxRecDepth 200000 in
theorem b_total (T : Txt K mg q) (Fs : Fns P w K mg base q S k) (hr : Room (k + 2) (A.deeper (envOfC "total" (defScope s_total) s.heap.objs.size f cdv))) :
    SdB (cxOf (L2.CX P w) P w K mg base N_total "total" (defScope s_total) f cdv A outer s H E) q S (defBody s_total) m_total.body :=
  (sb_cons (ss_set (sdg_name 1 sc_total.nd) (sd_tup (sda_cons sd_int (sda_cons sd_int sda_nil))))
    (sb_cons (ss_for (passes_of rfl) rfl (sdi_seq (sd_var 0)) (sdg_name 2 sc_total.nd) (sb_cons (ss_set (sdg_name 1 sc_total.nd) (sd_call Fs.f_plus (hr.mono (by omega)) rfl (sda_cons (sd_var 1) (sda_cons (sd_var 2) sda_nil))))
    sb_nil))
    (sb_cons (ss_ret (sd_var 1))
    sb_nil)))
set_option maxRecDepth 200000 in
theorem b_product (T : Txt K mg q) (Fs : Fns P w K mg base q S k) (hr : Room (k + 2) (A.deeper (envOfC "product" (defScope s_product) s.heap.objs.size f cdv))) :
    SdB (cxOf (L2.CX P w) P w K mg base N_product "product" (defScope s_product) f cdv A outer s H E) q S (defBody s_product) m_product.body :=
  (sb_cons (ss_set (sdg_name 1 sc_product.nd) (sd_tup (sda_cons sd_int (sda_cons sd_int sda_nil))))
    (sb_cons (ss_for (passes_of rfl) rfl (sdi_seq (sd_var 0)) (sdg_name 2 sc_product.nd) (sb_cons (ss_set (sdg_name 1 sc_product.nd) (sd_call Fs.f_times (hr.mono (by omega)) rfl (sda_cons (sd_var 1) (sda_cons (sd_var 2) sda_nil))))
    sb_nil))
    (sb_cons (ss_ret (sd_var 1))
    sb_nil)))
set_option maxRecDepth 200000 in
theorem b_raised (T : Txt K mg q) (Fs : Fns P w K mg base q S k) (hr : Room (k + 2) (A.deeper (envOfC "raised" (defScope s_raised) s.heap.objs.size f cdv))) :
    SdB (cxOf (L2.CX P w) P w K mg base N_raised "raised" (defScope s_raised) f cdv A outer s H E) q S (defBody s_raised) m_raised.body := by
  obtain ⟨_, X_BadPart⟩ := T.x_BadPart
  exact (sb_cons (ss_if (td_cmp od_lt (sd_var 1) sd_int (nomark _)) (sb_cons (ss_raise rfl PySem.F.excBase_ValueError X_BadPart.xq X_BadPart.xg X_BadPart.xk (raises_own X_BadPart.r1 X_BadPart.r2) rfl X_BadPart.xc (sd_fmt (SdJ.cons sd_str (SdJ.cons (sd_fv (sd_var 1)) SdJ.nil))))
    sb_nil) sb_nil)
    (sb_cons (ss_ret (sd_call Fs.f_product (hr.mono (by omega)) rfl (sda_cons (sd_bin od_mul (sd_lst (sda_cons (sd_var 0) sda_nil)) (sd_var 1)) sda_nil)))
    sb_nil))
set_option maxRecDepth 200000 in
theorem b_told (T : Txt K mg q) (Fs : Fns P w K mg base q S k) (hr : Room (k + 2) (A.deeper (envOfC "told" (defScope s_told) s.heap.objs.size f cdv))) :
    SdB (cxOf (L2.CX P w) P w K mg base N_told "told" (defScope s_told) f cdv A outer s H E) q S (defBody s_told) m_told.body :=
  (sb_cons (ss_if (td_cmp (od_eq hr.units) (sd_ix (sd_var 0) sd_int) sd_int (nomark _)) (sb_cons (ss_ret (sd_callTy pr_str rfl T.b_str (by decide +kernel) (sda_cons (sd_ix (sd_var 0) sd_int) sda_nil)))
    sb_nil) sb_nil)
    (sb_cons (ss_ret (sd_fmt (SdJ.cons (sd_fv (sd_ix (sd_var 0) sd_int)) (SdJ.cons sd_str (SdJ.cons (sd_fv (sd_ix (sd_var 0) sd_int)) SdJ.nil)))))
    sb_nil))
set_option maxRecDepth 200000 in
theorem b_read (T : Txt K mg q) (Fs : Fns P w K mg base q S k) (hr : Room (k + 2) (A.deeper (envOfC "read" (defScope s_read) s.heap.objs.size f cdv))) :
    SdB (cxOf (L2.CX P w) P w K mg base N_read "read" (defScope s_read) f cdv A outer s H E) q S (defBody s_read) m_read.body := by
  obtain ⟨_, X_BadPart⟩ := T.x_BadPart
  exact (sb_cons (ss_set (sdg_tup rfl (sdgs_cons 1 (sdg_name 1 sc_read.nd) (sdgs_cons 2 (sdg_name 2 sc_read.nd) (sdgs_cons 3 (sdg_name 3 sc_read.nd) sdgs_nil))) rfl) (sd_meth1 PySem.F.slot_str_partition PySem.F.type_str_partition mr_partition (sd_var 0) sd_str))
    (sb_cons (ss_if (td_not (td_val (sd_call Fs.f_is_number (hr.mono (by omega)) rfl (sda_cons (sd_meth1 PySem.F.slot_str_removeprefix PySem.F.type_str_removeprefix mr_removeprefix (sd_var 1) sd_str) sda_nil)))) (sb_cons (ss_raise rfl PySem.F.excBase_ValueError X_BadPart.xq X_BadPart.xg X_BadPart.xk (raises_own X_BadPart.r1 X_BadPart.r2) rfl X_BadPart.xc (sd_fmt (SdJ.cons sd_str (SdJ.cons (sd_fv (sd_var 0)) SdJ.nil))))
    sb_nil) sb_nil)
    (sb_cons (ss_if (td_cmp (od_eq hr.units) (sd_var 2) sd_str (nomark _)) (sb_cons (ss_ret (sd_callD Fs.d_part (hr.mono (by omega)) rfl (sda_cons (sd_callTy pr_int rfl T.b_int (by decide +kernel) (sda_cons (sd_var 1) sda_nil)) sda_nil) (by rfl)))
    sb_nil) sb_nil)
    (sb_cons (ss_if (td_not (td_val (sd_call Fs.f_is_number (hr.mono (by omega)) rfl (sda_cons (sd_var 3) sda_nil)))) (sb_cons (ss_raise rfl PySem.F.excBase_ValueError X_BadPart.xq X_BadPart.xg X_BadPart.xk (raises_own X_BadPart.r1 X_BadPart.r2) rfl X_BadPart.xc (sd_fmt (SdJ.cons sd_str (SdJ.cons (sd_fv (sd_var 0)) SdJ.nil))))
    sb_nil) sb_nil)
    (sb_cons (ss_ret (sd_call Fs.f_part (hr.mono (by omega)) rfl (sda_cons (sd_callTy pr_int rfl T.b_int (by decide +kernel) (sda_cons (sd_var 1) sda_nil)) (sda_cons (sd_callTy pr_int rfl T.b_int (by decide +kernel) (sda_cons (sd_var 3) sda_nil)) sda_nil))))
    sb_nil)))))
set_option maxRecDepth 200000 in
theorem b_is_number (T : Txt K mg q) (Fs : Fns P w K mg base q S k) (hr : Room (k + 2) (A.deeper (envOfC "is_number" (defScope s_is_number) s.heap.objs.size f cdv))) :
    SdB (cxOf (L2.CX P w) P w K mg base N_is_number "is_number" (defScope s_is_number) f cdv A outer s H E) q S (defBody s_is_number) m_is_number.body :=
  (sb_cons (ss_ret (sd_and (sd_chain od_lt od_le sd_int (sd_callB pr_len rfl T.b_len (by decide +kernel) (sda_cons (sd_var 0) sda_nil)) (sd_glob rfl T.k_MOST_FIGURES)) (sd_one (sd_cmp (od_eq hr.units) (sd_meth1 PySem.F.slot_str_strip PySem.F.type_str_strip mr_strip (sd_var 0) (sd_glob rfl T.k_FIGURES)) sd_str (nomark _)))))
    sb_nil)
set_option maxRecDepth 200000 in
theorem b_scaled (T : Txt K mg q) (Fs : Fns P w K mg base q S k) (hr : Room (k + 2) (A.deeper (envOfC "scaled" (defScope s_scaled) s.heap.objs.size f cdv))) :
    SdB (cxOf (L2.CX P w) P w K mg base N_scaled "scaled" (defScope s_scaled) f cdv A outer s H E) q S (defBody s_scaled) m_scaled.body :=
  (sb_cons (ss_ret (sd_callTy pr_tuple rfl T.b_tuple (by decide +kernel) (sda_cons (sd_lc [("one", 2)] rfl sc_scaled.nd (sdi_seq (sd_var 0)) (blkOk_by (by kernel_rfl)) (fun _ _ _ _ _ => (sdg_name 2 sc_scaled.nd)) (fun _ _ _ _ _ => sdts_nil) (fun _ _ _ _ _ => (sd_call Fs.f_times (hr.mono (by omega)) rfl (sda_cons (sd_var 2) (sda_cons (sd_var 1) sda_nil))))) sda_nil)))
    sb_nil)
set_option maxRecDepth 200000 in
theorem b_rows_added (T : Txt K mg q) (Fs : Fns P w K mg base q S k) (hr : Room (k + 2) (A.deeper (envOfC "rows_added" (defScope s_rows_added) s.heap.objs.size f cdv))) :
    SdB (cxOf (L2.CX P w) P w K mg base N_rows_added "rows_added" (defScope s_rows_added) f cdv A outer s H E) q S (defBody s_rows_added) m_rows_added.body :=
  (sb_cons (ss_ex (sd_call Fs.f_check_lengths (hr.mono (by omega)) rfl (sda_cons (sd_var 0) (sda_cons (sd_var 1) sda_nil))))
    (sb_cons (ss_ret (sd_callTy pr_tuple rfl T.b_tuple (by decide +kernel) (sda_cons (sd_lc [("mine", 2), ("its", 3)] rfl sc_rows_added.nd (sdi_zip rfl T.b_zip (sd_var 0) (sd_var 1)) (blkOk_by (by kernel_rfl)) (fun _ _ _ _ _ => (sdg_tup rfl (sdgs_cons 2 (sdg_name 2 sc_rows_added.nd) (sdgs_cons 3 (sdg_name 3 sc_rows_added.nd) sdgs_nil)) rfl)) (fun _ _ _ _ _ => sdts_nil) (fun _ _ _ _ _ => (sd_call Fs.f_plus (hr.mono (by omega)) rfl (sda_cons (sd_var 2) (sda_cons (sd_var 3) sda_nil))))) sda_nil)))
    sb_nil))
set_option maxRecDepth 200000 in
theorem b_dot (T : Txt K mg q) (Fs : Fns P w K mg base q S k) (hr : Room (k + 2) (A.deeper (envOfC "dot" (defScope s_dot) s.heap.objs.size f cdv))) :
    SdB (cxOf (L2.CX P w) P w K mg base N_dot "dot" (defScope s_dot) f cdv A outer s H E) q S (defBody s_dot) m_dot.body :=
  (sb_cons (ss_ex (sd_call Fs.f_check_lengths (hr.mono (by omega)) rfl (sda_cons (sd_var 0) (sda_cons (sd_var 1) sda_nil))))
    (sb_cons (ss_ret (sd_call Fs.f_total (hr.mono (by omega)) rfl (sda_cons (sd_lc [("mine", 2), ("its", 3)] rfl sc_dot.nd (sdi_zip rfl T.b_zip (sd_var 0) (sd_var 1)) (blkOk_by (by kernel_rfl)) (fun _ _ _ _ _ => (sdg_tup rfl (sdgs_cons 2 (sdg_name 2 sc_dot.nd) (sdgs_cons 3 (sdg_name 3 sc_dot.nd) sdgs_nil)) rfl)) (fun _ _ _ _ _ => sdts_nil) (fun _ _ _ _ _ => (sd_call Fs.f_times (hr.mono (by omega)) rfl (sda_cons (sd_var 2) (sda_cons (sd_var 3) sda_nil))))) sda_nil)))
    sb_nil))
set_option maxRecDepth 200000 in
theorem b_check_lengths (T : Txt K mg q) (Fs : Fns P w K mg base q S k) (hr : Room (k + 2) (A.deeper (envOfC "check_lengths" (defScope s_check_lengths) s.heap.objs.size f cdv))) :
    SdB (cxOf (L2.CX P w) P w K mg base N_check_lengths "check_lengths" (defScope s_check_lengths) f cdv A outer s H E) q S (defBody s_check_lengths) m_check_lengths.body := by
  obtain ⟨_, X_BadPart⟩ := T.x_BadPart
  exact (sb_cons (ss_if (td_cmp (od_ne hr.units) (sd_callB pr_len rfl T.b_len (by decide +kernel) (sda_cons (sd_var 0) sda_nil)) (sd_callB pr_len rfl T.b_len (by decide +kernel) (sda_cons (sd_var 1) sda_nil)) (nomark _)) (sb_cons (ss_raise rfl PySem.F.excBase_ValueError X_BadPart.xq X_BadPart.xg X_BadPart.xk (raises_own X_BadPart.r1 X_BadPart.r2) rfl X_BadPart.xc (sd_fmt (SdJ.cons sd_str (SdJ.cons (sd_fv (sd_callB pr_len rfl T.b_len (by decide +kernel) (sda_cons (sd_var 0) sda_nil))) (SdJ.cons sd_str (SdJ.cons (sd_fv (sd_callB pr_len rfl T.b_len (by decide +kernel) (sda_cons (sd_var 1) sda_nil))) (SdJ.cons sd_str SdJ.nil)))))))
    sb_nil) sb_nil)
    sb_nil)
set_option maxRecDepth 200000 in
theorem b_law_dice (T : Txt K mg q) (Fs : Fns P w K mg base q S k) (hr : Room (k + 2) (A.deeper (envOfC "_law_dice" (defScope s_law_dice) s.heap.objs.size f cdv))) :
    SdB (cxOf (L2.CX P w) P w K mg base N_law_dice "_law_dice" (defScope s_law_dice) f cdv A outer s H E) q S (defBody s_law_dice) m_law_dice.body :=
  (sb_cons (ss_if (td_chain od_lt od_lt (sd_bin od_sub sd_int sd_int) (sd_var 0) sd_int) (sb_cons (ss_ret (sd_lstC (sda_cons (sd_callB pr_abs rfl T.b_abs (by decide +kernel) (sda_cons (sd_var 0) sda_nil)) (sda_cons sd_int (sda_cons sd_int sda_nil)))))
    sb_nil) sb_nil)
    (sb_cons (ss_ret (sd_lstC (sda_cons (sd_var 0) (sda_cons (sd_bin od_add sd_int (sd_bin od_mod (sd_callTy pr_int rfl T.b_int (by decide +kernel) (sda_cons (sd_var 0) sda_nil)) sd_int)) (sda_cons (sd_callTy pr_int rfl T.b_int (by decide +kernel) (sda_cons (sd_cmp od_ge (sd_var 0) (sd_bin od_pow sd_int sd_int) (nomark _)) sda_nil)) sda_nil)))))
    sb_nil))
set_option maxRecDepth 200000 in
theorem b_law_roll (T : Txt K mg q) (Fs : Fns P w K mg base q S k) (hr : Room (k + 2) (A.deeper (envOfC "_law_roll" (defScope s_law_roll) s.heap.objs.size f cdv))) :
    SdB (cxOf (L2.CX P w) P w K mg base N_law_roll "_law_roll" (defScope s_law_roll) f cdv A outer s H E) q S (defBody s_law_roll) m_law_roll.body :=
  (sb_cons (ss_if (TdW.td (tw_or (td_cmp (od_eq hr.units) (sd_ix (sd_var 0) sd_int) sd_int (nomark _)) (tw_or1 (TdW.td (tw_and (td_cmp (od_eq hr.units) (sd_ix (sd_var 0) sd_int) sd_int (nomark _)) (tw_and1 (td_cmp od_gt (sd_ix (sd_var 0) sd_int) sd_int (nomark _)))))))) (sb_cons (ss_set (sdg_name 2 sc_law_roll.nd) (sd_bin od_mod (sd_callTy pr_int rfl T.b_int (by decide +kernel) (sda_cons (sd_ix (sd_var 0) sd_int) sda_nil)) (sd_var 1)))
    (sb_cons (ss_setix (sd_var 0) sd_int (sd_bin od_fdiv (sd_ix (sd_var 0) sd_int) (sd_var 1)))
    (sb_cons (ss_ret (sd_var 2))
    sb_nil))) sb_nil)
    (sb_cons (ss_setix (sd_var 0) sd_int sd_int)
    (sb_cons (ss_setix (sd_var 0) sd_int (sd_bin od_mod (sd_callTy pr_int rfl T.b_int (by decide +kernel) (sda_cons (sd_bin od_add (sd_bin od_add (sd_bin od_mul (sd_ix (sd_var 0) sd_int) sd_int) (sd_bin od_mul (sd_ix (sd_var 0) sd_int) sd_int)) sd_int) sda_nil)) sd_int))
    (sb_cons (ss_setix (sd_var 0) sd_int (sd_bin od_add (sd_ix (sd_var 0) sd_int) sd_int))
    (sb_cons (ss_ret (sd_bin od_mod (sd_callTy pr_int rfl T.b_int (by decide +kernel) (sda_cons (sd_bin od_add (sd_bin od_fdiv (sd_ix (sd_var 0) sd_int) sd_int) (sd_ix (sd_var 0) sd_int)) sda_nil)) (sd_var 1)))
    sb_nil)))))
set_option maxRecDepth 200000 in
theorem b_law_rounds (T : Txt K mg q) (Fs : Fns P w K mg base q S k) (hr : Room (k + 2) (A.deeper (envOfC "_law_rounds" (defScope s_law_rounds) s.heap.objs.size f cdv))) :
    SdB (cxOf (L2.CX P w) P w K mg base N_law_rounds "_law_rounds" (defScope s_law_rounds) f cdv A outer s H E) q S (defBody s_law_rounds) m_law_rounds.body :=
  (sb_cons (ss_set (sdg_name 2 sc_law_rounds.nd) (sd_sl (sd_var 0) sdo_none (sdo_some (sd_var 1))))
    (sb_cons (ss_if (td_cmp (od_eq hr.units) (sd_var 2) (sd_lst sda_nil) (nomark _)) (sb_cons (ss_set (sdg_name 2 sc_law_rounds.nd) (sd_lst (sda_cons sd_int sda_nil)))
    sb_nil) sb_nil)
    (sb_cons (ss_ret (sd_lc [("cell", 3)] rfl sc_law_rounds.nd (sdi_seq (sd_var 2)) (blkOk_by (by kernel_rfl)) (fun _ _ _ _ _ => (sdg_name 3 sc_law_rounds.nd)) (fun _ _ _ _ _ => sdts_nil) (fun _ _ _ _ _ => (sd_call Fs.f_law_dice (hr.mono (by omega)) rfl (sda_cons (sd_var 3) sda_nil)))))
    sb_nil)))
set_option maxRecDepth 200000 in
theorem b_law (T : Txt K mg q) (Fs : Fns P w K mg base q S k) (hr : Room (k + 2) (A.deeper (envOfC "law" (defScope s_law) s.heap.objs.size f cdv))) {c Pt : Addr} (TB : TabB base mg c Pt) (hcode : cdv = .ref c) (hmT : (Pt, ("law.<locals>.<lambda>" : Str)) ∈ q.T) (huT : ∀ p ∈ q.T, p.1 = Pt → p.2 = ("law.<locals>.<lambda>" : Str)) (hS : S.told = tolds) (hLD : q.lamD = lamDs) :
    SdB (cxOf (L2.CX P w) P w K mg base N_law "law" (defScope s_law) f cdv A outer s H E) q S (defBody s_law) m_law.body := by
  obtain ⟨hl, TO, TH⟩ := T.told
  rw [← hS] at TH
  exact (sb_cons (ss_for (passes_of rfl) rfl (sdi_seq (sd_call Fs.f_law_rounds (hr.mono (by omega)) rfl (sda_cons (sd_var 0) (sda_cons sd_int sda_nil)))) (sdg_name 1 sc_law.nd) (sb_cons (ss_set (sdg_tup rfl (sdgs_cons 2 (sdg_name 2 sc_law.nd) (sdgs_cons 3 (sdg_name 3 sc_law.nd) (sdgs_cons 4 (sdg_name 4 sc_law.nd) (sdgs_cons 5 (sdg_name 5 sc_law.nd) sdgs_nil)))) rfl) (sd_tup (sda_cons (sd_bin od_sub (sd_call Fs.f_law_roll (hr.mono (by omega)) rfl (sda_cons (sd_var 1) (sda_cons sd_int sda_nil))) sd_int) (sda_cons (sd_bin od_add sd_int (sd_call Fs.f_law_roll (hr.mono (by omega)) rfl (sda_cons (sd_var 1) (sda_cons sd_int sda_nil)))) (sda_cons (sd_bin od_sub (sd_call Fs.f_law_roll (hr.mono (by omega)) rfl (sda_cons (sd_var 1) (sda_cons sd_int sda_nil))) sd_int) (sda_cons (sd_bin od_add sd_int (sd_call Fs.f_law_roll (hr.mono (by omega)) rfl (sda_cons (sd_var 1) (sda_cons sd_int sda_nil)))) sda_nil))))))
    (sb_cons (ss_set (sdg_tup rfl (sdgs_cons 6 (sdg_name 6 sc_law.nd) (sdgs_cons 7 (sdg_name 7 sc_law.nd) sdgs_nil)) rfl) (sd_tup (sda_cons (sd_call Fs.f_part (hr.mono (by omega)) rfl (sda_cons (sd_var 2) (sda_cons (sd_var 3) sda_nil))) (sda_cons (sd_call Fs.f_part (hr.mono (by omega)) rfl (sda_cons (sd_var 4) (sda_cons (sd_var 5) sda_nil))) sda_nil))))
    (sb_cons (ss_if (TdW.td (tw_or (td_cmp (od_ne hr.units) (sd_bin od_mul (sd_ix (sd_var 6) sd_int) (sd_var 3)) (sd_bin od_mul (sd_ix (sd_var 6) sd_int) (sd_var 2)) (nomark _)) (tw_or (td_cmp od_lt (sd_ix (sd_var 6) sd_int) sd_int (nomark _)) (tw_or (td_cmp (od_ne hr.units) (sd_lc [("k", 20)] rfl sc_law.nd (sdi_rng2 rfl T.b_range sd_int sd_int) (blkOk_by (by kernel_rfl)) (fun _ _ _ _ _ => (sdg_name 20 sc_law.nd)) (fun _ _ _ _ _ => (sdts_one (TdW.td (tw_and (td_cmp (od_eq hr.units) (sd_bin od_mod (sd_ix (sd_var 6) sd_int) (sd_var 20)) sd_int (nomark _)) (tw_and1 (td_cmp (od_eq hr.units) (sd_bin od_mod (sd_ix (sd_var 6) sd_int) (sd_var 20)) sd_int (nomark _))))))) (fun _ _ _ _ _ => (sd_var 20))) (sd_lst sda_nil) (nomark _)) (tw_or1 (td_cmp (od_ne hr.units) (sd_call Fs.f_part (hr.mono (by omega)) rfl (sda_cons (sd_bin od_sub sd_int (sd_var 2)) (sda_cons (sd_bin od_sub sd_int (sd_var 3)) sda_nil))) (sd_var 6) (nomark _))))))) (sb_cons (ss_ret sd_bl)
    sb_nil) sb_nil)
    (sb_cons (ss_set (sdg_name 8 sc_law.nd) (sd_if (TdW.td (tw_or (td_cmp (od_ne hr.units) (sd_var 2) sd_int (nomark _)) (tw_or1 (td_cmp (od_ne hr.units) (sd_var 4) sd_int (nomark _))))) (sd_callB (pr_max1 rfl) rfl T.b_max (by decide +kernel) (sda_cons (sd_lc [("k", 20)] rfl sc_law.nd (sdi_rng2 rfl T.b_range sd_int sd_int) (blkOk_by (by kernel_rfl)) (fun _ _ _ _ _ => (sdg_name 20 sc_law.nd)) (fun _ _ _ _ _ => (sdts_one (TdW.td (tw_and (td_cmp (od_eq hr.units) (sd_bin od_mod (sd_var 2) (sd_var 20)) sd_int (nomark _)) (tw_and1 (td_cmp (od_eq hr.units) (sd_bin od_mod (sd_var 4) (sd_var 20)) sd_int (nomark _))))))) (fun _ _ _ _ _ => (sd_var 20))) sda_nil)) sd_int))
    (sb_cons (ss_if (TdW.td (tw_or (td_cmp (od_ne hr.units) (sd_call Fs.f_shared (hr.mono (by omega)) rfl (sda_cons (sd_var 2) (sda_cons (sd_var 4) sda_nil))) (sd_var 8) (nomark _)) (tw_or (td_cmp (od_ne hr.units) (sd_call Fs.f_is_less (hr.mono (by omega)) rfl (sda_cons (sd_var 6) (sda_cons (sd_var 7) sda_nil))) (sd_cmp od_lt (sd_bin od_mul (sd_var 2) (sd_var 5)) (sd_bin od_mul (sd_var 4) (sd_var 3)) (nomark _)) (nomark _)) (tw_or1 (td_cmp (od_ne hr.units) (sd_call Fs.f_size_of (hr.mono (by omega)) rfl (sda_cons (sd_var 6) sda_nil)) (sd_call Fs.f_part (hr.mono (by omega)) rfl (sda_cons (sd_callB pr_abs rfl T.b_abs (by decide +kernel) (sda_cons (sd_var 2) sda_nil)) (sda_cons (sd_var 3) sda_nil))) (nomark _)))))) (sb_cons (ss_ret sd_bl)
    sb_nil) sb_nil)
    (sb_cons (ss_if (TdW.td (tw_or (td_cmp (od_ne hr.units) (sd_call Fs.f_plus (hr.mono (by omega)) rfl (sda_cons (sd_var 6) (sda_cons (sd_var 7) sda_nil))) (sd_call Fs.f_part (hr.mono (by omega)) rfl (sda_cons (sd_bin od_add (sd_bin od_mul (sd_var 2) (sd_var 5)) (sd_bin od_mul (sd_var 4) (sd_var 3))) (sda_cons (sd_bin od_mul (sd_var 3) (sd_var 5)) sda_nil))) (nomark _)) (tw_or (td_cmp (od_ne hr.units) (sd_call Fs.f_minus (hr.mono (by omega)) rfl (sda_cons (sd_var 6) (sda_cons (sd_var 7) sda_nil))) (sd_call Fs.f_part (hr.mono (by omega)) rfl (sda_cons (sd_bin od_sub (sd_bin od_mul (sd_var 2) (sd_var 5)) (sd_bin od_mul (sd_var 4) (sd_var 3))) (sda_cons (sd_bin od_mul (sd_var 3) (sd_var 5)) sda_nil))) (nomark _)) (tw_or1 (td_cmp (od_ne hr.units) (sd_call Fs.f_times (hr.mono (by omega)) rfl (sda_cons (sd_var 6) (sda_cons (sd_var 7) sda_nil))) (sd_call Fs.f_part (hr.mono (by omega)) rfl (sda_cons (sd_bin od_mul (sd_var 2) (sd_var 4)) (sda_cons (sd_bin od_mul (sd_var 3) (sd_var 5)) sda_nil))) (nomark _)))))) (sb_cons (ss_ret sd_bl)
    sb_nil) sb_nil)
    (sb_cons (ss_if (td_cmp (od_ne hr.units) (sd_told TO TH rfl TB hcode hmT huT hr (lamS_by (by kernel_rfl)) (fun A2 o2 s2 H2 E2 f2 c2 hr2 => (sd_call Fs.f_over (hr2) rfl (sda_cons (sd_var 6) (sda_cons (sd_var 7) sda_nil))))) (sd_if (td_cmp (od_ne hr.units) (sd_var 4) sd_int (nomark _)) (sd_call Fs.f_part (hr.mono (by omega)) rfl (sda_cons (sd_bin od_mul (sd_var 2) (sd_var 5)) (sda_cons (sd_bin od_mul (sd_var 3) (sd_var 4)) sda_nil))) sd_str) (nomark _)) (sb_cons (ss_ret sd_bl)
    sb_nil) sb_nil)
    (sb_cons (ss_set (sdg_name 9 sc_law.nd) (sd_lc [("k", 20)] rfl sc_law.nd (sdi_rng1 rfl T.b_range (sd_call Fs.f_law_roll (hr.mono (by omega)) rfl (sda_cons (sd_var 1) (sda_cons sd_int sda_nil)))) (blkOk_by (by kernel_rfl)) (fun _ _ _ _ _ => (sdg_name 20 sc_law.nd)) (fun _ _ _ _ _ => sdts_nil) (fun _ _ _ _ _ => (sd_call Fs.f_part (hr.mono (by omega)) rfl (sda_cons (sd_bin od_sub (sd_call Fs.f_law_roll (hr.mono (by omega)) rfl (sda_cons (sd_var 1) (sda_cons sd_int sda_nil))) sd_int) (sda_cons (sd_bin od_add sd_int (sd_call Fs.f_law_roll (hr.mono (by omega)) rfl (sda_cons (sd_var 1) (sda_cons sd_int sda_nil)))) sda_nil))))))
    (sb_cons (ss_set (sdg_tup rfl (sdgs_cons 10 (sdg_name 10 sc_law.nd) (sdgs_cons 11 (sdg_name 11 sc_law.nd) sdgs_nil)) rfl) (sd_tup (sda_cons (sd_tup (sda_cons sd_int (sda_cons sd_int sda_nil))) (sda_cons (sd_tup (sda_cons sd_int (sda_cons sd_int sda_nil))) sda_nil))))
    (sb_cons (ss_for (passes_of rfl) rfl (sdi_seq (sd_var 9)) (sdg_name 12 sc_law.nd) (sb_cons (ss_par (i := 10) (j := 11) rfl sc_law.nd (sd_call Fs.f_part (hr.mono (by omega)) rfl (sda_cons (sd_bin od_add (sd_bin od_mul (sd_ix (sd_var 10) sd_int) (sd_ix (sd_var 12) sd_int)) (sd_bin od_mul (sd_ix (sd_var 12) sd_int) (sd_ix (sd_var 10) sd_int))) (sda_cons (sd_bin od_mul (sd_ix (sd_var 10) sd_int) (sd_ix (sd_var 12) sd_int)) sda_nil))) (sd_call Fs.f_part (hr.mono (by omega)) rfl (sda_cons (sd_bin od_mul (sd_ix (sd_var 11) sd_int) (sd_ix (sd_var 12) sd_int)) (sda_cons (sd_bin od_mul (sd_ix (sd_var 11) sd_int) (sd_ix (sd_var 12) sd_int)) sda_nil))))
    sb_nil))
    (sb_cons (ss_if (TdW.td (tw_or (td_cmp (od_ne hr.units) (sd_call Fs.f_total (hr.mono (by omega)) rfl (sda_cons (sd_var 9) sda_nil)) (sd_var 10) (nomark _)) (tw_or (td_cmp (od_ne hr.units) (sd_call Fs.f_product (hr.mono (by omega)) rfl (sda_cons (sd_var 9) sda_nil)) (sd_var 11) (nomark _)) (tw_or1 (td_cmp (od_ne hr.units) (sd_callTy pr_list rfl T.b_list (by decide +kernel) (sda_cons (sd_call Fs.f_scaled (hr.mono (by omega)) rfl (sda_cons (sd_var 9) (sda_cons (sd_var 6) sda_nil))) sda_nil)) (sd_lc [("each", 12)] rfl sc_law.nd (sdi_seq (sd_var 9)) (blkOk_by (by kernel_rfl)) (fun _ _ _ _ _ => (sdg_name 12 sc_law.nd)) (fun _ _ _ _ _ => sdts_nil) (fun _ _ _ _ _ => (sd_call Fs.f_times (hr.mono (by omega)) rfl (sda_cons (sd_var 12) (sda_cons (sd_var 6) sda_nil))))) (nomark _)))))) (sb_cons (ss_ret sd_bl)
    sb_nil) sb_nil)
    (sb_cons (ss_set (sdg_name 13 sc_law.nd) (sd_lc [("each", 12)] rfl sc_law.nd (sdi_seq (sd_var 9)) (blkOk_by (by kernel_rfl)) (fun _ _ _ _ _ => (sdg_name 12 sc_law.nd)) (fun _ _ _ _ _ => sdts_nil) (fun _ _ _ _ _ => (sd_call Fs.f_part (hr.mono (by omega)) rfl (sda_cons (sd_call Fs.f_law_roll (hr.mono (by omega)) rfl (sda_cons (sd_var 1) (sda_cons sd_int sda_nil))) (sda_cons sd_int sda_nil))))))
    (sb_cons (ss_if (TdW.td (tw_or (td_cmp (od_ne hr.units) (sd_callTy pr_list rfl T.b_list (by decide +kernel) (sda_cons (sd_call Fs.f_rows_added (hr.mono (by omega)) rfl (sda_cons (sd_var 9) (sda_cons (sd_var 13) sda_nil))) sda_nil)) (sd_lc [("k", 20)] rfl sc_law.nd (sdi_rng1 rfl T.b_range (sd_callB pr_len rfl T.b_len (by decide +kernel) (sda_cons (sd_var 9) sda_nil))) (blkOk_by (by kernel_rfl)) (fun _ _ _ _ _ => (sdg_name 20 sc_law.nd)) (fun _ _ _ _ _ => sdts_nil) (fun _ _ _ _ _ => (sd_call Fs.f_plus (hr.mono (by omega)) rfl (sda_cons (sd_ix (sd_var 9) (sd_var 20)) (sda_cons (sd_ix (sd_var 13) (sd_var 20)) sda_nil))))) (nomark _)) (tw_or1 (td_cmp (od_ne hr.units) (sd_call Fs.f_dot (hr.mono (by omega)) rfl (sda_cons (sd_var 9) (sda_cons (sd_var 13) sda_nil))) (sd_call Fs.f_total (hr.mono (by omega)) rfl (sda_cons (sd_lc [("k", 20)] rfl sc_law.nd (sdi_rng1 rfl T.b_range (sd_callB pr_len rfl T.b_len (by decide +kernel) (sda_cons (sd_var 9) sda_nil))) (blkOk_by (by kernel_rfl)) (fun _ _ _ _ _ => (sdg_name 20 sc_law.nd)) (fun _ _ _ _ _ => sdts_nil) (fun _ _ _ _ _ => (sd_call Fs.f_times (hr.mono (by omega)) rfl (sda_cons (sd_ix (sd_var 9) (sd_var 20)) (sda_cons (sd_ix (sd_var 13) (sd_var 20)) sda_nil))))) sda_nil)) (nomark _))))) (sb_cons (ss_ret sd_bl)
    sb_nil) sb_nil)
    (sb_cons (ss_set (sdg_name 14 sc_law.nd) (sd_call Fs.f_law_roll (hr.mono (by omega)) rfl (sda_cons (sd_var 1) (sda_cons sd_int sda_nil))))
    (sb_cons (ss_if (TdW.td (tw_or (td_cmp (od_ne hr.units) (sd_call Fs.f_raised (hr.mono (by omega)) rfl (sda_cons (sd_var 6) (sda_cons (sd_var 14) sda_nil))) (sd_call Fs.f_product (hr.mono (by omega)) rfl (sda_cons (sd_bin od_mul (sd_lst (sda_cons (sd_var 6) sda_nil)) (sd_var 14)) sda_nil)) (nomark _)) (tw_or (td_cmp (od_ne hr.units) (sd_call Fs.f_read (hr.mono (by omega)) rfl (sda_cons (sd_call Fs.f_told (hr.mono (by omega)) rfl (sda_cons (sd_var 6) sda_nil)) sda_nil)) (sd_var 6) (nomark _)) (tw_or1 (td_cmp (od_ne hr.units) (sd_call Fs.f_told (hr.mono (by omega)) rfl (sda_cons (sd_var 6) sda_nil)) (sd_bin od_add (sd_callTy pr_str rfl T.b_str (by decide +kernel) (sda_cons (sd_ix (sd_var 6) sd_int) sda_nil)) (sd_if (td_cmp (od_eq hr.units) (sd_ix (sd_var 6) sd_int) sd_int (nomark _)) sd_str (sd_bin od_add sd_str (sd_callTy pr_str rfl T.b_str (by decide +kernel) (sda_cons (sd_ix (sd_var 6) sd_int) sda_nil))))) (nomark _)))))) (sb_cons (ss_ret sd_bl)
    sb_nil) sb_nil)
    (sb_cons (ss_set (sdg_name 15 sc_law.nd) (sd_meth1 PySem.F.slot_str_join PySem.F.type_str_join mr_join sd_str (sd_lc [("k", 20)] rfl sc_law.nd (sdi_rng1 rfl T.b_range (sd_call Fs.f_law_roll (hr.mono (by omega)) rfl (sda_cons (sd_var 1) (sda_cons sd_int sda_nil)))) (blkOk_by (by kernel_rfl)) (fun _ _ _ _ _ => (sdg_name 20 sc_law.nd)) (fun _ _ _ _ _ => sdts_nil) (fun _ _ _ _ _ => (sd_ix sd_str (sd_call Fs.f_law_roll (hr.mono (by omega)) rfl (sda_cons (sd_var 1) (sda_cons sd_int sda_nil))))))))
    (sb_cons (ss_set (sdg_tup rfl (sdgs_cons 16 (sdg_name 16 sc_law.nd) (sdgs_cons 17 (sdg_name 17 sc_law.nd) sdgs_nil)) rfl) (sd_if (td_cmp od_lt (sd_meth1 PySem.F.slot_str_count PySem.F.type_str_count mr_count (sd_var 15) sd_str) sd_int (nomark _)) (sd_sl (sd_bin od_add (sd_meth1 PySem.F.slot_str_split PySem.F.type_str_split mr_split (sd_var 15) sd_str) (sd_lst (sda_cons sd_non sda_nil))) sdo_none (sdo_some sd_int)) (sd_tup (sda_cons sd_str (sda_cons sd_non sda_nil)))))
    (sb_cons (ss_set (sdg_name 18 sc_law.nd) (sd_cmp (od_eq hr.units) (sd_lc [("bit", 21)] rfl sc_law.nd (sdi_seq (sd_bin od_add (sd_lst (sda_cons (sd_if (td_cmp (od_eq hr.units) (sd_sl (sd_var 16) sdo_none (sdo_some sd_int)) sd_str (nomark _)) (sd_sl (sd_var 16) (sdo_some sd_int) sdo_none) (sd_var 16)) sda_nil)) (sd_if (td_cmp od_notN (sd_var 17) sd_non (nomark _)) (sd_lst (sda_cons (sd_var 17) sda_nil)) (sd_lst sda_nil)))) (blkOk_by (by kernel_rfl)) (fun _ _ _ _ _ => (sdg_name 21 sc_law.nd)) (fun _ _ _ _ _ => (sdts_one (TdW.td (tw_or (td_cmp (od_eq hr.units) (sd_var 21) sd_str (nomark _)) (tw_or1 (td_cmp (od_ne hr.units) (sd_lc [("sign", 23)] rfl sc_law.nd (sdi_seq (sd_var 21)) (blkOk_by (by kernel_rfl)) (fun _ _ _ _ _ => (sdg_name 23 sc_law.nd)) (fun _ _ _ _ _ => (sdts_one (td_cmp od_notIn (sd_var 23) sd_str rfl))) (fun _ _ _ _ _ => (sd_var 23))) (sd_lst sda_nil) (nomark _))))))) (fun _ _ _ _ _ => (sd_var 21))) (sd_lst sda_nil) (nomark _)))
    (sb_cons (ss_if (TdW.td (tw_or (td_cmp (od_ne hr.units) (sd_told TO TH rfl TB hcode hmT huT hr (lamS_by (by kernel_rfl)) (fun A2 o2 s2 H2 E2 f2 c2 hr2 => (sd_call Fs.f_read (hr2) rfl (sda_cons (sd_var 15) sda_nil)))) (sd_if (td_val (sd_var 18)) (sd_call Fs.f_part (hr.mono (by omega)) rfl (sda_cons (sd_callTy pr_int rfl T.b_int (by decide +kernel) (sda_cons (sd_var 16) sda_nil)) (sda_cons (sd_if (td_cmp od_isN (sd_var 17) sd_non (nomark _)) sd_int (sd_callTy pr_int rfl T.b_int (by decide +kernel) (sda_cons (sd_var 17) sda_nil))) sda_nil))) sd_str) (nomark _)) (tw_or1 (td_cmp (od_ne hr.units) (sd_call Fs.f_is_number (hr.mono (by omega)) rfl (sda_cons (sd_var 15) sda_nil)) (sd_and (sd_cmp (od_ne hr.units) (sd_var 15) sd_str (nomark _)) (sd_one (sd_cmp (od_eq hr.units) (sd_lc [("sign", 23)] rfl sc_law.nd (sdi_seq (sd_var 15)) (blkOk_by (by kernel_rfl)) (fun _ _ _ _ _ => (sdg_name 23 sc_law.nd)) (fun _ _ _ _ _ => (sdts_one (td_cmp od_notIn (sd_var 23) sd_str rfl))) (fun _ _ _ _ _ => (sd_var 23))) (sd_lst sda_nil) (nomark _)))) (nomark _))))) (sb_cons (ss_ret sd_bl)
    sb_nil) sb_nil)
    sb_nil))))))))))))))))))))
    (sb_cons (ss_set (sdg_name 19 sc_law.nd) (sd_lst (sda_cons (sd_tup (sda_cons (sd_lam (k := 0) (by rw [hLD]; rfl) TB hcode hmT huT (by decide +kernel)) (sda_cons sd_str sda_nil))) (sda_cons (sd_tup (sda_cons (sd_lam (k := 1) (by rw [hLD]; rfl) TB hcode hmT huT (by decide +kernel)) (sda_cons sd_str sda_nil))) (sda_cons (sd_tup (sda_cons (sd_lam (k := 2) (by rw [hLD]; rfl) TB hcode hmT huT (by decide +kernel)) (sda_cons sd_str sda_nil))) (sda_cons (sd_tup (sda_cons (sd_lam (k := 3) (by rw [hLD]; rfl) TB hcode hmT huT (by decide +kernel)) (sda_cons sd_str sda_nil))) (sda_cons (sd_tup (sda_cons (sd_lam (k := 4) (by rw [hLD]; rfl) TB hcode hmT huT (by decide +kernel)) (sda_cons sd_str sda_nil))) (sda_cons (sd_tup (sda_cons (sd_lam (k := 5) (by rw [hLD]; rfl) TB hcode hmT huT (by decide +kernel)) (sda_cons sd_str sda_nil))) (sda_cons (sd_tup (sda_cons (sd_lam (k := 6) (by rw [hLD]; rfl) TB hcode hmT huT (by decide +kernel)) (sda_cons sd_str sda_nil))) (sda_cons (sd_tup (sda_cons (sd_lam (k := 7) (by rw [hLD]; rfl) TB hcode hmT huT (by decide +kernel)) (sda_cons sd_str sda_nil))) sda_nil))))))))))
    (sb_cons (ss_ret (sd_and (sd_cmp (od_eq hr.units) (sd_lc [("pair", 22)] rfl sc_law.nd (sdi_seq (sd_var 19)) (blkOk_by (by kernel_rfl)) (fun _ _ _ _ _ => (sdg_name 22 sc_law.nd)) (fun _ _ _ _ _ => (sdts_one (td_cmp (od_ne hr.units) (sd_call Fs.f_law_told (hr.mono (by omega)) rfl (sda_cons (sd_ix (sd_var 22) sd_int) sda_nil)) (sd_ix (sd_var 22) sd_int) (nomark _)))) (fun _ _ _ _ _ => (sd_var 22))) (sd_lst sda_nil) (nomark _)) (sd_one (sd_cmp (od_eq hr.units) (sd_call Fs.f_raised (hr.mono (by omega)) rfl (sda_cons (sd_tup (sda_cons sd_int (sda_cons sd_int sda_nil))) (sda_cons sd_int sda_nil))) (sd_tup (sda_cons sd_int (sda_cons sd_int sda_nil))) (nomark _)))))
    sb_nil)))
end
end LK
end
/-! ## KM1 -/
section
set_option Elab.async false
set_option linter.all false
set_option maxRecDepth 200000
set_option maxHeartbeats 8000000
namespace LK
open PySem PV
abbrev Sa (n : Nat) : PV.Sem := semAt prog n
/-! how the evaluator steps -/
theorem rb {α β : Type} (a : α) (G : Gs) (f : α → Gs → R β) : R.bind (.ok a G) f = f a G := rfl
theorem rof {α : Type} (a : α) (G : Gs) : R.of (some a) G = .ok a G := rfl
theorem rgo {α : Type} (a : α) (G : Gs) (f : α → Gs → F) : R.go (.ok a G) f = f a G := rfl
theorem rth (ρ : PV.Env) (G : Gs) (f : PV.Env → Gs → F) : F.then (.next ρ G) f = f ρ G := rfl
theorem rtr (d : D) (G : Gs) (f : PV.Env → Gs → F) : F.then (.ret d G) f = .ret d G := rfl
theorem ba (i j : Int) : binD .add (.int i) (.int j) = some (.int (i + j)) := rfl
theorem bs (i j : Int) : binD .sub (.int i) (.int j) = some (.int (i - j)) := rfl
theorem bm (i j : Int) (h : okMul i j = true) : binD .mul (.int i) (.int j) = some (.int (i * j)) := if_pos h
theorem bd (i j : Int) (h : okDiv j = true) : binD .fdiv (.int i) (.int j) = some (.int (i.fdiv j)) := if_pos h
theorem bmo (i j : Int) (h : j ≠ 0) : binD .mod (.int i) (.int j) = some (.int (i.fmod j)) := if_pos h
theorem clt (i j : Int) : cmpD .lt (.int i) (.int j) = some (decide (i < j)) := rfl
theorem cle (i j : Int) : cmpD .le (.int i) (.int j) = some (decide (i ≤ j)) := rfl
theorem cgt (i j : Int) : cmpD .gt (.int i) (.int j) = some (decide (j < i)) := rfl
theorem cge (i j : Int) : cmpD .ge (.int i) (.int j) = some (decide (j ≤ i)) := rfl
theorem ceq (a b : D) : cmpD .eq a b = eqD a b := rfl
theorem cne (a b : D) : cmpD .ne a b = (eqD a b).map (!·) := rfl
theorem szl : sizeLine = 16777216 := rfl
theorem ok_of (b : Bool) : Option.map D.bl (some b) = some (.bl b) := rfl
theorem ite_t {α : Sort _} (a b : α) : (if True then a else b) = a := if_pos trivial
theorem ite_f {α : Sort _} (a b : α) : (if False then a else b) = b := if_neg id
/-! what the defs answer -/
def gOf (t l : Int) : Int := if l < 0 then -((Nat.gcd t.natAbs l.natAbs : Nat) : Int) else ((Nat.gcd t.natAbs l.natAbs : Nat) : Int)
def pq (t l : Int) : Int × Int := (t.fdiv (gOf t l), l.fdiv (gOf t l))
def pr (p : Int × Int) : D := .tup [.int p.1, .int p.2]
theorem ix0 (G : Gs) (p : Int × Int) : ixD G (pr p) (.int 0) = some (.int p.1) := rfl
theorem ix1 (G : Gs) (p : Int × Int) : ixD G (pr p) (.int 1) = some (.int p.2) := rfl
theorem cal_shared (n : Nat) (a b : Int) (G : Gs) : (Sa (n + 1)).cal 0 [.int a, .int b] G = .ok (.int (Nat.gcd a.natAbs b.natAbs : Nat)) G := rfl
theorem eqD_int (a b : Int) : eqD (.int a) (.int b) = some (decide (a = b)) := rfl
theorem eqD_pr (p q : Int × Int) : eqD (pr p) (pr q) = some (decide (p = q)) := by
  have e : eqD (pr p) (pr q) = some (decide (p.1 = q.1) && (decide (p.2 = q.2) && true)) := rfl
  rw [e]
  obtain ⟨a, b⟩ := p
  obtain ⟨c, d⟩ := q
  by_cases h1 : a = c <;> by_cases h2 : b = d <;> simp [h1, h2]
theorem tup_pr (a b : Int) : D.tup [.int a, .int b] = pr (a, b) := rfl
theorem cal_part (n : Nat) (t l : Int) (G : Gs) (h0 : l ≠ 0) (hb : okDiv (gOf t l) = true) : (Sa (n + 2)).cal 1 [.int t, .int l] G = .ok (pr (pq t l)) G := by
  show runFn (Sa (n + 1)) m_part [.int t, .int l] G = _
  rw [show pq t l = (t.fdiv (gOf t l), l.fdiv (gOf t l)) from rfl]
  generalize hg : gOf t l = g at hb ⊢
  have d1 : ∀ i, binD .fdiv (.int i) (.int g) = some (.int (i.fdiv g)) := fun i => bd i g hb
  unfold gOf at hg
  by_cases hl : l < 0
  · rw [if_pos hl] at hg
    simp [runFn, m_part, evE, evEs, evB, evS, rb, rof, rgo, rth, rtr, clt, ceq, eqD_int, h0, hl, cal_shared, PV.assign, szl, hg, d1, pr]
  · rw [if_neg hl] at hg
    simp [runFn, m_part, evE, evEs, evB, evS, rb, rof, rgo, rth, rtr, clt, ceq, eqD_int, h0, hl, cal_shared, PV.assign, szl, hg, d1, pr]
theorem cal_part0 (n : Nat) (t : Int) (G : Gs) : (Sa (n + 2)).cal 1 [.int t, .int 0] G = .exc 0 G := rfl
theorem run_ret (S : PV.Sem) (e : PV.E) (ρ : PV.Env) (G : Gs) : (match evB S [.ret e] ρ G with | .next _ G' => (.ok .non G' : R D) | .ret d G' => .ok d G' | .exc c G' => .exc c G' | _ => .bad) = evE S ρ e G := by
  simp only [evB, evS]
  cases evE S ρ e G <;> rfl
theorem cal_plus (n : Nat) (p q : Int × Int) (G : Gs) (h1 : okMul p.1 q.2 = true) (h2 : okMul q.1 p.2 = true) (h3 : okMul p.2 q.2 = true) : (Sa (n + 3)).cal 2 [pr p, pr q] G = (Sa (n + 2)).cal 1 [.int (p.1 * q.2 + q.1 * p.2), .int (p.2 * q.2)] G := by
  have e : (Sa (n + 3)).cal 2 [pr p, pr q] G = _ := run_ret (Sa (n + 2)) _ [some (pr p), some (pr q)] G
  rw [e]
  have e1 := bm _ _ h1
  have e2 := bm _ _ h2
  have e3 := bm _ _ h3
  simp [evE, evEs, rb, rof, ix0, ix1, ba, e1, e2, e3]
theorem cal_minus (n : Nat) (p q : Int × Int) (G : Gs) (h1 : okMul p.1 q.2 = true) (h2 : okMul q.1 p.2 = true) (h3 : okMul p.2 q.2 = true) : (Sa (n + 3)).cal 3 [pr p, pr q] G = (Sa (n + 2)).cal 1 [.int (p.1 * q.2 - q.1 * p.2), .int (p.2 * q.2)] G := by
  have e : (Sa (n + 3)).cal 3 [pr p, pr q] G = _ := run_ret (Sa (n + 2)) _ [some (pr p), some (pr q)] G
  rw [e]
  have e1 := bm _ _ h1
  have e2 := bm _ _ h2
  have e3 := bm _ _ h3
  simp [evE, evEs, rb, rof, ix0, ix1, bs, e1, e2, e3]
theorem cal_times (n : Nat) (p q : Int × Int) (G : Gs) (h1 : okMul p.1 q.1 = true) (h3 : okMul p.2 q.2 = true) : (Sa (n + 3)).cal 4 [pr p, pr q] G = (Sa (n + 2)).cal 1 [.int (p.1 * q.1), .int (p.2 * q.2)] G := by
  have e : (Sa (n + 3)).cal 4 [pr p, pr q] G = _ := run_ret (Sa (n + 2)) _ [some (pr p), some (pr q)] G
  rw [e]
  have e1 := bm _ _ h1
  have e3 := bm _ _ h3
  simp [evE, evEs, rb, rof, ix0, ix1, e1, e3]
theorem cal_over (n : Nat) (p q : Int × Int) (G : Gs) (h1 : okMul p.1 q.2 = true) (h3 : okMul p.2 q.1 = true) : (Sa (n + 3)).cal 5 [pr p, pr q] G = (Sa (n + 2)).cal 1 [.int (p.1 * q.2), .int (p.2 * q.1)] G := by
  have e : (Sa (n + 3)).cal 5 [pr p, pr q] G = _ := run_ret (Sa (n + 2)) _ [some (pr p), some (pr q)] G
  rw [e]
  have e1 := bm _ _ h1
  have e3 := bm _ _ h3
  simp [evE, evEs, rb, rof, ix0, ix1, e1, e3]
theorem cal_is_less (n : Nat) (p q : Int × Int) (G : Gs) (h1 : okMul p.1 q.2 = true) (h3 : okMul q.1 p.2 = true) : (Sa (n + 1)).cal 6 [pr p, pr q] G = .ok (.bl (decide (p.1 * q.2 < q.1 * p.2))) G := by
  have e : (Sa (n + 1)).cal 6 [pr p, pr q] G = _ := run_ret (Sa n) _ [some (pr p), some (pr q)] G
  rw [e]
  have e1 := bm _ _ h1
  have e3 := bm _ _ h3
  simp [evE, evEs, rb, rof, ix0, ix1, e1, e3, clt]
theorem cal_size (n : Nat) (p : Int × Int) (G : Gs) : (Sa (n + 1)).cal 7 [pr p] G = .ok (pr (if p.1 < 0 then -p.1 else p.1, p.2)) G := rfl
/-! sizes -/
def Sz (m : Nat) (p : Int × Int) : Prop := p.1.natAbs < 2 ^ m ∧ 0 < p.2 ∧ p.2.natAbs < 2 ^ m
theorem log_lt {n m : Nat} (h : n < 2 ^ m) (h0 : 0 < m) : n.log2 < m := by
  by_cases hn : n = 0
  · subst hn
    simpa using h0
  · exact (Nat.log2_lt hn).mpr h
theorem ok_mul {a b : Int} {m k : Nat} (ha : a.natAbs < 2 ^ m) (hb : b.natAbs < 2 ^ k) (hm : m + k < 90000000) : okMul a b = true := by
  have h1 : a.natAbs.log2 ≤ m := by
    by_cases h0 : 0 < m
    · exact Nat.le_of_lt (log_lt ha h0)
    · have : m = 0 := by omega
      subst this
      have : a.natAbs = 0 := by omega
      rw [this]
      simp
  have h2 : b.natAbs.log2 ≤ k := by
    by_cases h0 : 0 < k
    · exact Nat.le_of_lt (log_lt hb h0)
    · have : k = 0 := by omega
      subst this
      have : b.natAbs = 0 := by omega
      rw [this]
      simp
  exact decide_eq_true (by omega)
theorem gOf_pos {t l : Int} (hl : 0 < l) : 0 < gOf t l ∧ gOf t l ≤ l := by
  unfold gOf
  rw [if_neg (by omega)]
  have h1 : 0 < Nat.gcd t.natAbs l.natAbs := Nat.gcd_pos_of_pos_right _ (by omega)
  have h2 := Nat.gcd_le_right t.natAbs (show 0 < l.natAbs by omega)
  omega
theorem ok_div {t l : Int} {m : Nat} (hl : 0 < l) (hb : l.natAbs < 2 ^ m) (hm : m ≤ 9000) : okDiv (gOf t l) = true := by
  obtain ⟨h1, h2⟩ := gOf_pos (t := t) hl
  have h3 : (gOf t l).natAbs < 2 ^ m := by omega
  have h0 : 0 < m := by
    rcases Nat.eq_zero_or_pos m with e | e
    · subst e
      omega
    · exact e
  have h4 := log_lt h3 h0
  simp [okDiv]
  left
  omega
/-- the divisor divides both -/
theorem gOf_dvd (t l : Int) : gOf t l ∣ t ∧ gOf t l ∣ l := by
  have h1 : ((Nat.gcd t.natAbs l.natAbs : Nat) : Int) ∣ t := Int.ofNat_dvd_left.mpr (Nat.gcd_dvd_left _ _)
  have h2 : ((Nat.gcd t.natAbs l.natAbs : Nat) : Int) ∣ l := Int.ofNat_dvd_left.mpr (Nat.gcd_dvd_right _ _)
  unfold gOf
  split
  · exact ⟨Int.neg_dvd.mpr h1, Int.neg_dvd.mpr h2⟩
  · exact ⟨h1, h2⟩
theorem gOf_ne {t l : Int} (h : l ≠ 0) : gOf t l ≠ 0 := by
  have h1 : 0 < Nat.gcd t.natAbs l.natAbs := Nat.gcd_pos_of_pos_right _ (by omega)
  unfold gOf
  split <;> omega
theorem fdiv_mul {g t : Int} (h : g ∣ t) : t.fdiv g * g = t := by
  rw [Int.fdiv_eq_ediv_of_dvd h]
  exact Int.ediv_mul_cancel h
theorem pq1 (t l : Int) : (pq t l).1 * gOf t l = t := fdiv_mul (gOf_dvd t l).1
theorem pq2 (t l : Int) : (pq t l).2 * gOf t l = l := fdiv_mul (gOf_dvd t l).2
theorem pq_cross (t l : Int) : (pq t l).1 * l = t * (pq t l).2 := by
  have h1 := pq1 t l
  have h2 := pq2 t l
  grind
theorem pq_pos {t l : Int} (h : l ≠ 0) : 0 < (pq t l).2 := by
  have h2 := pq2 t l
  have h3 := gOf_ne (t := t) h
  have hg : (0 < l → 0 < gOf t l) ∧ (l < 0 → gOf t l < 0) := by
    have h1 : 0 < Nat.gcd t.natAbs l.natAbs := Nat.gcd_pos_of_pos_right _ (by omega)
    unfold gOf
    split <;> omega
  generalize hg' : gOf t l = g at *
  generalize hy : (pq t l).2 = y at *
  rcases Int.lt_trichotomy y 0 with hy0 | hy0 | hy0
  · exfalso
    rcases Int.lt_or_gt_of_ne h with hl | hl
    · have := Int.mul_pos_of_neg_of_neg hy0 (hg.2 hl)
      omega
    · have := Int.mul_neg_of_neg_of_pos hy0 (hg.1 hl)
      omega
  · subst hy0
    simp at h2
    omega
  · exact hy0
theorem pq_cop {t l : Int} (h : l ≠ 0) : Nat.gcd (pq t l).1.natAbs (pq t l).2.natAbs = 1 := by
  have h1 := congrArg Int.natAbs (pq1 t l)
  have h2 := congrArg Int.natAbs (pq2 t l)
  rw [Int.natAbs_mul] at h1 h2
  have hg : (gOf t l).natAbs = Nat.gcd t.natAbs l.natAbs := by
    unfold gOf
    split <;> omega
  have h0 : 0 < Nat.gcd t.natAbs l.natAbs := Nat.gcd_pos_of_pos_right _ (by omega)
  have e := Nat.gcd_mul_right (pq t l).1.natAbs (gOf t l).natAbs (pq t l).2.natAbs
  rw [h1, h2, hg] at e
  exact Nat.eq_of_mul_eq_mul_right h0 (by omega)
theorem red_eq {x y u v : Int} (hy : 0 < y) (hv : 0 < v) (h1 : Nat.gcd x.natAbs y.natAbs = 1) (h2 : Nat.gcd u.natAbs v.natAbs = 1) (h : x * v = u * y) : x = u ∧ y = v := by
  have e := congrArg Int.natAbs h
  rw [Int.natAbs_mul, Int.natAbs_mul] at e
  have d1 : y.natAbs ∣ v.natAbs := by
    have : y.natAbs ∣ x.natAbs * v.natAbs := ⟨u.natAbs, by rw [e, Nat.mul_comm]⟩
    exact Nat.Coprime.dvd_of_dvd_mul_left (by show Nat.gcd _ _ = 1; rw [Nat.gcd_comm]; exact h1) this
  have d2 : v.natAbs ∣ y.natAbs := by
    have : v.natAbs ∣ u.natAbs * y.natAbs := ⟨x.natAbs, by rw [← e, Nat.mul_comm]⟩
    exact Nat.Coprime.dvd_of_dvd_mul_left (by show Nat.gcd _ _ = 1; rw [Nat.gcd_comm]; exact h2) this
  have e2 := Nat.dvd_antisymm d1 d2
  have e3 : y = v := by omega
  subst e3
  exact ⟨Int.eq_of_mul_eq_mul_right (by omega) h, rfl⟩
theorem pq_eq {t l t' l' : Int} (h : l ≠ 0) (h' : l' ≠ 0) (e : t * l' = t' * l) : pq t l = pq t' l' := by
  have c1 := pq_cross t l
  have c2 := pq_cross t' l'
  have p1 := pq_pos (t := t) h
  have p2 := pq_pos (t := t') h'
  have k : (pq t l).1 * (pq t' l').2 = (pq t' l').1 * (pq t l).2 := by
    have : l * l' * ((pq t l).1 * (pq t' l').2) = l * l' * ((pq t' l').1 * (pq t l).2) := by grind
    exact Int.eq_of_mul_eq_mul_left (Int.mul_ne_zero h h') this
  obtain ⟨e1, e2⟩ := red_eq p1 p2 (pq_cop h) (pq_cop h') k
  exact Prod.ext e1 e2
theorem natAbs_le_of_mul {x g t : Int} (h : x * g = t) (hg : g ≠ 0) : x.natAbs ≤ t.natAbs := by
  rw [← h, Int.natAbs_mul]
  exact Nat.le_mul_of_pos_right _ (by omega)
theorem pq_sz {t l : Int} {m : Nat} (h : l ≠ 0) (h1 : t.natAbs < 2 ^ m) (h2 : l.natAbs < 2 ^ m) : Sz m (pq t l) := by
  have a1 := natAbs_le_of_mul (pq1 t l) (gOf_ne h)
  have a2 := natAbs_le_of_mul (pq2 t l) (gOf_ne h)
  exact ⟨by omega, pq_pos h, by omega⟩
theorem mul_lt2 {a b : Int} {m k : Nat} (ha : a.natAbs < 2 ^ m) (hb : b.natAbs < 2 ^ k) : (a * b).natAbs < 2 ^ (m + k) := by
  rw [Int.natAbs_mul, Nat.pow_add]
  exact Nat.mul_lt_mul'' ha hb
def pl (p q : Int × Int) : Int × Int := pq (p.1 * q.2 + q.1 * p.2) (p.2 * q.2)
def mn (p q : Int × Int) : Int × Int := pq (p.1 * q.2 - q.1 * p.2) (p.2 * q.2)
def tm (p q : Int × Int) : Int × Int := pq (p.1 * q.1) (p.2 * q.2)
section
variable {m k : Nat} {p q : Int × Int} (n : Nat) (G : Gs) (hp : Sz m p) (hq : Sz k q) (hm : m + k < 9000)
include hp hq hm
theorem sz_pl : Sz (m + k + 1) (pl p q) ∧ (Sa (n + 3)).cal 2 [pr p, pr q] G = .ok (pr (pl p q)) G ∧ (Sa (n + 2)).cal 1 [.int (p.1 * q.2 + q.1 * p.2), .int (p.2 * q.2)] G = .ok (pr (pl p q)) G := by
  obtain ⟨p1, p2, p3⟩ := hp
  obtain ⟨q1, q2, q3⟩ := hq
  have h0 := Int.mul_pos p2 q2
  have a1 := mul_lt2 p1 q3
  have a2 := mul_lt2 q1 p3
  have a3 := mul_lt2 p3 q3
  rw [Nat.add_comm k m] at a2
  have e : 2 ^ (m + k + 1) = 2 * 2 ^ (m + k) := by rw [Nat.pow_succ, Nat.mul_comm]
  have c : (Sa (n + 2)).cal 1 [.int (p.1 * q.2 + q.1 * p.2), .int (p.2 * q.2)] G = .ok (pr (pl p q)) G := cal_part n _ _ G (by omega) (ok_div h0 a3 (by omega))
  refine ⟨pq_sz (by omega) (by omega) (by omega), ?_, c⟩
  rw [cal_plus n p q G (ok_mul p1 q3 (by omega)) (ok_mul q1 p3 (by omega)) (ok_mul p3 q3 (by omega)), c]
theorem sz_mn : (Sa (n + 3)).cal 3 [pr p, pr q] G = .ok (pr (mn p q)) G := by
  obtain ⟨p1, p2, p3⟩ := hp
  obtain ⟨q1, q2, q3⟩ := hq
  have h0 := Int.mul_pos p2 q2
  rw [cal_minus n p q G (ok_mul p1 q3 (by omega)) (ok_mul q1 p3 (by omega)) (ok_mul p3 q3 (by omega))]
  exact cal_part n _ _ G (by omega) (ok_div h0 (mul_lt2 p3 q3) (by omega))
theorem sz_tm : Sz (m + k) (tm p q) ∧ (Sa (n + 3)).cal 4 [pr p, pr q] G = .ok (pr (tm p q)) G ∧ (Sa (n + 2)).cal 1 [.int (p.1 * q.1), .int (p.2 * q.2)] G = .ok (pr (tm p q)) G := by
  obtain ⟨p1, p2, p3⟩ := hp
  obtain ⟨q1, q2, q3⟩ := hq
  have h0 := Int.mul_pos p2 q2
  have a1 := mul_lt2 p1 q1
  have a3 := mul_lt2 p3 q3
  have c : (Sa (n + 2)).cal 1 [.int (p.1 * q.1), .int (p.2 * q.2)] G = .ok (pr (tm p q)) G := cal_part n _ _ G (by omega) (ok_div h0 a3 (by omega))
  refine ⟨pq_sz (by omega) a1 a3, ?_, c⟩
  rw [cal_times n p q G (ok_mul p1 q1 (by omega)) (ok_mul p3 q3 (by omega)), c]
end
end LK
end
/-! ## KM2 -/
section
set_option Elab.async false
set_option linter.all false
set_option maxRecDepth 200000
set_option maxHeartbeats 8000000
namespace LK
open PySem PV
/-! steps -/
section
variable {S : PV.Sem} {ρ ρ1 ρ2 : PV.Env} {G G1 G2 : Gs}
theorem x_v {i : Nat} {d : D} (h : ρ[i]? = some (some d) := by rfl) : evE S ρ (.var i) G = .ok d G := by simp only [evE, h]
theorem x_c {d : D} : evE S ρ (.con d) G = .ok d G := rfl
theorem x_bin {o : Bop} {a b : PV.E} {x y d : D} (h1 : evE S ρ a G = .ok x G1) (h2 : evE S ρ b G1 = .ok y G2) (h3 : binD o x y = some d) : evE S ρ (.bin o a b) G = .ok d G2 := by simp only [evE, h1, h2, rb, h3, rof]
theorem x_cmp {o : Cop} {a b : PV.E} {x y : D} {c : Bool} (h1 : evE S ρ a G = .ok x G1) (h2 : evE S ρ b G1 = .ok y G2) (h3 : cmpD o x y = some c) : evE S ρ (.cmp o a b) G = .ok (.bl c) G2 := by simp only [evE, h1, h2, rb, h3, rof, Option.map]
theorem x_orf {a b : PV.E} {r : R D} (h1 : evE S ρ a G = .ok (.bl false) G1) (h2 : evE S ρ b G1 = r) : evE S ρ (.or a b) G = r := by simp only [evE, h1, h2, rb]
theorem x_andt {a b : PV.E} {r : R D} (h1 : evE S ρ a G = .ok (.bl true) G1) (h2 : evE S ρ b G1 = r) : evE S ρ (.and a b) G = r := by simp only [evE, h1, h2, rb]
theorem x_itet {c a b : PV.E} {r : R D} (h1 : evE S ρ c G = .ok (.bl true) G1) (h2 : evE S ρ a G1 = r) : evE S ρ (.ite c a b) G = r := by simp only [evE, h1, h2, rb]
theorem x_itef {c a b : PV.E} {r : R D} (h1 : evE S ρ c G = .ok (.bl false) G1) (h2 : evE S ρ b G1 = r) : evE S ρ (.ite c a b) G = r := by simp only [evE, h1, h2, rb]
theorem x_es0 : evEs S ρ [] G = .ok [] G := rfl
theorem x_es {e : PV.E} {es : List PV.E} {d : D} {ds : List D} (h1 : evE S ρ e G = .ok d G1) (h2 : evEs S ρ es G1 = .ok ds G2) : evEs S ρ (e :: es) G = .ok (d :: ds) G2 := by simp only [evEs, h1, h2, rb]
theorem x_call {f : Nat} {es : List PV.E} {ds : List D} {r : R D} (h1 : evEs S ρ es G = .ok ds G1) (h2 : S.cal f ds G1 = r) : evE S ρ (.call f es) G = r := by simp only [evE, h1, h2, rb]
theorem x_prim {p : Pr} {es : List PV.E} {ds : List D} {d : D} (h1 : evEs S ρ es G = .ok ds G1) (h2 : prim G1 p ds = some d) : evE S ρ (.prim p es) G = .ok d G1 := by simp only [evE, h1, h2, rb, rof]
theorem x_meth {m : Mt} {a : PV.E} {es : List PV.E} {s : Str} {ds : List D} {d : D} (h0 : evE S ρ a G = .ok (.str s) G1) (h1 : evEs S ρ es G1 = .ok ds G2) (h2 : meth m s ds = some d) : evE S ρ (.meth m a es) G = .ok d G2 := by simp only [evE, h0, h1, h2, rb, rof]
theorem x_tup {es : List PV.E} {ds : List D} (h1 : evEs S ρ es G = .ok ds G1) (h2 : ds.length ≤ sizeLine := by exact Nat.le_of_ble_eq_true rfl) : evE S ρ (.tup es) G = .ok (.tup ds) G1 := by simp only [evE, h1, rb, if_pos h2]
theorem x_lst {es : List PV.E} {ds : List D} (h1 : evEs S ρ es G = .ok ds G1) (h2 : ds.length ≤ sizeLine := by exact Nat.le_of_ble_eq_true rfl) : evE S ρ (.lst es) G = .ok (.lst ds) G1 := by simp only [evE, h1, rb, if_pos h2]
theorem x_lstC {es : List PV.E} {ds : List D} (h1 : evEs S ρ es G = .ok ds G1) (h2 : ds.length ≤ sizeLine := by exact Nat.le_of_ble_eq_true rfl) : evE S ρ (.lstC es) G = .ok (.cell G1.length) (G1 ++ [some ds]) := by simp only [evE, h1, rb, if_pos h2]
theorem x_ix {a b : PV.E} {x y d : D} (h1 : evE S ρ a G = .ok x G1) (h2 : evE S ρ b G1 = .ok y G2) (h3 : ixD G2 x y = some d) : evE S ρ (.ix a b) G = .ok d G2 := by simp only [evE, h1, h2, rb, h3, rof]
theorem s_set {t : Tg} {e : PV.E} {d : D} (h1 : evE S ρ e G = .ok d G1) (h2 : PV.assign ρ t d = some ρ1 := by rfl) : evS S (.set t e) ρ G = .next ρ1 G1 := by simp only [evS, h1, rgo, h2]
theorem s_ex {e : PV.E} {d : D} (h1 : evE S ρ e G = .ok d G1) : evS S (.ex e) ρ G = .next ρ G1 := by simp only [evS, h1, rgo]
theorem s_ret {e : PV.E} {d : D} (h1 : evE S ρ e G = .ok d G1) : evS S (.ret e) ρ G = .ret d G1 := by simp only [evS, h1, rgo]
theorem s_itef {c : PV.E} {a b : List St} {r : F} (h1 : evE S ρ c G = .ok (.bl false) G1) (h2 : evB S b ρ G1 = r) : evS S (.ite c a b) ρ G = r := by simp only [evS, h1, rgo, h2]
theorem s_itet {c : PV.E} {a b : List St} {r : F} (h1 : evE S ρ c G = .ok (.bl true) G1) (h2 : evB S a ρ G1 = r) : evS S (.ite c a b) ρ G = r := by simp only [evS, h1, rgo, h2]
theorem s_if0 {c : PV.E} {a : List St} (h1 : evE S ρ c G = .ok (.bl false) G1) : evS S (.ite c a []) ρ G = .next ρ G1 := s_itef h1 rfl
theorem s_for {t : Tg} {it : It} {b : List St} {ds : List D} {r : F} (h1 : evI S ρ it G = .ok ds G1) (h2 : forL (fun d ρ1 G2 => match PV.assign ρ1 t d with | some ρ2 => evB S b ρ2 G2 | none => .bad) ds ρ G1 = r) : evS S (.for_ t it b) ρ G = r := by
  simp only [evS, h1, rgo]
  exact h2
theorem b_next {s : St} {r : List St} {x : F} (h1 : evS S s ρ G = .next ρ1 G1) (h2 : evB S r ρ1 G1 = x) : evB S (s :: r) ρ G = x := by simp only [evB, h1, rth, h2]
theorem b_ret {s : St} {r : List St} {d : D} (h1 : evS S s ρ G = .ret d G1) : evB S (s :: r) ρ G = .ret d G1 := by simp only [evB, h1, rtr]
theorem i_seq {a : PV.E} {x : D} {ds : List D} (h1 : evE S ρ a G = .ok x G1) (h2 : walkOf x = some ds := by rfl) : evI S ρ (.seq a) G = .ok ds G1 := by simp only [evI, h1, rb, h2, rof]
theorem i_rng {a : PV.E} {j : Int} (h1 : evE S ρ a G = .ok (.int j) G1) (h2 : -(2 ^ 62) ≤ j ∧ j < 2 ^ 62) : evI S ρ (.rng1 a) G = .ok (rangeD 0 j) G1 := by simp only [evI, h1, rb, if_pos h2]
theorem run_d (f : Fn) {args : List D} {d : D} (h : args.length = f.np) (hρ : args.map some ++ List.replicate (f.ns - f.np) none = ρ) (hb : evB S f.body ρ G = .ret d G1) : runFn S f args G = .ok d G1 := by
  subst hρ
  have e : runFn S f args G = _ := if_pos h
  rw [e, hb]
end
/-! rows of parts -/
theorem toPys_pr : ∀ ps : List (Int × Int), toPys (ps.map pr) = some (ps.map fun p => .tuple [.int p.1, .int p.2])
  | [] => rfl
  | p :: ps => by
    show (match toPy (pr p), toPys (ps.map pr) with | some p, some ps => some (p :: ps) | _, _ => none) = _
    rw [toPys_pr ps]
    rfl
theorem lay_pr : ∀ ps : List (Int × Int), PyData.canLayAll0 (ps.map fun p => .tuple [.int p.1, .int p.2]) = true
  | [] => rfl
  | p :: ps => by
    have e : PyData.canLayAll0 ((p :: ps).map fun p => .tuple [.int p.1, .int p.2]) = (PyData.canLayAll0 [.int p.1, .int p.2] && PyData.canLayAll0 (ps.map fun p => .tuple [.int p.1, .int p.2])) := rfl
    rw [e, lay_pr ps]
    rfl
theorem dep_pr : ∀ ps : List (Int × Int), PyData.depthAll (ps.map fun p => .tuple [.int p.1, .int p.2]) ≤ 1
  | [] => by decide
  | p :: ps => by
    have e : PyData.depthAll ((p :: ps).map fun p => .tuple [.int p.1, .int p.2]) = max 1 (PyData.depthAll (ps.map fun p => .tuple [.int p.1, .int p.2])) := rfl
    rw [e]
    have := dep_pr ps
    omega
theorem eqv_pr : ∀ ps : List (Int × Int), PyData.eqvAll (ps.map fun p => .tuple [.int p.1, .int p.2]) (ps.map fun p => .tuple [.int p.1, .int p.2]) = true
  | [] => rfl
  | p :: ps => by
    have e : PyData.eqvAll ((p :: ps).map fun p => .tuple [.int p.1, .int p.2]) ((p :: ps).map fun p => .tuple [.int p.1, .int p.2]) = ((decide (p.1 = p.1) && (decide (p.2 = p.2) && true)) && PyData.eqvAll (ps.map fun p => .tuple [.int p.1, .int p.2]) (ps.map fun p => .tuple [.int p.1, .int p.2])) := rfl
    rw [e, eqv_pr ps]
    simp
theorem eqD_rows (ps : List (Int × Int)) : eqD (.lst (ps.map pr)) (.lst (ps.map pr)) = some true := by
  have h1 : toPy (.lst (ps.map pr)) = some (.list (ps.map fun p => .tuple [.int p.1, .int p.2])) := by
    show (toPys (ps.map pr)).map PyData.list = _
    rw [toPys_pr]
    rfl
  have h2 : SeqAt.shaped (.list (ps.map fun p => .tuple [.int p.1, .int p.2])) = true := by
    have d := dep_pr ps
    show (PyData.canLayAll0 (ps.map fun p => .tuple [.int p.1, .int p.2]) && decide (PyData.depthAll (ps.map fun p => .tuple [.int p.1, .int p.2]) + 1 ≤ 64)) = true
    rw [lay_pr, decide_eq_true (by omega)]
    rfl
  unfold eqD
  rw [h1]
  show (if (SeqAt.shaped _ && SeqAt.shaped _) = true then some (PyData.eqv _ _) else none) = _
  rw [h2]
  exact congrArg some (eqv_pr ps)
/-! comprehensions -/
theorem compL_map {α : Type} (f : D → Gs → R (Option D)) (a g : α → D) (G : Gs) : ∀ xs : List α, (∀ x ∈ xs, f (a x) G = .ok (some (g x)) G) → compL f (xs.map a) G = .ok (xs.map g) G
  | [], _ => rfl
  | x :: xs, h => by
    show (f (a x) G).bind _ = _
    rw [h x (List.mem_cons_self ..), rb]
    show (compL f (xs.map a) G).bind _ = _
    rw [compL_map f a g G xs fun y hy => h y (List.mem_cons_of_mem _ hy), rb]
    rfl
theorem comp_map {α : Type} {S : PV.Sem} {ρ : PV.Env} {own : List Nat} {el : PV.E} {tg : Tg} {it : It} {G : Gs} (xs : List α) (a g : α → D) (ρx : α → PV.Env) (h1 : evI S ρ it G = .ok (xs.map a) G) (h2 : ∀ x ∈ xs, PV.assign (wipeE ρ own) tg (a x) = some (ρx x)) (h3 : ∀ x ∈ xs, evE S (ρx x) el G = .ok (g x) G) (h4 : xs.length < sizeLine) : evE S ρ (.comp own el tg it []) G = .ok (.lst (xs.map g)) G := by
  simp only [evE, h1, rb]
  rw [compL_map _ a g G xs fun x hx => by
    rw [h2 x hx]
    simp only [evT, rb, if_true]
    rw [h3 x hx, rb]]
  simp only [R.calm, rb, List.length_map]
  rw [if_pos h4]
/-! total, product -/
theorem loop_total (n k : Nat) (L : Option D) (G : Gs) : ∀ (ps : List (Int × Int)) (m : Nat) (f : Int × Int) (z : Option D), Sz m f → (∀ p ∈ ps, Sz k p) → m + ps.length * (k + 1) < 9000 →
    ∃ z', forL (fun d ρ1 G2 => match PV.assign ρ1 (.nm 2) d with | some ρ2 => evB (Sa (n + 3)) [.set (.nm 1) (.call 2 [.var 1, .var 2])] ρ2 G2 | none => .bad) (ps.map pr) [L, some (pr f), z] G = .next [L, some (pr (ps.foldl pl f)), z'] G
  | [], m, f, z, _, _, _ => ⟨z, rfl⟩
  | p :: ps, m, f, z, hf, hp, hm => by
    have hl : m + k < 9000 ∧ m + k + 1 + ps.length * (k + 1) < 9000 := by
      rw [List.length_cons, Nat.succ_mul] at hm
      omega
    obtain ⟨s, c, _⟩ := sz_pl n G hf (hp p (List.mem_cons_self ..)) hl.1
    obtain ⟨z', h⟩ := loop_total n k L G ps (m + k + 1) (pl f p) (some (pr p)) s (fun q hq => hp q (List.mem_cons_of_mem _ hq)) hl.2
    refine ⟨z', ?_⟩
    rw [List.map_cons, List.foldl_cons, ← h]
    simp [forL, PV.assign, evB, evS, evE, evEs, rb, rgo, rth, c]
theorem loop_prod (n k : Nat) (L : Option D) (G : Gs) : ∀ (ps : List (Int × Int)) (m : Nat) (f : Int × Int) (z : Option D), Sz m f → (∀ p ∈ ps, Sz k p) → m + ps.length * k < 9000 →
    ∃ z', forL (fun d ρ1 G2 => match PV.assign ρ1 (.nm 2) d with | some ρ2 => evB (Sa (n + 3)) [.set (.nm 1) (.call 4 [.var 1, .var 2])] ρ2 G2 | none => .bad) (ps.map pr) [L, some (pr f), z] G = .next [L, some (pr (ps.foldl tm f)), z'] G
  | [], m, f, z, _, _, _ => ⟨z, rfl⟩
  | p :: ps, m, f, z, hf, hp, hm => by
    have hl : m + k < 9000 ∧ m + k + ps.length * k < 9000 := by
      rw [List.length_cons, Nat.succ_mul] at hm
      omega
    obtain ⟨s, c, _⟩ := sz_tm n G hf (hp p (List.mem_cons_self ..)) hl.1
    obtain ⟨z', h⟩ := loop_prod n k L G ps (m + k) (tm f p) (some (pr p)) s (fun q hq => hp q (List.mem_cons_of_mem _ hq)) hl.2
    refine ⟨z', ?_⟩
    rw [List.map_cons, List.foldl_cons, ← h]
    simp [forL, PV.assign, evB, evS, evE, evEs, rb, rgo, rth, c]
theorem sz01 : Sz 1 (0, 1) := ⟨by decide, by decide, by decide⟩
theorem sz11 : Sz 1 (1, 1) := ⟨by decide, by decide, by decide⟩
def sumL (ps : List (Int × Int)) : Int × Int := ps.foldl pl (0, 1)
def prodL (ps : List (Int × Int)) : Int × Int := ps.foldl tm (1, 1)
theorem cal_total (n k : Nat) (G : Gs) (ps : List (Int × Int)) (h : ∀ p ∈ ps, Sz k p) (hm : 1 + ps.length * (k + 1) < 9000) : (Sa (n + 4)).cal 8 [.lst (ps.map pr)] G = .ok (pr (sumL ps)) G := by
  obtain ⟨z, e⟩ := loop_total n k (some (.lst (ps.map pr))) G ps 1 (0, 1) none sz01 h hm
  exact run_d m_total (args := [.lst (ps.map pr)]) (S := Sa (n + 3)) (ρ := [some (.lst (ps.map pr)), none, none]) rfl rfl (b_next (s_set (x_tup (x_es x_c (x_es x_c x_es0)))) (b_next (s_for (i_seq x_v) e) (b_ret (s_ret x_v))))
theorem cal_product (n k : Nat) (G : Gs) (ps : List (Int × Int)) (h : ∀ p ∈ ps, Sz k p) (hm : 1 + ps.length * k < 9000) : (Sa (n + 4)).cal 9 [.lst (ps.map pr)] G = .ok (pr (prodL ps)) G := by
  obtain ⟨z, e⟩ := loop_prod n k (some (.lst (ps.map pr))) G ps 1 (1, 1) none sz11 h hm
  exact run_d m_product (args := [.lst (ps.map pr)]) (S := Sa (n + 3)) (ρ := [some (.lst (ps.map pr)), none, none]) rfl rfl (b_next (s_set (x_tup (x_es x_c (x_es x_c x_es0)))) (b_next (s_for (i_seq x_v) e) (b_ret (s_ret x_v))))
/-! scaled, added, dot, raised -/
theorem cal_scaled (n k m : Nat) (G : Gs) (ps : List (Int × Int)) (q : Int × Int) (h : ∀ p ∈ ps, Sz k p) (hq : Sz m q) (hm : k + m < 9000) (hl : ps.length < 1000) : (Sa (n + 4)).cal 14 [.lst (ps.map pr), pr q] G = .ok (.tup ((ps.map fun p => tm p q).map pr)) G := by
  have c : evE (Sa (n + 3)) [some (.lst (ps.map pr)), some (pr q), none] (.comp [2] (.call 4 [.var 2, .var 1]) (.nm 2) (.seq (.var 0)) []) G = .ok (.lst (ps.map fun p => pr (tm p q))) G :=
    comp_map ps pr _ (fun p => [some (.lst (ps.map pr)), some (pr q), some (pr p)]) rfl (fun p _ => rfl) (fun p hp => x_call (x_es x_v (x_es x_v x_es0)) (sz_tm n G (h p hp) hq hm).2.1) (by rw [szl]; omega)
  rw [List.map_map]
  exact run_d m_scaled (args := [.lst (ps.map pr), pr q]) (S := Sa (n + 3)) (ρ := [some (.lst (ps.map pr)), some (pr q), none]) rfl rfl (b_ret (s_ret (x_prim (x_es c x_es0) rfl)))
theorem cal_check (n : Nat) (G : Gs) (xs ys : List D) (h : xs.length = ys.length) : (Sa (n + 1)).cal 17 [.lst xs, .lst ys] G = .ok .non G := by
  have e : evE (Sa n) [some (.lst xs), some (.lst ys)] (.cmp .ne (.prim .len [.var 0]) (.prim .len [.var 1])) G = .ok (.bl false) G := by
    have a : evE (Sa n) [some (.lst xs), some (.lst ys)] (.cmp .ne (.prim .len [.var 0]) (.prim .len [.var 1])) G = .ok (.bl (!(decide ((xs.length : Int) = (ys.length : Int))))) G := rfl
    rw [a, h]
    simp
  have b : evB (Sa n) [.ite (.cmp .ne (.prim .len [.var 0]) (.prim .len [.var 1])) [.raise 0 (.fmt [.con (.str "rows of "), .fv (.prim .len [.var 0]), .con (.str " and "), .fv (.prim .len [.var 1]), .con (.str " parts")])] []] [some (.lst xs), some (.lst ys)] G = .next [some (.lst xs), some (.lst ys)] G := b_next (s_if0 e) rfl
  show (match evB (Sa n) m_check_lengths.body [some (.lst xs), some (.lst ys)] G with | .next _ G' => (.ok .non G' : R D) | .ret d G' => .ok d G' | .exc c G' => .exc c G' | _ => .bad) = _
  rw [show evB (Sa n) m_check_lengths.body [some (.lst xs), some (.lst ys)] G = _ from b]
theorem zip_pr (ps qs : List (Int × Int)) : (((ps.map pr).zip (qs.map pr)).map fun p => D.tup [p.1, p.2]) = (ps.zip qs).map fun x => D.tup [pr x.1, pr x.2] := by
  rw [List.zip_map, List.map_map]
  rfl
theorem mem_zip {α β : Type} {x : α × β} : ∀ {xs : List α} {ys : List β}, x ∈ xs.zip ys → x.1 ∈ xs ∧ x.2 ∈ ys := fun h => ⟨(List.of_mem_zip h).1, (List.of_mem_zip h).2⟩
theorem zip_it {S : PV.Sem} {G : Gs} (ps qs : List (Int × Int)) (r : PV.Env) (hE : ps.length = qs.length) : evI S (some (.lst (ps.map pr)) :: some (.lst (qs.map pr)) :: r) (.zip2 (.var 0) (.var 1)) G = .ok ((ps.zip qs).map fun x => D.tup [pr x.1, pr x.2]) G := by
  rw [← zip_pr]
  show R.of (if (ps.map pr).length = (qs.map pr).length then some _ else none) G = _
  rw [if_pos (by simp [hE])]
  rfl
theorem cal_added (n k m : Nat) (G : Gs) (ps qs : List (Int × Int)) (h : ∀ p ∈ ps, Sz k p) (hq : ∀ q ∈ qs, Sz m q) (hm : k + m < 9000) (hl : ps.length < 1000) (hE : ps.length = qs.length) : (Sa (n + 4)).cal 15 [.lst (ps.map pr), .lst (qs.map pr)] G = .ok (.tup (((ps.zip qs).map fun x => pl x.1 x.2).map pr)) G := by
  have c : evE (Sa (n + 3)) [some (.lst (ps.map pr)), some (.lst (qs.map pr)), none, none] (.comp [2, 3] (.call 2 [.var 2, .var 3]) (.tp [2, 3]) (.zip2 (.var 0) (.var 1)) []) G = .ok (.lst ((ps.zip qs).map fun x => pr (pl x.1 x.2))) G :=
    comp_map (ps.zip qs) (fun x => D.tup [pr x.1, pr x.2]) _ (fun x => [some (.lst (ps.map pr)), some (.lst (qs.map pr)), some (pr x.1), some (pr x.2)]) (zip_it ps qs _ hE) (fun p _ => rfl) (fun p hp => x_call (x_es x_v (x_es x_v x_es0)) (sz_pl n G (h p.1 (mem_zip hp).1) (hq p.2 (mem_zip hp).2) hm).2.1) (by rw [szl, List.length_zip]; omega)
  rw [List.map_map]
  exact run_d m_rows_added (args := [.lst (ps.map pr), .lst (qs.map pr)]) (S := Sa (n + 3)) (ρ := [some (.lst (ps.map pr)), some (.lst (qs.map pr)), none, none]) rfl rfl (b_next (s_ex (x_call (x_es x_v (x_es x_v x_es0)) (cal_check (n + 2) G (ps.map pr) (qs.map pr) (by simp [hE])))) (b_ret (s_ret (x_prim (x_es c x_es0) rfl))))
theorem cal_dot (n k m : Nat) (G : Gs) (ps qs : List (Int × Int)) (h : ∀ p ∈ ps, Sz k p) (hq : ∀ q ∈ qs, Sz m q) (hm : 1 + ps.length * (k + m + 1) < 9000) (hkm : k + m < 9000) (hl : ps.length < 1000) (hE : ps.length = qs.length) : (Sa (n + 5)).cal 16 [.lst (ps.map pr), .lst (qs.map pr)] G = .ok (pr (sumL ((ps.zip qs).map fun x => tm x.1 x.2))) G := by
  have c : evE (Sa (n + 4)) [some (.lst (ps.map pr)), some (.lst (qs.map pr)), none, none] (.comp [2, 3] (.call 4 [.var 2, .var 3]) (.tp [2, 3]) (.zip2 (.var 0) (.var 1)) []) G = .ok (.lst ((ps.zip qs).map fun x => pr (tm x.1 x.2))) G :=
    comp_map (ps.zip qs) (fun x => D.tup [pr x.1, pr x.2]) _ (fun x => [some (.lst (ps.map pr)), some (.lst (qs.map pr)), some (pr x.1), some (pr x.2)]) (zip_it ps qs _ hE) (fun p _ => rfl) (fun p hp => x_call (x_es x_v (x_es x_v x_es0)) (sz_tm (n + 1) G (h p.1 (mem_zip hp).1) (hq p.2 (mem_zip hp).2) hkm).2.1) (by rw [szl, List.length_zip]; omega)
  have t := cal_total n (k + m) G ((ps.zip qs).map fun x => tm x.1 x.2) (fun p hp => by
    obtain ⟨x, hx, rfl⟩ := List.mem_map.mp hp
    exact (sz_tm 0 G (h x.1 (mem_zip hx).1) (hq x.2 (mem_zip hx).2) hkm).1) (by
    rw [List.length_map, List.length_zip, hE, Nat.min_self, ← hE]
    exact hm)
  rw [List.map_map] at t
  exact run_d m_dot (args := [.lst (ps.map pr), .lst (qs.map pr)]) (S := Sa (n + 4)) (ρ := [some (.lst (ps.map pr)), some (.lst (qs.map pr)), none, none]) rfl rfl (b_next (s_ex (x_call (x_es x_v (x_es x_v x_es0)) (cal_check (n + 3) G (ps.map pr) (qs.map pr) (by simp [hE])))) (b_ret (s_ret (x_call (x_es c x_es0) t))))
theorem rep_pr (p : Int × Int) (c : Nat) : (List.replicate c [pr p]).flatten = (List.replicate c p).map pr := by
  induction c with
  | zero => rfl
  | succ c ih =>
    rw [List.replicate_succ, List.flatten_cons, ih]
    rfl
theorem mul_rep (p : Int × Int) (c : Int) (h0 : 0 ≤ c) (h1 : c ≤ 1000) : binD .mul (.lst [pr p]) (.int c) = some (.lst ((List.replicate c.toNat p).map pr)) := by
  rw [← rep_pr]
  exact if_pos ⟨h0, h1, by simp⟩
theorem cal_prodrep (n k : Nat) (G : Gs) (p : Int × Int) (c : Int) (hp : Sz k p) (hm : 1 + c.toNat * k < 9000) : (Sa (n + 4)).cal 9 [.lst ((List.replicate c.toNat p).map pr)] G = .ok (pr (prodL (List.replicate c.toNat p))) G :=
  cal_product n k G (List.replicate c.toNat p) (fun q hq => by rw [(List.mem_replicate.mp hq).2]; exact hp) (by rw [List.length_replicate]; exact hm)
theorem cal_raised (n k : Nat) (G : Gs) (p : Int × Int) (c : Int) (hp : Sz k p) (h0 : 0 ≤ c) (h1 : c ≤ 1000) (hm : 1 + c.toNat * k < 9000) : (Sa (n + 5)).cal 10 [pr p, .int c] G = .ok (pr (prodL (List.replicate c.toNat p))) G := by
  have hc : cmpD .lt (.int c) (.int 0) = some false := by rw [clt, decide_eq_false (by omega)]
  exact run_d m_raised (args := [pr p, .int c]) (S := Sa (n + 4)) (ρ := [some (pr p), some (.int c)]) rfl rfl (b_next (s_if0 (x_cmp x_v x_c hc)) (b_ret (s_ret (x_call (x_es (x_bin (x_lst (x_es x_v x_es0)) x_v (mul_rep p c h0 h1)) x_es0) (cal_prodrep n k G p c hp hm)))))
end LK
end
/-! ## KM3 -/
section
set_option Elab.async false
set_option linter.all false
set_option maxRecDepth 200000
set_option maxHeartbeats 8000000
namespace LK
open PySem PV
section
variable {S : PV.Sem} {ρ ρ1 ρ2 : PV.Env} {G G1 G2 G3 G4 : Gs}
theorem s_setix {o i e : PV.E} {v x y : D} (h1 : evE S ρ e G = .ok v G1) (h2 : evE S ρ o G1 = .ok x G2) (h3 : evE S ρ i G2 = .ok y G3) (h4 : setD G3 x y v = some G4) : evS S (.setix o i e) ρ G = .next ρ G4 := by simp only [evS, h1, h2, h3, rgo, h4]
theorem x_ort {a b : PV.E} (h1 : evE S ρ a G = .ok (.bl true) G1) : evE S ρ (.or a b) G = .ok (.bl true) G1 := by simp only [evE, h1, rb]
theorem x_andf {a b : PV.E} (h1 : evE S ρ a G = .ok (.bl false) G1) : evE S ρ (.and a b) G = .ok (.bl false) G1 := by simp only [evE, h1, rb]
theorem x_cht {o1 o2 : Cop} {a b c : PV.E} {x y z : D} {r : Bool} (h1 : evE S ρ a G = .ok x G1) (h2 : evE S ρ b G1 = .ok y G2) (h3 : cmpD o1 x y = some true) (h4 : evE S ρ c G2 = .ok z G3) (h5 : cmpD o2 y z = some r) : evE S ρ (.chain o1 o2 a b c) G = .ok (.bl r) G3 := by simp only [evE, h1, h2, rb, h3, h4, h5, rof, Option.map]
theorem x_chf {o1 o2 : Cop} {a b c : PV.E} {x y : D} (h1 : evE S ρ a G = .ok x G1) (h2 : evE S ρ b G1 = .ok y G2) (h3 : cmpD o1 x y = some false) : evE S ρ (.chain o1 o2 a b c) G = .ok (.bl false) G2 := by simp only [evE, h1, h2, rb, h3]
theorem x_sl1 {a hi : PV.E} {x d : D} {j : Int} (h1 : evE S ρ a G = .ok x G1) (h2 : evE S ρ hi G1 = .ok (.int j) G2) (h3 : slD x none (some j) = some d) : evE S ρ (.sl a none (some hi)) G = .ok d G2 := by simp only [evE, evO, h1, h2, rb, h3, rof]
end
def BB : Nat := 1048580
/-- the dice: k rolls are left -/
def Dice (k : Nat) (G : Gs) : Prop := ∃ x y z : Int, G = [some [.int x, .int y, .int z]] ∧ x.natAbs < 2 ^ BB ∧ y.natAbs + k ≤ 10000
theorem Dice.mono {k j : Nat} {G : Gs} (h : Dice k G) (hj : j ≤ k) : Dice j G := by
  obtain ⟨x, y, z, e, h1, h2⟩ := h
  exact ⟨x, y, z, e, h1, by omega⟩
def CC (i : Int) : Prop := i = 19 ∨ i = 9 ∨ i = 5 ∨ i = 4
theorem big31 : 2 ^ 31 ≤ 2 ^ BB := Nat.pow_le_pow_right (by decide) (by decide)
theorem fmod_in (a : Int) {m : Int} (h : 0 < m) : 0 ≤ a.fmod m ∧ a.fmod m < m := by
  rw [Int.fmod_eq_emod_of_nonneg a (by omega)]
  exact ⟨Int.emod_nonneg _ (by omega), Int.emod_lt_of_pos _ h⟩
theorem fdiv_le (a : Int) {m : Int} (h : CC m) : (a.fdiv m).natAbs ≤ a.natAbs := by
  rcases h with rfl | rfl | rfl | rfl <;> rw [Int.fdiv_eq_ediv_of_nonneg a (by decide)] <;> omega
theorem CC.pos {m : Int} (h : CC m) : 0 < m := by
  rcases h with rfl | rfl | rfl | rfl <;> decide
theorem okDiv_small {j : Int} (h0 : j ≠ 0) (h : j.natAbs < 1073741824) : okDiv j = true := by
  simp [okDiv]
  right
  omega
theorem CC.div {m : Int} (h : CC m) : okDiv m = true := by
  rcases h with rfl | rfl | rfl | rfl <;> decide
/-- a roll -/
theorem cal_roll (n k : Nat) {G : Gs} {m : Int} (hm : CC m) (h : Dice (k + 1) G) : ∃ r G', (Sa (n + 1)).cal 19 [.cell 0, .int m] G = .ok (.int r) G' ∧ 0 ≤ r ∧ r < m ∧ Dice k G' := by
  obtain ⟨x, y, z, rfl, hx, hy⟩ := h
  have m0 : m ≠ 0 := by have := hm.pos; omega
  have A : ∀ (c : evE (Sa n) [some (.cell 0), some (.int m), none] (.or (.cmp .eq (.ix (.var 0) (.con (.int 2))) (.con (.int 2))) (.and (.cmp .eq (.ix (.var 0) (.con (.int 2))) (.con (.int 1))) (.cmp .gt (.ix (.var 0) (.con (.int 0))) (.con (.int 0))))) [some [.int x, .int y, .int z]] = .ok (.bl true) [some [.int x, .int y, .int z]]), ∃ r G', (Sa (n + 1)).cal 19 [.cell 0, .int m] [some [.int x, .int y, .int z]] = .ok (.int r) G' ∧ 0 ≤ r ∧ r < m ∧ Dice k G' := fun c =>
    ⟨x.fmod m, [some [.int (x.fdiv m), .int y, .int z]], run_d m_law_roll (args := [.cell 0, .int m]) (S := Sa n) (ρ := [some (.cell 0), some (.int m), none]) rfl rfl
      (b_ret (s_itet c (b_next (s_set (x_bin (x_prim (x_es (x_ix x_v x_c rfl) x_es0) rfl) x_v (bmo _ _ m0))) (b_next (s_setix (x_bin (x_ix x_v x_c rfl) x_v (bd _ _ hm.div)) x_v x_c rfl) (b_ret (s_ret x_v)))))),
      (fmod_in x hm.pos).1, (fmod_in x hm.pos).2, _, _, _, rfl, Nat.lt_of_le_of_lt (fdiv_le x hm) hx, by omega⟩
  have B : ∀ (c : evE (Sa n) [some (.cell 0), some (.int m), none] (.or (.cmp .eq (.ix (.var 0) (.con (.int 2))) (.con (.int 2))) (.and (.cmp .eq (.ix (.var 0) (.con (.int 2))) (.con (.int 1))) (.cmp .gt (.ix (.var 0) (.con (.int 0))) (.con (.int 0))))) [some [.int x, .int y, .int z]] = .ok (.bl false) [some [.int x, .int y, .int z]]), ∃ r G', (Sa (n + 1)).cal 19 [.cell 0, .int m] [some [.int x, .int y, .int z]] = .ok (.int r) G' ∧ 0 ≤ r ∧ r < m ∧ Dice k G' := fun c => by
    have o1 : okMul x 48271 = true := ok_mul (m := BB) (k := 16) hx (by decide) (by decide)
    have o2 : okMul y 69621 = true := ok_mul (m := 14) (k := 17) (by omega) (by decide) (by decide)
    have hf := fmod_in (x * 48271 + y * 69621 + 11) (m := 2147483647) (by decide)
    exact ⟨_, [some [.int ((x * 48271 + y * 69621 + 11).fmod 2147483647), .int (y + 1), .int 0]], run_d m_law_roll (args := [.cell 0, .int m]) (S := Sa n) (ρ := [some (.cell 0), some (.int m), none]) rfl rfl
      (b_next (s_if0 c) (b_next (s_setix x_c x_v x_c rfl) (b_next (s_setix (x_bin (x_prim (x_es (x_bin (x_bin (x_bin (x_ix x_v x_c rfl) x_c (bm _ _ o1)) (x_bin (x_ix x_v x_c rfl) x_c (bm _ _ o2)) rfl) x_c rfl) x_es0) rfl) x_c (bmo _ _ (by decide))) x_v x_c rfl)
        (b_next (s_setix (x_bin (x_ix x_v x_c rfl) x_c rfl) x_v x_c rfl) (b_ret (s_ret (x_bin (x_prim (x_es (x_bin (x_bin (x_ix x_v x_c rfl) x_c (bd _ _ (by decide))) (x_ix x_v x_c rfl) rfl) x_es0) rfl) x_v (bmo _ _ m0)))))))),
      (fmod_in _ hm.pos).1, (fmod_in _ hm.pos).2, _, _, _, rfl, Nat.lt_of_lt_of_le (by omega) big31, by omega⟩
  by_cases h2 : z = 2
  · exact A (x_ort (x_cmp (x_ix x_v x_c rfl) x_c (by rw [ceq, eqD_int, decide_eq_true h2])))
  · by_cases h1 : z = 1
    · by_cases h0 : 0 < x
      · exact A (x_orf (x_cmp (x_ix x_v x_c rfl) x_c (by rw [ceq, eqD_int, decide_eq_false h2])) (x_andt (x_cmp (x_ix x_v x_c rfl) x_c (by rw [ceq, eqD_int, decide_eq_true h1])) (x_cmp (x_ix x_v x_c rfl) x_c (by rw [cgt, decide_eq_true h0]))))
      · exact B (x_orf (x_cmp (x_ix x_v x_c rfl) x_c (by rw [ceq, eqD_int, decide_eq_false h2])) (x_andt (x_cmp (x_ix x_v x_c rfl) x_c (by rw [ceq, eqD_int, decide_eq_true h1])) (x_cmp (x_ix x_v x_c rfl) x_c (by rw [cgt, decide_eq_false h0]))))
    · exact B (x_orf (x_cmp (x_ix x_v x_c rfl) x_c (by rw [ceq, eqD_int, decide_eq_false h2])) (x_andf (x_cmp (x_ix x_v x_c rfl) x_c (by rw [ceq, eqD_int, decide_eq_false h1]))))
theorem cal_dice (n : Nat) (c : Int) (hc : c.natAbs < 2 ^ BB) : ∃ G', (Sa (n + 1)).cal 18 [.int c] [] = .ok (.cell 0) G' ∧ Dice 8000 G' := by
  have S1 : ∀ (h : evE (Sa n) [some (.int c)] (.chain .lt .lt (.bin .sub (.con (.int 0)) (.con (.int 10))) (.var 0) (.con (.int 10))) [] = .ok (.bl true) []), ∃ G', (Sa (n + 1)).cal 18 [.int c] [] = .ok (.cell 0) G' ∧ Dice 8000 G' := fun h =>
    ⟨_, run_d m_law_dice (args := [.int c]) (S := Sa n) (ρ := [some (.int c)]) rfl rfl (b_ret (s_itet h (b_ret (s_ret (x_lstC (x_es (x_prim (x_es x_v x_es0) rfl) (x_es x_c (x_es x_c x_es0)))))))), _, _, _, rfl, (by split <;> omega), by decide⟩
  have S2 : ∀ (h : evE (Sa n) [some (.int c)] (.chain .lt .lt (.bin .sub (.con (.int 0)) (.con (.int 10))) (.var 0) (.con (.int 10))) [] = .ok (.bl false) []), ∃ G', (Sa (n + 1)).cal 18 [.int c] [] = .ok (.cell 0) G' ∧ Dice 8000 G' := fun h => by
    have hf := fmod_in c (m := 1009) (by decide)
    exact ⟨_, run_d m_law_dice (args := [.int c]) (S := Sa n) (ρ := [some (.int c)]) rfl rfl (b_next (s_if0 h) (b_ret (s_ret (x_lstC (x_es x_v (x_es (x_bin x_c (x_bin (x_prim (x_es x_v x_es0) rfl) x_c (bmo _ _ (by decide))) rfl) (x_es (x_prim (x_es (x_cmp x_v (x_bin x_c x_c (d := .int (10 ^ 18)) rfl) (cge _ _)) x_es0) rfl) x_es0))))))), _, _, _, rfl, hc, by omega⟩
  by_cases h1 : (0 - 10 : Int) < c
  · by_cases h2 : c < 10
    · exact S1 (x_cht (x_bin x_c x_c rfl) x_v (by rw [clt, decide_eq_true h1]) x_c (by rw [clt, decide_eq_true h2]))
    · exact S2 (x_cht (x_bin x_c x_c rfl) x_v (by rw [clt, decide_eq_true h1]) x_c (by rw [clt, decide_eq_false h2]))
  · exact S2 (x_chf (x_bin x_c x_c rfl) x_v (by rw [clt, decide_eq_false h1]))
theorem comp_one {S : PV.Sem} {ρ ρ' : PV.Env} {own : List Nat} {el : PV.E} {tg : Tg} {it : It} {G G1 G2 : Gs} {d y : D} (h1 : evI S ρ it G = .ok [d] G1) (h2 : PV.assign (wipeE ρ own) tg d = some ρ') (h3 : evE S ρ' el G1 = .ok y G2) : evE S ρ (.comp own el tg it []) G = .ok (.lst [y]) G2 := by
  simp only [evE, h1, rb, compL, h2, evT, if_true, h3, R.calm, List.length_cons, List.length_nil]
  rw [if_pos (by decide)]
theorem cal_rounds (n : Nat) (ns : List Int) (h : ∀ z ∈ ns, z.natAbs < 2 ^ BB) : ∃ G', (Sa (n + 2)).cal 20 [.frz (ns.map .int), .int 1] [] = .ok (.lst [.cell 0]) G' ∧ Dice 8000 G' := by
  cases ns with
  | nil =>
    obtain ⟨G', e, hG⟩ := cal_dice n 0 (by show 0 < _; exact Nat.pos_of_ne_zero (by simp))
    exact ⟨G', run_d m_law_rounds (args := [.frz [], .int 1]) (S := Sa (n + 1)) (ρ := [some (.frz []), some (.int 1), none, none]) rfl rfl
      (b_next (s_set (x_sl1 x_v x_v (d := .lst []) rfl)) (b_next (s_itet (x_cmp x_v (x_lst x_es0) (c := true) rfl) (b_next (s_set (x_lst (x_es x_c x_es0))) rfl)) (b_ret (s_ret (comp_one (i_seq x_v) rfl (x_call (x_es x_v x_es0) e)))))), hG⟩
  | cons c r =>
    obtain ⟨G', e, hG⟩ := cal_dice n c (h c (List.mem_cons_self ..))
    have hs : slD (.frz ((c :: r).map .int)) none (some 1) = some (.lst [.int c]) := by
      have : cutD ((c :: r).map D.int) none (some 1) = [.int c] := by
        show ((D.int c :: r.map D.int).drop 0).take (min 1 (r.map D.int).length.succ - 0) = _
        rw [show min 1 (r.map D.int).length.succ - 0 = 1 by omega]
        rfl
      show some (D.lst (cutD ((c :: r).map D.int) none (some 1))) = _
      rw [this]
    exact ⟨G', run_d m_law_rounds (args := [.frz ((c :: r).map .int), .int 1]) (S := Sa (n + 1)) (ρ := [some (.frz ((c :: r).map .int)), some (.int 1), none, none]) rfl rfl
      (b_next (s_set (x_sl1 x_v x_v hs)) (b_next (s_if0 (x_cmp x_v (x_lst x_es0) (c := false) rfl)) (b_ret (s_ret (comp_one (i_seq x_v) rfl (x_call (x_es x_v x_es0) e)))))), hG⟩
/-- a comprehension that rolls -/
theorem compL_ex (f : D → Gs → R (Option D)) (P : D → Prop) (c k : Nat) : ∀ (ds : List D) (G : Gs), Dice (k + c * ds.length) G → (∀ d ∈ ds, ∀ (i : Nat) (G : Gs), Dice (i + c) G → ∃ y G', f d G = .ok (some y) G' ∧ P y ∧ Dice i G') → ∃ ys G', compL f ds G = .ok ys G' ∧ ys.length = ds.length ∧ (∀ y ∈ ys, P y) ∧ Dice k G'
  | [], G, hG, _ => ⟨[], G, rfl, rfl, (fun y hy => nomatch hy), hG⟩
  | d :: ds, G, hG, h => by
    obtain ⟨y, G1, e1, p1, g1⟩ := h d (List.mem_cons_self ..) (k + c * ds.length) G (by rw [List.length_cons, Nat.mul_succ, ← Nat.add_assoc] at hG; exact hG)
    obtain ⟨ys, G2, e2, l2, p2, g2⟩ := compL_ex f P c k ds G1 g1 fun d hd => h d (List.mem_cons_of_mem _ hd)
    refine ⟨y :: ys, G2, ?_, by rw [List.length_cons, l2, List.length_cons], fun z hz => ?_, g2⟩
    · show (f d G).bind _ = _
      rw [e1, rb, e2, rb]
    · rcases List.mem_cons.mp hz with rfl | hz
      · exact p1
      · exact p2 z hz
theorem compL_end (f : D → Gs → R (Option D)) {ds ys : List D} {G G' : Gs} (e : compL f ds G = .ok ys G') (h : ys.length < sizeLine) : ((compL f ds G).calm.bind fun ys G5 => if ys.length < sizeLine then .ok (D.lst ys) G5 else .bad) = .ok (.lst ys) G' := by
  rw [e]
  exact if_pos h
theorem comp_ex {S : PV.Sem} {ρ : PV.Env} {own : List Nat} {el : PV.E} {tg : Tg} {it : It} {G G1 : Gs} {ds : List D} (P : D → Prop) (c k : Nat) (h1 : evI S ρ it G = .ok ds G1) (hG : Dice (k + c * ds.length) G1) (hl : ds.length < 1000) (h : ∀ d ∈ ds, ∃ ρ', PV.assign (wipeE ρ own) tg d = some ρ' ∧ ∀ (i : Nat) (G : Gs), Dice (i + c) G → ∃ y G', evE S ρ' el G = .ok y G' ∧ P y ∧ Dice i G') : ∃ ys G', evE S ρ (.comp own el tg it []) G = .ok (.lst ys) G' ∧ ys.length = ds.length ∧ (∀ y ∈ ys, P y) ∧ Dice k G' := by
  obtain ⟨ys, G', e, l, p, g⟩ := compL_ex (fun d G2 => match PV.assign (wipeE ρ own) tg d with
        | some ρ' => (evT S ρ' [] G2).bind fun b G3 => if b then (evE S ρ' el G3).bind fun y G4 => .ok (some y) G4 else .ok none G3
        | none => .bad) P c k ds G1 hG fun d hd i G hi => by
    obtain ⟨ρ', e1, h2⟩ := h d hd
    obtain ⟨y, G', e2, p, g⟩ := h2 i G hi
    exact ⟨y, G', by simp only [e1, evT, rb, if_true, e2], p, g⟩
  refine ⟨ys, G', ?_, l, p, g⟩
  simp only [evE, h1, rb]
  exact compL_end _ e (by rw [szl, l]; omega)
theorem list_pr {k : Nat} : ∀ {ys : List D}, (∀ y ∈ ys, ∃ p, y = pr p ∧ Sz k p) → ∃ ps : List (Int × Int), ys = ps.map pr ∧ ∀ p ∈ ps, Sz k p
  | [], _ => ⟨[], rfl, fun p hp => nomatch hp⟩
  | y :: ys, h => by
    obtain ⟨p, rfl, hp⟩ := h y (List.mem_cons_self ..)
    obtain ⟨ps, rfl, hs⟩ := list_pr fun z hz => h z (List.mem_cons_of_mem _ hz)
    exact ⟨p :: ps, rfl, fun q hq => (List.mem_cons.mp hq).elim (fun e => e ▸ hp) (hs q)⟩
theorem list_str {L : List Str} : ∀ {ys : List D}, (∀ y ∈ ys, ∃ s ∈ L, y = .str s) → ∃ ss : List Str, ys = ss.map .str ∧ ∀ s ∈ ss, s ∈ L
  | [], _ => ⟨[], rfl, fun p hp => nomatch hp⟩
  | y :: ys, h => by
    obtain ⟨p, hp, rfl⟩ := h y (List.mem_cons_self ..)
    obtain ⟨ps, rfl, hs⟩ := list_str fun z hz => h z (List.mem_cons_of_mem _ hz)
    exact ⟨p :: ps, rfl, fun q hq => (List.mem_cons.mp hq).elim (fun e => e ▸ hp) (hs q)⟩
/-! tables -/
theorem tab {α β : Type} {f g : α → β} : ∀ {l : List α}, l.map f = l.map g → ∀ x ∈ l, f x = g x
  | [], _, x, hx => nomatch hx
  | y :: l, h, x, hx => by
    injection h with h1 h2
    rcases List.mem_cons.mp hx with rfl | hx
    · exact h1
    · exact tab h2 x hx
def upto (lo : Int) (n : Nat) : List Int := (List.range n).map fun (k : Nat) => lo + (k : Int)
theorem mem_upto {lo x : Int} {n : Nat} (h1 : lo ≤ x) (h2 : x < lo + n) : x ∈ upto lo n := List.mem_map.mpr ⟨(x - lo).toNat, List.mem_range.mpr (by omega), by omega⟩
def pairs (xs ys : List Int) : List (Int × Int) := xs.flatMap fun x => ys.map fun y => (x, y)
theorem mem_pairs {xs ys : List Int} {x y : Int} (h1 : x ∈ xs) (h2 : y ∈ ys) : (x, y) ∈ pairs xs ys := List.mem_flatMap.mpr ⟨x, h1, List.mem_map.mpr ⟨y, h2, rfl⟩⟩
def AB : List (Int × Int) := pairs (upto (-9) 19) (upto 1 9)
def AC : List (Int × Int) := pairs (upto (-9) 19) (upto (-9) 19)
def lists (L : List Str) : Nat → List (List Str)
  | 0 => [[]]
  | k + 1 => [] :: L.flatMap fun l => (lists L k).map (l :: ·)
theorem mem_lists {L : List Str} : ∀ {k : Nat} {ss : List Str}, ss.length ≤ k → (∀ s ∈ ss, s ∈ L) → ss ∈ lists L k
  | 0, [], _, _ => List.mem_cons_self ..
  | k + 1, [], _, _ => List.mem_cons_self ..
  | k + 1, s :: ss, hl, h => List.mem_cons_of_mem _ (List.mem_flatMap.mpr ⟨s, h s (List.mem_cons_self ..), List.mem_map.mpr ⟨ss, mem_lists (Nat.le_of_succ_le_succ hl) (fun t ht => h t (List.mem_cons_of_mem _ ht)), rfl⟩⟩)
end LK
end
/-! ## KM4 -/
section
set_option Elab.async false
set_option linter.all false
set_option maxRecDepth 200000
set_option maxHeartbeats 0
namespace LK
open PySem PV
def lawBody : List St := match m_law.body with
  | .for_ _ _ b :: _ => b
  | _ => []
abbrev st (i : Nat) : St := lawBody.getD i .pass
/-- the test of a statement; what is set -/
def cOf : St → PV.E
  | .ite c _ _ => c
  | .set _ e => e
  | _ => .con .non
/-- one of the tests of an or -/
def orL : PV.E → PV.E
  | .or a _ => a
  | e => e
def orR : PV.E → PV.E
  | .or _ b => b
  | e => e
section
variable (X0 X1 X2 X3 X4 X5 X6 X7 X8 X9 X10 X11 X12 X13 X14 X15 X16 X17 X18 X19 X20 X21 X22 X23 : Option D) (G : Gs)
theorem t_c1 : AB.map (fun p => evE (Sa 12) [X0, X1, some (.int p.1), some (.int p.2), X4, X5, some (pr (pq p.1 p.2)), X7, X8, X9, X10, X11, X12, X13, X14, X15, X16, X17, X18, X19, X20, X21, X22, X23] (cOf (st 2)) G) = AB.map (fun p => .ok (.bl false) G) := by kernel_rfl
theorem t_most : AC.map (fun p => evE (Sa 12) [X0, X1, some (.int p.1), X3, some (.int p.2), X5, X6, X7, X8, X9, X10, X11, X12, X13, X14, X15, X16, X17, X18, X19, X20, X21, X22, X23] (cOf (st 3)) G) = AC.map (fun p => .ok (.int (Nat.gcd p.1.natAbs p.2.natAbs : Nat)) G) := by kernel_rfl
theorem t_size : AB.map (fun p => evE (Sa 12) [X0, X1, some (.int p.1), some (.int p.2), X4, X5, some (pr (pq p.1 p.2)), X7, X8, X9, X10, X11, X12, X13, X14, X15, X16, X17, X18, X19, X20, X21, X22, X23] (orR (orR (cOf (st 4)))) G) = AB.map (fun p => .ok (.bl false) G) := by kernel_rfl
theorem t_told : AB.map (fun p => evE (Sa 12) [X0, X1, some (.int p.1), some (.int p.2), X4, X5, some (pr (pq p.1 p.2)), X7, X8, X9, X10, X11, X12, X13, X14, X15, X16, X17, X18, X19, X20, X21, X22, X23] (orR (cOf (st 14))) G) = AB.map (fun p => .ok (.bl false) G) := by kernel_rfl
end
end LK
end
/-! ## KM5a -/
section
set_option Elab.async false
set_option linter.all false
set_option maxRecDepth 200000
set_option maxHeartbeats 0
namespace LK
open PySem PV
def letters : List Str := ["1", "2", "-", "/", " "]
def wordsL : List (List Str) := lists letters 4
def wd (ss : List Str) : Str := Txt.join "" ss
def nn : Option D := none
def e17 (w : D) : R D := evE (Sa 12) [nn, nn, nn, nn, nn, nn, nn, nn, nn, nn, nn, nn, nn, nn, nn, some w, nn, nn, nn, nn, nn, nn, nn, nn] (cOf (st 16)) []
def fstD : R D → D
  | .ok (.tup (a :: _)) _ => a
  | .ok (.lst (a :: _)) _ => a
  | _ => .non
def sndD : R D → D
  | .ok (.tup (_ :: b :: _)) _ => b
  | .ok (.lst (_ :: b :: _)) _ => b
  | _ => .non
def topOf (ss : List Str) : D := fstD (e17 (.str (wd ss)))
def lowOf (ss : List Str) : D := sndD (e17 (.str (wd ss)))
def oneD : R D → D
  | .ok a _ => a
  | _ => .non
def goodOf (ss : List Str) : D := oneD (evE (Sa 12) [nn, nn, nn, nn, nn, nn, nn, nn, nn, nn, nn, nn, nn, nn, nn, some (.str (wd ss)), some (topOf ss), some (lowOf ss), nn, nn, nn, nn, nn, nn] (cOf (st 17)) [])
theorem t_join : wordsL.map (fun ss => mJoin "" [.lst (ss.map .str)]) = wordsL.map (fun ss => some (.str (wd ss))) := by kernel_rfl
/-- words by their first two signs -/
theorem by2 {β : Type} {f g : List Str → β} (h0 : f [] = g []) (h1 : ∀ l ∈ letters, f [l] = g [l]) (h2 : ∀ l ∈ letters, ∀ m ∈ letters, (lists letters 2).map (fun r => f (l :: m :: r)) = (lists letters 2).map (fun r => g (l :: m :: r))) : ∀ ss ∈ wordsL, f ss = g ss := by
  intro ss hs
  rcases List.mem_cons.mp hs with rfl | hs
  · exact h0
  · obtain ⟨l, hl, hs⟩ := List.mem_flatMap.mp hs
    obtain ⟨r, hr, rfl⟩ := List.mem_map.mp hs
    rcases List.mem_cons.mp hr with rfl | hr
    · exact h1 l hl
    · obtain ⟨m, hm, hr⟩ := List.mem_flatMap.mp hr
      obtain ⟨r2, hr2, rfl⟩ := List.mem_map.mp hr
      exact tab (h2 l hl m hm) r2 hr2
theorem t_end (X0 X1 X2 X3 X4 X5 X6 X7 X8 X9 X10 X11 X12 X13 X14 X15 X16 X17 X18 X19 X20 X21 X22 X23 : Option D) (G : Gs) : evB (Sa 12) (m_law.body.drop 1) [X0, X1, X2, X3, X4, X5, X6, X7, X8, X9, X10, X11, X12, X13, X14, X15, X16, X17, X18, X19, X20, X21, X22, X23] G = .ret (.bl true) G := by kernel_rfl
end LK
end
/-! ## KM5top -/
section
set_option Elab.async false
set_option linter.all false
set_option maxRecDepth 200000
set_option maxHeartbeats 0
namespace LK
open PySem PV
def f_top (X0 X1 X2 X3 X4 X5 X6 X7 X8 X9 X10 X11 X12 X13 X14 X16 X17 X18 X19 X20 X21 X22 X23 : Option D) (G : Gs) (ss : List Str) : F := evS (Sa 12) (st 16) [X0, X1, X2, X3, X4, X5, X6, X7, X8, X9, X10, X11, X12, X13, X14, some (.str (wd ss)), X16, X17, X18, X19, X20, X21, X22, X23] G
def g_top (X0 X1 X2 X3 X4 X5 X6 X7 X8 X9 X10 X11 X12 X13 X14 X16 X17 X18 X19 X20 X21 X22 X23 : Option D) (G : Gs) (ss : List Str) : F := .next [X0, X1, X2, X3, X4, X5, X6, X7, X8, X9, X10, X11, X12, X13, X14, some (.str (wd ss)), some (topOf ss), some (lowOf ss), X18, X19, X20, X21, X22, X23] G
section
variable (X0 X1 X2 X3 X4 X5 X6 X7 X8 X9 X10 X11 X12 X13 X14 X16 X17 X18 X19 X20 X21 X22 X23 : Option D) (G : Gs)
theorem top0 : f_top X0 X1 X2 X3 X4 X5 X6 X7 X8 X9 X10 X11 X12 X13 X14 X16 X17 X18 X19 X20 X21 X22 X23 G [] = g_top X0 X1 X2 X3 X4 X5 X6 X7 X8 X9 X10 X11 X12 X13 X14 X16 X17 X18 X19 X20 X21 X22 X23 G [] := by kernel_rfl
theorem top_0 : f_top X0 X1 X2 X3 X4 X5 X6 X7 X8 X9 X10 X11 X12 X13 X14 X16 X17 X18 X19 X20 X21 X22 X23 G ["1"] = g_top X0 X1 X2 X3 X4 X5 X6 X7 X8 X9 X10 X11 X12 X13 X14 X16 X17 X18 X19 X20 X21 X22 X23 G ["1"] := by kernel_rfl
theorem top_0_0 : (lists letters 2).map (fun r => f_top X0 X1 X2 X3 X4 X5 X6 X7 X8 X9 X10 X11 X12 X13 X14 X16 X17 X18 X19 X20 X21 X22 X23 G ("1" :: "1" :: r)) = (lists letters 2).map (fun r => g_top X0 X1 X2 X3 X4 X5 X6 X7 X8 X9 X10 X11 X12 X13 X14 X16 X17 X18 X19 X20 X21 X22 X23 G ("1" :: "1" :: r)) := by kernel_rfl
theorem top_0_1 : (lists letters 2).map (fun r => f_top X0 X1 X2 X3 X4 X5 X6 X7 X8 X9 X10 X11 X12 X13 X14 X16 X17 X18 X19 X20 X21 X22 X23 G ("1" :: "2" :: r)) = (lists letters 2).map (fun r => g_top X0 X1 X2 X3 X4 X5 X6 X7 X8 X9 X10 X11 X12 X13 X14 X16 X17 X18 X19 X20 X21 X22 X23 G ("1" :: "2" :: r)) := by kernel_rfl
theorem top_0_2 : (lists letters 2).map (fun r => f_top X0 X1 X2 X3 X4 X5 X6 X7 X8 X9 X10 X11 X12 X13 X14 X16 X17 X18 X19 X20 X21 X22 X23 G ("1" :: "-" :: r)) = (lists letters 2).map (fun r => g_top X0 X1 X2 X3 X4 X5 X6 X7 X8 X9 X10 X11 X12 X13 X14 X16 X17 X18 X19 X20 X21 X22 X23 G ("1" :: "-" :: r)) := by kernel_rfl
theorem top_0_3 : (lists letters 2).map (fun r => f_top X0 X1 X2 X3 X4 X5 X6 X7 X8 X9 X10 X11 X12 X13 X14 X16 X17 X18 X19 X20 X21 X22 X23 G ("1" :: "/" :: r)) = (lists letters 2).map (fun r => g_top X0 X1 X2 X3 X4 X5 X6 X7 X8 X9 X10 X11 X12 X13 X14 X16 X17 X18 X19 X20 X21 X22 X23 G ("1" :: "/" :: r)) := by kernel_rfl
theorem top_0_4 : (lists letters 2).map (fun r => f_top X0 X1 X2 X3 X4 X5 X6 X7 X8 X9 X10 X11 X12 X13 X14 X16 X17 X18 X19 X20 X21 X22 X23 G ("1" :: " " :: r)) = (lists letters 2).map (fun r => g_top X0 X1 X2 X3 X4 X5 X6 X7 X8 X9 X10 X11 X12 X13 X14 X16 X17 X18 X19 X20 X21 X22 X23 G ("1" :: " " :: r)) := by kernel_rfl
theorem top_1 : f_top X0 X1 X2 X3 X4 X5 X6 X7 X8 X9 X10 X11 X12 X13 X14 X16 X17 X18 X19 X20 X21 X22 X23 G ["2"] = g_top X0 X1 X2 X3 X4 X5 X6 X7 X8 X9 X10 X11 X12 X13 X14 X16 X17 X18 X19 X20 X21 X22 X23 G ["2"] := by kernel_rfl
theorem top_1_0 : (lists letters 2).map (fun r => f_top X0 X1 X2 X3 X4 X5 X6 X7 X8 X9 X10 X11 X12 X13 X14 X16 X17 X18 X19 X20 X21 X22 X23 G ("2" :: "1" :: r)) = (lists letters 2).map (fun r => g_top X0 X1 X2 X3 X4 X5 X6 X7 X8 X9 X10 X11 X12 X13 X14 X16 X17 X18 X19 X20 X21 X22 X23 G ("2" :: "1" :: r)) := by kernel_rfl
theorem top_1_1 : (lists letters 2).map (fun r => f_top X0 X1 X2 X3 X4 X5 X6 X7 X8 X9 X10 X11 X12 X13 X14 X16 X17 X18 X19 X20 X21 X22 X23 G ("2" :: "2" :: r)) = (lists letters 2).map (fun r => g_top X0 X1 X2 X3 X4 X5 X6 X7 X8 X9 X10 X11 X12 X13 X14 X16 X17 X18 X19 X20 X21 X22 X23 G ("2" :: "2" :: r)) := by kernel_rfl
theorem top_1_2 : (lists letters 2).map (fun r => f_top X0 X1 X2 X3 X4 X5 X6 X7 X8 X9 X10 X11 X12 X13 X14 X16 X17 X18 X19 X20 X21 X22 X23 G ("2" :: "-" :: r)) = (lists letters 2).map (fun r => g_top X0 X1 X2 X3 X4 X5 X6 X7 X8 X9 X10 X11 X12 X13 X14 X16 X17 X18 X19 X20 X21 X22 X23 G ("2" :: "-" :: r)) := by kernel_rfl
theorem top_1_3 : (lists letters 2).map (fun r => f_top X0 X1 X2 X3 X4 X5 X6 X7 X8 X9 X10 X11 X12 X13 X14 X16 X17 X18 X19 X20 X21 X22 X23 G ("2" :: "/" :: r)) = (lists letters 2).map (fun r => g_top X0 X1 X2 X3 X4 X5 X6 X7 X8 X9 X10 X11 X12 X13 X14 X16 X17 X18 X19 X20 X21 X22 X23 G ("2" :: "/" :: r)) := by kernel_rfl
theorem top_1_4 : (lists letters 2).map (fun r => f_top X0 X1 X2 X3 X4 X5 X6 X7 X8 X9 X10 X11 X12 X13 X14 X16 X17 X18 X19 X20 X21 X22 X23 G ("2" :: " " :: r)) = (lists letters 2).map (fun r => g_top X0 X1 X2 X3 X4 X5 X6 X7 X8 X9 X10 X11 X12 X13 X14 X16 X17 X18 X19 X20 X21 X22 X23 G ("2" :: " " :: r)) := by kernel_rfl
theorem top_2 : f_top X0 X1 X2 X3 X4 X5 X6 X7 X8 X9 X10 X11 X12 X13 X14 X16 X17 X18 X19 X20 X21 X22 X23 G ["-"] = g_top X0 X1 X2 X3 X4 X5 X6 X7 X8 X9 X10 X11 X12 X13 X14 X16 X17 X18 X19 X20 X21 X22 X23 G ["-"] := by kernel_rfl
theorem top_2_0 : (lists letters 2).map (fun r => f_top X0 X1 X2 X3 X4 X5 X6 X7 X8 X9 X10 X11 X12 X13 X14 X16 X17 X18 X19 X20 X21 X22 X23 G ("-" :: "1" :: r)) = (lists letters 2).map (fun r => g_top X0 X1 X2 X3 X4 X5 X6 X7 X8 X9 X10 X11 X12 X13 X14 X16 X17 X18 X19 X20 X21 X22 X23 G ("-" :: "1" :: r)) := by kernel_rfl
theorem top_2_1 : (lists letters 2).map (fun r => f_top X0 X1 X2 X3 X4 X5 X6 X7 X8 X9 X10 X11 X12 X13 X14 X16 X17 X18 X19 X20 X21 X22 X23 G ("-" :: "2" :: r)) = (lists letters 2).map (fun r => g_top X0 X1 X2 X3 X4 X5 X6 X7 X8 X9 X10 X11 X12 X13 X14 X16 X17 X18 X19 X20 X21 X22 X23 G ("-" :: "2" :: r)) := by kernel_rfl
theorem top_2_2 : (lists letters 2).map (fun r => f_top X0 X1 X2 X3 X4 X5 X6 X7 X8 X9 X10 X11 X12 X13 X14 X16 X17 X18 X19 X20 X21 X22 X23 G ("-" :: "-" :: r)) = (lists letters 2).map (fun r => g_top X0 X1 X2 X3 X4 X5 X6 X7 X8 X9 X10 X11 X12 X13 X14 X16 X17 X18 X19 X20 X21 X22 X23 G ("-" :: "-" :: r)) := by kernel_rfl
theorem top_2_3 : (lists letters 2).map (fun r => f_top X0 X1 X2 X3 X4 X5 X6 X7 X8 X9 X10 X11 X12 X13 X14 X16 X17 X18 X19 X20 X21 X22 X23 G ("-" :: "/" :: r)) = (lists letters 2).map (fun r => g_top X0 X1 X2 X3 X4 X5 X6 X7 X8 X9 X10 X11 X12 X13 X14 X16 X17 X18 X19 X20 X21 X22 X23 G ("-" :: "/" :: r)) := by kernel_rfl
theorem top_2_4 : (lists letters 2).map (fun r => f_top X0 X1 X2 X3 X4 X5 X6 X7 X8 X9 X10 X11 X12 X13 X14 X16 X17 X18 X19 X20 X21 X22 X23 G ("-" :: " " :: r)) = (lists letters 2).map (fun r => g_top X0 X1 X2 X3 X4 X5 X6 X7 X8 X9 X10 X11 X12 X13 X14 X16 X17 X18 X19 X20 X21 X22 X23 G ("-" :: " " :: r)) := by kernel_rfl
theorem top_3 : f_top X0 X1 X2 X3 X4 X5 X6 X7 X8 X9 X10 X11 X12 X13 X14 X16 X17 X18 X19 X20 X21 X22 X23 G ["/"] = g_top X0 X1 X2 X3 X4 X5 X6 X7 X8 X9 X10 X11 X12 X13 X14 X16 X17 X18 X19 X20 X21 X22 X23 G ["/"] := by kernel_rfl
theorem top_3_0 : (lists letters 2).map (fun r => f_top X0 X1 X2 X3 X4 X5 X6 X7 X8 X9 X10 X11 X12 X13 X14 X16 X17 X18 X19 X20 X21 X22 X23 G ("/" :: "1" :: r)) = (lists letters 2).map (fun r => g_top X0 X1 X2 X3 X4 X5 X6 X7 X8 X9 X10 X11 X12 X13 X14 X16 X17 X18 X19 X20 X21 X22 X23 G ("/" :: "1" :: r)) := by kernel_rfl
theorem top_3_1 : (lists letters 2).map (fun r => f_top X0 X1 X2 X3 X4 X5 X6 X7 X8 X9 X10 X11 X12 X13 X14 X16 X17 X18 X19 X20 X21 X22 X23 G ("/" :: "2" :: r)) = (lists letters 2).map (fun r => g_top X0 X1 X2 X3 X4 X5 X6 X7 X8 X9 X10 X11 X12 X13 X14 X16 X17 X18 X19 X20 X21 X22 X23 G ("/" :: "2" :: r)) := by kernel_rfl
theorem top_3_2 : (lists letters 2).map (fun r => f_top X0 X1 X2 X3 X4 X5 X6 X7 X8 X9 X10 X11 X12 X13 X14 X16 X17 X18 X19 X20 X21 X22 X23 G ("/" :: "-" :: r)) = (lists letters 2).map (fun r => g_top X0 X1 X2 X3 X4 X5 X6 X7 X8 X9 X10 X11 X12 X13 X14 X16 X17 X18 X19 X20 X21 X22 X23 G ("/" :: "-" :: r)) := by kernel_rfl
theorem top_3_3 : (lists letters 2).map (fun r => f_top X0 X1 X2 X3 X4 X5 X6 X7 X8 X9 X10 X11 X12 X13 X14 X16 X17 X18 X19 X20 X21 X22 X23 G ("/" :: "/" :: r)) = (lists letters 2).map (fun r => g_top X0 X1 X2 X3 X4 X5 X6 X7 X8 X9 X10 X11 X12 X13 X14 X16 X17 X18 X19 X20 X21 X22 X23 G ("/" :: "/" :: r)) := by kernel_rfl
theorem top_3_4 : (lists letters 2).map (fun r => f_top X0 X1 X2 X3 X4 X5 X6 X7 X8 X9 X10 X11 X12 X13 X14 X16 X17 X18 X19 X20 X21 X22 X23 G ("/" :: " " :: r)) = (lists letters 2).map (fun r => g_top X0 X1 X2 X3 X4 X5 X6 X7 X8 X9 X10 X11 X12 X13 X14 X16 X17 X18 X19 X20 X21 X22 X23 G ("/" :: " " :: r)) := by kernel_rfl
theorem top_4 : f_top X0 X1 X2 X3 X4 X5 X6 X7 X8 X9 X10 X11 X12 X13 X14 X16 X17 X18 X19 X20 X21 X22 X23 G [" "] = g_top X0 X1 X2 X3 X4 X5 X6 X7 X8 X9 X10 X11 X12 X13 X14 X16 X17 X18 X19 X20 X21 X22 X23 G [" "] := by kernel_rfl
theorem top_4_0 : (lists letters 2).map (fun r => f_top X0 X1 X2 X3 X4 X5 X6 X7 X8 X9 X10 X11 X12 X13 X14 X16 X17 X18 X19 X20 X21 X22 X23 G (" " :: "1" :: r)) = (lists letters 2).map (fun r => g_top X0 X1 X2 X3 X4 X5 X6 X7 X8 X9 X10 X11 X12 X13 X14 X16 X17 X18 X19 X20 X21 X22 X23 G (" " :: "1" :: r)) := by kernel_rfl
theorem top_4_1 : (lists letters 2).map (fun r => f_top X0 X1 X2 X3 X4 X5 X6 X7 X8 X9 X10 X11 X12 X13 X14 X16 X17 X18 X19 X20 X21 X22 X23 G (" " :: "2" :: r)) = (lists letters 2).map (fun r => g_top X0 X1 X2 X3 X4 X5 X6 X7 X8 X9 X10 X11 X12 X13 X14 X16 X17 X18 X19 X20 X21 X22 X23 G (" " :: "2" :: r)) := by kernel_rfl
theorem top_4_2 : (lists letters 2).map (fun r => f_top X0 X1 X2 X3 X4 X5 X6 X7 X8 X9 X10 X11 X12 X13 X14 X16 X17 X18 X19 X20 X21 X22 X23 G (" " :: "-" :: r)) = (lists letters 2).map (fun r => g_top X0 X1 X2 X3 X4 X5 X6 X7 X8 X9 X10 X11 X12 X13 X14 X16 X17 X18 X19 X20 X21 X22 X23 G (" " :: "-" :: r)) := by kernel_rfl
theorem top_4_3 : (lists letters 2).map (fun r => f_top X0 X1 X2 X3 X4 X5 X6 X7 X8 X9 X10 X11 X12 X13 X14 X16 X17 X18 X19 X20 X21 X22 X23 G (" " :: "/" :: r)) = (lists letters 2).map (fun r => g_top X0 X1 X2 X3 X4 X5 X6 X7 X8 X9 X10 X11 X12 X13 X14 X16 X17 X18 X19 X20 X21 X22 X23 G (" " :: "/" :: r)) := by kernel_rfl
theorem top_4_4 : (lists letters 2).map (fun r => f_top X0 X1 X2 X3 X4 X5 X6 X7 X8 X9 X10 X11 X12 X13 X14 X16 X17 X18 X19 X20 X21 X22 X23 G (" " :: " " :: r)) = (lists letters 2).map (fun r => g_top X0 X1 X2 X3 X4 X5 X6 X7 X8 X9 X10 X11 X12 X13 X14 X16 X17 X18 X19 X20 X21 X22 X23 G (" " :: " " :: r)) := by kernel_rfl
theorem t_top : ∀ ss ∈ wordsL, f_top X0 X1 X2 X3 X4 X5 X6 X7 X8 X9 X10 X11 X12 X13 X14 X16 X17 X18 X19 X20 X21 X22 X23 G ss = g_top X0 X1 X2 X3 X4 X5 X6 X7 X8 X9 X10 X11 X12 X13 X14 X16 X17 X18 X19 X20 X21 X22 X23 G ss := by
  refine by2 (top0 X0 X1 X2 X3 X4 X5 X6 X7 X8 X9 X10 X11 X12 X13 X14 X16 X17 X18 X19 X20 X21 X22 X23 G) (fun l hl => ?_) (fun l hl m hm => ?_)
  · rcases List.mem_cons.mp hl with rfl | hl
    · exact top_0 X0 X1 X2 X3 X4 X5 X6 X7 X8 X9 X10 X11 X12 X13 X14 X16 X17 X18 X19 X20 X21 X22 X23 G
    rcases List.mem_cons.mp hl with rfl | hl
    · exact top_1 X0 X1 X2 X3 X4 X5 X6 X7 X8 X9 X10 X11 X12 X13 X14 X16 X17 X18 X19 X20 X21 X22 X23 G
    rcases List.mem_cons.mp hl with rfl | hl
    · exact top_2 X0 X1 X2 X3 X4 X5 X6 X7 X8 X9 X10 X11 X12 X13 X14 X16 X17 X18 X19 X20 X21 X22 X23 G
    rcases List.mem_cons.mp hl with rfl | hl
    · exact top_3 X0 X1 X2 X3 X4 X5 X6 X7 X8 X9 X10 X11 X12 X13 X14 X16 X17 X18 X19 X20 X21 X22 X23 G
    rcases List.mem_cons.mp hl with rfl | hl
    · exact top_4 X0 X1 X2 X3 X4 X5 X6 X7 X8 X9 X10 X11 X12 X13 X14 X16 X17 X18 X19 X20 X21 X22 X23 G
    exact nomatch hl
  · rcases List.mem_cons.mp hl with rfl | hl
    · rcases List.mem_cons.mp hm with rfl | hm
      · exact top_0_0 X0 X1 X2 X3 X4 X5 X6 X7 X8 X9 X10 X11 X12 X13 X14 X16 X17 X18 X19 X20 X21 X22 X23 G
      rcases List.mem_cons.mp hm with rfl | hm
      · exact top_0_1 X0 X1 X2 X3 X4 X5 X6 X7 X8 X9 X10 X11 X12 X13 X14 X16 X17 X18 X19 X20 X21 X22 X23 G
      rcases List.mem_cons.mp hm with rfl | hm
      · exact top_0_2 X0 X1 X2 X3 X4 X5 X6 X7 X8 X9 X10 X11 X12 X13 X14 X16 X17 X18 X19 X20 X21 X22 X23 G
      rcases List.mem_cons.mp hm with rfl | hm
      · exact top_0_3 X0 X1 X2 X3 X4 X5 X6 X7 X8 X9 X10 X11 X12 X13 X14 X16 X17 X18 X19 X20 X21 X22 X23 G
      rcases List.mem_cons.mp hm with rfl | hm
      · exact top_0_4 X0 X1 X2 X3 X4 X5 X6 X7 X8 X9 X10 X11 X12 X13 X14 X16 X17 X18 X19 X20 X21 X22 X23 G
      exact nomatch hm
    rcases List.mem_cons.mp hl with rfl | hl
    · rcases List.mem_cons.mp hm with rfl | hm
      · exact top_1_0 X0 X1 X2 X3 X4 X5 X6 X7 X8 X9 X10 X11 X12 X13 X14 X16 X17 X18 X19 X20 X21 X22 X23 G
      rcases List.mem_cons.mp hm with rfl | hm
      · exact top_1_1 X0 X1 X2 X3 X4 X5 X6 X7 X8 X9 X10 X11 X12 X13 X14 X16 X17 X18 X19 X20 X21 X22 X23 G
      rcases List.mem_cons.mp hm with rfl | hm
      · exact top_1_2 X0 X1 X2 X3 X4 X5 X6 X7 X8 X9 X10 X11 X12 X13 X14 X16 X17 X18 X19 X20 X21 X22 X23 G
      rcases List.mem_cons.mp hm with rfl | hm
      · exact top_1_3 X0 X1 X2 X3 X4 X5 X6 X7 X8 X9 X10 X11 X12 X13 X14 X16 X17 X18 X19 X20 X21 X22 X23 G
      rcases List.mem_cons.mp hm with rfl | hm
      · exact top_1_4 X0 X1 X2 X3 X4 X5 X6 X7 X8 X9 X10 X11 X12 X13 X14 X16 X17 X18 X19 X20 X21 X22 X23 G
      exact nomatch hm
    rcases List.mem_cons.mp hl with rfl | hl
    · rcases List.mem_cons.mp hm with rfl | hm
      · exact top_2_0 X0 X1 X2 X3 X4 X5 X6 X7 X8 X9 X10 X11 X12 X13 X14 X16 X17 X18 X19 X20 X21 X22 X23 G
      rcases List.mem_cons.mp hm with rfl | hm
      · exact top_2_1 X0 X1 X2 X3 X4 X5 X6 X7 X8 X9 X10 X11 X12 X13 X14 X16 X17 X18 X19 X20 X21 X22 X23 G
      rcases List.mem_cons.mp hm with rfl | hm
      · exact top_2_2 X0 X1 X2 X3 X4 X5 X6 X7 X8 X9 X10 X11 X12 X13 X14 X16 X17 X18 X19 X20 X21 X22 X23 G
      rcases List.mem_cons.mp hm with rfl | hm
      · exact top_2_3 X0 X1 X2 X3 X4 X5 X6 X7 X8 X9 X10 X11 X12 X13 X14 X16 X17 X18 X19 X20 X21 X22 X23 G
      rcases List.mem_cons.mp hm with rfl | hm
      · exact top_2_4 X0 X1 X2 X3 X4 X5 X6 X7 X8 X9 X10 X11 X12 X13 X14 X16 X17 X18 X19 X20 X21 X22 X23 G
      exact nomatch hm
    rcases List.mem_cons.mp hl with rfl | hl
    · rcases List.mem_cons.mp hm with rfl | hm
      · exact top_3_0 X0 X1 X2 X3 X4 X5 X6 X7 X8 X9 X10 X11 X12 X13 X14 X16 X17 X18 X19 X20 X21 X22 X23 G
      rcases List.mem_cons.mp hm with rfl | hm
      · exact top_3_1 X0 X1 X2 X3 X4 X5 X6 X7 X8 X9 X10 X11 X12 X13 X14 X16 X17 X18 X19 X20 X21 X22 X23 G
      rcases List.mem_cons.mp hm with rfl | hm
      · exact top_3_2 X0 X1 X2 X3 X4 X5 X6 X7 X8 X9 X10 X11 X12 X13 X14 X16 X17 X18 X19 X20 X21 X22 X23 G
      rcases List.mem_cons.mp hm with rfl | hm
      · exact top_3_3 X0 X1 X2 X3 X4 X5 X6 X7 X8 X9 X10 X11 X12 X13 X14 X16 X17 X18 X19 X20 X21 X22 X23 G
      rcases List.mem_cons.mp hm with rfl | hm
      · exact top_3_4 X0 X1 X2 X3 X4 X5 X6 X7 X8 X9 X10 X11 X12 X13 X14 X16 X17 X18 X19 X20 X21 X22 X23 G
      exact nomatch hm
    rcases List.mem_cons.mp hl with rfl | hl
    · rcases List.mem_cons.mp hm with rfl | hm
      · exact top_4_0 X0 X1 X2 X3 X4 X5 X6 X7 X8 X9 X10 X11 X12 X13 X14 X16 X17 X18 X19 X20 X21 X22 X23 G
      rcases List.mem_cons.mp hm with rfl | hm
      · exact top_4_1 X0 X1 X2 X3 X4 X5 X6 X7 X8 X9 X10 X11 X12 X13 X14 X16 X17 X18 X19 X20 X21 X22 X23 G
      rcases List.mem_cons.mp hm with rfl | hm
      · exact top_4_2 X0 X1 X2 X3 X4 X5 X6 X7 X8 X9 X10 X11 X12 X13 X14 X16 X17 X18 X19 X20 X21 X22 X23 G
      rcases List.mem_cons.mp hm with rfl | hm
      · exact top_4_3 X0 X1 X2 X3 X4 X5 X6 X7 X8 X9 X10 X11 X12 X13 X14 X16 X17 X18 X19 X20 X21 X22 X23 G
      rcases List.mem_cons.mp hm with rfl | hm
      · exact top_4_4 X0 X1 X2 X3 X4 X5 X6 X7 X8 X9 X10 X11 X12 X13 X14 X16 X17 X18 X19 X20 X21 X22 X23 G
      exact nomatch hm
    exact nomatch hl
end
end LK
end
/-! ## KM5good -/
section
set_option Elab.async false
set_option linter.all false
set_option maxRecDepth 200000
set_option maxHeartbeats 0
namespace LK
open PySem PV
def f_good (X0 X1 X2 X3 X4 X5 X6 X7 X8 X9 X10 X11 X12 X13 X14 X18 X19 X20 X21 X22 X23 : Option D) (G : Gs) (ss : List Str) : R D := evE (Sa 12) [X0, X1, X2, X3, X4, X5, X6, X7, X8, X9, X10, X11, X12, X13, X14, some (.str (wd ss)), some (topOf ss), some (lowOf ss), X18, X19, X20, X21, X22, X23] (cOf (st 17)) G
def g_good (X0 X1 X2 X3 X4 X5 X6 X7 X8 X9 X10 X11 X12 X13 X14 X18 X19 X20 X21 X22 X23 : Option D) (G : Gs) (ss : List Str) : R D := .ok (goodOf ss) G
section
variable (X0 X1 X2 X3 X4 X5 X6 X7 X8 X9 X10 X11 X12 X13 X14 X18 X19 X20 X21 X22 X23 : Option D) (G : Gs)
theorem good0 : f_good X0 X1 X2 X3 X4 X5 X6 X7 X8 X9 X10 X11 X12 X13 X14 X18 X19 X20 X21 X22 X23 G [] = g_good X0 X1 X2 X3 X4 X5 X6 X7 X8 X9 X10 X11 X12 X13 X14 X18 X19 X20 X21 X22 X23 G [] := by kernel_rfl
theorem good_0 : f_good X0 X1 X2 X3 X4 X5 X6 X7 X8 X9 X10 X11 X12 X13 X14 X18 X19 X20 X21 X22 X23 G ["1"] = g_good X0 X1 X2 X3 X4 X5 X6 X7 X8 X9 X10 X11 X12 X13 X14 X18 X19 X20 X21 X22 X23 G ["1"] := by kernel_rfl
theorem good_0_0 : (lists letters 2).map (fun r => f_good X0 X1 X2 X3 X4 X5 X6 X7 X8 X9 X10 X11 X12 X13 X14 X18 X19 X20 X21 X22 X23 G ("1" :: "1" :: r)) = (lists letters 2).map (fun r => g_good X0 X1 X2 X3 X4 X5 X6 X7 X8 X9 X10 X11 X12 X13 X14 X18 X19 X20 X21 X22 X23 G ("1" :: "1" :: r)) := by kernel_rfl
theorem good_0_1 : (lists letters 2).map (fun r => f_good X0 X1 X2 X3 X4 X5 X6 X7 X8 X9 X10 X11 X12 X13 X14 X18 X19 X20 X21 X22 X23 G ("1" :: "2" :: r)) = (lists letters 2).map (fun r => g_good X0 X1 X2 X3 X4 X5 X6 X7 X8 X9 X10 X11 X12 X13 X14 X18 X19 X20 X21 X22 X23 G ("1" :: "2" :: r)) := by kernel_rfl
theorem good_0_2 : (lists letters 2).map (fun r => f_good X0 X1 X2 X3 X4 X5 X6 X7 X8 X9 X10 X11 X12 X13 X14 X18 X19 X20 X21 X22 X23 G ("1" :: "-" :: r)) = (lists letters 2).map (fun r => g_good X0 X1 X2 X3 X4 X5 X6 X7 X8 X9 X10 X11 X12 X13 X14 X18 X19 X20 X21 X22 X23 G ("1" :: "-" :: r)) := by kernel_rfl
theorem good_0_3 : (lists letters 2).map (fun r => f_good X0 X1 X2 X3 X4 X5 X6 X7 X8 X9 X10 X11 X12 X13 X14 X18 X19 X20 X21 X22 X23 G ("1" :: "/" :: r)) = (lists letters 2).map (fun r => g_good X0 X1 X2 X3 X4 X5 X6 X7 X8 X9 X10 X11 X12 X13 X14 X18 X19 X20 X21 X22 X23 G ("1" :: "/" :: r)) := by kernel_rfl
theorem good_0_4 : (lists letters 2).map (fun r => f_good X0 X1 X2 X3 X4 X5 X6 X7 X8 X9 X10 X11 X12 X13 X14 X18 X19 X20 X21 X22 X23 G ("1" :: " " :: r)) = (lists letters 2).map (fun r => g_good X0 X1 X2 X3 X4 X5 X6 X7 X8 X9 X10 X11 X12 X13 X14 X18 X19 X20 X21 X22 X23 G ("1" :: " " :: r)) := by kernel_rfl
theorem good_1 : f_good X0 X1 X2 X3 X4 X5 X6 X7 X8 X9 X10 X11 X12 X13 X14 X18 X19 X20 X21 X22 X23 G ["2"] = g_good X0 X1 X2 X3 X4 X5 X6 X7 X8 X9 X10 X11 X12 X13 X14 X18 X19 X20 X21 X22 X23 G ["2"] := by kernel_rfl
theorem good_1_0 : (lists letters 2).map (fun r => f_good X0 X1 X2 X3 X4 X5 X6 X7 X8 X9 X10 X11 X12 X13 X14 X18 X19 X20 X21 X22 X23 G ("2" :: "1" :: r)) = (lists letters 2).map (fun r => g_good X0 X1 X2 X3 X4 X5 X6 X7 X8 X9 X10 X11 X12 X13 X14 X18 X19 X20 X21 X22 X23 G ("2" :: "1" :: r)) := by kernel_rfl
theorem good_1_1 : (lists letters 2).map (fun r => f_good X0 X1 X2 X3 X4 X5 X6 X7 X8 X9 X10 X11 X12 X13 X14 X18 X19 X20 X21 X22 X23 G ("2" :: "2" :: r)) = (lists letters 2).map (fun r => g_good X0 X1 X2 X3 X4 X5 X6 X7 X8 X9 X10 X11 X12 X13 X14 X18 X19 X20 X21 X22 X23 G ("2" :: "2" :: r)) := by kernel_rfl
theorem good_1_2 : (lists letters 2).map (fun r => f_good X0 X1 X2 X3 X4 X5 X6 X7 X8 X9 X10 X11 X12 X13 X14 X18 X19 X20 X21 X22 X23 G ("2" :: "-" :: r)) = (lists letters 2).map (fun r => g_good X0 X1 X2 X3 X4 X5 X6 X7 X8 X9 X10 X11 X12 X13 X14 X18 X19 X20 X21 X22 X23 G ("2" :: "-" :: r)) := by kernel_rfl
theorem good_1_3 : (lists letters 2).map (fun r => f_good X0 X1 X2 X3 X4 X5 X6 X7 X8 X9 X10 X11 X12 X13 X14 X18 X19 X20 X21 X22 X23 G ("2" :: "/" :: r)) = (lists letters 2).map (fun r => g_good X0 X1 X2 X3 X4 X5 X6 X7 X8 X9 X10 X11 X12 X13 X14 X18 X19 X20 X21 X22 X23 G ("2" :: "/" :: r)) := by kernel_rfl
theorem good_1_4 : (lists letters 2).map (fun r => f_good X0 X1 X2 X3 X4 X5 X6 X7 X8 X9 X10 X11 X12 X13 X14 X18 X19 X20 X21 X22 X23 G ("2" :: " " :: r)) = (lists letters 2).map (fun r => g_good X0 X1 X2 X3 X4 X5 X6 X7 X8 X9 X10 X11 X12 X13 X14 X18 X19 X20 X21 X22 X23 G ("2" :: " " :: r)) := by kernel_rfl
theorem good_2 : f_good X0 X1 X2 X3 X4 X5 X6 X7 X8 X9 X10 X11 X12 X13 X14 X18 X19 X20 X21 X22 X23 G ["-"] = g_good X0 X1 X2 X3 X4 X5 X6 X7 X8 X9 X10 X11 X12 X13 X14 X18 X19 X20 X21 X22 X23 G ["-"] := by kernel_rfl
theorem good_2_0 : (lists letters 2).map (fun r => f_good X0 X1 X2 X3 X4 X5 X6 X7 X8 X9 X10 X11 X12 X13 X14 X18 X19 X20 X21 X22 X23 G ("-" :: "1" :: r)) = (lists letters 2).map (fun r => g_good X0 X1 X2 X3 X4 X5 X6 X7 X8 X9 X10 X11 X12 X13 X14 X18 X19 X20 X21 X22 X23 G ("-" :: "1" :: r)) := by kernel_rfl
theorem good_2_1 : (lists letters 2).map (fun r => f_good X0 X1 X2 X3 X4 X5 X6 X7 X8 X9 X10 X11 X12 X13 X14 X18 X19 X20 X21 X22 X23 G ("-" :: "2" :: r)) = (lists letters 2).map (fun r => g_good X0 X1 X2 X3 X4 X5 X6 X7 X8 X9 X10 X11 X12 X13 X14 X18 X19 X20 X21 X22 X23 G ("-" :: "2" :: r)) := by kernel_rfl
theorem good_2_2 : (lists letters 2).map (fun r => f_good X0 X1 X2 X3 X4 X5 X6 X7 X8 X9 X10 X11 X12 X13 X14 X18 X19 X20 X21 X22 X23 G ("-" :: "-" :: r)) = (lists letters 2).map (fun r => g_good X0 X1 X2 X3 X4 X5 X6 X7 X8 X9 X10 X11 X12 X13 X14 X18 X19 X20 X21 X22 X23 G ("-" :: "-" :: r)) := by kernel_rfl
theorem good_2_3 : (lists letters 2).map (fun r => f_good X0 X1 X2 X3 X4 X5 X6 X7 X8 X9 X10 X11 X12 X13 X14 X18 X19 X20 X21 X22 X23 G ("-" :: "/" :: r)) = (lists letters 2).map (fun r => g_good X0 X1 X2 X3 X4 X5 X6 X7 X8 X9 X10 X11 X12 X13 X14 X18 X19 X20 X21 X22 X23 G ("-" :: "/" :: r)) := by kernel_rfl
theorem good_2_4 : (lists letters 2).map (fun r => f_good X0 X1 X2 X3 X4 X5 X6 X7 X8 X9 X10 X11 X12 X13 X14 X18 X19 X20 X21 X22 X23 G ("-" :: " " :: r)) = (lists letters 2).map (fun r => g_good X0 X1 X2 X3 X4 X5 X6 X7 X8 X9 X10 X11 X12 X13 X14 X18 X19 X20 X21 X22 X23 G ("-" :: " " :: r)) := by kernel_rfl
theorem good_3 : f_good X0 X1 X2 X3 X4 X5 X6 X7 X8 X9 X10 X11 X12 X13 X14 X18 X19 X20 X21 X22 X23 G ["/"] = g_good X0 X1 X2 X3 X4 X5 X6 X7 X8 X9 X10 X11 X12 X13 X14 X18 X19 X20 X21 X22 X23 G ["/"] := by kernel_rfl
theorem good_3_0 : (lists letters 2).map (fun r => f_good X0 X1 X2 X3 X4 X5 X6 X7 X8 X9 X10 X11 X12 X13 X14 X18 X19 X20 X21 X22 X23 G ("/" :: "1" :: r)) = (lists letters 2).map (fun r => g_good X0 X1 X2 X3 X4 X5 X6 X7 X8 X9 X10 X11 X12 X13 X14 X18 X19 X20 X21 X22 X23 G ("/" :: "1" :: r)) := by kernel_rfl
theorem good_3_1 : (lists letters 2).map (fun r => f_good X0 X1 X2 X3 X4 X5 X6 X7 X8 X9 X10 X11 X12 X13 X14 X18 X19 X20 X21 X22 X23 G ("/" :: "2" :: r)) = (lists letters 2).map (fun r => g_good X0 X1 X2 X3 X4 X5 X6 X7 X8 X9 X10 X11 X12 X13 X14 X18 X19 X20 X21 X22 X23 G ("/" :: "2" :: r)) := by kernel_rfl
theorem good_3_2 : (lists letters 2).map (fun r => f_good X0 X1 X2 X3 X4 X5 X6 X7 X8 X9 X10 X11 X12 X13 X14 X18 X19 X20 X21 X22 X23 G ("/" :: "-" :: r)) = (lists letters 2).map (fun r => g_good X0 X1 X2 X3 X4 X5 X6 X7 X8 X9 X10 X11 X12 X13 X14 X18 X19 X20 X21 X22 X23 G ("/" :: "-" :: r)) := by kernel_rfl
theorem good_3_3 : (lists letters 2).map (fun r => f_good X0 X1 X2 X3 X4 X5 X6 X7 X8 X9 X10 X11 X12 X13 X14 X18 X19 X20 X21 X22 X23 G ("/" :: "/" :: r)) = (lists letters 2).map (fun r => g_good X0 X1 X2 X3 X4 X5 X6 X7 X8 X9 X10 X11 X12 X13 X14 X18 X19 X20 X21 X22 X23 G ("/" :: "/" :: r)) := by kernel_rfl
theorem good_3_4 : (lists letters 2).map (fun r => f_good X0 X1 X2 X3 X4 X5 X6 X7 X8 X9 X10 X11 X12 X13 X14 X18 X19 X20 X21 X22 X23 G ("/" :: " " :: r)) = (lists letters 2).map (fun r => g_good X0 X1 X2 X3 X4 X5 X6 X7 X8 X9 X10 X11 X12 X13 X14 X18 X19 X20 X21 X22 X23 G ("/" :: " " :: r)) := by kernel_rfl
theorem good_4 : f_good X0 X1 X2 X3 X4 X5 X6 X7 X8 X9 X10 X11 X12 X13 X14 X18 X19 X20 X21 X22 X23 G [" "] = g_good X0 X1 X2 X3 X4 X5 X6 X7 X8 X9 X10 X11 X12 X13 X14 X18 X19 X20 X21 X22 X23 G [" "] := by kernel_rfl
theorem good_4_0 : (lists letters 2).map (fun r => f_good X0 X1 X2 X3 X4 X5 X6 X7 X8 X9 X10 X11 X12 X13 X14 X18 X19 X20 X21 X22 X23 G (" " :: "1" :: r)) = (lists letters 2).map (fun r => g_good X0 X1 X2 X3 X4 X5 X6 X7 X8 X9 X10 X11 X12 X13 X14 X18 X19 X20 X21 X22 X23 G (" " :: "1" :: r)) := by kernel_rfl
theorem good_4_1 : (lists letters 2).map (fun r => f_good X0 X1 X2 X3 X4 X5 X6 X7 X8 X9 X10 X11 X12 X13 X14 X18 X19 X20 X21 X22 X23 G (" " :: "2" :: r)) = (lists letters 2).map (fun r => g_good X0 X1 X2 X3 X4 X5 X6 X7 X8 X9 X10 X11 X12 X13 X14 X18 X19 X20 X21 X22 X23 G (" " :: "2" :: r)) := by kernel_rfl
theorem good_4_2 : (lists letters 2).map (fun r => f_good X0 X1 X2 X3 X4 X5 X6 X7 X8 X9 X10 X11 X12 X13 X14 X18 X19 X20 X21 X22 X23 G (" " :: "-" :: r)) = (lists letters 2).map (fun r => g_good X0 X1 X2 X3 X4 X5 X6 X7 X8 X9 X10 X11 X12 X13 X14 X18 X19 X20 X21 X22 X23 G (" " :: "-" :: r)) := by kernel_rfl
theorem good_4_3 : (lists letters 2).map (fun r => f_good X0 X1 X2 X3 X4 X5 X6 X7 X8 X9 X10 X11 X12 X13 X14 X18 X19 X20 X21 X22 X23 G (" " :: "/" :: r)) = (lists letters 2).map (fun r => g_good X0 X1 X2 X3 X4 X5 X6 X7 X8 X9 X10 X11 X12 X13 X14 X18 X19 X20 X21 X22 X23 G (" " :: "/" :: r)) := by kernel_rfl
theorem good_4_4 : (lists letters 2).map (fun r => f_good X0 X1 X2 X3 X4 X5 X6 X7 X8 X9 X10 X11 X12 X13 X14 X18 X19 X20 X21 X22 X23 G (" " :: " " :: r)) = (lists letters 2).map (fun r => g_good X0 X1 X2 X3 X4 X5 X6 X7 X8 X9 X10 X11 X12 X13 X14 X18 X19 X20 X21 X22 X23 G (" " :: " " :: r)) := by kernel_rfl
theorem t_good : ∀ ss ∈ wordsL, f_good X0 X1 X2 X3 X4 X5 X6 X7 X8 X9 X10 X11 X12 X13 X14 X18 X19 X20 X21 X22 X23 G ss = g_good X0 X1 X2 X3 X4 X5 X6 X7 X8 X9 X10 X11 X12 X13 X14 X18 X19 X20 X21 X22 X23 G ss := by
  refine by2 (good0 X0 X1 X2 X3 X4 X5 X6 X7 X8 X9 X10 X11 X12 X13 X14 X18 X19 X20 X21 X22 X23 G) (fun l hl => ?_) (fun l hl m hm => ?_)
  · rcases List.mem_cons.mp hl with rfl | hl
    · exact good_0 X0 X1 X2 X3 X4 X5 X6 X7 X8 X9 X10 X11 X12 X13 X14 X18 X19 X20 X21 X22 X23 G
    rcases List.mem_cons.mp hl with rfl | hl
    · exact good_1 X0 X1 X2 X3 X4 X5 X6 X7 X8 X9 X10 X11 X12 X13 X14 X18 X19 X20 X21 X22 X23 G
    rcases List.mem_cons.mp hl with rfl | hl
    · exact good_2 X0 X1 X2 X3 X4 X5 X6 X7 X8 X9 X10 X11 X12 X13 X14 X18 X19 X20 X21 X22 X23 G
    rcases List.mem_cons.mp hl with rfl | hl
    · exact good_3 X0 X1 X2 X3 X4 X5 X6 X7 X8 X9 X10 X11 X12 X13 X14 X18 X19 X20 X21 X22 X23 G
    rcases List.mem_cons.mp hl with rfl | hl
    · exact good_4 X0 X1 X2 X3 X4 X5 X6 X7 X8 X9 X10 X11 X12 X13 X14 X18 X19 X20 X21 X22 X23 G
    exact nomatch hl
  · rcases List.mem_cons.mp hl with rfl | hl
    · rcases List.mem_cons.mp hm with rfl | hm
      · exact good_0_0 X0 X1 X2 X3 X4 X5 X6 X7 X8 X9 X10 X11 X12 X13 X14 X18 X19 X20 X21 X22 X23 G
      rcases List.mem_cons.mp hm with rfl | hm
      · exact good_0_1 X0 X1 X2 X3 X4 X5 X6 X7 X8 X9 X10 X11 X12 X13 X14 X18 X19 X20 X21 X22 X23 G
      rcases List.mem_cons.mp hm with rfl | hm
      · exact good_0_2 X0 X1 X2 X3 X4 X5 X6 X7 X8 X9 X10 X11 X12 X13 X14 X18 X19 X20 X21 X22 X23 G
      rcases List.mem_cons.mp hm with rfl | hm
      · exact good_0_3 X0 X1 X2 X3 X4 X5 X6 X7 X8 X9 X10 X11 X12 X13 X14 X18 X19 X20 X21 X22 X23 G
      rcases List.mem_cons.mp hm with rfl | hm
      · exact good_0_4 X0 X1 X2 X3 X4 X5 X6 X7 X8 X9 X10 X11 X12 X13 X14 X18 X19 X20 X21 X22 X23 G
      exact nomatch hm
    rcases List.mem_cons.mp hl with rfl | hl
    · rcases List.mem_cons.mp hm with rfl | hm
      · exact good_1_0 X0 X1 X2 X3 X4 X5 X6 X7 X8 X9 X10 X11 X12 X13 X14 X18 X19 X20 X21 X22 X23 G
      rcases List.mem_cons.mp hm with rfl | hm
      · exact good_1_1 X0 X1 X2 X3 X4 X5 X6 X7 X8 X9 X10 X11 X12 X13 X14 X18 X19 X20 X21 X22 X23 G
      rcases List.mem_cons.mp hm with rfl | hm
      · exact good_1_2 X0 X1 X2 X3 X4 X5 X6 X7 X8 X9 X10 X11 X12 X13 X14 X18 X19 X20 X21 X22 X23 G
      rcases List.mem_cons.mp hm with rfl | hm
      · exact good_1_3 X0 X1 X2 X3 X4 X5 X6 X7 X8 X9 X10 X11 X12 X13 X14 X18 X19 X20 X21 X22 X23 G
      rcases List.mem_cons.mp hm with rfl | hm
      · exact good_1_4 X0 X1 X2 X3 X4 X5 X6 X7 X8 X9 X10 X11 X12 X13 X14 X18 X19 X20 X21 X22 X23 G
      exact nomatch hm
    rcases List.mem_cons.mp hl with rfl | hl
    · rcases List.mem_cons.mp hm with rfl | hm
      · exact good_2_0 X0 X1 X2 X3 X4 X5 X6 X7 X8 X9 X10 X11 X12 X13 X14 X18 X19 X20 X21 X22 X23 G
      rcases List.mem_cons.mp hm with rfl | hm
      · exact good_2_1 X0 X1 X2 X3 X4 X5 X6 X7 X8 X9 X10 X11 X12 X13 X14 X18 X19 X20 X21 X22 X23 G
      rcases List.mem_cons.mp hm with rfl | hm
      · exact good_2_2 X0 X1 X2 X3 X4 X5 X6 X7 X8 X9 X10 X11 X12 X13 X14 X18 X19 X20 X21 X22 X23 G
      rcases List.mem_cons.mp hm with rfl | hm
      · exact good_2_3 X0 X1 X2 X3 X4 X5 X6 X7 X8 X9 X10 X11 X12 X13 X14 X18 X19 X20 X21 X22 X23 G
      rcases List.mem_cons.mp hm with rfl | hm
      · exact good_2_4 X0 X1 X2 X3 X4 X5 X6 X7 X8 X9 X10 X11 X12 X13 X14 X18 X19 X20 X21 X22 X23 G
      exact nomatch hm
    rcases List.mem_cons.mp hl with rfl | hl
    · rcases List.mem_cons.mp hm with rfl | hm
      · exact good_3_0 X0 X1 X2 X3 X4 X5 X6 X7 X8 X9 X10 X11 X12 X13 X14 X18 X19 X20 X21 X22 X23 G
      rcases List.mem_cons.mp hm with rfl | hm
      · exact good_3_1 X0 X1 X2 X3 X4 X5 X6 X7 X8 X9 X10 X11 X12 X13 X14 X18 X19 X20 X21 X22 X23 G
      rcases List.mem_cons.mp hm with rfl | hm
      · exact good_3_2 X0 X1 X2 X3 X4 X5 X6 X7 X8 X9 X10 X11 X12 X13 X14 X18 X19 X20 X21 X22 X23 G
      rcases List.mem_cons.mp hm with rfl | hm
      · exact good_3_3 X0 X1 X2 X3 X4 X5 X6 X7 X8 X9 X10 X11 X12 X13 X14 X18 X19 X20 X21 X22 X23 G
      rcases List.mem_cons.mp hm with rfl | hm
      · exact good_3_4 X0 X1 X2 X3 X4 X5 X6 X7 X8 X9 X10 X11 X12 X13 X14 X18 X19 X20 X21 X22 X23 G
      exact nomatch hm
    rcases List.mem_cons.mp hl with rfl | hl
    · rcases List.mem_cons.mp hm with rfl | hm
      · exact good_4_0 X0 X1 X2 X3 X4 X5 X6 X7 X8 X9 X10 X11 X12 X13 X14 X18 X19 X20 X21 X22 X23 G
      rcases List.mem_cons.mp hm with rfl | hm
      · exact good_4_1 X0 X1 X2 X3 X4 X5 X6 X7 X8 X9 X10 X11 X12 X13 X14 X18 X19 X20 X21 X22 X23 G
      rcases List.mem_cons.mp hm with rfl | hm
      · exact good_4_2 X0 X1 X2 X3 X4 X5 X6 X7 X8 X9 X10 X11 X12 X13 X14 X18 X19 X20 X21 X22 X23 G
      rcases List.mem_cons.mp hm with rfl | hm
      · exact good_4_3 X0 X1 X2 X3 X4 X5 X6 X7 X8 X9 X10 X11 X12 X13 X14 X18 X19 X20 X21 X22 X23 G
      rcases List.mem_cons.mp hm with rfl | hm
      · exact good_4_4 X0 X1 X2 X3 X4 X5 X6 X7 X8 X9 X10 X11 X12 X13 X14 X18 X19 X20 X21 X22 X23 G
      exact nomatch hm
    exact nomatch hl
end
end LK
end
/-! ## KM5word -/
section
set_option Elab.async false
set_option linter.all false
set_option maxRecDepth 200000
set_option maxHeartbeats 0
namespace LK
open PySem PV
def f_word (X0 X1 X2 X3 X4 X5 X6 X7 X8 X9 X10 X11 X12 X13 X14 X19 X20 X21 X22 X23 : Option D) (G : Gs) (ss : List Str) : R D := evE (Sa 12) [X0, X1, X2, X3, X4, X5, X6, X7, X8, X9, X10, X11, X12, X13, X14, some (.str (wd ss)), some (topOf ss), some (lowOf ss), some (goodOf ss), X19, X20, X21, X22, X23] (cOf (st 18)) G
def g_word (X0 X1 X2 X3 X4 X5 X6 X7 X8 X9 X10 X11 X12 X13 X14 X19 X20 X21 X22 X23 : Option D) (G : Gs) (ss : List Str) : R D := .ok (.bl false) G
section
variable (X0 X1 X2 X3 X4 X5 X6 X7 X8 X9 X10 X11 X12 X13 X14 X19 X20 X21 X22 X23 : Option D) (G : Gs)
theorem word0 : f_word X0 X1 X2 X3 X4 X5 X6 X7 X8 X9 X10 X11 X12 X13 X14 X19 X20 X21 X22 X23 G [] = g_word X0 X1 X2 X3 X4 X5 X6 X7 X8 X9 X10 X11 X12 X13 X14 X19 X20 X21 X22 X23 G [] := by kernel_rfl
theorem word_0 : f_word X0 X1 X2 X3 X4 X5 X6 X7 X8 X9 X10 X11 X12 X13 X14 X19 X20 X21 X22 X23 G ["1"] = g_word X0 X1 X2 X3 X4 X5 X6 X7 X8 X9 X10 X11 X12 X13 X14 X19 X20 X21 X22 X23 G ["1"] := by kernel_rfl
theorem word_0_0 : (lists letters 2).map (fun r => f_word X0 X1 X2 X3 X4 X5 X6 X7 X8 X9 X10 X11 X12 X13 X14 X19 X20 X21 X22 X23 G ("1" :: "1" :: r)) = (lists letters 2).map (fun r => g_word X0 X1 X2 X3 X4 X5 X6 X7 X8 X9 X10 X11 X12 X13 X14 X19 X20 X21 X22 X23 G ("1" :: "1" :: r)) := by kernel_rfl
theorem word_0_1 : (lists letters 2).map (fun r => f_word X0 X1 X2 X3 X4 X5 X6 X7 X8 X9 X10 X11 X12 X13 X14 X19 X20 X21 X22 X23 G ("1" :: "2" :: r)) = (lists letters 2).map (fun r => g_word X0 X1 X2 X3 X4 X5 X6 X7 X8 X9 X10 X11 X12 X13 X14 X19 X20 X21 X22 X23 G ("1" :: "2" :: r)) := by kernel_rfl
theorem word_0_2 : (lists letters 2).map (fun r => f_word X0 X1 X2 X3 X4 X5 X6 X7 X8 X9 X10 X11 X12 X13 X14 X19 X20 X21 X22 X23 G ("1" :: "-" :: r)) = (lists letters 2).map (fun r => g_word X0 X1 X2 X3 X4 X5 X6 X7 X8 X9 X10 X11 X12 X13 X14 X19 X20 X21 X22 X23 G ("1" :: "-" :: r)) := by kernel_rfl
theorem word_0_3 : (lists letters 2).map (fun r => f_word X0 X1 X2 X3 X4 X5 X6 X7 X8 X9 X10 X11 X12 X13 X14 X19 X20 X21 X22 X23 G ("1" :: "/" :: r)) = (lists letters 2).map (fun r => g_word X0 X1 X2 X3 X4 X5 X6 X7 X8 X9 X10 X11 X12 X13 X14 X19 X20 X21 X22 X23 G ("1" :: "/" :: r)) := by kernel_rfl
theorem word_0_4 : (lists letters 2).map (fun r => f_word X0 X1 X2 X3 X4 X5 X6 X7 X8 X9 X10 X11 X12 X13 X14 X19 X20 X21 X22 X23 G ("1" :: " " :: r)) = (lists letters 2).map (fun r => g_word X0 X1 X2 X3 X4 X5 X6 X7 X8 X9 X10 X11 X12 X13 X14 X19 X20 X21 X22 X23 G ("1" :: " " :: r)) := by kernel_rfl
theorem word_1 : f_word X0 X1 X2 X3 X4 X5 X6 X7 X8 X9 X10 X11 X12 X13 X14 X19 X20 X21 X22 X23 G ["2"] = g_word X0 X1 X2 X3 X4 X5 X6 X7 X8 X9 X10 X11 X12 X13 X14 X19 X20 X21 X22 X23 G ["2"] := by kernel_rfl
theorem word_1_0 : (lists letters 2).map (fun r => f_word X0 X1 X2 X3 X4 X5 X6 X7 X8 X9 X10 X11 X12 X13 X14 X19 X20 X21 X22 X23 G ("2" :: "1" :: r)) = (lists letters 2).map (fun r => g_word X0 X1 X2 X3 X4 X5 X6 X7 X8 X9 X10 X11 X12 X13 X14 X19 X20 X21 X22 X23 G ("2" :: "1" :: r)) := by kernel_rfl
theorem word_1_1 : (lists letters 2).map (fun r => f_word X0 X1 X2 X3 X4 X5 X6 X7 X8 X9 X10 X11 X12 X13 X14 X19 X20 X21 X22 X23 G ("2" :: "2" :: r)) = (lists letters 2).map (fun r => g_word X0 X1 X2 X3 X4 X5 X6 X7 X8 X9 X10 X11 X12 X13 X14 X19 X20 X21 X22 X23 G ("2" :: "2" :: r)) := by kernel_rfl
theorem word_1_2 : (lists letters 2).map (fun r => f_word X0 X1 X2 X3 X4 X5 X6 X7 X8 X9 X10 X11 X12 X13 X14 X19 X20 X21 X22 X23 G ("2" :: "-" :: r)) = (lists letters 2).map (fun r => g_word X0 X1 X2 X3 X4 X5 X6 X7 X8 X9 X10 X11 X12 X13 X14 X19 X20 X21 X22 X23 G ("2" :: "-" :: r)) := by kernel_rfl
theorem word_1_3 : (lists letters 2).map (fun r => f_word X0 X1 X2 X3 X4 X5 X6 X7 X8 X9 X10 X11 X12 X13 X14 X19 X20 X21 X22 X23 G ("2" :: "/" :: r)) = (lists letters 2).map (fun r => g_word X0 X1 X2 X3 X4 X5 X6 X7 X8 X9 X10 X11 X12 X13 X14 X19 X20 X21 X22 X23 G ("2" :: "/" :: r)) := by kernel_rfl
theorem word_1_4 : (lists letters 2).map (fun r => f_word X0 X1 X2 X3 X4 X5 X6 X7 X8 X9 X10 X11 X12 X13 X14 X19 X20 X21 X22 X23 G ("2" :: " " :: r)) = (lists letters 2).map (fun r => g_word X0 X1 X2 X3 X4 X5 X6 X7 X8 X9 X10 X11 X12 X13 X14 X19 X20 X21 X22 X23 G ("2" :: " " :: r)) := by kernel_rfl
theorem word_2 : f_word X0 X1 X2 X3 X4 X5 X6 X7 X8 X9 X10 X11 X12 X13 X14 X19 X20 X21 X22 X23 G ["-"] = g_word X0 X1 X2 X3 X4 X5 X6 X7 X8 X9 X10 X11 X12 X13 X14 X19 X20 X21 X22 X23 G ["-"] := by kernel_rfl
theorem word_2_0 : (lists letters 2).map (fun r => f_word X0 X1 X2 X3 X4 X5 X6 X7 X8 X9 X10 X11 X12 X13 X14 X19 X20 X21 X22 X23 G ("-" :: "1" :: r)) = (lists letters 2).map (fun r => g_word X0 X1 X2 X3 X4 X5 X6 X7 X8 X9 X10 X11 X12 X13 X14 X19 X20 X21 X22 X23 G ("-" :: "1" :: r)) := by kernel_rfl
theorem word_2_1 : (lists letters 2).map (fun r => f_word X0 X1 X2 X3 X4 X5 X6 X7 X8 X9 X10 X11 X12 X13 X14 X19 X20 X21 X22 X23 G ("-" :: "2" :: r)) = (lists letters 2).map (fun r => g_word X0 X1 X2 X3 X4 X5 X6 X7 X8 X9 X10 X11 X12 X13 X14 X19 X20 X21 X22 X23 G ("-" :: "2" :: r)) := by kernel_rfl
theorem word_2_2 : (lists letters 2).map (fun r => f_word X0 X1 X2 X3 X4 X5 X6 X7 X8 X9 X10 X11 X12 X13 X14 X19 X20 X21 X22 X23 G ("-" :: "-" :: r)) = (lists letters 2).map (fun r => g_word X0 X1 X2 X3 X4 X5 X6 X7 X8 X9 X10 X11 X12 X13 X14 X19 X20 X21 X22 X23 G ("-" :: "-" :: r)) := by kernel_rfl
theorem word_2_3 : (lists letters 2).map (fun r => f_word X0 X1 X2 X3 X4 X5 X6 X7 X8 X9 X10 X11 X12 X13 X14 X19 X20 X21 X22 X23 G ("-" :: "/" :: r)) = (lists letters 2).map (fun r => g_word X0 X1 X2 X3 X4 X5 X6 X7 X8 X9 X10 X11 X12 X13 X14 X19 X20 X21 X22 X23 G ("-" :: "/" :: r)) := by kernel_rfl
theorem word_2_4 : (lists letters 2).map (fun r => f_word X0 X1 X2 X3 X4 X5 X6 X7 X8 X9 X10 X11 X12 X13 X14 X19 X20 X21 X22 X23 G ("-" :: " " :: r)) = (lists letters 2).map (fun r => g_word X0 X1 X2 X3 X4 X5 X6 X7 X8 X9 X10 X11 X12 X13 X14 X19 X20 X21 X22 X23 G ("-" :: " " :: r)) := by kernel_rfl
theorem word_3 : f_word X0 X1 X2 X3 X4 X5 X6 X7 X8 X9 X10 X11 X12 X13 X14 X19 X20 X21 X22 X23 G ["/"] = g_word X0 X1 X2 X3 X4 X5 X6 X7 X8 X9 X10 X11 X12 X13 X14 X19 X20 X21 X22 X23 G ["/"] := by kernel_rfl
theorem word_3_0 : (lists letters 2).map (fun r => f_word X0 X1 X2 X3 X4 X5 X6 X7 X8 X9 X10 X11 X12 X13 X14 X19 X20 X21 X22 X23 G ("/" :: "1" :: r)) = (lists letters 2).map (fun r => g_word X0 X1 X2 X3 X4 X5 X6 X7 X8 X9 X10 X11 X12 X13 X14 X19 X20 X21 X22 X23 G ("/" :: "1" :: r)) := by kernel_rfl
theorem word_3_1 : (lists letters 2).map (fun r => f_word X0 X1 X2 X3 X4 X5 X6 X7 X8 X9 X10 X11 X12 X13 X14 X19 X20 X21 X22 X23 G ("/" :: "2" :: r)) = (lists letters 2).map (fun r => g_word X0 X1 X2 X3 X4 X5 X6 X7 X8 X9 X10 X11 X12 X13 X14 X19 X20 X21 X22 X23 G ("/" :: "2" :: r)) := by kernel_rfl
theorem word_3_2 : (lists letters 2).map (fun r => f_word X0 X1 X2 X3 X4 X5 X6 X7 X8 X9 X10 X11 X12 X13 X14 X19 X20 X21 X22 X23 G ("/" :: "-" :: r)) = (lists letters 2).map (fun r => g_word X0 X1 X2 X3 X4 X5 X6 X7 X8 X9 X10 X11 X12 X13 X14 X19 X20 X21 X22 X23 G ("/" :: "-" :: r)) := by kernel_rfl
theorem word_3_3 : (lists letters 2).map (fun r => f_word X0 X1 X2 X3 X4 X5 X6 X7 X8 X9 X10 X11 X12 X13 X14 X19 X20 X21 X22 X23 G ("/" :: "/" :: r)) = (lists letters 2).map (fun r => g_word X0 X1 X2 X3 X4 X5 X6 X7 X8 X9 X10 X11 X12 X13 X14 X19 X20 X21 X22 X23 G ("/" :: "/" :: r)) := by kernel_rfl
theorem word_3_4 : (lists letters 2).map (fun r => f_word X0 X1 X2 X3 X4 X5 X6 X7 X8 X9 X10 X11 X12 X13 X14 X19 X20 X21 X22 X23 G ("/" :: " " :: r)) = (lists letters 2).map (fun r => g_word X0 X1 X2 X3 X4 X5 X6 X7 X8 X9 X10 X11 X12 X13 X14 X19 X20 X21 X22 X23 G ("/" :: " " :: r)) := by kernel_rfl
theorem word_4 : f_word X0 X1 X2 X3 X4 X5 X6 X7 X8 X9 X10 X11 X12 X13 X14 X19 X20 X21 X22 X23 G [" "] = g_word X0 X1 X2 X3 X4 X5 X6 X7 X8 X9 X10 X11 X12 X13 X14 X19 X20 X21 X22 X23 G [" "] := by kernel_rfl
theorem word_4_0 : (lists letters 2).map (fun r => f_word X0 X1 X2 X3 X4 X5 X6 X7 X8 X9 X10 X11 X12 X13 X14 X19 X20 X21 X22 X23 G (" " :: "1" :: r)) = (lists letters 2).map (fun r => g_word X0 X1 X2 X3 X4 X5 X6 X7 X8 X9 X10 X11 X12 X13 X14 X19 X20 X21 X22 X23 G (" " :: "1" :: r)) := by kernel_rfl
theorem word_4_1 : (lists letters 2).map (fun r => f_word X0 X1 X2 X3 X4 X5 X6 X7 X8 X9 X10 X11 X12 X13 X14 X19 X20 X21 X22 X23 G (" " :: "2" :: r)) = (lists letters 2).map (fun r => g_word X0 X1 X2 X3 X4 X5 X6 X7 X8 X9 X10 X11 X12 X13 X14 X19 X20 X21 X22 X23 G (" " :: "2" :: r)) := by kernel_rfl
theorem word_4_2 : (lists letters 2).map (fun r => f_word X0 X1 X2 X3 X4 X5 X6 X7 X8 X9 X10 X11 X12 X13 X14 X19 X20 X21 X22 X23 G (" " :: "-" :: r)) = (lists letters 2).map (fun r => g_word X0 X1 X2 X3 X4 X5 X6 X7 X8 X9 X10 X11 X12 X13 X14 X19 X20 X21 X22 X23 G (" " :: "-" :: r)) := by kernel_rfl
theorem word_4_3 : (lists letters 2).map (fun r => f_word X0 X1 X2 X3 X4 X5 X6 X7 X8 X9 X10 X11 X12 X13 X14 X19 X20 X21 X22 X23 G (" " :: "/" :: r)) = (lists letters 2).map (fun r => g_word X0 X1 X2 X3 X4 X5 X6 X7 X8 X9 X10 X11 X12 X13 X14 X19 X20 X21 X22 X23 G (" " :: "/" :: r)) := by kernel_rfl
theorem word_4_4 : (lists letters 2).map (fun r => f_word X0 X1 X2 X3 X4 X5 X6 X7 X8 X9 X10 X11 X12 X13 X14 X19 X20 X21 X22 X23 G (" " :: " " :: r)) = (lists letters 2).map (fun r => g_word X0 X1 X2 X3 X4 X5 X6 X7 X8 X9 X10 X11 X12 X13 X14 X19 X20 X21 X22 X23 G (" " :: " " :: r)) := by kernel_rfl
theorem t_word : ∀ ss ∈ wordsL, f_word X0 X1 X2 X3 X4 X5 X6 X7 X8 X9 X10 X11 X12 X13 X14 X19 X20 X21 X22 X23 G ss = g_word X0 X1 X2 X3 X4 X5 X6 X7 X8 X9 X10 X11 X12 X13 X14 X19 X20 X21 X22 X23 G ss := by
  refine by2 (word0 X0 X1 X2 X3 X4 X5 X6 X7 X8 X9 X10 X11 X12 X13 X14 X19 X20 X21 X22 X23 G) (fun l hl => ?_) (fun l hl m hm => ?_)
  · rcases List.mem_cons.mp hl with rfl | hl
    · exact word_0 X0 X1 X2 X3 X4 X5 X6 X7 X8 X9 X10 X11 X12 X13 X14 X19 X20 X21 X22 X23 G
    rcases List.mem_cons.mp hl with rfl | hl
    · exact word_1 X0 X1 X2 X3 X4 X5 X6 X7 X8 X9 X10 X11 X12 X13 X14 X19 X20 X21 X22 X23 G
    rcases List.mem_cons.mp hl with rfl | hl
    · exact word_2 X0 X1 X2 X3 X4 X5 X6 X7 X8 X9 X10 X11 X12 X13 X14 X19 X20 X21 X22 X23 G
    rcases List.mem_cons.mp hl with rfl | hl
    · exact word_3 X0 X1 X2 X3 X4 X5 X6 X7 X8 X9 X10 X11 X12 X13 X14 X19 X20 X21 X22 X23 G
    rcases List.mem_cons.mp hl with rfl | hl
    · exact word_4 X0 X1 X2 X3 X4 X5 X6 X7 X8 X9 X10 X11 X12 X13 X14 X19 X20 X21 X22 X23 G
    exact nomatch hl
  · rcases List.mem_cons.mp hl with rfl | hl
    · rcases List.mem_cons.mp hm with rfl | hm
      · exact word_0_0 X0 X1 X2 X3 X4 X5 X6 X7 X8 X9 X10 X11 X12 X13 X14 X19 X20 X21 X22 X23 G
      rcases List.mem_cons.mp hm with rfl | hm
      · exact word_0_1 X0 X1 X2 X3 X4 X5 X6 X7 X8 X9 X10 X11 X12 X13 X14 X19 X20 X21 X22 X23 G
      rcases List.mem_cons.mp hm with rfl | hm
      · exact word_0_2 X0 X1 X2 X3 X4 X5 X6 X7 X8 X9 X10 X11 X12 X13 X14 X19 X20 X21 X22 X23 G
      rcases List.mem_cons.mp hm with rfl | hm
      · exact word_0_3 X0 X1 X2 X3 X4 X5 X6 X7 X8 X9 X10 X11 X12 X13 X14 X19 X20 X21 X22 X23 G
      rcases List.mem_cons.mp hm with rfl | hm
      · exact word_0_4 X0 X1 X2 X3 X4 X5 X6 X7 X8 X9 X10 X11 X12 X13 X14 X19 X20 X21 X22 X23 G
      exact nomatch hm
    rcases List.mem_cons.mp hl with rfl | hl
    · rcases List.mem_cons.mp hm with rfl | hm
      · exact word_1_0 X0 X1 X2 X3 X4 X5 X6 X7 X8 X9 X10 X11 X12 X13 X14 X19 X20 X21 X22 X23 G
      rcases List.mem_cons.mp hm with rfl | hm
      · exact word_1_1 X0 X1 X2 X3 X4 X5 X6 X7 X8 X9 X10 X11 X12 X13 X14 X19 X20 X21 X22 X23 G
      rcases List.mem_cons.mp hm with rfl | hm
      · exact word_1_2 X0 X1 X2 X3 X4 X5 X6 X7 X8 X9 X10 X11 X12 X13 X14 X19 X20 X21 X22 X23 G
      rcases List.mem_cons.mp hm with rfl | hm
      · exact word_1_3 X0 X1 X2 X3 X4 X5 X6 X7 X8 X9 X10 X11 X12 X13 X14 X19 X20 X21 X22 X23 G
      rcases List.mem_cons.mp hm with rfl | hm
      · exact word_1_4 X0 X1 X2 X3 X4 X5 X6 X7 X8 X9 X10 X11 X12 X13 X14 X19 X20 X21 X22 X23 G
      exact nomatch hm
    rcases List.mem_cons.mp hl with rfl | hl
    · rcases List.mem_cons.mp hm with rfl | hm
      · exact word_2_0 X0 X1 X2 X3 X4 X5 X6 X7 X8 X9 X10 X11 X12 X13 X14 X19 X20 X21 X22 X23 G
      rcases List.mem_cons.mp hm with rfl | hm
      · exact word_2_1 X0 X1 X2 X3 X4 X5 X6 X7 X8 X9 X10 X11 X12 X13 X14 X19 X20 X21 X22 X23 G
      rcases List.mem_cons.mp hm with rfl | hm
      · exact word_2_2 X0 X1 X2 X3 X4 X5 X6 X7 X8 X9 X10 X11 X12 X13 X14 X19 X20 X21 X22 X23 G
      rcases List.mem_cons.mp hm with rfl | hm
      · exact word_2_3 X0 X1 X2 X3 X4 X5 X6 X7 X8 X9 X10 X11 X12 X13 X14 X19 X20 X21 X22 X23 G
      rcases List.mem_cons.mp hm with rfl | hm
      · exact word_2_4 X0 X1 X2 X3 X4 X5 X6 X7 X8 X9 X10 X11 X12 X13 X14 X19 X20 X21 X22 X23 G
      exact nomatch hm
    rcases List.mem_cons.mp hl with rfl | hl
    · rcases List.mem_cons.mp hm with rfl | hm
      · exact word_3_0 X0 X1 X2 X3 X4 X5 X6 X7 X8 X9 X10 X11 X12 X13 X14 X19 X20 X21 X22 X23 G
      rcases List.mem_cons.mp hm with rfl | hm
      · exact word_3_1 X0 X1 X2 X3 X4 X5 X6 X7 X8 X9 X10 X11 X12 X13 X14 X19 X20 X21 X22 X23 G
      rcases List.mem_cons.mp hm with rfl | hm
      · exact word_3_2 X0 X1 X2 X3 X4 X5 X6 X7 X8 X9 X10 X11 X12 X13 X14 X19 X20 X21 X22 X23 G
      rcases List.mem_cons.mp hm with rfl | hm
      · exact word_3_3 X0 X1 X2 X3 X4 X5 X6 X7 X8 X9 X10 X11 X12 X13 X14 X19 X20 X21 X22 X23 G
      rcases List.mem_cons.mp hm with rfl | hm
      · exact word_3_4 X0 X1 X2 X3 X4 X5 X6 X7 X8 X9 X10 X11 X12 X13 X14 X19 X20 X21 X22 X23 G
      exact nomatch hm
    rcases List.mem_cons.mp hl with rfl | hl
    · rcases List.mem_cons.mp hm with rfl | hm
      · exact word_4_0 X0 X1 X2 X3 X4 X5 X6 X7 X8 X9 X10 X11 X12 X13 X14 X19 X20 X21 X22 X23 G
      rcases List.mem_cons.mp hm with rfl | hm
      · exact word_4_1 X0 X1 X2 X3 X4 X5 X6 X7 X8 X9 X10 X11 X12 X13 X14 X19 X20 X21 X22 X23 G
      rcases List.mem_cons.mp hm with rfl | hm
      · exact word_4_2 X0 X1 X2 X3 X4 X5 X6 X7 X8 X9 X10 X11 X12 X13 X14 X19 X20 X21 X22 X23 G
      rcases List.mem_cons.mp hm with rfl | hm
      · exact word_4_3 X0 X1 X2 X3 X4 X5 X6 X7 X8 X9 X10 X11 X12 X13 X14 X19 X20 X21 X22 X23 G
      rcases List.mem_cons.mp hm with rfl | hm
      · exact word_4_4 X0 X1 X2 X3 X4 X5 X6 X7 X8 X9 X10 X11 X12 X13 X14 X19 X20 X21 X22 X23 G
      exact nomatch hm
    exact nomatch hl
end
end LK
end
/-! ## KM6 -/
section
set_option Elab.async false
set_option linter.all false
set_option maxRecDepth 200000
set_option maxHeartbeats 8000000
namespace LK
open PySem PV
theorem ne_int (i : Int) : cmpD .ne (.int i) (.int i) = some false := by
  rw [cne, eqD_int, decide_eq_true rfl]
  rfl
theorem ne_pr {p q : Int × Int} (h : p = q) : cmpD .ne (pr p) (pr q) = some false := by
  rw [cne, eqD_pr, decide_eq_true h]
  rfl
theorem ne_part : cmpD .ne (.str "part") (.str "part") = some false := by kernel_rfl
theorem ne_bl {x y : Bool} (h : x = y) : cmpD .ne (.bl x) (.bl y) = some false := by
  subst h
  cases x <;> rfl
theorem ne_rows {ps qs : List (Int × Int)} (h : ps = qs) : cmpD .ne (.lst (ps.map pr)) (.lst (qs.map pr)) = some false := by
  subst h
  rw [cne, eqD_rows]
  rfl
theorem okd_small {t l : Int} (h0 : l ≠ 0) (h : l.natAbs < 2 ^ 20) : okDiv (gOf t l) = true := by
  have h1 := natAbs_le_of_mul (fdiv_mul (gOf_dvd t l).2) (gOf_ne h0)
  have h2 : (gOf t l).natAbs ≤ l.natAbs := by
    have := Nat.gcd_le_right t.natAbs (show 0 < l.natAbs by omega)
    unfold gOf
    split <;> omega
  exact okDiv_small (gOf_ne h0) (by omega)
theorem okm_small {a b : Int} (ha : a.natAbs < 2 ^ 20) (hb : b.natAbs < 2 ^ 20) : okMul a b = true := ok_mul ha hb (by decide)
section
variable {S : PV.Sem} {ρ : PV.Env} {G G1 : Gs}
theorem x_told {b : PV.E} {d : D} (h : evE S ρ b G = .ok d G1) : evE S ρ (.told b) G = .ok d G1 := by simp only [evE, h, toldR]
theorem x_toldx {b : PV.E} {c : Nat} {r : Str} (h : evE S ρ b G = .exc c G1) (h2 : S.told c = some r) : evE S ρ (.told b) G = .ok (.str r) G1 := by simp only [evE, h, toldR, h2]
theorem forL_next {f : D → PV.Env → Gs → F} {d : D} {ds : List D} {ρ1 : PV.Env} {x : F} (h : f d ρ G = .next ρ1 G1) (h2 : forL f ds ρ1 G1 = x) : forL f (d :: ds) ρ G = x := by simp only [forL, h, h2]
end
/-! the arithmetic of the first part -/
section
variable {a b c d : Int} (hb : 0 < b) (hd : 0 < d)
include hb hd
theorem plus_eq : pl (pq a b) (pq c d) = pq (a * d + c * b) (b * d) := by
  have c1 := pq_cross a b
  have c2 := pq_cross c d
  have p1 := pq_pos (t := a) (l := b) (by omega)
  have p2 := pq_pos (t := c) (l := d) (by omega)
  exact pq_eq (Int.ne_of_gt (Int.mul_pos p1 p2)) (Int.ne_of_gt (Int.mul_pos hb hd)) (by grind)
theorem minus_eq : mn (pq a b) (pq c d) = pq (a * d - c * b) (b * d) := by
  have c1 := pq_cross a b
  have c2 := pq_cross c d
  have p1 := pq_pos (t := a) (l := b) (by omega)
  have p2 := pq_pos (t := c) (l := d) (by omega)
  exact pq_eq (Int.ne_of_gt (Int.mul_pos p1 p2)) (Int.ne_of_gt (Int.mul_pos hb hd)) (by grind)
theorem times_eq : tm (pq a b) (pq c d) = pq (a * c) (b * d) := by
  have c1 := pq_cross a b
  have c2 := pq_cross c d
  have p1 := pq_pos (t := a) (l := b) (by omega)
  have p2 := pq_pos (t := c) (l := d) (by omega)
  exact pq_eq (Int.ne_of_gt (Int.mul_pos p1 p2)) (Int.ne_of_gt (Int.mul_pos hb hd)) (by grind)
theorem top_ne (hc : c ≠ 0) : (pq c d).1 ≠ 0 := fun e => by
  have c2 := pq1 c d
  rw [e, Int.zero_mul] at c2
  exact hc c2.symm
theorem over_eq (hc : c ≠ 0) : pq ((pq a b).1 * (pq c d).2) ((pq a b).2 * (pq c d).1) = pq (a * d) (b * c) := by
  have c1 := pq_cross a b
  have c2 := pq_cross c d
  have p1 := pq_pos (t := a) (l := b) (by omega)
  have p2 := pq_pos (t := c) (l := d) (by omega)
  exact pq_eq (Int.mul_ne_zero (by omega) (top_ne hb hd hc)) (Int.mul_ne_zero (by omega) hc) (by grind)
theorem less_eq : decide ((pq a b).1 * (pq c d).2 < (pq c d).1 * (pq a b).2) = decide (a * d < c * b) := by
  have c1 := pq_cross a b
  have c2 := pq_cross c d
  have p1 := pq_pos (t := a) (l := b) (by omega)
  have p2 := pq_pos (t := c) (l := d) (by omega)
  have k1 : 0 < b * d := Int.mul_pos hb hd
  have k2 : 0 < (pq a b).2 * (pq c d).2 := Int.mul_pos p1 p2
  have e1 : ((pq a b).1 * (pq c d).2) * (b * d) = (a * d) * ((pq a b).2 * (pq c d).2) := by grind
  have e2 : ((pq c d).1 * (pq a b).2) * (b * d) = (c * b) * ((pq a b).2 * (pq c d).2) := by grind
  have k : ((pq a b).1 * (pq c d).2 < (pq c d).1 * (pq a b).2) ↔ a * d < c * b := by
    rw [← Int.mul_lt_mul_right k1, e1, e2, Int.mul_lt_mul_right k2]
  by_cases h : a * d < c * b
  · rw [decide_eq_true h, decide_eq_true (k.mpr h)]
  · rw [decide_eq_false h, decide_eq_false (fun z => h (k.mp z))]
end
/-! the sums that the law keeps -/
def bodyL : List St := match st 9 with
  | .for_ _ _ b => b
  | _ => []

theorem loop_law (X0 X1 X2 X3 X4 X5 X6 X7 X8 X9 X13 X14 X15 X16 X17 X18 X19 X20 X21 X22 X23 : Option D) (G : Gs) : ∀ (ps : List (Int × Int)) (m1 m2 : Nat) (f g : Int × Int) (z : Option D), Sz m1 f → Sz m2 g → (∀ p ∈ ps, Sz 3 p) → m1 + ps.length * 4 < 9000 → m2 + ps.length * 3 < 9000 → ∃ z', forL (fun d ρ1 G2 => match PV.assign ρ1 (.nm 12) d with | some ρ2 => evB (Sa 12) bodyL ρ2 G2 | none => .bad) (ps.map pr) [X0, X1, X2, X3, X4, X5, X6, X7, X8, X9, some (pr f), some (pr g), z, X13, X14, X15, X16, X17, X18, X19, X20, X21, X22, X23] G = .next [X0, X1, X2, X3, X4, X5, X6, X7, X8, X9, some (pr (ps.foldl pl f)), some (pr (ps.foldl tm g)), z', X13, X14, X15, X16, X17, X18, X19, X20, X21, X22, X23] G
  | [], m1, m2, f, g, z, _, _, _, _, _ => ⟨z, rfl⟩
  | p :: ps, m1, m2, f, g, z, hf, hg, hp, h1, h2 => by
    rw [List.length_cons] at h1 h2
    have hp0 := hp p (List.mem_cons_self ..)
    obtain ⟨s1, _, c1⟩ := sz_pl 10 G hf hp0 (by omega)
    obtain ⟨s2, _, c2⟩ := sz_tm 10 G hg hp0 (by omega)
    obtain ⟨z', h⟩ := loop_law X0 X1 X2 X3 X4 X5 X6 X7 X8 X9 X13 X14 X15 X16 X17 X18 X19 X20 X21 X22 X23 G ps (m1 + 3 + 1) (m2 + 3) (pl f p) (tm g p) (some (pr p)) s1 s2 (fun q hq => hp q (List.mem_cons_of_mem _ hq)) (by omega) (by omega)
    refine ⟨z', forL_next (b_next (s_set (x_tup (x_es (x_call (x_es (x_bin (x_bin (x_ix x_v x_c (ix0 _ f)) (x_ix x_v x_c (ix1 _ p)) (bm _ _ (ok_mul hf.1 hp0.2.2 (by omega)))) (x_bin (x_ix x_v x_c (ix0 _ p)) (x_ix x_v x_c (ix1 _ f)) (bm _ _ (ok_mul hp0.1 hf.2.2 (by omega)))) (ba _ _)) (x_es (x_bin (x_ix x_v x_c (ix1 _ f)) (x_ix x_v x_c (ix1 _ p)) (bm _ _ (ok_mul hf.2.2 hp0.2.2 (by omega)))) x_es0)) c1)
      (x_es (x_call (x_es (x_bin (x_ix x_v x_c (ix0 _ g)) (x_ix x_v x_c (ix0 _ p)) (bm _ _ (ok_mul hg.1 hp0.1 (by omega)))) (x_es (x_bin (x_ix x_v x_c (ix1 _ g)) (x_ix x_v x_c (ix1 _ p)) (bm _ _ (ok_mul hg.2.2 hp0.2.2 (by omega)))) x_es0)) c2) x_es0)))) rfl) h⟩
/-! by places -/
theorem mem_getD {α : Type} {xs : List α} {k : Nat} {z : α} (h : k < xs.length) : xs.getD k z ∈ xs := by
  rw [List.getD_eq_getElem?_getD, List.getElem?_eq_getElem h]
  exact List.getElem_mem h
theorem ix_row {G : Gs} {ps : List (Int × Int)} {k : Nat} (h : k < ps.length) : ixD G (.lst (ps.map pr)) (.int (0 + (k : Int))) = some (pr (ps.getD k (0, 1))) := by
  rw [Int.zero_add]
  show L2.atI (ps.map pr) (k : Int) = _
  refine L2.atI_nat ?_
  rw [List.getElem?_map, List.getElem?_eq_getElem h, List.getD_eq_getElem?_getD, List.getElem?_eq_getElem h]
  rfl
theorem zip_places (f : Int × Int → Int × Int → Int × Int) {ps qs : List (Int × Int)} (h : ps.length = qs.length) : ((List.range ps.length).map fun k => pr (f (ps.getD k (0, 1)) (qs.getD k (0, 1)))) = ((ps.zip qs).map fun x => f x.1 x.2).map pr := by
  apply List.ext_getElem
  · simp [h]
  · intro i h1 h2
    have g1 : i < ps.length := by simpa using h1
    have g2 : i < qs.length := by omega
    simp [List.getElem?_eq_getElem g1, List.getElem?_eq_getElem g2]
theorem rangeD_nat (n : Nat) : rangeD 0 (n : Int) = (List.range n).map fun (k : Nat) => D.int (0 + (k : Int)) := by
  unfold rangeD
  rw [show ((n : Int) - 0).toNat = n by omega]
theorem sign_at (i : Int) (h0 : 0 ≤ i) (h5 : i < 5) (G : Gs) : ∃ s, s ∈ letters ∧ ixD G (.str "12-/ ") (.int i) = some (.str s) := by
  have : i = 0 ∨ i = 1 ∨ i = 2 ∨ i = 3 ∨ i = 4 := by omega
  rcases this with rfl | rfl | rfl | rfl | rfl
  · exact ⟨"1", by simp [letters], rfl⟩
  · exact ⟨"2", by simp [letters], rfl⟩
  · exact ⟨"-", by simp [letters], rfl⟩
  · exact ⟨"/", by simp [letters], rfl⟩
  · exact ⟨" ", by simp [letters], rfl⟩
theorem len_rng (r : Int) : (rangeD 0 r).length = r.toNat := by simp [rangeD]
theorem body (X0 : Option D) (G : Gs) (hG : Dice 1000 G) : ∃ (x2 x3 x4 x5 x6 x7 x8 x9 x10 x11 x12 x13 x14 x15 x16 x17 x18 x19 x20 x21 x22 x23 : Option D) (G' : Gs), evB (Sa 12) lawBody [X0, some (.cell 0), none, none, none, none, none, none, none, none, none, none, none, none, none, none, none, none, none, none, none, none, none, none] G = .next [X0, some (.cell 0), x2, x3, x4, x5, x6, x7, x8, x9, x10, x11, x12, x13, x14, x15, x16, x17, x18, x19, x20, x21, x22, x23] G' := by
  obtain ⟨r1, G1, e1, l1, u1, g1⟩ := cal_roll 11 999 (m := 19) (.inl rfl) hG
  obtain ⟨r2, G2, e2, l2, u2, g2⟩ := cal_roll 11 998 (m := 9) (.inr (.inl rfl)) g1
  obtain ⟨r3, G3, e3, l3, u3, g3⟩ := cal_roll 11 997 (m := 19) (.inl rfl) g2
  obtain ⟨r4, G4, e4, l4, u4, g4⟩ := cal_roll 11 996 (m := 9) (.inr (.inl rfl)) g3
  have s0 : evS (Sa 12) (st 0) [X0, some (.cell 0), none, none, none, none, none, none, none, none, none, none, none, none, none, none, none, none, none, none, none, none, none, none] G = .next [X0, some (.cell 0), some (.int (r1 - 9)), some (.int (1 + r2)), some (.int (r3 - 9)), some (.int (1 + r4)), none, none, none, none, none, none, none, none, none, none, none, none, none, none, none, none, none, none] G4 := s_set (x_tup (x_es (x_bin (x_call (x_es x_v (x_es x_c x_es0)) e1) x_c (bs _ _)) (x_es (x_bin x_c (x_call (x_es x_v (x_es x_c x_es0)) e2) (ba _ _)) (x_es (x_bin (x_call (x_es x_v (x_es x_c x_es0)) e3) x_c (bs _ _)) (x_es (x_bin x_c (x_call (x_es x_v (x_es x_c x_es0)) e4) (ba _ _)) x_es0)))))
  have ha1 : -9 ≤ r1 - 9 := by omega
  have ha2 : r1 - 9 < 10 := by omega
  have hb1 : 1 ≤ 1 + r2 := by omega
  have hb2 : 1 + r2 < 10 := by omega
  have hc1 : -9 ≤ r3 - 9 := by omega
  have hc2 : r3 - 9 < 10 := by omega
  have hd1 : 1 ≤ 1 + r4 := by omega
  have hd2 : 1 + r4 < 10 := by omega
  generalize r1 - 9 = a at s0 ha1 ha2
  generalize 1 + r2 = b at s0 hb1 hb2
  generalize r3 - 9 = c at s0 hc1 hc2
  generalize 1 + r4 = d at s0 hd1 hd2
  have mab : (a, b) ∈ AB := mem_pairs (mem_upto ha1 (by omega)) (mem_upto hb1 (by omega))
  have mac : (a, c) ∈ AC := mem_pairs (mem_upto ha1 (by omega)) (mem_upto hc1 (by omega))
  have zo : Sz 4 (pq a b) := pq_sz (by omega) (by omega) (by omega)
  have zp : Sz 4 (pq c d) := pq_sz (by omega) (by omega) (by omega)
  have sa : a.natAbs < 2 ^ 4 := by omega
  have sb : b.natAbs < 2 ^ 4 := by omega
  have sc : c.natAbs < 2 ^ 4 := by omega
  have sd : d.natAbs < 2 ^ 4 := by omega
  have kb : 0 < b := by omega
  have kd : 0 < d := by omega
  have bd0 : 0 < b * d := Int.mul_pos kb kd
  have bd1 : (b * d).natAbs < 2 ^ (4 + 4) := mul_lt2 sb sd
  have mk : ∀ {x y : Int}, x.natAbs < 2 ^ 4 → y.natAbs < 2 ^ 4 → okMul x y = true := fun h1 h2 => ok_mul h1 h2 (by decide)
  have s1 : evS (Sa 12) (st 1) [X0, some (.cell 0), some (.int a), some (.int b), some (.int c), some (.int d), none, none, none, none, none, none, none, none, none, none, none, none, none, none, none, none, none, none] G4 = .next [X0, some (.cell 0), some (.int a), some (.int b), some (.int c), some (.int d), some (pr (pq a b)), some (pr (pq c d)), none, none, none, none, none, none, none, none, none, none, none, none, none, none, none, none] G4 := s_set (x_tup (x_es (x_call (x_es x_v (x_es x_v x_es0)) (cal_part 10 a b G4 (by omega) (okd_small (by omega) (by omega)))) (x_es (x_call (x_es x_v (x_es x_v x_es0)) (cal_part 10 c d G4 (by omega) (okd_small (by omega) (by omega)))) x_es0)))
  have s2 : evS (Sa 12) (st 2) [X0, some (.cell 0), some (.int a), some (.int b), some (.int c), some (.int d), some (pr (pq a b)), some (pr (pq c d)), none, none, none, none, none, none, none, none, none, none, none, none, none, none, none, none] G4 = .next [X0, some (.cell 0), some (.int a), some (.int b), some (.int c), some (.int d), some (pr (pq a b)), some (pr (pq c d)), none, none, none, none, none, none, none, none, none, none, none, none, none, none, none, none] G4 := s_if0 (tab (t_c1 (X0) (some (.cell 0)) (some (.int c)) (some (.int d)) (some (pr (pq c d))) (none) (none) (none) (none) (none) (none) (none) (none) (none) (none) (none) (none) (none) (none) (none) (none) G4) (a, b) mab)
  have s3 : evS (Sa 12) (st 3) [X0, some (.cell 0), some (.int a), some (.int b), some (.int c), some (.int d), some (pr (pq a b)), some (pr (pq c d)), none, none, none, none, none, none, none, none, none, none, none, none, none, none, none, none] G4 = .next [X0, some (.cell 0), some (.int a), some (.int b), some (.int c), some (.int d), some (pr (pq a b)), some (pr (pq c d)), some (.int (Nat.gcd a.natAbs c.natAbs : Nat)), none, none, none, none, none, none, none, none, none, none, none, none, none, none, none] G4 := s_set (tab (t_most (X0) (some (.cell 0)) (some (.int b)) (some (.int d)) (some (pr (pq a b))) (some (pr (pq c d))) (none) (none) (none) (none) (none) (none) (none) (none) (none) (none) (none) (none) (none) (none) (none) (none) G4) (a, c) mac)
  have s4 : evS (Sa 12) (st 4) [X0, some (.cell 0), some (.int a), some (.int b), some (.int c), some (.int d), some (pr (pq a b)), some (pr (pq c d)), some (.int (Nat.gcd a.natAbs c.natAbs : Nat)), none, none, none, none, none, none, none, none, none, none, none, none, none, none, none] G4 = .next [X0, some (.cell 0), some (.int a), some (.int b), some (.int c), some (.int d), some (pr (pq a b)), some (pr (pq c d)), some (.int (Nat.gcd a.natAbs c.natAbs : Nat)), none, none, none, none, none, none, none, none, none, none, none, none, none, none, none] G4 := s_if0 (x_orf (x_cmp (x_call (x_es x_v (x_es x_v x_es0)) (cal_shared 11 a c G4)) x_v (ne_int _)) (x_orf (x_cmp (x_call (x_es x_v (x_es x_v x_es0)) (cal_is_less 11 (pq a b) (pq c d) G4 (mk zo.1 zp.2.2) (mk zp.1 zo.2.2))) (x_cmp (x_bin x_v x_v (bm _ _ (mk sa sd))) (x_bin x_v x_v (bm _ _ (mk sc sb))) (clt _ _)) (ne_bl (less_eq kb kd))) (tab (t_size (X0) (some (.cell 0)) (some (.int c)) (some (.int d)) (some (pr (pq c d))) (some (.int (Nat.gcd a.natAbs c.natAbs : Nat))) (none) (none) (none) (none) (none) (none) (none) (none) (none) (none) (none) (none) (none) (none) (none) G4) (a, b) mab)))
  have s5 : evS (Sa 12) (st 5) [X0, some (.cell 0), some (.int a), some (.int b), some (.int c), some (.int d), some (pr (pq a b)), some (pr (pq c d)), some (.int (Nat.gcd a.natAbs c.natAbs : Nat)), none, none, none, none, none, none, none, none, none, none, none, none, none, none, none] G4 = .next [X0, some (.cell 0), some (.int a), some (.int b), some (.int c), some (.int d), some (pr (pq a b)), some (pr (pq c d)), some (.int (Nat.gcd a.natAbs c.natAbs : Nat)), none, none, none, none, none, none, none, none, none, none, none, none, none, none, none] G4 := s_if0 (x_orf (x_cmp (x_call (x_es x_v (x_es x_v x_es0)) (sz_pl 9 G4 zo zp (by decide)).2.1) (x_call (x_es (x_bin (x_bin x_v x_v (bm _ _ (mk sa sd))) (x_bin x_v x_v (bm _ _ (mk sc sb))) (ba _ _)) (x_es (x_bin x_v x_v (bm _ _ (mk sb sd))) x_es0)) (cal_part 10 _ _ G4 (by omega) (ok_div bd0 bd1 (by decide)))) (ne_pr (plus_eq kb kd))) (x_orf (x_cmp (x_call (x_es x_v (x_es x_v x_es0)) (sz_mn 9 G4 zo zp (by decide))) (x_call (x_es (x_bin (x_bin x_v x_v (bm _ _ (mk sa sd))) (x_bin x_v x_v (bm _ _ (mk sc sb))) (bs _ _)) (x_es (x_bin x_v x_v (bm _ _ (mk sb sd))) x_es0)) (cal_part 10 _ _ G4 (by omega) (ok_div bd0 bd1 (by decide)))) (ne_pr (minus_eq kb kd))) (x_cmp (x_call (x_es x_v (x_es x_v x_es0)) (sz_tm 9 G4 zo zp (by decide)).2.1) (x_call (x_es (x_bin x_v x_v (bm _ _ (mk sa sc))) (x_es (x_bin x_v x_v (bm _ _ (mk sb sd))) x_es0)) (cal_part 10 _ _ G4 (by omega) (ok_div bd0 bd1 (by decide)))) (ne_pr (times_eq kb kd)))))
  have s6 : evS (Sa 12) (st 6) [X0, some (.cell 0), some (.int a), some (.int b), some (.int c), some (.int d), some (pr (pq a b)), some (pr (pq c d)), some (.int (Nat.gcd a.natAbs c.natAbs : Nat)), none, none, none, none, none, none, none, none, none, none, none, none, none, none, none] G4 = .next [X0, some (.cell 0), some (.int a), some (.int b), some (.int c), some (.int d), some (pr (pq a b)), some (pr (pq c d)), some (.int (Nat.gcd a.natAbs c.natAbs : Nat)), none, none, none, none, none, none, none, none, none, none, none, none, none, none, none] G4 := by
    by_cases hc : c = 0
    · subst hc
      have q0 : (pq 0 d).1 = 0 := by
        have := pq1 0 d
        rcases Int.mul_eq_zero.mp this with h | h
        · exact h
        · exact absurd h (gOf_ne (by omega))
      have ov : (Sa 12).cal 5 [pr (pq a b), pr (pq 0 d)] G4 = .exc 0 G4 := by
        have h := cal_over 9 (pq a b) (pq 0 d) G4 (mk zo.1 zp.2.2) (mk zo.2.2 zp.1)
        rw [q0, Int.mul_zero] at h
        exact h.trans (cal_part0 9 _ G4)
      exact s_if0 (x_cmp (x_toldx (x_call (x_es x_v (x_es x_v x_es0)) ov) rfl) (x_itef (x_cmp x_v x_c (c := false) rfl) x_c) ne_part)
    · have nz : (pq a b).2 * (pq c d).1 ≠ 0 := Int.mul_ne_zero (by have := zo.2.1; omega) (top_ne kb kd hc)
      have ov : (Sa 12).cal 5 [pr (pq a b), pr (pq c d)] G4 = .ok (pr (pq (a * d) (b * c))) G4 := by
        rw [← over_eq kb kd hc]
        have h := cal_over 9 (pq a b) (pq c d) G4 (mk zo.1 zp.2.2) (mk zo.2.2 zp.1)
        have m := mul_lt2 zo.2.2 zp.1
        exact h.trans (cal_part 9 _ _ G4 nz (okd_small nz (by omega)))
      have m2 := mul_lt2 sb sc
      have n2 : b * c ≠ 0 := Int.mul_ne_zero (by omega) hc
      exact s_if0 (x_cmp (x_told (x_call (x_es x_v (x_es x_v x_es0)) ov)) (x_itet (x_cmp x_v x_c (show cmpD .ne (.int c) (.int 0) = some true by rw [cne, eqD_int, decide_eq_false hc]; rfl)) (x_call (x_es (x_bin x_v x_v (bm _ _ (mk sa sd))) (x_es (x_bin x_v x_v (bm _ _ (mk sb sc))) x_es0)) (cal_part 10 _ _ G4 n2 (okd_small n2 (by omega))))) (ne_pr rfl))
  obtain ⟨r5, G5, e5, l5, u5, g5⟩ := cal_roll 11 995 (m := 5) (.inr (.inr (.inl rfl))) g4
  have i7 : evI (Sa 12) [X0, some (.cell 0), some (.int a), some (.int b), some (.int c), some (.int d), some (pr (pq a b)), some (pr (pq c d)), some (.int (Nat.gcd a.natAbs c.natAbs : Nat)), none, none, none, none, none, none, none, none, none, none, none, none, none, none, none] (.rng1 (.call 19 [.var 1, .con (.int 5)])) G4 = .ok (rangeD 0 r5) G5 := i_rng (x_call (x_es x_v (x_es x_c x_es0)) e5) (by omega)
  obtain ⟨ys, G6, c7, y7, p7, g6⟩ := comp_ex (S := Sa 12) (own := [20]) (tg := .nm 20) (el := .call 1 [.bin .sub (.call 19 [.var 1, .con (.int 9)]) (.con (.int 4)), .bin .add (.con (.int 1)) (.call 19 [.var 1, .con (.int 4)])]) (fun y => ∃ p, y = pr p ∧ Sz 3 p) 2 900 i7 (g5.mono (by rw [len_rng]; omega)) (by rw [len_rng]; omega) (fun v hv => ⟨[X0, some (.cell 0), some (.int a), some (.int b), some (.int c), some (.int d), some (pr (pq a b)), some (pr (pq c d)), some (.int (Nat.gcd a.natAbs c.natAbs : Nat)), none, none, none, none, none, none, none, none, none, none, none, some v, none, none, none], rfl, fun i G hi => by
    obtain ⟨t1, H1, f1, m1, n1, k1⟩ := cal_roll 11 (i + 1) (m := 9) (.inr (.inl rfl)) hi
    obtain ⟨t2, H2, f2, m2, n2, k2⟩ := cal_roll 11 i (m := 4) (.inr (.inr (.inr rfl))) k1
    exact ⟨_, H2, x_call (x_es (x_bin (x_call (x_es x_v (x_es x_c x_es0)) f1) x_c (bs _ _)) (x_es (x_bin x_c (x_call (x_es x_v (x_es x_c x_es0)) f2) (ba _ _)) x_es0)) (cal_part 10 _ _ H2 (by omega) (okd_small (by omega) (by omega))), ⟨_, rfl, pq_sz (by omega) (by omega) (by omega)⟩, k2⟩⟩)
  obtain ⟨ps, rfl, hps⟩ := list_pr p7
  have hlen : ps.length ≤ 4 := by
    rw [List.length_map, len_rng] at y7
    omega
  have s7 : evS (Sa 12) (st 7) [X0, some (.cell 0), some (.int a), some (.int b), some (.int c), some (.int d), some (pr (pq a b)), some (pr (pq c d)), some (.int (Nat.gcd a.natAbs c.natAbs : Nat)), none, none, none, none, none, none, none, none, none, none, none, none, none, none, none] G4 = .next [X0, some (.cell 0), some (.int a), some (.int b), some (.int c), some (.int d), some (pr (pq a b)), some (pr (pq c d)), some (.int (Nat.gcd a.natAbs c.natAbs : Nat)), some (.lst (ps.map pr)), none, none, none, none, none, none, none, none, none, none, none, none, none, none] G6 := s_set c7
  have s8 : evS (Sa 12) (st 8) [X0, some (.cell 0), some (.int a), some (.int b), some (.int c), some (.int d), some (pr (pq a b)), some (pr (pq c d)), some (.int (Nat.gcd a.natAbs c.natAbs : Nat)), some (.lst (ps.map pr)), none, none, none, none, none, none, none, none, none, none, none, none, none, none] G6 = .next [X0, some (.cell 0), some (.int a), some (.int b), some (.int c), some (.int d), some (pr (pq a b)), some (pr (pq c d)), some (.int (Nat.gcd a.natAbs c.natAbs : Nat)), some (.lst (ps.map pr)), some (pr (0, 1)), some (pr (1, 1)), none, none, none, none, none, none, none, none, none, none, none, none] G6 := s_set (x_tup (x_es (x_tup (x_es x_c (x_es x_c x_es0))) (x_es (x_tup (x_es x_c (x_es x_c x_es0))) x_es0)))
  obtain ⟨z12, l9⟩ := loop_law (X0) (some (.cell 0)) (some (.int a)) (some (.int b)) (some (.int c)) (some (.int d)) (some (pr (pq a b))) (some (pr (pq c d))) (some (.int (Nat.gcd a.natAbs c.natAbs : Nat))) (some (.lst (ps.map pr))) (none) (none) (none) (none) (none) (none) (none) (none) (none) (none) (none) G6 ps 1 1 (0, 1) (1, 1) none sz01 sz11 hps (by omega) (by omega)
  have s9 : evS (Sa 12) (st 9) [X0, some (.cell 0), some (.int a), some (.int b), some (.int c), some (.int d), some (pr (pq a b)), some (pr (pq c d)), some (.int (Nat.gcd a.natAbs c.natAbs : Nat)), some (.lst (ps.map pr)), some (pr (0, 1)), some (pr (1, 1)), none, none, none, none, none, none, none, none, none, none, none, none] G6 = .next [X0, some (.cell 0), some (.int a), some (.int b), some (.int c), some (.int d), some (pr (pq a b)), some (pr (pq c d)), some (.int (Nat.gcd a.natAbs c.natAbs : Nat)), some (.lst (ps.map pr)), some (pr (sumL ps)), some (pr (prodL ps)), z12, none, none, none, none, none, none, none, none, none, none, none] G6 := s_for (i_seq x_v) l9
  have cs : evE (Sa 12) [X0, some (.cell 0), some (.int a), some (.int b), some (.int c), some (.int d), some (pr (pq a b)), some (pr (pq c d)), some (.int (Nat.gcd a.natAbs c.natAbs : Nat)), some (.lst (ps.map pr)), some (pr (sumL ps)), some (pr (prodL ps)), z12, none, none, none, none, none, none, none, none, none, none, none] (.comp [12] (.call 4 [.var 12, .var 6]) (.nm 12) (.seq (.var 9)) []) G6 = .ok (.lst ((ps.map fun p => tm p (pq a b)).map pr)) G6 := by
    rw [List.map_map]
    exact comp_map ps pr _ (fun p => [X0, some (.cell 0), some (.int a), some (.int b), some (.int c), some (.int d), some (pr (pq a b)), some (pr (pq c d)), some (.int (Nat.gcd a.natAbs c.natAbs : Nat)), some (.lst (ps.map pr)), some (pr (sumL ps)), some (pr (prodL ps)), some (pr p), none, none, none, none, none, none, none, none, none, none, none]) (i_seq x_v) (fun p _ => rfl) (fun p hp => x_call (x_es x_v (x_es x_v x_es0)) (sz_tm 9 G6 (hps p hp) zo (by decide)).2.1) (by rw [szl]; omega)
  have s10 : evS (Sa 12) (st 10) [X0, some (.cell 0), some (.int a), some (.int b), some (.int c), some (.int d), some (pr (pq a b)), some (pr (pq c d)), some (.int (Nat.gcd a.natAbs c.natAbs : Nat)), some (.lst (ps.map pr)), some (pr (sumL ps)), some (pr (prodL ps)), z12, none, none, none, none, none, none, none, none, none, none, none] G6 = .next [X0, some (.cell 0), some (.int a), some (.int b), some (.int c), some (.int d), some (pr (pq a b)), some (pr (pq c d)), some (.int (Nat.gcd a.natAbs c.natAbs : Nat)), some (.lst (ps.map pr)), some (pr (sumL ps)), some (pr (prodL ps)), z12, none, none, none, none, none, none, none, none, none, none, none] G6 := s_if0 (x_orf (x_cmp (x_call (x_es x_v x_es0) (cal_total 8 3 G6 ps hps (by omega))) x_v (ne_pr rfl)) (x_orf (x_cmp (x_call (x_es x_v x_es0) (cal_product 8 3 G6 ps hps (by omega))) x_v (ne_pr rfl)) (x_cmp (x_prim (x_es (x_call (x_es x_v (x_es x_v x_es0)) (cal_scaled 8 3 4 G6 ps (pq a b) hps zo (by decide) (by omega))) x_es0) rfl) cs (ne_rows rfl))))
  obtain ⟨zs, G7, c11, y11, p11, g7⟩ := comp_ex (S := Sa 12) (ρ := [X0, some (.cell 0), some (.int a), some (.int b), some (.int c), some (.int d), some (pr (pq a b)), some (pr (pq c d)), some (.int (Nat.gcd a.natAbs c.natAbs : Nat)), some (.lst (ps.map pr)), some (pr (sumL ps)), some (pr (prodL ps)), z12, none, none, none, none, none, none, none, none, none, none, none]) (own := [12]) (tg := .nm 12) (el := .call 1 [.call 19 [.var 1, .con (.int 9)], .con (.int 3)]) (fun y => ∃ p, y = pr p ∧ Sz 4 p) 1 800 (i_seq (x_v (i := 9)) (G := G6) (ds := ps.map pr)) (g6.mono (by rw [List.length_map]; omega)) (by rw [List.length_map]; omega) (fun v hv => ⟨[X0, some (.cell 0), some (.int a), some (.int b), some (.int c), some (.int d), some (pr (pq a b)), some (pr (pq c d)), some (.int (Nat.gcd a.natAbs c.natAbs : Nat)), some (.lst (ps.map pr)), some (pr (sumL ps)), some (pr (prodL ps)), some v, none, none, none, none, none, none, none, none, none, none, none], rfl, fun i G hi => by
    obtain ⟨t1, H1, f1, m1, n1, k1⟩ := cal_roll 11 i (m := 9) (.inr (.inl rfl)) hi
    exact ⟨_, H1, x_call (x_es (x_call (x_es x_v (x_es x_c x_es0)) f1) (x_es x_c x_es0)) (cal_part 10 _ _ H1 (by omega) (okd_small (by omega) (by omega))), ⟨_, rfl, pq_sz (by omega) (by omega) (by omega)⟩, k1⟩⟩)
  obtain ⟨qs, rfl, hqs⟩ := list_pr p11
  have hE : ps.length = qs.length := by
    rw [List.length_map, List.length_map] at y11
    exact y11.symm
  have s11 : evS (Sa 12) (st 11) [X0, some (.cell 0), some (.int a), some (.int b), some (.int c), some (.int d), some (pr (pq a b)), some (pr (pq c d)), some (.int (Nat.gcd a.natAbs c.natAbs : Nat)), some (.lst (ps.map pr)), some (pr (sumL ps)), some (pr (prodL ps)), z12, none, none, none, none, none, none, none, none, none, none, none] G6 = .next [X0, some (.cell 0), some (.int a), some (.int b), some (.int c), some (.int d), some (pr (pq a b)), some (pr (pq c d)), some (.int (Nat.gcd a.natAbs c.natAbs : Nat)), some (.lst (ps.map pr)), some (pr (sumL ps)), some (pr (prodL ps)), z12, some (.lst (qs.map pr)), none, none, none, none, none, none, none, none, none, none] G7 := s_set c11
  have ca : evE (Sa 12) [X0, some (.cell 0), some (.int a), some (.int b), some (.int c), some (.int d), some (pr (pq a b)), some (pr (pq c d)), some (.int (Nat.gcd a.natAbs c.natAbs : Nat)), some (.lst (ps.map pr)), some (pr (sumL ps)), some (pr (prodL ps)), z12, some (.lst (qs.map pr)), none, none, none, none, none, none, none, none, none, none] (.comp [20] (.call 2 [.ix (.var 9) (.var 20), .ix (.var 13) (.var 20)]) (.nm 20) (.rng1 (.prim .len [.var 9])) []) G7 = .ok (.lst (((ps.zip qs).map fun x => pl x.1 x.2).map pr)) G7 := by
    rw [← zip_places pl hE]
    have hi : evI (Sa 12) [X0, some (.cell 0), some (.int a), some (.int b), some (.int c), some (.int d), some (pr (pq a b)), some (pr (pq c d)), some (.int (Nat.gcd a.natAbs c.natAbs : Nat)), some (.lst (ps.map pr)), some (pr (sumL ps)), some (pr (prodL ps)), z12, some (.lst (qs.map pr)), none, none, none, none, none, none, none, none, none, none] (.rng1 (.prim .len [.var 9])) G7 = .ok ((List.range ps.length).map fun (k : Nat) => D.int (0 + (k : Int))) G7 := by
      have h := i_rng (S := Sa 12) (ρ := [X0, some (.cell 0), some (.int a), some (.int b), some (.int c), some (.int d), some (pr (pq a b)), some (pr (pq c d)), some (.int (Nat.gcd a.natAbs c.natAbs : Nat)), some (.lst (ps.map pr)), some (pr (sumL ps)), some (pr (prodL ps)), z12, some (.lst (qs.map pr)), none, none, none, none, none, none, none, none, none, none]) (a := .prim .len [.var 9]) (G := G7) (x_prim (x_es x_v x_es0) (d := .int ((ps.map pr).length : Nat)) rfl) (by rw [List.length_map]; omega)
      rw [List.length_map, rangeD_nat] at h
      exact h
    exact comp_map (List.range ps.length) (fun (k : Nat) => D.int (0 + (k : Int))) _ (fun (k : Nat) => [X0, some (.cell 0), some (.int a), some (.int b), some (.int c), some (.int d), some (pr (pq a b)), some (pr (pq c d)), some (.int (Nat.gcd a.natAbs c.natAbs : Nat)), some (.lst (ps.map pr)), some (pr (sumL ps)), some (pr (prodL ps)), z12, some (.lst (qs.map pr)), none, none, none, none, none, none, some (.int (0 + (k : Int))), none, none, none]) hi (fun k _ => rfl) (fun k hk => x_call (x_es (x_ix x_v x_v (ix_row (List.mem_range.mp hk))) (x_es (x_ix x_v x_v (ix_row (hE ▸ List.mem_range.mp hk))) x_es0)) (sz_pl 9 G7 (hps _ (mem_getD (List.mem_range.mp hk))) (hqs _ (mem_getD (hE ▸ List.mem_range.mp hk))) (by decide)).2.1) (by rw [szl, List.length_range]; omega)
  have ct : evE (Sa 12) [X0, some (.cell 0), some (.int a), some (.int b), some (.int c), some (.int d), some (pr (pq a b)), some (pr (pq c d)), some (.int (Nat.gcd a.natAbs c.natAbs : Nat)), some (.lst (ps.map pr)), some (pr (sumL ps)), some (pr (prodL ps)), z12, some (.lst (qs.map pr)), none, none, none, none, none, none, none, none, none, none] (.comp [20] (.call 4 [.ix (.var 9) (.var 20), .ix (.var 13) (.var 20)]) (.nm 20) (.rng1 (.prim .len [.var 9])) []) G7 = .ok (.lst (((ps.zip qs).map fun x => tm x.1 x.2).map pr)) G7 := by
    rw [← zip_places tm hE]
    have hi : evI (Sa 12) [X0, some (.cell 0), some (.int a), some (.int b), some (.int c), some (.int d), some (pr (pq a b)), some (pr (pq c d)), some (.int (Nat.gcd a.natAbs c.natAbs : Nat)), some (.lst (ps.map pr)), some (pr (sumL ps)), some (pr (prodL ps)), z12, some (.lst (qs.map pr)), none, none, none, none, none, none, none, none, none, none] (.rng1 (.prim .len [.var 9])) G7 = .ok ((List.range ps.length).map fun (k : Nat) => D.int (0 + (k : Int))) G7 := by
      have h := i_rng (S := Sa 12) (ρ := [X0, some (.cell 0), some (.int a), some (.int b), some (.int c), some (.int d), some (pr (pq a b)), some (pr (pq c d)), some (.int (Nat.gcd a.natAbs c.natAbs : Nat)), some (.lst (ps.map pr)), some (pr (sumL ps)), some (pr (prodL ps)), z12, some (.lst (qs.map pr)), none, none, none, none, none, none, none, none, none, none]) (a := .prim .len [.var 9]) (G := G7) (x_prim (x_es x_v x_es0) (d := .int ((ps.map pr).length : Nat)) rfl) (by rw [List.length_map]; omega)
      rw [List.length_map, rangeD_nat] at h
      exact h
    exact comp_map (List.range ps.length) (fun (k : Nat) => D.int (0 + (k : Int))) _ (fun (k : Nat) => [X0, some (.cell 0), some (.int a), some (.int b), some (.int c), some (.int d), some (pr (pq a b)), some (pr (pq c d)), some (.int (Nat.gcd a.natAbs c.natAbs : Nat)), some (.lst (ps.map pr)), some (pr (sumL ps)), some (pr (prodL ps)), z12, some (.lst (qs.map pr)), none, none, none, none, none, none, some (.int (0 + (k : Int))), none, none, none]) hi (fun k _ => rfl) (fun k hk => x_call (x_es (x_ix x_v x_v (ix_row (List.mem_range.mp hk))) (x_es (x_ix x_v x_v (ix_row (hE ▸ List.mem_range.mp hk))) x_es0)) (sz_tm 9 G7 (hps _ (mem_getD (List.mem_range.mp hk))) (hqs _ (mem_getD (hE ▸ List.mem_range.mp hk))) (by decide)).2.1) (by rw [szl, List.length_range]; omega)
  have hz : ∀ p ∈ (ps.zip qs).map (fun x => tm x.1 x.2), Sz 7 p := fun p hp => by
    obtain ⟨x, hx, rfl⟩ := List.mem_map.mp hp
    exact (sz_tm 0 G7 (hps x.1 (mem_zip hx).1) (hqs x.2 (mem_zip hx).2) (by decide)).1
  have s12 : evS (Sa 12) (st 12) [X0, some (.cell 0), some (.int a), some (.int b), some (.int c), some (.int d), some (pr (pq a b)), some (pr (pq c d)), some (.int (Nat.gcd a.natAbs c.natAbs : Nat)), some (.lst (ps.map pr)), some (pr (sumL ps)), some (pr (prodL ps)), z12, some (.lst (qs.map pr)), none, none, none, none, none, none, none, none, none, none] G7 = .next [X0, some (.cell 0), some (.int a), some (.int b), some (.int c), some (.int d), some (pr (pq a b)), some (pr (pq c d)), some (.int (Nat.gcd a.natAbs c.natAbs : Nat)), some (.lst (ps.map pr)), some (pr (sumL ps)), some (pr (prodL ps)), z12, some (.lst (qs.map pr)), none, none, none, none, none, none, none, none, none, none] G7 := s_if0 (x_orf (x_cmp (x_prim (x_es (x_call (x_es x_v (x_es x_v x_es0)) (cal_added 8 3 4 G7 ps qs hps hqs (by decide) (by omega) hE)) x_es0) rfl) ca (ne_rows rfl)) (x_cmp (x_call (x_es x_v (x_es x_v x_es0)) (cal_dot 7 3 4 G7 ps qs hps hqs (by omega) (by decide) (by omega) hE)) (x_call (x_es ct x_es0) (cal_total 8 7 G7 _ hz (by rw [List.length_map, List.length_zip]; omega))) (ne_pr rfl)))
  obtain ⟨r8, G8, e8, l8, u8, g8⟩ := cal_roll 11 799 (m := 5) (.inr (.inr (.inl rfl))) g7
  have s13 : evS (Sa 12) (st 13) [X0, some (.cell 0), some (.int a), some (.int b), some (.int c), some (.int d), some (pr (pq a b)), some (pr (pq c d)), some (.int (Nat.gcd a.natAbs c.natAbs : Nat)), some (.lst (ps.map pr)), some (pr (sumL ps)), some (pr (prodL ps)), z12, some (.lst (qs.map pr)), none, none, none, none, none, none, none, none, none, none] G7 = .next [X0, some (.cell 0), some (.int a), some (.int b), some (.int c), some (.int d), some (pr (pq a b)), some (pr (pq c d)), some (.int (Nat.gcd a.natAbs c.natAbs : Nat)), some (.lst (ps.map pr)), some (pr (sumL ps)), some (pr (prodL ps)), z12, some (.lst (qs.map pr)), some (.int r8), none, none, none, none, none, none, none, none, none] G8 := s_set (x_call (x_es x_v (x_es x_c x_es0)) e8)
  have s14 : evS (Sa 12) (st 14) [X0, some (.cell 0), some (.int a), some (.int b), some (.int c), some (.int d), some (pr (pq a b)), some (pr (pq c d)), some (.int (Nat.gcd a.natAbs c.natAbs : Nat)), some (.lst (ps.map pr)), some (pr (sumL ps)), some (pr (prodL ps)), z12, some (.lst (qs.map pr)), some (.int r8), none, none, none, none, none, none, none, none, none] G8 = .next [X0, some (.cell 0), some (.int a), some (.int b), some (.int c), some (.int d), some (pr (pq a b)), some (pr (pq c d)), some (.int (Nat.gcd a.natAbs c.natAbs : Nat)), some (.lst (ps.map pr)), some (pr (sumL ps)), some (pr (prodL ps)), z12, some (.lst (qs.map pr)), some (.int r8), none, none, none, none, none, none, none, none, none] G8 := s_if0 (x_orf (x_cmp (x_call (x_es x_v (x_es x_v x_es0)) (cal_raised 7 4 G8 (pq a b) r8 zo (by omega) (by omega) (by omega))) (x_call (x_es (x_bin (x_lst (x_es x_v x_es0)) x_v (mul_rep (pq a b) r8 (by omega) (by omega))) x_es0) (cal_prodrep 8 4 G8 (pq a b) r8 zo (by omega))) (ne_pr rfl)) (tab (t_told (X0) (some (.cell 0)) (some (.int c)) (some (.int d)) (some (pr (pq c d))) (some (.int (Nat.gcd a.natAbs c.natAbs : Nat))) (some (.lst (ps.map pr))) (some (pr (sumL ps))) (some (pr (prodL ps))) (z12) (some (.lst (qs.map pr))) (some (.int r8)) (none) (none) (none) (none) (none) (none) (none) (none) (none) G8) (a, b) mab))
  obtain ⟨r9, G9, e9, l9', u9, g9⟩ := cal_roll 11 798 (m := 5) (.inr (.inr (.inl rfl))) g8
  have i15 : evI (Sa 12) [X0, some (.cell 0), some (.int a), some (.int b), some (.int c), some (.int d), some (pr (pq a b)), some (pr (pq c d)), some (.int (Nat.gcd a.natAbs c.natAbs : Nat)), some (.lst (ps.map pr)), some (pr (sumL ps)), some (pr (prodL ps)), z12, some (.lst (qs.map pr)), some (.int r8), none, none, none, none, none, none, none, none, none] (.rng1 (.call 19 [.var 1, .con (.int 5)])) G8 = .ok (rangeD 0 r9) G9 := i_rng (x_call (x_es x_v (x_es x_c x_es0)) e9) (by omega)
  obtain ⟨ws, G10, c15, y15, p15, g10⟩ := comp_ex (S := Sa 12) (own := [20]) (tg := .nm 20) (el := .ix (.con (.str "12-/ ")) (.call 19 [.var 1, .con (.int 5)])) (fun y => ∃ s ∈ letters, y = .str s) 1 700 i15 (g9.mono (by rw [len_rng]; omega)) (by rw [len_rng]; omega) (fun v hv => ⟨[X0, some (.cell 0), some (.int a), some (.int b), some (.int c), some (.int d), some (pr (pq a b)), some (pr (pq c d)), some (.int (Nat.gcd a.natAbs c.natAbs : Nat)), some (.lst (ps.map pr)), some (pr (sumL ps)), some (pr (prodL ps)), z12, some (.lst (qs.map pr)), some (.int r8), none, none, none, none, none, some v, none, none, none], rfl, fun i G hi => by
    obtain ⟨t1, H1, f1, m1, n1, k1⟩ := cal_roll 11 i (m := 5) (.inr (.inr (.inl rfl))) hi
    obtain ⟨s, hs, he⟩ := sign_at t1 m1 n1 H1
    exact ⟨_, H1, x_ix x_c (x_call (x_es x_v (x_es x_c x_es0)) f1) he, ⟨s, hs, rfl⟩, k1⟩⟩)
  obtain ⟨ss, rfl, hss⟩ := list_str p15
  have hw : ss ∈ wordsL := mem_lists (by
    rw [List.length_map, len_rng] at y15
    omega) hss
  have s15 : evS (Sa 12) (st 15) [X0, some (.cell 0), some (.int a), some (.int b), some (.int c), some (.int d), some (pr (pq a b)), some (pr (pq c d)), some (.int (Nat.gcd a.natAbs c.natAbs : Nat)), some (.lst (ps.map pr)), some (pr (sumL ps)), some (pr (prodL ps)), z12, some (.lst (qs.map pr)), some (.int r8), none, none, none, none, none, none, none, none, none] G8 = .next [X0, some (.cell 0), some (.int a), some (.int b), some (.int c), some (.int d), some (pr (pq a b)), some (pr (pq c d)), some (.int (Nat.gcd a.natAbs c.natAbs : Nat)), some (.lst (ps.map pr)), some (pr (sumL ps)), some (pr (prodL ps)), z12, some (.lst (qs.map pr)), some (.int r8), some (.str (wd ss)), none, none, none, none, none, none, none, none] G10 := s_set (x_meth x_c (x_es c15 x_es0) (tab t_join ss hw))
  have s16 : evS (Sa 12) (st 16) [X0, some (.cell 0), some (.int a), some (.int b), some (.int c), some (.int d), some (pr (pq a b)), some (pr (pq c d)), some (.int (Nat.gcd a.natAbs c.natAbs : Nat)), some (.lst (ps.map pr)), some (pr (sumL ps)), some (pr (prodL ps)), z12, some (.lst (qs.map pr)), some (.int r8), some (.str (wd ss)), none, none, none, none, none, none, none, none] G10 = .next [X0, some (.cell 0), some (.int a), some (.int b), some (.int c), some (.int d), some (pr (pq a b)), some (pr (pq c d)), some (.int (Nat.gcd a.natAbs c.natAbs : Nat)), some (.lst (ps.map pr)), some (pr (sumL ps)), some (pr (prodL ps)), z12, some (.lst (qs.map pr)), some (.int r8), some (.str (wd ss)), some (topOf ss), some (lowOf ss), none, none, none, none, none, none] G10 := (t_top (X0) (some (.cell 0)) (some (.int a)) (some (.int b)) (some (.int c)) (some (.int d)) (some (pr (pq a b))) (some (pr (pq c d))) (some (.int (Nat.gcd a.natAbs c.natAbs : Nat))) (some (.lst (ps.map pr))) (some (pr (sumL ps))) (some (pr (prodL ps))) (z12) (some (.lst (qs.map pr))) (some (.int r8)) (none) (none) (none) (none) (none) (none) (none) (none) G10 ss hw)
  have s17 : evS (Sa 12) (st 17) [X0, some (.cell 0), some (.int a), some (.int b), some (.int c), some (.int d), some (pr (pq a b)), some (pr (pq c d)), some (.int (Nat.gcd a.natAbs c.natAbs : Nat)), some (.lst (ps.map pr)), some (pr (sumL ps)), some (pr (prodL ps)), z12, some (.lst (qs.map pr)), some (.int r8), some (.str (wd ss)), some (topOf ss), some (lowOf ss), none, none, none, none, none, none] G10 = .next [X0, some (.cell 0), some (.int a), some (.int b), some (.int c), some (.int d), some (pr (pq a b)), some (pr (pq c d)), some (.int (Nat.gcd a.natAbs c.natAbs : Nat)), some (.lst (ps.map pr)), some (pr (sumL ps)), some (pr (prodL ps)), z12, some (.lst (qs.map pr)), some (.int r8), some (.str (wd ss)), some (topOf ss), some (lowOf ss), some (goodOf ss), none, none, none, none, none] G10 := s_set (t_good (X0) (some (.cell 0)) (some (.int a)) (some (.int b)) (some (.int c)) (some (.int d)) (some (pr (pq a b))) (some (pr (pq c d))) (some (.int (Nat.gcd a.natAbs c.natAbs : Nat))) (some (.lst (ps.map pr))) (some (pr (sumL ps))) (some (pr (prodL ps))) (z12) (some (.lst (qs.map pr))) (some (.int r8)) (none) (none) (none) (none) (none) (none) G10 ss hw)
  have s18 : evS (Sa 12) (st 18) [X0, some (.cell 0), some (.int a), some (.int b), some (.int c), some (.int d), some (pr (pq a b)), some (pr (pq c d)), some (.int (Nat.gcd a.natAbs c.natAbs : Nat)), some (.lst (ps.map pr)), some (pr (sumL ps)), some (pr (prodL ps)), z12, some (.lst (qs.map pr)), some (.int r8), some (.str (wd ss)), some (topOf ss), some (lowOf ss), some (goodOf ss), none, none, none, none, none] G10 = .next [X0, some (.cell 0), some (.int a), some (.int b), some (.int c), some (.int d), some (pr (pq a b)), some (pr (pq c d)), some (.int (Nat.gcd a.natAbs c.natAbs : Nat)), some (.lst (ps.map pr)), some (pr (sumL ps)), some (pr (prodL ps)), z12, some (.lst (qs.map pr)), some (.int r8), some (.str (wd ss)), some (topOf ss), some (lowOf ss), some (goodOf ss), none, none, none, none, none] G10 := s_if0 (t_word (X0) (some (.cell 0)) (some (.int a)) (some (.int b)) (some (.int c)) (some (.int d)) (some (pr (pq a b))) (some (pr (pq c d))) (some (.int (Nat.gcd a.natAbs c.natAbs : Nat))) (some (.lst (ps.map pr))) (some (pr (sumL ps))) (some (pr (prodL ps))) (z12) (some (.lst (qs.map pr))) (some (.int r8)) (none) (none) (none) (none) (none) G10 ss hw)
  exact ⟨_, _, _, _, _, _, _, _, _, _, _, _, _, _, _, _, _, _, _, _, _, _, G10, (b_next s0 (b_next s1 (b_next s2 (b_next s3 (b_next s4 (b_next s5 (b_next s6 (b_next s7 (b_next s8 (b_next s9 (b_next s10 (b_next s11 (b_next s12 (b_next s13 (b_next s14 (b_next s15 (b_next s16 (b_next s17 (b_next s18 (rfl : evB (Sa 12) [] _ G10 = _))))))))))))))))))))⟩
theorem law_true (ns : List Int) (h1 : ns.length ≤ 63) (h2 : ∀ z ∈ ns, Builtin.Int.intBits z ≤ 1048576) : ∃ Gz, (semAt prog (12 + 1)).cal 22 [.frz (ns.map .int)] [] = .ok (.bl true) Gz := by
  have hb : ∀ z ∈ ns, z.natAbs < 2 ^ BB := fun z hz => by
    have h := h2 z hz
    unfold Builtin.Int.intBits at h
    have k : z.natAbs < 2 ^ 1048576 := by
      by_cases h0 : z = 0
      · subst h0
        exact Nat.pow_pos (by decide)
      · rw [if_neg (by simpa using h0)] at h
        exact (Nat.log2_lt (by omega)).mp (by omega)
    exact Nat.lt_of_lt_of_le k (Nat.pow_le_pow_right (by decide) (by decide))
  obtain ⟨G, e, hG⟩ := cal_rounds 10 ns hb
  obtain ⟨x2, x3, x4, x5, x6, x7, x8, x9, x10, x11, x12, x13, x14, x15, x16, x17, x18, x19, x20, x21, x22, x23, G', b⟩ := body (some (.frz (ns.map .int))) G (hG.mono (by decide))
  exact ⟨G', run_d m_law (args := [.frz (ns.map .int)]) (S := Sa 12) (ρ := [some (.frz (ns.map .int)), none, none, none, none, none, none, none, none, none, none, none, none, none, none, none, none, none, none, none, none, none, none, none]) rfl rfl (b_next (s_for (i_seq (x_call (x_es x_v (x_es x_c x_es0)) e)) (forL_next b rfl)) (t_end _ _ _ _ _ _ _ _ _ _ _ _ _ _ _ _ _ _ _ _ _ _ _ _ G'))⟩
end LK
end
/-! ## K01b -/
section
set_option Elab.async false
set_option linter.all false
set_option maxRecDepth 200000
set_option maxHeartbeats 8000000
namespace LK
open PySem L2 LamX PyProof.Rows RZ PV
/-! what the head tells -/
def dd_shared : He.DefD := ⟨("shared", none), "shared", "shared", defArgs s_shared, defBody s_shared, defScope s_shared, [], []⟩
def dd_part : He.DefD := ⟨("part", none), "part", "part", defArgs s_part, defBody s_part, defScope s_part, [.int 1], []⟩
def dd_plus : He.DefD := ⟨("plus", none), "plus", "plus", defArgs s_plus, defBody s_plus, defScope s_plus, [], []⟩
def dd_minus : He.DefD := ⟨("minus", none), "minus", "minus", defArgs s_minus, defBody s_minus, defScope s_minus, [], []⟩
def dd_times : He.DefD := ⟨("times", none), "times", "times", defArgs s_times, defBody s_times, defScope s_times, [], []⟩
def dd_over : He.DefD := ⟨("over", none), "over", "over", defArgs s_over, defBody s_over, defScope s_over, [], []⟩
def dd_is_less : He.DefD := ⟨("is_less", none), "is_less", "is_less", defArgs s_is_less, defBody s_is_less, defScope s_is_less, [], []⟩
def dd_size_of : He.DefD := ⟨("size_of", none), "size_of", "size_of", defArgs s_size_of, defBody s_size_of, defScope s_size_of, [], []⟩
def dd_total : He.DefD := ⟨("total", none), "total", "total", defArgs s_total, defBody s_total, defScope s_total, [], []⟩
def dd_product : He.DefD := ⟨("product", none), "product", "product", defArgs s_product, defBody s_product, defScope s_product, [], []⟩
def dd_raised : He.DefD := ⟨("raised", none), "raised", "raised", defArgs s_raised, defBody s_raised, defScope s_raised, [], []⟩
def dd_told : He.DefD := ⟨("told", none), "told", "told", defArgs s_told, defBody s_told, defScope s_told, [], []⟩
def dd_read : He.DefD := ⟨("read", none), "read", "read", defArgs s_read, defBody s_read, defScope s_read, [], []⟩
def dd_is_number : He.DefD := ⟨("is_number", none), "is_number", "is_number", defArgs s_is_number, defBody s_is_number, defScope s_is_number, [], []⟩
def dd_scaled : He.DefD := ⟨("scaled", none), "scaled", "scaled", defArgs s_scaled, defBody s_scaled, defScope s_scaled, [], []⟩
def dd_rows_added : He.DefD := ⟨("rows_added", none), "rows_added", "rows_added", defArgs s_rows_added, defBody s_rows_added, defScope s_rows_added, [], []⟩
def dd_dot : He.DefD := ⟨("dot", none), "dot", "dot", defArgs s_dot, defBody s_dot, defScope s_dot, [], []⟩
def dd_check_lengths : He.DefD := ⟨("check_lengths", none), "check_lengths", "check_lengths", defArgs s_check_lengths, defBody s_check_lengths, defScope s_check_lengths, [], []⟩
def dd_law_dice : He.DefD := ⟨("_law_dice", none), "_law_dice", "_law_dice", defArgs s_law_dice, defBody s_law_dice, defScope s_law_dice, [], []⟩
def dd_law_roll : He.DefD := ⟨("_law_roll", none), "_law_roll", "_law_roll", defArgs s_law_roll, defBody s_law_roll, defScope s_law_roll, [], []⟩
def dd_law_rounds : He.DefD := ⟨("_law_rounds", none), "_law_rounds", "_law_rounds", defArgs s_law_rounds, defBody s_law_rounds, defScope s_law_rounds, [], []⟩
def dd_law_told : He.DefD := ⟨("_law_told", none), "_law_told", "_law_told", defArgs s_law_told, defBody s_law_told, defScope s_law_told, [], []⟩
def dd_law : He.DefD := ⟨("law", none), "law", "law", defArgs s_law, defBody s_law, defScope s_law, [], []⟩
def fnl : List He.DefD := [dd_shared, dd_part, dd_plus, dd_minus, dd_times, dd_over, dd_is_less, dd_size_of, dd_total, dd_product, dd_raised, dd_told, dd_read, dd_is_number, dd_scaled, dd_rows_added, dd_dot, dd_check_lengths, dd_law_dice, dd_law_roll, dd_law_rounds, dd_law_told, dd_law]
def fal : List He.Fa := [.glo "shared", .glo "part", .glo "plus", .glo "minus", .glo "times", .glo "over", .glo "is_less", .glo "size_of", .glo "total", .glo "product", .glo "raised", .glo "told", .glo "read", .glo "is_number", .glo "scaled", .glo "rows_added", .glo "dot", .glo "check_lengths", .glo "_law_dice", .glo "_law_roll", .glo "_law_rounds", .glo "_law_told", .glo "law", .free "abs", .free "int", .free "len", .free "list", .free "max", .free "range", .free "str", .free "tuple", .free "zip", .str "FIGURES" "0123456789", .int "MOST_FIGURES" 12, .glo "BadPart", .glo "BadTree", .glo "BadTable", .glo "BadField", .glo "BadPaper", .glo "BadSize", .glo "BadText", .glo "BadStore", .glo "NoSuch", .exc "BadPart", .exm "BadPart" "BadPart" true]
def exl (K : PySem.W.Frag) : Bool := decide (PySem.W.nsIn K mainGlobals "gcd" = some (some (.builtin "math.gcd")))
def tfl : List He.Defn := [("law", none)]
def qq (K : PySem.W.Frag) : Par := ⟨lamDs, [((He.cT K ("law", none)).2, "law.<locals>.<lambda>")], fun c => match c with
  | 0 => .ref (He.ga K "BadPart")
  | 1 => .ref (He.ga K "BadTree")
  | 2 => .ref (He.ga K "BadTable")
  | 3 => .ref (He.ga K "BadField")
  | 4 => .ref (He.ga K "BadPaper")
  | 5 => .ref (He.ga K "BadSize")
  | 6 => .ref (He.ga K "BadText")
  | 7 => .ref (He.ga K "BadStore")
  | 8 => .ref (He.ga K "NoSuch")
  | _ => .none⟩
def hlK (K : PySem.W.Frag) : List (Value × Str) := [(.ref (He.ga K "BadPart"), "part"), (.ref (He.ga K "BadTree"), "tree"), (.ref (He.ga K "BadTable"), "table"), (.ref (He.ga K "BadField"), "field"), (.ref (He.ga K "BadPaper"), "paper"), (.ref (He.ga K "BadSize"), "size"), (.ref (He.ga K "BadText"), "text"), (.ref (He.ga K "BadStore"), "store"), (.ref (He.ga K "NoSuch"), "no such")]
section
variable {P : Program} {w : World} {K : PySem.W.Frag} {mg : Str → Option Value} {base h : Heap}
abbrev Says (w : World) (h : Heap) (K : PySem.W.Frag) : Prop := He.SaysX fal fnl [] tfl exl w h K
theorem glo (X : K.In h) (G : h.Ns mainGlobals mg) (c : Says w h K) (i : Nat) (x : Str) (e : fal[i]? = some (.glo x) := by rfl) : mg x = some (.ref (He.ga K x)) := He.glo_ok X G (c.t.d.fact i (f := .glo x) e)
theorem fre (X : K.In h) (G : h.Ns mainGlobals mg) (c : Says w h K) (i : Nat) (x : Str) (e : fal[i]? = some (.free x) := by rfl) : mg x = none := He.free_ok X G (c.t.d.fact i (f := .free x) e)
theorem exmf (c : Says w h K) (i : Nat) (x y : Str) (b : Bool) (e : fal[i]? = some (.exm x y b) := by rfl) : PySem.W.exmOne K (.ref (He.ga K x)) (.ref (He.ga K y)) = some b := He.exm_ok (c.t.d.fact i (f := .exm x y b) e)
theorem excf (X : K.In h) (G : h.Ns mainGlobals mg) (c : Says w h K) (i j : Nat) (x : Str) (n : Nat) (hq : (qq K).cls n = .ref (He.ga K x)) (e : fal[i]? = some (.exc x) := by rfl) (e2 : fal[j]? = some (.glo x) := by rfl) : ExcAt K mg (qq K) x n (He.ga K x) := by
  obtain ⟨h1, h2, h3, h4⟩ := He.exc_ok (c.t.d.fact i (f := .exc x) e)
  exact ⟨h1, glo X G c j x e2, h2, h3, h4, hq⟩
theorem hds_told (X : K.In h) (G : h.Ns mainGlobals mg) (c : Says w h K) (Y : Cx) (hmg : Y.mg = mg) (hK : Y.K = K) (hsc : Y.env.scope = defScope s_law_told) : ∃ p1 p2 p3 p8 h0 hds, defBody s_law_told = [.Try [.Return (some (.Call (.Name "what" p1) [] [] p2)) p3] (h0 :: hds) [] [] p8] ∧ HdsOk Y (h0 :: hds) ((hlK K).map fun p => (p.1, sayT p.2)) := by
  subst hmg
  have nm : ∀ (x : Str) (hx : (defScope s_law_told).names.lookup x = some .globalImplicit) (hd : (x == ("__debug__" : Str)) = false) (i : Nat) (e : fal[i]? = some (.glo x)), Names Y x (.ref (He.ga K x)) := fun x hx hd i e => ⟨by show Y.env.scope.names.lookup x = _; rw [hsc]; exact hx, hd, .inl (glo X G c i x e)⟩
  refine ⟨_, _, _, _, _, _, rfl, ?_⟩
  exact (HdsOk.cons (nm "BadPart" rfl (by decide) 34 rfl) (fun a oe cls d pn _ _ => pss_one (ps_ret pe_str)) (HdsOk.cons (nm "BadTree" rfl (by decide) 35 rfl) (fun a oe cls d pn _ _ => pss_one (ps_ret pe_str)) (HdsOk.cons (nm "BadTable" rfl (by decide) 36 rfl) (fun a oe cls d pn _ _ => pss_one (ps_ret pe_str)) (HdsOk.cons (nm "BadField" rfl (by decide) 37 rfl) (fun a oe cls d pn _ _ => pss_one (ps_ret pe_str)) (HdsOk.cons (nm "BadPaper" rfl (by decide) 38 rfl) (fun a oe cls d pn _ _ => pss_one (ps_ret pe_str)) (HdsOk.cons (nm "BadSize" rfl (by decide) 39 rfl) (fun a oe cls d pn _ _ => pss_one (ps_ret pe_str)) (HdsOk.cons (nm "BadText" rfl (by decide) 40 rfl) (fun a oe cls d pn _ _ => pss_one (ps_ret pe_str)) (HdsOk.cons (nm "BadStore" rfl (by decide) 41 rfl) (fun a oe cls d pn _ _ => pss_one (ps_ret pe_str)) (HdsOk.cons (nm "NoSuch" rfl (by decide) 42 rfl) (fun a oe cls d pn _ _ => pss_one (ps_ret pe_str)) HdsOk.nil)))))))))
theorem wt_told (c : Says w h K) : ∀ n r, tolds n = some r → ∀ (Q : VK) (H : Hp), Q (.str r) H → Wt K Q ((qq K).cls n) H (hlK K)
  | 0, r, hr, Q, H, hq => by cases hr; exact ⟨true, exmf c 44 "BadPart" "BadPart" true, (fun _ => hq), (fun hf => nomatch hf)⟩
  | n + 1, r, hr, Q, H, hq => nomatch hr
theorem txt (X : K.In h) (G : h.Ns mainGlobals mg) (c : Says w h K) : Txt K mg (qq K) where
  b_abs := fre X G c 23 "abs"
  b_int := fre X G c 24 "int"
  b_len := fre X G c 25 "len"
  b_list := fre X G c 26 "list"
  b_max := fre X G c 27 "max"
  b_range := fre X G c 28 "range"
  b_str := fre X G c 29 "str"
  b_tuple := fre X G c 30 "tuple"
  b_zip := fre X G c 31 "zip"
  g_gcd := PySem.W.mg_of X G (of_decide_eq_true c.more)
  k_FIGURES := by
    obtain ⟨t, e⟩ := He.str_ok X G (c.t.d.fact 32 (f := .str "FIGURES" "0123456789"))
    exact ⟨_, .str "0123456789", e, ⟨t, rfl⟩, fun z => Has.str⟩
  k_MOST_FIGURES := by
    obtain ⟨t, e⟩ := He.int_ok X G (c.t.d.fact 33 (f := .int "MOST_FIGURES" 12))
    exact ⟨_, .int 12, e, ⟨t, rfl⟩, fun z => Has.int⟩
  x_BadPart := ⟨_, excf X G c 43 34 "BadPart" 0 rfl⟩
  told := by
    refine ⟨hlK K, ⟨?_⟩, wt_told c⟩
    obtain ⟨fd, F⟩ := c.t.d.def_ 21 (d := dd_law_told)
    have b := F.bindsN (ps := ["what"]) fun _ _ _ _ _ _ us hl => match us, hl with | [_], _ => rfl
    have hex := F.ex
    obtain ⟨oc, od, dV, kV, doc, pm, an, cdv, ct, osl, e, lk, hcd, _, _⟩ := hex
    subst e
    exact ⟨_, _, _, _, _, _, _, _, _, _, _, _, _, _, _, _, _, _, _, _, glo X G c 21 "_law_told", F.kp, lk, hcd, b, sc_law_told, rfl, rfl, Or.inl rfl, fun f => rfl, fun P w base A stack s H => (by
      obtain ⟨_, _, _, _, _, _, e, hh⟩ := hds_told X G c (cxOf C8.CX0 P w K mg base ["what"] "_law_told" (defScope s_law_told) (He.fAd K ("_law_told", none)) cdv A stack s H C8.E0).nox rfl rfl rfl
      cases e
      exact hh)⟩
theorem code_law (c : Says w h K) {cdv : Value} (hc : CodeAt K (He.fAd K ("law", none)) "law" cdv) : cdv = .ref (He.cT K ("law", none)).1 := by
  obtain ⟨oc, od, osl, fd, lk, e, hcd⟩ := hc
  obtain ⟨a, ea⟩ := He.codeIn_ref hcd
  rw [ea] at e
  have := He.codeOf_eq (p := ("law", none)) lk e
  rw [ea]
  show Value.ref a = Value.ref (He.codeOf K ("law", none))
  rw [this]
/-- the lambdas that are kept -/
theorem clo_0 : CloS (lamDs 0) := ⟨rfl, rfl, rfl, by decide +kernel, fun _ _ _ _ _ => rfl⟩
theorem clo_1 : CloS (lamDs 1) := ⟨rfl, rfl, rfl, by decide +kernel, fun _ _ _ _ _ => rfl⟩
theorem clo_2 : CloS (lamDs 2) := ⟨rfl, rfl, rfl, by decide +kernel, fun _ _ _ _ _ => rfl⟩
theorem clo_3 : CloS (lamDs 3) := ⟨rfl, rfl, rfl, by decide +kernel, fun _ _ _ _ _ => rfl⟩
theorem clo_4 : CloS (lamDs 4) := ⟨rfl, rfl, rfl, by decide +kernel, fun _ _ _ _ _ => rfl⟩
theorem clo_5 : CloS (lamDs 5) := ⟨rfl, rfl, rfl, by decide +kernel, fun _ _ _ _ _ => rfl⟩
theorem clo_6 : CloS (lamDs 6) := ⟨rfl, rfl, rfl, by decide +kernel, fun _ _ _ _ _ => rfl⟩
theorem clo_7 : CloS (lamDs 7) := ⟨rfl, rfl, rfl, by decide +kernel, fun _ _ _ _ _ => rfl⟩
theorem told_at : ∀ n, (semAt prog n).told = tolds
  | 0 => rfl
  | _ + 1 => rfl
theorem lams_ok (T : Txt K mg (qq K)) {S : PV.Sem} {k : Nat} (Fs : Fns P w K mg base (qq K) S k) : ∀ n : Nat, (∃ m : PV.E, (∀ G, lamAt S prog n G = evE S [] m G) ∧ CloS ((qq K).lamD n) ∧ ∀ (A : Around) (outer : List PySem.Env) (s : Shared) (H : Hp) (E : XK) (f c : Addr), Room k (A.deeper (cloEnv ((qq K).lamD n) s.heap.objs.size f c)) → Sd (cloCx P w K mg base A outer s H E ((qq K).lamD n) f c) (qq K) S ((qq K).lamD n).body m) ∨ ∀ G, lamAt S prog n G = .bad
  | 0 => .inl ⟨l_0, fun _ => rfl, clo_0, fun A outer s H E f c hr => (sd_call Fs.f_part (hr) rfl (sda_cons sd_int (sda_cons sd_int sda_nil)))⟩
  | 1 => .inl ⟨l_1, fun _ => rfl, clo_1, fun A outer s H E f c hr => (sd_call Fs.f_over (hr) rfl (sda_cons (sd_tup (sda_cons sd_int (sda_cons sd_int sda_nil))) (sda_cons (sd_tup (sda_cons sd_int (sda_cons sd_int sda_nil))) sda_nil)))⟩
  | 2 => .inl ⟨l_2, fun _ => rfl, clo_2, fun A outer s H E f c hr => (sd_call Fs.f_raised (hr) rfl (sda_cons (sd_tup (sda_cons sd_int (sda_cons sd_int sda_nil))) (sda_cons (sd_bin od_sub sd_int sd_int) sda_nil)))⟩
  | 3 => .inl ⟨l_3, fun _ => rfl, clo_3, fun A outer s H E f c hr => (sd_call Fs.f_rows_added (hr) rfl (sda_cons (sd_lst (sda_cons (sd_tup (sda_cons sd_int (sda_cons sd_int sda_nil))) sda_nil)) (sda_cons (sd_lst sda_nil) sda_nil)))⟩
  | 4 => .inl ⟨l_4, fun _ => rfl, clo_4, fun A outer s H E f c hr => (sd_call Fs.f_dot (hr) rfl (sda_cons (sd_lst sda_nil) (sda_cons (sd_lst (sda_cons (sd_tup (sda_cons sd_int (sda_cons sd_int sda_nil))) sda_nil)) sda_nil)))⟩
  | 5 => .inl ⟨l_5, fun _ => rfl, clo_5, fun A outer s H E f c hr => (sd_call Fs.f_read (hr) rfl (sda_cons sd_str sda_nil))⟩
  | 6 => .inl ⟨l_6, fun _ => rfl, clo_6, fun A outer s H E f c hr => (sd_call Fs.f_read (hr) rfl (sda_cons sd_str sda_nil))⟩
  | 7 => .inl ⟨l_7, fun _ => rfl, clo_7, fun A outer s H E f c hr => (sd_call Fs.f_read (hr) rfl (sda_cons sd_str sda_nil))⟩
  | n + 8 => .inr fun _ => rfl
theorem at_f_shared (X : K.In h) (G : h.Ns mainGlobals mg) (c : Says w h K) (S' : PV.Sem) (k : Nat) (hok : ∀ fd, FunD K "shared" "shared" (defArgs s_shared) (defBody s_shared) (defScope s_shared) (He.DefD.dvs K dd_shared) (He.DefD.kws K dd_shared) (He.fAd K ("shared", none)) fd → FnOk P w K mg base (L2.CX P w) k (He.fAd K ("shared", none)) fd ["one", "other"] (spC K (qq K) S' 0 2)) (ar : ∀ ds G, ds.length ≠ 2 → S'.cal 0 ds G = .bad) : FnAt P w K mg base (qq K) S' k 0 "shared" [] := by
  obtain ⟨fd, F⟩ := c.t.d.def_ 0 (d := dd_shared)
  exact ⟨_, fd, ["one", "other"], [], [], hok fd F, glo X G c 0 "shared", F.kp, F.bindsN (fun _ _ _ _ _ _ us hl => match us, hl with | [_, _], _ => rfl), .nil, fun z => HasL.nil, ar⟩
theorem at_f_part (X : K.In h) (G : h.Ns mainGlobals mg) (c : Says w h K) (S' : PV.Sem) (k : Nat) (hok : ∀ fd, FunD K "part" "part" (defArgs s_part) (defBody s_part) (defScope s_part) (He.DefD.dvs K dd_part) (He.DefD.kws K dd_part) (He.fAd K ("part", none)) fd → FnOk P w K mg base (L2.CX P w) k (He.fAd K ("part", none)) fd ["top", "low"] (spC K (qq K) S' 1 2)) (ar : ∀ ds G, ds.length ≠ 2 → S'.cal 1 ds G = .bad) : FnAt P w K mg base (qq K) S' k 1 "part" [] := by
  obtain ⟨fd, F⟩ := c.t.d.def_ 1 (d := dd_part)
  obtain ⟨ds, hv, hb⟩ := F.binds1 (ps := ["top", "low"]) 2 1 (by simp [He.DefD.dvs, dd_part]) rfl (fun T kV doc pm an cdv ct us its h1 h2 => match us, its, h1, h2 with | [_, _], [_], _, _ => ⟨_, rfl, rfl⟩)
  have e : ds = [] := by cases hv; rfl
  subst e
  exact ⟨_, fd, ["top", "low"], [], [], hok fd F, glo X G c 1 "part", F.kp, hb, .nil, fun z => HasL.nil, ar⟩
theorem at_d_part (X : K.In h) (G : h.Ns mainGlobals mg) (c : Says w h K) (S' : PV.Sem) (k : Nat) (hok : ∀ fd, FunD K "part" "part" (defArgs s_part) (defBody s_part) (defScope s_part) (He.DefD.dvs K dd_part) (He.DefD.kws K dd_part) (He.fAd K ("part", none)) fd → FnOk P w K mg base (L2.CX P w) k (He.fAd K ("part", none)) fd ["top", "low"] (spC K (qq K) S' 1 2)) (ar : ∀ ds G, ds.length ≠ 2 → S'.cal 1 ds G = .bad) : FnAt P w K mg base (qq K) S' k 1 "part" [.int 1] := by
  obtain ⟨fd, F⟩ := c.t.d.def_ 1 (d := dd_part)
  obtain ⟨ds, hv, hb⟩ := F.binds1 (ps := ["top", "low"]) 1 0 (by simp [He.DefD.dvs, dd_part]) rfl (fun T kV doc pm an cdv ct us its h1 h2 => match us, its, h1, h2 with | [_], [_], _, _ => ⟨_, rfl, rfl⟩)
  exact ⟨_, fd, ["top", "low"], ds, _, hok fd F, glo X G c 1 "part", F.kp, hb, hv, fun z => HasL.cons Has.int (HasL.nil), ar⟩
theorem at_f_plus (X : K.In h) (G : h.Ns mainGlobals mg) (c : Says w h K) (S' : PV.Sem) (k : Nat) (hok : ∀ fd, FunD K "plus" "plus" (defArgs s_plus) (defBody s_plus) (defScope s_plus) (He.DefD.dvs K dd_plus) (He.DefD.kws K dd_plus) (He.fAd K ("plus", none)) fd → FnOk P w K mg base (L2.CX P w) k (He.fAd K ("plus", none)) fd ["one", "other"] (spC K (qq K) S' 2 2)) (ar : ∀ ds G, ds.length ≠ 2 → S'.cal 2 ds G = .bad) : FnAt P w K mg base (qq K) S' k 2 "plus" [] := by
  obtain ⟨fd, F⟩ := c.t.d.def_ 2 (d := dd_plus)
  exact ⟨_, fd, ["one", "other"], [], [], hok fd F, glo X G c 2 "plus", F.kp, F.bindsN (fun _ _ _ _ _ _ us hl => match us, hl with | [_, _], _ => rfl), .nil, fun z => HasL.nil, ar⟩
theorem at_f_minus (X : K.In h) (G : h.Ns mainGlobals mg) (c : Says w h K) (S' : PV.Sem) (k : Nat) (hok : ∀ fd, FunD K "minus" "minus" (defArgs s_minus) (defBody s_minus) (defScope s_minus) (He.DefD.dvs K dd_minus) (He.DefD.kws K dd_minus) (He.fAd K ("minus", none)) fd → FnOk P w K mg base (L2.CX P w) k (He.fAd K ("minus", none)) fd ["one", "other"] (spC K (qq K) S' 3 2)) (ar : ∀ ds G, ds.length ≠ 2 → S'.cal 3 ds G = .bad) : FnAt P w K mg base (qq K) S' k 3 "minus" [] := by
  obtain ⟨fd, F⟩ := c.t.d.def_ 3 (d := dd_minus)
  exact ⟨_, fd, ["one", "other"], [], [], hok fd F, glo X G c 3 "minus", F.kp, F.bindsN (fun _ _ _ _ _ _ us hl => match us, hl with | [_, _], _ => rfl), .nil, fun z => HasL.nil, ar⟩
theorem at_f_times (X : K.In h) (G : h.Ns mainGlobals mg) (c : Says w h K) (S' : PV.Sem) (k : Nat) (hok : ∀ fd, FunD K "times" "times" (defArgs s_times) (defBody s_times) (defScope s_times) (He.DefD.dvs K dd_times) (He.DefD.kws K dd_times) (He.fAd K ("times", none)) fd → FnOk P w K mg base (L2.CX P w) k (He.fAd K ("times", none)) fd ["one", "other"] (spC K (qq K) S' 4 2)) (ar : ∀ ds G, ds.length ≠ 2 → S'.cal 4 ds G = .bad) : FnAt P w K mg base (qq K) S' k 4 "times" [] := by
  obtain ⟨fd, F⟩ := c.t.d.def_ 4 (d := dd_times)
  exact ⟨_, fd, ["one", "other"], [], [], hok fd F, glo X G c 4 "times", F.kp, F.bindsN (fun _ _ _ _ _ _ us hl => match us, hl with | [_, _], _ => rfl), .nil, fun z => HasL.nil, ar⟩
theorem at_f_over (X : K.In h) (G : h.Ns mainGlobals mg) (c : Says w h K) (S' : PV.Sem) (k : Nat) (hok : ∀ fd, FunD K "over" "over" (defArgs s_over) (defBody s_over) (defScope s_over) (He.DefD.dvs K dd_over) (He.DefD.kws K dd_over) (He.fAd K ("over", none)) fd → FnOk P w K mg base (L2.CX P w) k (He.fAd K ("over", none)) fd ["one", "other"] (spC K (qq K) S' 5 2)) (ar : ∀ ds G, ds.length ≠ 2 → S'.cal 5 ds G = .bad) : FnAt P w K mg base (qq K) S' k 5 "over" [] := by
  obtain ⟨fd, F⟩ := c.t.d.def_ 5 (d := dd_over)
  exact ⟨_, fd, ["one", "other"], [], [], hok fd F, glo X G c 5 "over", F.kp, F.bindsN (fun _ _ _ _ _ _ us hl => match us, hl with | [_, _], _ => rfl), .nil, fun z => HasL.nil, ar⟩
theorem at_f_is_less (X : K.In h) (G : h.Ns mainGlobals mg) (c : Says w h K) (S' : PV.Sem) (k : Nat) (hok : ∀ fd, FunD K "is_less" "is_less" (defArgs s_is_less) (defBody s_is_less) (defScope s_is_less) (He.DefD.dvs K dd_is_less) (He.DefD.kws K dd_is_less) (He.fAd K ("is_less", none)) fd → FnOk P w K mg base (L2.CX P w) k (He.fAd K ("is_less", none)) fd ["one", "other"] (spC K (qq K) S' 6 2)) (ar : ∀ ds G, ds.length ≠ 2 → S'.cal 6 ds G = .bad) : FnAt P w K mg base (qq K) S' k 6 "is_less" [] := by
  obtain ⟨fd, F⟩ := c.t.d.def_ 6 (d := dd_is_less)
  exact ⟨_, fd, ["one", "other"], [], [], hok fd F, glo X G c 6 "is_less", F.kp, F.bindsN (fun _ _ _ _ _ _ us hl => match us, hl with | [_, _], _ => rfl), .nil, fun z => HasL.nil, ar⟩
theorem at_f_size_of (X : K.In h) (G : h.Ns mainGlobals mg) (c : Says w h K) (S' : PV.Sem) (k : Nat) (hok : ∀ fd, FunD K "size_of" "size_of" (defArgs s_size_of) (defBody s_size_of) (defScope s_size_of) (He.DefD.dvs K dd_size_of) (He.DefD.kws K dd_size_of) (He.fAd K ("size_of", none)) fd → FnOk P w K mg base (L2.CX P w) k (He.fAd K ("size_of", none)) fd ["one"] (spC K (qq K) S' 7 1)) (ar : ∀ ds G, ds.length ≠ 1 → S'.cal 7 ds G = .bad) : FnAt P w K mg base (qq K) S' k 7 "size_of" [] := by
  obtain ⟨fd, F⟩ := c.t.d.def_ 7 (d := dd_size_of)
  exact ⟨_, fd, ["one"], [], [], hok fd F, glo X G c 7 "size_of", F.kp, F.bindsN (fun _ _ _ _ _ _ us hl => match us, hl with | [_], _ => rfl), .nil, fun z => HasL.nil, ar⟩
theorem at_f_total (X : K.In h) (G : h.Ns mainGlobals mg) (c : Says w h K) (S' : PV.Sem) (k : Nat) (hok : ∀ fd, FunD K "total" "total" (defArgs s_total) (defBody s_total) (defScope s_total) (He.DefD.dvs K dd_total) (He.DefD.kws K dd_total) (He.fAd K ("total", none)) fd → FnOk P w K mg base (L2.CX P w) k (He.fAd K ("total", none)) fd ["parts"] (spC K (qq K) S' 8 1)) (ar : ∀ ds G, ds.length ≠ 1 → S'.cal 8 ds G = .bad) : FnAt P w K mg base (qq K) S' k 8 "total" [] := by
  obtain ⟨fd, F⟩ := c.t.d.def_ 8 (d := dd_total)
  exact ⟨_, fd, ["parts"], [], [], hok fd F, glo X G c 8 "total", F.kp, F.bindsN (fun _ _ _ _ _ _ us hl => match us, hl with | [_], _ => rfl), .nil, fun z => HasL.nil, ar⟩
theorem at_f_product (X : K.In h) (G : h.Ns mainGlobals mg) (c : Says w h K) (S' : PV.Sem) (k : Nat) (hok : ∀ fd, FunD K "product" "product" (defArgs s_product) (defBody s_product) (defScope s_product) (He.DefD.dvs K dd_product) (He.DefD.kws K dd_product) (He.fAd K ("product", none)) fd → FnOk P w K mg base (L2.CX P w) k (He.fAd K ("product", none)) fd ["parts"] (spC K (qq K) S' 9 1)) (ar : ∀ ds G, ds.length ≠ 1 → S'.cal 9 ds G = .bad) : FnAt P w K mg base (qq K) S' k 9 "product" [] := by
  obtain ⟨fd, F⟩ := c.t.d.def_ 9 (d := dd_product)
  exact ⟨_, fd, ["parts"], [], [], hok fd F, glo X G c 9 "product", F.kp, F.bindsN (fun _ _ _ _ _ _ us hl => match us, hl with | [_], _ => rfl), .nil, fun z => HasL.nil, ar⟩
theorem at_f_raised (X : K.In h) (G : h.Ns mainGlobals mg) (c : Says w h K) (S' : PV.Sem) (k : Nat) (hok : ∀ fd, FunD K "raised" "raised" (defArgs s_raised) (defBody s_raised) (defScope s_raised) (He.DefD.dvs K dd_raised) (He.DefD.kws K dd_raised) (He.fAd K ("raised", none)) fd → FnOk P w K mg base (L2.CX P w) k (He.fAd K ("raised", none)) fd ["one", "count"] (spC K (qq K) S' 10 2)) (ar : ∀ ds G, ds.length ≠ 2 → S'.cal 10 ds G = .bad) : FnAt P w K mg base (qq K) S' k 10 "raised" [] := by
  obtain ⟨fd, F⟩ := c.t.d.def_ 10 (d := dd_raised)
  exact ⟨_, fd, ["one", "count"], [], [], hok fd F, glo X G c 10 "raised", F.kp, F.bindsN (fun _ _ _ _ _ _ us hl => match us, hl with | [_, _], _ => rfl), .nil, fun z => HasL.nil, ar⟩
theorem at_f_told (X : K.In h) (G : h.Ns mainGlobals mg) (c : Says w h K) (S' : PV.Sem) (k : Nat) (hok : ∀ fd, FunD K "told" "told" (defArgs s_told) (defBody s_told) (defScope s_told) (He.DefD.dvs K dd_told) (He.DefD.kws K dd_told) (He.fAd K ("told", none)) fd → FnOk P w K mg base (L2.CX P w) k (He.fAd K ("told", none)) fd ["one"] (spC K (qq K) S' 11 1)) (ar : ∀ ds G, ds.length ≠ 1 → S'.cal 11 ds G = .bad) : FnAt P w K mg base (qq K) S' k 11 "told" [] := by
  obtain ⟨fd, F⟩ := c.t.d.def_ 11 (d := dd_told)
  exact ⟨_, fd, ["one"], [], [], hok fd F, glo X G c 11 "told", F.kp, F.bindsN (fun _ _ _ _ _ _ us hl => match us, hl with | [_], _ => rfl), .nil, fun z => HasL.nil, ar⟩
theorem at_f_read (X : K.In h) (G : h.Ns mainGlobals mg) (c : Says w h K) (S' : PV.Sem) (k : Nat) (hok : ∀ fd, FunD K "read" "read" (defArgs s_read) (defBody s_read) (defScope s_read) (He.DefD.dvs K dd_read) (He.DefD.kws K dd_read) (He.fAd K ("read", none)) fd → FnOk P w K mg base (L2.CX P w) k (He.fAd K ("read", none)) fd ["text"] (spC K (qq K) S' 12 1)) (ar : ∀ ds G, ds.length ≠ 1 → S'.cal 12 ds G = .bad) : FnAt P w K mg base (qq K) S' k 12 "read" [] := by
  obtain ⟨fd, F⟩ := c.t.d.def_ 12 (d := dd_read)
  exact ⟨_, fd, ["text"], [], [], hok fd F, glo X G c 12 "read", F.kp, F.bindsN (fun _ _ _ _ _ _ us hl => match us, hl with | [_], _ => rfl), .nil, fun z => HasL.nil, ar⟩
theorem at_f_is_number (X : K.In h) (G : h.Ns mainGlobals mg) (c : Says w h K) (S' : PV.Sem) (k : Nat) (hok : ∀ fd, FunD K "is_number" "is_number" (defArgs s_is_number) (defBody s_is_number) (defScope s_is_number) (He.DefD.dvs K dd_is_number) (He.DefD.kws K dd_is_number) (He.fAd K ("is_number", none)) fd → FnOk P w K mg base (L2.CX P w) k (He.fAd K ("is_number", none)) fd ["text"] (spC K (qq K) S' 13 1)) (ar : ∀ ds G, ds.length ≠ 1 → S'.cal 13 ds G = .bad) : FnAt P w K mg base (qq K) S' k 13 "is_number" [] := by
  obtain ⟨fd, F⟩ := c.t.d.def_ 13 (d := dd_is_number)
  exact ⟨_, fd, ["text"], [], [], hok fd F, glo X G c 13 "is_number", F.kp, F.bindsN (fun _ _ _ _ _ _ us hl => match us, hl with | [_], _ => rfl), .nil, fun z => HasL.nil, ar⟩
theorem at_f_scaled (X : K.In h) (G : h.Ns mainGlobals mg) (c : Says w h K) (S' : PV.Sem) (k : Nat) (hok : ∀ fd, FunD K "scaled" "scaled" (defArgs s_scaled) (defBody s_scaled) (defScope s_scaled) (He.DefD.dvs K dd_scaled) (He.DefD.kws K dd_scaled) (He.fAd K ("scaled", none)) fd → FnOk P w K mg base (L2.CX P w) k (He.fAd K ("scaled", none)) fd ["row", "by"] (spC K (qq K) S' 14 2)) (ar : ∀ ds G, ds.length ≠ 2 → S'.cal 14 ds G = .bad) : FnAt P w K mg base (qq K) S' k 14 "scaled" [] := by
  obtain ⟨fd, F⟩ := c.t.d.def_ 14 (d := dd_scaled)
  exact ⟨_, fd, ["row", "by"], [], [], hok fd F, glo X G c 14 "scaled", F.kp, F.bindsN (fun _ _ _ _ _ _ us hl => match us, hl with | [_, _], _ => rfl), .nil, fun z => HasL.nil, ar⟩
theorem at_f_rows_added (X : K.In h) (G : h.Ns mainGlobals mg) (c : Says w h K) (S' : PV.Sem) (k : Nat) (hok : ∀ fd, FunD K "rows_added" "rows_added" (defArgs s_rows_added) (defBody s_rows_added) (defScope s_rows_added) (He.DefD.dvs K dd_rows_added) (He.DefD.kws K dd_rows_added) (He.fAd K ("rows_added", none)) fd → FnOk P w K mg base (L2.CX P w) k (He.fAd K ("rows_added", none)) fd ["one", "other"] (spC K (qq K) S' 15 2)) (ar : ∀ ds G, ds.length ≠ 2 → S'.cal 15 ds G = .bad) : FnAt P w K mg base (qq K) S' k 15 "rows_added" [] := by
  obtain ⟨fd, F⟩ := c.t.d.def_ 15 (d := dd_rows_added)
  exact ⟨_, fd, ["one", "other"], [], [], hok fd F, glo X G c 15 "rows_added", F.kp, F.bindsN (fun _ _ _ _ _ _ us hl => match us, hl with | [_, _], _ => rfl), .nil, fun z => HasL.nil, ar⟩
theorem at_f_dot (X : K.In h) (G : h.Ns mainGlobals mg) (c : Says w h K) (S' : PV.Sem) (k : Nat) (hok : ∀ fd, FunD K "dot" "dot" (defArgs s_dot) (defBody s_dot) (defScope s_dot) (He.DefD.dvs K dd_dot) (He.DefD.kws K dd_dot) (He.fAd K ("dot", none)) fd → FnOk P w K mg base (L2.CX P w) k (He.fAd K ("dot", none)) fd ["one", "other"] (spC K (qq K) S' 16 2)) (ar : ∀ ds G, ds.length ≠ 2 → S'.cal 16 ds G = .bad) : FnAt P w K mg base (qq K) S' k 16 "dot" [] := by
  obtain ⟨fd, F⟩ := c.t.d.def_ 16 (d := dd_dot)
  exact ⟨_, fd, ["one", "other"], [], [], hok fd F, glo X G c 16 "dot", F.kp, F.bindsN (fun _ _ _ _ _ _ us hl => match us, hl with | [_, _], _ => rfl), .nil, fun z => HasL.nil, ar⟩
theorem at_f_check_lengths (X : K.In h) (G : h.Ns mainGlobals mg) (c : Says w h K) (S' : PV.Sem) (k : Nat) (hok : ∀ fd, FunD K "check_lengths" "check_lengths" (defArgs s_check_lengths) (defBody s_check_lengths) (defScope s_check_lengths) (He.DefD.dvs K dd_check_lengths) (He.DefD.kws K dd_check_lengths) (He.fAd K ("check_lengths", none)) fd → FnOk P w K mg base (L2.CX P w) k (He.fAd K ("check_lengths", none)) fd ["one", "other"] (spC K (qq K) S' 17 2)) (ar : ∀ ds G, ds.length ≠ 2 → S'.cal 17 ds G = .bad) : FnAt P w K mg base (qq K) S' k 17 "check_lengths" [] := by
  obtain ⟨fd, F⟩ := c.t.d.def_ 17 (d := dd_check_lengths)
  exact ⟨_, fd, ["one", "other"], [], [], hok fd F, glo X G c 17 "check_lengths", F.kp, F.bindsN (fun _ _ _ _ _ _ us hl => match us, hl with | [_, _], _ => rfl), .nil, fun z => HasL.nil, ar⟩
theorem at_f_law_dice (X : K.In h) (G : h.Ns mainGlobals mg) (c : Says w h K) (S' : PV.Sem) (k : Nat) (hok : ∀ fd, FunD K "_law_dice" "_law_dice" (defArgs s_law_dice) (defBody s_law_dice) (defScope s_law_dice) (He.DefD.dvs K dd_law_dice) (He.DefD.kws K dd_law_dice) (He.fAd K ("_law_dice", none)) fd → FnOk P w K mg base (L2.CX P w) k (He.fAd K ("_law_dice", none)) fd ["cell"] (spC K (qq K) S' 18 1)) (ar : ∀ ds G, ds.length ≠ 1 → S'.cal 18 ds G = .bad) : FnAt P w K mg base (qq K) S' k 18 "_law_dice" [] := by
  obtain ⟨fd, F⟩ := c.t.d.def_ 18 (d := dd_law_dice)
  exact ⟨_, fd, ["cell"], [], [], hok fd F, glo X G c 18 "_law_dice", F.kp, F.bindsN (fun _ _ _ _ _ _ us hl => match us, hl with | [_], _ => rfl), .nil, fun z => HasL.nil, ar⟩
theorem at_f_law_roll (X : K.In h) (G : h.Ns mainGlobals mg) (c : Says w h K) (S' : PV.Sem) (k : Nat) (hok : ∀ fd, FunD K "_law_roll" "_law_roll" (defArgs s_law_roll) (defBody s_law_roll) (defScope s_law_roll) (He.DefD.dvs K dd_law_roll) (He.DefD.kws K dd_law_roll) (He.fAd K ("_law_roll", none)) fd → FnOk P w K mg base (L2.CX P w) k (He.fAd K ("_law_roll", none)) fd ["dice", "many"] (spC K (qq K) S' 19 2)) (ar : ∀ ds G, ds.length ≠ 2 → S'.cal 19 ds G = .bad) : FnAt P w K mg base (qq K) S' k 19 "_law_roll" [] := by
  obtain ⟨fd, F⟩ := c.t.d.def_ 19 (d := dd_law_roll)
  exact ⟨_, fd, ["dice", "many"], [], [], hok fd F, glo X G c 19 "_law_roll", F.kp, F.bindsN (fun _ _ _ _ _ _ us hl => match us, hl with | [_, _], _ => rfl), .nil, fun z => HasL.nil, ar⟩
theorem at_f_law_rounds (X : K.In h) (G : h.Ns mainGlobals mg) (c : Says w h K) (S' : PV.Sem) (k : Nat) (hok : ∀ fd, FunD K "_law_rounds" "_law_rounds" (defArgs s_law_rounds) (defBody s_law_rounds) (defScope s_law_rounds) (He.DefD.dvs K dd_law_rounds) (He.DefD.kws K dd_law_rounds) (He.fAd K ("_law_rounds", none)) fd → FnOk P w K mg base (L2.CX P w) k (He.fAd K ("_law_rounds", none)) fd ["script", "most"] (spC K (qq K) S' 20 2)) (ar : ∀ ds G, ds.length ≠ 2 → S'.cal 20 ds G = .bad) : FnAt P w K mg base (qq K) S' k 20 "_law_rounds" [] := by
  obtain ⟨fd, F⟩ := c.t.d.def_ 20 (d := dd_law_rounds)
  exact ⟨_, fd, ["script", "most"], [], [], hok fd F, glo X G c 20 "_law_rounds", F.kp, F.bindsN (fun _ _ _ _ _ _ us hl => match us, hl with | [_, _], _ => rfl), .nil, fun z => HasL.nil, ar⟩
theorem at_f_law_told (X : K.In h) (G : h.Ns mainGlobals mg) (c : Says w h K) (S' : PV.Sem) (k : Nat) (hok : ∀ fd, FunD K "_law_told" "_law_told" (defArgs s_law_told) (defBody s_law_told) (defScope s_law_told) (He.DefD.dvs K dd_law_told) (He.DefD.kws K dd_law_told) (He.fAd K ("_law_told", none)) fd → FnOk P w K mg base (L2.CX P w) k (He.fAd K ("_law_told", none)) fd ["what"] (spC K (qq K) S' 21 1)) (ar : ∀ ds G, ds.length ≠ 1 → S'.cal 21 ds G = .bad) : FnAt P w K mg base (qq K) S' k 21 "_law_told" [] := by
  obtain ⟨fd, F⟩ := c.t.d.def_ 21 (d := dd_law_told)
  exact ⟨_, fd, ["what"], [], [], hok fd F, glo X G c 21 "_law_told", F.kp, F.bindsN (fun _ _ _ _ _ _ us hl => match us, hl with | [_], _ => rfl), .nil, fun z => HasL.nil, ar⟩
theorem at_f_law (X : K.In h) (G : h.Ns mainGlobals mg) (c : Says w h K) (S' : PV.Sem) (k : Nat) (hok : ∀ fd, FunD K "law" "law" (defArgs s_law) (defBody s_law) (defScope s_law) (He.DefD.dvs K dd_law) (He.DefD.kws K dd_law) (He.fAd K ("law", none)) fd → FnOk P w K mg base (L2.CX P w) k (He.fAd K ("law", none)) fd ["script"] (spC K (qq K) S' 22 1)) (ar : ∀ ds G, ds.length ≠ 1 → S'.cal 22 ds G = .bad) : FnAt P w K mg base (qq K) S' k 22 "law" [] := by
  obtain ⟨fd, F⟩ := c.t.d.def_ 22 (d := dd_law)
  exact ⟨_, fd, ["script"], [], [], hok fd F, glo X G c 22 "law", F.kp, F.bindsN (fun _ _ _ _ _ _ us hl => match us, hl with | [_], _ => rfl), .nil, fun z => HasL.nil, ar⟩
theorem fns (X : K.In h) (G : h.Ns mainGlobals mg) (c : Says w h K) (TB : TabB base mg (He.cT K ("law", none)).1 (He.cT K ("law", none)).2) : ∀ n : Nat, Fns P w K mg base (qq K) (semAt prog n) (3 * n + 1)
  | 0 => {
    f_shared := at_f_shared X G c _ _ (fun fd F => fn_zero (k := 0) F sc_shared (fun _ _ => rfl)) (fun _ _ _ => rfl)
    f_part := at_f_part X G c _ _ (fun fd F => fn_zero (k := 0) F sc_part (fun _ _ => rfl)) (fun _ _ _ => rfl)
    d_part := at_d_part X G c _ _ (fun fd F => fn_zero (k := 0) F sc_part (fun _ _ => rfl)) (fun _ _ _ => rfl)
    f_plus := at_f_plus X G c _ _ (fun fd F => fn_zero (k := 0) F sc_plus (fun _ _ => rfl)) (fun _ _ _ => rfl)
    f_minus := at_f_minus X G c _ _ (fun fd F => fn_zero (k := 0) F sc_minus (fun _ _ => rfl)) (fun _ _ _ => rfl)
    f_times := at_f_times X G c _ _ (fun fd F => fn_zero (k := 0) F sc_times (fun _ _ => rfl)) (fun _ _ _ => rfl)
    f_over := at_f_over X G c _ _ (fun fd F => fn_zero (k := 0) F sc_over (fun _ _ => rfl)) (fun _ _ _ => rfl)
    f_is_less := at_f_is_less X G c _ _ (fun fd F => fn_zero (k := 0) F sc_is_less (fun _ _ => rfl)) (fun _ _ _ => rfl)
    f_size_of := at_f_size_of X G c _ _ (fun fd F => fn_zero (k := 0) F sc_size_of (fun _ _ => rfl)) (fun _ _ _ => rfl)
    f_total := at_f_total X G c _ _ (fun fd F => fn_zero (k := 0) F sc_total (fun _ _ => rfl)) (fun _ _ _ => rfl)
    f_product := at_f_product X G c _ _ (fun fd F => fn_zero (k := 0) F sc_product (fun _ _ => rfl)) (fun _ _ _ => rfl)
    f_raised := at_f_raised X G c _ _ (fun fd F => fn_zero (k := 0) F sc_raised (fun _ _ => rfl)) (fun _ _ _ => rfl)
    f_told := at_f_told X G c _ _ (fun fd F => fn_zero (k := 0) F sc_told (fun _ _ => rfl)) (fun _ _ _ => rfl)
    f_read := at_f_read X G c _ _ (fun fd F => fn_zero (k := 0) F sc_read (fun _ _ => rfl)) (fun _ _ _ => rfl)
    f_is_number := at_f_is_number X G c _ _ (fun fd F => fn_zero (k := 0) F sc_is_number (fun _ _ => rfl)) (fun _ _ _ => rfl)
    f_scaled := at_f_scaled X G c _ _ (fun fd F => fn_zero (k := 0) F sc_scaled (fun _ _ => rfl)) (fun _ _ _ => rfl)
    f_rows_added := at_f_rows_added X G c _ _ (fun fd F => fn_zero (k := 0) F sc_rows_added (fun _ _ => rfl)) (fun _ _ _ => rfl)
    f_dot := at_f_dot X G c _ _ (fun fd F => fn_zero (k := 0) F sc_dot (fun _ _ => rfl)) (fun _ _ _ => rfl)
    f_check_lengths := at_f_check_lengths X G c _ _ (fun fd F => fn_zero (k := 0) F sc_check_lengths (fun _ _ => rfl)) (fun _ _ _ => rfl)
    f_law_dice := at_f_law_dice X G c _ _ (fun fd F => fn_zero (k := 0) F sc_law_dice (fun _ _ => rfl)) (fun _ _ _ => rfl)
    f_law_roll := at_f_law_roll X G c _ _ (fun fd F => fn_zero (k := 0) F sc_law_roll (fun _ _ => rfl)) (fun _ _ _ => rfl)
    f_law_rounds := at_f_law_rounds X G c _ _ (fun fd F => fn_zero (k := 0) F sc_law_rounds (fun _ _ => rfl)) (fun _ _ _ => rfl)
    f_law_told := at_f_law_told X G c _ _ (fun fd F => fn_zero (k := 0) F sc_law_told (fun _ _ => rfl)) (fun _ _ _ => rfl)
    f_law := at_f_law X G c _ _ (fun fd F => fn_zero (k := 0) F sc_law (fun _ _ => rfl)) (fun _ _ _ => rfl) }
  | n + 1 =>
    have T := txt X G c
    have Fs := fns X G c TB n
    {
    f_shared := at_f_shared X G c _ _ (fun fd F => fn_stepC (fn := m_shared) F sc_shared (fun _ _ => rfl) rfl rfl (by decide) (fun cdv A outer s H E hc hr => b_shared T Fs hr)) (run_ar rfl)
    f_part := at_f_part X G c _ _ (fun fd F => fn_stepC (fn := m_part) F sc_part (fun _ _ => rfl) rfl rfl (by decide) (fun cdv A outer s H E hc hr => b_part T Fs hr)) (run_ar rfl)
    d_part := at_d_part X G c _ _ (fun fd F => fn_stepC (fn := m_part) F sc_part (fun _ _ => rfl) rfl rfl (by decide) (fun cdv A outer s H E hc hr => b_part T Fs hr)) (run_ar rfl)
    f_plus := at_f_plus X G c _ _ (fun fd F => fn_stepC (fn := m_plus) F sc_plus (fun _ _ => rfl) rfl rfl (by decide) (fun cdv A outer s H E hc hr => b_plus T Fs hr)) (run_ar rfl)
    f_minus := at_f_minus X G c _ _ (fun fd F => fn_stepC (fn := m_minus) F sc_minus (fun _ _ => rfl) rfl rfl (by decide) (fun cdv A outer s H E hc hr => b_minus T Fs hr)) (run_ar rfl)
    f_times := at_f_times X G c _ _ (fun fd F => fn_stepC (fn := m_times) F sc_times (fun _ _ => rfl) rfl rfl (by decide) (fun cdv A outer s H E hc hr => b_times T Fs hr)) (run_ar rfl)
    f_over := at_f_over X G c _ _ (fun fd F => fn_stepC (fn := m_over) F sc_over (fun _ _ => rfl) rfl rfl (by decide) (fun cdv A outer s H E hc hr => b_over T Fs hr)) (run_ar rfl)
    f_is_less := at_f_is_less X G c _ _ (fun fd F => fn_stepC (fn := m_is_less) F sc_is_less (fun _ _ => rfl) rfl rfl (by decide) (fun cdv A outer s H E hc hr => b_is_less T Fs hr)) (run_ar rfl)
    f_size_of := at_f_size_of X G c _ _ (fun fd F => fn_stepC (fn := m_size_of) F sc_size_of (fun _ _ => rfl) rfl rfl (by decide) (fun cdv A outer s H E hc hr => b_size_of T Fs hr)) (run_ar rfl)
    f_total := at_f_total X G c _ _ (fun fd F => fn_stepC (fn := m_total) F sc_total (fun _ _ => rfl) rfl rfl (by decide) (fun cdv A outer s H E hc hr => b_total T Fs hr)) (run_ar rfl)
    f_product := at_f_product X G c _ _ (fun fd F => fn_stepC (fn := m_product) F sc_product (fun _ _ => rfl) rfl rfl (by decide) (fun cdv A outer s H E hc hr => b_product T Fs hr)) (run_ar rfl)
    f_raised := at_f_raised X G c _ _ (fun fd F => fn_stepC (fn := m_raised) F sc_raised (fun _ _ => rfl) rfl rfl (by decide) (fun cdv A outer s H E hc hr => b_raised T Fs hr)) (run_ar rfl)
    f_told := at_f_told X G c _ _ (fun fd F => fn_stepC (fn := m_told) F sc_told (fun _ _ => rfl) rfl rfl (by decide) (fun cdv A outer s H E hc hr => b_told T Fs hr)) (run_ar rfl)
    f_read := at_f_read X G c _ _ (fun fd F => fn_stepC (fn := m_read) F sc_read (fun _ _ => rfl) rfl rfl (by decide) (fun cdv A outer s H E hc hr => b_read T Fs hr)) (run_ar rfl)
    f_is_number := at_f_is_number X G c _ _ (fun fd F => fn_stepC (fn := m_is_number) F sc_is_number (fun _ _ => rfl) rfl rfl (by decide) (fun cdv A outer s H E hc hr => b_is_number T Fs hr)) (run_ar rfl)
    f_scaled := at_f_scaled X G c _ _ (fun fd F => fn_stepC (fn := m_scaled) F sc_scaled (fun _ _ => rfl) rfl rfl (by decide) (fun cdv A outer s H E hc hr => b_scaled T Fs hr)) (run_ar rfl)
    f_rows_added := at_f_rows_added X G c _ _ (fun fd F => fn_stepC (fn := m_rows_added) F sc_rows_added (fun _ _ => rfl) rfl rfl (by decide) (fun cdv A outer s H E hc hr => b_rows_added T Fs hr)) (run_ar rfl)
    f_dot := at_f_dot X G c _ _ (fun fd F => fn_stepC (fn := m_dot) F sc_dot (fun _ _ => rfl) rfl rfl (by decide) (fun cdv A outer s H E hc hr => b_dot T Fs hr)) (run_ar rfl)
    f_check_lengths := at_f_check_lengths X G c _ _ (fun fd F => fn_stepC (fn := m_check_lengths) F sc_check_lengths (fun _ _ => rfl) rfl rfl (by decide) (fun cdv A outer s H E hc hr => b_check_lengths T Fs hr)) (run_ar rfl)
    f_law_dice := at_f_law_dice X G c _ _ (fun fd F => fn_stepC (fn := m_law_dice) F sc_law_dice (fun _ _ => rfl) rfl rfl (by decide) (fun cdv A outer s H E hc hr => b_law_dice T Fs hr)) (run_ar rfl)
    f_law_roll := at_f_law_roll X G c _ _ (fun fd F => fn_stepC (fn := m_law_roll) F sc_law_roll (fun _ _ => rfl) rfl rfl (by decide) (fun cdv A outer s H E hc hr => b_law_roll T Fs hr)) (run_ar rfl)
    f_law_rounds := at_f_law_rounds X G c _ _ (fun fd F => fn_stepC (fn := m_law_rounds) F sc_law_rounds (fun _ _ => rfl) rfl rfl (by decide) (fun cdv A outer s H E hc hr => b_law_rounds T Fs hr)) (run_ar rfl)
    f_law_told := at_f_law_told X G c _ _ (fun fd F => by
      have hh := fun (cdv : Value) (A : Around) (outer : List PySem.Env) (s : Shared) (H : Hp) (E : XK) => hds_told X G c (cxOf (L2.CX P w) P w K mg base ["what"] "_law_told" (defScope s_law_told) (He.fAd K ("_law_told", none)) cdv A outer s H E) rfl rfl rfl
      refine (fn_told (q := qq K) (S := semAt prog n) (S0 := semAt prog n) (L := lamAt (semAt prog n) prog) (k0 := 3 * n + 1) (hl := hlK K) F sc_law_told (fun _ _ => rfl) (by rw [told_at]; exact wt_told c) (lams_ok T Fs) (fun cdv A outer s H E => ?_) rfl (Or.inl rfl) (fun _ => rfl)).mono (by omega)
      obtain ⟨_, _, _, _, _, _, e, hk⟩ := hh cdv A outer s H E
      cases e
      exact hk) told_ar
    f_law := at_f_law X G c _ _ (fun fd F => fn_stepC (fn := m_law) F sc_law (fun _ _ => rfl) rfl rfl (by decide) (fun cdv A outer s H E hc hr => b_law T Fs hr TB (code_law c hc) (by exact List.mem_cons_self ..) (by intro p hp _; rw [List.mem_singleton.mp hp]) (told_at n) rfl)) (run_ar rfl) }
end
end LK
end
/-! ## K01c -/
section
set_option Elab.async false
set_option linter.all false
set_option maxRecDepth 200000
set_option maxHeartbeats 0
namespace LK
open PySem L2 LamX PyProof.Rows RZ PV
/-! the end -/
abbrev Rw : PySem.W.OpenRow := PySem.W.OpenLaw.row PySem.Challenge.rw_stepwright_k01_parts_and_rows
abbrev hk : PySem.W.Hook := He.hookX 4 fal fnl [] tfl exl
def ob (s : PySem.W.SharedT) : He.AlX := He.obsX 4 fal fnl [] tfl exl (HandSHeadRun.getT s)
theorem ob_eq (s : PySem.W.SharedT) : ob s = hk.obs s.abs := He.obsX_eq (HandSHeadRun.getT_eq s)
def loose0 : List PySem.Str := ["__name__", "StepFault", "BadPart", "BadTree", "BadTable", "BadField", "BadPaper", "BadSize", "BadText", "BadStore", "NoSuch", "FIGURES", "MOST_FIGURES", "shared", "part"]
def loose1 : List PySem.Str := ["plus", "minus", "times", "over", "is_less", "size_of", "total", "product", "raised", "told", "read", "is_number", "scaled", "rows_added", "dot"]
def loose2 : List PySem.Str := ["check_lengths", "_law_dice", "_law_roll", "_law_rounds", "_law_told"]
abbrev loose : List PySem.Str := loose0 ++ loose1 ++ loose2
abbrev qv : Program := PySem.W.view Rw.prog [0, 38]
theorem run (w : World) : HandSHeadRun.RunEqI Rw qv hk ob 8000 loose w := by
  unfold HandSHeadRun.RunEqI
  kernel_rfl
section
variable {P : Program} {w : World} {K : PySem.W.Frag} {mg : Str → Option Value} {base h : Heap}
theorem law_ok (X : K.In h) (G : h.Ns mainGlobals mg) (c : Says w h K) (TB : TabB base mg (He.cT K ("law", none)).1 (He.cT K ("law", none)).2) (n : Nat) {fd : FuncData} (F : FunD K "law" "law" (defArgs s_law) (defBody s_law) (defScope s_law) [] [] (He.fAd K ("law", none)) fd) : FnOk P w K mg base (L2.CX P w) (3 * n + 1 + 3) (He.fAd K ("law", none)) fd ["script"] (spC K (qq K) (semAt prog (n + 1)) 22 1) := by
  have T := txt X G c
  have Fs := fns (P := P) X G c TB n
  exact fn_stepC (fn := m_law) F sc_law (fun _ _ => rfl) rfl rfl (by decide) (fun cdv A outer s H E hc hr => b_law T Fs hr TB (code_law c hc) (by exact List.mem_cons_self ..) (by intro p hp _; rw [List.mem_singleton.mp hp]) (told_at n) rfl)
theorem tabs_of {K : PySem.W.Frag} {H : Hp} (h : ∀ p ∈ [He.cT K ("law", none)], H p.2 = some (.tbl #[])) : Tabs (qq K).T H := by
  intro p hp
  rw [List.mem_singleton.mp hp]
  exact ⟨#[], h _ (List.mem_cons_self ..), by first | exact TriplesOk.nil | exact trivial | (intro _ h; cases h) | simp [TriplesOk], fun pos cv e => by cases e⟩
theorem facts {fa : Addr} (X : K.In h) (G : h.Ns mainGlobals mg) (hfa : mg ("law" : Str) = some (.ref fa)) (c : Says w h K)
    (lw : ∀ ns : List Int, ns.length ≤ 63 → (∀ z ∈ ns, Builtin.Int.intBits z ≤ 1048576) → ∃ Gz, (semAt prog (12 + 1)).cal 22 [.frz (ns.map .int)] [] = .ok (.bl true) Gz) :
    LamX.LawAtS PySem.Challenge.rw_stepwright_k01_parts_and_rows w K (L2.CX (PySem.Challenge.rw_stepwright_k01_parts_and_rows).prog w) (3 * 12 + 1 + 3) 63 "script" mg fa h := by
  obtain ⟨fd, F⟩ := c.t.d.def_ 22 (d := dd_law)
  have e := hfa.symm.trans (glo X G c 22 "law")
  cases e
  have b := FunD.bindsA (ps := ["script"]) F fun _ _ _ _ _ _ us hl => match us, hl with | [_], _ => rfl
  refine ⟨fd, [He.cT K ("law", none)], spC K (qq K) (semAt prog (12 + 1)) 22 1, fun p hp => ?_, fun p hp => ?_, fun p hp => ?_, fun s v => b s [v] rfl, fun H a ns hl hb ht hS => ?_, fun base KB GB hTB => ?_⟩
  · exact c.empty ("law", none) (List.mem_cons_self ..) |> fun e => by rw [List.mem_singleton.mp hp]; exact e
  · rw [List.mem_singleton.mp hp]; exact c.out ("law", none) (List.mem_cons_self ..)
  · rw [List.mem_singleton.mp hp]; exact PySem.W.codeHd_of_K X (c.hd ("law", none) (List.mem_cons_self ..))
  · obtain ⟨Gz, h⟩ := lw ns hl hb
    exact law_start (tabs_of ht) hS h
  · exact law_ok X G c (hTB _ (List.mem_cons_self ..)) 12 F
end
end LK
open PySem PySem.W PySem.Calls PyProof.Rows
theorem end_of (lw : ∀ ns : List Int, ns.length ≤ 63 → (∀ z ∈ ns, Builtin.Int.intBits z ≤ 1048576) → ∃ Gz, (PV.semAt LK.prog (12 + 1)).cal 22 [.frz (ns.map .int)] [] = .ok (.bl true) Gz) : PySem.Challenge.rw_stepwright_k01_parts_and_rows.Holds := by
  w_on; o_law
  refine HandSHeadRun.head_imp (r := OpenLaw.row PySem.Challenge.rw_stepwright_k01_parts_and_rows) (q := LK.qv) (H := LK.hk) (ob := LK.ob) (M := 8000) (loose := LK.loose) (d := HandSHeadRun.topDef (OpenLaw.row PySem.Challenge.rw_stepwright_k01_parts_and_rows).prog 38) (kwd := []) LK.ob_eq
    LK.run (by kernel_rfl) (by kernel_rfl) (by kernel_rfl) (by rfl) (by first | assumption | decide +kernel) (by decide +kernel) ⟨rfl, rfl, rfl, rfl, rfl, by decide +kernel⟩ ?hw ?hc
  case hw => w_witness2
  case hc =>
    refine LamX.walk_ofTsE (l := PySem.Challenge.rw_stepwright_k01_parts_and_rows) (n := 63) (k := 3 * 12 + 1 + 3) (x := "script") (CX := fun w => L2.CX (PySem.Challenge.rw_stepwright_k01_parts_and_rows).prog w) rfl (by decide) (by kernel_rfl) ⟨rfl, by decide, by decide⟩ ?F ?C
    case C =>
      intro w H s e s' h
      obtain ⟨_, _, _, _, _, _, _, _, _, _, _, _, z⟩ := h
      exact z.elim
    case F =>
      intro w mg fa h Y G hmg0
      obtain ⟨K, KX, c⟩ := Y
      have hmg : mg ("law" : PySem.Str) = some (.ref fa) := by
        have e : (HandSHeadRun.topDef (OpenLaw.row PySem.Challenge.rw_stepwright_k01_parts_and_rows).prog 38).name = ("law" : PySem.Str) := by kernel_rfl
        rw [← e]
        exact hmg0
      exact ⟨K, KX, LK.facts KX G hmg c lw⟩
end
theorem PySem.Challenge.cw_stepwright_k01_parts_and_rows_holds : PySem.Challenge.rw_stepwright_k01_parts_and_rows.Holds := by
  exact end_of LK.law_true
