import PyProof.Rows.All
import Wide.All
import OpenK.AllK
import Wide.FinOn
import HandS.ForMost
import KE.SortData
import KE.DataCmp
import HandS.Deep
import HandS.TupAny
import HandS.WideBits
import HandS.Style
import KE.DataMinMax
import PyProof.P3In
import PyProof.CallFns
import HandS.Conv
import HandS.Sort
import HandS.SortRule
import HandS.SortInts
import PyProof.ReprReads
import PyProof.TupleOfSeq
import HandS.MakeKwOnly
import HandS.AnyAll
import HandS.Flow
import HandS.CallLocal
import HandS.Rev
import HandS.Zip
import KE.GoesEnum
import HandS.TryOnly
import HandS.Dict
import HandS.Comp
import HandS.GenList
import PyProof.TupleOfGen
import HandS.EndTab
import HandS.HeadHook4
import HandS.Head2
import HandS.HeadEnd
import HandS.NestedK
import KE.IntBitsLaws
import PyProof.ReprBulk
import PyProof.Rows.ReprShort
import HandS.Head0
import HandS.Head1
import PySem.Challenge.RW_stringrooms_k01_whole_letters_of_plans
set_option Elab.async false
set_option linter.all false
section
set_option linter.all false
/-! E1: values, the inner form of a text, its evaluator (pure; kernel-friendly). -/
namespace Ev
open PySem L2

/-- a value of the evaluator: tuples and lists that nobody changes are values; a changed list or dict stands in the store -/
inductive D where
  | non | bl (b : Bool) | int (i : Int) | str (s : Str)
  | tup (xs : List D) | lst (xs : List D) | ref (n : Nat) | fn (f : Nat) | rep (d : D)
deriving Inhabited

inductive Cell where
  | lst (xs : List D) | dk (kvs : List (Key × D)) | fz (xs : List D)
deriving Inhabited
abbrev Sto := List Cell
abbrev Loc := List (Option D)

/-- a result: a value, an exception (its class, its fields), or no word -/
inductive R3 (α : Type) where
  | ok (a : α) (S : Sto) | exc (c : Nat) (ds : List D) (S : Sto) | stuck
def R3.bind {α β : Type} (x : R3 α) (f : α → Sto → R3 β) : R3 β := match x with
  | .ok a S => f a S
  | .exc c ds S => .exc c ds S
  | .stuck => .stuck
def R3.of {α : Type} (x : Option α) (S : Sto) : R3 α := match x with
  | some a => .ok a S
  | none => .stuck

inductive BOp | add | sub | mul | fdiv | mod | pow
inductive COp | eq | ne | lt | le | gt | ge | isin | notin | is_ | isnot
/-- built-in functions by values -/
inductive Bi | len | tuple | list | sorted | int | min | max | sum | repr | abs | any | all
/-- methods by values -/
inductive Me | append | index | count | pop | get | extend

inductive CT where
  | nm (i : Nat) | tp (ts : List CT)

mutual
inductive CE where
  | v (i : Nat) | k (d : D) | g (f : Nat)
  | tup (es : List CE) | lst (mu : Bool) (es : List CE) | dct (ks : List Key) (es : List CE)
  | bin (o : BOp) (a b : CE) | cat (a b : CE) | neg (a : CE)
  | cmp (o : COp) (a b : CE) | chain (o p : COp) (a b c : CE)
  | and (a b : CE) | or (a b : CE) | not (a : CE)
  | ife (c a b : CE)
  | ix (a b : CE) | sl (a : CE) (lo hi : Option CE) | rev (a : CE)
  | call (f : Nat) (es : List CE) | callk (f : Nat) (es : List CE) (ks : List Nat)
  | callv (i : Nat) (es : List CE)
  | bi (mu : Bool) (b : Bi) (es : List CE) | tr (t mu : Bool) (es : List CE) | me (m : Me) (o : CE) (es : List CE)
  | lc (mu : Bool) (own : List Nat) (tg : CT) (it : CI) (ifs : List CE) (elt : CE)
  | gn (mu : Bool) (b : Bi) (own : List Nat) (tg : CT) (it : CI) (ifs : List CE) (elt : CE)
inductive CI where
  | of (e : CE) | rng (es : List CE) | enum (e : CE) | zip (a b : CE) | revd (e : CE)
end

inductive CS where
  | asg (t : CT) (e : CE) | par (is : List Nat) (es : List CE)
  | aug (i : Nat) (o : BOp) (e : CE)
  | set (o i e : CE) | augs (o i : CE) (b : BOp) (e : CE)
  | ret (e : Option CE) | ex (e : CE)
  | iff (c : CE) (a b : List CS)
  | fors (t : CT) (it : CI) (body : List CS)
  | whl (c : CE) (body : List CS)
  | pass | brk | cont | rse (c : Nat) (es : List CE)

/-! ### values -/
mutual
def D.beq : D → D → Bool
  | .non, .non => true
  | .bl a, .bl b => a == b
  | .int a, .int b => a == b
  | .str a, .str b => decide (a = b)
  | .tup a, .tup b => D.beqs a b
  | .lst a, .lst b => D.beqs a b
  | .ref a, .ref b => a == b
  | .fn a, .fn b => a == b
  | .rep a, .rep b => D.beq a b
  | _, _ => false
def D.beqs : List D → List D → Bool
  | [], [] => true
  | a :: r, b :: t => D.beq a b && D.beqs r t
  | _, _ => false
end

mutual
/-- a value without references, functions, texts of repr -/
def D.py : D → Option PyData
  | .non => some .none
  | .bl b => some (.bool b)
  | .int i => some (.int i)
  | .str s => some (.str s)
  | .tup xs => match D.pys xs with | some r => some (.tuple r) | none => none
  | .lst xs => match D.pys xs with | some r => some (.list r) | none => none
  | _ => none
def D.pys : List D → Option (List PyData)
  | [] => some []
  | x :: r => match D.py x, D.pys r with
    | some a, some b => some (a :: b)
    | _, _ => none
end

/-- a value with its lists read off the store (not below another list of the store) -/
def D.read (S : Sto) : D → D
  | .ref n => match S[n]? with
    | some (.lst xs) => .lst xs
    | some (.fz xs) => .lst xs
    | _ => .ref n
  | d => d
mutual
/-- .. also within tuples and lists -/
def D.deep (S : Sto) : D → D
  | .ref n => match S[n]? with
    | some (.lst xs) => .lst xs
    | some (.fz xs) => .lst xs
    | _ => .ref n
  | .tup xs => .tup (D.deeps S xs)
  | .lst xs => .lst (D.deeps S xs)
  | d => d
def D.deeps (S : Sto) : List D → List D
  | [] => []
  | x :: r => D.deep S x :: D.deeps S r
end

/-! ### operations -/
def truth (S : Sto) : D → Option Bool
  | .non => some false
  | .bl b => some b
  | .int i => some (!decide (i = 0))
  | .str _ => none
  | .tup xs => some (!xs.isEmpty)
  | .lst xs => some (!xs.isEmpty)
  | .ref n => match S[n]? with
    | some (.lst xs) => some (!xs.isEmpty)
    | some (.fz xs) => some (!xs.isEmpty)
    | some (.dk kvs) => some (!kvs.isEmpty)
    | none => none
  | _ => none

def mulOk (i j : Int) : Bool := decide ((Builtin.Int.intBits i : Int) + (Builtin.Int.intBits j : Int) ≤ 134217728)
def lenOk (n : Nat) : Bool := decide (n ≤ sizeLine)

/-- a list that + may take -/
def D.readM (S : Sto) : D → D
  | .ref n => match S[n]? with
    | some (.lst xs) => .lst xs
    | _ => .ref n
  | d => d
def binD (S : Sto) (o : BOp) (a b : D) : Option D := match o, D.readM S a, D.readM S b with
  | .add, .int i, .int j => some (.int (i + j))
  | .sub, .int i, .int j => some (.int (i - j))
  | .mul, .int i, .int j => if mulOk i j then some (.int (i * j)) else none
  | .mod, .int i, .int j => if 0 < j then some (.int (i % j)) else none
  | .fdiv, .int i, .int j => if 0 < j ∧ j < 1073741824 then some (.int (i / j)) else none
  | .pow, .int i, .int j => if 0 ≤ j ∧ j ≤ 1000000 ∧ i.natAbs < 2 ^ 64 then some (.int (i ^ j.toNat)) else none
  | .add, .tup xs, .tup ys => if lenOk (xs.length + ys.length) then some (.tup (xs ++ ys)) else none
  | .add, .lst xs, .lst ys => if lenOk (xs.length + ys.length) then some (.lst (xs ++ ys)) else none
  | _, _, _ => none

/-- == of two values -/
def eqD (S : Sto) (a b : D) : Option Bool := match a, b with
  | .int i, .int j => some (decide (i = j))
  | .rep x, .rep y => if D.beq x y then some true else none
  | a, b => match (D.deep S a).py, (D.deep S b).py with
    | some x, some y => if SeqAt.shaped x && SeqAt.shaped y then some (PyData.eqv x y) else none
    | _, _ => none
def notNone : PyData → Bool
  | .none => false
  | _ => true
/-- < of two values -/
def ltD (S : Sto) (a b : D) : Option Bool := match a, b with
  | .int i, .int j => some (decide (i < j))
  | a, b => match (D.deep S a).py, (D.deep S b).py with
    | some x, some y => if W.alike x y && decide (x.depth ≤ 64) && decide (y.depth ≤ 64) && notNone x then some (W.dataLt x y) else none
    | _, _ => none
def inD (S : Sto) (a b : D) : Option Bool := match (D.deep S a).py, (D.deep S b).py with
  | some x, some (.tuple ys) => if SeqAt.shaped x && SeqAt.shaped (.tuple ys) then some (ys.any fun z => PyData.eqv z x) else none
  | some x, some (.list ys) => if SeqAt.shaped x && SeqAt.shaped (.list ys) then some (ys.any fun z => PyData.eqv z x) else none
  | _, _ => none
def isD (a b : D) : Option Bool := match b with
  | .non => some (match a with | .non => true | _ => false)
  | _ => none

def cmpD (S : Sto) (o : COp) (a b : D) : Option Bool := match o with
  | .eq => eqD S a b
  | .ne => (eqD S a b).map (!·)
  | .lt => ltD S a b
  | .gt => ltD S b a
  | .le => (ltD S b a).map (!·)
  | .ge => (ltD S a b).map (!·)
  | .isin => inD S a b
  | .notin => (inD S a b).map (!·)
  | .is_ => isD a b
  | .isnot => (isD a b).map (!·)

def lookK : List (Key × D) → Key → Option D
  | [], _ => none
  | (k', d) :: r, k => if k' = k then some d else lookK r k
def ixD (S : Sto) (a b : D) : Option D := match D.read S a, b with
  | .tup xs, .int i => atI xs i
  | .lst xs, .int i => atI xs i
  | .ref n, .str s => match S[n]? with
    | some (.dk kvs) => lookK kvs (Sum.inr s)
    | _ => none
  | .ref n, .int i => match S[n]? with
    | some (.dk kvs) => lookK kvs (Sum.inl i)
    | _ => none
  | _, _ => none

def cut {α : Type} (xs : List α) (lo hi : Option Int) : List α := (xs.drop (HT.sIx xs.length 0 lo)).take (HT.sIx xs.length xs.length hi - HT.sIx xs.length 0 lo)
def slD (S : Sto) (a : D) (lo hi : Option Int) : Option D := match D.read S a with
  | .tup xs => some (.tup (cut xs lo hi))
  | .lst xs => some (.lst (cut xs lo hi))
  | _ => none
def revD (S : Sto) (a : D) : Option D := match D.read S a with
  | .tup xs => some (.tup xs.reverse)
  | .lst xs => some (.lst xs.reverse)
  | _ => none

def sortLeD (a b : D) : Bool := match a.py, b.py with
  | some x, some y => !W.dataLt y x
  | _, _ => true
def mrg {α : Type} (le : α → α → Bool) : Nat → List α → List α → List α
  | 0, _, _ => []
  | _+1, [], ys => ys
  | _+1, xs, [] => xs
  | n+1, x :: xs, y :: ys => if le x y then x :: mrg le n xs (y :: ys) else y :: mrg le n (x :: xs) ys
theorem mrg_eq {α : Type} (le : α → α → Bool) : ∀ (n : Nat) (xs ys : List α), xs.length + ys.length < n → mrg le n xs ys = List.merge xs ys le
  | 0, _, _, h => absurd h (Nat.not_lt_zero _)
  | n+1, [], ys, _ => by simp [mrg]
  | n+1, x :: xs, [], _ => by simp [mrg]
  | n+1, x :: xs, y :: ys, h => by
    simp only [List.length_cons] at h
    rw [mrg, List.cons_merge_cons, mrg_eq le n xs (y :: ys) (by simp only [List.length_cons]; omega), mrg_eq le n (x :: xs) ys (by simp only [List.length_cons]; omega)]
/-- merge sort, told by its fuel (so that it computes) -/
def msort {α : Type} (le : α → α → Bool) : Nat → List α → List α
  | 0, _ => []
  | _+1, [] => []
  | _+1, [a] => [a]
  | n+1, a :: b :: xs => mrg le (xs.length + 3) (msort le n ((a :: b :: xs).take ((xs.length + 2 + 1) / 2))) (msort le n ((a :: b :: xs).drop ((xs.length + 2 + 1) / 2)))
theorem msort_eq {α : Type} (le : α → α → Bool) : ∀ (n : Nat) (xs : List α), xs.length < n → msort le n xs = xs.mergeSort le
  | 0, _, h => absurd h (Nat.not_lt_zero _)
  | n+1, [], _ => by simp [msort]
  | n+1, [a], _ => by simp [msort]
  | n+1, a :: b :: xs, h => by
    simp only [List.length_cons] at h
    rw [msort, List.mergeSort.eq_3]
    simp only [List.MergeSort.Internal.splitInTwo, List.splitAt_eq, List.length_cons]
    rw [msort_eq le n _ (by simp only [List.length_take, List.length_cons]; omega), msort_eq le n _ (by simp only [List.length_drop, List.length_cons]; omega)]
    refine mrg_eq le _ _ _ ?_
    simp only [List.length_mergeSort, List.length_take, List.length_drop, List.length_cons]; omega
def sortD (xs : List D) : List D := msort sortLeD (xs.length + 1) xs
theorem sortD_eq (xs : List D) : sortD xs = xs.mergeSort sortLeD := msort_eq _ _ _ (Nat.lt_succ_self _)
def alikeRow : List PyData → Bool
  | [] => true
  | x :: r => r.all (fun y => W.alike x y) && alikeRow r
def isTup1 : PyData → Bool
  | .tuple (_ :: _) => true
  | _ => false
def isFlat1 : PyData → Bool
  | .none => false
  | .tuple _ => false
  | _ => true
/-- what may be sorted -/
def sortOk (xs : List D) : Bool := match D.pys xs with
  | some ps => ps.all (fun x => ps.all fun y => W.alike x y) && ps.all (fun x => decide (x.depth ≤ 64)) &&
      (ps.all isTup1 || ps.all isFlat1)
  | none => false

def isSeq : D → Bool
  | .tup _ => true
  | .lst _ => true
  | .ref _ => true
  | _ => false
def isRp : D → Bool
  | .tup _ => true
  | .lst _ => true
  | .ref _ => true
  | .int _ => true
  | .bl _ => true
  | .non => true
  | _ => false
def biD (S : Sto) (b : Bi) (ds : List D) : Option D := match b, ds with
  | .len, [a] => match D.read S a with
    | .tup xs => some (.int xs.length)
    | .lst xs => some (.int xs.length)
    | _ => none
  | .tuple, [a] => match D.read S a with
    | .tup xs => some (.tup xs)
    | .lst xs => some (.tup xs)
    | _ => none
  | .list, [a] => match D.read S a with
    | .tup xs => some (.lst xs)
    | .lst xs => some (.lst xs)
    | _ => none
  | .sorted, [a] => match D.read S a with
    | .lst xs => if sortOk xs then some (.lst (sortD xs)) else none
    | .tup xs => if sortOk xs then some (.lst (sortD xs)) else none
    | _ => none
  | .int, [.int i] => some (.int i)
  | .int, [.bl b] => some (.int (if b then 1 else 0))
  | .repr, [a] => if isRp a then match (D.deep S a).py with
    | some p => if p.showable && lenOk p.shown.length && decide (p.depth ≤ 64) then some (.rep (D.deep S a)) else none
    | none => none
    else none
  | .min, [a, b] => match ltD S b a with
    | some true => match b with | .lst _ => none | b => some b
    | some false => match a with | .lst _ => none | a => some a
    | none => none
  | .max, [a, b] => match ltD S a b with
    | some true => match b with | .lst _ => none | b => some b
    | some false => match a with | .lst _ => none | a => some a
    | none => none
  | _, _ => none

def findD (p : PyData) : List PyData → Nat → Option Nat
  | [], _ => none
  | x :: r, j => if PyData.eqv x p then some j else findD p r (j + 1)

def appD (o : D) (ds : List D) (S : Sto) : R3 D := match o, ds with
  | .ref n, [d] => match S[n]? with
    | some (.lst xs) => if xs.length < sizeLine then .ok .non (S.set n (.lst (xs ++ [d]))) else .stuck
    | _ => .stuck
  | _, _ => .stuck
def idxD (o : D) (ds : List D) (S : Sto) : R3 D := match ds with
  | [d] => match (D.deep S o).py, (D.deep S d).py with
    | some (.list ps), some p => if SeqAt.shaped (.list ps) && SeqAt.shaped p then (match findD p ps 0 with | some j => .ok (.int (j : Nat)) S | none => .stuck) else .stuck
    | _, _ => .stuck
  | _ => .stuck
def meD (m : Me) (o : D) (ds : List D) (S : Sto) : R3 D := match m with
  | .append => appD o ds S
  | .index => idxD o ds S
  | _ => .stuck

/-- a new list, changed later (in the store) or never -/
def mkD (mu : Bool) (xs : List D) (S : Sto) : D × Sto := if mu then (.ref S.length, S ++ [.lst xs]) else (.lst xs, S)
def mkR (mu : Bool) (d : D) (S : Sto) : R3 D := match mu, d with
  | true, .lst xs => .ok (.ref S.length) (S ++ [.lst xs])
  | _, d => .ok d S

def putD (kvs : List (Key × D)) (k : Key) (d : D) : List (Key × D) := if kvs.any fun kv => decide (kv.1 = k) then kvs.map fun kv => if kv.1 = k then (kv.1, d) else kv else kvs ++ [(k, d)]
/-- += and -= of numbers -/
def augD : BOp → D → D → Option D
  | .add, .int a, .int b => some (.int (a + b))
  | .sub, .int a, .int b => some (.int (a - b))
  | _, _, _ => none
def setD (o i d : D) (S : Sto) : Option Sto := match o with
  | .ref n => match S[n]?, i with
    | some (.lst xs), .int k => match ixN xs.length k with
      | some j => some (S.set n (.lst (xs.set j d)))
      | none => none
    | some (.dk kvs), .str s => if kvs.length < sizeLine then some (S.set n (.dk (putD kvs (Sum.inr s) d))) else none
    | some (.dk kvs), .int k => if kvs.length < sizeLine then some (S.set n (.dk (putD kvs (Sum.inl k) d))) else none
    | _, _ => none
  | _ => none

/-! ### what is walked -/
inductive Src | vals (xs : List D) | cell (n : Nat)
inductive IT | one (s : Src) | enum (s : Src) | zip (a b : Src) | rng (lo st : Int) (n : Nat)
def Src.at (S : Sto) : Src → Nat → Option (Option D)
  | .vals xs, i => some xs[i]?
  | .cell n, i => match S[n]? with
    | some (.lst xs) => some xs[i]?
    | some (.fz xs) => some xs[i]?
    | _ => none
def IT.at (S : Sto) : IT → Nat → Option (Option D)
  | .one s, i => s.at S i
  | .enum s, i => match s.at S i with
    | some (some d) => some (some (.tup [.int i, d]))
    | some none => some none
    | none => none
  | .zip a b, i => match a.at S i, b.at S i with
    | some (some x), some (some y) => some (some (.tup [x, y]))
    | some _, some _ => some none
    | _, _ => none
  | .rng lo st n, i => some (if i < n then some (.int (lo + i * st)) else none)
def srcD (S : Sto) : D → Option Src
  | .tup xs => some (.vals xs)
  | .lst xs => some (.vals xs)
  | .ref n => match S[n]? with
    | some (.lst _) => some (.cell n)
    | some (.fz _) => some (.cell n)
    | _ => none
  | _ => none
def isTupD : D → Bool
  | .tup _ => true
  | _ => false
def zipD (S : Sto) (x y : D) : Option IT := if isTupD x == isTupD y then match srcD S x, srcD S y with
  | some s, some t => some (.zip s t)
  | _, _ => none else none
def flatD : D → Option (List D)
  | .tup xs => some xs
  | .lst xs => some xs
  | _ => none
def small (i : Int) : Bool := decide (-(2 ^ 62) ≤ i ∧ i < 2 ^ 62)
def rngD : List D → Option IT
  | [.int n] => if small n then some (.rng 0 1 n.toNat) else none
  | [.int a, .int b] => if small a && small b then some (.rng a 1 (b - a).toNat) else none
  | [.int a, .int b, .int c] => if small a && small b && decide (c = -1) then some (.rng a (-1) (a - b).toNat) else none
  | _ => none

/-- the ends of a range that is made a list of -/
def rgB : List D → Option (Int × Int)
  | [.int b] => some (0, b)
  | [.int a, .int b] => some (a, b)
  | _ => none
def rgOk (a b : Int) : Bool := decide (-(2 ^ 62) ≤ a ∧ a < 2 ^ 62 ∧ -(2 ^ 62) ≤ b ∧ b < 2 ^ 62 ∧ (b - a).toNat ≤ 2 ^ 24)
def rgD (a b : Int) : List D := (List.range (b - a).toNat).map fun i => .int (a + (i : Nat))
def isLst : D → Bool
  | .lst _ => true
  | _ => false

/-! ### targets -/
mutual
def asgT (S : Sto) : CT → D → Loc → Option Loc
  | .nm i, d, l => some (l.set i (some d))
  | .tp ts, d, l => match D.read S d with
    | .tup ds => asgTs S ts ds l
    | .lst ds => asgTs S ts ds l
    | _ => none
def asgTs (S : Sto) : List CT → List D → Loc → Option Loc
  | [], [], l => some l
  | t :: ts, d :: ds, l => match asgT S t d l with
    | some l1 => asgTs S ts ds l1
    | none => none
  | _, _, _ => none
end

def wipeL (l : Loc) : List Nat → Loc
  | [] => l
  | v :: vs => (wipeL l vs).set v none

/-! ### expressions -/
section
variable (F : Nat → List D → Sto → R3 D)

def evL (ev : CE → Loc → Sto → R3 D) : List CE → Loc → Sto → R3 (List D)
  | [], _, S => .ok [] S
  | e :: es, l, S => (ev e l S).bind fun d S1 => (evL ev es l S1).bind fun ds S2 => .ok (d :: ds) S2
def evO (ev : CE → Loc → Sto → R3 D) : Option CE → Loc → Sto → R3 (Option Int)
  | none, _, S => .ok none S
  | some e, l, S => (ev e l S).bind fun d S1 => match d with
    | .int i => .ok (some i) S1
    | _ => .stuck
/-- the tests of a comprehension, one after another -/
def evIfs (ev : CE → Loc → Sto → R3 D) : List CE → Loc → Sto → R3 Bool
  | [], _, S => .ok true S
  | e :: es, l, S => (ev e l S).bind fun d S1 => match truth S1 d with
    | some true => evIfs ev es l S1
    | some false => .ok false S1
    | none => .stuck
def evI (ev : CE → Loc → Sto → R3 D) : CI → Loc → Sto → R3 IT
  | .of e, l, S => (ev e l S).bind fun d S1 => R3.of ((srcD S1 d).map .one) S1
  | .rng es, l, S => (evL ev es l S).bind fun ds S1 => R3.of (rngD ds) S1
  | .enum e, l, S => (ev e l S).bind fun d S1 => R3.of ((srcD S1 d).map .enum) S1
  | .zip a b, l, S => (ev a l S).bind fun x S1 => (ev b l S1).bind fun y S2 => R3.of (zipD S2 x y) S2
  | .revd e, l, S => (ev e l S).bind fun d S1 => R3.of ((flatD d).map fun xs => .one (.vals xs.reverse)) S1
/-- the turns of a comprehension; acc: what is made so far, the last one first -/
def evC (ev : CE → Loc → Sto → R3 D) (it : IT) (tg : CT) (ifs : List CE) (elt : CE) (l : Loc) : Nat → Nat → Sto → List D → R3 (List D)
  | 0, _, _, _ => .stuck
  | k + 1, i, S, acc => match it.at S i with
    | none => .stuck
    | some none => .ok acc.reverse S
    | some (some d) => match asgT S tg d l with
      | none => .stuck
      | some l1 => (evIfs ev ifs l1 S).bind fun b S1 =>
        if b then (ev elt l1 S1).bind fun y S2 => if acc.length < sizeLine then evC ev it tg ifs elt l k (i + 1) S2 (y :: acc) else .stuck
        else evC ev it tg ifs elt l k (i + 1) S1 acc
def turns : Nat := 1000000

/-- any, all: the first item that decides -/
def evQ (ev : CE → Loc → Sto → R3 D) (w : Bool) (it : IT) (tg : CT) (ifs : List CE) (elt : CE) (l : Loc) : Nat → Nat → Sto → R3 Bool
  | 0, _, _ => .stuck
  | k + 1, i, S => match it.at S i with
    | none => .stuck
    | some none => .ok (!w) S
    | some (some d) => match asgT S tg d l with
      | none => .stuck
      | some l1 => (evIfs ev ifs l1 S).bind fun b S1 =>
        if b then (ev elt l1 S1).bind fun y S2 => match truth S2 y with
          | some c => if c == w then .ok w S2 else evQ ev w it tg ifs elt l k (i + 1) S2
          | none => .stuck
        else evQ ev w it tg ifs elt l k (i + 1) S1

def evE : Nat → CE → Loc → Sto → R3 D
  | 0, _, _, _ => .stuck
  | n + 1, c, l, S => match c with
    | .v i => match l[i]? with
      | some (some d) => .ok d S
      | _ => .stuck
    | .k d => .ok d S
    | .g f => .ok (.fn f) S
    | .tup es => (evL (evE n) es l S).bind fun ds S1 => if lenOk ds.length then .ok (.tup ds) S1 else .stuck
    | .lst mu es => (evL (evE n) es l S).bind fun ds S1 => if lenOk ds.length then mkR mu (.lst ds) S1 else .stuck
    | .dct ks es => (evL (evE n) es l S).bind fun ds S1 => if decide (ks.length = ds.length) && decide ks.Nodup && lenOk ks.length then .ok (.ref S1.length) (S1 ++ [.dk (ks.zip ds)]) else .stuck
    | .bin o a b => (evE n a l S).bind fun x S1 => (evE n b l S1).bind fun y S2 => R3.of (binD S2 o x y) S2
    | .cat a b => (evE n a l S).bind fun x S1 => (evE n b l S1).bind fun y S2 => match binD S2 .add x y with
      | some (.lst xs) => mkR true (.lst xs) S2
      | _ => .stuck
    | .neg a => (evE n a l S).bind fun x S1 => match x with
      | .int i => .ok (.int (-i)) S1
      | _ => .stuck
    | .cmp o a b => (evE n a l S).bind fun x S1 => (evE n b l S1).bind fun y S2 => R3.of ((cmpD S2 o x y).map .bl) S2
    | .chain o p a b c => (evE n a l S).bind fun x S1 => (evE n b l S1).bind fun y S2 => match cmpD S2 o x y with
      | some true => (evE n c l S2).bind fun z S3 => R3.of ((cmpD S3 p y z).map .bl) S3
      | some false => .ok (.bl false) S2
      | none => .stuck
    | .and a b => (evE n a l S).bind fun x S1 => match truth S1 x with
      | some true => evE n b l S1
      | some false => .ok x S1
      | none => .stuck
    | .or a b => (evE n a l S).bind fun x S1 => match truth S1 x with
      | some true => .ok x S1
      | some false => evE n b l S1
      | none => .stuck
    | .not a => (evE n a l S).bind fun x S1 => match truth S1 x with
      | some b => .ok (.bl (!b)) S1
      | none => .stuck
    | .ife c a b => (evE n c l S).bind fun x S1 => match truth S1 x with
      | some true => evE n a l S1
      | some false => evE n b l S1
      | none => .stuck
    | .ix a b => (evE n a l S).bind fun x S1 => (evE n b l S1).bind fun y S2 => R3.of (ixD S2 x y) S2
    | .sl a lo hi => (evE n a l S).bind fun x S1 => (evO (evE n) lo l S1).bind fun p S2 => (evO (evE n) hi l S2).bind fun q S3 => R3.of (slD S3 x p q) S3
    | .rev a => (evE n a l S).bind fun x S1 => R3.of (revD S1 x) S1
    | .call f es => (evL (evE n) es l S).bind fun ds S1 => F f ds S1
    | .callk f es ks => (evL (evE n) es l S).bind fun ds S1 => if ks.length = ds.length then F f (ks.map fun i => ds.getD i .non) S1 else .stuck
    | .callv i es => match l[i]? with
      | some (some (.fn f)) => (evL (evE n) es l S).bind fun ds S1 => F f ds S1
      | _ => .stuck
    | .bi mu b es => (evL (evE n) es l S).bind fun ds S1 => match biD S1 b ds with
      | some d => mkR mu d S1
      | none => .stuck
    | .tr t mu es => (evL (evE n) es l S).bind fun ds S1 => match rgB ds with
      | some (a, b) => if rgOk a b then (if t then .ok (.tup (rgD a b)) S1 else mkR mu (.lst (rgD a b)) S1) else .stuck
      | none => .stuck
    | .me m o es => (evE n o l S).bind fun x S1 => if isLst (D.read S1 x) then (evL (evE n) es l S1).bind fun ds S2 => meD m x ds S2 else .stuck
    | .lc mu own tg it ifs elt => (evI (evE n) it l S).bind fun J S1 => (evC (evE n) J tg ifs elt (wipeL l own) turns 0 S1 []).bind fun xs S2 => mkR mu (.lst xs) S2
    | .gn mu b own tg it ifs elt => (evI (evE n) it l S).bind fun J S1 => match b with
      | .any => (evQ (evE n) true J tg ifs elt (wipeL l own) turns 0 S1).bind fun c S2 => .ok (.bl c) S2
      | .all => (evQ (evE n) false J tg ifs elt (wipeL l own) turns 0 S1).bind fun c S2 => .ok (.bl c) S2
      | b => (evC (evE n) J tg ifs elt (wipeL l own) turns 0 S1 []).bind fun xs S2 => match biD S2 b [.lst xs] with
        | some d => mkR mu d S2
        | none => .stuck
end

/-! ### statements -/
inductive Out | nx (l : Loc) (S : Sto) | rt (d : D) (S : Sto) | bk (l : Loc) (S : Sto) | ct (l : Loc) (S : Sto) | exc (c : Nat) (ds : List D) (S : Sto) | stuck
def R3.out {α : Type} (x : R3 α) (f : α → Sto → Out) : Out := match x with
  | .ok a S => f a S
  | .exc c ds S => .exc c ds S
  | .stuck => .stuck
def Out.seq (x : Out) (f : Loc → Sto → Out) : Out := match x with
  | .nx l S => f l S
  | o => o
def exSs (ex : CS → Loc → Sto → Out) : List CS → Loc → Sto → Out
  | [], l, S => .nx l S
  | s :: r, l, S => (ex s l S).seq fun l1 S1 => exSs ex r l1 S1
def forL (it : IT) (tg : CT) (body : Loc → Sto → Out) : Nat → Nat → Loc → Sto → Out
  | 0, _, _, _ => .stuck
  | k + 1, i, l, S => match it.at S i with
    | none => .stuck
    | some none => .nx l S
    | some (some d) => match asgT S tg d l with
      | none => .stuck
      | some l1 => match body l1 S with
        | .nx l2 S2 => forL it tg body k (i + 1) l2 S2
        | .ct l2 S2 => forL it tg body k (i + 1) l2 S2
        | .bk l2 S2 => .nx l2 S2
        | o => o
def whlL (test : Loc → Sto → R3 D) (body : Loc → Sto → Out) : Nat → Loc → Sto → Out
  | 0, _, _ => .stuck
  | k + 1, l, S => (test l S).out fun d S1 => match truth S1 d with
    | some true => match body l S1 with
      | .nx l2 S2 => whlL test body k l2 S2
      | .ct l2 S2 => whlL test body k l2 S2
      | .bk l2 S2 => .nx l2 S2
      | o => o
    | some false => .nx l S1
    | none => .stuck
section
variable (ev : CE → Loc → Sto → R3 D)
def parL : List Nat → List D → Loc → Loc
  | i :: is, d :: ds, l => parL is ds (l.set i (some d))
  | _, _, l => l
def exS : Nat → CS → Loc → Sto → Out
  | 0, _, _, _ => .stuck
  | n + 1, c, l, S => match c with
    | .asg t e => (ev e l S).out fun d S1 => match asgT S1 t d l with
      | some l1 => .nx l1 S1
      | none => .stuck
    | .par is es => (evL ev es l S).out fun ds S1 => if is.length = ds.length then .nx (parL is ds l) S1 else .stuck
    | .aug i o e => match l[i]? with
      | some (some x) => (ev e l S).out fun y S1 => match augD o x y with
        | some z => .nx (l.set i (some z)) S1
        | none => .stuck
      | _ => .stuck
    | .set o i e => (ev e l S).out fun d S1 => (ev o l S1).out fun x S2 => (ev i l S2).out fun y S3 => match setD x y d S3 with
      | some S4 => .nx l S4
      | none => .stuck
    | .augs o i b e => (ev o l S).out fun x S1 => (ev i l S1).out fun y S2 => match ixD S2 x y with
      | some old => (ev e l S2).out fun z S3 => match augD b old z with
        | some new => match setD x y new S3 with
          | some S4 => .nx l S4
          | none => .stuck
        | none => .stuck
      | none => .stuck
    | .ret none => .rt .non S
    | .ret (some e) => (ev e l S).out fun d S1 => .rt d S1
    | .ex e => (ev e l S).out fun _ S1 => .nx l S1
    | .iff c a b => (ev c l S).out fun d S1 => match truth S1 d with
      | some true => exSs (exS n) a l S1
      | some false => exSs (exS n) b l S1
      | none => .stuck
    | .fors t it body => (evI ev it l S).out fun J S1 => forL J t (exSs (exS n) body) turns 0 l S1
    | .whl c body => whlL (ev c) (exSs (exS n) body) turns l S
    | .pass => .nx l S
    | .brk => .bk l S
    | .cont => .ct l S
    | .rse c es => (evL ev es l S).out fun ds S1 => .exc c ds S1
end

/-- a def of the text: how many parameters, how many names, its body -/
structure Fd where
  np : Nat
  nn : Nat
  body : List CS
def dep : Nat := 60
/-- a call, to a depth -/
def callF (tab : List Fd) : Nat → Nat → List D → Sto → R3 D
  | 0, _, _, _ => .stuck
  | n + 1, f, ds, S => match tab[f]? with
    | none => .stuck
    | some d => if ds.length = d.np then
        match exSs (exS (evE (callF tab n) dep) dep) d.body (ds.map some ++ List.replicate (d.nn - d.np) none) S with
        | .nx _ S1 => .ok .non S1
        | .rt v S1 => .ok v S1
        | .exc c es S1 => .exc c es S1
        | _ => .stuck
      else .stuck
end Ev
end
section
set_option linter.all false
/-! E2: how the evaluator's values stand in the abstract heap. -/
namespace Ev
open PySem L2

/-- where the defs stand; which objects nobody may know of -/
structure Fa where
  fn : Nat → Option Addr
  pv : Addr → Prop
  tb : Addr → Prop
/-- the table of a code object -/
def TabG (H : Hp) (P : Addr) : Prop := ∃ ps : Array Value, H P = some (.tbl ps) ∧ TriplesOk ps.toList
def Oth (fa : Fa) (rho : List Addr) (a : Addr) : Prop := a ∉ rho ∧ ¬ fa.pv a
section
variable (fa : Fa)
mutual
/-- the value d of the evaluator is the value v over the abstract heap; rho: where the store's cells lie -/
inductive R (rho : List Addr) (H : Hp) : D → V → Prop
  | non : R rho H .non .non
  | bl (b : Bool) : R rho H (.bl b) (.bl b)
  | int (i : Int) : R rho H (.int i) (.int i)
  | str (s : Str) : R rho H (.str s) (.str s)
  | tup {a : Addr} {ds : List D} {vs : List V} : Oth fa rho a → H a = some (.tup vs) → RL rho H ds vs → R rho H (.tup ds) (.ref a)
  | lst {a : Addr} {ds : List D} {vs : List V} : Oth fa rho a → H a = some (.lst vs) → RL rho H ds vs → R rho H (.lst ds) (.ref a)
  | ref {n : Nat} {a : Addr} : rho[n]? = some a → R rho H (.ref n) (.ref a)
  | fn {f : Nat} {a : Addr} : fa.fn f = some a → R rho H (.fn f) (.ref a)
  | rep {d : D} {p : PyData} : d.py = some p → R rho H (.rep d) (.str p.shown)
inductive RL (rho : List Addr) (H : Hp) : List D → List V → Prop
  | nil : RL rho H [] []
  | cons {d : D} {v : V} {ds : List D} {vs : List V} : R rho H d v → RL rho H ds vs → RL rho H (d :: ds) (v :: vs)
end

def CellR (rho : List Addr) (H : Hp) (a : Addr) : Cell → Prop
  | .lst xs => ∃ vs, H a = some (.lst vs) ∧ RL fa rho H xs vs
  | .fz xs => ∃ o vs, H a = some (.frz o (.lst vs)) ∧ RL fa rho H xs vs
  | .dk kvs => ∃ ws : List (Key × V), H a = some (.dK ws) ∧ ws.map (·.1) = kvs.map (·.1) ∧ RL fa rho H (kvs.map (·.2)) (ws.map (·.2))
structure SR (rho : List Addr) (H : Hp) (S : Sto) : Prop where
  len : rho.length = S.length
  nd : rho.Nodup
  cell : ∀ (n : Nat) (c : Cell), S[n]? = some c → ∃ a, rho[n]? = some a ∧ CellR fa rho H a c
  pv : ∀ a, fa.pv a → a ∉ rho ∧ H a ≠ none ∧ ¬ fa.tb a
  tb : ∀ P, fa.tb P → TabG H P
end

/-- what a run may do to the heap: new cells, changed cells; all else stays -/
structure Ext (rho : List Addr) (H : Hp) (rho' : List Addr) (H' : Hp) : Prop where
  pre : ∃ t, rho' = rho ++ t ∧ ∀ a ∈ t, H a = none
  keep' : ∀ b o, b ∉ rho → H b = some o → ∃ o', H' b = some o' ∧ (o' = o ∨ ∃ q q', o = .tbl q ∧ o' = .tbl q')
theorem Ext.of {rho : List Addr} {H : Hp} {rho' : List Addr} {H' : Hp} (pre : ∃ t, rho' = rho ++ t ∧ ∀ a ∈ t, H a = none) (k : ∀ b o, b ∉ rho → H b = some o → H' b = some o) : Ext rho H rho' H' :=
  ⟨pre, fun b o h e => ⟨o, k b o h e, .inl rfl⟩⟩
theorem Ext.keep {rho : List Addr} {H : Hp} {rho' : List Addr} {H' : Hp} (e : Ext rho H rho' H') (b : Addr) (o : HO) (h : b ∉ rho) (q : H b = some o) (hn : ∀ q, o ≠ .tbl q := by intro _ z; cases z) : H' b = some o := by
  obtain ⟨o', e1, e2⟩ := e.keep' b o h q
  rcases e2 with z | ⟨t, t', z, _⟩
  · rw [z] at e1; exact e1
  · exact absurd z (hn t)
theorem Ext.alive {rho : List Addr} {H : Hp} {rho' : List Addr} {H' : Hp} (e : Ext rho H rho' H') {b : Addr} {o : HO} (h : b ∉ rho) (q : H b = some o) : H' b ≠ none := by
  obtain ⟨o', e1, _⟩ := e.keep' b o h q
  rw [e1]; simp

section
variable {fa : Fa} {rho rho' rho1 rho2 : List Addr} {H H' H1 H2 : Hp} {S S' S1 : Sto}

theorem CellR.isSome {a : Addr} {c : Cell} (h : CellR fa rho H a c) : H a ≠ none := by
  cases c with
  | lst xs => obtain ⟨vs, e, _⟩ := h; rw [e]; simp
  | fz xs => obtain ⟨o, vs, e, _⟩ := h; rw [e]; simp
  | dk kvs => obtain ⟨ws, e, _⟩ := h; rw [e]; simp
theorem CellR.notup {a : Addr} {c : Cell} (h : CellR fa rho H a c) (xs : List V) : H a ≠ Option.some (.tup xs) := by
  cases c with
  | lst xs => obtain ⟨vs, e, _⟩ := h; rw [e]; simp
  | fz xs => obtain ⟨o, vs, e, _⟩ := h; rw [e]; simp
  | dk kvs => obtain ⟨ws, e, _⟩ := h; rw [e]; simp
theorem SR.live (s : SR fa rho H S) : ∀ b ∈ rho, H b ≠ none := fun b hb => by
  obtain ⟨n, hn, e⟩ := List.mem_iff_getElem.mp hb
  have hn' : n < S.length := by rw [← s.len]; exact hn
  obtain ⟨a, ea, c⟩ := s.cell n S[n] (List.getElem?_eq_getElem hn')
  rw [List.getElem?_eq_getElem hn] at ea
  have : b = a := e.symm.trans (Option.some.inj ea)
  rw [this]; exact c.isSome
theorem CellR.notbl {a : Addr} {c : Cell} (h : CellR fa rho H a c) (xs : Array Value) : H a ≠ Option.some (.tbl xs) := by
  cases c with
  | lst xs => obtain ⟨vs, e, _⟩ := h; rw [e]; simp
  | fz xs => obtain ⟨o, vs, e, _⟩ := h; rw [e]; simp
  | dk kvs => obtain ⟨ws, e, _⟩ := h; rw [e]; simp
theorem SR.tb_out (s : SR fa rho H S) {b P : Addr} (hb : b ∈ rho) (t : fa.tb P) : P ≠ b := fun z => by
  obtain ⟨n, hn, e⟩ := List.mem_iff_getElem.mp hb
  have hn' : n < S.length := by rw [← s.len]; exact hn
  obtain ⟨a, ea, c⟩ := s.cell n S[n] (List.getElem?_eq_getElem hn')
  rw [List.getElem?_eq_getElem hn] at ea
  have e2 : b = a := e.symm.trans (Option.some.inj ea)
  obtain ⟨ps, e3, _⟩ := s.tb P t
  rw [z, e2] at e3
  exact c.notbl ps e3
theorem SR.fresh (s : SR fa rho H S) {p : Addr} (h : H p = none) : p ∉ rho := fun hp => s.live p hp h
theorem SR.out (s : SR fa rho H S) {p : Addr} (h : H p = none) : Oth fa rho p := ⟨s.fresh h, fun hp => (s.pv p hp).2.1 h⟩
theorem SR.tb_ne (s : SR fa rho H S) {p P : Addr} (h : H p = none) (t : fa.tb P) : P ≠ p := fun z => by
  obtain ⟨ps, e, _⟩ := s.tb P t
  rw [z, h] at e; cases e
theorem TabG.upd {P p : Addr} {o : HO} (t : TabG H P) (h : P ≠ p) : TabG (upd H p o) P := by
  obtain ⟨ps, e, r⟩ := t
  exact ⟨ps, by rw [upd_ne h]; exact e, r⟩
theorem SR.at_mem (s : SR fa rho H S) {n : Nat} {a : Addr} (h : rho[n]? = some a) : a ∈ rho := List.mem_of_getElem? h

theorem Ext.refl : Ext rho H rho H := .of ⟨[], by simp, by simp⟩ fun _ _ _ e => e
theorem Ext.mem (e : Ext rho H rho' H') {b : Addr} (h : b ∈ rho) : b ∈ rho' := by
  obtain ⟨t, rfl, _⟩ := e.pre
  exact List.mem_append_left _ h
theorem Ext.nmem (e : Ext rho H rho' H') {b : Addr} {o : HO} (h : b ∉ rho) (q : H b = some o) : b ∉ rho' := by
  obtain ⟨t, rfl, ht⟩ := e.pre
  intro hb
  rcases List.mem_append.mp hb with z | z
  · exact h z
  · rw [ht b z] at q; cases q
theorem Ext.at (e : Ext rho H rho' H') {n : Nat} {a : Addr} (h : rho[n]? = some a) : rho'[n]? = some a := by
  obtain ⟨t, rfl, _⟩ := e.pre
  rw [List.getElem?_append_left (List.getElem?_eq_some_iff.mp h).1]
  exact h
theorem Ext.trans (e1 : Ext rho H rho1 H1) (s1 : SR fa rho1 H1 S1) (e2 : Ext rho1 H1 rho2 H2) : Ext rho H rho2 H2 := by
  refine ⟨?_, fun b o hb q => ?_⟩
  case refine_2 =>
    obtain ⟨o1, q1, z1⟩ := e1.keep' b o hb q
    obtain ⟨o2, q2, z2⟩ := e2.keep' b o1 (e1.nmem hb q) q1
    refine ⟨o2, q2, ?_⟩
    rcases z1 with rfl | ⟨t, t', rfl, rfl⟩
    · exact z2
    · rcases z2 with rfl | ⟨u, u', _, rfl⟩
      · exact .inr ⟨t, t', rfl, rfl⟩
      · exact .inr ⟨t, u', rfl, rfl⟩
  obtain ⟨t1, r1, h1⟩ := e1.pre
  obtain ⟨t2, r2, h2⟩ := e2.pre
  refine ⟨t1 ++ t2, by rw [r2, r1, List.append_assoc], fun a ha => ?_⟩
  rcases List.mem_append.mp ha with z | z
  · exact h1 a z
  · cases q : H a with
    | none => rfl
    | some o =>
      by_cases hr : a ∈ rho
      · exact absurd (h2 a z) (s1.live a (e1.mem hr))
      · exact absurd (h2 a z) (e1.alive hr q)

mutual
theorem R.mono (e : Ext rho H rho' H') : ∀ {d : D} {v : V}, R fa rho H d v → R fa rho' H' d v
  | _, _, .non => .non
  | _, _, .bl b => .bl b
  | _, _, .int i => .int i
  | _, _, .str s => .str s
  | _, _, .tup h1 h2 h3 => .tup ⟨e.nmem h1.1 h2, h1.2⟩ (e.keep _ _ h1.1 h2) (RL.mono e h3)
  | _, _, .lst h1 h2 h3 => .lst ⟨e.nmem h1.1 h2, h1.2⟩ (e.keep _ _ h1.1 h2) (RL.mono e h3)
  | _, _, .ref h => .ref (e.at h)
  | _, _, .fn h => .fn h
  | _, _, .rep h => .rep h
theorem RL.mono (e : Ext rho H rho' H') : ∀ {ds : List D} {vs : List V}, RL fa rho H ds vs → RL fa rho' H' ds vs
  | _, _, .nil => .nil
  | _, _, .cons h1 h2 => .cons (R.mono e h1) (RL.mono e h2)
end

theorem RL.length : ∀ {ds : List D} {vs : List V}, RL fa rho H ds vs → ds.length = vs.length
  | _, _, .nil => rfl
  | _, _, .cons _ h => by rw [List.length_cons, List.length_cons, RL.length h]
theorem RL.get : ∀ {ds : List D} {vs : List V}, RL fa rho H ds vs → ∀ {i : Nat} {d : D}, ds[i]? = some d → ∃ v, vs[i]? = some v ∧ R fa rho H d v
  | _, _, .nil, i, d, h => by simp at h
  | _, _, .cons h1 h2, 0, d, h => by simp at h; subst h; exact ⟨_, rfl, h1⟩
  | _, _, .cons h1 h2, i + 1, d, h => by
    obtain ⟨v, e, r⟩ := RL.get h2 (i := i) (d := d) (by simpa using h)
    exact ⟨v, by simpa using e, r⟩
theorem RL.getV : ∀ {ds : List D} {vs : List V}, RL fa rho H ds vs → ∀ {i : Nat} {v : V}, vs[i]? = some v → ∃ d, ds[i]? = some d ∧ R fa rho H d v
  | _, _, .nil, i, d, h => by simp at h
  | _, _, .cons h1 h2, 0, d, h => by simp at h; subst h; exact ⟨_, rfl, h1⟩
  | _, _, .cons h1 h2, i + 1, d, h => by
    obtain ⟨v, e, r⟩ := RL.getV h2 (i := i) (v := d) (by simpa using h)
    exact ⟨v, by simpa using e, r⟩
theorem RL.append : ∀ {ds es : List D} {vs ws : List V}, RL fa rho H ds vs → RL fa rho H es ws → RL fa rho H (ds ++ es) (vs ++ ws)
  | _, _, _, _, .nil, h => h
  | _, _, _, _, .cons h1 h2, h => .cons h1 (RL.append h2 h)
theorem RL.take : ∀ {ds : List D} {vs : List V} (n : Nat), RL fa rho H ds vs → RL fa rho H (ds.take n) (vs.take n)
  | _, _, 0, _ => by simpa using .nil
  | _, _, _ + 1, .nil => .nil
  | _, _, n + 1, .cons h1 h2 => .cons h1 (RL.take n h2)
theorem RL.drop : ∀ {ds : List D} {vs : List V} (n : Nat), RL fa rho H ds vs → RL fa rho H (ds.drop n) (vs.drop n)
  | _, _, 0, h => h
  | _, _, _ + 1, .nil => .nil
  | _, _, n + 1, .cons h1 h2 => RL.drop n h2
theorem RL.reverse : ∀ {ds : List D} {vs : List V}, RL fa rho H ds vs → RL fa rho H ds.reverse vs.reverse
  | _, _, .nil => .nil
  | _, _, .cons h1 h2 => by
    rw [List.reverse_cons, List.reverse_cons]
    exact RL.append (RL.reverse h2) (.cons h1 .nil)
theorem RL.set {d : D} {v : V} (r : R fa rho H d v) : ∀ {ds : List D} {vs : List V} (i : Nat), RL fa rho H ds vs → RL fa rho H (ds.set i d) (vs.set i v)
  | _, _, _, .nil => .nil
  | _, _, 0, .cons h1 h2 => .cons r h2
  | _, _, i + 1, .cons h1 h2 => .cons h1 (RL.set r i h2)
theorem RL.cutV {ds : List D} {vs : List V} (h : RL fa rho H ds vs) (lo hi : Option Int) : RL fa rho H (cut ds lo hi) (L2.cutV vs lo hi) := by
  unfold cut L2.cutV
  rw [h.length]
  exact (h.drop _).take _
theorem RL.nil_iff {ds : List D} {vs : List V} (h : RL fa rho H ds vs) : ds = [] ↔ vs = [] := by
  cases h <;> simp
theorem RL.isEmpty {ds : List D} {vs : List V} (h : RL fa rho H ds vs) : ds.isEmpty = vs.isEmpty := by
  cases h <;> rfl

theorem CellR.mono {a : Addr} {c : Cell} (e : Ext rho H rho' H') (h : CellR fa rho H a c) (q : H' a = H a) : CellR fa rho' H' a c := by
  cases c with
  | lst xs => obtain ⟨vs, e1, r⟩ := h; exact ⟨vs, by rw [q]; exact e1, r.mono e⟩
  | fz xs => obtain ⟨o, vs, e1, r⟩ := h; exact ⟨o, vs, by rw [q]; exact e1, r.mono e⟩
  | dk kvs => obtain ⟨ws, e1, e2, r⟩ := h; exact ⟨ws, by rw [q]; exact e1, e2, r.mono e⟩

/-! ### objects that nobody may know of -/
/-- fa' hides what fa hides, or what is not there yet -/
def Fa.Up (fa : Fa) (H0 : Hp) (fa' : Fa) : Prop := (fa'.fn = fa.fn ∧ fa'.tb = fa.tb) ∧ ∀ a, fa'.pv a → fa.pv a ∨ H0 a = none
mutual
theorem R.lift {fa' : Fa} (u : fa.Up H fa') : ∀ {d : D} {v : V}, R fa rho H d v → R fa' rho H d v
  | _, _, .non => .non
  | _, _, .bl b => .bl b
  | _, _, .int i => .int i
  | _, _, .str s => .str s
  | _, _, .tup h1 h2 h3 => .tup ⟨h1.1, fun z => by rcases u.2 _ z with y | y; exact h1.2 y; rw [y] at h2; cases h2⟩ h2 (RL.lift u h3)
  | _, _, .lst h1 h2 h3 => .lst ⟨h1.1, fun z => by rcases u.2 _ z with y | y; exact h1.2 y; rw [y] at h2; cases h2⟩ h2 (RL.lift u h3)
  | _, _, .ref h => .ref h
  | _, _, .fn h => .fn (by rw [u.1.1]; exact h)
  | _, _, .rep h => .rep h
theorem RL.lift {fa' : Fa} (u : fa.Up H fa') : ∀ {ds : List D} {vs : List V}, RL fa rho H ds vs → RL fa' rho H ds vs
  | _, _, .nil => .nil
  | _, _, .cons h1 h2 => .cons (R.lift u h1) (RL.lift u h2)
end
theorem CellR.lift {fa' : Fa} (u : fa.Up H fa') {a : Addr} {c : Cell} (h : CellR fa rho H a c) : CellR fa' rho H a c := by
  cases c with
  | lst xs => obtain ⟨vs, e1, r⟩ := h; exact ⟨vs, e1, r.lift u⟩
  | fz xs => obtain ⟨o, vs, e1, r⟩ := h; exact ⟨o, vs, e1, r.lift u⟩
  | dk kvs => obtain ⟨ws, e1, e2, r⟩ := h; exact ⟨ws, e1, e2, r.lift u⟩
/-- less is hidden -/
theorem SR.weak {fa' : Fa} (s : SR fa rho H S) (e : fa'.fn = fa.fn ∧ fa'.tb = fa.tb) (h : ∀ a, fa'.pv a → fa.pv a) : SR fa' rho H S :=
  ⟨s.len, s.nd, fun n c q => let ⟨a, ea, r⟩ := s.cell n c q; ⟨a, ea, r.lift ⟨e, fun a z => .inl (h a z)⟩⟩, fun a z => by rw [e.2]; exact s.pv a (h a z), fun P z => s.tb P (by rw [← e.2]; exact z)⟩
def Fa.and (fa : Fa) (p : Addr) : Fa := { fn := fa.fn, pv := fun a => fa.pv a ∨ a = p, tb := fa.tb }
theorem Fa.and_up {p : Addr} (h : H p = none) : fa.Up H (fa.and p) := ⟨⟨rfl, rfl⟩, fun a z => by rcases z with z | z; exact .inl z; rw [z]; exact .inr h⟩
theorem Ext.up {fa' : Fa} (e : Ext rho H rho' H') (s : SR fa rho' H' S') (u : fa.Up H' fa') : fa.Up H fa' := ⟨u.1, fun a z => by
  rcases u.2 a z with y | y
  · exact .inl y
  · refine .inr ?_
    cases q : H a with
    | none => rfl
    | some o =>
      by_cases hr : a ∈ rho
      · exact absurd y (s.live a (e.mem hr))
      · exact absurd y (e.alive hr q)⟩

/-! ### new objects -/
theorem Ext.new {p : Addr} {o : HO} (h : H p = none) : Ext rho H rho (upd H p o) :=
  .of ⟨[], by simp, by simp⟩ fun b u _ e => by rw [upd_ne (fun z => by rw [z, h] at e; cases e)]; exact e
theorem SR.new {p : Addr} {o : HO} (s : SR fa rho H S) (h : H p = none) : SR fa rho (upd H p o) S := by
  refine ⟨s.len, s.nd, fun n c e => ?_, fun a ha => ⟨(s.pv a ha).1, fun z => ?_, (s.pv a ha).2.2⟩, fun P t => (s.tb P t).upd (s.tb_ne h t)⟩
  case refine_2 =>
    by_cases hp : a = p
    · subst hp; exact (s.pv a ha).2.1 h
    · rw [upd_ne hp] at z; exact (s.pv a ha).2.1 z
  obtain ⟨a, ea, r⟩ := s.cell n c e
  refine ⟨a, ea, r.mono (Ext.new h) (upd_ne fun z => ?_)⟩
  subst z
  exact r.isSome h
/-- a new tuple -/
theorem R.newTup {p : Addr} {ds : List D} {vs : List V} (s : SR fa rho H S) (h : H p = none) (r : RL fa rho H ds vs) : R fa rho (upd H p (.tup vs)) (.tup ds) (.ref p) :=
  .tup (s.out h) upd_same (r.mono (Ext.new h))
theorem R.newLst {p : Addr} {ds : List D} {vs : List V} (s : SR fa rho H S) (h : H p = none) (r : RL fa rho H ds vs) : R fa rho (upd H p (.lst vs)) (.lst ds) (.ref p) :=
  .lst (s.out h) upd_same (r.mono (Ext.new h))
/-- a new cell -/
theorem Ext.cell {p : Addr} {o : HO} (h : H p = none) : Ext rho H (rho ++ [p]) (upd H p o) :=
  .of ⟨[p], rfl, fun a ha => by rw [List.mem_singleton.mp ha]; exact h⟩ fun b u _ e => by rw [upd_ne (fun z => by rw [z, h] at e; cases e)]; exact e
theorem SR.addCell {p : Addr} {o : HO} {c : Cell} (s : SR fa rho H S) (h : H p = none) (hc : CellR fa (rho ++ [p]) (upd H p o) p c) : SR fa (rho ++ [p]) (upd H p o) (S ++ [c]) := by
  refine ⟨by rw [List.length_append, List.length_append, s.len]; rfl, ?_, fun n c' e => ?_, fun a ha => ?_, fun P t => (s.tb P t).upd (s.tb_ne h t)⟩
  case refine_3 =>
    have hap : a ≠ p := fun z => by subst z; exact (s.pv a ha).2.1 h
    refine ⟨fun z => ?_, fun z => ?_, (s.pv a ha).2.2⟩
    · rcases List.mem_append.mp z with y | y
      · exact (s.pv a ha).1 y
      · exact hap (List.mem_singleton.mp y)
    · rw [upd_ne hap] at z; exact (s.pv a ha).2.1 z
  · rw [List.nodup_append]
    refine ⟨s.nd, by simp, fun a ha b hb => ?_⟩
    rw [List.mem_singleton.mp hb]
    intro z
    subst z
    exact s.live a ha h
  · by_cases hn : n < S.length
    · rw [List.getElem?_append_left hn] at e
      obtain ⟨a, ea, r⟩ := s.cell n c' e
      refine ⟨a, (Ext.cell (o := o) h).at ea, r.mono (Ext.cell h) (upd_ne fun z => ?_)⟩
      subst z
      exact r.isSome h
    · have hn' : n = S.length := by
        have := (List.getElem?_eq_some_iff.mp e).1
        rw [List.length_append, List.length_singleton] at this
        omega
      subst hn'
      rw [List.getElem?_append_right (Nat.le_refl _), Nat.sub_self] at e
      have e' : c = c' := by simpa using e
      subst e'
      refine ⟨p, ?_, hc⟩
      rw [← s.len, List.getElem?_append_right (Nat.le_refl _), Nat.sub_self]
      rfl
theorem SR.addLst {p : Addr} {ds : List D} {vs : List V} (s : SR fa rho H S) (h : H p = none) (r : RL fa rho H ds vs) : SR fa (rho ++ [p]) (upd H p (.lst vs)) (S ++ [.lst ds]) :=
  s.addCell h ⟨vs, upd_same, r.mono (Ext.cell h)⟩
theorem R.newRef {p : Addr} (s : SR fa rho H S) : R fa (rho ++ [p]) H' (.ref S.length) (.ref p) := .ref (by
  rw [← s.len, List.getElem?_append_right (Nat.le_refl _), Nat.sub_self]
  rfl)
/-- a cell is written -/
theorem Ext.put {n : Nat} {a : Addr} {o : HO} (h : rho[n]? = some a) : Ext rho H rho (upd H a o) :=
  .of ⟨[], by simp, by simp⟩ fun b u hb e => by rw [upd_ne (fun z => hb (by rw [z]; exact List.mem_of_getElem? h))]; exact e
theorem nodup_at {l : List Addr} (nd : l.Nodup) {i j : Nat} {a : Addr} (h1 : l[i]? = some a) (h2 : l[j]? = some a) : i = j := by
  obtain ⟨q1, e1⟩ := List.getElem?_eq_some_iff.mp h1
  obtain ⟨q2, e2⟩ := List.getElem?_eq_some_iff.mp h2
  exact (List.getElem_inj nd).mp (e1.trans e2.symm)
theorem SR.put {n : Nat} {a : Addr} {o : HO} {c : Cell} (s : SR fa rho H S) (h : rho[n]? = some a) (hc : CellR fa rho (upd H a o) a c) : SR fa rho (upd H a o) (S.set n c) := by
  refine ⟨by rw [List.length_set]; exact s.len, s.nd, fun m c' e => ?_, fun b hb => ⟨(s.pv b hb).1, fun z => ?_, (s.pv b hb).2.2⟩, fun P t => (s.tb P t).upd (s.tb_out (List.mem_of_getElem? h) t)⟩
  case refine_2 =>
    have hba : b ≠ a := fun z => (s.pv b hb).1 (by rw [z]; exact List.mem_of_getElem? h)
    rw [upd_ne hba] at z; exact (s.pv b hb).2.1 z
  by_cases hm : m = n
  · subst hm
    have hl : m < S.length := by rw [← s.len]; exact (List.getElem?_eq_some_iff.mp h).1
    rw [List.getElem?_set_self hl] at e
    cases e
    exact ⟨a, h, hc⟩
  · rw [List.getElem?_set_ne (Ne.symm hm)] at e
    obtain ⟨b, eb, r⟩ := s.cell m c' e
    refine ⟨b, eb, r.mono (Ext.put h) (upd_ne fun z => ?_)⟩
    subst z
    exact hm (nodup_at s.nd eb h)

/-! ### names -/
structure LR (fa : Fa) (rho : List Addr) (H : Hp) (l : Loc) (σ : St) : Prop where
  len : l.length = σ.length
  val : ∀ (i : Nat) (d : D), l[i]? = some (some d) → ∃ v, σ[i]? = some (some v) ∧ R fa rho H d v
theorem LR.mono {l : Loc} {σ : St} (e : Ext rho H rho' H') (h : LR fa rho H l σ) : LR fa rho' H' l σ :=
  ⟨h.len, fun i d q => let ⟨v, a, b⟩ := h.val i d q; ⟨v, a, b.mono e⟩⟩
theorem LR.lift {fa' : Fa} {l : Loc} {σ : St} (u : fa.Up H fa') (h : LR fa rho H l σ) : LR fa' rho H l σ :=
  ⟨h.len, fun i d q => let ⟨v, a, b⟩ := h.val i d q; ⟨v, a, b.lift u⟩⟩
theorem LR.set {l : Loc} {σ : St} {d : D} {v : V} (h : LR fa rho H l σ) (r : R fa rho H d v) (i : Nat) : LR fa rho H (l.set i (some d)) (σ.set i (some v)) := by
  refine ⟨by rw [List.length_set, List.length_set]; exact h.len, fun j d' q => ?_⟩
  by_cases hj : j = i
  · subst hj
    have hl : j < l.length := by
      have := (List.getElem?_eq_some_iff.mp q).1
      rwa [List.length_set] at this
    rw [List.getElem?_set_self hl] at q
    have q' : d = d' := Option.some.inj (Option.some.inj q)
    subst q'
    exact ⟨v, List.getElem?_set_self (by rw [← h.len]; exact hl), r⟩
  · rw [List.getElem?_set_ne (Ne.symm hj)] at q
    obtain ⟨u, e, r'⟩ := h.val j d' q
    exact ⟨u, by rw [List.getElem?_set_ne (Ne.symm hj)]; exact e, r'⟩
theorem LR.wipe {l : Loc} {σ : St} (h : LR fa rho H l σ) : ∀ vs : List Nat, LR fa rho H (wipeL l vs) (L2.wipe σ vs)
  | [] => h
  | v :: vs => by
    have ih := LR.wipe h vs
    refine ⟨by unfold wipeL L2.wipe; rw [List.length_set, List.length_set]; exact ih.len, fun j d q => ?_⟩
    unfold wipeL at q
    by_cases hj : j = v
    · subst hj
      have hl : j < (wipeL l vs).length := by
        have := (List.getElem?_eq_some_iff.mp q).1
        rwa [List.length_set] at this
      rw [List.getElem?_set_self hl] at q
      cases q
    · rw [List.getElem?_set_ne (Ne.symm hj)] at q
      obtain ⟨u, e, r⟩ := ih.val j d q
      exact ⟨u, by unfold L2.wipe; rw [List.getElem?_set_ne (Ne.symm hj)]; exact e, r⟩
end

/-! ### data -/
section
variable {fa : Fa} {rho : List Addr} {H : Hp} {K : W.Frag}
mutual
theorem R.dp : ∀ {d : D} {v : V} {p : PyData}, R fa rho H d v → d.py = some p → Dp K H v p
  | _, _, p, .non, h => by simp only [D.py] at h; cases h; exact .non
  | _, _, p, .bl b, h => by simp only [D.py] at h; cases h; exact .bl b
  | _, _, p, .int i, h => by simp only [D.py] at h; cases h; exact .int i
  | _, _, p, .str s, h => by simp only [D.py] at h; cases h; exact .str s
  | .tup ds, _, p, .tup h1 h2 h3, h => by
    simp only [D.py] at h
    cases e : D.pys ds with
    | none => rw [e] at h; cases h
    | some r => rw [e] at h; cases h; exact .tup (SqT.of h2) (RL.dp h3 e)
  | .lst ds, _, p, .lst h1 h2 h3, h => by
    simp only [D.py] at h
    cases e : D.pys ds with
    | none => rw [e] at h; cases h
    | some r => rw [e] at h; cases h; exact .lst (SqL.of h2) (RL.dp h3 e)
  | _, _, p, .ref _, h => by simp only [D.py] at h; cases h
  | _, _, p, .fn _, h => by simp only [D.py] at h; cases h
  | _, _, p, .rep _, h => by simp only [D.py] at h; cases h
theorem RL.dp : ∀ {ds : List D} {vs : List V} {ps : List PyData}, RL fa rho H ds vs → D.pys ds = some ps → DpAll K H vs ps
  | _, _, ps, .nil, h => by simp only [D.pys] at h; cases h; exact .nil
  | d :: ds, _, ps, .cons h1 h2, h => by
    simp only [D.pys] at h
    cases e1 : D.py d with
    | none => rw [e1] at h; simp at h
    | some a =>
      cases e2 : D.pys ds with
      | none => rw [e1, e2] at h; simp at h
      | some b => rw [e1, e2] at h; cases h; exact .cons (R.dp h1 e1) (RL.dp h2 e2)
end
variable {S : Sto}
/-- a cell that is a list, read -/
theorem SR.rdL (s : SR fa rho H S) {n : Nat} {a : Addr} {xs : List D} (h : rho[n]? = some a) (e : S[n]? = some (.lst xs) ∨ S[n]? = some (.fz xs)) : ∃ vs, SqL K H a vs ∧ RL fa rho H xs vs := by
  rcases e with e | e
  · obtain ⟨b, eb, vs, h1, h2⟩ := s.cell n _ e
    rw [h] at eb; cases eb
    exact ⟨vs, SqL.of h1, h2⟩
  · obtain ⟨b, eb, o, vs, h1, h2⟩ := s.cell n _ e
    rw [h] at eb; cases eb
    exact ⟨vs, .inl (.inr ⟨o, h1⟩), h2⟩
mutual
theorem R.dps (s : SR fa rho H S) : ∀ {d : D} {v : V} {p : PyData}, R fa rho H d v → (D.deep S d).py = some p → Dp K H v p
  | _, _, p, .non, h => by simp only [D.deep, D.py] at h; cases h; exact .non
  | _, _, p, .bl b, h => by simp only [D.deep, D.py] at h; cases h; exact .bl b
  | _, _, p, .int i, h => by simp only [D.deep, D.py] at h; cases h; exact .int i
  | _, _, p, .str x, h => by simp only [D.deep, D.py] at h; cases h; exact .str x
  | .tup ds, _, p, .tup h1 h2 h3, h => by
    simp only [D.deep, D.py] at h
    cases e : D.pys (D.deeps S ds) with
    | none => rw [e] at h; cases h
    | some r => rw [e] at h; cases h; exact .tup (SqT.of h2) (RL.dps s h3 e)
  | .lst ds, _, p, .lst h1 h2 h3, h => by
    simp only [D.deep, D.py] at h
    cases e : D.pys (D.deeps S ds) with
    | none => rw [e] at h; cases h
    | some r => rw [e] at h; cases h; exact .lst (SqL.of h2) (RL.dps s h3 e)
  | .ref n, _, p, .ref (a := a) h1, h => by
    simp only [D.deep] at h
    have main : ∀ xs, (S[n]? = some (.lst xs) ∨ S[n]? = some (.fz xs)) → (D.lst xs).py = some p → Dp K H (.ref a) p := fun xs e h => by
      obtain ⟨vs, q1, q2⟩ := s.rdL (K := K) h1 e
      simp only [D.py] at h
      cases e2 : D.pys xs with
      | none => rw [e2] at h; cases h
      | some r => rw [e2] at h; cases h; exact .lst q1 (RL.dp q2 e2)
    split at h
    · rename_i xs e; exact main xs (.inl e) h
    · rename_i xs e; exact main xs (.inr e) h
    · simp only [D.py] at h; cases h
  | _, _, p, .fn _, h => by simp only [D.deep, D.py] at h; cases h
  | _, _, p, .rep _, h => by simp only [D.deep, D.py] at h; cases h
theorem RL.dps (s : SR fa rho H S) : ∀ {ds : List D} {vs : List V} {ps : List PyData}, RL fa rho H ds vs → D.pys (D.deeps S ds) = some ps → DpAll K H vs ps
  | _, _, ps, .nil, h => by simp only [D.deeps, D.pys] at h; cases h; exact .nil
  | d :: ds, _, ps, .cons h1 h2, h => by
    simp only [D.deeps, D.pys] at h
    cases e1 : D.py (D.deep S d) with
    | none => rw [e1] at h; simp at h
    | some a =>
      cases e2 : D.pys (D.deeps S ds) with
      | none => rw [e1, e2] at h; simp at h
      | some b => rw [e1, e2] at h; cases h; exact .cons (R.dps s h1 e1) (RL.dps s h2 e2)
end
end
end Ev
end
section
set_option linter.all false
set_option Elab.async false
set_option maxRecDepth 100000
/-! E3: the greatest transformers; operators by values. -/
namespace Ev
open PySem PySem.Spec PyProof.Rows L2

/-! ### what the model does, as transformers -/
def tE (X : Cx) (e : Expr) : TE := fun σ H Q => ∀ (pins : List (Addr × Obj)) (s : Shared), Inv X pins σ H s → wpAny (model X.prog X.w) X.A (eval e X.env) (EP X pins σ Q) X.xe s
def tT (X : Cx) (e : Expr) : TT := fun σ H Q => ∀ (pins : List (Addr × Obj)) (s : Shared), Inv X pins σ H s → wpAny (model X.prog X.w) X.A (isTrue e X.env (eval e X.env)) (TP X pins σ Q) X.xe s
def tA (X : Cx) (es : List Expr) : TA := fun σ H Q => ∀ (pos : Pos) (pins : List (Addr × Obj)) (s : Shared), Inv X pins σ H s → wpAny (model X.prog X.w) X.A (spliced (backTo pos (starEach es X.env))) (AP X pins σ Q) X.xe s
def tI (X : Cx) (tg iter : Expr) : TI := fun σ H R => ∀ (pins : List (Addr × Obj)) (s : Shared), Inv X pins σ H s → wpAny (model X.prog X.w) X.A (eval iter X.env) (fun v s1 => wpAny (model X.prog X.w) X.A (pyIter v) (PIE X pins σ tg R) X.xe s1) X.xe s
def tG (X : Cx) (tg : Expr) : TG := fun v σ H Q => ∀ (pins : List (Addr × Obj)) (s : Shared) (u : Value), Inv X pins σ H s → RelV v u → wpAny (model X.prog X.w) X.A (assign tg X.env u) (fun _ s' => ∃ σ' H', Inv X pins σ' H' s' ∧ Q σ' H') X.xe s
def tS (X : Cx) (st : Stmt) : TS := fun D σ H => ∀ (pins : List (Addr × Obj)) (s : Shared), Inv X pins σ H s → wpAny (model X.prog X.w) X.A (exec st X.env) (SP X pins D) X.xe s
def tSs (X : Cx) (st : List Stmt) : TS := fun D σ H => ∀ (pins : List (Addr × Obj)) (s : Shared), Inv X pins σ H s → wpAny (model X.prog X.w) X.A (execs st X.env) (SP X pins D) X.xe s
def opM (X : Cx) (f : Value → Value → Sem Value) : R2 := fun x y H Q => ∀ (pins : List (Addr × Obj)) (s : Shared) (σ : L2.St) (v u : Value), Inv X pins σ H s → RelV x v → RelV y u → wpAny (model X.prog X.w) X.A (f v u) (EP X pins σ Q) X.xe s
def caM (X : Cx) (f : Value) : List V → Hp → VK → Prop := fun xs H Q => ∀ (pins : List (Addr × Obj)) (s : Shared) (σ : L2.St) (us : List Value), Inv X pins σ H s → Vals xs us → wpAny (model X.prog X.w) X.A (call f us) (EP X pins σ Q) X.xe s
section
variable {X : Cx}
theorem pe_max (e : Expr) : PE X e (tE X e) := ⟨fun pins s _ _ _ I h => h pins s I⟩
theorem pt_max (e : Expr) : PT X e (tT X e) := ⟨fun pins s _ _ _ I h => h pins s I⟩
theorem pa_max (es : List Expr) : PA X es (tA X es) := ⟨fun pos pins s _ _ _ I h => h pos pins s I⟩
theorem pi_max (tg e : Expr) : PI X tg e (tI X tg e) := ⟨fun pins s _ _ _ I h => h pins s I⟩
theorem pg_max (tg : Expr) : PG X tg (tG X tg) := ⟨fun pins s _ _ _ u _ I r h => h pins s u I r⟩
theorem ps_max (st : Stmt) : PS X st (tS X st) := ⟨fun pins s _ _ _ I h => h pins s I⟩
theorem pss_max (st : List Stmt) : PSs X st (tSs X st) := ⟨fun pins s _ _ _ I h => h pins s I⟩
theorem op_max (f : Value → Value → Sem Value) : OpR X f (opM X f) := fun pins s σ _ _ _ v u _ I rx ry h => h pins s σ v u I rx ry
theorem ca_max (f : Value) : CallR X f (caM X f) := fun pins s σ _ _ us _ I r h => h pins s σ us I r
variable {σ : L2.St} {H : Hp}
theorem tE_of {e : Expr} {t : TE} {Q : VK} (h : PE X e t) (q : t σ H Q) : tE X e σ H Q := fun pins s I => h.run pins s σ H Q I q
theorem tT_of {e : Expr} {t : TT} {Q : Bool → Hp → Prop} (h : PT X e t) (q : t σ H Q) : tT X e σ H Q := fun pins s I => h.run pins s σ H Q I q
theorem tA_of {es : List Expr} {t : TA} {Q : List V → Hp → Prop} (h : PA X es t) (q : t σ H Q) : tA X es σ H Q := fun pos pins s I => h.run pos pins s σ H Q I q
theorem tI_of {tg e : Expr} {t : TI} {Q : It → Hp → Prop} (h : PI X tg e t) (q : t σ H Q) : tI X tg e σ H Q := fun pins s I => h.run pins s σ H Q I q
theorem tG_of {tg : Expr} {t : TG} {v : V} {Q : L2.St → Hp → Prop} (h : PG X tg t) (q : t v σ H Q) : tG X tg v σ H Q := fun pins s u I r => h.run pins s σ H v u Q I r q
theorem tS_of {st : Stmt} {t : TS} {D : Ends} (h : PS X st t) (q : t D σ H) : tS X st D σ H := fun pins s I => h.run pins s σ H D I q
theorem tSs_of {st : List Stmt} {t : TS} {D : Ends} (h : PSs X st t) (q : t D σ H) : tSs X st D σ H := fun pins s I => h.run pins s σ H D I q
theorem opM_of {f : Value → Value → Sem Value} {r : R2} {x y : V} {Q : VK} (h : OpR X f r) (q : r x y H Q) : opM X f x y H Q := fun pins s σ v u I rx ry => h pins s σ H x y v u Q I rx ry q
theorem caM_of {f : Value} {r : List V → Hp → VK → Prop} {xs : List V} {Q : VK} (h : CallR X f r) (q : r xs H Q) : caM X f xs H Q := fun pins s σ us I rx => h pins s σ H xs us Q I rx q
end

theorem bind_ok {α β : Type} {x : R3 α} {f : α → Sto → R3 β} {b : β} {S' : Sto} (h : x.bind f = .ok b S') : ∃ a S1, x = .ok a S1 ∧ f a S1 = .ok b S' := by
  cases x with
  | ok a S => exact ⟨a, S, rfl, h⟩
  | exc c ds S => cases h
  | stuck => cases h
theorem of_ok {α : Type} {x : Option α} {S : Sto} {b : α} {S' : Sto} (h : R3.of x S = .ok b S') : x = some b ∧ S = S' := by
  cases x with
  | none => cases h
  | some a => cases h; exact ⟨rfl, rfl⟩

mutual
theorem D.beq_eq : ∀ {a b : D}, D.beq a b = true → a = b
  | .non, b, h => by cases b <;> simp [D.beq] at h ⊢
  | .bl x, b, h => by cases b <;> simp [D.beq] at h ⊢ <;> exact h
  | .int x, b, h => by cases b <;> simp [D.beq] at h ⊢ <;> exact h
  | .str x, b, h => by cases b <;> simp [D.beq] at h ⊢ <;> exact h
  | .tup x, b, h => by cases b <;> simp [D.beq] at h ⊢ <;> exact D.beqs_eq h
  | .lst x, b, h => by cases b <;> simp [D.beq] at h ⊢ <;> exact D.beqs_eq h
  | .ref x, b, h => by cases b <;> simp [D.beq] at h ⊢ <;> exact h
  | .fn x, b, h => by cases b <;> simp [D.beq] at h ⊢ <;> exact h
  | .rep x, b, h => by cases b <;> simp [D.beq] at h ⊢ <;> exact D.beq_eq h
theorem D.beqs_eq : ∀ {a b : List D}, D.beqs a b = true → a = b
  | [], b, h => by cases b <;> simp [D.beqs] at h ⊢
  | x :: r, b, h => by
    cases b with
    | nil => simp [D.beqs] at h
    | cons y t =>
      simp only [D.beqs, Bool.and_eq_true] at h
      rw [D.beq_eq h.1, D.beqs_eq h.2]
end

section
variable {X : Cx} {fa : Fa} {rho : List Addr} {H : Hp} {S : Sto}
/-- what is wanted of a value that is told -/
def Post (fa : Fa) (rho : List Addr) (H : Hp) (S' : Sto) (d : D) (Q : VK) : Prop :=
  ∀ rho' H' v, Ext rho H rho' H' → SR fa rho' H' S' → R fa rho' H' d v → Q v H'
theorem Post.here {d : D} {v : V} {Q : VK} (p : Post fa rho H S d Q) (s : SR fa rho H S) (r : R fa rho H d v) : Q v H := p rho H v Ext.refl s r
theorem Post.tup {ds : List D} {vs : List V} {a : Addr} {Q : VK} (p : Post fa rho H S (.tup ds) Q) (s : SR fa rho H S) (r : RL fa rho H ds vs) (h : H a = none) : Q (.ref a) (upd H a (.tup vs)) :=
  p rho _ _ (Ext.new h) (s.new h) (R.newTup s h r)
theorem Post.lst {ds : List D} {vs : List V} {a : Addr} {Q : VK} (p : Post fa rho H S (.lst ds) Q) (s : SR fa rho H S) (r : RL fa rho H ds vs) (h : H a = none) : Q (.ref a) (upd H a (.lst vs)) :=
  p rho _ _ (Ext.new h) (s.new h) (R.newLst s h r)
theorem Post.mono {rho1 : List Addr} {H1 : Hp} {S1 S' : Sto} {d : D} {Q : VK} (p : Post fa rho H S' d Q) (e : Ext rho H rho1 H1) (s : SR fa rho1 H1 S1) : Post fa rho1 H1 S' d Q :=
  fun rho' H' v e' s' r => p rho' H' v (e.trans s e') s' r

/-- a list or tuple, read -/
theorem R.readL {K : W.Frag} (s : SR fa rho H S) {d : D} {v : V} {xs : List D} (r : R fa rho H d v) (e : D.read S d = .lst xs) : ∃ a vs, v = .ref a ∧ SqL K H a vs ∧ RL fa rho H xs vs := by
  cases r with
  | lst h1 h2 h3 => simp only [D.read] at e; cases e; exact ⟨_, _, rfl, SqL.of h2, h3⟩
  | @ref n a h1 =>
    simp only [D.read] at e
    split at e
    · rename_i ys q; cases e
      obtain ⟨vs, q1, q2⟩ := s.rdL (K := K) h1 (.inl q)
      exact ⟨a, vs, rfl, q1, q2⟩
    · rename_i ys q; cases e
      obtain ⟨vs, q1, q2⟩ := s.rdL (K := K) h1 (.inr q)
      exact ⟨a, vs, rfl, q1, q2⟩
    · cases e
  | _ => simp only [D.read] at e; cases e
theorem R.readT (s : SR fa rho H S) {d : D} {v : V} {xs : List D} (r : R fa rho H d v) (e : D.read S d = .tup xs) : ∃ a vs, v = .ref a ∧ H a = some (.tup vs) ∧ RL fa rho H xs vs ∧ R fa rho H (.tup xs) v := by
  cases r with
  | tup h1 h2 h3 => simp only [D.read] at e; cases e; exact ⟨_, _, rfl, h2, h3, .tup h1 h2 h3⟩
  | @ref n a h1 =>
    simp only [D.read] at e
    split at e <;> cases e
  | _ => simp only [D.read] at e; cases e
theorem R.readML (s : SR fa rho H S) {d : D} {v : V} {xs : List D} (r : R fa rho H d v) (e : D.readM S d = .lst xs) : ∃ a vs, v = .ref a ∧ H a = some (.lst vs) ∧ RL fa rho H xs vs := by
  cases r with
  | lst h1 h2 h3 => simp only [D.readM] at e; cases e; exact ⟨_, _, rfl, h2, h3⟩
  | @ref n a h1 =>
    simp only [D.readM] at e
    split at e
    · rename_i ys q; cases e
      obtain ⟨b, eb, vs, q1, q2⟩ := s.cell n _ q
      rw [h1] at eb; cases eb
      exact ⟨a, vs, rfl, q1, q2⟩
    · cases e
  | _ => simp only [D.readM] at e; cases e
theorem R.readMT (s : SR fa rho H S) {d : D} {v : V} {xs : List D} (r : R fa rho H d v) (e : D.readM S d = .tup xs) : ∃ a vs, v = .ref a ∧ H a = some (.tup vs) ∧ RL fa rho H xs vs ∧ R fa rho H (.tup xs) v := by
  cases r with
  | tup h1 h2 h3 => simp only [D.readM] at e; cases e; exact ⟨_, _, rfl, h2, h3, .tup h1 h2 h3⟩
  | @ref n a h1 =>
    simp only [D.readM] at e
    split at e <;> cases e
  | _ => simp only [D.readM] at e; cases e
theorem R.readMI {d : D} {v : V} {i : Int} (r : R fa rho H d v) (e : D.readM S d = .int i) : v = .int i := by
  cases r with
  | int j => simp only [D.readM] at e; cases e; rfl
  | @ref n a h1 => simp only [D.readM] at e; split at e <;> cases e
  | _ => simp only [D.readM] at e; cases e
theorem R.int_of {v : V} {i : Int} (r : R fa rho H (.int i) v) : v = .int i := by cases r; rfl
theorem R.bl_of {v : V} {b : Bool} (r : R fa rho H (.bl b) v) : v = .bl b := by cases r; rfl

theorem mul_ok {i j : Int} (h : mulOk i j = true) : CMulX i j := by
  unfold mulOk at h
  have h' : (Builtin.Int.intBits i : Int) + (Builtin.Int.intBits j : Int) ≤ 134217728 := of_decide_eq_true h
  exact h'
def opIs : BOp → Operator
  | .add => .Add | .sub => .Sub | .mul => .Mult | .fdiv => .FloorDiv | .mod => .Mod | .pow => .Pow
theorem bin_ok {o : BOp} {x y d : D} {v u : V} {Q : VK} (s : SR fa rho H S) (h : binD S o x y = some d) (rx : R fa rho H x v) (ry : R fa rho H y u) (q : Post fa rho H S d Q) : opM X (binaryOp (opIs o)) v u H Q := by
  unfold binD at h
  split at h
  · rename_i i j e1 e2
    cases h
    obtain rfl := rx.readMI e1
    obtain rfl := ry.readMI e2
    exact opM_of op_add ⟨i, j, rfl, rfl, q.here s (.int _)⟩
  · rename_i i j e1 e2
    cases h
    obtain rfl := rx.readMI e1
    obtain rfl := ry.readMI e2
    exact opM_of op_sub ⟨i, j, rfl, rfl, q.here s (.int _)⟩
  · rename_i i j e1 e2
    obtain rfl := rx.readMI e1
    obtain rfl := ry.readMI e2
    split at h
    · rename_i hm
      cases h
      exact opM_of op_mulX ⟨i, j, rfl, rfl, mul_ok hm, q.here s (.int _)⟩
    · cases h
  · rename_i i j e1 e2
    obtain rfl := rx.readMI e1
    obtain rfl := ry.readMI e2
    split at h
    · rename_i hm
      cases h
      exact opM_of op_mod ⟨i, j, rfl, rfl, hm, q.here s (.int _)⟩
    · cases h
  · rename_i i j e1 e2
    obtain rfl := rx.readMI e1
    obtain rfl := ry.readMI e2
    split at h
    · rename_i hm
      cases h
      exact opM_of op_fdiv ⟨i, j, rfl, rfl, hm, q.here s (.int _)⟩
    · cases h
  · rename_i i j e1 e2
    obtain rfl := rx.readMI e1
    obtain rfl := ry.readMI e2
    split at h
    · rename_i hm
      cases h
      exact opM_of op_pow ⟨i, j, rfl, rfl, hm, q.here s (.int _)⟩
    · cases h
  · rename_i xs ys e1 e2
    obtain ⟨a, vs, rfl, ha, ra, rx'⟩ := rx.readMT s e1
    obtain ⟨b, ws, rfl, hb, rb, ry'⟩ := ry.readMT s e2
    split at h
    · rename_i hm
      cases h
      have hz : vs.length + ws.length ≤ sizeLine := by rw [← ra.length, ← rb.length]; exact of_decide_eq_true hm
      refine opM_of op_catA ⟨a, b, vs, ws, rfl, rfl, SqT.of ha, SqT.of hb, hz, fun e => ?_, fun _ e => ?_, fun _ _ p hp => q.tup s (ra.append rb) hp⟩
      · have : xs = [] := ra.nil_iff.mpr e
        subst this
        exact q.here s ry'
      · have : ys = [] := rb.nil_iff.mpr e
        subst this
        rw [List.append_nil] at q
        exact q.here s rx'
    · cases h
  · rename_i xs ys e1 e2
    obtain ⟨a, vs, rfl, ha, ra⟩ := rx.readML s e1
    obtain ⟨b, ws, rfl, hb, rb⟩ := ry.readML s e2
    split at h
    · rename_i hm
      cases h
      have hz : vs.length + ws.length ≤ sizeLine := by rw [← ra.length, ← rb.length]; exact of_decide_eq_true hm
      exact opM_of op_cat ⟨a, b, vs, ws, rfl, rfl, ha, hb, hz, fun p hp => q.lst s (ra.append rb) hp⟩
    · cases h
  · cases h
theorem cat_ok {x y : D} {xs : List D} {v u : V} {Q : VK} (s : SR fa rho H S) (h : binD S .add x y = some (.lst xs)) (rx : R fa rho H x v) (ry : R fa rho H y u) (q : ∀ (p : Addr) (ws : List V), H p = none → RL fa rho H xs ws → Q (.ref p) (upd H p (.lst ws))) : opM X (binaryOp (opIs .add)) v u H Q := by
  unfold binD at h
  split at h
  all_goals first
    | (cases h; done)
    | (split at h <;> cases h; done)
    | skip
  · rename_i xs ys e1 e2
    obtain ⟨a, vs, rfl, ha, ra⟩ := rx.readML s e1
    obtain ⟨b, ws, rfl, hb, rb⟩ := ry.readML s e2
    split at h
    · rename_i hm
      cases h
      have hz : vs.length + ws.length ≤ sizeLine := by rw [← ra.length, ← rb.length]; exact of_decide_eq_true hm
      exact opM_of op_cat ⟨a, b, vs, ws, rfl, rfl, ha, hb, hz, fun p hp => q p _ hp (ra.append rb)⟩
    · cases h
end
end Ev
end
section
set_option linter.all false
set_option Elab.async false
set_option maxRecDepth 100000
/-! E4: comparisons, items, slices by values. -/
namespace Ev
open PySem PySem.Spec PyProof.Rows L2
section
variable {X : Cx} {fa : Fa} {rho : List Addr} {H : Hp} {S : Sto}

def cmpIs : COp → CmpOp
  | .eq => .Eq | .ne => .NotEq | .lt => .Lt | .le => .LtE | .gt => .Gt | .ge => .GtE | .isin => .In | .notin => .NotIn | .is_ => .Is | .isnot => .IsNot

theorem dec_vint (i j : Int) : decide (V.int i = V.int j) = decide (i = j) := by
  by_cases h : i = j
  · subst h; simp
  · have : ¬ V.int i = V.int j := fun e => h (V.int.inj e)
    simp [h, this]

theorem eq_ok {x y : D} {v u : V} {b : Bool} {Q : VK} (hu : X.A.units + 200 < cLine) (s : SR fa rho H S) (h : eqD S x y = some b) (rx : R fa rho H x v) (ry : R fa rho H y u) (q : Q (.bl b) H) : opM X (compareOp .Eq) v u H Q := by
  have main : ∀ p p', (D.deep S x).py = some p → (D.deep S y).py = some p' → (if SeqAt.shaped p && SeqAt.shaped p' then some (PyData.eqv p p') else none) = some b → opM X (compareOp .Eq) v u H Q := fun p p' e1 e2 h => by
    split at h
    · rename_i hs
      cases h
      rw [Bool.and_eq_true] at hs
      exact opM_of (op_eqD (by omega)) ⟨p, p', rx.dps s e1, ry.dps s e2, hs.1, hs.2, q⟩
    · cases h
  unfold eqD at h
  split at h
  · rename_i i j
    cases h
    cases rx; cases ry
    refine opM_of op_eq ⟨rfl, ?_⟩
    rw [dec_vint]; exact q
  · rename_i a c
    split at h
    · rename_i hb
      cases h
      have e := D.beq_eq hb
      subst e
      cases rx with
      | rep h1 =>
        cases ry with
        | rep h2 =>
          rw [h1] at h2; cases h2
          refine opM_of op_eq ⟨rfl, ?_⟩
          rw [decide_eq_true rfl]; exact q
    · cases h
  · split at h
    · rename_i p p' e1 e2
      exact main p p' e1 e2 h
    · cases h
theorem ne_ok {x y : D} {v u : V} {b : Bool} {Q : VK} (hu : X.A.units + 200 < cLine) (s : SR fa rho H S) (h : eqD S x y = some b) (rx : R fa rho H x v) (ry : R fa rho H y u) (q : Q (.bl (!b)) H) : opM X (compareOp .NotEq) v u H Q := by
  have main : ∀ p p', (D.deep S x).py = some p → (D.deep S y).py = some p' → (if SeqAt.shaped p && SeqAt.shaped p' then some (PyData.eqv p p') else none) = some b → opM X (compareOp .NotEq) v u H Q := fun p p' e1 e2 h => by
    split at h
    · rename_i hs
      cases h
      rw [Bool.and_eq_true] at hs
      exact opM_of (op_neD (by omega)) ⟨p, p', rx.dps s e1, ry.dps s e2, hs.1, hs.2, q⟩
    · cases h
  unfold eqD at h
  split at h
  · rename_i i j
    cases h
    cases rx; cases ry
    refine opM_of op_ne ⟨rfl, ?_⟩
    rw [dec_vint]; exact q
  · rename_i a c
    split at h
    · rename_i hb
      cases h
      have e := D.beq_eq hb
      subst e
      cases rx with
      | rep h1 =>
        cases ry with
        | rep h2 =>
          rw [h1] at h2; cases h2
          refine opM_of op_ne ⟨rfl, ?_⟩
          rw [decide_eq_true rfl]; exact q
    · cases h
  · split at h
    · rename_i p p' e1 e2
      exact main p p' e1 e2 h
    · cases h

/-- what ltD tells -/
theorem lt_case {x y : D} {b : Bool} (h : ltD S x y = some b) : (∃ i j, x = .int i ∧ y = .int j ∧ b = decide (i < j)) ∨
    ∃ p p', (D.deep S x).py = some p ∧ (D.deep S y).py = some p' ∧ W.alike p p' = true ∧ (p.depth ≤ 64 ∧ p'.depth ≤ 64) ∧ p ≠ .none ∧ b = W.dataLt p p' := by
  unfold ltD at h
  split at h
  · rename_i i j
    cases h
    exact .inl ⟨i, j, rfl, rfl, rfl⟩
  · split at h
    · rename_i p p' e1 e2
      split at h
      · rename_i hs
        cases h
        simp only [Bool.and_eq_true, decide_eq_true_eq] at hs
        refine .inr ⟨p, p', e1, e2, hs.1.1.1, ⟨hs.1.1.2, hs.1.2⟩, ?_, rfl⟩
        rintro rfl
        exact absurd hs.2 (by simp [notNone])
      · cases h
    · cases h
theorem cmpop_of {op : CmpOp} {v u : V} {b : Bool} {Q : VK} {p p' : PyData} (dv : Dp X.K H v p) (du : Dp X.K H u p') (q : Q (.bl b) H)
    (h : ∀ (s : Shared) (x y : Value) (as bs : List Addr) (Q' : Value → Shared → Prop), Reads s.heap x p as → Reads s.heap y p' bs → Q' (.bool b) s → wpAny (model X.prog X.w) X.A (compareOp op x y) Q' X.xe s) : opM X (compareOp op) v u H Q := by
  intro pins s σ x y I rx ry
  obtain ⟨as, r1⟩ := Dp.reads I p v x dv rx
  obtain ⟨bs, r2⟩ := Dp.reads I p' u y du ry
  exact h s x y as bs _ r1 r2 ⟨.bl b, H, I, rfl, q⟩
theorem ge_neg (i j : Int) : (!decide (i < j)) = decide (j ≤ i) := by
  by_cases h : i < j
  · have : ¬ j ≤ i := by omega
    simp [h, this]
  · have : j ≤ i := by omega
    simp [h, this]
theorem cmp_ok {o : COp} {x y : D} {v u : V} {b : Bool} {Q : VK} (hu : X.A.units + 200 < cLine) (s : SR fa rho H S) (h : cmpD S o x y = some b) (rx : R fa rho H x v) (ry : R fa rho H y u) (q : Q (.bl b) H) : opM X (compareOp (cmpIs o)) v u H Q := by
  have neg : ∀ {z : Option Bool}, z.map (!·) = some b → ∃ c, z = some c ∧ b = !c := fun {z} e => by
    cases z with
    | none => cases e
    | some c => cases e; exact ⟨c, rfl, rfl⟩
  cases o with
  | eq => exact eq_ok hu s h rx ry q
  | ne =>
    obtain ⟨c, e, rfl⟩ := neg h
    exact ne_ok hu s e rx ry q
  | lt =>
    rcases lt_case h with ⟨i, j, rfl, rfl, rfl⟩ | ⟨p, p', e1, e2, a1, a2, a3, rfl⟩
    · cases rx; cases ry; exact opM_of op_lt ⟨i, j, rfl, rfl, q⟩
    · exact cmpop_of (rx.dps s e1) (ry.dps s e2) q fun s x y as bs Q' r1 r2 hq => W.lt_data r1 r2 a1 a3 (by omega) hq
  | gt =>
    rcases lt_case h with ⟨i, j, rfl, rfl, rfl⟩ | ⟨p, p', e1, e2, a1, a2, a3, rfl⟩
    · cases rx; cases ry; exact opM_of op_gt ⟨j, i, rfl, rfl, q⟩
    · exact cmpop_of (rx.dps s e2) (ry.dps s e1) q fun s x y as bs Q' r1 r2 hq => W.gt_data r1 r2 (by rw [W.alike_comm]; exact a1) (W.ne_none_both a1 a3) (by omega) hq
  | le =>
    obtain ⟨c, e, rfl⟩ := neg h
    rcases lt_case e with ⟨i, j, rfl, rfl, rfl⟩ | ⟨p, p', e1, e2, a1, a2, a3, rfl⟩
    · cases rx; cases ry
      rw [ge_neg] at q
      exact opM_of op_le ⟨j, i, rfl, rfl, q⟩
    · exact cmpop_of (rx.dps s e2) (ry.dps s e1) q fun s x y as bs Q' r1 r2 hq => W.le_data r1 r2 (by rw [W.alike_comm]; exact a1) (W.ne_none_both a1 a3) (by omega) hq
  | ge =>
    obtain ⟨c, e, rfl⟩ := neg h
    rcases lt_case e with ⟨i, j, rfl, rfl, rfl⟩ | ⟨p, p', e1, e2, a1, a2, a3, rfl⟩
    · cases rx; cases ry
      rw [ge_neg] at q
      exact opM_of op_ge ⟨i, j, rfl, rfl, q⟩
    · exact cmpop_of (rx.dps s e1) (ry.dps s e2) q fun s x y as bs Q' r1 r2 hq => W.ge_data r1 r2 a1 a3 (by omega) hq
  | isin =>
    have h : inD S x y = some b := h
    unfold inD at h
    split at h
    · rename_i p ys e1 e2
      split at h
      · rename_i hs; cases h
        rw [Bool.and_eq_true] at hs
        exact cmpop_of (rx.dps s e1) (ry.dps s e2) q fun s x y as bs Q' r1 r2 hq => SeqAt.in_tuple_reads r2 r1 (SeqAt.canLay_of_shaped hs.2) (SeqAt.canLay_of_shaped hs.1) (room_in_shaped hs.1 (by omega)) hq
      · cases h
    · rename_i p ys e1 e2
      split at h
      · rename_i hs; cases h
        rw [Bool.and_eq_true] at hs
        exact cmpop_of (rx.dps s e1) (ry.dps s e2) q fun s x y as bs Q' r1 r2 hq => SeqAt.in_list_reads r2 r1 (SeqAt.canLay_of_shaped hs.2) (SeqAt.canLay_of_shaped hs.1) (room_in_shaped hs.1 (by omega)) hq
      · cases h
    · cases h
  | notin =>
    obtain ⟨c, e, rfl⟩ := neg h
    clear h
    have h : inD S x y = some c := e
    unfold inD at h
    split at h
    · rename_i p ys e1 e2
      split at h
      · rename_i hs; cases h
        rw [Bool.and_eq_true] at hs
        exact cmpop_of (rx.dps s e1) (ry.dps s e2) q fun s x y as bs Q' r1 r2 hq => SeqAt.notIn_tuple_reads r2 r1 (SeqAt.canLay_of_shaped hs.2) (SeqAt.canLay_of_shaped hs.1) (room_in_shaped hs.1 (by omega)) hq
      · cases h
    · rename_i p ys e1 e2
      split at h
      · rename_i hs; cases h
        rw [Bool.and_eq_true] at hs
        exact cmpop_of (rx.dps s e1) (ry.dps s e2) q fun s x y as bs Q' r1 r2 hq => SeqAt.notIn_list_reads r2 r1 (SeqAt.canLay_of_shaped hs.2) (SeqAt.canLay_of_shaped hs.1) (room_in_shaped hs.1 (by omega)) hq
      · cases h
    · cases h
  | is_ =>
    have h : isD x y = some b := h
    unfold isD at h
    split at h
    · cases ry
      refine opM_of op_isN ⟨rfl, ?_⟩
      have e : b = decide (v = .non) := by
        cases h
        cases rx <;> simp
      rw [← e]; exact q
    · cases h
  | isnot =>
    obtain ⟨c, e, rfl⟩ := neg h
    clear h
    have h : isD x y = some c := e
    clear e
    unfold isD at h
    split at h
    · cases ry
      refine opM_of op_notN ⟨rfl, ?_⟩
      have e : c = decide (v = .non) := by
        cases h
        cases rx <;> simp
      rw [← e]; exact q
    · cases h

theorem truth_ok {K : W.Frag} {x : D} {v : V} {b : Bool} (s : SR fa rho H S) (h : truth S x = some b) (rx : R fa rho H x v) : TruV K v H b := by
  cases rx with
  | non => cases h; rfl
  | bl c => cases h; rfl
  | int i =>
    cases h
    show (!decide (i = 0)) = (i != 0)
    rw [bne, Bool.beq_eq_decide_eq]
  | str z => simp only [truth] at h; cases h
  | tup h1 h2 h3 =>
    cases h
    exact .inr (.inl ⟨_, SqT.of h2, by rw [h3.isEmpty]⟩)
  | lst h1 h2 h3 =>
    cases h
    exact .inl ⟨_, SqL.of h2, by rw [h3.isEmpty]⟩
  | @ref n a h1 =>
    simp only [truth] at h
    split at h
    · rename_i xs e
      cases h
      obtain ⟨vs, q1, q2⟩ := s.rdL (K := K) h1 (.inl e)
      exact .inl ⟨vs, q1, by rw [q2.isEmpty]⟩
    · rename_i xs e
      cases h
      obtain ⟨vs, q1, q2⟩ := s.rdL (K := K) h1 (.inr e)
      exact .inl ⟨vs, q1, by rw [q2.isEmpty]⟩
    · rename_i kvs e
      cases h
      obtain ⟨b, eb, ws, q1, q2, q3⟩ := s.cell n _ e
      rw [h1] at eb; cases eb
      refine .inr (.inr ⟨ws, q1, ?_⟩)
      have z := congrArg List.isEmpty q2
      rw [List.isEmpty_map, List.isEmpty_map] at z
      rw [z]
    · cases h
  | fn _ => cases h
  | rep _ => cases h
end
end Ev
end
section
set_option linter.all false
set_option Elab.async false
set_option maxRecDepth 100000
set_option maxHeartbeats 2000000
/-! E5: built-in functions by values. -/
namespace PySem
open Sem (wp)
section
variable {prog : Program} {w : World} {A : Around} {E : Value → Shared → Prop} {s : Shared}
/-- min(a, b), max(a, b) of alike data -/
theorem ev_min_two {a b : Value} {x y : PyData} {as bs : List Addr} {Q : Value → Shared → Prop} (hh : A.handled = none) (ra : Reads s.heap a x as) (rb : Reads s.heap b y bs) (hal : W.AlikeAll [x, y]) (hu : A.units + 1 + PyData.depthAll [x, y] < cLine)
    (h : ∀ h' tk, (∀ c o, s.heap.get? c = some o → h'.get? c = some o) → Q (if W.dataLt y x = true then b else a) { s with heap := h', toks := tk }) :
    wpAny (model prog w) A (call (.builtin "min") [a, b]) Q E s := by
  have nm : (toString "min" ++ toString ".loop" : String) = "min.loop" := by decide
  refine call_function_tree F.kind_min F.plain_min F.entry_min (F.args_min2 _ _) ?_
  show wpAny _ A.in1 (Builtin.Builtins.bindParams "min" ["key", "default"] 0 ⟨[], []⟩ >>= _) _ _ s
  refine wpAny_bind (wpAny_of_eq (show Builtin.Builtins.bindParams "min" ["key", "default"] 0 ⟨[], []⟩ = pure [none, none] from rfl) ?_)
  show wpAny _ A.in1 (newTuple [a, b] >>= _) _ _ s
  refine wpAny_bind (wpAny_newObj_type ?_)
  generalize hs1 : ({ s with heap := s.heap.push { cls := .type "tuple", data := .seq [a, b].toArray } } : Shared) = s1
  have k1 : ∀ c o, s.heap.get? c = some o → s1.heap.get? c = some o := fun c o e => by subst hs1; exact Heap.get?_push_of_some _ e
  have hT : s1.heap.IsTuple s.heap.objs.size #[a, b] := by subst hs1; exact ⟨_, Heap.get?_push_size _ rfl, rfl, 0, rfl⟩
  have hr : ReadsAll s1.heap (#[a, b] : Array Value).toList [x, y] (as ++ (bs ++ [])) := .cons (PyProof.Rows.Reads.keeps k1 ra) (.cons (PyProof.Rows.Reads.keeps k1 rb) .nil)
  refine wpAny_bind (W.iter_tupleW (A := A.in1) hh hT fun s2 e WW st hfp hw hk => ?_)
  refine wpAny_bind (wpAny_newObj_type ?_)
  have hSf : s2.heap.objs.size ∉ [s1.heap.objs.size, s.heap.objs.size] := fun hm => Nat.lt_irrefl _ (hfp _ hm)
  rw [nm]
  refine wpAny_pure ⟨plainId_quiet F.plain_min_loop _, codeAny_min_loop_firstH WW s1.heap hw _ (W.cmpIn_lt (A := A.in1) hr hal (by show A.units + 1 + _ < _; exact hu)) s2.heap.objs.size hSf (fresh_in hk) _ (by simp) (fun c o e => Heap.get?_push_of_some _ (hk c o e)) (WW.frame 0 s2 _ s2.toks st (Nat.le_refl _) fun c _ o e => Heap.get?_push_of_some _ e) (Heap.get?_push_size _ rfl) fun v s' hP hm => ?_⟩
  obtain ⟨h', tk, e2, hk'⟩ := W.moved_old e rfl (Moved.drop_new (tk := s2.toks) hm (Nat.le_refl _))
  have q := h h' tk fun c o ec => hk' c o (k1 c o ec)
  have hv : v = if W.dataLt y x = true then b else a := by
    cases hc : W.dataLt y x <;> simp [argBest, hc] at hP <;> simp [hP]
  rw [hv, e2]
  subst hs1
  exact q
theorem ev_max_two {a b : Value} {x y : PyData} {as bs : List Addr} {Q : Value → Shared → Prop} (hh : A.handled = none) (ra : Reads s.heap a x as) (rb : Reads s.heap b y bs) (hal : W.AlikeAll [x, y]) (hu : A.units + 1 + PyData.depthAll [x, y] < cLine)
    (h : ∀ h' tk, (∀ c o, s.heap.get? c = some o → h'.get? c = some o) → Q (if W.dataLt x y = true then b else a) { s with heap := h', toks := tk }) :
    wpAny (model prog w) A (call (.builtin "max") [a, b]) Q E s := by
  have nm : (toString "max" ++ toString ".loop" : String) = "max.loop" := by decide
  refine call_function_tree F.kind_max F.plain_max F.entry_max (F.args_max2 _ _) ?_
  show wpAny _ A.in1 (Builtin.Builtins.bindParams "max" ["key", "default"] 0 ⟨[], []⟩ >>= _) _ _ s
  refine wpAny_bind (wpAny_of_eq (show Builtin.Builtins.bindParams "max" ["key", "default"] 0 ⟨[], []⟩ = pure [none, none] from rfl) ?_)
  show wpAny _ A.in1 (newTuple [a, b] >>= _) _ _ s
  refine wpAny_bind (wpAny_newObj_type ?_)
  generalize hs1 : ({ s with heap := s.heap.push { cls := .type "tuple", data := .seq [a, b].toArray } } : Shared) = s1
  have k1 : ∀ c o, s.heap.get? c = some o → s1.heap.get? c = some o := fun c o e => by subst hs1; exact Heap.get?_push_of_some _ e
  have hT : s1.heap.IsTuple s.heap.objs.size #[a, b] := by subst hs1; exact ⟨_, Heap.get?_push_size _ rfl, rfl, 0, rfl⟩
  have hr : ReadsAll s1.heap (#[a, b] : Array Value).toList [x, y] (as ++ (bs ++ [])) := .cons (PyProof.Rows.Reads.keeps k1 ra) (.cons (PyProof.Rows.Reads.keeps k1 rb) .nil)
  refine wpAny_bind (W.iter_tupleW (A := A.in1) hh hT fun s2 e WW st hfp hw hk => ?_)
  refine wpAny_bind (wpAny_newObj_type ?_)
  have hSf : s2.heap.objs.size ∉ [s1.heap.objs.size, s.heap.objs.size] := fun hm => Nat.lt_irrefl _ (hfp _ hm)
  rw [nm]
  refine wpAny_pure ⟨plainId_quiet F.plain_max_loop _, codeAny_max_loop_firstH WW s1.heap hw _ (W.cmpIn_gt (A := A.in1) hr hal (by show A.units + 1 + _ < _; exact hu)) s2.heap.objs.size hSf (fresh_in hk) _ (by simp) (fun c o e => Heap.get?_push_of_some _ (hk c o e)) (WW.frame 0 s2 _ s2.toks st (Nat.le_refl _) fun c _ o e => Heap.get?_push_of_some _ e) (Heap.get?_push_size _ rfl) fun v s' hP hm => ?_⟩
  obtain ⟨h', tk, e2, hk'⟩ := W.moved_old e rfl (Moved.drop_new (tk := s2.toks) hm (Nat.le_refl _))
  have q := h h' tk fun c o ec => hk' c o (k1 c o ec)
  have hv : v = if W.dataLt x y = true then b else a := by
    cases hc : W.dataLt x y <;> simp [argBest, hc] at hP <;> simp [hP]
  rw [hv, e2]
  subst hs1
  exact q
end
end PySem

namespace Ev
open PySem PySem.Spec PyProof.Rows L2
section
variable {X : Cx} {fa : Fa} {rho : List Addr} {H : Hp} {S : Sto}

mutual
theorem alike_self : ∀ {d : D} {p : PyData}, d.py = some p → W.alike p p = true
  | .non, p, h => by simp only [D.py] at h; cases h; rfl
  | .bl b, p, h => by simp only [D.py] at h; cases h; rfl
  | .int i, p, h => by simp only [D.py] at h; cases h; rfl
  | .str x, p, h => by simp only [D.py] at h; cases h; rfl
  | .tup ds, p, h => by
    simp only [D.py] at h
    cases e : D.pys ds with
    | none => rw [e] at h; cases h
    | some r => rw [e] at h; cases h; rw [W.alike]; exact alikeAll_self e
  | .lst ds, p, h => by
    simp only [D.py] at h
    cases e : D.pys ds with
    | none => rw [e] at h; cases h
    | some r => rw [e] at h; cases h; rw [W.alike]; exact alikeAll_self e
  | .ref n, p, h => by simp only [D.py] at h; cases h
  | .fn n, p, h => by simp only [D.py] at h; cases h
  | .rep n, p, h => by simp only [D.py] at h; cases h
theorem alikeAll_self : ∀ {ds : List D} {ps : List PyData}, D.pys ds = some ps → W.alikeAll ps ps = true
  | [], ps, h => by simp only [D.pys] at h; cases h; rfl
  | d :: ds, ps, h => by
    simp only [D.pys] at h
    cases e1 : D.py d with
    | none => rw [e1] at h; simp at h
    | some a =>
      cases e2 : D.pys ds with
      | none => rw [e1, e2] at h; simp at h
      | some b => rw [e1, e2] at h; cases h; rw [W.alikeAll, alike_self e1, alikeAll_self e2]; rfl
end
mutual
theorem noDict : ∀ {d : D} {p : PyData}, d.py = some p → p.hasDict = false
  | .non, p, h => by simp only [D.py] at h; cases h; rfl
  | .bl b, p, h => by simp only [D.py] at h; cases h; rfl
  | .int i, p, h => by simp only [D.py] at h; cases h; rfl
  | .str x, p, h => by simp only [D.py] at h; cases h; rfl
  | .tup ds, p, h => by
    simp only [D.py] at h
    cases e : D.pys ds with
    | none => rw [e] at h; cases h
    | some r => rw [e] at h; cases h; rw [PyData.hasDict]; exact noDicts e
  | .lst ds, p, h => by
    simp only [D.py] at h
    cases e : D.pys ds with
    | none => rw [e] at h; cases h
    | some r => rw [e] at h; cases h; rw [PyData.hasDict]; exact noDicts e
  | .ref n, p, h => by simp only [D.py] at h; cases h
  | .fn n, p, h => by simp only [D.py] at h; cases h
  | .rep n, p, h => by simp only [D.py] at h; cases h
theorem noDicts : ∀ {ds : List D} {ps : List PyData}, D.pys ds = some ps → PyData.hasDictAll ps = false
  | [], ps, h => by simp only [D.pys] at h; cases h; rfl
  | d :: ds, ps, h => by
    simp only [D.pys] at h
    cases e1 : D.py d with
    | none => rw [e1] at h; simp at h
    | some a =>
      cases e2 : D.pys ds with
      | none => rw [e1, e2] at h; simp at h
      | some b => rw [e1, e2] at h; cases h; rw [PyData.hasDictAll, noDict e1, noDicts e2]; rfl
end
theorem two_ok {x y : D} {v u : V} {b : Bool} (s : SR fa rho H S) (h : ltD S x y = some b) (rx : R fa rho H x v) (ry : R fa rho H y u) :
    ∃ p p', Dp X.K H v p ∧ Dp X.K H u p' ∧ W.AlikeAll [p', p] ∧ W.AlikeAll [p, p'] ∧ p.depth ≤ 64 ∧ p'.depth ≤ 64 ∧ b = W.dataLt p p' := by
  have main : ∀ p p' : PyData, W.alike p p' = true → W.alike p p = true → W.alike p' p' = true → p ≠ .none → W.AlikeAll [p', p] ∧ W.AlikeAll [p, p'] := fun p p' h1 h2 h3 h4 => by
    have h5 : W.alike p' p = true := by rw [W.alike_comm]; exact h1
    have h6 := W.ne_none_both h1 h4
    constructor
    · exact ⟨by simp [h1, h2, h3, h5], by simp [h4, h6]⟩
    · exact ⟨by simp [h1, h2, h3, h5], by simp [h4, h6]⟩
  rcases lt_case h with ⟨i, j, rfl, rfl, rfl⟩ | ⟨p, p', e1, e2, a1, ⟨a2, a2'⟩, a3, rfl⟩
  · cases rx; cases ry
    obtain ⟨m1, m2⟩ := main (.int i) (.int j) rfl rfl rfl (by simp)
    exact ⟨.int i, .int j, .int i, .int j, m1, m2, by simp [PyData.depth], by simp [PyData.depth], (W.dataLt_int i j).symm⟩
  · obtain ⟨m1, m2⟩ := main p p' a1 (alike_self e1) (alike_self e2) a3
    exact ⟨p, p', rx.dps s e1, ry.dps s e2, m1, m2, a2, a2', rfl⟩

/-- what is wanted of a value that may be a new list -/
def PostN (fa : Fa) (rho : List Addr) (H : Hp) (S : Sto) (d : D) (Q : VK) : Prop := match d with
  | .lst xs => ∀ (p : Addr) (ws : List V), H p = none → RL fa rho H xs ws → Q (.ref p) (upd H p (.lst ws))
  | d => Post fa rho H S d Q
def biIs : Bi → Value
  | .len => .builtin "len" | .tuple => .type "tuple" | .list => .type "list" | .sorted => .builtin "sorted" | .int => .type "int" | .min => .builtin "min" | .max => .builtin "max"
  | .sum => .builtin "sum" | .repr => .builtin "repr" | .abs => .builtin "abs" | .any => .builtin "any" | .all => .builtin "all"

theorem RL.two {x y : D} {vs : List V} (r : RL fa rho H [x, y] vs) : ∃ v u, vs = [v, u] ∧ R fa rho H x v ∧ R fa rho H y u := by
  cases r with
  | cons a b => cases b with
    | cons c d => cases d; exact ⟨_, _, rfl, a, c⟩
theorem RL.one {x : D} {vs : List V} (r : RL fa rho H [x] vs) : ∃ v, vs = [v] ∧ R fa rho H x v := by
  cases r with
  | cons a b => cases b; exact ⟨_, rfl, a⟩
theorem min_ok (hc : X.A.handled = none) (hu : X.A.units + 200 < cLine) {a b : D} {v u : V} {c : Bool} {Q : VK} (s : SR fa rho H S) (h : ltD S b a = some c) (rx : R fa rho H a v) (ry : R fa rho H b u) (q : Q (if c = true then u else v) H) : caM X (.builtin "min") [v, u] H Q := by
  obtain ⟨p, p', d1, d2, m1, m2, e1, e2, rfl⟩ := two_ok (X := X) s h ry rx
  intro pins s σ us I r
  cases r with
  | cons r1 r2 => cases r2 with
    | cons r2 r3 =>
      cases r3
      obtain ⟨as, q1⟩ := Dp.reads I p' v _ d2 r1
      obtain ⟨bs, q2⟩ := Dp.reads I p u _ d1 r2
      refine ev_min_two hc q1 q2 m1 (by simp [PyData.depthAll]; omega) fun h' tk k => ⟨_, H, I.kept k, ?_, q⟩
      cases W.dataLt p p' <;> simp <;> assumption
theorem max_ok (hc : X.A.handled = none) (hu : X.A.units + 200 < cLine) {a b : D} {v u : V} {c : Bool} {Q : VK} (s : SR fa rho H S) (h : ltD S a b = some c) (rx : R fa rho H a v) (ry : R fa rho H b u) (q : Q (if c = true then u else v) H) : caM X (.builtin "max") [v, u] H Q := by
  obtain ⟨p, p', d1, d2, m1, m2, e1, e2, rfl⟩ := two_ok (X := X) s h rx ry
  intro pins s σ us I r
  cases r with
  | cons r1 r2 => cases r2 with
    | cons r2 r3 =>
      cases r3
      obtain ⟨as, q1⟩ := Dp.reads I p v _ d1 r1
      obtain ⟨bs, q2⟩ := Dp.reads I p' u _ d2 r2
      refine ev_max_two hc q1 q2 m2 (by simp [PyData.depthAll]; omega) fun h' tk k => ⟨_, H, I.kept k, ?_, q⟩
      cases W.dataLt p p' <;> simp <;> assumption
theorem repr_ok (hg : X.A.guards = some []) (hu : X.A.units + 200 < cLine) {a : D} {v : V} {p : PyData} {Q : VK} (s : SR fa rho H S) (e : (D.deep S a).py = some p) (hq : isRp a = true) (hs : p.showable = true) (hz : p.shown.length ≤ sizeLine) (hd : p.depth ≤ 64)
    (rx : R fa rho H a v) (q : Q (.str p.shown) H) : caM X (.builtin "repr") [v] H Q := by
  have dp : Dp X.K H v p := rx.dps s e
  have seq : isSeq a = true → caM X (.builtin "repr") [v] H Q := fun hq => by
    obtain ⟨adr, rfl⟩ : ∃ adr, v = V.ref adr := by
      cases rx <;> first | exact ⟨_, rfl⟩ | (simp [isSeq] at hq)
    intro pins st σ us I r
    cases r with
    | cons r1 r2 =>
      cases r2
      cases r1
      obtain ⟨as, q1⟩ := Dp.reads I p _ _ dp rfl
      refine repr_of_reads' (h₀ := st.heap) q1 hs (fun z => by rw [noDict e] at z; cases z) hg (by omega) (fun _ _ e => e) (fun h' u tk k => ⟨.str p.shown, H, I.kept k, ⟨u, rfl⟩, q⟩) hz
  cases rx with
  | int i =>
    cases e
    intro pins st σ us I r
    cases r with
    | cons r1 r2 =>
      cases r2
      obtain ⟨t, rfl⟩ := r1
      simp only [PyData.showable, decide_eq_true_eq] at hs
      simp only [PyData.shown] at q
      exact PySem.P.repr_of_int hs ⟨.str (toString i), H, I.kept fun _ _ e => e, ⟨_, rfl⟩, q⟩
  | bl b =>
    cases e
    intro pins st σ us I r
    cases r with
    | cons r1 r2 =>
      cases r2
      cases r1
      simp only [PyData.shown] at q
      exact PySem.P.repr_of_bool ⟨.str (if b then "True" else "False"), H, I.kept fun _ _ e => e, ⟨_, rfl⟩, q⟩
  | non =>
    cases e
    intro pins st σ us I r
    cases r with
    | cons r1 r2 =>
      cases r2
      cases r1
      exact PySem.P.repr_of_none ⟨.str "None", H, I.kept fun _ _ e => e, ⟨_, rfl⟩, q⟩
  | _ => first | exact seq rfl | (simp [isRp] at hq)
end
end Ev
end
section
set_option linter.all false
set_option Elab.async false
set_option maxRecDepth 100000
set_option maxHeartbeats 2000000
/-! E6: sorted; all built-ins by values; methods; stores. -/
namespace Ev
open PySem PySem.Spec PyProof.Rows L2
section
variable {X : Cx} {fa : Fa} {rho : List Addr} {H : Hp} {S : Sto}

theorem RL.zipMem : ∀ {ds : List D} {vs : List V}, RL fa rho H ds vs → ∀ b ∈ ds.zip vs, R fa rho H b.1 b.2
  | _, _, .nil, b, h => by simp at h
  | _, _, .cons h1 h2, b, h => by
    rw [List.zip_cons_cons] at h
    rcases List.mem_cons.mp h with e | h
    · rw [e]; exact h1
    · exact RL.zipMem h2 b h
theorem RL.ofPairs : ∀ {bs : List (D × V)}, (∀ b ∈ bs, R fa rho H b.1 b.2) → RL fa rho H (bs.map (·.1)) (bs.map (·.2))
  | [], _ => .nil
  | b :: bs, h => .cons (h b List.mem_cons_self) (RL.ofPairs fun c hc => h c (List.mem_cons_of_mem _ hc))
theorem pys_mem : ∀ {xs : List D} {ps : List PyData}, D.pys xs = some ps → ∀ x ∈ xs, ∃ p, x.py = some p ∧ p ∈ ps
  | [], ps, h, x, hx => by simp at hx
  | d :: ds, ps, h, x, hx => by
    simp only [D.pys] at h
    cases e1 : D.py d with
    | none => rw [e1] at h; simp at h
    | some a =>
      cases e2 : D.pys ds with
      | none => rw [e1, e2] at h; simp at h
      | some b =>
        rw [e1, e2] at h; cases h
        rcases List.mem_cons.mp hx with e | hx
        · rw [e]; exact ⟨a, e1, List.mem_cons_self⟩
        · obtain ⟨p, q1, q2⟩ := pys_mem e2 x hx
          exact ⟨p, q1, List.mem_cons_of_mem _ q2⟩
def encP (b : D × V) : PyData := b.1.py.getD .none
theorem encs : ∀ {xs : List D} {vs : List V} {ps : List PyData}, D.pys xs = some ps → xs.length = vs.length → (xs.zip vs).map encP = ps
  | [], _, ps, h, _ => by simp only [D.pys] at h; cases h; simp
  | d :: ds, [], ps, h, hl => by simp at hl
  | d :: ds, v :: vs, ps, h, hl => by
    simp only [D.pys] at h
    cases e1 : D.py d with
    | none => rw [e1] at h; simp at h
    | some a =>
      cases e2 : D.pys ds with
      | none => rw [e1, e2] at h; simp at h
      | some b =>
        rw [e1, e2] at h; cases h
        rw [List.zip_cons_cons, List.map_cons, encs e2 (by simpa using hl)]
        show (d.py.getD .none :: b) = a :: b
        rw [e1]; rfl
theorem eachV : ∀ {ds : List D} {vs : List V} {us : List Value}, ds.length = vs.length → Vals vs us → W.EachIs (fun u (b : D × V) => RelV b.2 u) us (ds.zip vs)
  | [], [], _, _, .nil => .nil
  | d :: ds, v :: vs, _, hl, .cons r t => .cons r (eachV (by simpa using hl) t)
  | [], _ :: _, _, h, _ => by simp at h
  | _ :: _, [], _, h, _ => by simp at h
theorem each_vals : ∀ {us : List Value} {bs : List (D × V)}, W.EachIs (fun u (b : D × V) => RelV b.2 u) us bs → Vals (bs.map (·.2)) us
  | _, _, .nil => .nil
  | _, _, .cons r t => .cons r (each_vals t)
theorem eachR {pins : List (Addr × Obj)} {σ : L2.St} {s : Shared} (I : Inv X pins σ H s) : ∀ {ds : List D} {vs : List V} {us : List Value} {ps : List PyData}, RL fa rho H ds vs → D.pys ds = some ps → Vals vs us → W.EachIs (fun u (b : D × V) => ∃ as, Reads s.heap u (encP b) as) us (ds.zip vs)
  | [], _, _, _, .nil, _, .nil => .nil
  | d :: ds, v :: vs, _, ps, .cons h1 h2, h, .cons r t => by
    simp only [D.pys] at h
    cases e1 : D.py d with
    | none => rw [e1] at h; simp at h
    | some a =>
      cases e2 : D.pys ds with
      | none => rw [e1, e2] at h; simp at h
      | some b =>
        rw [e1, e2] at h; cases h
        refine .cons ?_ (eachR I h2 e2 t)
        obtain ⟨as, q⟩ := Dp.reads I a v _ (h1.dp e1) r
        exact ⟨as, by show Reads s.heap _ (d.py.getD .none) as; rw [e1]; exact q⟩

theorem sorted_ok (hu : X.A.units + 200 < cLine) {xs : List D} {vs : List V} {a : Addr} {Q : VK} (hl : SqL X.K H a vs) (r : RL fa rho H xs vs) (hs : sortOk xs = true)
    (q : ∀ (p : Addr) (ws : List V), H p = none → RL fa rho H (xs.mergeSort sortLeD) ws → Q (.ref p) (upd H p (.lst ws))) : caM X (.builtin "sorted") [.ref a] H Q := by
  unfold sortOk at hs
  cases e : D.pys xs with
  | none => rw [e] at hs; cases hs
  | some ps =>
    rw [e] at hs
    simp only [Bool.and_eq_true] at hs
    obtain ⟨⟨h1, h2⟩, h3⟩ := hs
    have hen := encs e r.length
    intro pins s σ us I rx
    cases rx with
    | cons r1 r2 =>
      cases r2
      cases r1
      obtain ⟨its, rv, hp, hz⟩ := I.list hl
      refine W.sorted_data (R := fun u (b : D × V) => RelV b.2 u) (enc := encP) (bs := xs.zip vs) hp.isList (eachV r.length rv) (eachR I r e rv) ?_ ?_ ?_ ?_ fun out hlen ho => ?_
      · rw [hen]
        exact fun d hd d' hd' => List.all_eq_true.mp (List.all_eq_true.mp h1 d hd) d' hd'
      · rw [hen]
        rcases Bool.or_eq_true_iff.mp h3 with h3 | h3
        · refine .inl fun d hd => ?_
          have z := List.all_eq_true.mp h3 d hd
          unfold isTup1 at z
          split at z
          · exact ⟨_, _, rfl⟩
          · cases z
        · refine .inr fun d hd => ?_
          have z := List.all_eq_true.mp h3 d hd
          unfold isFlat1 at z
          split at z
          · cases z
          · cases z
          · rename_i k1 k2
            exact ⟨k1, fun ys => k2 ys⟩
      · rw [List.length_zip, r.length, Nat.min_self]; exact hz
      · intro b hb
        have hm : encP b ∈ ps := by rw [← hen]; exact List.mem_map.mpr ⟨b, hb, rfl⟩
        have := of_decide_eq_true (List.all_eq_true.mp h2 _ hm)
        omega
      · obtain ⟨ep, he⟩ := sortedAll_at s.heap its out.toArray
        have hm : ((xs.zip vs).mergeSort (W.dataLe false encP)).map (·.1) = xs.mergeSort sortLeD := by
          rw [W.sort_maps (s := sortLeD) (fun b : D × V => b.1) (l := xs.zip vs) (r := W.dataLe false encP) (fun b hb c hc => ?_)]
          · congr 1
            rw [List.map_fst_zip]
            exact Nat.le_of_eq r.length
          · obtain ⟨p, e1, _⟩ := pys_mem e b.1 (List.of_mem_zip hb).1
            obtain ⟨p', e2, _⟩ := pys_mem e c.1 (List.of_mem_zip hc).1
            rw [W.dataLe_eq]
            show (!W.dataLt (encP c) (encP b)) = sortLeD b.1 c.1
            unfold sortLeD encP
            rw [e1, e2]; rfl
        have hr : RL fa rho H (xs.mergeSort sortLeD) (((xs.zip vs).mergeSort (W.dataLe false encP)).map (·.2)) := by
          rw [← hm]
          refine RL.ofPairs fun b hb => r.zipMem b ?_
          exact (List.mergeSort_perm _ _).mem_iff.mp hb
        have hv := each_vals ho
        have hlo : (((xs.zip vs).mergeSort (W.dataLe false encP)).map (·.2)).length ≤ sizeLine := by
          rw [List.length_map, List.length_mergeSort, List.length_zip, r.length, Nat.min_self]; exact hz
        exact ⟨.ref (s.heap.objs.size + 1), upd H (s.heap.objs.size + 1) (.lst _), I.laid (t' := s.toks) (fun _ _ => sortedAll_old) (Nat.le_succ _) ⟨hlo, out, ep, hv, he⟩, rfl, q _ _ (I.hok.fresh (Nat.le_succ _)) hr⟩

/-- list.sort over a list laid just now -/
theorem sort_new {A : Around} {E : Value → Shared → Prop} (hu : A.units + 100 < cLine) {s : Shared} {xs : List D} {vs : List V} {acc : List Value} {Q : Value → Shared → Prop} (I : Inv X pins σ H s) (r : RL fa rho H xs vs) (rv : Vals vs acc) (hs : sortOk xs = true) (hz : vs.length ≤ sizeLine)
    (q : ∀ (ws : List V) (s' : Shared), Inv X pins σ (upd H s.heap.objs.size (.lst ws)) s' → H s.heap.objs.size = none → RL fa rho H (xs.mergeSort sortLeD) ws → Q .none s') :
    wpAny (model X.prog X.w) A (call (.builtin "list.sort") [.ref s.heap.objs.size]) Q E { s with heap := s.heap.push { cls := .type "list", data := .seq acc.toArray } } := by
  unfold sortOk at hs
  cases e : D.pys xs with
  | none => rw [e] at hs; cases hs
  | some ps =>
    rw [e] at hs
    simp only [Bool.and_eq_true] at hs
    obtain ⟨⟨h1, h2⟩, h3⟩ := hs
    have hen := encs e r.length
    have hlv := rv.length
    have hlz : (xs.zip vs).length = vs.length := by rw [List.length_zip, r.length, Nat.min_self]
    have ho : (s.heap.push { cls := .type "list", data := .seq acc.toArray }).get? s.heap.objs.size = some (seqObj "list" acc.toArray 0) := Heap.get?_push_size _ rfl
    have hal : W.AllAlike ((xs.zip vs).map encP) := by
      rw [hen]
      exact fun d hd d' hd' => List.all_eq_true.mp (List.all_eq_true.mp h1 d hd) d' hd'
    have hk : W.Sortable ((xs.zip vs).map encP) := by
      rw [hen]
      rcases Bool.or_eq_true_iff.mp h3 with h3 | h3
      · refine .inl fun d hd => ?_
        have z := List.all_eq_true.mp h3 d hd
        unfold isTup1 at z
        split at z
        · exact ⟨_, _, rfl⟩
        · cases z
      · refine .inr fun d hd => ?_
        have z := List.all_eq_true.mp h3 d hd
        unfold isFlat1 at z
        split at z
        · cases z
        · cases z
        · rename_i k1 k2
          exact ⟨k1, fun ys => k2 ys⟩
    have hb : ∀ b ∈ xs.zip vs, A.units + 1 + (encP b).depth < cLine := fun b hb => by
      have hm : encP b ∈ ps := by rw [← hen]; exact List.mem_map.mpr ⟨b, hb, rfl⟩
      have := of_decide_eq_true (List.all_eq_true.mp h2 _ hm)
      omega
    have er := eachR I r e rv
    have er' : W.EachIs (fun v b => ∃ as, Reads (W.sortingHeap (s.heap.push { cls := .type "list", data := .seq acc.toArray }) s.heap.objs.size acc) v (encP b) as) acc (xs.zip vs) :=
      er.mono fun v b ⟨as, rr⟩ => ⟨as, PyProof.Rows.Reads.keeps (fun b o hb => W.sortingHeap_old (Nat.ne_of_lt (Heap.lt_size hb)) (Heap.get?_push_of_some _ hb)) rr⟩
    have ev := eachV r.length rv
    refine PySem.wpAny_call_entry slot_list_sort ⟨_, ho, rfl⟩ entry_list_sort (W.list_sort_vals (κ := W.dataKind (W.sortingHeap (s.heap.push { cls := .type "list", data := .seq acc.toArray }) s.heap.objs.size acc) ((xs.zip vs).map encP)) ho
      (W.SortsAt.data (s := { s with heap := W.sortingHeap (s.heap.push { cls := .type "list", data := .seq acc.toArray }) s.heap.objs.size acc }) (W.each_map (R := fun v d => ∃ as, Reads (W.sortingHeap (s.heap.push { cls := .type "list", data := .seq acc.toArray }) s.heap.objs.size acc) v d as) encP er') hal hk (W.bound_map hb)) (by rw [← hlv]; exact hz) ⟨.none, rfl, ?_⟩) (args_list_sort _)
    have ho2 := W.sortVals_data false ev er' hal
    generalize W.sortVals (W.dataKind (W.sortingHeap (s.heap.push { cls := .type "list", data := .seq acc.toArray }) s.heap.objs.size acc) ((xs.zip vs).map encP)) false acc acc = out at ho2 ⊢
    have hm : ((xs.zip vs).mergeSort (W.dataLe false encP)).map (·.1) = xs.mergeSort sortLeD := by
      rw [W.sort_maps (s := sortLeD) (fun b : D × V => b.1) (l := xs.zip vs) (r := W.dataLe false encP) (fun b hb c hc => ?_)]
      · congr 1
        rw [List.map_fst_zip]
        exact Nat.le_of_eq r.length
      · obtain ⟨p, e1, _⟩ := pys_mem e b.1 (List.of_mem_zip hb).1
        obtain ⟨p', e2, _⟩ := pys_mem e c.1 (List.of_mem_zip hc).1
        rw [W.dataLe_eq]
        show (!W.dataLt (encP c) (encP b)) = sortLeD b.1 c.1
        unfold sortLeD encP
        rw [e1, e2]; rfl
    have hr : RL fa rho H (xs.mergeSort sortLeD) (((xs.zip vs).mergeSort (W.dataLe false encP)).map (·.2)) := by
      rw [← hm]
      refine RL.ofPairs fun b hb => r.zipMem b ?_
      exact (List.mergeSort_perm _ _).mem_iff.mp hb
    have hv := each_vals ho2
    have hlo : (((xs.zip vs).mergeSort (W.dataLe false encP)).map (·.2)).length ≤ sizeLine := by
      rw [List.length_map, List.length_mergeSort, hlz]; exact hz
    obtain ⟨ep, he⟩ := sortedHeap_at (out := out.toArray) ho
    exact q _ _ (I.laid (t' := s.toks) (fun b o hb => (sortedHeap_old (Nat.ne_of_lt (Heap.lt_size hb)) (by rw [Heap.size_push]; exact Nat.lt_succ_of_lt (Heap.lt_size hb))).trans (Heap.get?_push_of_some _ hb)) (Nat.le_refl _) ⟨hlo, out, ep, hv, he⟩) (I.hok.fresh (Nat.le_refl _)) hr

/-- sorted(t), t a tuple -/
theorem sorted_tupOk (hu : X.A.units + 200 < cLine) {xs : List D} {vs : List V} {a : Addr} {Q : VK} (hl : SqT X.K H a vs) (r : RL fa rho H xs vs) (hs : sortOk xs = true)
    (q : ∀ (p : Addr) (ws : List V), H p = none → RL fa rho H (xs.mergeSort sortLeD) ws → Q (.ref p) (upd H p (.lst ws))) : caM X (.builtin "sorted") [.ref a] H Q := by
  intro pins s σ us I rx
  cases rx with
  | cons r1 r2 =>
    cases r2
    cases r1
    obtain ⟨its, rv, hp, hz⟩ := I.tuple hl
    obtain ⟨o, ho, hc, nn, hd⟩ := hp
    have hsz : its.toArray.size ≤ sizeLine := by rw [List.size_toArray, ← rv.length]; exact hz
    refine Calls.call_function_entry kind_sorted plain_sorted entry_sorted (args_sorted1 _) ?_
    unfold Builtin.«sorted»
    refine wpAny_bind (m := checkCount "sorted" 1 1 _) (wpAny_pure ?_)
    refine wpAny_bind (wpAny_collect_seq (hsz := hsz) a (.inr rfl) ho hc hd fun h' hk => ?_)
    have J : Inv X pins σ H { s with heap := h' } := I.kept (t' := s.toks) hk
    refine wpAny_bind (wpAny_newList ?_ (by show its.toArray.toList.length ≤ sizeLine; rw [← rv.length]; exact hz))
    refine wpAny_bind (wpAny_holding (sort_new (by show X.A.units + 1 + 100 < _; omega) J r rv hs hz fun ws s2 J2 hfree hrl => ?_))
    exact wpAny_pure ⟨_, rfl, .ref h'.objs.size, _, J2, rfl, q _ _ hfree hrl⟩
theorem bi_ok (hc : X.calm = true) (hd : X.A.handled = none) (hg : X.A.guards = some []) (hu : X.A.units + 200 < cLine) {b : Bi} {ds : List D} {d : D} {vs : List V} {Q : VK} (s : SR fa rho H S) (h : biD S b ds = some d) (r : RL fa rho H ds vs) (q : PostN fa rho H S d Q) : caM X (biIs b) vs H Q := by
  unfold biD at h
  split at h
  · rename_i a
    obtain ⟨v, rfl, ra⟩ := r.one
    split at h
    · rename_i xs e
      cases h
      obtain ⟨p, ws, rfl, h1, h2, _⟩ := ra.readT s e
      refine caM_of call_len_seq ⟨p, ws, rfl, .inr (SqT.of h1), ?_⟩
      rw [← h2.length]; exact Post.here q s (.int _)
    · rename_i xs e
      cases h
      obtain ⟨p, ws, rfl, h1, h2⟩ := ra.readL (K := X.K) s e
      refine caM_of call_len_seq ⟨p, ws, rfl, .inl h1, ?_⟩
      rw [← h2.length]; exact Post.here q s (.int _)
    · cases h
  · rename_i a
    obtain ⟨v, rfl, ra⟩ := r.one
    split at h
    · rename_i xs e
      cases h
      obtain ⟨p, ws, rfl, h1, h2, h3⟩ := ra.readT s e
      exact caM_of call_tuple_of ⟨p, ws, rfl, .inr ⟨SqT.of h1, Post.here q s h3⟩⟩
    · rename_i xs e
      cases h
      obtain ⟨p, ws, rfl, h1, h2⟩ := ra.readL (K := X.K) s e
      exact caM_of call_tuple_of ⟨p, ws, rfl, .inl ⟨h1, fun l hl => Post.tup q s h2 hl⟩⟩
    · cases h
  · rename_i a
    obtain ⟨v, rfl, ra⟩ := r.one
    split at h
    · rename_i xs e
      cases h
      obtain ⟨p, ws, rfl, h1, h2, h3⟩ := ra.readT s e
      exact caM_of call_list_of ⟨p, ws, rfl, .inr (SqT.of h1), fun l hl => q l ws hl h2⟩
    · rename_i xs e
      cases h
      obtain ⟨p, ws, rfl, h1, h2⟩ := ra.readL (K := X.K) s e
      exact caM_of call_list_of ⟨p, ws, rfl, .inl h1, fun l hl => q l ws hl h2⟩
    · cases h
  · rename_i a
    obtain ⟨v, rfl, ra⟩ := r.one
    split at h
    · rename_i xs e
      split at h
      · rename_i hs
        cases h
        obtain ⟨p, ws, rfl, h1, h2⟩ := ra.readL (K := X.K) s e
        rw [sortD_eq] at q
        exact sorted_ok (by omega) h1 h2 hs q
      · cases h
    · rename_i xs e
      split at h
      · rename_i hs
        cases h
        obtain ⟨p, ws, rfl, h1, h2, _⟩ := ra.readT s e
        rw [sortD_eq] at q
        exact sorted_tupOk (by omega) (SqT.of h1) h2 hs q
      · cases h
    · cases h
  · obtain ⟨v, rfl, ra⟩ := r.one
    cases h
    cases ra
    exact caM_of call_int1 (.inl ⟨_, rfl, Post.here q s (.int _)⟩)
  · obtain ⟨v, rfl, ra⟩ := r.one
    cases h
    cases ra
    exact caM_of call_int1 (.inr ⟨_, rfl, Post.here q s (.int _)⟩)
  · rename_i a
    obtain ⟨v, rfl, ra⟩ := r.one
    split at h
    · rename_i hq
      split at h
      · rename_i p e
        split at h
        · rename_i hs
          cases h
          simp only [Bool.and_eq_true, decide_eq_true_eq] at hs
          have hz : p.shown.length ≤ sizeLine := by
            have := hs.1.2
            unfold lenOk at this
            exact of_decide_eq_true this
          exact repr_ok hg hu s e hq hs.1.1 hz hs.2 ra (Post.here q s (.rep e))
        · cases h
      · cases h
    · cases h
  · rename_i a b
    obtain ⟨v, u, rfl, ra, rb⟩ := r.two
    have fin : ∀ {x : D} {y : V}, PostN fa rho H S x Q → R fa rho H x y → (∀ xs, x ≠ .lst xs) → Q y H := fun {x y} q r hn => by
      cases x <;> first | exact Post.here q s r | exact absurd rfl (hn _)
    split at h
    · rename_i e
      split at h
      · cases h
      · rename_i hn
        cases h
        exact min_ok hd hu s e ra rb (by simp only [if_pos]; exact fin q rb hn)
    · rename_i e
      split at h
      · cases h
      · rename_i hn
        cases h
        refine min_ok hd hu s e ra rb ?_
        rw [if_neg (by decide)]
        exact fin q ra hn
    · cases h
  · rename_i a b
    obtain ⟨v, u, rfl, ra, rb⟩ := r.two
    have fin : ∀ {x : D} {y : V}, PostN fa rho H S x Q → R fa rho H x y → (∀ xs, x ≠ .lst xs) → Q y H := fun {x y} q r hn => by
      cases x <;> first | exact Post.here q s r | exact absurd rfl (hn _)
    split at h
    · rename_i e
      split at h
      · cases h
      · rename_i hn
        cases h
        exact max_ok hd hu s e ra rb (by simp only [if_pos]; exact fin q rb hn)
    · rename_i e
      split at h
      · cases h
      · rename_i hn
        cases h
        refine max_ok hd hu s e ra rb ?_
        rw [if_neg (by decide)]
        exact fin q ra hn
    · cases h
  · cases h
end
end Ev
end
section
set_option linter.all false
set_option Elab.async false
set_option maxRecDepth 100000
set_option maxHeartbeats 2000000
/-! E7: defs and their promises; the check of a text; expressions without blocks. -/
namespace Ev
open PySem PySem.Spec PyProof.Rows L2

/-! ### defs -/
/-- a def keeps its promise where nothing is being shown -/
structure FnG (P : Program) (w : World) (K : W.Frag) (mg : Str → Option Value) (base : Heap) (k : Nat) (a : Addr) (fd : FuncData) (ps : List Str) (sp : List V → Hp → VK → Prop) : Prop where
  len : ∀ vs H Q, sp vs H Q → vs.length = ps.length
  run : ∀ (A : Around) (outer : List PySem.Env) (s : Shared) (H : Hp) (args : Args) (us : List Value) (vs : List V) (Q : VK), Room k A → A.guards = some [] → Env0 P w K mg base A outer s H → BindsTo s fd args (ps.zip us) → Vals vs us → sp vs H Q →
    codeAny (model P w) A (.call (.ref a) args) (fun r s' => match r with
      | .ok (.ret u) => L2.CE outer P w H s Q u s'
      | _ => False) s
theorem FnG.mono {P : Program} {w : World} {K : W.Frag} {mg : Str → Option Value} {base : Heap} {j k : Nat} {a : Addr} {fd : FuncData} {ps : List Str} {sp : List V → Hp → VK → Prop} (F : FnG P w K mg base j a fd ps sp) (h : j ≤ k) : FnG P w K mg base k a fd ps sp :=
  ⟨F.len, fun A outer s H args us vs Q hr => F.run A outer s H args us vs Q (hr.mono h)⟩

structure Gam where
  sc : Scope
  fn : Str → Bool
  N : List Str
  gen : Bool := false
/-- the names of the text's defs, their parameters -/
structure Pg where
  fns : List Str
  prs : List (List Str)
  kcs : List (Nat × Nat × List Str × List Nat) := []

abbrev FnT := Nat → List D → Sto → R3 D
/-- what a def of the table promises -/
def spF (fn : Nat → Option Addr) (tb : Addr → Prop) (F : FnT) (f : Nat) (ps : List Str) : List V → Hp → VK → Prop := fun vs H Q =>
  vs.length = ps.length ∧ ∃ (fa : Fa) (rho : List Addr) (S : Sto) (ds : List D) (d : D) (S' : Sto), (fa.fn = fn ∧ fa.tb = tb) ∧ RL fa rho H ds vs ∧ SR fa rho H S ∧ F f ds S = .ok d S' ∧ Post fa rho H S' d Q

/-- parameters bound by position and by name: n values, the names ks; g tells for each parameter which one it gets -/
def KbOk (fd : FuncData) (ps : List Str) (n : Nat) (ks : List Str) (g : List Nat) : Prop :=
  ∀ (s : Shared) (us ws : List Value), us.length = n → ws.length = ks.length → BindsTo s fd ⟨us, ks.zip ws⟩ (ps.zip (g.map fun j => (us ++ ws).getD j .none))

/-- the context of a body, of a block -/
structure OkX (pg : Pg) (fa : Fa) (F : FnT) (k j : Nat) (G : Gam) (X : Cx) : Prop where
  sc : X.env.scope = G.sc
  fn : X.fn = G.fn
  N : X.N = G.N
  nd : G.N.Nodup
  calm : X.calm = true
  gd : X.A.guards = some []
  room : Room (k + j) X.A
  blt : ∀ x ∈ (["len", "tuple", "list", "sorted", "int", "min", "max", "sum", "repr", "abs", "any", "all", "range", "enumerate", "zip", "reversed"] : List Str), X.mg x = none
  fns : ∀ f a, fa.fn f = some a → ∃ x ps fd, pg.fns[f]? = some x ∧ pg.prs[f]? = some ps ∧ X.mg x = some (.ref a) ∧ W.keepIn X.K (.ref a) = true ∧ Binds X.K fd ps [] ∧ FnG X.prog X.w X.K X.mg X.base k a fd ps (spF fa.fn fa.tb F f ps) ∧ ∀ n ks g, pg.kcs.contains (f, n, ks, g) = true → KbOk fd ps n ks g
  all : ∀ f x, pg.fns[f]? = some x → ∃ a, fa.fn f = some a
  tab : G.gen = true → 7 ≤ j ∧ ∃ c P, X.env.code = .ref c ∧ GxR.TabB X.base X.mg c P ∧ fa.tb P
section
variable {pg : Pg} {fa : Fa} {F : FnT} {k j : Nat} {G : Gam} {X : Cx}
theorem OkX.hd (o : OkX pg fa F k j G X) : X.A.handled = none := o.room.hd
theorem OkX.un (o : OkX pg fa F k j G X) : X.A.units + 200 < cLine := by have := o.room.un; omega
/-- a def is called -/
theorem call_ok (o : OkX pg fa F k j G X) {f : Nat} {a : Addr} {ds : List D} {S S' : Sto} {d : D} {rho : List Addr} {H : Hp} {vs : List V} {Q : VK} (hf : fa.fn f = some a) (h : F f ds S = .ok d S') (hl : ∀ ps, pg.prs[f]? = some ps → ds.length = ps.length) (r : RL fa rho H ds vs) (s : SR fa rho H S) (q : Post fa rho H S' d Q) :
    caM X (.ref a) vs H Q := by
  obtain ⟨x, ps, fd, e1, e2, e3, e4, e5, e6⟩ := o.fns f a hf
  intro pins st σ us I rv
  have hlen : vs.length = ps.length := by rw [← r.length]; exact hl ps e2
  have hu : us.length = ps.length := by rw [← rv.length]; exact hlen
  have hb := e5 st us I.kIn (by rw [List.append_nil]; exact hu)
  rw [List.append_nil] at hb
  refine wpAny_call (codeAny_mono (e6.1.run X.A X.stack st H ⟨us, []⟩ us vs Q (o.room.mono (Nat.le_add_right _ _)) o.gd I.env0 hb rv ⟨hlen, fa, rho, S, ds, d, S', ⟨rfl, rfl⟩, r, s, h, q⟩) fun rr s' hq => ?_)
  cases rr with
  | error e => exact False.elim hq
  | ok fl =>
    cases fl with
    | ret u => exact I.after hq
    | next => exact False.elim hq
    | brk => exact False.elim hq
    | cont => exact False.elim hq
end

/-! ### the check -/
def vis (sc : Scope) (x : Str) : Bool := match sc.names.lookup x with
  | some .local | some .cell | some .free => true
  | _ => false
def glo (sc : Scope) (x : Str) : Bool := match sc.names.lookup x with
  | some .globalImplicit => true
  | _ => false
theorem vis_ok {sc : Scope} {x : Str} (h : vis sc x = true) : Vis sc x := by
  unfold vis at h
  unfold Vis
  split at h
  · exact .inl (by assumption)
  · exact .inr (.inl (by assumption))
  · exact .inr (.inr (by assumption))
  · cases h
theorem glo_ok {sc : Scope} {x : Str} (h : glo sc x = true) : sc.names.lookup x = some .globalImplicit := by
  unfold glo at h
  split at h
  · assumption
  · cases h
def noDbg (x : Str) : Bool := !(x == ("__debug__" : Str)) && !(x == ("__classdict__" : Str))
def constD : Const → Option D
  | .none => some .non
  | .bool b => some (.bl b)
  | .int i => some (.int i)
  | .str s => some (.str s)
  | _ => none
def biName : Bi → Str
  | .len => "len" | .tuple => "tuple" | .list => "list" | .sorted => "sorted" | .int => "int" | .min => "min" | .max => "max" | .sum => "sum" | .repr => "repr" | .abs => "abs" | .any => "any" | .all => "all"
def meName : Me → Str
  | .append => "append" | .index => "index" | .count => "count" | .pop => "pop" | .get => "get" | .extend => "extend"
def opEq : Operator → BOp → Bool
  | .Add, .add | .Sub, .sub | .Mult, .mul | .FloorDiv, .fdiv | .Mod, .mod | .Pow, .pow => true
  | _, _ => false
def cmpEq : CmpOp → COp → Bool
  | .Eq, .eq | .NotEq, .ne | .Lt, .lt | .LtE, .le | .Gt, .gt | .GtE, .ge | .In, .isin | .NotIn, .notin | .Is, .is_ | .IsNot, .isnot => true
  | _, _ => false
theorem opEq_ok {a : Operator} {b : BOp} (h : opEq a b = true) : a = opIs b := by cases b <;> cases a <;> first | rfl | cases h
theorem cmpEq_ok {a : CmpOp} {b : COp} (h : cmpEq a b = true) : a = cmpIs b := by cases b <;> cases a <;> first | rfl | cases h
/-- an expression whose parts stand as they are read -/
def isSlice : Expr → Bool
  | .Slice .. => true
  | _ => false
def isCall0 : Expr → Bool
  | .Call (.Name _ _) [] [] _ => true
  | _ => false
def isStar : Expr → Bool
  | .Starred .. => true
  | _ => false
def isSet : Expr → Bool
  | .Set .. => true
  | _ => false
def isComp : Expr → Bool
  | .ListComp .. | .SetComp .. | .DictComp .. => true
  | _ => false
/-- a slice [::-1] -/
def isRev : Expr → Bool
  | .Slice none none (some (.UnaryOp .USub (.Constant (.int 1) _ _) _)) _ => true
  | _ => false
def keyOf : Option Expr → Option Key
  | some (.Constant (.str s) _ _) => some (.inr s)
  | some (.Constant (.int i) _ _) => some (.inl i)
  | _ => none

section
variable (pg : Pg)
def chkL (ck : Expr → CE → Bool) : List Expr → List CE → Bool
  | [], [] => true
  | e :: es, c :: cs => ck e c && !isStar e && chkL ck es cs
  | _, _ => false
def chkO (ck : Expr → CE → Bool) : Option Expr → Option CE → Bool
  | none, none => true
  | some e, some c => ck e c
  | _, _ => false
def chkT (G : Gam) : Nat → Expr → CT → Bool
  | 0, _, _ => false
  | n + 1, .Name x _, .nm i => decide (G.N[i]? = some x) && (decide (G.sc.names.lookup x = some .local) || (decide (G.sc.names.lookup x = some .cell) && G.fn x))
  | n + 1, .Tuple es _ _, .tp ts => chkTs (chkT G n) es ts
  | _, _, _ => false
where chkTs (ck : Expr → CT → Bool) : List Expr → List CT → Bool
  | [], [] => true
  | e :: es, c :: cs => ck e c && !isStar e && chkTs ck es cs
  | _, _ => false
mutual
def ctSlots : CT → List Nat
  | .nm i => [i]
  | .tp ts => ctSlotss ts
def ctSlotss : List CT → List Nat
  | [] => []
  | t :: ts => ctSlots t ++ ctSlotss ts
end
def chkI (G : Gam) (ck : Expr → CE → Bool) (tg : CT) (e : Expr) (c : CI) : Bool := match e, c with
  | .Call (.Name x _) es [] _, .rng cs => decide (x = ("range" : Str)) && glo G.sc x && chkL ck es cs && decide (1 ≤ es.length) && decide (es.length ≤ 3)
  | .Call (.Name x _) [e] [] _, .enum c => decide (x = ("enumerate" : Str)) && glo G.sc x && ck e c && !isStar e && (match tg with | .tp _ => true | _ => false)
  | .Call (.Name x _) [a, b] [] _, .zip c d => decide (x = ("zip" : Str)) && glo G.sc x && ck a c && !isStar a && ck b d && !isStar b && (match tg with | .tp _ => true | _ => false)
  | .Call (.Name x _) [e] [] _, .revd c => decide (x = ("reversed" : Str)) && glo G.sc x && ck e c && !isStar e
  | e, .of c => ck e c && !isSet e
  | _, _ => false
def ownOf (N : List Str) (own : List Nat) : List (Str × Nat) := own.map fun i => (N.getD i "", i)
def Gam.blk (G : Gam) (scope : Scope) : Gam := { sc := relS scope G.sc, fn := fun x => scope.names.lookup x == some .cell, N := G.N, gen := G.gen }
def Gam.gx (G : Gam) (scope : Scope) : Gam := { sc := scope, fn := fun _ => false, N := G.N }
def isLstE : Expr → Bool
  | .List .. => true
  | _ => false
def genBi : Bi → Bool
  | .tuple | .sorted => true
  | _ => false
def gxC (scope : Scope) : Bool := !scope.isCoroutine && scope.names.all (fun y => match y.2 with | .cell => false | _ => true) && decide (scope.names.lookup (".0" : Str) = some NameKind.local)
def chkK (ck : Expr → CE → Bool) : List Keyword → List CE → Bool
  | [], [] => true
  | k :: ks, c :: cs => ck k.value c && k.arg.isSome && chkK ck ks cs
  | _, _ => false
def kwIx (ps : List Str) (n : Nat) (kws : List Keyword) (ks : List Nat) : Bool :=
  decide (ks.length = ps.length) && decide (n + kws.length = ps.length) && (List.range ps.length).all fun i => match ks[i]? with
    | some j => if j < n then decide (j = i) else decide ((kws[j - n]?.bind fun k => k.arg) = ps[i]?)
    | none => false
def chkE : Nat → Gam → Expr → CE → Bool
  | 0, _, _, _ => false
  | n + 1, G, e, c => match e, c with
    | .Name x _, .v i => decide (G.N[i]? = some x) && vis G.sc x && noDbg x
    | .Name x _, .g f => decide (pg.fns[f]? = some x) && glo G.sc x && noDbg x
    | .Constant c _ _, .k d => (match constD c with | some d' => D.beq d' d | none => false)
    | .Tuple es _ _, .tup cs => chkL (chkE n G) es cs
    | .List es _, .lst _ cs => chkL (chkE n G) es cs
    | .Dict ks vs _, .dct kk cs => decide (ks.map keyOf = kk.map some) && chkL (chkE n G) vs cs && decide (ks ≠ []) && decide (ks.length ≤ 15) && decide (ks.length = vs.length)
    | .BinOp a op b _, .bin o x y => opEq op o && chkE n G a x && chkE n G b y
    | .UnaryOp .USub a _, .neg x => chkE n G a x
    | .UnaryOp .Not a _, .not x => chkE n G a x
    | .Compare a [op] [b] _, .cmp o x y => cmpEq op o && chkE n G a x && chkE n G b y && !isSet b
    | .Compare a [op, op'] [b, c] _, .chain o o' x y z => cmpEq op o && cmpEq op' o' && chkE n G a x && chkE n G b y && chkE n G c z && !isSet b && !isSet c
    | .BoolOp .And [a, b] _, .and x y => chkE n G a x && chkE n G b y
    | .BoolOp .And (a :: b :: c :: r) p, .and x y => chkE n G a x && chkE n G (.BoolOp .And (b :: c :: r) p) y
    | .BoolOp .Or [a, b] _, .or x y => chkE n G a x && chkE n G b y
    | .BoolOp .Or (a :: b :: c :: r) p, .or x y => chkE n G a x && chkE n G (.BoolOp .Or (b :: c :: r) p) y
    | .IfExp c a b _, .ife x y z => chkE n G c x && chkE n G a y && chkE n G b z
    | .Subscript a (.Slice lo hi none _) _, .sl x l h => chkE n G a x && chkO (chkE n G) lo l && chkO (chkE n G) hi h
    | .Subscript a b _, .rev x => isRev b && chkE n G a x
    | .Subscript a b _, .ix x y => !isSlice b && chkE n G a x && chkE n G b y
    | .Call (.Name x _) (e :: es) [] _, .call f cs => decide (pg.fns[f]? = some x) && glo G.sc x && noDbg x && chkL (chkE n G) (e :: es) cs && decide ((pg.prs[f]?.map List.length) = some cs.length)
    | .Call (.Name x _) es kws _, .callk f cs g => decide (pg.fns[f]? = some x) && glo G.sc x && noDbg x && decide (kws ≠ []) && chkL (chkE n G) es (cs.take es.length) && chkK (chkE n G) kws (cs.drop es.length) &&
      pg.kcs.contains (f, es.length, kws.filterMap (·.arg), g) && decide ((pg.prs[f]?.map List.length) = some g.length) && decide (g.length = cs.length)
    | .Call (.Name x _) [.Call (.Name y _) es [] _] [] _, .tr t _ cs => decide (x = if t then ("tuple" : Str) else "list") && glo G.sc x && decide (y = ("range" : Str)) && glo G.sc y && chkL (chkE n G) es cs && decide (1 ≤ es.length) && decide (es.length ≤ 2)
    | .Call (.Name x _) (e :: es) [] _, .callv i cs => decide (G.N[i]? = some x) && vis G.sc x && noDbg x && chkL (chkE n G) (e :: es) cs
    | .Call (.Name x _) (e :: es) [] _, .bi _ b cs => decide (x = biName b) && glo G.sc x && chkL (chkE n G) (e :: es) cs
    | .Call (.Attribute o m apos) (e :: es) [] pos, .me mm x cs => decide (m = meName mm) && chkE n G o x && !isCall0 o && chkL (chkE n G) (e :: es) cs && decide (es.length < 25) && (apos.endLine == pos.line)
    | .ListComp elt [⟨tg, iter, ifs, 0⟩] scope _, .lc _ own t it cs y =>
      blkC G.N G.sc scope (ownOf G.N own) && (ctSlots t).all (fun i => own.contains i) && chkT (G.blk scope) n tg t && chkI G (chkE n G) t iter it && chkL (chkE n (G.blk scope)) ifs cs && chkE n (G.blk scope) elt y
    | .Call (.Name x _) [.GeneratorExp elt [⟨tg, iter, ifs, 0⟩] scope _] [] _, .gn _ b own t it cs y =>
      G.gen && !isLstE iter && genBi b && decide (x = biName b) && glo G.sc x && gxC scope && blkC G.N G.sc scope (ownOf G.N own) && (ctSlots t).all (fun i => own.contains i) && chkT (G.gx scope) n tg t && chkI G (chkE n G) t iter it && chkL (chkE n (G.gx scope)) ifs cs && chkE n (G.gx scope) elt y
    | .Call (.Name x _) [] [] _, .call f [] => decide (pg.fns[f]? = some x) && glo G.sc x && noDbg x && decide (pg.prs[f]?.map List.length = some 0)
    | .BinOp a op b _, .cat x y => opEq op .add && chkE n G a x && chkE n G b y
    | _, _ => false
end
end Ev
end
section
set_option linter.all false
set_option Elab.async false
set_option maxRecDepth 100000
set_option maxHeartbeats 2000000
/-! E8: expressions without blocks are sound. -/
namespace Ev
open PySem PySem.Spec PyProof.Rows L2

def SEv (fa : Fa) (X : Cx) (ev : Loc → Sto → R3 D) (e : Expr) : Prop := ∀ (l : Loc) (S : Sto) (d : D) (S' : Sto) (rho : List Addr) (σ : L2.St) (H : Hp) (Q : VK),
  ev l S = .ok d S' → LR fa rho H l σ → SR fa rho H S → Post fa rho H S' d Q → tE X e σ H Q
/-- what is wanted of a row of values -/
def PostL (fa : Fa) (rho : List Addr) (H : Hp) (S' : Sto) (ds : List D) (Q : List V → Hp → Prop) : Prop :=
  ∀ rho' H' vs, Ext rho H rho' H' → SR fa rho' H' S' → RL fa rho' H' ds vs → Q vs H'
def SLv (fa : Fa) (X : Cx) (ev : Loc → Sto → R3 (List D)) (es : List Expr) : Prop := ∀ (l : Loc) (S : Sto) (ds : List D) (S' : Sto) (rho : List Addr) (σ : L2.St) (H : Hp) (Q : List V → Hp → Prop),
  ev l S = .ok ds S' → LR fa rho H l σ → SR fa rho H S → PostL fa rho H S' ds Q → tA X es σ H Q
def PostB (fa : Fa) (rho : List Addr) (H : Hp) (S' : Sto) (b : Bool) (Q : Bool → Hp → Prop) : Prop :=
  ∀ rho' H', Ext rho H rho' H' → SR fa rho' H' S' → Q b H'
/-- a test, by the value's truth -/
def STv (fa : Fa) (X : Cx) (ev : Loc → Sto → R3 D) (e : Expr) : Prop := ∀ (l : Loc) (S : Sto) (d : D) (S' : Sto) (b : Bool) (rho : List Addr) (σ : L2.St) (H : Hp) (Q : Bool → Hp → Prop),
  ev l S = .ok d S' → truth S' d = some b → LR fa rho H l σ → SR fa rho H S → PostB fa rho H S' b Q → tT X e σ H Q

theorem star_cons {e : Expr} {es : List Expr} {env : PySem.Env} (h : isStar e = false) : starEach (e :: es) env = (false, eval e env) :: starEach es env := by
  cases e <;> first | rfl | cases h
theorem star_plain {pos : Pos} {env : PySem.Env} : ∀ {es : List Expr}, es.any isStar = false → (backTo pos (starEach es env)).any (·.1) = false
  | [], _ => rfl
  | e :: es, h => by
    rw [List.any_cons, Bool.or_eq_false_iff] at h
    rw [star_cons h.1]
    show (false || (backTo pos (starEach es env)).any (·.1)) = false
    rw [star_plain h.2]; rfl
theorem star_all {pos : Pos} {env : PySem.Env} : ∀ {es : List Expr}, es.any isStar = false → (backTo pos (starEach es env)).all (fun x => !x.1) = true
  | [], _ => rfl
  | e :: es, h => by
    rw [List.any_cons, Bool.or_eq_false_iff] at h
    rw [star_cons h.1]
    show (true && (backTo pos (starEach es env)).all (fun x => !x.1)) = true
    rw [star_all h.2]; rfl
theorem nomark' {op : CmpOp} {b : Expr} (h : isSet b = false) : behindInMarks op b = false := by
  cases b <;> first | rfl | cases h
theorem nolast {op op' : CmpOp} {b c : Expr} (h : isSet b = false) (h' : isSet c = false) : lastMarks [op, op'] [b, c] = false := by
  show behindInMarks op' c = false
  exact nomark' h'
theorem plainIx {b : Expr} (h : isSlice b = false) : ∀ o i, subscripted b false o i = operate [o, i] (getItem o i) := by
  cases b <;> first | (intro _ _; rfl) | cases h

section
variable {pg : Pg} {fa : Fa} {F : FnT} {k j : Nat} {G : Gam} {X : Cx}

theorem se_var (o : OkX pg fa F k j G X) {x : Str} {p : Pos} {i : Nat} (h1 : G.N[i]? = some x) (h2 : vis G.sc x = true) (h3 : noDbg x = true) :
    SEv fa X (fun l S => match l[i]? with | some (some d) => .ok d S | _ => .stuck) (.Name x p) := by
  intro l S d S' rho σ H Q h L s q
  simp only at h
  split at h
  · rename_i d' e
    cases h
    obtain ⟨v, ev, r⟩ := L.val i d e
    unfold noDbg at h3
    simp only [Bool.and_eq_true, Bool.not_eq_true'] at h3
    exact tE_of (pe_var (by rw [o.N]; exact h1) (by rw [o.sc]; exact vis_ok h2) h3.1 h3.2) ⟨v, ev, q.here s r⟩
  · cases h
theorem gl_of (o : OkX pg fa F k j G X) {x : Str} (h : glo G.sc x = true) : Gl X x := by
  show X.env.scope.names.lookup x = _
  rw [o.sc]; exact glo_ok h
theorem se_fun (o : OkX pg fa F k j G X) {x : Str} {p : Pos} {f : Nat} (h1 : pg.fns[f]? = some x) (h2 : glo G.sc x = true) (h3 : noDbg x = true) :
    SEv fa X (fun _ S => .ok (.fn f) S) (.Name x p) := by
  intro l S d S' rho σ H Q h L s q
  cases h
  obtain ⟨a, ha⟩ := o.all f x h1
  obtain ⟨y, ps, fd, e1, e2, e3, e4, _⟩ := o.fns f a ha
  rw [h1] at e1; cases e1
  unfold noDbg at h3
  simp only [Bool.and_eq_true, Bool.not_eq_true'] at h3
  exact tE_of (pe_glob (v := .ref a) (gl_of o h2) e3 rfl h3.1) (q.here s (.fn ha))
theorem se_const {c : Const} {i : Nat} {p : Pos} {d' : D} (hc : constD c = some d') : SEv fa X (fun _ S => .ok d' S) (.Constant c i p) := by
  intro l S d S' rho σ H Q h L s q
  cases h
  cases c <;> (simp only [constD] at hc; first | (cases hc; done) | skip)
  · cases hc; exact tE_of pe_non (q.here s .non)
  · cases hc; exact tE_of pe_bl (q.here s (.bl _))
  · cases hc; exact tE_of pe_int (q.here s (.int _))
  · cases hc; exact tE_of pe_str (q.here s (.str _))

theorem sl_nil : SLv fa X (fun l S => evL (fun _ _ _ => .stuck) [] l S) [] := by
  intro l S ds S' rho σ H Q h L s q
  cases h
  exact tA_of pa_nil (q rho H [] Ext.refl s .nil)
theorem sl_of {ev : Ev.CE → Loc → Sto → R3 D} : ∀ {es : List Expr} {cs : List Ev.CE} {ck : Expr → Ev.CE → Bool}, (∀ e c, ck e c = true → SEv fa X (ev c) e) → chkL ck es cs = true → SLv fa X (evL ev cs) es
  | [], [], ck, hs, h => by
    intro l S ds S' rho σ H Q h L s q
    cases h
    exact tA_of pa_nil (q rho H [] Ext.refl s .nil)
  | e :: es, c :: cs, ck, hs, h => by
    simp only [chkL, Bool.and_eq_true, Bool.not_eq_true'] at h
    obtain ⟨⟨h1, h2⟩, h3⟩ := h
    have ih := sl_of hs h3
    intro l S ds S' rho σ H Q h L s q
    simp only [evL] at h
    obtain ⟨d, S1, e1, h⟩ := bind_ok h
    obtain ⟨dr, S2, e2, h⟩ := bind_ok h
    cases h
    refine tA_of (pa_cons (pe_max e) (pa_max es) (star_cons h2)) ?_
    refine hs e c h1 _ _ _ _ _ _ _ _ e1 L s fun rho1 H1 v x1 s1 r1 => ?_
    refine ih _ _ _ _ _ _ _ _ e2 (L.mono x1) s1 fun rho2 H2 vs x2 s2 r2 => ?_
    exact q rho2 H2 (v :: vs) (x1.trans s1 x2) s2 (.cons (r1.mono x2) r2)
  | [], _ :: _, _, _, h => by simp [chkL] at h
  | _ :: _, [], _, _, h => by simp [chkL] at h
theorem chkL_star {ck : Expr → Ev.CE → Bool} : ∀ {es : List Expr} {cs : List Ev.CE}, chkL ck es cs = true → es.any isStar = false
  | [], [], _ => rfl
  | e :: es, c :: cs, h => by
    simp only [chkL, Bool.and_eq_true, Bool.not_eq_true'] at h
    rw [List.any_cons, h.1.2, chkL_star h.2]; rfl
  | [], _ :: _, h => by simp [chkL] at h
  | _ :: _, [], h => by simp [chkL] at h
theorem evL_len {ev : Ev.CE → Loc → Sto → R3 D} : ∀ {cs : List Ev.CE} {l : Loc} {S : Sto} {ds : List D} {S' : Sto}, evL ev cs l S = .ok ds S' → ds.length = cs.length
  | [], _, _, _, _, h => by cases h; rfl
  | c :: cs, l, S, ds, S', h => by
    simp only [evL] at h
    obtain ⟨d, S1, e1, h⟩ := bind_ok h
    obtain ⟨dr, S2, e2, h⟩ := bind_ok h
    cases h
    rw [List.length_cons, List.length_cons, evL_len e2]
theorem se_tup {ev : Loc → Sto → R3 (List D)} {es : List Expr} {x1 : Nat} {p : Pos} (hs : SLv fa X ev es) : SEv fa X (fun l S => (ev l S).bind fun ds S1 => if lenOk ds.length then .ok (.tup ds) S1 else .stuck) (.Tuple es x1 p) := by
  intro l S d S' rho σ H Q h L s q
  obtain ⟨ds, S1, e1, h⟩ := bind_ok h
  split at h
  · rename_i hz
    cases h
    refine tE_of (pe_tup (pa_max es)) (hs _ _ _ _ _ _ _ _ e1 L s fun rho1 H1 vs x1 s1 r1 => ?_)
    exact ⟨by rw [← r1.length]; exact of_decide_eq_true hz, fun p hp => (q.mono x1 s1).tup s1 r1 hp⟩
  · cases h
/-- a new list, changed later or not -/
theorem mk_ok {mu : Bool} {xs : List D} {S S' : Sto} {d : D} {rho : List Addr} {H : Hp} {Q : VK} {vs : List V} {p : Addr} (h : mkR mu (.lst xs) S = .ok d S') (s : SR fa rho H S) (r : RL fa rho H xs vs) (hp : H p = none) (q : Post fa rho H S' d Q) : Q (.ref p) (upd H p (.lst vs)) := by
  cases mu with
  | true =>
    cases h
    exact q (rho ++ [p]) _ _ (Ext.cell hp) (s.addLst hp r) (R.newRef s)
  | false =>
    cases h
    exact q.lst s r hp
theorem mkR_same {mu : Bool} {d d' : D} {S S' : Sto} (h : mkR mu d S = .ok d' S') (hn : ∀ xs, d ≠ .lst xs) : d' = d ∧ S' = S := by
  unfold mkR at h
  split at h
  · rename_i xs
    exact absurd rfl (hn xs)
  · cases h; exact ⟨rfl, rfl⟩
theorem se_lst {ev : Loc → Sto → R3 (List D)} {es : List Expr} {mu : Bool} {p : Pos} (hs : SLv fa X ev es) : SEv fa X (fun l S => (ev l S).bind fun ds S1 => if lenOk ds.length then mkR mu (.lst ds) S1 else .stuck) (.List es p) := by
  intro l S d S' rho σ H Q h L s q
  obtain ⟨ds, S1, e1, h⟩ := bind_ok h
  split at h
  · rename_i hz
    refine tE_of (pe_lst (pa_max es)) (hs _ _ _ _ _ _ _ _ e1 L s fun rho1 H1 vs x1 s1 r1 => ?_)
    exact ⟨by rw [← r1.length]; exact of_decide_eq_true hz, fun p hp => mk_ok h s1 r1 hp (q.mono x1 s1)⟩
  · cases h
theorem se_bin {ea eb : Loc → Sto → R3 D} {a b : Expr} {op : Operator} {o : BOp} {p : Pos} (ho : opEq op o = true) (ha : SEv fa X ea a) (hb : SEv fa X eb b) :
    SEv fa X (fun l S => (ea l S).bind fun x S1 => (eb l S1).bind fun y S2 => R3.of (binD S2 o x y) S2) (.BinOp a op b p) := by
  intro l S d S' rho σ H Q h L s q
  obtain ⟨x, S1, e1, h⟩ := bind_ok h
  obtain ⟨y, S2, e2, h⟩ := bind_ok h
  obtain ⟨hz, rfl⟩ := of_ok h
  rw [opEq_ok ho]
  refine tE_of (pe_op (op_max _) (pe_max a) (pe_max b)) (ha _ _ _ _ _ _ _ _ e1 L s fun rho1 H1 v x1 s1 r1 => ?_)
  refine hb _ _ _ _ _ _ _ _ e2 (L.mono x1) s1 fun rho2 H2 u x2 s2 r2 => ?_
  exact bin_ok s2 hz (r1.mono x2) r2 (q.mono (x1.trans s1 x2) s2)
theorem se_cat {ea eb : Loc → Sto → R3 D} {a b : Expr} {op : Operator} {p : Pos} (ho : opEq op .add = true) (ha : SEv fa X ea a) (hb : SEv fa X eb b) :
    SEv fa X (fun l S => (ea l S).bind fun x S1 => (eb l S1).bind fun y S2 => match binD S2 .add x y with | some (.lst xs) => mkR true (.lst xs) S2 | _ => .stuck) (.BinOp a op b p) := by
  intro l S d S' rho σ H Q h L s q
  obtain ⟨x, S1, e1, h⟩ := bind_ok h
  obtain ⟨y, S2, e2, h⟩ := bind_ok h
  split at h
  · rename_i xs hz
    rw [opEq_ok ho]
    refine tE_of (pe_op (op_max _) (pe_max a) (pe_max b)) (ha _ _ _ _ _ _ _ _ e1 L s fun rho1 H1 v x1 s1 r1 => ?_)
    refine hb _ _ _ _ _ _ _ _ e2 (L.mono x1) s1 fun rho2 H2 u x2 s2 r2 => ?_
    exact cat_ok s2 hz (r1.mono x2) r2 fun p ws hp r => mk_ok h s2 r hp (q.mono (x1.trans s1 x2) s2)
  · cases h
theorem se_neg {ea : Loc → Sto → R3 D} {a : Expr} {p : Pos} (ha : SEv fa X ea a) :
    SEv fa X (fun l S => (ea l S).bind fun x S1 => match x with | .int i => .ok (.int (-i)) S1 | _ => .stuck) (.UnaryOp .USub a p) := by
  intro l S d S' rho σ H Q h L s q
  obtain ⟨x, S1, e1, h⟩ := bind_ok h
  split at h
  · rename_i i
    cases h
    refine tE_of (pe_un un_neg (pe_max a)) (ha _ _ _ _ _ _ _ _ e1 L s fun rho1 H1 v x1 s1 r1 => ?_)
    cases r1
    exact ⟨i, rfl, (q.mono x1 s1).here s1 (.int _)⟩
  · cases h
theorem se_not {ea : Loc → Sto → R3 D} {a : Expr} {p : Pos} (ha : SEv fa X ea a) :
    SEv fa X (fun l S => (ea l S).bind fun x S1 => match truth S1 x with | some b => .ok (.bl (!b)) S1 | none => .stuck) (.UnaryOp .Not a p) := by
  intro l S d S' rho σ H Q h L s q
  obtain ⟨x, S1, e1, h⟩ := bind_ok h
  split at h
  · rename_i b et
    cases h
    refine tE_of (pe_notT (pe_max a)) (ha _ _ _ _ _ _ _ _ e1 L s fun rho1 H1 v x1 s1 r1 => ?_)
    exact ⟨b, truth_ok s1 et r1, (q.mono x1 s1).here s1 (.bl _)⟩
  · cases h
theorem map_bl {z : Option Bool} {d : D} (h : z.map D.bl = some d) : ∃ b, z = some b ∧ d = .bl b := by
  cases z with
  | none => cases h
  | some b => cases h; exact ⟨b, rfl, rfl⟩
theorem se_cmp (ok : OkX pg fa F k j G X) {ea eb : Loc → Sto → R3 D} {a b : Expr} {op : CmpOp} {o : COp} {p : Pos} (ho : cmpEq op o = true) (hb' : isSet b = false) (ha : SEv fa X ea a) (hb : SEv fa X eb b) :
    SEv fa X (fun l S => (ea l S).bind fun x S1 => (eb l S1).bind fun y S2 => R3.of ((cmpD S2 o x y).map .bl) S2) (.Compare a [op] [b] p) := by
  intro l S d S' rho σ H Q h L s q
  obtain ⟨x, S1, e1, h⟩ := bind_ok h
  obtain ⟨y, S2, e2, h⟩ := bind_ok h
  obtain ⟨hz, rfl⟩ := of_ok h
  obtain ⟨c, hc, rfl⟩ := map_bl hz
  rw [cmpEq_ok ho]
  refine tE_of (pe_cmpR (op_max _) (pe_max a) (pe_max b) (nomark' hb')) (ha _ _ _ _ _ _ _ _ e1 L s fun rho1 H1 v x1 s1 r1 => ?_)
  refine hb _ _ _ _ _ _ _ _ e2 (L.mono x1) s1 fun rho2 H2 u x2 s2 r2 => ?_
  exact cmp_ok ok.un s2 hc (r1.mono x2) r2 ((q.mono (x1.trans s1 x2) s2).here s2 (.bl _))
theorem se_chain (ok : OkX pg fa F k j G X) {ea eb ec : Loc → Sto → R3 D} {a b c : Expr} {op op' : CmpOp} {o o' : COp} {p : Pos} (ho : cmpEq op o = true) (ho' : cmpEq op' o' = true) (hb' : isSet b = false) (hc' : isSet c = false) (ha : SEv fa X ea a) (hb : SEv fa X eb b) (hc : SEv fa X ec c) :
    SEv fa X (fun l S => (ea l S).bind fun x S1 => (eb l S1).bind fun y S2 => match cmpD S2 o x y with
      | some true => (ec l S2).bind fun z S3 => R3.of ((cmpD S3 o' y z).map .bl) S3
      | some false => .ok (.bl false) S2
      | none => .stuck) (.Compare a [op, op'] [b, c] p) := by
  intro l S d S' rho σ H Q h L s q
  obtain ⟨x, S1, e1, h⟩ := bind_ok h
  obtain ⟨y, S2, e2, h⟩ := bind_ok h
  rw [cmpEq_ok ho, cmpEq_ok ho']
  refine tE_of (pe_chain (op_max _) (op_max _) (pe_max a) (pe_max b) (pe_max c) (nolast hb' hc')) (ha _ _ _ _ _ _ _ _ e1 L s fun rho1 H1 v x1 s1 r1 => ?_)
  refine hb _ _ _ _ _ _ _ _ e2 (L.mono x1) s1 fun rho2 H2 u x2 s2 r2 => ?_
  have x12 := x1.trans s1 x2
  split at h
  · rename_i et
    refine cmp_ok ok.un s2 et (r1.mono x2) r2 ⟨true, rfl, ?_⟩
    obtain ⟨z, S3, e3, h⟩ := bind_ok h
    obtain ⟨hz, rfl⟩ := of_ok h
    obtain ⟨c', hc2, rfl⟩ := map_bl hz
    rw [if_pos rfl]
    refine hc _ _ _ _ _ _ _ _ e3 (L.mono x12) s2 fun rho3 H3 w x3 s3 r3 => ?_
    exact cmp_ok ok.un s3 hc2 (r2.mono x3) r3 ((q.mono (x12.trans s2 x3) s3).here s3 (.bl _))
  · rename_i et
    cases h
    refine cmp_ok ok.un s2 et (r1.mono x2) r2 ⟨false, rfl, ?_⟩
    rw [if_neg (by decide)]
    exact (q.mono x12 s2).here s2 (.bl _)
  · cases h
theorem se_and {ea eb : Loc → Sto → R3 D} {a b : Expr} {r : List Expr} {p : Pos} (ha : SEv fa X ea a) (hb : SEv fa X eb (.BoolOp .And (b :: r) p)) :
    SEv fa X (fun l S => (ea l S).bind fun x S1 => match truth S1 x with | some true => eb l S1 | some false => .ok x S1 | none => .stuck) (.BoolOp .And (a :: b :: r) p) := by
  intro l S d S' rho σ H Q h L s q
  obtain ⟨x, S1, e1, h⟩ := bind_ok h
  refine tE_of (pe_andT (pe_max a) (pe_max _)) (ha _ _ _ _ _ _ _ _ e1 L s fun rho1 H1 v x1 s1 r1 => ?_)
  split at h
  · rename_i et
    refine ⟨true, truth_ok s1 et r1, ?_⟩
    rw [if_pos rfl]
    exact hb _ _ _ _ _ _ _ _ h (L.mono x1) s1 (q.mono x1 s1)
  · rename_i et
    cases h
    refine ⟨false, truth_ok s1 et r1, ?_⟩
    rw [if_neg (by decide)]
    exact (q.mono x1 s1).here s1 r1
  · cases h
theorem se_or {ea eb : Loc → Sto → R3 D} {a b : Expr} {r : List Expr} {p : Pos} (ha : SEv fa X ea a) (hb : SEv fa X eb (.BoolOp .Or (b :: r) p)) :
    SEv fa X (fun l S => (ea l S).bind fun x S1 => match truth S1 x with | some true => .ok x S1 | some false => eb l S1 | none => .stuck) (.BoolOp .Or (a :: b :: r) p) := by
  intro l S d S' rho σ H Q h L s q
  obtain ⟨x, S1, e1, h⟩ := bind_ok h
  refine tE_of (pe_orT (pe_max a) (pe_max _)) (ha _ _ _ _ _ _ _ _ e1 L s fun rho1 H1 v x1 s1 r1 => ?_)
  split at h
  · rename_i et
    cases h
    refine ⟨true, truth_ok s1 et r1, ?_⟩
    rw [if_pos rfl]
    exact (q.mono x1 s1).here s1 r1
  · rename_i et
    refine ⟨false, truth_ok s1 et r1, ?_⟩
    rw [if_neg (by decide)]
    exact hb _ _ _ _ _ _ _ _ h (L.mono x1) s1 (q.mono x1 s1)
  · cases h
theorem se_ife {ec ea eb : Loc → Sto → R3 D} {c a b : Expr} {p : Pos} (hc : STv fa X ec c) (ha : SEv fa X ea a) (hb : SEv fa X eb b) :
    SEv fa X (fun l S => (ec l S).bind fun x S1 => match truth S1 x with | some true => ea l S1 | some false => eb l S1 | none => .stuck) (.IfExp c a b p) := by
  intro l S d S' rho σ H Q h L s q
  obtain ⟨x, S1, e1, h⟩ := bind_ok h
  refine tE_of (pe_ifExp (pt_max c) (pe_max a) (pe_max b)) ?_
  split at h
  · rename_i et
    refine hc _ _ _ _ _ _ _ _ _ e1 et L s fun rho1 H1 x1 s1 => ?_
    rw [if_pos rfl]
    exact ha _ _ _ _ _ _ _ _ h (L.mono x1) s1 (q.mono x1 s1)
  · rename_i et
    refine hc _ _ _ _ _ _ _ _ _ e1 et L s fun rho1 H1 x1 s1 => ?_
    rw [if_neg (by decide)]
    exact hb _ _ _ _ _ _ _ _ h (L.mono x1) s1 (q.mono x1 s1)
  · cases h
end
end Ev
end
section
set_option linter.all false
set_option Elab.async false
set_option maxRecDepth 100000
set_option maxHeartbeats 2000000
/-! E9: items, slices, calls, tests. -/
namespace Ev
open PySem PySem.Spec PyProof.Rows L2
section
variable {pg : Pg} {fa : Fa} {F : FnT} {k j : Nat} {G : Gam} {X : Cx}
variable {rho : List Addr} {H : Hp} {S : Sto}

theorem RL.atI {xs : List D} {vs : List V} (r : RL fa rho H xs vs) {i : Int} {d : D} (h : L2.atI xs i = some d) : ∃ v, L2.atI vs i = some v ∧ R fa rho H d v := by
  unfold L2.atI at h ⊢
  rw [← r.length]
  cases e : ixN xs.length i with
  | none => rw [e] at h; cases h
  | some n =>
    rw [e] at h
    exact r.get h
theorem lookup_val : ∀ {kvs : List (Key × D)} {ws : List (Key × V)} {ky : Key} {d : D}, ws.map (·.1) = kvs.map (·.1) → RL fa rho H (kvs.map (·.2)) (ws.map (·.2)) → lookK kvs ky = some d → ∃ v, valV ws ky = some v ∧ R fa rho H d v
  | [], [], _, _, _, _, h => by cases h
  | [], _ :: _, _, _, e, _, _ => by simp at e
  | _ :: _, [], _, _, e, _, _ => by simp at e
  | (k1, d1) :: kvs, (k2, v2) :: ws, ky, d, e, r, h => by
    simp only [List.map_cons, List.cons.injEq] at e
    obtain ⟨e1, e2⟩ := e
    subst e1
    simp only [List.map_cons] at r
    cases r with
    | cons r1 r2 =>
      unfold lookK at h
      unfold valV
      by_cases hk : k2 = ky
      · subst hk
        rw [if_pos rfl] at h
        cases h
        exact ⟨v2, by rw [List.find?_cons_of_pos (by simp)]; rfl, r1⟩
      · rw [if_neg hk] at h
        obtain ⟨v, q1, q2⟩ := lookup_val e2 r2 h
        refine ⟨v, ?_, q2⟩
        unfold valV at q1
        rw [List.find?_cons_of_neg (by simpa using hk)]
        exact q1
theorem se_ix (ok : OkX pg fa F k j G X) {ea eb : Loc → Sto → R3 D} {a b : Expr} {p : Pos} (hs : isSlice b = false) (ha : SEv fa X ea a) (hb : SEv fa X eb b) :
    SEv fa X (fun l S => (ea l S).bind fun x S1 => (eb l S1).bind fun y S2 => R3.of (ixD S2 x y) S2) (.Subscript a b p) := by
  intro l S d S' rho σ H Q h L s q
  obtain ⟨x, S1, e1, h⟩ := bind_ok h
  obtain ⟨y, S2, e2, h⟩ := bind_ok h
  obtain ⟨hz, rfl⟩ := of_ok h
  have hpl := plainIx (b := b) hs
  have go : ∀ {t : TE} {r : R2}, (∀ {ta tb : TE}, PE X a ta → PE X b tb → PE X (.Subscript a b p) (tOp r ta tb)) → (∀ rho2 H2 v u, Ext rho H rho2 H2 → SR fa rho2 H2 S2 → R fa rho2 H2 x v → R fa rho2 H2 y u → r v u H2 Q) → tE X (.Subscript a b p) σ H Q := fun {t r} hp hr =>
    tE_of (hp (pe_max a) (pe_max b)) (ha _ _ _ _ _ _ _ _ e1 L s fun rho1 H1 v x1 s1 r1 => hb _ _ _ _ _ _ _ _ e2 (L.mono x1) s1 fun rho2 H2 u x2 s2 r2 => hr rho2 H2 v u (x1.trans s1 x2) s2 (r1.mono x2) r2)
  have dic : ∀ {ky : Key} {n : Nat} {kvs : List (Key × D)}, x = .ref n → (∀ rho2 H2 u, R fa rho2 H2 y u → u = kV ky) → S2[n]? = some (.dk kvs) → lookK kvs ky = some d → tE X (.Subscript a b p) σ H Q := fun {ky n kvs} ex hy hS hl => by
    subst ex
    refine tE_of (pe_dget (by have := ok.un; omega) (pe_max a) (pe_max b) hpl) (ha _ _ _ _ _ _ _ _ e1 L s fun rho1 H1 v x1 s1 r1 => hb _ _ _ _ _ _ _ _ e2 (L.mono x1) s1 fun rho2 H2 u x2 s2 r2 => ?_)
    have r1' := r1.mono x2
    cases r1' with
    | @ref _ adr h1 =>
      obtain ⟨b', eb, ws, q1, q2, q3⟩ := s2.cell n _ hS
      rw [h1] at eb; cases eb
      obtain ⟨v', w1, w2⟩ := lookup_val q2 q3 hl
      exact ⟨adr, v', rfl, .inl ⟨ws, ky, .inl q1, hy _ _ _ r2, w1.symm⟩, (q.mono (x1.trans s1 x2) s2).here s2 w2⟩
  unfold ixD at hz
  split at hz
  · rename_i xs i e
    refine go (t := tC .non) (fun pa pb => pe_ix ix_tup pa pb hpl) fun rho2 H2 v u x2 s2 r1 r2 => ?_
    obtain ⟨adr, vs, rfl, h1, h2, _⟩ := r1.readT s2 e
    cases r2
    obtain ⟨w, w1, w2⟩ := h2.atI hz
    exact ⟨adr, vs, i, w, rfl, rfl, SqT.of h1, w1, (q.mono x2 s2).here s2 w2⟩
  · rename_i xs i e
    refine go (t := tC .non) (fun pa pb => pe_ix ix_list pa pb hpl) fun rho2 H2 v u x2 s2 r1 r2 => ?_
    obtain ⟨adr, vs, rfl, h1, h2⟩ := r1.readL (K := X.K) s2 e
    cases r2
    obtain ⟨w, w1, w2⟩ := h2.atI hz
    exact ⟨adr, vs, i, w, rfl, rfl, h1, w1, (q.mono x2 s2).here s2 w2⟩
  · rename_i n z e
    split at hz
    · rename_i kvs eS
      have ex : x = .ref n := by
        cases x <;> simp only [D.read] at e <;> first | (cases e; done) | skip
        split at e <;> cases e
        rfl
      exact dic (ky := .inr z) ex (fun _ _ u r => by cases r; rfl) eS hz
    · cases hz
  · rename_i n z e
    split at hz
    · rename_i kvs eS
      have ex : x = .ref n := by
        cases x <;> simp only [D.read] at e <;> first | (cases e; done) | skip
        split at e <;> cases e
        rfl
      exact dic (ky := .inl z) ex (fun _ _ u r => by cases r; rfl) eS hz
    · cases hz
  · cases hz

/-! ### slices -/
def tO (X : Cx) (e : Option Expr) : TO := fun σ H Q => ∀ (pins : List (Addr × Obj)) (s : Shared), Inv X pins σ H s → wpAny (model X.prog X.w) X.A (evalPart e X.env) (fun u s' => ∃ o H', Inv X pins σ H' s' ∧ IsPart u o ∧ Q o H') X.xe s
theorem po_max (e : Option Expr) : PO X e (tO X e) := ⟨fun pins s _ _ _ I h => h pins s I⟩
theorem tO_of {e : Option Expr} {t : TO} {σ : L2.St} {Q : Option Int → Hp → Prop} (h : PO X e t) (q : t σ H Q) : tO X e σ H Q := fun pins s I => h.run pins s σ H Q I q
def SOv (fa : Fa) (X : Cx) (ev : Loc → Sto → R3 (Option Int)) (e : Option Expr) : Prop := ∀ (l : Loc) (S : Sto) (o : Option Int) (S' : Sto) (rho : List Addr) (σ : L2.St) (H : Hp) (Q : Option Int → Hp → Prop),
  ev l S = .ok o S' → LR fa rho H l σ → SR fa rho H S → (∀ rho' H', Ext rho H rho' H' → SR fa rho' H' S' → Q o H') → tO X e σ H Q
theorem so_of {ev : Ev.CE → Loc → Sto → R3 D} {ck : Expr → Ev.CE → Bool} (hs : ∀ e c, ck e c = true → SEv fa X (ev c) e) : ∀ {e : Option Expr} {c : Option Ev.CE}, chkO ck e c = true → SOv fa X (evO ev c) e
  | none, none, _ => by
    intro l S o S' rho σ H Q h L s q
    cases h
    exact tO_of po_none (q rho H Ext.refl s)
  | some e, some c, h => by
    intro l S o S' rho σ H Q h' L s q
    simp only [evO] at h'
    obtain ⟨d, S1, e1, h'⟩ := bind_ok h'
    split at h'
    · rename_i i
      cases h'
      refine tO_of (po_some (pe_max e)) (hs e c h _ _ _ _ _ _ _ _ e1 L s fun rho1 H1 v x1 s1 r1 => ?_)
      cases r1
      exact ⟨i, rfl, q rho1 H1 x1 s1⟩
    · cases h'
  | none, some _, h => by simp [chkO] at h
  | some _, none, h => by simp [chkO] at h
theorem cut_all {α : Type} (xs : List α) {lo hi : Option Int} (h1 : HT.sIx xs.length 0 lo = 0) (h2 : HT.sIx xs.length xs.length hi = xs.length) : cut xs lo hi = xs := by
  unfold cut
  rw [h1, h2, List.drop_zero, Nat.sub_zero, List.take_length]
theorem se_sl {ea : Loc → Sto → R3 D} {el eh : Loc → Sto → R3 (Option Int)} {a : Expr} {lo hi : Option Expr} {p p2 : Pos} (ha : SEv fa X ea a) (hl : SOv fa X el lo) (hh : SOv fa X eh hi) :
    SEv fa X (fun l S => (ea l S).bind fun x S1 => (el l S1).bind fun u S2 => (eh l S2).bind fun w S3 => R3.of (slD S3 x u w) S3) (.Subscript a (.Slice lo hi none p2) p) := by
  intro l S d S' rho σ H Q h L s q
  obtain ⟨x, S1, e1, h⟩ := bind_ok h
  obtain ⟨u, S2, e2, h⟩ := bind_ok h
  obtain ⟨w, S3, e3, h⟩ := bind_ok h
  obtain ⟨hz, rfl⟩ := of_ok h
  have go : ∀ {r : V → Option Int → Option Int → Hp → VK → Prop}, SlR X r → (∀ rho2 H2 v, Ext rho H rho2 H2 → SR fa rho2 H2 S3 → R fa rho2 H2 x v → r v u w H2 Q) → tE X (.Subscript a (.Slice lo hi none p2) p) σ H Q := fun {r} hp hr =>
    tE_of (pe_slice hp (pe_max a) (po_max lo) (po_max hi)) (ha _ _ _ _ _ _ _ _ e1 L s fun rho1 H1 v x1 s1 r1 => hl _ _ _ _ _ _ _ _ e2 (L.mono x1) s1 fun rho2 H2 x2 s2 =>
      hh _ _ _ _ _ _ _ _ e3 (L.mono (x1.trans s1 x2)) s2 fun rho3 H3 x3 s3 => hr rho3 H3 v ((x1.trans s1 x2).trans s2 x3) s3 ((r1.mono x2).mono x3))
  unfold slD at hz
  split at hz
  · rename_i xs e
    cases hz
    refine go sl_tupA fun rho2 H2 v x2 s2 r1 => ?_
    obtain ⟨adr, vs, rfl, h1, h2, h3⟩ := r1.readT s2 e
    refine ⟨adr, vs, rfl, SqT.of h1, fun ⟨z1, z2⟩ => ?_, fun _ pp hp => (q.mono x2 s2).tup s2 (h2.cutV u w) hp⟩
    have z1' : HT.sIx xs.length 0 u = 0 := by rw [h2.length]; exact z1
    have z2' : HT.sIx xs.length xs.length w = xs.length := by rw [h2.length]; exact z2
    have q' := q.mono x2 s2
    rw [cut_all xs z1' z2'] at q'
    exact q'.here s2 h3
  · rename_i xs e
    cases hz
    refine go sl_list fun rho2 H2 v x2 s2 r1 => ?_
    obtain ⟨adr, vs, rfl, h1, h2⟩ := r1.readL (K := X.K) s2 e
    exact ⟨adr, vs, rfl, h1, fun pp hp => (q.mono x2 s2).lst s2 (h2.cutV u w) hp⟩
  · cases hz

/-! ### calls -/
theorem chkL_ne {ck : Expr → Ev.CE → Bool} {e : Expr} {es : List Expr} {cs : List Ev.CE} (h : chkL ck (e :: es) cs = true) : isStar e = false ∧ es.any isStar = false := by
  have := chkL_star h
  rw [List.any_cons, Bool.or_eq_false_iff] at this
  exact this
theorem se_call (ok : OkX pg fa F k j G X) {ev : Loc → Sto → R3 (List D)} {x : Str} {p pos : Pos} {e : Expr} {es : List Expr} {f n : Nat} (h1 : pg.fns[f]? = some x) (h2 : glo G.sc x = true) (h3 : noDbg x = true) (hst : isStar e = false ∧ es.any isStar = false)
    (hl : (pg.prs[f]?.map List.length) = some n) (hn : ∀ l S ds S', ev l S = .ok ds S' → ds.length = n) (hs : SLv fa X ev (e :: es)) :
    SEv fa X (fun l S => (ev l S).bind fun ds S1 => F f ds S1) (.Call (.Name x p) (e :: es) [] pos) := by
  intro l S d S' rho σ H Q h L s q
  obtain ⟨ds, S1, e1, h⟩ := bind_ok h
  obtain ⟨a, ha⟩ := ok.all f x h1
  obtain ⟨y, ps, fd, q1, q2, q3, q4, q5⟩ := ok.fns f a ha
  rw [h1] at q1; cases q1
  unfold noDbg at h3
  simp only [Bool.and_eq_true, Bool.not_eq_true'] at h3
  intro pins st I
  refine wpAny_Call_Name_kw (ld_glob I (gl_of ok h2) q3 ?_ h3.1)
  have hA : tA X (e :: es) σ H fun vs H1 => caM X (.ref a) vs H1 Q := hs _ _ _ _ _ _ _ _ e1 L s fun rho1 H1 vs x1 s1 r1 =>
    call_ok ok ha h (fun ps' e' => by rw [e'] at hl; simp at hl; rw [hn _ _ _ _ e1, hl]) r1 s1 (q.mono x1 s1)
  refine W.callWith_K (h₀ := X.base) I.ok.mod.kin q4 (thn (hA pos pins st I) fun us s1 ⟨vs, H1, I1, r, q⟩ => ⟨I1.kIn, ?_⟩) (star_cons hst.1) (star_plain hst.2)
  exact q pins s1 σ us I1 r
theorem se_call0 (ok : OkX pg fa F k j G X) {x : Str} {p pos : Pos} {f : Nat} (h1 : pg.fns[f]? = some x) (h2 : glo G.sc x = true) (h3 : noDbg x = true) (hl : pg.prs[f]?.map List.length = some 0) :
    SEv fa X (fun l S => F f [] S) (.Call (.Name x p) [] [] pos) := by
  intro l S d S' rho σ H Q h L s q
  obtain ⟨a, ha⟩ := ok.all f x h1
  obtain ⟨y, ps, fd, q1, q2, q3, q4, q5⟩ := ok.fns f a ha
  rw [h1] at q1; cases q1
  unfold noDbg at h3
  simp only [Bool.and_eq_true, Bool.not_eq_true'] at h3
  intro pins st I
  refine wpAny_Call_Name_kw (ld_glob I (gl_of ok h2) q3 ?_ h3.1)
  have hA : caM X (.ref a) [] H Q := call_ok ok ha h (fun ps' e' => by rw [e'] at hl; simp at hl; simp [hl]) .nil s q
  exact W.callWith_K0 (first := []) I.kIn q4 (hA pins st σ [] I .nil)
theorem se_callv (ok : OkX pg fa F k j G X) {ev : Loc → Sto → R3 (List D)} {x : Str} {p pos : Pos} {e : Expr} {es : List Expr} {i n : Nat} (h1 : G.N[i]? = some x) (h2 : vis G.sc x = true) (h3 : noDbg x = true) (hst : isStar e = false ∧ es.any isStar = false)
    (hn : ∀ l S ds S', ev l S = .ok ds S' → ds.length = n) (hF : ∀ f ds S d S', F f ds S = .ok d S' → (pg.prs[f]?.map List.length) = some ds.length) (hs : SLv fa X ev (e :: es)) :
    SEv fa X (fun l S => match l[i]? with | some (some (.fn f)) => (ev l S).bind fun ds S1 => F f ds S1 | _ => .stuck) (.Call (.Name x p) (e :: es) [] pos) := by
  intro l S d S' rho σ H Q h L s q
  simp only at h
  split at h
  · rename_i f el
    obtain ⟨ds, S1, e1, h⟩ := bind_ok h
    obtain ⟨v, ev', rv⟩ := L.val i _ el
    cases rv with
    | @fn _ a ha =>
      obtain ⟨y, ps, fd, q1, q2, q3, q4, q5⟩ := ok.fns f a ha
      unfold noDbg at h3
      simp only [Bool.and_eq_true, Bool.not_eq_true'] at h3
      intro pins st I
      refine wpAny_Call_Name_kw (thn ((pe_var (X := X) (pos := p) (by rw [ok.N]; exact h1) (by rw [ok.sc]; exact vis_ok h2) h3.1 h3.2).run pins st σ H (fun v H1 => v = .ref a ∧ H1 = H) I ⟨.ref a, ev', rfl, rfl⟩) fun u s1 ⟨v, H1, I1, r1, z1⟩ => ?_)
      obtain ⟨rfl, rfl⟩ := z1
      cases r1
      have hA : tA X (e :: es) σ H1 fun vs H1 => caM X (.ref a) vs H1 Q := hs _ _ _ _ _ _ _ _ e1 L s fun rho1 H1 vs x1 s1 r1 =>
        call_ok ok ha h (fun ps' e' => by have := hF _ _ _ _ _ h; rw [e'] at this; simp at this; exact this.symm) r1 s1 (q.mono x1 s1)
      refine W.callWith_K (h₀ := X.base) I.ok.mod.kin q4 (thn (hA pos pins s1 I1) fun us s2 ⟨vs, H2, I2, r, q⟩ => ⟨I2.kIn, ?_⟩) (star_cons hst.1) (star_plain hst.2)
      exact q pins s2 σ us I2 r
  · cases h

/-! ### built-ins -/
def biTy : Bi → Bool
  | .tuple | .list | .int => true
  | _ => false
theorem biName_nn (b : Bi) : biName b ≠ "__name__" := by cases b <;> decide
theorem biName_nd (b : Bi) : (biName b == ("__debug__" : Str)) = false := by cases b <;> decide
theorem biName_in (b : Bi) : biName b ∈ (["len", "tuple", "list", "sorted", "int", "min", "max", "sum", "repr", "abs", "any", "all", "range", "enumerate", "zip", "reversed"] : List Str) := by cases b <;> decide
theorem bi_boot (b : Bi) : bootBuiltins (biName b) = some (biIs b) := by
  cases b <;> decide +kernel
theorem pe_bi (ok : OkX pg fa F k j G X) {b : Bi} {p pos : Pos} {e : Expr} {es : List Expr} {t : TA} {r : List V → Hp → VK → Prop} (h : glo G.sc (biName b) = true) (hst : isStar e = false ∧ es.any isStar = false) (hc : CallR X (biIs b) r) (ha : PA X (e :: es) t) :
    PE X (.Call (.Name (biName b) p) (e :: es) [] pos) (tCB r t) := by
  have g := gl_of ok h
  have m := ok.blt _ (biName_in b)
  have bb := bi_boot b
  cases b <;> first
    | exact pe_callB hc g m bb ha (biName_nn _) (biName_nd _) (star_cons hst.1) (star_plain hst.2)
    | exact pe_callTy hc g m bb ha (biName_nn _) (biName_nd _) (star_cons hst.1) (star_plain hst.2)
theorem postN_of {mu : Bool} {d d' : D} {S S' : Sto} {rho : List Addr} {H : Hp} {Q : VK} (h : mkR mu d S = .ok d' S') (s : SR fa rho H S) (q : Post fa rho H S' d' Q) : PostN fa rho H S d Q := by
  cases d <;> first
    | exact fun p ws hp r => mk_ok h s r hp q
    | (obtain ⟨rfl, rfl⟩ := mkR_same h (by intro xs e; cases e); exact q)
theorem se_bi (ok : OkX pg fa F k j G X) {ev : Loc → Sto → R3 (List D)} {mu : Bool} {b : Bi} {p pos : Pos} {e : Expr} {es : List Expr} (h2 : glo G.sc (biName b) = true) (hst : isStar e = false ∧ es.any isStar = false) (hs : SLv fa X ev (e :: es)) :
    SEv fa X (fun l S => (ev l S).bind fun ds S1 => match biD S1 b ds with | some d => mkR mu d S1 | none => .stuck) (.Call (.Name (biName b) p) (e :: es) [] pos) := by
  intro l S d S' rho σ H Q h L s q
  obtain ⟨ds, S1, e1, h⟩ := bind_ok h
  split at h
  · rename_i d1 eb
    refine tE_of (pe_bi ok h2 hst (ca_max _) (pa_max _)) (hs _ _ _ _ _ _ _ _ e1 L s fun rho1 H1 vs x1 s1 r1 => ?_)
    exact bi_ok ok.calm ok.hd ok.gd ok.un s1 eb r1 (postN_of h s1 (q.mono x1 s1))
  · cases h

/-! ### tests -/
def isPlainT : Expr → Bool
  | .UnaryOp .Not _ _ | .BoolOp .. | .IfExp .. | .Compare .. => false
  | _ => true
theorem st_plain {ea : Loc → Sto → R3 D} {a : Expr} (hp : isPlainT a = true) (ha : SEv fa X ea a) : STv fa X ea a := by
  intro l S d S' b rho σ H Q h ht L s q
  have he : ∀ whole, isTrue a X.env whole = (do let v ← whole; standAt a.pos; holding [v] (truthy v)) := by
    cases a <;> first
      | (intro _; rfl)
      | (rename_i o _ _; cases o <;> first | (intro _; rfl) | cases hp)
      | cases hp
  exact tT_of (pt_truth (pe_max a) he) (ha _ _ _ _ _ _ _ _ h L s fun rho1 H1 v x1 s1 r1 => ⟨b, truth_ok s1 ht r1, q rho1 H1 x1 s1⟩)
theorem st_not {ea : Loc → Sto → R3 D} {a : Expr} {p : Pos} (ha : STv fa X ea a) :
    STv fa X (fun l S => (ea l S).bind fun x S1 => match truth S1 x with | some b => .ok (.bl (!b)) S1 | none => .stuck) (.UnaryOp .Not a p) := by
  intro l S d S' b rho σ H Q h ht L s q
  obtain ⟨x, S1, e1, h⟩ := bind_ok h
  split at h
  · rename_i c et
    cases h
    cases ht
    exact tT_of (pt_not (pt_max a)) (ha _ _ _ _ _ _ _ _ _ e1 et L s fun rho1 H1 x1 s1 => q rho1 H1 x1 s1)
  · cases h
theorem st_cmp (ok : OkX pg fa F k j G X) {ea eb : Loc → Sto → R3 D} {a b : Expr} {op : CmpOp} {o : COp} {p : Pos} (ho : cmpEq op o = true) (hb' : isSet b = false) (ha : SEv fa X ea a) (hb : SEv fa X eb b) :
    STv fa X (fun l S => (ea l S).bind fun x S1 => (eb l S1).bind fun y S2 => R3.of ((cmpD S2 o x y).map .bl) S2) (.Compare a [op] [b] p) := by
  intro l S d S' c rho σ H Q h ht L s q
  obtain ⟨x, S1, e1, h⟩ := bind_ok h
  obtain ⟨y, S2, e2, h⟩ := bind_ok h
  obtain ⟨hz, rfl⟩ := of_ok h
  obtain ⟨c', hc, rfl⟩ := map_bl hz
  have ec : c' = c := by simpa [truth] using ht
  subst ec
  rw [cmpEq_ok ho]
  refine tT_of (pt_cmpR (op_max _) (pe_max a) (pe_max b) (nomark' hb')) (ha _ _ _ _ _ _ _ _ e1 L s fun rho1 H1 v x1 s1 r1 => ?_)
  refine hb _ _ _ _ _ _ _ _ e2 (L.mono x1) s1 fun rho2 H2 u x2 s2 r2 => ?_
  exact cmp_ok ok.un s2 hc (r1.mono x2) r2 ⟨c', rfl, q rho2 H2 (x1.trans s1 x2) s2⟩
theorem st_chain (ok : OkX pg fa F k j G X) {ea eb ec : Loc → Sto → R3 D} {a b c : Expr} {op op' : CmpOp} {o o' : COp} {p : Pos} (ho : cmpEq op o = true) (ho' : cmpEq op' o' = true) (hb' : isSet b = false) (hc' : isSet c = false) (ha : SEv fa X ea a) (hb : SEv fa X eb b) (hc : SEv fa X ec c) :
    STv fa X (fun l S => (ea l S).bind fun x S1 => (eb l S1).bind fun y S2 => match cmpD S2 o x y with
      | some true => (ec l S2).bind fun z S3 => R3.of ((cmpD S3 o' y z).map .bl) S3
      | some false => .ok (.bl false) S2
      | none => .stuck) (.Compare a [op, op'] [b, c] p) := by
  intro l S d S' bb rho σ H Q h ht L s q
  obtain ⟨x, S1, e1, h⟩ := bind_ok h
  obtain ⟨y, S2, e2, h⟩ := bind_ok h
  rw [cmpEq_ok ho, cmpEq_ok ho']
  refine tT_of (pt_chain (op_max _) (op_max _) (pe_max a) (pe_max b) (pe_max c) (nolast hb' hc')) (ha _ _ _ _ _ _ _ _ e1 L s fun rho1 H1 v x1 s1 r1 => ?_)
  refine hb _ _ _ _ _ _ _ _ e2 (L.mono x1) s1 fun rho2 H2 u x2 s2 r2 => ?_
  have x12 := x1.trans s1 x2
  split at h
  · rename_i et
    refine cmp_ok ok.un s2 et (r1.mono x2) r2 ⟨true, rfl, ?_⟩
    obtain ⟨z, S3, e3, h⟩ := bind_ok h
    obtain ⟨hz, rfl⟩ := of_ok h
    obtain ⟨c', hc2, rfl⟩ := map_bl hz
    have ec : c' = bb := by simpa [truth] using ht
    subst ec
    rw [if_pos rfl]
    refine hc _ _ _ _ _ _ _ _ e3 (L.mono x12) s2 fun rho3 H3 w x3 s3 r3 => ?_
    exact cmp_ok ok.un s3 hc2 (r2.mono x3) r3 ⟨c', rfl, q rho3 H3 (x12.trans s2 x3) s3⟩
  · rename_i et
    cases h
    cases ht
    refine cmp_ok ok.un s2 et (r1.mono x2) r2 ⟨false, rfl, ?_⟩
    rw [if_neg (by decide)]
    exact ⟨false, rfl, q rho2 H2 x12 s2⟩
  · cases h
end
end Ev
end
section
set_option linter.all false
set_option Elab.async false
set_option maxRecDepth 100000
set_option maxHeartbeats 4000000
/-! G1: enumerate of a tuple, walked. -/
namespace PySem
open Sem (wp)
open AutoSeq1 (wpAny_loadPart')
theorem ev_enum_new1 {v : Value} {o : Obj} {H : Heap → Prop} (B : Begins v o H) :
    Meets (Builtin.«enumerate.__new__» ⟨[.type "enumerate", v], []⟩) (fun _ R s => H s.heap ∧
      R (.ok (.ret (.ref (s.heap.push o).objs.size))) { s with heap := (s.heap.push o).push { cls := .type "enumerate", data := .fields #[.none, .bool false, .ref s.heap.objs.size, rawInt 0, .none, .none] } }) :=
  .of_wp fun prog w A R s h => by
    obtain ⟨hp, g, d, tk, os⟩ := s
    obtain ⟨h1, h⟩ := h
    have hsub := sub_enumerate
    have q1 : ∀ {A' : Around} {E : Value → Shared → Prop} {Q : Value → Shared → Prop}, Q (.ref hp.objs.size) ⟨hp.push o, g, d, tk, os⟩ → wpAny (model prog w) A' (pyIter v) Q E ⟨hp, g, d, tk, os⟩ :=
      fun q => B.iter prog w _ _ ⟨hp, g, d, tk, os⟩ _ h1 q
    wp_walk using q1
    refine wpAny_stack_any fun st => wpAny_pure ?_
    split
    · rename_i c _ _ _ _ _
      cases (c == Value.type "enumerate") <;> (wp_walk using q1; exact ⟨_, rfl, h⟩)
    · wp_walk using q1
      exact ⟨_, rfl, h⟩
section
variable {prog : Program} {w : World} {A : Around} {E : Value → Shared → Prop} {s : Shared}
theorem ev_enum_call {v : Value} {o : Obj} {H : Heap → Prop} {Q : Value → Shared → Prop} (B : Begins v o H) (h1 : H s.heap)
    (h : ∀ h', IsEnum h' (s.heap.objs.size + 1) s.heap.objs.size 0 .none → h'.get? s.heap.objs.size = some o → h'.objs.size = s.heap.objs.size + 2 → (∀ b o, s.heap.get? b = some o → h'.get? b = some o) → Q (.ref (s.heap.objs.size + 1)) { s with heap := h' }) :
    wpAny (model prog w) A (call (.type "enumerate") [v]) Q E s := by
  refine callType_new F.called_enumerate (by decide) (F.typeCall_enumerate_1 _) (F.newCall_enumerate_1 _) (fun obj => F.args_object_init_2 obj _) F.entry_enumerate_new (ev_enum_new1 B) ⟨h1, ?_⟩
  have hz : (s.heap.push o).objs.size = s.heap.objs.size + 1 := Heap.size_push ..
  show _ ∧ _
  rw [hz]
  have he : IsEnum ((s.heap.push o).push { cls := .type "enumerate", data := .fields #[.none, .bool false, .ref s.heap.objs.size, rawInt 0, .none, .none] }) (s.heap.objs.size + 1) s.heap.objs.size 0 .none := by
    have := Heap.get?_push_size (s.heap.push o) (o := { cls := .type "enumerate", data := .fields #[.none, .bool false, .ref s.heap.objs.size, rawInt 0, .none, .none] }) rfl
    rw [hz] at this
    exact this
  exact ⟨⟨_, he, rfl⟩, h _ he (Heap.get?_push_of_some _ (Heap.get?_push_size _ B.free)) (by rw [Heap.size_push, hz]) fun b o x => Heap.get?_push_of_some _ (Heap.get?_push_of_some _ x)⟩
theorem ev_enum_end {e it l : Addr} {i : Nat} {items : Array Value} {old : Value} {Q : Option Value → Shared → Prop} (hh : A.handled = none)
    (he : IsEnum s.heap e it i old) (hit : s.heap.IsTupleIter it l i) (hl : s.heap.IsTuple l items) (hx : items.size ≤ i)
    (hQ : ∀ h', Heap.ExtBut it s.heap h' → Q none { s with heap := h' }) : wpAny (model prog w) A (pyNext (.ref e)) Q E s := by
  have hT : s.TypeIs (.ref e) "enumerate" := ⟨_, he, rfl⟩
  unfold pyNext
  refine wpAny_bind (wpAny_attempt (wpAny_callSpecial?_slot (name := Str.ofString "__next__") hT F.slot_enumerate_next
    (wpAny_call_entry F.slot_enumerate_next hT F.entry_enumerate_next ?_ (F.args_enumerate_next_1 _))))
  show wpAny _ _ (field (.ref e) 2 >>= _) _ _ _
  refine wpAny_bind (wpAny_field he rfl (x := .ref it) rfl ?_)
  refine wpAny_bind (wpAny_nextOf_tuple_end (A := A.in1) hh hit hl (Array.getElem?_eq_none hx) fun h' x he' hx' => ?_)
  obtain ⟨o, ho, hc⟩ := hx'
  refine wpAny_bind (wpAny_isInstance (T := "StopIteration") (b := true) ⟨o, ho, hc⟩ isSubtype_stop ?_)
  exact wpAny_pure (hQ _ he')
end
end PySem
namespace Ev
open PySem PySem.Spec PyProof.Rows L2
/-- enumerate(t), t a tuple -/
def IteT (K : W.Frag) (a : Addr) : It :=
  ⟨fun i H => ∃ (xs : List V) (x : V), SqT K H a xs ∧ xs[i]? = some x, fun i H v H' => ∃ T x, v = .ref T ∧ H T = none ∧ H' = upd H T (.tup [.int (i : Nat), x]) ∧ ∀ xs, SqT K H a xs → xs[i]? = some x, fun i H => ∃ xs : List V, SqT K H a xs ∧ xs.length ≤ i⟩
theorem turn_enumT {P : Program} {w : World} {K : W.Frag} {elts : List Expr} {kk : Nat} {tpos : Pos} (a e it : Addr) :
    Turn P w K (.Tuple elts kk tpos) (IteT K a) [e, it] e (fun i h => (∃ old, IsEnum h e it ((i : Nat) : Int) old) ∧ h.IsTupleIter it a i ∧ e ≠ it) where
  mem := by simp
  obj := fun i h st b hb => by
    obtain ⟨⟨old, he⟩, ⟨o, ho, hc, hd⟩, _⟩ := st
    rcases List.mem_cons.mp hb with z | z
    · rw [z]; exact ⟨_, he, fun v q => nomatch q⟩
    · rw [List.mem_singleton.mp z]; exact ⟨o, ho, fun v q => by rw [hd] at q; cases q⟩
  keep := fun i h h' st k => let ⟨⟨old, he⟩, hi, hne⟩ := st; ⟨⟨old, k e (by simp) _ he⟩, hi.at fun o q => k it (by simp) o q, hne⟩
  item := by
    intro X hP hw hK hc i pins s σ H E I hf st hg
    subst hP hw hK
    obtain ⟨⟨old, he⟩, hit, hne⟩ := st
    obtain ⟨xs, x, hq, hx⟩ := hg
    obtain ⟨its, rv, p, hz⟩ := I.tuple hq
    obtain ⟨u, hu, ru⟩ := rv.get hx
    have hT : s.heap.IsTuple a its.toArray := p
    have hel : e < s.heap.objs.size := Heap.lt_size he
    have hil : it < s.heap.objs.size := by obtain ⟨_, q, _⟩ := hit; exact Heap.lt_size q
    have nai : a ≠ it := fun z => by
      obtain ⟨o, ho, hcl, _⟩ := hit
      obtain ⟨o', ho', hcl', _⟩ := hT
      rw [z, ho] at ho'; cases ho'
      rw [hcl] at hcl'; exact absurd hcl' (by simp)
    have nae : a ≠ e := fun z => by
      obtain ⟨o', ho', hcl', _⟩ := hT
      rw [z] at ho'
      have he' : s.heap.get? e = some _ := he
      rw [he'] at ho'; cases ho'
      exact absurd hcl' (by simp)
    have hi : i < its.toArray.size := by
      have := (List.getElem?_eq_some_iff.mp hu).1
      simpa using this
    refine wpAny_pyNext_enum_itemD (Draws.tuple (prog := X.prog) (w := X.w) (A := X.A.in1) (I.ok.hd hc) it a nai its.toArray) he ⟨hit, hT⟩ hi hne (by simp [hne, nae.symm]) fun y h' tk hy ho hst hTn hsz hk => ?_
    have ey : y = u := by
      have h1 : its.toArray[i]? = some u := by simpa using hu
      rw [h1] at hy
      exact (Option.some.inj hy).symm
    subst ey
    refine ⟨_, rfl, wpAny_letOwnedTupleGo_enum (s := { s with heap := h', toks := tk + 1 }) ho fun h'' he' sb => ?_⟩
    have hT2 : h''.get? s.heap.objs.size = some { cls := .type "tuple", data := .seq #[.int i tk, y] } := (sb.2 _ (Nat.ne_of_gt hel)).trans hTn
    have new : ObjOk X.prog X.w (upd H s.heap.objs.size (.tup [.int (i : Nat), x])) h'' s.heap.objs.size (.tup [.int (i : Nat), x]) :=
      ⟨by show 2 ≤ sizeLine; decide, [.int i tk, y], .cons ⟨_, rfl⟩ (.cons ru .nil), ⟨_, hT2, rfl, _, rfl⟩⟩
    have I1 : Inv X pins σ (upd H s.heap.objs.size (.tup [.int (i : Nat), x])) { s with heap := h'', toks := tk + 1 } :=
      I.turnedNew (ch := [e, it]) (fun b ob hb q => (sb.2 b (fun z => hb (by simp [z]))).trans (hk b ob (fun z => hb (by simp [z])) (fun z => hb (by simp [z])) q)) hf (Nat.le_refl _) new
    refine ⟨.ref s.heap.objs.size, _, I1, rfl, ⟨_, x, rfl, I.hok.fresh (Nat.le_refl _), rfl, fun ys hy => by rw [I.tuple_inj hy hq]; exact hx⟩, ⟨⟨y, ?_⟩, hst.1.at fun o q => (sb.2 it (Ne.symm hne)).trans q, hne⟩, fun b hb => ?_⟩
    · have e1 : ((i + 1 : Nat) : Int) = (i : Int) + 1 := by omega
      rw [e1]; exact he'
    · have hb' : b < s.heap.objs.size := by
        rcases List.mem_cons.mp hb with z | z
        · rw [z]; exact hel
        · rw [List.mem_singleton.mp z]; exact hil
      rw [upd_ne (Nat.ne_of_lt hb')]
      exact (hf b hb).1
  done := by
    intro X hP hw hK hc i pins s σ H E I hf st hg
    subst hP hw hK
    obtain ⟨⟨old, he⟩, hit, hne⟩ := st
    obtain ⟨xs, hq, hx⟩ := hg
    obtain ⟨its, rv, p, hz⟩ := I.tuple hq
    have hT : s.heap.IsTuple a its.toArray := p
    obtain ⟨f0, f1, f2, f3, f4, f5⟩ := hf it (by simp)
    have hl := rv.length
    have hin : its.toArray.size ≤ i := by simp; omega
    exact ev_enum_end (I.ok.hd hc) he hit hT hin fun h' eb => ⟨rfl, I.turned (t' := s.toks) (fun b o hb q => eb b o hb q) f0 f1 f3 f4 f5⟩
  self := fun A i s Q E st h => let ⟨⟨_, he⟩, _⟩ := st; wpAny_pyIter_enum he h
def iEnumT (K : W.Frag) (ta : TA) : TI := fun σ H R => ta σ H fun vs H1 => ∃ a xs, vs = [.ref a] ∧ SqT K H1 a xs ∧ R (IteT K a) H1
theorem pi_enumT {X : Cx} {e : Expr} {ta : TA} {p pos tpos : Pos} {elts : List Expr} {kk : Nat} (hg : Gl X "enumerate") (hm : X.mg "enumerate" = none) (ha : PA X [e] ta) (hs : starEach [e] X.env = [(false, eval e X.env)]) :
    PI X (.Tuple elts kk tpos) (.Call (.Name "enumerate" p) [e] [] pos) (iEnumT X.K ta) := by
  refine ⟨fun pins s σ H R I h => ?_⟩
  refine Call_ (ld_blt I hg hm boot_enumerate (PyProof.Rows.callWith_type1 (thn (ha.run pos pins s σ H _ I h) fun us s1 ⟨vs, H1, I1, r1, q1⟩ => ?_) hs rfl))
  obtain ⟨a, xs, ex, hq, q⟩ := q1
  subst ex
  cases r1 with
  | cons r rr =>
    cases rr
    cases r
    obtain ⟨its, rv, p', hz⟩ := I1.tuple hq
    have hT : s1.heap.IsTuple a its.toArray := p'
    refine ev_enum_call (begins_tuple a its.toArray) hT fun h' he hit hsz hk => wpAny_pyIter_enum he ?_
    have I2 : Inv X pins σ H1 { s1 with heap := h' } := I1.kept (t' := s1.toks) hk
    refine ⟨s1.heap.objs.size + 1, [s1.heap.objs.size + 1, s1.heap.objs.size], _, _, H1, rfl, I2, turn_enumT a (s1.heap.objs.size + 1) s1.heap.objs.size, ⟨⟨.none, he⟩, ⟨_, hit, rfl, rfl⟩, Nat.succ_ne_self _⟩, fun b hb => ?_, q⟩
    have hle : s1.heap.objs.size ≤ b := by
      rcases List.mem_cons.mp hb with z | z
      · rw [z]; exact Nat.le_succ _
      · rw [List.mem_singleton.mp z]; exact Nat.le_refl _
    exact I1.fpOk hle (I1.hok.fresh hle)
end Ev
end
section
set_option linter.all false
set_option Elab.async false
set_option maxRecDepth 100000
set_option maxHeartbeats 2000000
/-! E10: targets; what is walked. -/
namespace Ev
open PySem PySem.Spec PyProof.Rows L2

theorem wipe_get {σ : L2.St} {j : Nat} : ∀ {vs : List Nat}, (L2.wipe σ vs)[j]? = if j ∈ vs ∧ j < σ.length then some none else σ[j]?
  | [] => by simp [L2.wipe]
  | v :: vs => by
    unfold L2.wipe
    rw [List.getElem?_set, L2.wipe_length]
    by_cases hv : v = j
    · subst hv
      by_cases hl : v < σ.length
      · simp [hl]
      · simp only [hl, and_false, if_false]
        simp
        omega
    · have : (j ∈ v :: vs) ↔ j ∈ vs := by simp [Ne.symm hv]
      simp only [hv, if_false, wipe_get, this]
theorem wipe_set {σ : L2.St} {i : Nat} {x : Option V} {vs : List Nat} (h : i ∈ vs) : L2.wipe (σ.set i x) vs = L2.wipe σ vs := by
  apply List.ext_getElem?
  intro j
  rw [wipe_get, wipe_get, List.length_set, List.getElem?_set]
  by_cases hj : j ∈ vs ∧ j < σ.length
  · rw [if_pos hj, if_pos hj]
  · rw [if_neg hj, if_neg hj]
    by_cases e : i = j
    · subst e
      have hl : ¬ i < σ.length := fun z => hj ⟨h, z⟩
      simp [hl]
    · rw [if_neg e]

theorem asg_cons {e : Expr} {es : List Expr} {env : PySem.Env} (h : isStar e = false) : assignEach (e :: es) env = (false, assign e env) :: assignEach es env := by
  cases e <;> first | rfl | cases h
theorem asg_len {env : PySem.Env} : ∀ {es : List Expr}, es.any isStar = false → (assignEach es env).length = es.length ∧ (assignEach es env).findIdx? (·.1) = none
  | [], _ => ⟨rfl, rfl⟩
  | e :: es, h => by
    rw [List.any_cons, Bool.or_eq_false_iff] at h
    obtain ⟨h1, h2⟩ := asg_len (env := env) h.2
    rw [asg_cons h.1]
    refine ⟨by rw [List.length_cons, List.length_cons, h1], ?_⟩
    rw [List.findIdx?_cons]
    simp [h2]

section
variable {pg : Pg} {fa : Fa} {F : FnT} {k j : Nat} {G : Gam} {X : Cx}
def PostG (fa : Fa) (rho : List Addr) (H : Hp) (sl : List Nat) (l' : Loc) (σ : L2.St) (Q : L2.St → Hp → Prop) : Prop :=
  ∀ σ', LR fa rho H l' σ' → (∀ vs : List Nat, (∀ i ∈ sl, i ∈ vs) → L2.wipe σ' vs = L2.wipe σ vs) → Q σ' H
def tGs (X : Cx) (ts : List Expr) : TGs := fun vs σ H Q => ∀ (pins : List (Addr × Obj)) (s : Shared) (us : List Value), Inv X pins σ H s → Vals vs us → wpAny (model X.prog X.w) X.A (assignInOrder ((assignEach ts X.env).map (·.2)) us) (fun _ s' => ∃ σ' H', Inv X pins σ' H' s' ∧ Q σ' H') X.xe s
theorem pgs_max (ts : List Expr) : PGs X ts (tGs X ts) := ⟨fun pins s _ _ _ us _ I r h => h pins s us I r⟩
theorem tGs_of {ts : List Expr} {t : TGs} {vs : List V} {σ : L2.St} {H : Hp} {Q : L2.St → Hp → Prop} (h : PGs X ts t) (q : t vs σ H Q) : tGs X ts vs σ H Q := fun pins s us I r => h.run pins s σ H vs us Q I r q
theorem chkTs_star {ck : Expr → CT → Bool} : ∀ {es : List Expr} {ts : List CT}, chkT.chkTs ck es ts = true → es.any isStar = false ∧ es.length = ts.length
  | [], [], _ => ⟨rfl, rfl⟩
  | e :: es, c :: cs, h => by
    simp only [chkT.chkTs, Bool.and_eq_true, Bool.not_eq_true'] at h
    obtain ⟨h1, h2⟩ := chkTs_star h.2
    exact ⟨by rw [List.any_cons, h.1.2, h1]; rfl, by rw [List.length_cons, List.length_cons, h2]⟩
  | [], _ :: _, h => by simp [chkT.chkTs] at h
  | _ :: _, [], h => by simp [chkT.chkTs] at h
theorem asgTs_len {S : Sto} : ∀ {ts : List CT} {ds : List D} {l l' : Loc}, asgTs S ts ds l = some l' → ts.length = ds.length
  | [], [], _, _, _ => rfl
  | t :: ts, d :: ds, l, l', h => by
    simp only [asgTs] at h
    split at h
    · rw [List.length_cons, List.length_cons, asgTs_len h]
    · cases h
  | [], _ :: _, _, _, h => by simp [asgTs] at h
  | _ :: _, [], _, _, h => by simp [asgTs] at h
theorem sg_of (ok : OkX pg fa F k j G X) : ∀ (n : Nat) {tg : Expr} {t : CT} {d : D} {v : V} {l l' : Loc} {S : Sto} {rho : List Addr} {σ : L2.St} {H : Hp} {Q : L2.St → Hp → Prop}, chkT G n tg t = true → asgT S t d l = some l' → LR fa rho H l σ → SR fa rho H S → R fa rho H d v →
    PostG fa rho H (ctSlots t) l' σ Q → tG X tg v σ H Q := by
  intro n
  induction n with
  | zero => intro tg t d v l l' S rho σ H Q h; simp [chkT] at h
  | succ n ih =>
    intro tg t d v l l' S rho σ H Q h ha L s r q
    unfold chkT at h
    split at h
    · cases h
    · rename_i m x p i hm
      simp only [Bool.and_eq_true, Bool.or_eq_true, decide_eq_true_eq] at h
      simp only [asgT] at ha
      cases ha
      have hN : X.N[i]? = some x := by rw [ok.N]; exact h.1
      have hloc : L2.Loc X.env.scope x := by
        rw [ok.sc]
        rcases h.2 with z | z
        · exact .inl z
        · exact .inr z.1
      have hf : X.fn x = true ∨ X.env.scope.names.lookup x = some .local := by
        rw [ok.sc, ok.fn]
        rcases h.2 with z | z
        · exact .inr z
        · exact .inl z.2
      refine tG_of (pg_name (by rw [ok.N]; exact ok.nd) hN hloc hf) ?_
      exact q _ (L.set r i) fun vs hv => wipe_set (hv i (by simp [ctSlots]))
    · rename_i m es x p ts hm
      have hnm : m = n := by omega
      subst hnm
      simp only [asgT] at ha
      obtain ⟨hst, hlen⟩ := chkTs_star h
      obtain ⟨al1, al2⟩ := asg_len (env := X.env) hst
      have row : ∀ {es : List Expr} {ts : List CT} {ds : List D} {vs : List V} {l l' : Loc} {σ : L2.St} {Q : L2.St → Hp → Prop}, chkT.chkTs (chkT G m) es ts = true → asgTs S ts ds l = some l' → LR fa rho H l σ → RL fa rho H ds vs → PostG fa rho H (ctSlotss ts) l' σ Q → tGs X es vs σ H Q := by
        intro es
        induction es with
        | nil =>
          intro ts ds vs l l' σ Q h ha L r q
          cases ts with
          | cons _ _ => simp [chkT.chkTs] at h
          | nil =>
            cases ds with
            | cons _ _ => simp [asgTs] at ha
            | nil =>
              simp only [asgTs] at ha
              cases ha
              cases r
              exact tGs_of pgs_nil ⟨rfl, q σ L fun vs _ => rfl⟩
        | cons e es ihe =>
          intro ts ds vs l l' σ Q h ha L r q
          cases ts with
          | nil => simp [chkT.chkTs] at h
          | cons t ts =>
            simp only [chkT.chkTs, Bool.and_eq_true, Bool.not_eq_true'] at h
            cases ds with
            | nil => simp [asgTs] at ha
            | cons d ds =>
              simp only [asgTs] at ha
              split at ha
              · rename_i l1 e1
                cases r with
                | cons r1 r2 =>
                  refine tGs_of (pgs_cons (pg_max e) (pgs_max es) (by rw [asg_cons h.1.2]; rfl)) ⟨_, _, rfl, ih h.1.1 e1 L s r1 fun σ1 L1 w1 => ?_⟩
                  refine ihe h.2 ha L1 r2 fun σ2 L2' w2 => ?_
                  refine q σ2 L2' fun vs hv => ?_
                  rw [w2 vs fun i hi => hv i (by simp only [ctSlotss]; exact List.mem_append_right _ hi), w1 vs fun i hi => hv i (by simp only [ctSlotss]; exact List.mem_append_left _ hi)]
              · cases ha
      split at ha
      · rename_i ds e
        obtain ⟨a, vs, rfl, h1, h2, _⟩ := r.readT s e
        refine tG_of (pg_tup ok.calm (pgs_max es) (n := es.length) al1 al2) ⟨a, vs, rfl, SqT.of h1, ?_, row h ha L h2 (by simpa [ctSlots] using q)⟩
        rw [← h2.length, ← asgTs_len ha, hlen]
      · rename_i ds e
        obtain ⟨a, vs, rfl, h1, h2⟩ := r.readL (K := X.K) s e
        refine tG_of (pg_lst ok.calm (pgs_max es) (n := es.length) al1 al2) ⟨a, vs, rfl, h1, ?_, row h ha L h2 (by simpa [ctSlots] using q)⟩
        rw [← h2.length, ← asgTs_len ha, hlen]
      · cases ha
    · cases h
end
end Ev
end
section
set_option linter.all false
set_option Elab.async false
set_option maxRecDepth 100000
set_option maxHeartbeats 2000000
/-! G2: t[::-1], t a tuple. -/
namespace Ev
open PySem PySem.Spec PyProof.Rows L2 HT
section
variable {prog : Program} {w : World} {A : Around} {E : Value → Shared → Prop} {s : Shared}
theorem adjust_rev (n : Nat) : Builtin.Slice.sliceAdjust none none (-1) (n : Int) = ((n : Int) - 1, -1) := by
  unfold Builtin.Slice.sliceAdjust
  simp
theorem places_rev (n : Nat) : Builtin.Slice.slicePlaces ((n : Int) - 1) (-1) (-1) = n := by
  unfold Builtin.Slice.slicePlaces
  have h1 : ¬ ((-1 : Int) > 0) := by omega
  simp only [h1, if_false]
  have e : -(-1 : Int) = 1 := by decide
  rw [e, Int.ediv_one]
  split <;> omega
theorem sliceApplied_rev {sl : Addr} {vs : Value} {n : Nat} {Q : Int × Int × Nat → Shared → Prop} (hs : s.heap.IsSliceOf sl .none .none vs) (ps : IsPart vs (some (-1)))
    (h : Q ((n : Int) - 1, -1, n) s) : wpAny (model prog w) A (Builtin.Slice.sliceApplied (.ref sl) (pure (n : Int))) Q E s := by
  obtain ⟨os, hos, hcs, hds⟩ := id hs
  unfold Builtin.Slice.sliceApplied Builtin.Slice.sliceFields
  refine wpAny_bind (wpAny_bind (wpAny_field hos hds (x := .none) rfl (wpAny_bind (wpAny_field hos hds (x := .none) rfl (wpAny_bind (wpAny_field hos hds (x := vs) rfl (wpAny_pure ?_)))))))
  refine wpAny_bind (slicePart_ ps ?_)
  show wpAny _ _ (if ((-1 : Int) == 0) = true then _ else _) _ _ s
  rw [if_neg (by decide)]
  refine wpAny_bind (slicePart_none (wpAny_bind (slicePart_none (wpAny_bind (wpAny_pure ?_)))))
  show wpAny _ _ (match Builtin.Slice.sliceAdjust none none (-1) (n : Int) with | (lo, hi) => pure (lo, (-1 : Int), Builtin.Slice.slicePlaces lo hi (-1))) _ _ s
  rw [adjust_rev]
  show wpAny _ _ (pure ((n : Int) - 1, (-1 : Int), Builtin.Slice.slicePlaces ((n : Int) - 1) (-1) (-1))) _ _ s
  rw [places_rev]
  exact wpAny_pure h
theorem fm_congr {α β : Type} {f g : α → Option β} : ∀ {l : List α}, (∀ x ∈ l, f x = g x) → l.filterMap f = l.filterMap g
  | [], _ => rfl
  | x :: r, h => by
    rw [List.filterMap_cons, List.filterMap_cons, h x (List.mem_cons_self ..), fm_congr (l := r) fun y hy => h y (List.mem_cons_of_mem _ hy)]
theorem pick_rev (xs : Array Value) : ((List.range xs.size).filterMap fun (m : Nat) => xs[(((xs.size : Nat) : Int) - 1 + (m : Int) * -1).toNat]?).toArray = xs.toList.reverse.toArray := by
  have h := pick_gen xs.toList.reverse.toArray 0 xs.size
  rw [List.drop_zero, List.take_of_length_le (by simp)] at h
  have e2 : (xs.toList.reverse.toArray).toList = xs.toList.reverse := rfl
  rw [e2] at h
  rw [← h]
  congr 1
  refine fm_congr fun m hm => ?_
  have hm := List.mem_range.mp hm
  have e1 : (((xs.size : Nat) : Int) - 1 + (m : Int) * -1).toNat = xs.size - 1 - m := by omega
  have e3 : (((0 : Nat) : Int) + (m : Int) * 1).toNat = m := by omega
  rw [e1, e3]
  have q : xs.toList.reverse.toArray[m]? = xs.toList.reverse[m]? := by simp
  rw [q, List.getElem?_reverse (by simpa using hm), Array.length_toList, Array.getElem?_toList]
theorem getItem_tuple_rev {t sl : Addr} {items : Array Value} {vs : Value} {Q : Value → Shared → Prop} (ht : IsTup s.heap t items) (hs : s.heap.IsSliceOf sl .none .none vs) (ps : IsPart vs (some (-1)))
    (h : Q (.ref s.heap.objs.size) { s with heap := s.heap.push { cls := .type "tuple", data := .seq items.toList.reverse.toArray } })
    (hsz : items.size ≤ sizeLine) : wpAny (model prog w) A (getItem (.ref t) (.ref sl)) Q E s := by
  have htake : sizeOk (.seq items.toList.reverse.toArray) := by
    show items.toList.reverse.toArray.size ≤ sizeLine
    rw [List.size_toArray, List.length_reverse, Array.length_toList]
    exact hsz
  obtain ⟨os, hos, hcs, hds⟩ := id hs
  have hTs : s.TypeIs (.ref sl) "slice" := ⟨os, hos, hcs⟩
  unfold getItem
  try with_reducible refine wpAny_holding ?_
  first | refine wpAny_bind (wpAny_pure ?_) | skip
  refine wpAny_bind (wpAny_sequenceKey ht.typeIs (by decide) ?_)
  refine wpAny_bind (wpAny_callSpecial?_slot (name := Str.ofString "__getitem__") ht.typeIs PyProof.Rows.slot_tuple_getitem
    (wpAny_call_entry PyProof.Rows.slot_tuple_getitem ht.typeIs entry_tuple_getitem ?_ (args_tuple_getitem _ _)))
  show wpAny _ _ (Builtin.Tuple.tupleItemsOf (.ref t) >>= _) _ _ s
  refine wpAny_bind (tupleItemsOf_ ht ?_)
  refine wpAny_bind (wpAny_typeOf hTs ?_)
  rw [if_pos (by decide)]
  refine wpAny_bind (sliceApplied_rev hs ps ?_)
  have hno : ¬ ((((items.size : Nat) : Int) - 1 == 0 && (-1 : Int) == 1 && items.size == items.size) = true) := by
    intro q
    rw [Bool.and_eq_true, Bool.and_eq_true] at q
    exact absurd q.1.2 (by decide)
  show wpAny _ _ (if (((items.size : Nat) : Int) - 1 == 0 && (-1 : Int) == 1 && items.size == items.size) = true then _ else _) _ _ s
  rw [if_neg hno, pick_rev]
  first
    | exact wpAny_bind (m := Builtin.Tuple.tupleExact _) (wpAny_newObj_type (wpAny_pure ⟨_, rfl, wpAny_pure h⟩) htake)
    | exact wpAny_bind (m := Builtin.Tuple.tupleExact _) (wpAny_newObj_type (wpAny_bind (wpAny_pure (wpAny_pure ⟨_, rfl, wpAny_pure h⟩))) htake)
    | exact wpAny_bind (wpAny_bind (m := Builtin.Tuple.tupleExact _) (wpAny_newObj_type (wpAny_pure (wpAny_pure ⟨_, rfl, wpAny_pure h⟩)) htake))
    | exact wpAny_bind (wpAny_bind (m := Builtin.Tuple.tupleExact _) (wpAny_newObj_type (wpAny_pure ⟨_, rfl, wpAny_pure h⟩) htake))
end
def tRevT (K : PySem.W.Frag) (te : TE) : TE := fun σ H Q => te σ H fun x H1 => ∃ a xs, x = .ref a ∧ SqT K H1 a xs ∧ ∀ p, H1 p = none → Q (.ref p) (upd H1 p (.tup xs.reverse))
section
variable {X : Cx}
theorem pe_revT {e : Expr} {te : TE} {k : Nat} {p1 p2 p3 pos : Pos} (he : PE X e te) : PE X (.Subscript e (.Slice none none (some (.UnaryOp .USub (.Constant (.int 1) k p1) p2)) p3) pos) (tRevT X.K te) := by
  refine ⟨fun pins s σ H Q I h => ?_⟩
  refine Subscript_ (thn (he.run pins s σ H _ I h) fun v s1 ⟨x, H1, I1, r1, q1⟩ => ?_)
  obtain ⟨a, xs, ex, hx, q⟩ := q1
  subst ex
  cases r1
  have hst : PO X (some (.UnaryOp .USub (.Constant (.int 1) k p1) p2)) (tPart (tUn (rU fun i => .int (-i)) (tC (.int 1)))) := po_some (pe_un un_neg pe_int)
  refine wpAny_Slice (thn (po_none.run pins s1 σ H1 (fun o H2 => o = none ∧ H2 = H1) I1 ⟨rfl, rfl⟩) fun vl s2 ⟨l, H2, I2, pl, el, e2⟩ => ?_)
  subst el e2
  refine thn (po_none.run pins s2 σ H2 (fun o H3 => o = none ∧ H3 = H2) I2 ⟨rfl, rfl⟩) fun vu s3 ⟨u, H3, I3, pu, eu, e3⟩ => ?_
  subst eu e3
  refine thn (hst.run pins s3 σ H3 (fun o H4 => o = some (-1) ∧ H4 = H3) I3 ⟨1, rfl, -1, rfl, rfl, rfl⟩) fun vs s4 ⟨o, H4, I4, ps, eo, e4⟩ => ?_
  subst eo e4
  cases pl
  cases pu
  have I5 : Inv X pins σ H4 { s4 with heap := s4.heap.push { cls := .type "slice", data := .fields #[.none, .none, vs] } } := I4.kept (t' := s4.toks) fun b ob q => Heap.get?_push_of_some _ q
  obtain ⟨its, r, ht, hz⟩ := I5.tuple hx
  have hlen := r.length
  show wpAny (model X.prog X.w) X.A (subscriptTail e (.Slice none none (some (.UnaryOp .USub (.Constant (.int 1) k p1) p2)) p3) (.ref a) (.ref s4.heap.objs.size)) (EP X pins σ Q) X.xe { s4 with heap := s4.heap.push { cls := .type "slice", data := .fields #[.none, .none, vs] } }
  refine tail_any (ops := [.ref a, .ref s4.heap.objs.size]) ht.typeIs (PyProof.Rows.slot_tuple_getitem.lookup) ?_ (by with_unfolding_all rfl)
  refine getItem_tuple_rev ht (Heap.IsSliceOf.new _ .none .none vs) ps ?_ (by rw [List.size_toArray]; omega)
  refine ⟨.ref _, _, I5.laid (t' := s4.toks) (o := .tup xs.reverse) (fun b ob q => Heap.get?_push_of_some _ q) (Nat.le_refl _) ?_, rfl, q _ (I5.hok.fresh (Nat.le_refl _))⟩
  exact ⟨by rw [List.length_reverse]; exact hz, _, r.reverse, IsTup.new _ _⟩
end
end Ev
end
section
set_option linter.all false
set_option Elab.async false
set_option maxRecDepth 100000
set_option maxHeartbeats 2000000
/-! E11: what is walked. -/
namespace Ev
open PySem PySem.Spec PyProof.Rows L2
section
variable {pg : Pg} {fa : Fa} {F : FnT} {k j : Nat} {G : Gam} {X : Cx}

/-- the walk J tells what the evaluator's walk tells, from (rho0, H0) on -/
def ITR (fa : Fa) (rho0 : List Addr) (H0 : Hp) (J : It) (it : IT) : Prop := ∀ (fa' : Fa) (i : Nat) (rho : List Addr) (H : Hp) (S : Sto), fa.Up H0 fa' → Ext rho0 H0 rho H → SR fa' rho H S →
  (it.at S i = some none → J.stop i H) ∧ ∀ d, it.at S i = some (some d) → J.go i H ∧ ∀ x H', J.yld i H x H' → Ext rho H rho H' ∧ SR fa' rho H' S ∧ R fa' rho H' d x
theorem ITR.mono {rho0 rho1 : List Addr} {H0 H1 : Hp} {S1 : Sto} {J : It} {it : IT} (h : ITR fa rho0 H0 J it) (e : Ext rho0 H0 rho1 H1) (s : SR fa rho1 H1 S1) : ITR fa rho1 H1 J it :=
  fun fa' i rho H S u x s' => h fa' i rho H S (e.up s u) (e.trans s x) s'

def SIv (fa : Fa) (X : Cx) (tg : Expr) (ev : Loc → Sto → R3 IT) (e : Expr) : Prop := ∀ (l : Loc) (S : Sto) (it : IT) (S' : Sto) (rho : List Addr) (σ : L2.St) (H : Hp) (Rr : It → Hp → Prop),
  ev l S = .ok it S' → LR fa rho H l σ → SR fa rho H S → (∀ rho' H' J, Ext rho H rho' H' → SR fa rho' H' S' → ITR fa rho' H' J it → Rr J H') → tI X tg e σ H Rr

/-- a source: a list or a tuple at a -/
def SrcL (fa : Fa) (K : W.Frag) (rho0 : List Addr) (H0 : Hp) (a : Addr) (sr : Src) : Prop := ∀ (fa' : Fa) (rho : List Addr) (H : Hp) (S : Sto), fa.Up H0 fa' → Ext rho0 H0 rho H → SR fa' rho H S →
  (sr.at S 0 ≠ none → ∃ xs, SqL K H a xs) ∧ ∀ i, (sr.at S i = some none → ∃ xs, SqL K H a xs ∧ xs.length ≤ i) ∧ ∀ d, sr.at S i = some (some d) → ∃ xs x, SqL K H a xs ∧ xs[i]? = some x ∧ R fa' rho H d x
def SrcT (fa : Fa) (K : W.Frag) (rho0 : List Addr) (H0 : Hp) (a : Addr) (sr : Src) : Prop := ∀ (fa' : Fa) (rho : List Addr) (H : Hp) (S : Sto), fa.Up H0 fa' → Ext rho0 H0 rho H → SR fa' rho H S →
  ∀ i, (sr.at S i = some none → ∃ xs, SqT K H a xs ∧ xs.length ≤ i) ∧ ∀ d, sr.at S i = some (some d) → ∃ xs x, SqT K H a xs ∧ xs[i]? = some x ∧ R fa' rho H d x
theorem vals_at {xs : List D} {i : Nat} {S : Sto} : (Src.vals xs).at S i = some xs[i]? := rfl
theorem srcL_vals {K : W.Frag} {rho : List Addr} {H : Hp} {xs : List D} {vs : List V} {a : Addr} (h1 : Oth fa rho a) (h2 : H a = some (.lst vs)) (r : RL fa rho H xs vs) : SrcL fa K rho H a (.vals xs) := by
  intro fa' rho' H' S u e s
  have q := SqL.of (K := K) (e.keep a _ h1.1 h2)
  have r' := (r.lift u).mono e
  refine ⟨fun _ => ⟨vs, q⟩, fun i => ⟨fun z => ⟨vs, q, ?_⟩, fun d z => ?_⟩⟩
  · rw [vals_at] at z
    have := List.getElem?_eq_none_iff.mp (Option.some.inj z)
    rw [← r'.length]; exact this
  · rw [vals_at] at z
    obtain ⟨v, e1, e2⟩ := r'.get (Option.some.inj z)
    exact ⟨vs, v, q, e1, e2⟩
theorem srcT_vals {K : W.Frag} {rho : List Addr} {H : Hp} {xs : List D} {vs : List V} {a : Addr} (h1 : Oth fa rho a) (h2 : H a = some (.tup vs)) (r : RL fa rho H xs vs) : SrcT fa K rho H a (.vals xs) := by
  intro fa' rho' H' S u e s
  have q := SqT.of (K := K) (e.keep a _ h1.1 h2)
  have r' := (r.lift u).mono e
  refine fun i => ⟨fun z => ⟨vs, q, ?_⟩, fun d z => ?_⟩
  · rw [vals_at] at z
    have := List.getElem?_eq_none_iff.mp (Option.some.inj z)
    rw [← r'.length]; exact this
  · rw [vals_at] at z
    obtain ⟨v, e1, e2⟩ := r'.get (Option.some.inj z)
    exact ⟨vs, v, q, e1, e2⟩
theorem srcL_cell {K : W.Frag} {rho : List Addr} {H : Hp} {n : Nat} {a : Addr} (h : rho[n]? = some a) : SrcL fa K rho H a (.cell n) := by
  intro fa' rho' H' S u e s
  have ha := e.at h
  have main : ∀ i z, (Src.cell n).at S i = some z → ∃ xs, (S[n]? = some (.lst xs) ∨ S[n]? = some (.fz xs)) ∧ z = xs[i]? := fun i z q => by
    simp only [Src.at] at q
    split at q
    · rename_i xs e1; exact ⟨xs, .inl e1, (Option.some.inj q).symm⟩
    · rename_i xs e1; exact ⟨xs, .inr e1, (Option.some.inj q).symm⟩
    · cases q
  refine ⟨fun z => ?_, fun i => ⟨fun z => ?_, fun d z => ?_⟩⟩
  · cases q : (Src.cell n).at S 0 with
    | none => exact absurd q z
    | some y =>
      obtain ⟨xs, e1, _⟩ := main 0 y q
      obtain ⟨vs, q1, _⟩ := s.rdL (K := K) ha e1
      exact ⟨vs, q1⟩
  · obtain ⟨xs, e1, e2⟩ := main i _ z
    obtain ⟨vs, q1, q2⟩ := s.rdL (K := K) ha e1
    exact ⟨vs, q1, by rw [← q2.length]; exact List.getElem?_eq_none_iff.mp e2.symm⟩
  · obtain ⟨xs, e1, e2⟩ := main i _ z
    obtain ⟨vs, q1, q2⟩ := s.rdL (K := K) ha e1
    obtain ⟨v, w1, w2⟩ := q2.get e2.symm
    exact ⟨vs, v, q1, w1, w2⟩
/-- what srcD tells -/
theorem src_case {K : W.Frag} {S : Sto} {rho : List Addr} {H : Hp} {d : D} {v : V} {sr : Src} (s : SR fa rho H S) (h : srcD S d = some sr) (r : R fa rho H d v) :
    (isTupD d = true ∧ ∃ a vs, v = .ref a ∧ SqT K H a vs ∧ SrcT fa K rho H a sr) ∨ (isTupD d = false ∧ ∃ a vs, v = .ref a ∧ SqL K H a vs ∧ SrcL fa K rho H a sr) := by
  cases r with
  | tup h1 h2 h3 => simp only [srcD] at h; cases h; exact .inl ⟨rfl, _, _, rfl, SqT.of h2, srcT_vals h1 h2 h3⟩
  | lst h1 h2 h3 => simp only [srcD] at h; cases h; exact .inr ⟨rfl, _, _, rfl, SqL.of h2, srcL_vals h1 h2 h3⟩
  | @ref n a h1 =>
    simp only [srcD] at h
    split at h
    · rename_i xs e
      cases h
      obtain ⟨vs, q1, _⟩ := s.rdL (K := K) h1 (.inl e)
      exact .inr ⟨rfl, a, vs, rfl, q1, srcL_cell h1⟩
    · rename_i xs e
      cases h
      obtain ⟨vs, q1, _⟩ := s.rdL (K := K) h1 (.inr e)
      exact .inr ⟨rfl, a, vs, rfl, q1, srcL_cell h1⟩
    · cases h
  | _ => simp only [srcD] at h; cases h

theorem itr_tup {K : W.Frag} {rho : List Addr} {H : Hp} {a : Addr} {sr : Src} (h : SrcT fa K rho H a sr) : ITR fa rho H (Itt K a) (.one sr) := by
  intro fa' i rho' H' S u e s
  obtain ⟨h1, h2⟩ := h fa' rho' H' S u e s i
  refine ⟨h1, fun d z => ?_⟩
  obtain ⟨xs, x, q1, q2, q3⟩ := h2 d z
  refine ⟨⟨xs, x, q1, q2⟩, fun y H'' hy => ?_⟩
  obtain ⟨rfl, hy⟩ := hy
  have := hy xs q1
  rw [q2] at this; cases this
  exact ⟨Ext.refl, s, q3⟩
theorem itr_lst {K : W.Frag} {rho : List Addr} {H : Hp} {a : Addr} {sr : Src} (h : SrcL fa K rho H a sr) : ITR fa rho H (Itl K a) (.one sr) := by
  intro fa' i rho' H' S u e s
  obtain ⟨_, h0⟩ := h fa' rho' H' S u e s
  obtain ⟨h1, h2⟩ := h0 i
  refine ⟨h1, fun d z => ?_⟩
  obtain ⟨xs, x, q1, q2, q3⟩ := h2 d z
  refine ⟨⟨xs, x, q1, q2⟩, fun y H'' hy => ?_⟩
  obtain ⟨rfl, hy⟩ := hy
  have := hy xs q1
  rw [q2] at this; cases this
  exact ⟨Ext.refl, s, q3⟩
theorem at_enum {S : Sto} {sr : Src} {i : Nat} : (IT.enum sr).at S i = (match sr.at S i with | some (some d) => some (some (.tup [.int i, d])) | some none => some none | none => none) := rfl
theorem new_pair {rho : List Addr} {H : Hp} {S : Sto} {d e : D} {x y : V} {T : Addr} (s : SR fa rho H S) (r1 : R fa rho H d x) (r2 : R fa rho H e y) (hT : H T = none) :
    Ext rho H rho (upd H T (.tup [x, y])) ∧ SR fa rho (upd H T (.tup [x, y])) S ∧ R fa rho (upd H T (.tup [x, y])) (.tup [d, e]) (.ref T) :=
  ⟨Ext.new hT, s.new hT, R.newTup s hT (.cons r1 (.cons r2 .nil))⟩
theorem itr_enumT {K : W.Frag} {rho : List Addr} {H : Hp} {a : Addr} {sr : Src} (h : SrcT fa K rho H a sr) : ITR fa rho H (IteT K a) (.enum sr) := by
  intro fa' i rho' H' S u e s
  obtain ⟨h1, h2⟩ := h fa' rho' H' S u e s i
  rw [at_enum]
  refine ⟨fun z => ?_, fun d z => ?_⟩
  · split at z
    · cases z
    · rename_i q; exact h1 q
    · cases z
  · split at z
    · rename_i d' q
      cases z
      obtain ⟨xs, x, q1, q2, q3⟩ := h2 d' q
      refine ⟨⟨xs, x, q1, q2⟩, fun y H'' hy => ?_⟩
      obtain ⟨T, x', rfl, hT, rfl, hy⟩ := hy
      have := hy xs q1
      rw [q2] at this; cases this
      exact new_pair s (.int _) q3 hT
    · cases z
    · cases z
theorem itr_enumL {K : W.Frag} {rho : List Addr} {H : Hp} {a : Addr} {sr : Src} (h : SrcL fa K rho H a sr) : ITR fa rho H (Ite K a) (.enum sr) := by
  intro fa' i rho' H' S u e s
  obtain ⟨_, h0⟩ := h fa' rho' H' S u e s
  obtain ⟨h1, h2⟩ := h0 i
  rw [at_enum]
  refine ⟨fun z => ?_, fun d z => ?_⟩
  · split at z
    · cases z
    · rename_i q; exact h1 q
    · cases z
  · split at z
    · rename_i d' q
      cases z
      obtain ⟨xs, x, q1, q2, q3⟩ := h2 d' q
      refine ⟨⟨xs, x, q1, q2⟩, fun y H'' hy => ?_⟩
      obtain ⟨T, x', rfl, hT, rfl, hy⟩ := hy
      have := hy xs q1
      rw [q2] at this; cases this
      exact new_pair s (.int _) q3 hT
    · cases z
    · cases z
theorem at_zip {S : Sto} {a b : Src} {i : Nat} : (IT.zip a b).at S i = (match a.at S i, b.at S i with
    | some (some x), some (some y) => some (some (.tup [x, y]))
    | some _, some _ => some none
    | _, _ => none) := rfl
theorem zip_stop {S : Sto} {a b : Src} {i : Nat} (z : (IT.zip a b).at S i = some none) : (a.at S i = some none ∧ ∃ y, b.at S i = some y) ∨ (b.at S i = some none ∧ ∃ y, a.at S i = some y) := by
  rw [at_zip] at z
  split at z
  · cases z
  · rename_i x y h q1 q2
    cases x with
    | none => exact .inl ⟨q1, y, q2⟩
    | some x =>
      cases y with
      | none => exact .inr ⟨q2, _, q1⟩
      | some y => exact (h x y rfl rfl).elim
  · cases z
theorem zip_go {S : Sto} {a b : Src} {i : Nat} {d : D} (z : (IT.zip a b).at S i = some (some d)) : ∃ x y, a.at S i = some (some x) ∧ b.at S i = some (some y) ∧ d = .tup [x, y] := by
  rw [at_zip] at z
  split at z
  · rename_i x y q1 q2; cases z; exact ⟨x, y, q1, q2, rfl⟩
  · cases z
  · cases z
theorem itr_zipT {K : W.Frag} {rho : List Addr} {H : Hp} {a b : Addr} {sr tr : Src} (h : SrcT fa K rho H a sr) (h' : SrcT fa K rho H b tr) : ITR fa rho H (RZ.ItzT K a b) (.zip sr tr) := by
  intro fa' i rho' H' S u e s
  obtain ⟨h1, h2⟩ := h fa' rho' H' S u e s i
  obtain ⟨h3, h4⟩ := h' fa' rho' H' S u e s i
  refine ⟨fun z => ?_, fun d z => ?_⟩
  · rcases zip_stop z with ⟨q1, y, q2⟩ | ⟨q1, y, q2⟩
    · obtain ⟨xs, x1, x2⟩ := h1 q1
      cases y with
      | none => obtain ⟨ys, y1, y2⟩ := h3 q2; exact ⟨xs, ys, x1, y1, .inl x2⟩
      | some y => obtain ⟨ys, y', y1, y2⟩ := h4 _ q2; exact ⟨xs, ys, x1, y1, .inl x2⟩
    · obtain ⟨ys, x1, x2⟩ := h3 q1
      cases y with
      | none => obtain ⟨xs, y1, y2⟩ := h1 q2; exact ⟨xs, ys, y1, x1, .inr x2⟩
      | some y => obtain ⟨xs, y', y1, y2⟩ := h2 _ q2; exact ⟨xs, ys, y1, x1, .inr x2⟩
  · obtain ⟨dx, dy, qx, qy, rfl⟩ := zip_go z
    obtain ⟨xs, x, q1, q2, q3⟩ := h2 dx qx
    obtain ⟨ys, y, p1, p2, p3⟩ := h4 dy qy
    refine ⟨⟨xs, ys, x, y, q1, p1, q2, p2⟩, fun v H'' hy => ?_⟩
    obtain ⟨T, x', y', rfl, hT, rfl, hx, hy⟩ := hy
    have := hx xs q1
    rw [q2] at this; cases this
    have := hy ys p1
    rw [p2] at this; cases this
    exact new_pair s q3 p3 hT
theorem itr_zipL {K : W.Frag} {rho : List Addr} {H : Hp} {a b : Addr} {sr tr : Src} (h : SrcL fa K rho H a sr) (h' : SrcL fa K rho H b tr) : ITR fa rho H (Itz K a b) (.zip sr tr) := by
  intro fa' i rho' H' S u e s
  obtain ⟨_, h0⟩ := h fa' rho' H' S u e s
  obtain ⟨h1, h2⟩ := h0 i
  obtain ⟨_, h0'⟩ := h' fa' rho' H' S u e s
  obtain ⟨h3, h4⟩ := h0' i
  refine ⟨fun z => ?_, fun d z => ?_⟩
  · rcases zip_stop z with ⟨q1, y, q2⟩ | ⟨q1, y, q2⟩
    · obtain ⟨xs, x1, x2⟩ := h1 q1
      cases y with
      | none => obtain ⟨ys, y1, y2⟩ := h3 q2; exact ⟨xs, ys, x1, y1, .inl x2⟩
      | some y => obtain ⟨ys, y', y1, y2⟩ := h4 _ q2; exact ⟨xs, ys, x1, y1, .inl x2⟩
    · obtain ⟨ys, x1, x2⟩ := h3 q1
      cases y with
      | none => obtain ⟨xs, y1, y2⟩ := h1 q2; exact ⟨xs, ys, y1, x1, .inr x2⟩
      | some y => obtain ⟨xs, y', y1, y2⟩ := h2 _ q2; exact ⟨xs, ys, y1, x1, .inr x2⟩
  · obtain ⟨dx, dy, qx, qy, rfl⟩ := zip_go z
    obtain ⟨xs, x, q1, q2, q3⟩ := h2 dx qx
    obtain ⟨ys, y, p1, p2, p3⟩ := h4 dy qy
    refine ⟨⟨xs, ys, x, y, q1, p1, q2, p2⟩, fun v H'' hy => ?_⟩
    obtain ⟨T, x', y', rfl, hT, rfl, hx, hy⟩ := hy
    have := hx xs q1
    rw [q2] at this; cases this
    have := hy ys p1
    rw [p2] at this; cases this
    exact new_pair s q3 p3 hT

/-! ### what is walked, as a text -/
theorem ta_one {e : Expr} {ev : Loc → Sto → R3 D} (he : SEv fa X ev e) (hst : isStar e = false) {l : Loc} {S : Sto} {d : D} {S' : Sto} {rho : List Addr} {σ : L2.St} {H : Hp} {Q : List V → Hp → Prop}
    (h : ev l S = .ok d S') (L : LR fa rho H l σ) (s : SR fa rho H S) (q : ∀ rho' H' v, Ext rho H rho' H' → SR fa rho' H' S' → R fa rho' H' d v → Q [v] H') : tA X [e] σ H Q := by
  refine tA_of (pa_cons (pe_max e) pa_nil (star_cons hst)) (he _ _ _ _ _ _ _ _ h L s fun rho1 H1 v x1 s1 r1 => ?_)
  exact q rho1 H1 v x1 s1 r1
theorem ta_two {e f : Expr} {ev ew : Loc → Sto → R3 D} (he : SEv fa X ev e) (hf : SEv fa X ew f) (hst : isStar e = false) (hsf : isStar f = false) {l : Loc} {S : Sto} {d d2 : D} {S1 S' : Sto} {rho : List Addr} {σ : L2.St} {H : Hp} {Q : List V → Hp → Prop}
    (h : ev l S = .ok d S1) (h2 : ew l S1 = .ok d2 S') (L : LR fa rho H l σ) (s : SR fa rho H S) (q : ∀ rho' H' v u, Ext rho H rho' H' → SR fa rho' H' S' → R fa rho' H' d v → R fa rho' H' d2 u → Q [v, u] H') : tA X [e, f] σ H Q := by
  refine tA_of (pa_cons (pe_max e) (pa_cons (pe_max f) pa_nil (star_cons hsf)) (star_cons hst)) (he _ _ _ _ _ _ _ _ h L s fun rho1 H1 v x1 s1 r1 => ?_)
  refine hf _ _ _ _ _ _ _ _ h2 (L.mono x1) s1 fun rho2 H2 u x2 s2 r2 => ?_
  exact q rho2 H2 v u (x1.trans s1 x2) s2 (r1.mono x2) r2
def isTp : CT → Bool
  | .tp _ => true
  | _ => false
theorem tg_tup {n : Nat} {tg : Expr} {t : CT} (h : chkT G n tg t = true) (h2 : isTp t = true) : ∃ es p q, tg = .Tuple es p q := by
  cases t with
  | nm i => cases h2
  | tp ts =>
    unfold chkT at h
    split at h
    · cases h
    · rename_i e; cases e
    · exact ⟨_, _, _, rfl⟩
    · cases h
theorem small_ok {i : Int} (h : small i = true) : -2 ^ 62 ≤ i ∧ i < 2 ^ 62 := of_decide_eq_true h
theorem itr_rng {rho : List Addr} {H : Hp} {lo : Int} {n : Nat} : ITR fa rho H (Itr lo n) (.rng lo 1 n) := by
  intro fa' i rho' H' S u e s
  refine ⟨fun z => ?_, fun d z => ?_⟩
  · simp only [IT.at] at z
    split at z
    · cases z
    · rename_i h; exact Nat.le_of_not_lt h
  · simp only [IT.at] at z
    split at z
    · rename_i h
      cases z
      refine ⟨h, fun x H'' hy => ?_⟩
      obtain ⟨rfl, rfl⟩ := hy
      rw [Int.mul_one]
      exact ⟨Ext.refl, s, .int _⟩
    · cases z
theorem itr_rngc {rho : List Addr} {H : Hp} {lo c : Int} {n : Nat} : ITR fa rho H (Itc lo c n) (.rng lo c n) := by
  intro fa' i rho' H' S u e s
  refine ⟨fun z => ?_, fun d z => ?_⟩
  · simp only [IT.at] at z
    split at z
    · cases z
    · rename_i h; exact Nat.le_of_not_lt h
  · simp only [IT.at] at z
    split at z
    · rename_i h
      cases z
      refine ⟨h, fun x H'' hy => ?_⟩
      obtain ⟨rfl, rfl⟩ := hy
      exact ⟨Ext.refl, s, .int _⟩
    · cases z
theorem rl_one {rho : List Addr} {H : Hp} {d : D} {vs : List V} (r : RL fa rho H [d] vs) : ∃ v, vs = [v] ∧ R fa rho H d v := by
  cases r with
  | cons r1 r2 => cases r2; exact ⟨_, rfl, r1⟩
theorem rev_at {α : Type} {xs : List α} {i : Nat} (h : i < xs.length) : xs.reverse[i]? = xs[xs.length - 1 - i]? := by
  rw [List.getElem?_reverse h]
theorem itr_rev {K : W.Frag} {rho : List Addr} {H : Hp} {a : Addr} {ds : List D} {vs : List V} {J : It} (r : RL fa rho H ds vs) (q : (H a = some (.lst vs) ∧ J = Itv K a vs.length) ∨ (H a = some (.tup vs) ∧ J = RT.ItvT K a vs.length)) (ha : Oth fa rho a) :
    ITR fa rho H J (.one (.vals ds.reverse)) := by
  intro fa' i rho' H' S u e s
  have hl := r.length
  have at_ : ∀ z, (IT.one (.vals ds.reverse)).at S i = some z → z = ds.reverse[i]? := fun z q => (Option.some.inj q).symm
  refine ⟨fun z => ?_, fun d z => ?_⟩
  · have := List.getElem?_eq_none_iff.mp (at_ _ z).symm
    rw [List.length_reverse, hl] at this
    rcases q with ⟨_, rfl⟩ | ⟨_, rfl⟩ <;> exact this
  · have e1 := (at_ _ z).symm
    have hi : i < ds.length := by
      have := (List.getElem?_eq_some_iff.mp e1).1
      rwa [List.length_reverse] at this
    rw [rev_at hi, hl] at e1
    obtain ⟨v, e2, r2⟩ := r.get e1
    rcases q with ⟨q1, rfl⟩ | ⟨q1, rfl⟩
    · have q2 := SqL.of (K := K) (e.keep a _ ha.1 q1)
      refine ⟨⟨by rw [← hl]; exact hi, vs, v, q2, e2⟩, fun x H'' hy => ?_⟩
      obtain ⟨rfl, hy⟩ := hy
      have := hy vs q2
      rw [e2] at this; cases this
      exact ⟨Ext.refl, s, (r2.lift u).mono e⟩
    · have q2 := SqT.of (K := K) (e.keep a _ ha.1 q1)
      refine ⟨⟨by rw [← hl]; exact hi, vs, v, q2, e2⟩, fun x H'' hy => ?_⟩
      obtain ⟨rfl, hy⟩ := hy
      have := hy vs q2
      rw [e2] at this; cases this
      exact ⟨Ext.refl, s, (r2.lift u).mono e⟩
theorem map_some {α β : Type} {f : α → β} {x : Option α} {b : β} (h : x.map f = some b) : ∃ a, x = some a ∧ f a = b := by
  cases x with
  | none => cases h
  | some a => exact ⟨a, rfl, Option.some.inj h⟩

theorem chkL_len {ck : Expr → Ev.CE → Bool} : ∀ {es : List Expr} {cs : List Ev.CE}, chkL ck es cs = true → es.length = cs.length
  | [], [], _ => rfl
  | e :: es, c :: cs, h => by
    simp only [chkL, Bool.and_eq_true] at h
    rw [List.length_cons, List.length_cons, chkL_len h.2]
  | [], _ :: _, h => by simp [chkL] at h
  | _ :: _, [], h => by simp [chkL] at h
theorem si_rng (ok : OkX pg fa F k j G X) {ev : Loc → Sto → R3 (List D)} {es : List Expr} {m : Nat} {tg : Expr} {p pos : Pos} (hg : glo G.sc "range" = true) (hst : es.any isStar = false) (hn : ∀ l S ds S', ev l S = .ok ds S' → ds.length = es.length) (hL : SLv fa X ev es) :
    SIv fa X tg (fun l S => (ev l S).bind fun ds S1 => R3.of (rngD ds) S1) (.Call (.Name "range" p) es [] pos) := by
  have g := gl_of ok hg
  have m := ok.blt "range" (by decide)
  intro l S it S' rho σ H Rr hh L s q
  obtain ⟨ds, S1, e1, hh⟩ := bind_ok hh
  obtain ⟨hz, rfl⟩ := of_ok hh
  have hlen := hn _ _ _ _ e1
  unfold rngD at hz
  split at hz
  · rename_i n
    split at hz
    · rename_i hsm
      cases hz
      match es, hlen, hst, hL with
      | [a], _, hst, hL =>
        have ha : isStar a = false := by simpa using hst
        refine tI_of (pi_range1 g m (pa_max _) (star_cons ha)) (hL _ _ _ _ _ _ _ _ e1 L s fun rho1 H1 vs x1 s1 r1 => ?_)
        obtain ⟨v, rfl, rv⟩ := rl_one r1
        cases rv
        obtain ⟨h1, h2⟩ := small_ok hsm
        exact ⟨n, rfl, h1, h2, q rho1 H1 _ x1 s1 itr_rng⟩
    · cases hz
  · rename_i a b
    split at hz
    · rename_i hsm
      cases hz
      simp only [Bool.and_eq_true] at hsm
      match es, hlen, hst, hL with
      | [ea, eb], _, hst, hL =>
        have ha : isStar ea = false ∧ isStar eb = false := by simpa using hst
        refine tI_of (pi_range2 g m (pa_max _) (by rw [star_cons ha.1, star_cons ha.2]; rfl) (star_cons ha.2)) (hL _ _ _ _ _ _ _ _ e1 L s fun rho1 H1 vs x1 s1 r1 => ?_)
        cases r1 with
        | cons ra rb =>
          obtain ⟨v, rfl, rv⟩ := rl_one rb
          cases ra
          cases rv
          obtain ⟨h1, h2⟩ := small_ok hsm.1
          obtain ⟨h3, h4⟩ := small_ok hsm.2
          exact ⟨a, b, rfl, ⟨h1, h2, h3, h4⟩, q rho1 H1 _ x1 s1 itr_rng⟩
    · cases hz
  · rename_i a b c
    split at hz
    · rename_i hsm
      cases hz
      simp only [Bool.and_eq_true, decide_eq_true_eq] at hsm
      obtain ⟨⟨hs1, hs2⟩, rfl⟩ := hsm
      match es, hlen, hst, hL with
      | [ea, eb, ec], _, hst, hL =>
        have ha : isStar ea = false ∧ isStar eb = false ∧ isStar ec = false := by simpa using hst
        have hst2 : ([eb, ec] : List Expr).any isStar = false := by simp [ha.2]
        refine tI_of (pi_range3 g m (pa_max _) (star_cons ha.1) (star_plain hst2)) (hL _ _ _ _ _ _ _ _ e1 L s fun rho1 H1 vs x1 s1 r1 => ?_)
        cases r1 with
        | cons ra rb =>
          cases rb with
          | cons rb rc =>
            obtain ⟨v, rfl, rv⟩ := rl_one rc
            cases ra
            cases rb
            cases rv
            obtain ⟨h1, h2⟩ := small_ok hs1
            obtain ⟨h3, h4⟩ := small_ok hs2
            exact ⟨a, b, -1, _, rfl, RgC.neg h1 h2 h3 h4, q rho1 H1 _ x1 s1 itr_rngc⟩
    · cases hz
  · cases hz
theorem si_of (ok : OkX pg fa F k j G X) {ev : Ev.CE → Loc → Sto → R3 D} {ck : Expr → Ev.CE → Bool} (hs : ∀ e c, ck e c = true → SEv fa X (ev c) e) {n : Nat} {tg e : Expr} {t : CT} {c : CI} {G' : Gam} (h : chkI G ck t e c = true) (ht : chkT G' n tg t = true) :
    SIv fa X tg (evI ev c) e := by
  have blt := ok.blt
  unfold chkI at h
  split at h
  · -- range
    rename_i x p es pos cs
    simp only [Bool.and_eq_true, decide_eq_true_eq] at h
    obtain ⟨⟨⟨⟨rfl, hg⟩, hl⟩, h1⟩, h3⟩ := h
    exact si_rng (m := 0) ok hg (chkL_star hl) (fun l S ds S' e1 => by rw [chkL_len hl]; exact evL_len e1) (sl_of hs hl)
  · -- enumerate
    rename_i x p e pos c
    simp only [Bool.and_eq_true, decide_eq_true_eq, Bool.not_eq_true'] at h
    obtain ⟨⟨⟨⟨rfl, hg⟩, hc⟩, hst⟩, htp⟩ := h
    obtain ⟨elts, kk, tpos, rfl⟩ := tg_tup ht (by cases t <;> first | rfl | cases htp)
    have g := gl_of ok hg
    have m := blt "enumerate" (by decide)
    intro l S it S' rho σ H Rr hh L s q
    simp only [evI] at hh
    obtain ⟨d, S1, e1, hh⟩ := bind_ok hh
    obtain ⟨hz, rfl⟩ := of_ok hh
    obtain ⟨sr, es, rfl⟩ := map_some hz
    cases hb : isTupD d with
    | true =>
      refine tI_of (pi_enumT g m (pa_max _) (star_cons hst)) (ta_one (hs e c hc) hst e1 L s fun rho1 H1 v x1 s1 r1 => ?_)
      rcases src_case (K := X.K) s1 es r1 with ⟨_, a, vs, rfl, q1, q2⟩ | ⟨q0, _⟩
      · exact ⟨a, vs, rfl, q1, q rho1 H1 _ x1 s1 (itr_enumT q2)⟩
      · rw [hb] at q0; cases q0
    | false =>
      refine tI_of (pi_enum g m (pa_max _) (star_cons hst)) (ta_one (hs e c hc) hst e1 L s fun rho1 H1 v x1 s1 r1 => ?_)
      rcases src_case (K := X.K) s1 es r1 with ⟨q0, _⟩ | ⟨_, a, vs, rfl, q1, q2⟩
      · rw [hb] at q0; cases q0
      · exact ⟨a, vs, rfl, q1, q rho1 H1 _ x1 s1 (itr_enumL q2)⟩
  · -- zip
    rename_i x p ea eb pos ca cb
    simp only [Bool.and_eq_true, decide_eq_true_eq, Bool.not_eq_true'] at h
    obtain ⟨⟨⟨⟨⟨⟨rfl, hg⟩, hc1⟩, hst1⟩, hc2⟩, hst2⟩, htp⟩ := h
    obtain ⟨elts, kk, tpos, rfl⟩ := tg_tup ht (by cases t <;> first | rfl | cases htp)
    have g := gl_of ok hg
    have m := blt "zip" (by decide)
    intro l S it S' rho σ H Rr hh L s q
    simp only [evI] at hh
    obtain ⟨dx, S1, e1, hh⟩ := bind_ok hh
    obtain ⟨dy, S2, e2, hh⟩ := bind_ok hh
    obtain ⟨hz, rfl⟩ := of_ok hh
    unfold zipD at hz
    split at hz
    · rename_i heq
      split at hz
      · rename_i sx sy esx esy
        cases hz
        refine tI_of (RZ.pi_zipA g m (pa_max _) (star_cons hst1) (by simp [star_cons hst2, starEach, backTo])) (ta_two (hs ea ca hc1) (hs eb cb hc2) hst1 hst2 e1 e2 L s fun rho1 H1 v u x1 s1 r1 r2 => ?_)
        rcases src_case (K := X.K) s1 esx r1 with ⟨p0, a, vs, rfl, p1, p2⟩ | ⟨p0, a, vs, rfl, p1, p2⟩
        · rcases src_case (K := X.K) s1 esy r2 with ⟨w0, b, ws, rfl, w1, w2⟩ | ⟨w0, b, ws, rfl, w1, w2⟩
          · exact ⟨a, b, vs, ws, rfl, .inr ⟨p1, w1, q rho1 H1 _ x1 s1 (itr_zipT p2 w2)⟩⟩
          · rw [p0, w0] at heq; cases heq
        · rcases src_case (K := X.K) s1 esy r2 with ⟨w0, b, ws, rfl, w1, w2⟩ | ⟨w0, b, ws, rfl, w1, w2⟩
          · rw [p0, w0] at heq; cases heq
          · exact ⟨a, b, vs, ws, rfl, .inl ⟨p1, w1, q rho1 H1 _ x1 s1 (itr_zipL p2 w2)⟩⟩
      · cases hz
    · cases hz
  · -- reversed
    rename_i x p e pos c
    simp only [Bool.and_eq_true, decide_eq_true_eq, Bool.not_eq_true'] at h
    obtain ⟨⟨⟨rfl, hg⟩, hc⟩, hst⟩ := h
    have g := gl_of ok hg
    have m := blt "reversed" (by decide)
    intro l S it S' rho σ H Rr hh L s q
    simp only [evI] at hh
    obtain ⟨d, S1, e1, hh⟩ := bind_ok hh
    obtain ⟨hz, rfl⟩ := of_ok hh
    obtain ⟨xs, ex, rfl⟩ := map_some hz
    refine tI_of (RT.pi_revA g m (pe_max _) (star_cons hst)) (hs e c hc _ _ _ _ _ _ _ _ e1 L s fun rho1 H1 v x1 s1 r1 => ?_)
    cases r1 with
    | tup h1 h2 h3 =>
      simp only [flatD] at ex; cases ex
      exact ⟨_, _, rfl, .inr ⟨SqT.of h2, q rho1 H1 _ x1 s1 (itr_rev h3 (.inr ⟨h2, rfl⟩) h1)⟩⟩
    | lst h1 h2 h3 =>
      simp only [flatD] at ex; cases ex
      exact ⟨_, _, rfl, .inl ⟨SqL.of h2, q rho1 H1 _ x1 s1 (itr_rev h3 (.inl ⟨h2, rfl⟩) h1)⟩⟩
    | _ => simp only [flatD] at ex; cases ex
  · -- a list or a tuple
    simp only [Bool.and_eq_true, Bool.not_eq_true'] at h
    intro l S it S' rho σ H Rr hh L s q
    simp only [evI] at hh
    obtain ⟨d, S1, e1, hh⟩ := bind_ok hh
    obtain ⟨hz, rfl⟩ := of_ok hh
    obtain ⟨sr, es, rfl⟩ := map_some hz
    cases hb : isTupD d with
    | true =>
      refine tI_of (pi_tup (pe_max _)) (hs _ _ h.1 _ _ _ _ _ _ _ _ e1 L s fun rho1 H1 v x1 s1 r1 => ?_)
      rcases src_case (K := X.K) s1 es r1 with ⟨_, a, vs, rfl, q1, q2⟩ | ⟨q0, _⟩
      · exact ⟨a, rfl, ⟨vs, q1⟩, q rho1 H1 _ x1 s1 (itr_tup q2)⟩
      · rw [hb] at q0; cases q0
    | false =>
      refine tI_of (pi_list (pe_max _)) (hs _ _ h.1 _ _ _ _ _ _ _ _ e1 L s fun rho1 H1 v x1 s1 r1 => ?_)
      rcases src_case (K := X.K) s1 es r1 with ⟨q0, _⟩ | ⟨_, a, vs, rfl, q1, q2⟩
      · rw [hb] at q0; cases q0
      · exact ⟨a, rfl, ⟨vs, q1⟩, q rho1 H1 _ x1 s1 (itr_lst q2)⟩
  · cases h
end
end Ev
end
section
set_option linter.all false
set_option Elab.async false
set_option maxRecDepth 100000
set_option maxHeartbeats 2000000
/-! E12: tests of more parts, displays of dicts, methods, calls with names. -/
namespace Ev
open PySem PySem.Spec PyProof.Rows L2
section
variable {pg : Pg} {fa : Fa} {F : FnT} {k j : Nat} {G : Gam} {X : Cx}

/-! ### tests -/
def tW (X : Cx) (e : Expr) : TT := fun σ H Q => ∀ (whole : Sem Value) (pins : List (Addr × Obj)) (s : Shared), Inv X pins σ H s → wpAny (model X.prog X.w) X.A (PySem.isTrue e X.env whole) (TP X pins σ Q) X.xe s
theorem pw_max (e : Expr) : PW X e (tW X e) := ⟨fun whole pins s _ _ _ I h => h whole pins s I⟩
theorem tW_of {e : Expr} {t : TT} {σ : L2.St} {H : Hp} {Q : Bool → Hp → Prop} (h : PW X e t) (q : t σ H Q) : tW X e σ H Q := fun whole pins s I => h.run whole pins s σ H Q I q
def SWv (fa : Fa) (X : Cx) (ev : Loc → Sto → R3 D) (e : Expr) : Prop := ∀ (l : Loc) (S : Sto) (d : D) (S' : Sto) (b : Bool) (rho : List Addr) (σ : L2.St) (H : Hp) (Q : Bool → Hp → Prop),
  ev l S = .ok d S' → truth S' d = some b → LR fa rho H l σ → SR fa rho H S → PostB fa rho H S' b Q → tW X e σ H Q
theorem st_of_sw {ev : Loc → Sto → R3 D} {e : Expr} (h : SWv fa X ev e) : STv fa X ev e := fun l S d S' b rho σ H Q e1 e2 L s q => tT_of (pw_max e).pt (h l S d S' b rho σ H Q e1 e2 L s q)
def evAnd (ea eb : Loc → Sto → R3 D) : Loc → Sto → R3 D := fun l S => (ea l S).bind fun x S1 => match truth S1 x with | some true => eb l S1 | some false => .ok x S1 | none => .stuck
def evOr (ea eb : Loc → Sto → R3 D) : Loc → Sto → R3 D := fun l S => (ea l S).bind fun x S1 => match truth S1 x with | some true => .ok x S1 | some false => eb l S1 | none => .stuck
theorem sw_and {ea eb : Loc → Sto → R3 D} {a b : Expr} {r : List Expr} {p : Pos} (ha : STv fa X ea a) (hb : SWv fa X eb (.BoolOp .And (b :: r) p)) : SWv fa X (evAnd ea eb) (.BoolOp .And (a :: b :: r) p) := by
  intro l S d S' c rho σ H Q h ht L s q
  obtain ⟨x, S1, e1, h⟩ := bind_ok h
  refine tW_of (pw_and (pt_max a) (pw_max _)) ?_
  split at h
  · rename_i et
    refine ha _ _ _ _ _ _ _ _ _ e1 et L s fun rho1 H1 x1 s1 => ?_
    rw [if_pos rfl]
    exact hb _ _ _ _ _ _ _ _ _ h ht (L.mono x1) s1 fun rho2 H2 x2 s2 => q rho2 H2 (x1.trans s1 x2) s2
  · rename_i et
    cases h
    rw [et] at ht; cases ht
    refine ha _ _ _ _ _ _ _ _ _ e1 et L s fun rho1 H1 x1 s1 => ?_
    rw [if_neg (by decide)]
    exact q rho1 H1 x1 s1
  · cases h
theorem sw_or {ea eb : Loc → Sto → R3 D} {a b : Expr} {r : List Expr} {p : Pos} (ha : STv fa X ea a) (hb : SWv fa X eb (.BoolOp .Or (b :: r) p)) : SWv fa X (evOr ea eb) (.BoolOp .Or (a :: b :: r) p) := by
  intro l S d S' c rho σ H Q h ht L s q
  obtain ⟨x, S1, e1, h⟩ := bind_ok h
  refine tW_of (pw_or (pt_max a) (pw_max _)) ?_
  split at h
  · rename_i et
    cases h
    rw [et] at ht; cases ht
    refine ha _ _ _ _ _ _ _ _ _ e1 et L s fun rho1 H1 x1 s1 => ?_
    rw [if_pos rfl]
    exact q rho1 H1 x1 s1
  · rename_i et
    refine ha _ _ _ _ _ _ _ _ _ e1 et L s fun rho1 H1 x1 s1 => ?_
    rw [if_neg (by decide)]
    exact hb _ _ _ _ _ _ _ _ _ h ht (L.mono x1) s1 fun rho2 H2 x2 s2 => q rho2 H2 (x1.trans s1 x2) s2
  · cases h
theorem sw_one_and {ea : Loc → Sto → R3 D} {a : Expr} {p : Pos} (ha : STv fa X ea a) : SWv fa X ea (.BoolOp .And [a] p) := fun l S d S' b rho σ H Q e1 e2 L s q =>
  tW_of (pw_and1 (pt_max a)) (ha l S d S' b rho σ H Q e1 e2 L s q)
theorem sw_one_or {ea : Loc → Sto → R3 D} {a : Expr} {p : Pos} (ha : STv fa X ea a) : SWv fa X ea (.BoolOp .Or [a] p) := fun l S d S' b rho σ H Q e1 e2 L s q =>
  tW_of (pw_or1 (pt_max a)) (ha l S d S' b rho σ H Q e1 e2 L s q)
theorem se_one {ea : Loc → Sto → R3 D} {a : Expr} {p : Pos} {op : BoolOp} (ha : SEv fa X ea a) : SEv fa X ea (.BoolOp op [a] p) := fun l S d S' rho σ H Q e1 L s q =>
  tE_of (pe_one (pe_max a)) (ha l S d S' rho σ H Q e1 L s q)
theorem pt_ife {c a b : Expr} {p : Pos} {tc ta tb : TT} (hc : PT X c tc) (ha : PT X a ta) (hb : PT X b tb) : PT X (.IfExp c a b p) (fun σ H Q => tc σ H fun d H1 => if d = true then ta σ H1 Q else tb σ H1 Q) := by
  refine ⟨fun pins s σ H Q I h => ?_⟩
  show wpAny _ _ (do if ← PySem.isTrue c X.env (eval c X.env) then PySem.isTrue a X.env (eval a X.env) else PySem.isTrue b X.env (eval b X.env)) _ _ s
  refine wpAny_bind (thn (hc.run pins s σ H _ I h) fun d s1 ⟨H1, I1, q1⟩ => ?_)
  cases d with
  | true => exact ha.run pins s1 σ H1 Q I1 q1
  | false => exact hb.run pins s1 σ H1 Q I1 q1
theorem st_ife {ec ea eb : Loc → Sto → R3 D} {c a b : Expr} {p : Pos} (hc : STv fa X ec c) (ha : STv fa X ea a) (hb : STv fa X eb b) :
    STv fa X (fun l S => (ec l S).bind fun x S1 => match truth S1 x with | some true => ea l S1 | some false => eb l S1 | none => .stuck) (.IfExp c a b p) := by
  intro l S d S' c' rho σ H Q h ht L s q
  obtain ⟨x, S1, e1, h⟩ := bind_ok h
  refine tT_of (pt_ife (pt_max c) (pt_max a) (pt_max b)) ?_
  split at h
  · rename_i et
    refine hc _ _ _ _ _ _ _ _ _ e1 et L s fun rho1 H1 x1 s1 => ?_
    rw [if_pos rfl]
    exact ha _ _ _ _ _ _ _ _ _ h ht (L.mono x1) s1 fun rho2 H2 x2 s2 => q rho2 H2 (x1.trans s1 x2) s2
  · rename_i et
    refine hc _ _ _ _ _ _ _ _ _ e1 et L s fun rho1 H1 x1 s1 => ?_
    rw [if_neg (by decide)]
    exact hb _ _ _ _ _ _ _ _ _ h ht (L.mono x1) s1 fun rho2 H2 x2 s2 => q rho2 H2 (x1.trans s1 x2) s2
  · cases h

/-! ### [::-1] -/
theorem isRev_ok {b : Expr} (h : isRev b = true) : ∃ k p1 p2 p3, b = .Slice none none (some (.UnaryOp .USub (.Constant (.int 1) k p1) p2)) p3 := by
  unfold isRev at h
  split at h
  · exact ⟨_, _, _, _, rfl⟩
  · cases h
theorem se_rev {ea : Loc → Sto → R3 D} {a b : Expr} {p : Pos} (hb : isRev b = true) (ha : SEv fa X ea a) :
    SEv fa X (fun l S => (ea l S).bind fun x S1 => R3.of (revD S1 x) S1) (.Subscript a b p) := by
  obtain ⟨kk, p1, p2, p3, rfl⟩ := isRev_ok hb
  intro l S d S' rho σ H Q h L s q
  obtain ⟨x, S1, e1, h⟩ := bind_ok h
  obtain ⟨hz, rfl⟩ := of_ok h
  unfold revD at hz
  split at hz
  · rename_i xs e
    cases hz
    refine tE_of (pe_revT (pe_max a)) (ha _ _ _ _ _ _ _ _ e1 L s fun rho1 H1 v x1 s1 r1 => ?_)
    obtain ⟨adr, vs, rfl, h1, h2, h3⟩ := r1.readT s1 e
    exact ⟨adr, vs, rfl, SqT.of h1, fun pp hp => (q.mono x1 s1).tup s1 h2.reverse hp⟩
  · rename_i xs e
    cases hz
    refine tE_of (pe_revL (pe_max a)) (ha _ _ _ _ _ _ _ _ e1 L s fun rho1 H1 v x1 s1 r1 => ?_)
    obtain ⟨adr, vs, rfl, h1, h2⟩ := r1.readL (K := X.K) s1 e
    exact ⟨adr, vs, rfl, h1, fun pp hp => (q.mono x1 s1).lst s1 h2.reverse hp⟩
  · cases hz

/-! ### tuple(range(..)), list(range(..)) -/
theorem rl_range {rho : List Addr} {H : Hp} : ∀ (n : List Nat) (a : Int), RL fa rho H (n.map fun i => D.int (a + (i : Nat))) (n.map fun i => V.int (a + (i : Nat)))
  | [], _ => .nil
  | _ :: r, a => .cons (.int _) (rl_range r a)
theorem rgOk_ok {a b : Int} (h : rgOk a b = true) : RgOk a b := by
  have h' : -(2 ^ 62) ≤ a ∧ a < 2 ^ 62 ∧ -(2 ^ 62) ≤ b ∧ b < 2 ^ 62 ∧ (b - a).toNat ≤ 2 ^ 24 := of_decide_eq_true h
  exact h'
theorem rg_key (ok : OkX pg fa F k j G X) {ev : Ev.CE → Loc → Sto → R3 D} {ck : Expr → Ev.CE → Bool} (hs : ∀ e c, ck e c = true → SEv fa X (ev c) e) {es : List Expr} {cs : List Ev.CE} (hl : chkL ck es cs = true) {p2 pos2 : Pos} (h2 : glo G.sc "range" = true)
    {l : Loc} {S S1 : Sto} {ds : List D} {a b : Int} {rho : List Addr} {σ : L2.St} {H : Hp} (e1 : evL ev cs l S = .ok ds S1) (eb : rgB ds = some (a, b)) (L : LR fa rho H l σ) (s : SR fa rho H S) :
    ∃ tr, PRg X (.Call (.Name "range" p2) es [] pos2) tr ∧ ∀ R : Int → Int → Hp → Prop, (∀ rho1 H1, Ext rho H rho1 H1 → SR fa rho1 H1 S1 → R a b H1) → tr σ H R := by
  have g := gl_of ok h2
  have m := ok.blt "range" (by decide)
  unfold rgB at eb
  split at eb
  · cases eb
    have h1 := evL_len e1
    match cs, h1, e1, hl with
    | [c], _, e1, hl =>
      match es, hl with
      | [e], hl =>
        simp only [chkL, Bool.and_eq_true, Bool.not_eq_true'] at hl
        refine ⟨_, prg_1 g m (pe_max e) (star_cons hl.1.2), fun R hR => ?_⟩
        simp only [evL] at e1
        obtain ⟨d, S2, e2, e1⟩ := bind_ok e1
        cases e1
        refine hs e c hl.1.1 _ _ _ _ _ _ _ _ e2 L s fun rho1 H1 v x1 s1 r1 => ?_
        cases r1
        exact ⟨_, rfl, hR rho1 H1 x1 s1⟩
      | [], hl => simp [chkL] at hl
      | _ :: _ :: _, hl => simp [chkL] at hl
  · cases eb
    have h1 := evL_len e1
    match cs, h1, e1, hl with
    | [c, c'], _, e1, hl =>
      match es, hl with
      | [e, e'], hl =>
        simp only [chkL, Bool.and_eq_true, Bool.not_eq_true'] at hl
        refine ⟨_, prg_2 g m (pe_max e) (pe_max e') (star_cons hl.1.2) (star_cons hl.2.1.2) (by simp [star_cons hl.2.1.2, starEach, backTo]), fun R hR => ?_⟩
        simp only [evL] at e1
        obtain ⟨d, S2, e2, e1⟩ := bind_ok e1
        obtain ⟨dr, S3, e3, e1⟩ := bind_ok e1
        obtain ⟨d2, S4, e4, e3⟩ := bind_ok e3
        cases e3
        cases e1
        refine hs e c hl.1.1 _ _ _ _ _ _ _ _ e2 L s fun rho1 H1 v x1 s1 r1 => ?_
        refine hs e' c' hl.2.1.1 _ _ _ _ _ _ _ _ e4 (L.mono x1) s1 fun rho2 H2 u x2 s2 r2 => ?_
        cases r1
        cases r2
        exact ⟨_, _, rfl, rfl, hR rho2 H2 (x1.trans s1 x2) s2⟩
      | [], hl => simp [chkL] at hl
      | [_], hl => simp [chkL] at hl
      | _ :: _ :: _ :: _, hl => simp [chkL] at hl
  · cases eb
theorem isStar_call {f : Expr} {es : List Expr} {ks : List Keyword} {p : Pos} : isStar (.Call f es ks p) = false := rfl
theorem se_tr (ok : OkX pg fa F k j G X) {ev : Ev.CE → Loc → Sto → R3 D} {ck : Expr → Ev.CE → Bool} (hs : ∀ e c, ck e c = true → SEv fa X (ev c) e) {t mu : Bool} {es : List Expr} {cs : List Ev.CE} {p p2 pos pos2 : Pos} (h1 : glo G.sc (if t then ("tuple" : Str) else "list") = true) (h2 : glo G.sc "range" = true)
    (hl : chkL ck es cs = true) :
    SEv fa X (fun l S => (evL ev cs l S).bind fun ds S1 => match rgB ds with
      | some (a, b) => if rgOk a b then (if t then .ok (.tup (rgD a b)) S1 else mkR mu (.lst (rgD a b)) S1) else .stuck
      | none => .stuck) (.Call (.Name (if t then ("tuple" : Str) else "list") p) [.Call (.Name "range" p2) es [] pos2] [] pos) := by
  intro l S d S' rho σ H Q h L s q
  obtain ⟨ds, S1, e1, h⟩ := bind_ok h
  split at h
  · rename_i a b eb
    split at h
    · rename_i hok
      obtain ⟨tr, hp, ht⟩ := rg_key (p2 := p2) (pos2 := pos2) ok hs hl h2 e1 eb L s
      cases t with
      | true =>
        cases h
        refine tE_of (pe_tupRg (e := .Call (.Name "range" p2) es [] pos2) ok.calm (gl_of ok h1) (ok.blt "tuple" (by decide)) hp rfl) (ht _ fun rho1 H1 x1 s1 => ⟨rgOk_ok hok, fun pp hpp => ?_⟩)
        exact (q.mono x1 s1).tup s1 (rl_range _ _) hpp
      | false =>
        refine tE_of (pe_listRg (e := .Call (.Name "range" p2) es [] pos2) ok.calm (gl_of ok h1) (ok.blt "list" (by decide)) hp rfl) (ht _ fun rho1 H1 x1 s1 => ⟨rgOk_ok hok, fun pp hpp => ?_⟩)
        exact mk_ok h s1 (rl_range _ _) hpp (q.mono x1 s1)
    · cases h
  · cases h

/-! ### methods -/
theorem isLst_read {S : Sto} {d : D} (h : isLst (D.read S d) = true) : ∃ xs, D.read S d = .lst xs := by
  unfold isLst at h
  split at h
  · rename_i xs e; exact ⟨xs, e⟩
  · cases h
theorem attrBase {o : Expr} {m : Str} {env : PySem.Env} {w : Sem Value} (h : isCall0 o = false) : attributeBase o m env w = w := by
  unfold attributeBase
  split
  · exact absurd h (by simp [isCall0])
  · rfl
theorem find_ok {ps : List PyData} {p : PyData} {i j : Nat} (h : findD p ps i = some j) : i ≤ j ∧ ∃ z, ps[j - i]? = some z ∧ z.eqv p = true ∧ ∀ (m : Nat) (z' : PyData), m < j - i → ps[m]? = some z' → z'.eqv p = false := by
  induction ps generalizing i with
  | nil => cases h
  | cons x r ih =>
    unfold findD at h
    split at h
    · rename_i e
      cases h
      exact ⟨Nat.le_refl _, x, by rw [Nat.sub_self]; rfl, e, fun m z' hm => absurd hm (by omega)⟩
    · rename_i e
      obtain ⟨h1, z, h2, h3, h4⟩ := ih h
      refine ⟨by omega, z, ?_, h3, fun m z' hm hz => ?_⟩
      · have : j - i = (j - (i + 1)) + 1 := by omega
        rw [this]; exact h2
      · cases m with
        | zero =>
          cases hz
          exact Bool.eq_false_iff.mpr e
        | succ m => exact h4 m z' (by omega) hz
theorem me_append {o d : D} {ds : List D} {S S' : Sto} (h : meD .append o ds S = .ok d S') : ∃ n xs y, o = .ref n ∧ ds = [y] ∧ S[n]? = some (.lst xs) ∧ xs.length < sizeLine ∧ d = .non ∧ S' = S.set n (.lst (xs ++ [y])) := by
  simp only [meD, appD] at h
  split at h
  · split at h
    · rename_i xs eS
      split at h
      · rename_i hlt
        cases h
        exact ⟨_, xs, _, rfl, rfl, eS, hlt, rfl, rfl⟩
      · cases h
    · cases h
  · cases h
theorem me_index {o d : D} {ds : List D} {S S' : Sto} (h : meD .index o ds S = .ok d S') : ∃ y ps p j, ds = [y] ∧ (D.deep S o).py = some (.list ps) ∧ (D.deep S y).py = some p ∧ SeqAt.shaped (.list ps) = true ∧ SeqAt.shaped p = true ∧ findD p ps 0 = some j ∧ d = .int (j : Nat) ∧ S' = S := by
  simp only [meD, idxD] at h
  split at h
  · split at h
    · rename_i ps p e1 e2
      split at h
      · rename_i hsh
        simp only [Bool.and_eq_true] at hsh
        split at h
        · rename_i j ef
          cases h
          exact ⟨_, ps, p, j, rfl, e1, e2, hsh.1, hsh.2, ef, rfl, rfl⟩
        · cases h
      · cases h
    · cases h
  · cases h
theorem deep_ref {S : Sto} {o : D} {ps : List PyData} {rho : List Addr} {H : Hp} {v : V} (h : (D.deep S o).py = some (.list ps)) (r : R fa rho H o v) : ∃ a, v = .ref a := by
  cases r with
  | tup => exact ⟨_, rfl⟩
  | lst => exact ⟨_, rfl⟩
  | ref => exact ⟨_, rfl⟩
  | fn => exact ⟨_, rfl⟩
  | rep => simp [D.deep, D.py] at h
  | non => simp [D.deep, D.py] at h
  | bl => simp [D.deep, D.py] at h
  | int => simp [D.deep, D.py] at h
  | str => simp [D.deep, D.py] at h
theorem se_me (ok : OkX pg fa F k j G X) {ea : Loc → Sto → R3 D} {ev : Loc → Sto → R3 (List D)} {m : Me} {o e : Expr} {es : List Expr} {ap pos : Pos} (hc0 : isCall0 o = false) (hst : isStar e = false ∧ es.any isStar = false) (hfew : es.length < 25) (hline : (ap.endLine == pos.line) = true)
    (ha : SEv fa X ea o) (hs : SLv fa X ev (e :: es)) :
    SEv fa X (fun l S => (ea l S).bind fun x S1 => if isLst (D.read S1 x) then (ev l S1).bind fun ds S2 => meD m x ds S2 else .stuck) (.Call (.Attribute o (meName m) ap) (e :: es) [] pos) := by
  intro l S d S' rho σ H Q h L s q
  obtain ⟨x, S1, e1, h⟩ := bind_ok h
  split at h
  · rename_i hil
    obtain ⟨ys, hys⟩ := isLst_read hil
    obtain ⟨ds, S2, e2, h⟩ := bind_ok h
    have hall : ((((backTo pos (starEach (e :: es) X.env)).all fun x => !x.fst) && (backToKw pos (keywordEach [] X.env)).all fun x => x.fst.isSome) && decide (((e :: es).length + ([] : List Keyword).length + if ([] : List Keyword).isEmpty = true then 0 else 1) < 30)) = true := by
      rw [star_all (by rw [List.any_cons, hst.1, hst.2]; rfl)]
      simp [backToKw, keywordEach]
      omega
    have go : ∀ {id : String} {r : V → List V → Hp → VK → Prop}, Slot "list" (meName m) id → typeOf (.builtin id) = pure (.type "method_descriptor") → MtR X id r →
        (∀ rho2 H2 v vs, Ext rho H rho2 H2 → SR fa rho2 H2 S2 → R fa rho2 H2 x v → RL fa rho2 H2 ds vs → r v vs H2 Q) → tE X (.Call (.Attribute o (meName m) ap) (e :: es) [] pos) σ H Q := fun {id r} sl ty hm hr => by
      refine tE_of (pe_bm PySem.F.plainAttrs_list sl ty hm (pe_max o) (pa_max (e :: es)) (attrBase hc0) hall hline (star_cons hst.1) (star_plain hst.2)) (ha _ _ _ _ _ _ _ _ e1 L s fun rho1 H1 v x1 s1 r1 => ?_)
      obtain ⟨adr, vs, rfl, h1, h2⟩ := r1.readL (K := X.K) s1 hys
      refine ⟨.inl ⟨rfl, vs, h1⟩, hs _ _ _ _ _ _ _ _ e2 (L.mono x1) s1 fun rho2 H2 ws x2 s2 r2 => ?_⟩
      exact hr rho2 H2 _ ws (x1.trans s1 x2) s2 (r1.mono x2) r2
    cases m with
    | append =>
      obtain ⟨n, xs, y, rfl, rfl, eS, hlt, rfl, rfl⟩ := me_append h
      refine go (r := rAppend) PySem.F.slot_list_append PySem.F.type_list_append mt_append fun rho2 H2 v vs x2 s2 r1 r2 => ?_
      cases r1 with
      | @ref _ adr h1 =>
        obtain ⟨b, eb, ws, q1, q2⟩ := s2.cell n _ eS
        rw [h1] at eb; cases eb
        obtain ⟨u, rfl, ru⟩ := rl_one r2
        refine ⟨adr, ws, u, rfl, rfl, q1, by rw [← q2.length]; exact hlt, ?_⟩
        have x3 : Ext rho2 H2 rho2 (upd H2 adr (.lst (ws ++ [u]))) := Ext.put h1
        exact (q.mono x2 s2) rho2 _ .non x3 (s2.put h1 ⟨ws ++ [u], upd_same, (q2.append (.cons ru .nil)).mono x3⟩) .non
    | index =>
      obtain ⟨y, ps, pp, jj, rfl, ep, epp, hsh1, hsh2, hj, rfl, rfl⟩ := me_index h
      obtain ⟨_, z, f1, f2, f3⟩ := find_ok hj
      refine go (r := rIndexD X.K) PySem.F.slot_list_index PySem.F.type_list_index (mt_indexD (by have := ok.un; omega)) fun rho2 H2 v vs x2 s2 r1 r2 => ?_
      obtain ⟨u, rfl, ru⟩ := rl_one r2
      have d1 := r1.dps (K := X.K) s2 ep
      have d2 := ru.dps (K := X.K) s2 epp
      obtain ⟨a, rfl⟩ := deep_ref ep r1
      exact ⟨a, u, pp, ps, jj, z, rfl, rfl, d1, d2, hsh1, hsh2, by rw [Nat.sub_zero] at f1; exact f1, f2, fun m z' hm => f3 m z' (by omega), (q.mono x2 s2).here s2 (.int _)⟩
    | count => simp [meD] at h
    | pop => simp [meD] at h
    | get => simp [meD] at h
    | extend => simp [meD] at h
  · cases h
end
end Ev
end
section
set_option linter.all false
set_option Elab.async false
set_option maxRecDepth 100000
set_option maxHeartbeats 2000000
/-! E13: displays of dicts, calls with names. -/
namespace Ev
open PySem PySem.Spec PyProof.Rows L2
section
variable {fa : Fa} {rho rho' : List Addr} {H H2 : Hp} {S S' : Sto}

theorem Ext.cellAt {p : Addr} {o : HO} (e : Ext rho H rho' H2) (hp : H p = none) : Ext rho H (rho' ++ [p]) (upd H2 p o) := by
  obtain ⟨t, rfl, ht⟩ := e.pre
  refine ⟨⟨t ++ [p], by rw [List.append_assoc], fun a ha => ?_⟩, fun b u hb q => ?_⟩
  · rcases List.mem_append.mp ha with z | z
    · exact ht a z
    · rw [List.mem_singleton.mp z]; exact hp
  · rw [upd_ne (fun z => by rw [z, hp] at q; cases q)]
    exact e.keep' b u hb q
mutual
theorem R.updK {p : Addr} {o : HO} {ws0 : List (Key × V)} (hp : H p = some (.dK ws0)) : ∀ {d : D} {v : V}, R fa rho H d v → R fa (rho ++ [p]) (upd H p o) d v
  | _, _, .non => .non
  | _, _, .bl b => .bl b
  | _, _, .int i => .int i
  | _, _, .str s => .str s
  | _, _, .tup (a := a) h1 h2 h3 => by
    have hne : a ≠ p := fun z => by rw [z, hp] at h2; cases h2
    exact .tup ⟨fun z => (List.mem_append.mp z).elim h1.1 fun y => hne (List.mem_singleton.mp y), h1.2⟩ (by rw [upd_ne hne]; exact h2) (RL.updK hp h3)
  | _, _, .lst (a := a) h1 h2 h3 => by
    have hne : a ≠ p := fun z => by rw [z, hp] at h2; cases h2
    exact .lst ⟨fun z => (List.mem_append.mp z).elim h1.1 fun y => hne (List.mem_singleton.mp y), h1.2⟩ (by rw [upd_ne hne]; exact h2) (RL.updK hp h3)
  | _, _, .ref h => .ref (by rw [List.getElem?_append_left (List.getElem?_eq_some_iff.mp h).1]; exact h)
  | _, _, .fn h => .fn h
  | _, _, .rep h => .rep h
theorem RL.updK {p : Addr} {o : HO} {ws0 : List (Key × V)} (hp : H p = some (.dK ws0)) : ∀ {ds : List D} {vs : List V}, RL fa rho H ds vs → RL fa (rho ++ [p]) (upd H p o) ds vs
  | _, _, .nil => .nil
  | _, _, .cons h1 h2 => .cons (R.updK hp h1) (RL.updK hp h2)
end
theorem CellR.updK {p a : Addr} {o : HO} {ws0 : List (Key × V)} {c : Cell} (hp : H p = some (.dK ws0)) (hne : a ≠ p) (h : CellR fa rho H a c) : CellR fa (rho ++ [p]) (upd H p o) a c := by
  cases c with
  | lst xs => obtain ⟨vs, e1, r⟩ := h; exact ⟨vs, by rw [upd_ne hne]; exact e1, r.updK hp⟩
  | fz xs => obtain ⟨o, vs, e1, r⟩ := h; exact ⟨o, vs, by rw [upd_ne hne]; exact e1, r.updK hp⟩
  | dk kvs => obtain ⟨ws, e1, e2, r⟩ := h; exact ⟨ws, by rw [upd_ne hne]; exact e1, e2, r.updK hp⟩
theorem SR.addAt {p : Addr} {o : HO} {ws0 : List (Key × V)} {c : Cell} (s : SR fa rho H S) (hp : H p = some (.dK ws0)) (hn : Oth fa rho p) (hc : CellR fa (rho ++ [p]) (upd H p o) p c) : SR fa (rho ++ [p]) (upd H p o) (S ++ [c]) := by
  refine ⟨by rw [List.length_append, List.length_append, s.len]; rfl, ?_, fun n c' e => ?_, fun a ha => ?_, fun P t => (s.tb P t).upd fun z => by obtain ⟨ps, e, _⟩ := s.tb P t; rw [z, hp] at e; cases e⟩
  case refine_3 =>
    have hap : a ≠ p := fun z => by subst z; exact hn.2 ha
    refine ⟨fun z => ?_, fun z => ?_, (s.pv a ha).2.2⟩
    · rcases List.mem_append.mp z with y | y
      · exact (s.pv a ha).1 y
      · exact hap (List.mem_singleton.mp y)
    · rw [upd_ne hap] at z; exact (s.pv a ha).2.1 z
  · rw [List.nodup_append]
    refine ⟨s.nd, by simp, fun a ha b hb => ?_⟩
    rw [List.mem_singleton.mp hb]
    intro z
    subst z
    exact hn.1 ha
  · by_cases hl : n < S.length
    · rw [List.getElem?_append_left hl] at e
      obtain ⟨a, ea, r⟩ := s.cell n c' e
      refine ⟨a, by rw [List.getElem?_append_left (List.getElem?_eq_some_iff.mp ea).1]; exact ea, r.updK hp fun z => ?_⟩
      subst z
      exact hn.1 (List.mem_of_getElem? ea)
    · have hn' : n = S.length := by
        have := (List.getElem?_eq_some_iff.mp e).1
        rw [List.length_append, List.length_singleton] at this
        omega
      subst hn'
      rw [List.getElem?_append_right (Nat.le_refl _), Nat.sub_self] at e
      have e' : c = c' := by simpa using e
      subst e'
      refine ⟨p, ?_, hc⟩
      rw [← s.len, List.getElem?_append_right (Nat.le_refl _), Nat.sub_self]
      rfl
end

theorem putK_new {kvs : List (Key × V)} {k : Key} {v : V} (h : k ∉ kvs.map (·.1)) : putK kvs k v = kvs ++ [(k, v)] := by
  unfold putK
  rw [if_neg]
  intro z
  rw [List.any_eq_true] at z
  obtain ⟨q, h1, h2⟩ := z
  exact h (List.mem_map.mpr ⟨q, h1, of_decide_eq_true h2⟩)
theorem mergeK_nd : ∀ {kvs acc : List (Key × V)}, ((acc ++ kvs).map (·.1)).Nodup → mergeK acc kvs = acc ++ kvs
  | [], acc, _ => by rw [List.append_nil]; rfl
  | (k, v) :: r, acc, h => by
    have hk : k ∉ acc.map (·.1) := by
      rw [List.map_append, List.nodup_append] at h
      intro z
      exact h.2.2 k z k (by simp) rfl
    show mergeK (putK acc k v) r = _
    rw [putK_new hk, mergeK_nd (by rw [List.append_assoc]; exact h), List.append_assoc]
    rfl

section
variable {pg : Pg} {fa : Fa} {F : FnT} {k j : Nat} {G : Gam} {X : Cx}
theorem key_ok {e : Option Expr} {ky : Key} (h : keyOf e = some ky) : ∃ e', e = some e' ∧ PE X e' (tC (kV ky)) := by
  unfold keyOf at h
  split at h
  · cases h; exact ⟨_, rfl, pe_str⟩
  · cases h; exact ⟨_, rfl, pe_int⟩
  · cases h
theorem pp_of {ev : Ev.CE → Loc → Sto → R3 D} {ck : Expr → Ev.CE → Bool} (hs : ∀ e c, ck e c = true → SEv fa X (ev c) e) {pos : Pos} : ∀ {ks : List (Option Expr)} {vs : List Expr} {kk : List Key} {cs : List Ev.CE}, ks.map keyOf = kk.map some → chkL ck vs cs = true → ks.length = vs.length →
    ks.all (·.isSome) = true ∧ ∃ trs, PPs X pos ks vs trs ∧ ∀ (l : Loc) (S : Sto) (ds : List D) (S' : Sto) (rho : List Addr) (σ : L2.St) (H : Hp) (Q : List (V × V) → Hp → Prop), evL ev cs l S = .ok ds S' → LR fa rho H l σ → SR fa rho H S →
      (∀ rho' H' ws, Ext rho H rho' H' → SR fa rho' H' S' → RL fa rho' H' ds ws → Q ((kk.map kV).zip ws) H') → tPairs trs σ H Q
  | [], [], [], [], _, _, _ => by
    refine ⟨rfl, [], pps_nil, fun l S ds S' rho σ H Q e L s q => ?_⟩
    cases e
    exact q rho H [] Ext.refl s .nil
  | k0 :: ks, v :: vs, ky :: kk, c :: cs, hk, hl, hn => by
    simp only [List.map_cons, List.cons.injEq] at hk
    simp only [chkL, Bool.and_eq_true, Bool.not_eq_true'] at hl
    obtain ⟨e', rfl, pk⟩ := key_ok (X := X) hk.1
    obtain ⟨h1, trs, h2, h3⟩ := pp_of hs (pos := pos) hk.2 hl.2 (by simpa using hn)
    refine ⟨by simpa using h1, (tC (kV ky), tE X v) :: trs, pps_cons pk (pe_max v) h2, fun l S ds S' rho σ H Q e L s q => ?_⟩
    simp only [evL] at e
    obtain ⟨d, S1, e1, e⟩ := bind_ok e
    obtain ⟨dr, S2, e2, e⟩ := bind_ok e
    cases e
    show tC (kV ky) σ H fun x H1 => tE X v σ H1 fun y H2 => tPairs trs σ H2 fun ps H3 => Q ((x, y) :: ps) H3
    refine hs v c hl.1.1 _ _ _ _ _ _ _ _ e1 L s fun rho1 H1 y x1 s1 r1 => ?_
    refine h3 _ _ _ _ _ _ _ _ e2 (L.mono x1) s1 fun rho2 H2 ws x2 s2 r2 => ?_
    exact q rho2 H2 (y :: ws) (x1.trans s1 x2) s2 (.cons (r1.mono x2) r2)
  | [], _ :: _, _, _, _, _, hn => by simp at hn
  | _ :: _, [], _, _, _, _, hn => by simp at hn
  | [], _, _ :: _, _, hk, _, _ => by simp at hk
  | _ :: _, _, [], _, hk, _, _ => by simp at hk
  | _, [], _, _ :: _, _, hl, _ => by simp [chkL] at hl
  | _, _ :: _, _, [], _, hl, _ => by simp [chkL] at hl
theorem zip_map1 {α β : Type} : ∀ {xs : List α} {ys : List β}, xs.length = ys.length → (xs.zip ys).map (·.1) = xs
  | [], [], _ => rfl
  | x :: xs, y :: ys, h => by rw [List.zip_cons_cons, List.map_cons, zip_map1 (by simpa using h)]
  | [], _ :: _, h => by simp at h
  | _ :: _, [], h => by simp at h
theorem zip_map2 {α β : Type} : ∀ {xs : List α} {ys : List β}, xs.length = ys.length → (xs.zip ys).map (·.2) = ys
  | [], [], _ => rfl
  | x :: xs, y :: ys, h => by rw [List.zip_cons_cons, List.map_cons, zip_map2 (by simpa using h)]
  | [], _ :: _, h => by simp at h
  | _ :: _, [], h => by simp at h
theorem se_dct {ev : Ev.CE → Loc → Sto → R3 D} {ck : Expr → Ev.CE → Bool} (hs : ∀ e c, ck e c = true → SEv fa X (ev c) e) {ks : List (Option Expr)} {vs : List Expr} {kk : List Key} {cs : List Ev.CE} {pos : Pos}
    (hk : ks.map keyOf = kk.map some) (hl : chkL ck vs cs = true) (h0 : ks ≠ []) (h15 : ks.length ≤ 15) (hn : ks.length = vs.length) :
    SEv fa X (fun l S => (evL ev cs l S).bind fun ds S1 => if decide (kk.length = ds.length) && decide kk.Nodup && lenOk kk.length then .ok (.ref S1.length) (S1 ++ [.dk (kk.zip ds)]) else .stuck) (.Dict ks vs pos) := by
  intro l S d S' rho σ H Q h L s q
  obtain ⟨ds, S1, e1, h⟩ := bind_ok h
  split at h
  · rename_i hz
    simp only [Bool.and_eq_true, decide_eq_true_eq] at hz
    obtain ⟨⟨hz1, hz2⟩, hz3⟩ := hz
    cases h
    obtain ⟨hall, trs, hp, ht⟩ := pp_of hs (pos := pos) hk hl hn
    refine tE_of (pe_disp hp hall hn h0 h15) fun p hp0 => ?_
    have x0 : Ext rho H rho (upd H p (.dK [])) := Ext.new hp0
    refine ht _ _ _ _ _ _ _ _ e1 (L.mono x0) (s.new hp0) fun rho1 H1 ws x1 s1 r1 => ?_
    have hpn : Oth fa rho p := s.out hp0
    have hp1 : H1 p = some (.dK []) := x1.keep p _ hpn.1 upd_same
    have hpn1 : Oth fa rho1 p := ⟨x1.nmem hpn.1 upd_same, hpn.2⟩
    have hlw : kk.length = ws.length := by rw [hz1]; exact r1.length
    have hz' : (kk.map kV).zip ws = (kk.zip ws).map fun kv => (kV kv.1, kv.2) := by
      rw [List.zip_map_left]
      apply List.map_congr_left
      intro a _
      rfl
    refine ⟨hp1, kk.zip ws, hz', ?_, ?_⟩
    · rw [List.length_zip, ← hlw, Nat.min_self]
      have : ks.length = kk.length := by simpa using congrArg List.length hk
      omega
    · rw [mergeK_nd (by rw [List.nil_append, zip_map1 hlw]; exact hz2), List.nil_append]
      have x2 : Ext rho H (rho1 ++ [p]) (upd H1 p (.dK (kk.zip ws))) := (x0.trans (s.new hp0) x1).cellAt hp0
      refine q (rho1 ++ [p]) _ _ x2 (s1.addAt hp1 hpn1 ⟨kk.zip ws, upd_same, ?_, ?_⟩) (R.newRef s1)
      · rw [zip_map1 hlw, zip_map1 hz1]
      · rw [zip_map2 hlw, zip_map2 hz1]
        exact r1.updK hp1
  · cases h

/-! ### calls with names -/
def tK (X : Cx) (kws : List Keyword) : TA := fun σ H Q => ∀ (pos : Pos) (pins : List (Addr × Obj)) (s : Shared), Inv X pins σ H s → wpAny (model X.prog X.w) X.A (evalAll ((backToKw pos (keywordEach kws X.env)).map (·.2))) (AP X pins σ Q) X.xe s
theorem pk_max (kws : List Keyword) : PK X kws (tK X kws) := ⟨fun pos pins s _ _ _ I h => h pos pins s I⟩
theorem tK_of {kws : List Keyword} {t : TA} {σ : L2.St} {H : Hp} {Q : List V → Hp → Prop} (h : PK X kws t) (q : t σ H Q) : tK X kws σ H Q := fun pos pins s I => h.run pos pins s σ H Q I q
def SKv (fa : Fa) (X : Cx) (ev : Loc → Sto → R3 (List D)) (kws : List Keyword) : Prop := ∀ (l : Loc) (S : Sto) (ds : List D) (S' : Sto) (rho : List Addr) (σ : L2.St) (H : Hp) (Q : List V → Hp → Prop),
  ev l S = .ok ds S' → LR fa rho H l σ → SR fa rho H S → PostL fa rho H S' ds Q → tK X kws σ H Q
theorem sk_of {ev : Ev.CE → Loc → Sto → R3 D} : ∀ {kws : List Keyword} {cs : List Ev.CE} {ck : Expr → Ev.CE → Bool}, (∀ e c, ck e c = true → SEv fa X (ev c) e) → chkK ck kws cs = true → SKv fa X (evL ev cs) kws
  | [], [], ck, hs, h => by
    intro l S ds S' rho σ H Q h L s q
    cases h
    exact tK_of pk_nil (q rho H [] Ext.refl s .nil)
  | ⟨nm, e, kp⟩ :: es, c :: cs, ck, hs, h => by
    simp only [chkK, Bool.and_eq_true] at h
    obtain ⟨⟨h1, h2⟩, h3⟩ := h
    have ih := sk_of hs h3
    intro l S ds S' rho σ H Q h L s q
    simp only [evL] at h
    obtain ⟨d, S1, e1, h⟩ := bind_ok h
    obtain ⟨dr, S2, e2, h⟩ := bind_ok h
    cases h
    refine tK_of (pk_cons (pe_max e) (pk_max es)) ?_
    refine hs e c h1 _ _ _ _ _ _ _ _ e1 L s fun rho1 H1 v x1 s1 r1 => ?_
    refine ih _ _ _ _ _ _ _ _ e2 (L.mono x1) s1 fun rho2 H2 vs x2 s2 r2 => ?_
    exact q rho2 H2 (v :: vs) (x1.trans s1 x2) s2 (.cons (r1.mono x2) r2)
  | [], _ :: _, _, _, h => by simp [chkK] at h
  | _ :: _, [], _, _, h => by simp [chkK] at h
theorem kw_facts {ck : Expr → Ev.CE → Bool} {pos : Pos} {env : PySem.Env} : ∀ {kws : List Keyword} {cs : List Ev.CE}, chkK ck kws cs = true →
    ((backToKw pos (keywordEach kws env)).all fun x => x.1.isSome) = true ∧ ((backToKw pos (keywordEach kws env)).any fun x => x.1.isNone) = false ∧ (backToKw pos (keywordEach kws env)).filterMap (·.1) = kws.filterMap (·.arg) ∧ (kws.filterMap (·.arg)).length = kws.length ∧ kws.length = cs.length
  | [], [], _ => ⟨rfl, rfl, rfl, rfl, rfl⟩
  | ⟨nm, e, kp⟩ :: es, c :: cs, h => by
    simp only [chkK, Bool.and_eq_true] at h
    obtain ⟨⟨h1, h2⟩, h3⟩ := h
    obtain ⟨i1, i2, i3, i4, i5⟩ := kw_facts (pos := pos) (env := env) h3
    cases nm with
    | none => cases h2
    | some x =>
      refine ⟨?_, ?_, ?_, ?_, ?_⟩
      · show (true && (backToKw pos (keywordEach es env)).all fun x => x.1.isSome) = true
        rw [i1]; rfl
      · show (false || (backToKw pos (keywordEach es env)).any fun x => x.1.isNone) = false
        rw [i2]; rfl
      · show x :: (backToKw pos (keywordEach es env)).filterMap (·.1) = x :: es.filterMap (·.arg)
        rw [i3]
      · show (x :: es.filterMap (·.arg)).length = _
        rw [List.length_cons, List.length_cons, i4]
      · rw [List.length_cons, List.length_cons, i5]
  | [], _ :: _, h => by simp [chkK] at h
  | _ :: _, [], h => by simp [chkK] at h
theorem evL_app {ev : Ev.CE → Loc → Sto → R3 D} {l : Loc} : ∀ {cs es : List Ev.CE} {S S' : Sto} {ds : List D}, evL ev (cs ++ es) l S = .ok ds S' → ∃ d1 S1 d2, evL ev cs l S = .ok d1 S1 ∧ evL ev es l S1 = .ok d2 S' ∧ ds = d1 ++ d2
  | [], es, S, S', ds, h => ⟨[], S, ds, rfl, h, rfl⟩
  | c :: cs, es, S, S', ds, h => by
    rw [List.cons_append] at h
    simp only [evL] at h
    obtain ⟨d, S1, e1, h⟩ := bind_ok h
    obtain ⟨dr, S2, e2, h⟩ := bind_ok h
    cases h
    obtain ⟨d1, S3, d2, q1, q2, rfl⟩ := evL_app e2
    exact ⟨d :: d1, S3, d2, by simp only [evL]; rw [e1]; show (evL ev cs l S1).bind _ = _; rw [q1]; rfl, q2, rfl⟩
theorem Vals.app : ∀ {vs zs : List V} {us ws : List Value}, Vals vs us → Vals zs ws → Vals (vs ++ zs) (us ++ ws) := fun r1 r2 => r1.append r2
theorem Vals.getd {vs : List V} {us : List Value} (r : Vals vs us) (j : Nat) : RelV (vs.getD j .non) (us.getD j .none) := by
  cases e : vs[j]? with
  | none =>
    have e2 : us[j]? = none := by
      rw [List.getElem?_eq_none_iff] at e ⊢
      rw [← r.length]; exact e
    rw [List.getD_eq_getElem?_getD, List.getD_eq_getElem?_getD, e, e2]
    rfl
  | some v =>
    obtain ⟨u, e2, r2⟩ := r.get e
    rw [List.getD_eq_getElem?_getD, List.getD_eq_getElem?_getD, e, e2]
    exact r2
theorem Vals.mapd {vs : List V} {us : List Value} (r : Vals vs us) : ∀ g : List Nat, Vals (g.map fun j => vs.getD j .non) (g.map fun j => us.getD j .none)
  | [] => .nil
  | j :: g => .cons (Vals.getd r j) (Vals.mapd r g)
theorem RL.mapd {rho : List Addr} {H : Hp} {ds : List D} {vs : List V} (r : RL fa rho H ds vs) : ∀ g : List Nat, RL fa rho H (g.map fun j => ds.getD j .non) (g.map fun j => vs.getD j .non)
  | [] => .nil
  | j :: g => by
    refine .cons ?_ (RL.mapd r g)
    show R fa rho H (ds.getD j .non) (vs.getD j .non)
    cases e : ds[j]? with
    | none =>
      have e2 : vs[j]? = none := by
        rw [List.getElem?_eq_none_iff] at e ⊢
        rw [← r.length]; exact e
      rw [List.getD_eq_getElem?_getD, List.getD_eq_getElem?_getD, e, e2]
      exact .non
    | some d =>
      obtain ⟨v, e2, r2⟩ := r.get e
      rw [List.getD_eq_getElem?_getD, List.getD_eq_getElem?_getD, e, e2]
      exact r2
theorem se_callk (ok : OkX pg fa F k j G X) {ev : Ev.CE → Loc → Sto → R3 D} {ck : Expr → Ev.CE → Bool} (hs : ∀ e c, ck e c = true → SEv fa X (ev c) e) {x : Str} {p pos : Pos} {es : List Expr} {kws : List Keyword} {f : Nat} {cs : List Ev.CE} {g : List Nat}
    (h1 : pg.fns[f]? = some x) (h2 : glo G.sc x = true) (h3 : noDbg x = true) (hl : chkL ck es (cs.take es.length) = true) (hk : chkK ck kws (cs.drop es.length) = true) (hc : pg.kcs.contains (f, es.length, kws.filterMap (·.arg), g) = true)
    (hn : (pg.prs[f]?.map List.length) = some g.length) :
    SEv fa X (fun l S => (evL ev cs l S).bind fun ds S1 => if g.length = ds.length then F f (g.map fun i => ds.getD i .non) S1 else .stuck) (.Call (.Name x p) es kws pos) := by
  intro l S d S' rho σ H Q h L s q
  obtain ⟨ds, S2, e1, h⟩ := bind_ok h
  split at h
  · rename_i hgl
    rw [← List.take_append_drop es.length cs] at e1
    obtain ⟨d1, S1, d2, q1, q2, rfl⟩ := evL_app e1
    obtain ⟨a, ha⟩ := ok.all f x h1
    obtain ⟨y, ps, fd, w1, w2, w3, w4, w5, w6, w7⟩ := ok.fns f a ha
    rw [h1] at w1; cases w1
    rw [w2] at hn
    have hps : ps.length = g.length := by simpa using hn
    obtain ⟨k1, k2, k3, k4, k5⟩ := kw_facts (pos := pos) (env := X.env) hk
    unfold noDbg at h3
    simp only [Bool.and_eq_true, Bool.not_eq_true'] at h3
    have hst := chkL_star hl
    have lp : es.length = d1.length := by rw [evL_len q1]; exact chkL_len hl
    have lk : kws.length = d2.length := by rw [evL_len q2]; exact k5
    have hA : tA X es σ H fun vs H1 => tK X kws σ H1 fun zs H2 => vs.length = es.length ∧ zs.length = kws.length ∧ ∃ rho2, Ext rho H rho2 H2 ∧ SR fa rho2 H2 S2 ∧ RL fa rho2 H2 (d1 ++ d2) (vs ++ zs) := by
      refine sl_of hs hl _ _ _ _ _ _ _ _ q1 L s fun rho1 H1 vs x1 s1 r1 => ?_
      refine sk_of hs hk _ _ _ _ _ _ _ _ q2 (L.mono x1) s1 fun rho2 H2 zs x2 s2 r2 => ?_
      exact ⟨by rw [lp]; exact r1.length.symm, by rw [lk]; exact r2.length.symm, rho2, x1.trans s1 x2, s2, (r1.mono x2).append r2⟩
    intro pins st I
    refine wpAny_Call_Name_kw (ld_glob I (gl_of ok h2) w3 ?_ h3.1)
    have fin : ∀ {us ws : List Value} {vs zs : List V} {H2 : Hp} {s2 : Shared}, Inv X pins σ H2 s2 → Vals vs us → Vals zs ws → (vs.length = es.length ∧ zs.length = kws.length ∧ ∃ rho2, Ext rho H rho2 H2 ∧ SR fa rho2 H2 S2 ∧ RL fa rho2 H2 (d1 ++ d2) (vs ++ zs)) →
        wpAny (model X.prog X.w) X.A (call (.ref a) us ((kws.filterMap (·.arg)).zip ws)) (EP X pins σ Q) X.xe s2 := by
      intro us ws vs zs H2 s2 I2 rv rz ⟨z1, z2, rho2, x2, sr2, rl2⟩
      have hb := w7 es.length (kws.filterMap (·.arg)) g hc s2 us ws (by rw [← rv.length]; exact z1) (by rw [k4, ← rz.length]; exact z2)
      refine wpAny_call (codeAny_mono (w6.run X.A X.stack s2 H2 ⟨us, _⟩ (g.map fun j => (us ++ ws).getD j .none) (g.map fun j => (vs ++ zs).getD j .non) Q (ok.room.mono (Nat.le_add_right _ _)) ok.gd I2.env0 hb (Vals.mapd (Vals.app rv rz) g)
        ⟨by rw [List.length_map]; exact hps.symm, fa, rho2, S2, _, d, S', ⟨rfl, rfl⟩, rl2.mapd g, sr2, h, q.mono x2 sr2⟩) fun rr s' hq => ?_)
      cases rr with
      | error e => exact False.elim hq
      | ok fl =>
        cases fl with
        | ret u => exact I2.after hq
        | next => exact False.elim hq
        | brk => exact False.elim hq
        | cont => exact False.elim hq
    cases es with
    | nil =>
      refine W.callWith_KW0 (h₀ := X.base) I.ok.mod.kin w4 k1 ?_ (by simp [k2, backTo, starEach])
      have q1' : evL ev [] l S = .ok d1 S1 := q1
      cases q1'
      refine thn (sk_of hs hk _ _ _ _ _ _ _ (fun zs H2 => zs.length = kws.length ∧ ∃ rho2, Ext rho H rho2 H2 ∧ SR fa rho2 H2 S2 ∧ RL fa rho2 H2 ([] ++ d2) ([] ++ zs)) q2 L s (fun rho2 H2 zs x2 s2 r2 => ⟨by rw [lk]; exact r2.length.symm, rho2, x2, s2, r2⟩) pos pins st I) fun ws s2 ⟨zs, H2, I2, rz, z2, q3⟩ => ⟨I2.kIn, ?_⟩
      rw [k3]
      exact fin (vs := []) I2 .nil rz ⟨rfl, z2, q3⟩
    | cons e es' =>
      have hst' : isStar e = false ∧ es'.any isStar = false := by rw [List.any_cons, Bool.or_eq_false_iff] at hst; exact hst
      refine W.callWith_KW (h₀ := X.base) I.ok.mod.kin w4 k1 (thn (hA pos pins st I) fun us s1 ⟨vs, H1, I1, r, q⟩ => ?_) (by rw [k2, Bool.or_false]; exact star_plain (by rw [List.any_cons, hst'.1, hst'.2]; rfl)) (star_cons hst'.1)
      refine thn (q pos pins s1 I1) fun ws s2 ⟨zs, H2, I2, rz, q2⟩ => ⟨I2.kIn, ?_⟩
      rw [k3]
      exact fin I2 r rz q2
  · cases h
end
end Ev
end
section
set_option linter.all false
set_option Elab.async false
set_option maxRecDepth 100000
set_option maxHeartbeats 2000000
/-! E14: list comprehensions. -/
namespace Ev
open PySem PySem.Spec PyProof.Rows L2

/-! ### the tests of a block -/
section
variable {X : Cx}
theorem forIn_no {env : PySem.Env} : ∀ (cs : List Expr), (forIn cs false fun c r => if r = true then do let ok ← PySem.isTrue c env (eval c env); pure (ForInStep.yield ok) else pure (ForInStep.yield r)) = (pure false : Sem Bool)
  | [] => by rw [List.forIn_nil]
  | c :: cs => by
    rw [List.forIn_cons]
    show (pure (ForInStep.yield false) >>= fun r => _) = _
    rw [pure_bind]
    exact forIn_no cs
theorem pts_cons {c : Expr} {cs : List Expr} {t u : TT} (hc : PT X c t) (hr : PTs X cs u) : PTs X (c :: cs) (fun σ H Q => t σ H fun b H1 => if b = true then u σ H1 Q else Q false H1) := by
  refine ⟨fun pins s σ H Q I h => ?_⟩
  rw [List.forIn_cons]
  show wpAny _ _ ((do let ok ← PySem.isTrue c X.env (eval c X.env); pure (ForInStep.yield ok)) >>= _) _ _ s
  refine wpAny_bind (wpAny_bind (thn (hc.run pins s σ H _ I h) fun b s1 ⟨H1, I1, q1⟩ => wpAny_pure ?_))
  cases b with
  | true => exact hr.run pins s1 σ H1 Q I1 q1
  | false =>
    show wpAny _ _ (forIn cs false _) _ _ s1
    rw [forIn_no]
    exact wpAny_pure ⟨H1, I1, q1⟩
def tTs (X : Cx) (cs : List Expr) : TT := fun σ H Q => ∀ (pins : List (Addr × Obj)) (s : Shared), Inv X pins σ H s → wpAny (model X.prog X.w) X.A (forIn cs true fun c r => if r = true then do let ok ← PySem.isTrue c X.env (eval c X.env); pure (ForInStep.yield ok) else pure (ForInStep.yield r)) (TP X pins σ Q) X.xe s
theorem pts_max (cs : List Expr) : PTs X cs (tTs X cs) := ⟨fun pins s _ _ _ I h => h pins s I⟩
theorem tTs_of {cs : List Expr} {t : TT} {σ : L2.St} {H : Hp} {Q : Bool → Hp → Prop} (h : PTs X cs t) (q : t σ H Q) : tTs X cs σ H Q := fun pins s I => h.run pins s σ H Q I q
end
section
variable {pg : Pg} {fa : Fa} {F : FnT} {k j : Nat} {G : Gam} {X : Cx}
theorem sts_of {ev : Ev.CE → Loc → Sto → R3 D} {ck : Expr → Ev.CE → Bool} (hs : ∀ e c, ck e c = true → STv fa X (ev c) e) : ∀ {es : List Expr} {cs : List Ev.CE}, chkL ck es cs = true → ∀ (l : Loc) (S : Sto) (b : Bool) (S' : Sto) (rho : List Addr) (σ : L2.St) (H : Hp) (Q : Bool → Hp → Prop),
    evIfs ev cs l S = .ok b S' → LR fa rho H l σ → SR fa rho H S → PostB fa rho H S' b Q → tTs X es σ H Q
  | [], [], _, l, S, b, S', rho, σ, H, Q, e, L, s, q => by
    cases e
    exact tTs_of pts_nil (q rho H Ext.refl s)
  | e :: es, c :: cs, hl, l, S, b, S', rho, σ, H, Q, h, L, s, q => by
    simp only [chkL, Bool.and_eq_true, Bool.not_eq_true'] at hl
    simp only [evIfs] at h
    obtain ⟨d, S1, e1, h⟩ := bind_ok h
    refine tTs_of (pts_cons (pt_max e) (pts_max es)) ?_
    split at h
    · rename_i et
      refine hs e c hl.1.1 _ _ _ _ _ _ _ _ _ e1 et L s fun rho1 H1 x1 s1 => ?_
      rw [if_pos rfl]
      exact sts_of hs hl.2 _ _ _ _ _ _ _ _ h (L.mono x1) s1 fun rho2 H2 x2 s2 => q rho2 H2 (x1.trans s1 x2) s2
    · rename_i et
      cases h
      refine hs e c hl.1.1 _ _ _ _ _ _ _ _ _ e1 et L s fun rho1 H1 x1 s1 => ?_
      rw [if_neg (by decide)]
      exact q rho1 H1 x1 s1
    · cases h
  | [], _ :: _, h, _, _, _, _, _, _, _, _, _, _, _, _ => by simp [chkL] at h
  | _ :: _, [], h, _, _, _, _, _, _, _, _, _, _, _, _ => by simp [chkL] at h

/-! ### the context of a block -/
theorem OkX.and (o : OkX pg fa F k j G X) (p : Addr) : OkX pg (fa.and p) F k j G X :=
  ⟨o.sc, o.fn, o.N, o.nd, o.calm, o.gd, o.room, o.blt, o.fns, o.all, o.tab⟩
theorem OkX.blk (o : OkX pg fa F k j G X) {s : Shared} {H : Hp} {scope : Scope} {cl : List (Str × Addr)} {C : Addr} {fp : List Addr} : OkX pg fa F k j (G.blk scope) (X.blk s H scope (compEnvC scope cl C X.env) fp) :=
  ⟨by show relS scope X.env.scope = _; rw [o.sc]; rfl, rfl, o.N, o.nd, o.calm, o.gd, o.room, o.blt, o.fns, o.all, o.tab⟩
end

/-! ### the list that is made -/
section
variable {fa : Fa} {rho rho' : List Addr} {H H' : Hp} {S : Sto} {p : Addr}
mutual
/-- what doesn't know of p stays when p changes -/
theorem R.priv {o : HO} : ∀ {d : D} {v : V}, R (fa.and p) rho H d v → R (fa.and p) rho (upd H p o) d v
  | _, _, .non => .non
  | _, _, .bl b => .bl b
  | _, _, .int i => .int i
  | _, _, .str s => .str s
  | _, _, .tup h1 h2 h3 => .tup h1 (by rw [upd_ne fun z => h1.2 (.inr z)]; exact h2) (RL.priv h3)
  | _, _, .lst h1 h2 h3 => .lst h1 (by rw [upd_ne fun z => h1.2 (.inr z)]; exact h2) (RL.priv h3)
  | _, _, .ref h => .ref h
  | _, _, .fn h => .fn h
  | _, _, .rep h => .rep h
theorem RL.priv {o : HO} : ∀ {ds : List D} {vs : List V}, RL (fa.and p) rho H ds vs → RL (fa.and p) rho (upd H p o) ds vs
  | _, _, .nil => .nil
  | _, _, .cons h1 h2 => .cons (R.priv h1) (RL.priv h2)
end
theorem CellR.priv {o : HO} {a : Addr} {c : Cell} (hn : a ≠ p) (h : CellR (fa.and p) rho H a c) : CellR (fa.and p) rho (upd H p o) a c := by
  cases c with
  | lst xs => obtain ⟨vs, e1, r⟩ := h; exact ⟨vs, by rw [upd_ne hn]; exact e1, r.priv⟩
  | fz xs => obtain ⟨o, vs, e1, r⟩ := h; exact ⟨o, vs, by rw [upd_ne hn]; exact e1, r.priv⟩
  | dk kvs => obtain ⟨ws, e1, e2, r⟩ := h; exact ⟨ws, by rw [upd_ne hn]; exact e1, e2, r.priv⟩
theorem SR.priv {o : HO} (s : SR (fa.and p) rho H S) : SR (fa.and p) rho (upd H p o) S := by
  refine ⟨s.len, s.nd, fun n c e => ?_, fun a ha => ⟨(s.pv a ha).1, fun z => ?_, (s.pv a ha).2.2⟩, fun P t => (s.tb P t).upd fun z => (s.pv p (.inr rfl)).2.2 (z ▸ t)⟩
  · obtain ⟨a, ea, r⟩ := s.cell n c e
    refine ⟨a, ea, r.priv fun z => ?_⟩
    subst z
    exact (s.pv a (.inr rfl)).1 (List.mem_of_getElem? ea)
  · by_cases hp : a = p
    · subst hp; rw [upd_same] at z; cases z
    · rw [upd_ne hp] at z; exact (s.pv a ha).2.1 z
theorem Ext.priv {o : HO} (e : Ext rho H rho' H') (h : H p = none) : Ext rho H rho' (upd H' p o) :=
  ⟨e.pre, fun b u hb q => by rw [upd_ne (fun z => by rw [z, h] at q; cases q)]; exact e.keep' b u hb q⟩
/-- from now on nobody knows of p -/
theorem SR.hide {o : HO} (s : SR fa rho H S) (h : H p = none) : SR (fa.and p) rho (upd H p o) S := by
  have s1 := s.new (o := o) h
  refine ⟨s1.len, s1.nd, fun n c e => ?_, fun a ha => ?_, fun P t => s1.tb P t⟩
  · obtain ⟨a, ea, r⟩ := s.cell n c e
    have hne : a ≠ p := fun z => by subst z; exact r.isSome h
    exact ⟨a, ea, (r.lift (Fa.and_up h)).priv hne⟩
  · rcases ha with z | z
    · exact s1.pv a z
    · subst z
      exact ⟨s.fresh h, by rw [upd_same]; simp, fun t => s.tb_ne h t rfl⟩
mutual
/-- p becomes a cell of the store -/
theorem R.own : ∀ {d : D} {v : V}, R (fa.and p) rho H d v → R fa (rho ++ [p]) H d v
  | _, _, .non => .non
  | _, _, .bl b => .bl b
  | _, _, .int i => .int i
  | _, _, .str s => .str s
  | _, _, .tup h1 h2 h3 => .tup ⟨fun z => (List.mem_append.mp z).elim h1.1 fun y => h1.2 (.inr (List.mem_singleton.mp y)), fun z => h1.2 (.inl z)⟩ h2 (RL.own h3)
  | _, _, .lst h1 h2 h3 => .lst ⟨fun z => (List.mem_append.mp z).elim h1.1 fun y => h1.2 (.inr (List.mem_singleton.mp y)), fun z => h1.2 (.inl z)⟩ h2 (RL.own h3)
  | _, _, .ref h => .ref (by rw [List.getElem?_append_left (List.getElem?_eq_some_iff.mp h).1]; exact h)
  | _, _, .fn h => .fn h
  | _, _, .rep h => .rep h
theorem RL.own : ∀ {ds : List D} {vs : List V}, RL (fa.and p) rho H ds vs → RL fa (rho ++ [p]) H ds vs
  | _, _, .nil => .nil
  | _, _, .cons h1 h2 => .cons (R.own h1) (RL.own h2)
end
theorem CellR.own {a : Addr} {c : Cell} (h : CellR (fa.and p) rho H a c) : CellR fa (rho ++ [p]) H a c := by
  cases c with
  | lst xs => obtain ⟨vs, e1, r⟩ := h; exact ⟨vs, e1, r.own⟩
  | fz xs => obtain ⟨o, vs, e1, r⟩ := h; exact ⟨o, vs, e1, r.own⟩
  | dk kvs => obtain ⟨ws, e1, e2, r⟩ := h; exact ⟨ws, e1, e2, r.own⟩
theorem SR.own {xs : List D} {vs : List V} (s : SR (fa.and p) rho H S) (hn : ¬ fa.pv p) (hp : H p = some (.lst vs)) (r : RL (fa.and p) rho H xs vs) : SR fa (rho ++ [p]) H (S ++ [.lst xs]) := by
  have hpr : p ∉ rho := (s.pv p (.inr rfl)).1
  refine ⟨by rw [List.length_append, List.length_append, s.len]; rfl, ?_, fun n c' e => ?_, fun a ha => ?_, fun P t => s.tb P t⟩
  case refine_3 =>
    have hap : a ≠ p := fun z => by subst z; exact hn ha
    exact ⟨fun z => (List.mem_append.mp z).elim (s.pv a (.inl ha)).1 fun y => hap (List.mem_singleton.mp y), (s.pv a (.inl ha)).2⟩
  · rw [List.nodup_append]
    refine ⟨s.nd, by simp, fun a ha b hb => ?_⟩
    rw [List.mem_singleton.mp hb]
    intro z
    subst z
    exact hpr ha
  · by_cases hl : n < S.length
    · rw [List.getElem?_append_left hl] at e
      obtain ⟨a, ea, r⟩ := s.cell n c' e
      exact ⟨a, by rw [List.getElem?_append_left (List.getElem?_eq_some_iff.mp ea).1]; exact ea, r.own⟩
    · have hn' : n = S.length := by
        have := (List.getElem?_eq_some_iff.mp e).1
        rw [List.length_append, List.length_singleton] at this
        omega
      subst hn'
      rw [List.getElem?_append_right (Nat.le_refl _), Nat.sub_self] at e
      have e' : Cell.lst xs = c' := by simpa using e
      subst e'
      refine ⟨p, ?_, vs, hp, r.own⟩
      rw [← s.len, List.getElem?_append_right (Nat.le_refl _), Nat.sub_self]
      rfl
theorem Ext.own (e : Ext rho H rho' H') (h : H p = none) : Ext rho H (rho' ++ [p]) H' := by
  obtain ⟨t, rfl, ht⟩ := e.pre
  refine ⟨⟨t ++ [p], by rw [List.append_assoc], fun a ha => ?_⟩, e.keep'⟩
  rcases List.mem_append.mp ha with z | z
  · exact ht a z
  · rw [List.mem_singleton.mp z]; exact h
theorem Ext.none_back (e : Ext rho H rho' H') (s : SR fa rho' H' S) (h : H' p = none) : H p = none := by
  cases q : H p with
  | none => rfl
  | some o =>
    by_cases hr : p ∈ rho
    · exact absurd h (s.live p (e.mem hr))
    · exact absurd h (e.alive hr q)
/-- the list made becomes a value -/
theorem made_ok {mu : Bool} {xs : List D} {vs : List V} {S' : Sto} {d : D} {Q : VK} (h : mkR mu (.lst xs) S = .ok d S') (e : Ext rho H rho' H') (s : SR (fa.and p) rho' H' S) (hn : ¬ fa.pv p) (h0 : H p = none) (hp : H' p = some (.lst vs)) (r : RL (fa.and p) rho' H' xs vs) (q : Post fa rho H S' d Q) : Q (.ref p) H' := by
  have wk : ∀ a, fa.pv a → (fa.and p).pv a := fun a z => .inl z
  cases mu with
  | true =>
    cases h
    refine q (rho' ++ [p]) H' _ (e.own h0) (s.own hn hp r) (.ref ?_)
    rw [← s.len, List.getElem?_append_right (Nat.le_refl _), Nat.sub_self]
    rfl
  | false =>
    cases h
    exact q rho' H' _ e (s.weak ⟨rfl, rfl⟩ wk) (.lst ⟨(s.pv p (.inr rfl)).1, hn⟩ hp (r.lift (fa' := fa) (show (fa.and p).Up H' fa from ⟨⟨rfl, rfl⟩, fun a z => .inl (wk a z)⟩)))
theorem wipe_idem {σ : L2.St} {vs : List Nat} : L2.wipe (L2.wipe σ vs) vs = L2.wipe σ vs := by
  apply List.ext_getElem?
  intro j
  rw [wipe_get, wipe_get, L2.wipe_length]
  by_cases hj : j ∈ vs ∧ j < σ.length
  · rw [if_pos hj, if_pos hj]
  · rw [if_neg hj, if_neg hj]
end

section
variable {pg : Pg} {fa : Fa} {F : FnT} {k j : Nat} {G : Gam} {X : Cx}
theorem own_map {N : List Str} {own : List Nat} : (ownOf N own).map (·.2) = own := by
  unfold ownOf
  rw [List.map_map]
  exact List.map_id' _
theorem noSet {iter : Expr} {env : PySem.Env} (h : isSet iter = false) (x : Value) : foldedSetIterable iter env x = pure x := by
  cases iter <;> first | rfl | cases h
theorem chkI_noSet {ck : Expr → Ev.CE → Bool} {t : CT} {e : Expr} {c : CI} (h : chkI G ck t e c = true) : isSet e = false := by
  unfold chkI at h
  split at h <;> first | rfl | skip
  · simp only [Bool.and_eq_true, Bool.not_eq_true'] at h
    exact h.2
  · cases h
/-- what a list comprehension does -/
def lcT (X : Cx) (elt tg iter : Expr) (ifs : List Expr) (scope : Scope) (own : List Nat) : TE :=
  tLc (tI X tg iter) (fun v σ H Q => ∀ (s0 : Shared) (H0 : Hp) (C : Addr) (cl : List (Str × Addr)) (fp : List Addr), tG (X.blk s0 H0 scope (compEnvC scope cl C X.env) fp) tg v σ H Q)
    (fun σ H Q => ∀ (s0 : Shared) (H0 : Hp) (C : Addr) (cl : List (Str × Addr)) (fp : List Addr), tTs (X.blk s0 H0 scope (compEnvC scope cl C X.env) fp) ifs σ H Q)
    (fun σ H Q => ∀ (s0 : Shared) (H0 : Hp) (C : Addr) (cl : List (Str × Addr)) (fp : List Addr), tE (X.blk s0 H0 scope (compEnvC scope cl C X.env) fp) elt σ H Q) own
theorem pe_lcT (ok : OkX pg fa F k j G X) {elt tg iter : Expr} {ifs : List Expr} {scope : Scope} {own : List Nat} {pos : Pos} (h1 : blkC G.N G.sc scope (ownOf G.N own) = true) (h4 : isSet iter = false) :
    PE X (.ListComp elt [⟨tg, iter, ifs, 0⟩] scope pos) (lcT X elt tg iter ifs scope own) := by
  have hblk : BlkOk X.N X.env.scope scope (ownOf G.N own) := by rw [ok.N, ok.sc]; exact blkOk_by h1
  have := pe_lc (pos := pos) (g := fun v σ H Q => ∀ (s0 : Shared) (H0 : Hp) (C : Addr) (cl : List (Str × Addr)) (fp : List Addr), tG (X.blk s0 H0 scope (compEnvC scope cl C X.env) fp) tg v σ H Q)
    (tt := fun σ H Q => ∀ (s0 : Shared) (H0 : Hp) (C : Addr) (cl : List (Str × Addr)) (fp : List Addr), tTs (X.blk s0 H0 scope (compEnvC scope cl C X.env) fp) ifs σ H Q)
    (te := fun σ H Q => ∀ (s0 : Shared) (H0 : Hp) (C : Addr) (cl : List (Str × Addr)) (fp : List Addr), tE (X.blk s0 H0 scope (compEnvC scope cl C X.env) fp) elt σ H Q)
    ok.calm (by rw [ok.N]; exact ok.nd) (pi_max tg iter) hblk (fun s H C cl fp => ⟨fun pins st σ H v u Q I r h => h s _ C cl fp pins st u I r⟩) (fun s H C cl fp => ⟨fun pins st σ H Q I h => h s _ C cl fp pins st I⟩)
    (fun s H C cl fp => ⟨fun pins st σ H Q I h => h s _ C cl fp pins st I⟩) (noSet h4)
  rw [own_map] at this
  exact this
theorem ps_lcT (ok : OkX pg fa F k j G X) {elt tg iter : Expr} {ifs : List Expr} {scope : Scope} {own : List Nat} {pos spos py : Pos} {y : Str} {i : Nat} (h1 : blkC G.N G.sc scope (ownOf G.N own) = true) (h4 : isSet iter = false)
    (hi : G.N[i]? = some y) (hy : G.sc.names.lookup y = some .local) (hsw : swapsWith (.ListComp elt [⟨tg, iter, ifs, 0⟩] scope pos) (some (.Name y py)) spos.line X.env = pure true) :
    PS X (.Assign [.Name y py] (.ListComp elt [⟨tg, iter, ifs, 0⟩] scope pos) spos) (tAsg (lcT X elt tg iter ifs scope own) (gName i)) := by
  have hblk : BlkOk X.N X.env.scope scope (ownOf G.N own) := by rw [ok.N, ok.sc]; exact blkOk_by h1
  have := ps_setLc (pos := pos) (spos := spos) (py := py) (y := y) (i := i) (g := fun v σ H Q => ∀ (s0 : Shared) (H0 : Hp) (C : Addr) (cl : List (Str × Addr)) (fp : List Addr), tG (X.blk s0 H0 scope (compEnvC scope cl C X.env) fp) tg v σ H Q)
    (tt := fun σ H Q => ∀ (s0 : Shared) (H0 : Hp) (C : Addr) (cl : List (Str × Addr)) (fp : List Addr), tTs (X.blk s0 H0 scope (compEnvC scope cl C X.env) fp) ifs σ H Q)
    (te := fun σ H Q => ∀ (s0 : Shared) (H0 : Hp) (C : Addr) (cl : List (Str × Addr)) (fp : List Addr), tE (X.blk s0 H0 scope (compEnvC scope cl C X.env) fp) elt σ H Q)
    ok.calm (by rw [ok.N]; exact ok.nd) (by rw [ok.N]; exact hi) (by rw [ok.sc]; exact hy) hsw (pi_max tg iter) hblk (fun s H C cl fp => ⟨fun pins st σ H v u Q I r h => h s _ C cl fp pins st u I r⟩) (fun s H C cl fp => ⟨fun pins st σ H Q I h => h s _ C cl fp pins st I⟩)
    (fun s H C cl fp => ⟨fun pins st σ H Q I h => h s _ C cl fp pins st I⟩) (noSet h4)
  rw [own_map] at this
  exact this
theorem lc_core (ok : OkX pg fa F k j G X) {ev : Ev.CE → Loc → Sto → R3 D} {ck ck' : Expr → Ev.CE → Bool} {n : Nat} {mu : Bool} {elt tg iter : Expr} {ifs : List Expr} {scope : Scope} {own : List Nat} {t : CT} {it : CI} {cs : List Ev.CE} {y : Ev.CE}
    (hs : ∀ e c, ck e c = true → SEv fa X (ev c) e)
    (hb : ∀ (fa' : Fa) (X' : Cx), OkX pg fa' F k j (G.blk scope) X' → ∀ e c, ck' e c = true → SEv fa' X' (ev c) e ∧ STv fa' X' (ev c) e)
    (h2 : (ctSlots t).all (fun i => own.contains i) = true) (h3 : chkT (G.blk scope) n tg t = true) (h4 : chkI G ck t iter it = true) (h5 : chkL ck' ifs cs = true) (h6 : ck' elt y = true) :
    ∀ (l : Loc) (S : Sto) (d : D) (S' : Sto) (rho0 : List Addr) (σ : L2.St) (H0 : Hp) (Q : VK), ((evI ev it l S).bind fun J S1 => (evC ev J t cs y (wipeL l own) turns 0 S1 []).bind fun xs S2 => mkR mu (.lst xs) S2) = .ok d S' → LR fa rho0 H0 l σ → SR fa rho0 H0 S → Post fa rho0 H0 S' d Q → lcT X elt tg iter ifs scope own σ H0 Q := by
  intro l S d S' rho0 σ H0 Q h L s0 q
  obtain ⟨J, S1, e1, h⟩ := bind_ok h
  obtain ⟨xs, S2, e2, h⟩ := bind_ok h
  let CX := fun (s : Shared) (H : Hp) (C : Addr) (cl : List (Str × Addr)) (fp : List Addr) => X.blk s H scope (compEnvC scope cl C X.env) fp
  refine si_of ok hs h4 h3 _ _ _ _ _ _ _ _ e1 L s0 fun rho1 H1 Jt x1 s1 itr => ?_
  intro Dd hD
  have hD0 : H0 Dd = none := x1.none_back s1 hD
  have hpv : ¬ fa.pv Dd := fun z => (s1.pv Dd z).2.1 hD
  have LB : LR (fa.and Dd) rho1 H1 (wipeL l own) (L2.wipe σ own) := ((L.mono x1).wipe own).lift (Fa.and_up hD)
  have main : ∃ W : Nat → Nat → Hp → Prop, W = fun i m H => ∃ rho S acc vs, Ext rho1 H1 rho H ∧ SR (fa.and Dd) rho H S ∧ RL (fa.and Dd) rho H acc.reverse vs ∧ H Dd = some (.lst vs) ∧ evC ev J t cs y (wipeL l own) m i S acc = .ok xs S2 := ⟨_, rfl⟩
  obtain ⟨W, hW⟩ := main
  refine ⟨W, ⟨turns, ?_⟩, fun i m H w => ?_⟩
  · rw [hW]
    exact ⟨rho1, S1, [], [], (Ext.refl).priv hD, s1.hide hD, .nil, upd_same, e2⟩
  · rw [hW] at w
    obtain ⟨rho, Sx, acc, vs, xx, sx, rx, hl, ex⟩ := w
    have up1 : fa.Up H1 (fa.and Dd) := Fa.and_up hD
    obtain ⟨it1, it2⟩ := itr (fa.and Dd) i rho H Sx up1 xx sx
    cases m with
    | zero => simp [evC] at ex
    | succ m =>
      simp only [evC] at ex
      split at ex
      · cases ex
      · rename_i ea
        cases ex
        exact .inl ⟨it1 ea, made_ok h (x1.trans s1 xx) sx hpv hD0 hl rx q⟩
      · rename_i d1 ea
        obtain ⟨hgo, hy⟩ := it2 d1 ea
        refine .inr ⟨hgo, fun H' => W (i + 1) m H', fun H' w => ⟨m, Nat.lt_succ_self _, w⟩, fun v H' hyl => ?_⟩
        obtain ⟨x2, s2, r2⟩ := hy v H' hyl
        split at ex
        · cases ex
        · rename_i l1 el
          intro sa Ha C cl fp
          have okb : OkX pg (fa.and Dd) F k j (G.blk scope) (CX sa Ha C cl fp) := (ok.and Dd).blk
          have hDr : Dd ∉ rho := (sx.pv Dd (.inr rfl)).1
          refine sg_of okb n h3 el (LB.mono (xx.trans sx x2)) s2 r2 fun σ2 L2' hw => ?_
          refine ⟨(hw own fun i hi => by have := List.all_eq_true.mp h2 i hi; simpa using this).trans wipe_idem, fun sa Ha C cl fp => ?_⟩
          have okb : OkX pg (fa.and Dd) F k j (G.blk scope) (CX sa Ha C cl fp) := (ok.and Dd).blk
          obtain ⟨b, S3, e3, ex⟩ := bind_ok ex
          refine sts_of (fun e c hc => (hb _ _ okb e c hc).2) h5 _ _ _ _ _ _ _ _ e3 L2' s2 fun rho3 H3 x3 s3 => ?_
          have x23 := x2.trans s2 x3
          cases b with
          | false =>
            rw [if_neg (by decide)]
            rw [if_neg (by decide)] at ex
            rw [hW]
            exact ⟨rho3, S3, acc, vs, xx.trans sx x23, s3, rx.mono x23, x23.keep _ _ hDr hl, ex⟩
          | true =>
            rw [if_pos rfl]
            rw [if_pos rfl] at ex
            obtain ⟨dy, S4, e4, ex⟩ := bind_ok ex
            split at ex
            · rename_i hlt
              intro sa Ha C cl fp
              have okb : OkX pg (fa.and Dd) F k j (G.blk scope) (CX sa Ha C cl fp) := (ok.and Dd).blk
              refine (hb _ _ okb elt y h6).1 _ _ _ _ _ _ _ _ e4 (L2'.mono x3) s3 fun rho4 H4 u x4 s4 r4 => ?_
              have x24 := x23.trans s3 x4
              refine ⟨vs, x24.keep _ _ hDr hl, by rw [← rx.length, List.length_reverse]; exact hlt, ?_⟩
              rw [hW]
              refine ⟨rho4, S4, dy :: acc, vs ++ [u], (xx.trans sx x24).priv hD, s4.priv, ?_, upd_same, ex⟩
              rw [List.reverse_cons]
              exact ((rx.mono x24).append (.cons r4 .nil)).priv
            · cases ex
theorem se_lc (ok : OkX pg fa F k j G X) {ev : Ev.CE → Loc → Sto → R3 D} {ck ck' : Expr → Ev.CE → Bool} {n : Nat} {mu : Bool} {elt tg iter : Expr} {ifs : List Expr} {scope : Scope} {own : List Nat} {t : CT} {it : CI} {cs : List Ev.CE} {y : Ev.CE} {pos : Pos}
    (hs : ∀ e c, ck e c = true → SEv fa X (ev c) e)
    (hb : ∀ (fa' : Fa) (X' : Cx), OkX pg fa' F k j (G.blk scope) X' → ∀ e c, ck' e c = true → SEv fa' X' (ev c) e ∧ STv fa' X' (ev c) e)
    (h1 : blkC G.N G.sc scope (ownOf G.N own) = true) (h2 : (ctSlots t).all (fun i => own.contains i) = true) (h3 : chkT (G.blk scope) n tg t = true) (h4 : chkI G ck t iter it = true) (h5 : chkL ck' ifs cs = true) (h6 : ck' elt y = true) :
    SEv fa X (fun l S => (evI ev it l S).bind fun J S1 => (evC ev J t cs y (wipeL l own) turns 0 S1 []).bind fun xs S2 => mkR mu (.lst xs) S2) (.ListComp elt [⟨tg, iter, ifs, 0⟩] scope pos) :=
  fun l S d S' rho0 σ H0 Q h L s0 q => tE_of (pe_lcT ok h1 (chkI_noSet h4)) (lc_core ok hs hb h2 h3 h4 h5 h6 l S d S' rho0 σ H0 Q h L s0 q)
end
end Ev
end
section
set_option linter.all false
set_option Elab.async false
set_option maxRecDepth 100000
set_option maxHeartbeats 4000000
/-! G3: generator expressions: the context of the generator's run; its turns. -/
namespace Ev
open PySem PySem.Spec PyProof.Rows L2 GenW

/-- the context of a generator's run over its frame e -/
def gxE (X : Cx) (Aw : Around) (e : PySem.Env) (st : Shared) (H : Hp) (fp : List Addr) (pn : List (Addr × Obj)) : Cx where
  prog := X.prog
  w := X.w
  K := X.K
  mg := X.mg
  base := X.base
  A := Aw.deeper e
  N := X.N
  s_0 := st
  H_0 := H
  env := e
  outer := X.stack
  stack := e :: X.stack
  ex := fp
  calm := X.calm
  fn := fun _ => false
  pn := pn
  xe := fun _ _ => False
/-- the context of a generator expression's run -/
abbrev gxX (X : Cx) (Aw : Around) (scope : Scope) (L : Addr) (code : Value) (bi : Addr) (st : Shared) (H : Hp) (fp : List Addr) (pn : List (Addr × Obj)) : Cx :=
  gxE X Aw (genEnv scope (cloFrom X.env.cells scope.names []) L code bi X.env) st H fp pn
/-- the scope of a generator expression -/
structure GxS (scope : Scope) : Prop where
  co : scope.isCoroutine = false
  cell : ∀ y ∈ scope.names, y.2 ≠ .cell
  dot : scope.names.lookup (".0" : Str) = some NameKind.local
section
variable {X : Cx} {pins : List (Addr × Obj)} {σ : L2.St} {H : Hp} {sc s2 : Shared} {Aw : Around} {scope : Scope} {own : List (Str × Nat)} {L bi : Addr} {code : Value} {fp : List Addr} {pn pl : List (Addr × Obj)} {m : Str → Option Value}
theorem gx_start (I : Inv X pins σ H sc) (ok : BlkOk X.N X.env.scope scope own) (G : GxS scope) (hN : X.N.Nodup) (hbi : bi = builtinsNs) (hfp : ∀ b ∈ fp, FpOk X pins H b ∧ b < sc.heap.objs.size) (hL : sc.heap.objs.size ≤ L)
    (hh : Aw.handled = none) (hfr : Aw.frames = some X.stack) (kp : ∀ b o, sc.heap.get? b = some o → s2.heap.get? b = some o) (hos : s2.os = sc.os) (hba : AllBare s2.gens) (hns : s2.heap.Ns L m)
    (hpn : ∀ p ∈ pn ++ pl, s2.heap.get? p.1 = some p.2 ∧ H p.1 = none ∧ p.1 ≠ L ∧ p.1 ∉ frs X.stack ∧ ∀ v, p.2.data ≠ .cell v) :
    Inv (gxX X Aw scope L code bi sc H fp pn) pl (wipe σ (own.map (·.2))) H s2 := by
  have hfree : ∀ y ∈ scope.names, y.2 = .free → ∃ c, X.env.cells.lookup y.1 = some c := fun y hy e => by
    rcases ok.free y hy e with k | k
    · exact I.ok.has _ (.inl k)
    · exact I.ok.has _ (.inr k)
  have cm : ∀ {y c}, (cloFrom X.env.cells scope.names []).lookup y = some c → X.env.cells.lookup y = some c ∧ c < sc.heap.objs.size := fun {y c} e => by
    rcases cloFrom_mem (PySem.mem_of_lookup e) with hm | ⟨h1, rfl⟩
    · cases hm
    · obtain ⟨c, hc⟩ := hfree _ h1 rfl
      rw [hc]
      obtain ⟨w, z⟩ := I.cell _ _ hc
      exact ⟨rfl, z.lt⟩
  have look : ∀ {y}, scope.names.lookup y = some .free → ∃ c, (cloFrom X.env.cells scope.names []).lookup y = some c ∧ X.env.cells.lookup y = some c := fun {y} hl => by
    have hy : (y, NameKind.free) ∈ scope.names := PySem.mem_of_lookup hl
    obtain ⟨c', e'⟩ := mem_lookup (cloFrom_has (cells := X.env.cells) (acc := []) hy)
    exact ⟨c', e', (cm e').1⟩
  have nocell : ∀ {y}, scope.names.lookup y ≠ some .cell := fun {y} e => G.cell _ (PySem.mem_of_lookup e) rfl
  have okB : (gxX X Aw scope L code bi sc H fp pn).Ok := by
    refine ⟨I.ok.mod, ok.kind, I.ok.glob, hbi, hL, fun y z c e1 e2 => I.ok.inj y z c (cm e1).1 (cm e2).1, fun y hy => ?_, fun y c z e => (by cases z), fun _ => hh, Around.frames_deeper hfr, .inr ⟨rfl, rfl⟩, fun b hb => ⟨?_, fun y c e z => ?_⟩,
      I.bs, Nat.le_trans I.ok.bsz I.sz, fun b o e hb => ?_, fun b hb z => ?_, I.stack, I.stkFree⟩
    · rcases hy with hy | hy
      · exact absurd hy nocell
      · obtain ⟨c, h1, _⟩ := look hy
        exact ⟨c, h1⟩
    · exact Nat.ne_of_lt (Nat.lt_of_lt_of_le (hfp b hb).2 hL)
    · exact (hfp b hb).1.2.2.2.2.1 y c (cm e).1 z
    · rcases (hfp b hb).1.2.2.2.1 with z | z
      · exact I.ok.noex b o e z
      · exact absurd (Nat.lt_of_lt_of_le (Heap.lt_size e) (Nat.le_trans I.ok.bsz z)) (Nat.lt_irrefl _)
    · rcases List.mem_cons.mp (I.stkSub b z) with z | z
      · exact (hfp b hb).1.2.1 z
      · exact (hfp b hb).1.2.2.1 z
  refine ⟨okB, hos, hba, Un.kept kp, ⟨m, hns, fun i y av e1 e2 e3 => ?_⟩, fun y c e => ?_, I.hok.fresh hL, fun y c e => I.freeC y c (cm e).1, hpn, I.hok.kept kp, by rw [wipe_length]; exact I.len⟩
  · obtain ⟨e2, hne⟩ := wipe_some e2
    have no : ∀ k, scope.names.lookup y = some k → ¬ (k = .local ∨ k = .cell) := fun k e hh => by
      rcases ok.own _ (PySem.mem_of_lookup e) hh with e' | e'
      · obtain ⟨p, hp, hpy⟩ := List.mem_map.mp e'
        have e3 := ok.ix p hp
        have : p.1 = y := hpy
        rw [this] at e3
        exact hne (List.mem_map.mpr ⟨p, hp, nodup_ix hN e3 e1⟩)
      · exact e' (List.mem_of_getElem? e1)
    have e3 : Vis scope y := e3
    have hfr : scope.names.lookup y = some .free := by
      rcases e3 with e3 | e3 | e3
      · exact absurd (.inl rfl) (no _ e3)
      · exact absurd (.inr rfl) (no _ e3)
      · exact e3
    obtain ⟨m, hn, hl⟩ := I.loc
    have hvis : Vis X.env.scope y := (ok.free _ (PySem.mem_of_lookup hfr) rfl).elim (fun k => .inr (.inl k)) (fun k => .inr (.inr k))
    obtain ⟨w, r, q⟩ := hl i y av e1 e2 hvis
    refine ⟨w, r, .inr ⟨.inr hfr, ?_⟩⟩
    obtain ⟨c, h1, h2⟩ := look hfr
    rcases q with ⟨k, _⟩ | ⟨_, c', e', z⟩
    · have k : X.env.scope.names.lookup y = some .local := k
      rcases ok.free _ (PySem.mem_of_lookup hfr) rfl with k' | k' <;> rw [show X.env.scope.names.lookup y = _ from k'] at k <;> cases k
    · rw [h2] at e'; cases e'
      exact ⟨c, h1, z.keeps kp⟩
  · obtain ⟨h1, _⟩ := cm e
    obtain ⟨w, z⟩ := I.cell y c h1
    exact ⟨w, z.keeps kp⟩
end

/-! ### the turns -/
theorem over_gloop {A : Around} {elt tg iter : Expr} {ifs : List Expr} {scope : Scope} {pos : Pos} {it acc : Value} {env : PySem.Env} : A.over (.compLoop (.GeneratorExp elt [⟨tg, iter, ifs, 0⟩] scope pos) 0 it acc env) [] = A.deeper env := by
  first
    | rfl
    | (obtain ⟨hd, d, fr, gs, u⟩ := A; simp [Around.over, Around.deeper, marksOver, frameCount, unitsOf, envsOf, guardsOf, pushEnvs, pushGuards, Code.envs, Code.env?, Code.isFrame, Code.guards, Code.isGuard, Code.weight, Code.frames, Code.isCreation, Code.isCaller, Code.cUnits])
theorem over_gstart {A : Around} {elt tg iter : Expr} {ifs : List Expr} {scope : Scope} {pos : Pos} {it acc : Value} {env : PySem.Env} : A.over (.compStart (.GeneratorExp elt [⟨tg, iter, ifs, 0⟩] scope pos) 0 it acc env) [] = A.deeper env := by
  first
    | rfl
    | (obtain ⟨hd, d, fr, gs, u⟩ := A; simp [Around.over, Around.deeper, marksOver, frameCount, unitsOf, envsOf, guardsOf, pushEnvs, pushGuards, Code.envs, Code.env?, Code.isFrame, Code.guards, Code.isGuard, Code.weight, Code.frames, Code.isCreation, Code.isCaller, Code.cUnits])
end Ev
end
section
set_option linter.all false
set_option Elab.async false
set_option maxRecDepth 100000
set_option maxHeartbeats 4000000
/-! G4: the run of a generator expression. -/
namespace Ev
open PySem PySem.Spec PyProof.Rows L2 GenW

/-- what a generator expression is asked: its turns by W (the turn, a measure, what is out so far) -/
def GxTurns (J : It) (g : TG) (tt : TT) (te : TE) (vs : List Nat) (σ : L2.St) (cont : List V → Hp → Prop) (W : Nat → Nat → List V → Hp → Prop) : Prop :=
  ∀ i m ys H, W i m ys H → (J.stop i H ∧ cont ys H) ∨ (J.go i H ∧ ∃ Nx : List V → Hp → Prop, (∀ ys' H', Nx ys' H' → ∃ m', m' < m ∧ W (i + 1) m' ys' H') ∧ ∀ x H', J.yld i H x H' → g x (wipe σ vs) H' fun σ2 H2 => wipe σ2 vs = wipe σ vs ∧ tt σ2 H2 fun b H3 =>
    if b = true then te σ2 H3 fun y H4 => ys.length < sizeLine ∧ Nx (ys ++ [y]) H4 else Nx ys H3)
/-- how a run ends -/
def RG (Y : Cx) (S : Addr) (Q : List V → Hp → Prop) : GenEnd := fun n s₀ r s => r = .ok .next ∧ ∃ ys ip σ H, n + ys.length = sizeLine ∧ GI Y S ip ys σ H s ∧ Q ys H

section
variable {Y : Cx} {Aw : Around} {S a : Addr} {go : Obj} {fp : List Addr} {it : Addr} {tn : Nat → Heap → Prop} {J : It} {elt tg iter : Expr} {ifs : List Expr} {scope : Scope} {pos : Pos} {g : TG} {tt : TT} {te : TE} {σ : L2.St} {vs : List Nat} {cont : List V → Hp → Prop} {W : Nat → Nat → List V → Hp → Prop}
theorem seg_gx (hA : Y.A = Aw.deeper Y.env) (hxe : Y.xe = fun _ _ => False) (hc : Y.calm = true) (hco : Y.env.scope.isCoroutine = false) (hex : Y.ex = fp) (hpn : Y.pn = [(a, go)]) (haS : a ≠ S) (hap : Apart Y S) (hfpS : ∀ b ∈ fp, b ≠ S ∧ b ≠ a)
    (T : Turn Y.prog Y.w Y.K tg J fp it tn) (pg : PG Y tg g) (pt : PTs Y ifs tt) (pe : PE Y elt te) (turn : GxTurns J g tt te vs σ cont W) :
    ∀ (m i n : Nat) (ys : List V) (s₀ s : Shared) (H : Hp), GI Y S [] ys (wipe σ vs) H s → tn i s.heap → (∀ b ∈ fp, H b = none) → W i m ys H → n + ys.length = sizeLine →
      Seg (model Y.prog Y.w) Aw (RG Y S cont) (GY Y S) n s₀ (.compLoop (.GeneratorExp elt [⟨tg, iter, ifs, 0⟩] scope pos) 0 (.ref it) .none Y.env)
        ((model Y.prog Y.w).den (.compLoop (.GeneratorExp elt [⟨tg, iter, ifs, 0⟩] scope pos) 0 (.ref it) .none Y.env)) [] s := by
  have hov : ∀ {it : Value}, Aw.over (.compLoop (.GeneratorExp elt [⟨tg, iter, ifs, 0⟩] scope pos) 0 it .none Y.env) [] = Y.A := fun {it} => by rw [over_gloop, hA]
  have stat : ∀ {σ' : L2.St} {H' : Hp} {s' : Shared} {acc : Array Value} {c : Nat}, Inv Y [(S, lstObj acc c)] σ' H' s' → (∀ b ∈ fp, H' b = none) → ∀ b ∈ fp, FpOk Y [(S, lstObj acc c)] H' b := fun {σ' H' s' acc c} I' hn b hb => by
    have hb' : b ∈ Y.ex := by rw [hex]; exact hb
    refine ⟨hn b hb, (I'.ok.exf b hb').1, I'.ok.exfs b hb', .inl hb', fun x c e => (I'.ok.exf b hb').2 x c e, fun p hp => ?_⟩
    rw [hpn] at hp
    rcases List.mem_append.mp hp with z | z
    · rw [List.mem_singleton.mp z]; exact Ne.symm (hfpS b hb).2
    · rw [List.mem_singleton.mp z]; exact Ne.symm (hfpS b hb).1
  have noX : ∀ {α : Type} {t : Sem α} {Q : α → Shared → Prop} {E : Value → Shared → Prop} {s : Shared}, wpAny (model Y.prog Y.w) Y.A t Q Y.xe s → wpAny (model Y.prog Y.w) Y.A t Q E s := fun h => wpAny_mono h (fun _ _ x => x) fun _ _ x => by rw [hxe] at x; exact x.elim
  intro m
  induction m using Nat.strongRecOn with
  | ind m ih =>
    intro i n ys s₀ s H hG st nf w hn
    show Seg _ Aw _ _ n s₀ _ ((compTurn (.GeneratorExp elt [⟨tg, iter, ifs, 0⟩] scope pos) 0 (.ref it) .none Y.env).onRaise (leaving Y.env)) [] s
    rw [compTurn_gen, Sem.onRaise_eq_wrap]
    refine seg_bind_wrap (wpAny_standAt ?_)
    obtain ⟨acc, cc, r, I⟩ := hG
    rcases turn i m ys H w with ⟨stop, qq⟩ | ⟨go', Nx, hNx, step⟩
    · refine seg_bind_wrap ?_
      rw [hov]
      refine thn (T.done Y rfl rfl rfl hc i _ s _ H _ I (stat I nf) st stop) fun r' s1 ⟨hr, I1⟩ => ?_
      subst hr
      exact seg_end (.ok .next) ⟨rfl, ys, [], _, H, hn, ⟨acc, cc, r, I1⟩, qq⟩
    · refine seg_bind_wrap ?_
      rw [hov]
      refine thn (T.item Y rfl rfl rfl hc i _ s _ H _ I (stat I nf) st go') fun r' s1 ⟨u, hr, h6⟩ => ?_
      subst hr
      show Seg _ Aw _ _ n s₀ _ (Sem.wrap _ _ _ _ (letOwnedTupleGo tg (.ref it) u >>= _)) [] s1
      refine seg_bind_wrap ?_
      rw [hov]
      refine thn h6 fun _ s7 ⟨x, H7, I7, r7, y7, st7, n7⟩ => ?_
      have I7' := I7.pinned (stat I7 n7) (T.obj _ _ st7)
      -- the objects that are walked stay
      have pin' : ∀ {σ' : L2.St} {H' : Hp} {s' : Shared} {ys' : List V}, GI Y S (pinsAt fp s7.heap) ys' σ' H' s' → ∀ b ∈ fp, ∀ o, s7.heap.get? b = some o → s'.heap.get? b = some o ∧ H' b = none := fun {σ' H' s' ys'} hG b hb o e => by
        obtain ⟨acc', cc', _, I'⟩ := hG
        have z := I'.pin (b, o) (List.mem_append_right _ (List.mem_cons_of_mem _ (mem_pinsAt hb e)))
        exact ⟨z.1, z.2.1⟩
      have fin : ∀ {σ' : L2.St} {H' : Hp} {s' : Shared} {ys' : List V} (n' : Nat) (s0' : Shared), GI Y S (pinsAt fp s7.heap) ys' σ' H' s' → wipe σ' vs = wipe σ vs → Nx ys' H' → n' + ys'.length = sizeLine →
          Seg (model Y.prog Y.w) Aw (RG Y S cont) (GY Y S) n' s0' (.compLoop (.GeneratorExp elt [⟨tg, iter, ifs, 0⟩] scope pos) 0 (.ref it) .none Y.env)
            ((model Y.prog Y.w).den (.compLoop (.GeneratorExp elt [⟨tg, iter, ifs, 0⟩] scope pos) 0 (.ref it) .none Y.env)) [] s' := fun {σ' H' s' ys'} n' s0' hG hw nx hn' => by
        obtain ⟨m', hm, w'⟩ := hNx ys' H' nx
        have hp := pin' hG
        obtain ⟨acc', cc', r', I'⟩ := hG
        have hl : (wipe σ vs).length = σ'.length := by rw [← hw, wipe_length]
        have I2 : Inv Y [(S, lstObj acc' cc')] (wipe σ vs) H' s' := (I'.pins_of fun p hp => I'.pin p (List.mem_append_right _ (by rw [List.mem_singleton.mp hp]; exact List.mem_cons_self))).weak hl fun j v e => by
          rw [← hw] at e
          exact (wipe_some e).1
        refine ih m' hm (i + 1) n' ys' s0' s' H' ⟨acc', cc', r', I2⟩ (T.keep _ _ _ st7 fun b hb o e => (hp b hb o e).1) (fun b hb => ?_) w' hn'
        obtain ⟨o, e, _⟩ := T.obj _ _ st7 b hb
        exact (hp b hb o e).2
      refine seg_bind_wrap ?_
      rw [hov]
      refine noX (thn (pg.run _ s7 _ H7 x u _ I7' r7 (step x H7 y7)) fun _ s8 ⟨σ8, H8, I8, hw8, q8⟩ => ?_)
      refine seg_bind_wrap ?_
      rw [hov]
      refine noX (thn (pt.run _ s8 σ8 H8 _ I8 q8) fun b s9 ⟨H9, I9, q9⟩ => ?_)
      cases b with
      | false =>
        simp only [Bool.false_eq_true, if_false] at q9 ⊢
        exact seg_again rfl (fin n s₀ ⟨acc, cc, r, I9⟩ hw8 q9 hn)
      | true =>
        simp only [if_true] at q9 ⊢
        have hy : ∀ v, yieldOut Y.env v = yieldValue v := fun v => by simp only [yieldOut, hco, Bool.false_eq_true, if_false]
        simp only [hy]
        rw [Sem.bind_eq_wrap', Sem.bind_eq_wrap', Sem.wrap_wrap, Sem.wrap_wrap]
        refine seg_wrap ?_
        rw [hov]
        refine noX (thn (pe.run _ s9 σ8 H9 _ I9 q9) fun v s10 ⟨yv, H10, I10, r10, hlt, nx⟩ => ?_)
        obtain ⟨n, rfl⟩ : ∃ k, n = k + 1 := ⟨n - 1, by omega⟩
        have G10 : GI Y S (pinsAt fp s7.heap) ys σ8 H10 s10 := ⟨acc, cc, r, I10⟩
        have hip : ∀ p ∈ pinsAt fp s7.heap, p.1 ≠ S := fun p hp => (hfpS p.1 (of_pinsAt hp).1).1
        refine seg_at (seg_yield rfl rfl rfl ⟨ys, yv, pinsAt fp s7.heap, σ8, H10, hn, r10, G10, fun s'' z => ?_⟩)
        have G11 := G10.woken (fun p hp => by rw [hpn] at hp; rw [List.mem_singleton.mp hp]; exact haS) hip hap r10 z
        exact seg_again rfl (fin n s'' G11 hw8 nx (by rw [List.length_append, List.length_singleton]; omega))
theorem seg_gx0 (hA : Y.A = Aw.deeper Y.env) (hxe : Y.xe = fun _ _ => False) (hc : Y.calm = true) (hco : Y.env.scope.isCoroutine = false) (hex : Y.ex = fp) (hpn : Y.pn = [(a, go)]) (haS : a ≠ S) (hap : Apart Y S) (hfpS : ∀ b ∈ fp, b ≠ S ∧ b ≠ a)
    (T : Turn Y.prog Y.w Y.K tg J fp it tn) (pg : PG Y tg g) (pt : PTs Y ifs tt) (pe : PE Y elt te) (turn : GxTurns J g tt te vs σ cont W)
    (m n : Nat) (s₀ s : Shared) (H : Hp) (hG : GI Y S [] [] (wipe σ vs) H s) (st : tn 0 s.heap) (nf : ∀ b ∈ fp, H b = none) (w : W 0 m [] H) (hn : n = sizeLine) :
      Seg (model Y.prog Y.w) Aw (RG Y S cont) (GY Y S) n s₀ (.compStart (.GeneratorExp elt [⟨tg, iter, ifs, 0⟩] scope pos) 0 (.ref it) .none Y.env)
        ((model Y.prog Y.w).den (.compStart (.GeneratorExp elt [⟨tg, iter, ifs, 0⟩] scope pos) 0 (.ref it) .none Y.env)) [] s := by
  have loop := seg_gx (elt := elt) (iter := iter) (ifs := ifs) (scope := scope) (pos := pos) hA hxe hc hco hex hpn haS hap hfpS T pg pt pe turn m 0 n [] s₀ s H hG st nf w (by rw [hn]; rfl)
  show Seg _ Aw _ _ n s₀ _ ((compStart (.GeneratorExp elt [⟨tg, iter, ifs, 0⟩] scope pos) 0 (.ref it) .none Y.env).onRaise (leaving Y.env)) [] s
  unfold compStart
  rw [Sem.onRaise_eq_wrap]
  show Seg _ Aw _ _ n s₀ _ ((ask >>= _).wrap _ _ _ _) [] s
  refine seg_bind_wrap (wpAny_askSetting ?_)
  split
  · exact seg_again rfl loop
  · first
      | exact seg_bind_wrap (wpAny_rule (seg_bind_wrap (wpAny_standAt (seg_bind_wrap (T.self _ 0 s _ _ st (seg_again rfl loop))))))
      | (refine seg_bind_wrap (wpAny_rule ?_); show Seg _ Aw _ _ n s₀ _ ((standAt iter.pos >>= _).wrap _ _ _ _) [] s; exact seg_bind_wrap (wpAny_standAt (seg_bind_wrap (T.self _ 0 s _ _ st (seg_again rfl loop)))))
end
end Ev
end
section
set_option linter.all false
set_option Elab.async false
set_option maxRecDepth 100000
set_option maxHeartbeats 4000000
/-! G5: a generator expression is made. -/
namespace Ev
open PySem PySem.Spec PyProof.Rows L2 GenW GxR

/-- a generator that has not begun; it is woken where nothing is being shown -/
def GMadeG (P : Program) (w : World) (k : Nat) (outer : List PySem.Env) (H : Hp) (s : Shared) (ex : List Addr) (Q : List V → Hp → Prop) (u : Value) (s' : Shared) : Prop :=
  ∃ (a : Addr) (g : Nat) (c : Code), u = .ref a ∧ s.heap.objs.size ≤ a ∧ a < s'.heap.objs.size ∧ s'.heap.IsGen a g ∧ s'.gens[g]? = some (.fresh c) ∧ s'.os = s.os ∧ AllBare s'.gens ∧ s'.heap.NoLimit ∧ (∀ b o, s.heap.get? b = some o → s'.heap.get? b = some o) ∧
    ∀ (A : Around) (S : Addr) (s2 : Shared), Room k A → A.guards = some [] → A.frames = some outer → s'.heap.objs.size ≤ S → (∀ b o, s'.heap.get? b = some o → s2.heap.get? b = some o) → (∃ c, s2.heap.get? S = some (lstObj #[] c)) → s2.os = s.os → AllBare s2.gens →
      Seg (model P w) A (REnd P w outer H s ex S a g Q (fun _ _ _ => False)) (YItem s S a g) sizeLine s2 c ((model P w).den c) [] s2
def tGx (P : Addr) (wi : TI) (g : TG) (tt : TT) (te : TE) (vs : List Nat) : TGen := fun σ H cont => wi σ H fun J H1 => GxR.TabG H1 P ∧ ∀ H2, Tabbed P H1 H2 → ∃ W : Nat → Nat → List V → Hp → Prop, (∃ m, W 0 m [] H2) ∧ GxTurns J g tt te vs σ cont W
section
variable {X : Cx} {pins : List (Addr × Obj)} {σ : L2.St} {H : Hp} {s : Shared} {scope : Scope} {own : List (Str × Nat)} {elt tg iter : Expr} {ifs : List Expr} {pos : Pos} {wi : TI} {g : TG} {tt : TT} {te : TE} {cont : List V → Hp → Prop} {c P : Addr} {k : Nat}
theorem gx_made (hr : Room k X.A) (hcalm : X.calm = true) (TB : TabB X.base X.mg c P) (hcode : X.env.code = .ref c) (G : GxS scope) (okB : BlkOk X.N X.env.scope scope own) (hN : X.N.Nodup) (hi : PI X tg iter wi) (hs : ∀ v, genFold iter X.env v = pure v)
    (hg : ∀ (Aw : Around) (L : Addr) (code : Value) (bi : Addr) (st : Shared) (H : Hp) (fp : List Addr) (pn : List (Addr × Obj)), Room k (Aw.deeper (genEnv scope (cloFrom X.env.cells scope.names []) L code bi X.env)) → Aw.guards = some [] → PG (gxX X Aw scope L code bi st H fp pn) tg g)
    (ht : ∀ (Aw : Around) (L : Addr) (code : Value) (bi : Addr) (st : Shared) (H : Hp) (fp : List Addr) (pn : List (Addr × Obj)), Room k (Aw.deeper (genEnv scope (cloFrom X.env.cells scope.names []) L code bi X.env)) → Aw.guards = some [] → PTs (gxX X Aw scope L code bi st H fp pn) ifs tt)
    (he : ∀ (Aw : Around) (L : Addr) (code : Value) (bi : Addr) (st : Shared) (H : Hp) (fp : List Addr) (pn : List (Addr × Obj)), Room k (Aw.deeper (genEnv scope (cloFrom X.env.cells scope.names []) L code bi X.env)) → Aw.guards = some [] → PE (gxX X Aw scope L code bi st H fp pn) elt te)
    (I : Inv X pins σ H s) (h : tGx P wi g tt te (own.map (·.2)) σ H cont) :
    wpAny (model X.prog X.w) X.A (eval (.GeneratorExp elt [⟨tg, iter, ifs, 0⟩] scope pos) X.env) (fun u s' => ∃ H1 st ex, Inv X pins σ H1 st ∧ ExOk X pins ex ∧ GMadeG X.prog X.w (k + 1) X.stack H1 st ex cont u s') X.xe s := by
  have hfree : ∀ y ∈ scope.names, y.2 = .free → ∃ c, X.env.cells.lookup y.1 = some c := fun y hy e => by
    rcases okB.free y hy e with k | k
    · exact I.ok.has _ (.inl k)
    · exact I.ok.has _ (.inr k)
  refine wpAny_GeneratorExp_make G.co (closure_ok hfree) G.cell G.dot okB.kind (by have := hr.dp; omega) ?_ hs
  refine thn (hi.run pins s σ H _ I h) fun xv s1 hx => thn hx fun itv s2 h2 => ?_
  obtain ⟨it, fp, tn, J, H2, e, I2, T, st2, f2, ⟨ps, hP, htr⟩, q⟩ := h2
  subst e
  have hPs : s2.heap.get? P = some { cls := .none, data := .fields ps } := I2.hok P _ hP
  have cd : PySem.W.CodeHd s2.heap c P := TB.code.keeps fun b u e => I2.bk b u e
  have hlim : s2.heap.NoLimit := I2.nolimit
  have nfP : ∀ b ∈ fp, b ≠ P := fun b hb z => by
    have := (f2 b hb).1
    rw [z, hP] at this; cases this
  refine ⟨hlim, ?_⟩
  have cont' : ∀ (code : Value) (h3 : Heap) (tk : Nat) (ps' more : Array Value), Heap.ExtBut P s2.heap h3 → h3.get? P = some { cls := .none, data := .fields ps' } → ps' = ps ++ more → TriplesOk ps'.toList →
      wpAny (model X.prog X.w) X.A (builtinsFor X.env.globals X.env.builtins) (fun bi s₄ =>
        ∀ h', h'.Ns s₄.heap.objs.size (fun y => if y = ".0" then some (.ref it) else none) → Heap.SameBut s₄.heap.objs.size (s₄.heap.push { cls := .type "frame", data := .dict #[] }) h' →
          ∃ H1 st ex, Inv X pins σ H1 st ∧ ExOk X pins ex ∧ GMadeG X.prog X.w (k + 1) X.stack H1 st ex cont (.ref h'.objs.size) { s₄ with
            gens := s₄.gens.push (.fresh (.compStart (.GeneratorExp elt [⟨tg, iter, ifs, 0⟩] scope pos) 0 (.ref it) .none (genEnv scope (cloFrom X.env.cells scope.names []) s₄.heap.objs.size code bi X.env))),
            toks := s₄.toks + 1 + 1 + 1,
            heap := h'.push { cls := .type "generator", data := .fields #[.int s₄.gens.size 0, .str "<genexpr>" (s₄.toks + 1), .str (X.env.qual ++ "<genexpr>") (s₄.toks + 1 + 1)] } }) X.xe { s2 with heap := h3, toks := tk } := by
    intro code h3 tk ps' more hx hP3 hmore ht3
    obtain ⟨bm, ob, e1, e2, e3, e4, e5, e6, e7, e8⟩ := TB.bm
    refine wpAny_builtinsFor (m := X.mg) (by rw [I2.ok.glob]; exact (I2.mod.glob.keeps I2.bk).extBut hx TB.gP) e1 e2 (hx _ _ e4 (I2.bk _ _ e5)) e6 e7 e8 ?_
    intro h' hn' hs'
    -- the state in which the generator is made
    have J3 : Inv X pins σ (upd H2 P (.tbl ps')) { s2 with heap := h3, toks := tk } := by
      have := inv_tab (more := more) (h' := h3) (g' := s2.gens) (d' := s2.drawn) (t' := tk) I2 hP (fun b u hb e => hx b u hb e) (by rw [← hmore]; exact hP3) I2.bare
      rw [← hmore] at this
      exact this
    have tb : Tabbed P H2 (upd H2 P (.tbl ps')) := ⟨⟨ps', upd_same, ht3⟩, fun b hb => upd_ne hb⟩
    have f3 : ∀ b ∈ fp, FpOk X pins (upd H2 P (.tbl ps')) b := fun b hb => by
      obtain ⟨y1, y2⟩ := f2 b hb
      exact ⟨by rw [upd_ne (nfP b hb)]; exact y1, y2⟩
    have st3 : tn 0 h3 := T.keep _ _ _ st2 fun b hb o e => hx b o (nfP b hb) e
    have sz3 : ∀ b ∈ fp, b < h3.objs.size := fun b hb => by
      obtain ⟨o, e, _⟩ := T.obj _ _ st3 b hb
      exact Heap.lt_size e
    refine ⟨upd H2 P (.tbl ps'), { s2 with heap := h3, toks := tk }, fp, J3, fun b hb => ⟨(f3 b hb).2.2.2.1, (f3 b hb).2.1, (f3 b hb).2.2.2.2.1, (f3 b hb).2.2.2.2.2⟩, ?_⟩
    generalize hH3 : upd H2 P (.tbl ps') = H3 at J3 tb f3 ⊢
    have hsz : h'.objs.size = h3.objs.size + 1 := by rw [hs'.1, Heap.size_push]
    have keep' : ∀ b o, h3.get? b = some o → h'.get? b = some o := fun b o e => hs'.extBut b o (Nat.ne_of_lt (Heap.lt_size e)) (Heap.get?_push_of_some _ e)
    have main : ∀ (go : Obj) (nm qn : Value) (tk2 : Nat), go.cls = .type "generator" → go.data = .fields #[.int s2.gens.size 0, nm, qn] → go.slots = #[] → (∀ h : Heap, (h.push go).get? h.objs.size = some go) →
        GMadeG X.prog X.w (k + 1) X.stack H3 { s2 with heap := h3, toks := tk } fp cont (.ref h'.objs.size) { s2 with gens := s2.gens.push (.fresh (.compStart (.GeneratorExp elt [⟨tg, iter, ifs, 0⟩] scope pos) 0 (.ref it) .none (genEnv scope (cloFrom X.env.cells scope.names []) h3.objs.size code builtinsNs X.env))), toks := tk2, heap := h'.push go } := by
      intro go nm qn tk2 hgc hgd0 hgs hgp
      have hgen : ∀ h : Heap, h.get? h'.objs.size = some go → h.IsGen h'.objs.size s2.gens.size := fun h e => ⟨go, nm, qn, e, hgc, hgd0, hgs⟩
      have hpushed : (h'.push go).get? h'.objs.size = some go := hgp _
      refine ⟨h'.objs.size, s2.gens.size, _, rfl, by show h3.objs.size ≤ _; omega, ?_, hgen _ hpushed, Array.getElem?_push_size .., rfl, AllBare.push I2.bare rfl, J3.nolimit.keeps fun b o e => Heap.get?_push_of_some _ (keep' b o e), fun b o e => Heap.get?_push_of_some _ (keep' b o e), ?_⟩
      · show _ < (h'.push _).objs.size
        rw [Heap.size_push]; exact Nat.lt_succ_self _
      intro Aw Sx s5 hrw hgw hfr hSx hk5 hSo hos hba
      have kp5 : ∀ b o, h3.get? b = some o → s5.heap.get? b = some o := fun b o e => hk5 b o (Heap.get?_push_of_some _ (keep' b o e))
      have hSz : h'.objs.size < Sx := by
        have hSx' : (h'.push go).objs.size ≤ Sx := hSx
        rw [Heap.size_push] at hSx'
        exact hSx'
      have hLa : h3.objs.size < h'.objs.size := by omega
      have hLS : h3.objs.size < Sx := Nat.lt_trans hLa hSz
      obtain ⟨cS, heS⟩ := hSo
      have hea : s5.heap.get? h'.objs.size = some go := hk5 h'.objs.size go hpushed
      have hgd : ∀ v, go.data ≠ .cell v := fun v q => by rw [hgd0] at q; cases q
      have young : ∀ b, h3.objs.size ≤ b → H3 b = none ∧ b ∉ frs X.stack := fun b hb => by
        refine ⟨J3.hok.fresh hb, fun hm => ?_⟩
        rcases List.mem_cons.mp (J3.stkSub b hm) with z | z
        · exact absurd (Nat.lt_of_lt_of_le J3.lt hb) (by rw [z]; exact Nat.lt_irrefl _)
        · exact J3.nofs hb z
      have IY : Inv (gxX X Aw scope h3.objs.size code builtinsNs { s2 with heap := h3, toks := tk } H3 fp [(h'.objs.size, go)]) [(Sx, lstObj #[] cS)] (wipe σ (own.map (·.2))) H3 s5 := by
        refine gx_start (m := fun y => if y = ".0" then some (.ref it) else none) J3 okB G hN rfl (fun b hb => ⟨f3 b hb, sz3 b hb⟩) (Nat.le_refl _) hrw.hd hfr kp5 hos hba (Heap.Ns.keeps hn' fun b o e => hk5 b o (Heap.get?_push_of_some _ e)) fun p hp => ?_
        rcases List.mem_append.mp hp with z | z
        · rw [List.mem_singleton.mp z]
          obtain ⟨y1, y2⟩ := young h'.objs.size (Nat.le_of_lt hLa)
          exact ⟨hea, y1, Nat.ne_of_gt hLa, y2, hgd⟩
        · rw [List.mem_singleton.mp z]
          obtain ⟨y1, y2⟩ := young Sx (Nat.le_of_lt hLS)
          exact ⟨heS, y1, Nat.ne_of_gt hLS, y2, fun v q => by cases q⟩
      obtain ⟨W, ⟨m0, w0⟩, turn⟩ := q H3 tb
      have hwk : Room k (Aw.deeper (genEnv scope (cloFrom X.env.cells scope.names []) h3.objs.size code builtinsNs X.env)) := hrw.deeper _
      have pgY := hg Aw h3.objs.size code builtinsNs { s2 with heap := h3, toks := tk } H3 fp [(h'.objs.size, go)] hwk hgw
      have ptY := ht Aw h3.objs.size code builtinsNs { s2 with heap := h3, toks := tk } H3 fp [(h'.objs.size, go)] hwk hgw
      have peY := he Aw h3.objs.size code builtinsNs { s2 with heap := h3, toks := tk } H3 fp [(h'.objs.size, go)] hwk hgw
      have hap : Apart (gxX X Aw scope h3.objs.size code builtinsNs { s2 with heap := h3, toks := tk } H3 fp [(h'.objs.size, go)]) Sx := by
        refine ⟨Nat.le_of_lt hLS, Nat.ne_of_gt hLS, fun y cc e z => ?_⟩
        have e : (cloFrom X.env.cells scope.names []).lookup y = some cc := e
        rcases cloFrom_mem (PySem.mem_of_lookup e) with hm | ⟨h1, e1⟩
        · cases hm
        · obtain ⟨c', hc'⟩ := hfree _ h1 rfl
          rw [hc'] at e1
          obtain ⟨v, z2⟩ := J3.cell _ _ hc'
          have hlt := z2.lt
          have e2 : cc = c' := e1
          rw [← e2, z] at hlt
          exact absurd (Nat.lt_trans hlt hLS) (Nat.lt_irrefl _)
      have hfpS : ∀ b ∈ fp, b ≠ Sx ∧ b ≠ h'.objs.size := fun b hb => ⟨Nat.ne_of_lt (Nat.lt_trans (sz3 b hb) hLS), Nat.ne_of_lt (Nat.lt_trans (sz3 b hb) hLa)⟩
      have pinned : ∀ {ip : List (Addr × Obj)} {ys : List V} {s' : Shared} {σ' : L2.St} {H' : Hp}, GI (gxX X Aw scope h3.objs.size code builtinsNs { s2 with heap := h3, toks := tk } H3 fp [(h'.objs.size, go)]) Sx ip ys σ' H' s' → s'.heap.IsGen h'.objs.size s2.gens.size := fun {ip ys s' σ' H'} hI => by
        obtain ⟨acc, cc, _, J⟩ := hI
        exact hgen _ (J.pin (h'.objs.size, go) (List.mem_append_left _ (List.mem_singleton.mpr rfl))).1
      refine seg_imp (R := RG (gxX X Aw scope h3.objs.size code builtinsNs { s2 with heap := h3, toks := tk } H3 fp [(h'.objs.size, go)]) Sx cont)
        (Y := GY (gxX X Aw scope h3.objs.size code builtinsNs { s2 with heap := h3, toks := tk } H3 fp [(h'.objs.size, go)]) Sx) (fun n s₀ r s1' hR => ?_) (fun n s₀ v s1' kap kap' hkk hY => ?_) sizeLine ?_
      · obtain ⟨rfl, ys, ip, σ', H', hn, hI, hQ⟩ := hR
        obtain ⟨a1, _, _, acc, cc, ra, ea⟩ := hI.at
        obtain ⟨_, _, _, JJ⟩ := hI
        exact .inl ⟨.inr rfl, H', ys, acc, cc, JJ.os, JJ.bare, JJ.base, JJ.hok, a1, ea, ra, by omega, hQ⟩
      · obtain ⟨ys, xx, ip, σ', H', hn, h2, hI, h3'⟩ := hY
        obtain ⟨_, _, _, acc, cc, ra, ea⟩ := hI.at
        have hg' := pinned hI
        obtain ⟨_, _, _, JJ⟩ := hI
        have hszz : acc.size = ys.length := by
          have e1 := ra.length
          have e2 : acc.toList.length = acc.size := by simp
          omega
        exact ⟨JJ.os, JJ.bare, JJ.nolimit, hg', ⟨acc, cc, ea, by rw [hszz]; exact hn⟩, fun s' z => hkk _ _ (h3' s' z)⟩
      · exact seg_gx0 (Y := gxX X Aw scope h3.objs.size code builtinsNs { s2 with heap := h3, toks := tk } H3 fp [(h'.objs.size, go)]) (Aw := Aw) (a := h'.objs.size) (go := go) (fp := fp) rfl rfl hcalm G.co rfl rfl (Nat.ne_of_lt hSz) hap hfpS T pgY ptY peY turn m0 sizeLine s5 s5 H3 ⟨#[], cS, .nil, IY⟩ (T.keep _ _ _ st3 fun b _ o e => kp5 b o e) (fun b hb => (f3 b hb).1) w0 rfl
    exact main _ _ _ _ rfl rfl rfl fun h => Heap.get?_push_size _ rfl
  cases hf : codeAmong pos ps.toList with
  | none =>
    refine wpAny_genexprCodeX hcode (cd.code hPs htr) (cd.tab hPs) hf fun c' h' tk hx hge hlt hco' _ htab' _ => ?_
    obtain ⟨o1, vs, f1, tf, fl, tg', inF, tx, tt', op, _, _, _, _, _, _, _, _, _, htr', _⟩ := hco'
    exact cont' _ h' tk _ _ hx htab'.2 rfl htr'
  | some cv =>
    refine wpAny_genexprCode_hit hcode (cd.code hPs htr) hf ?_
    exact cont' cv s2.heap s2.toks ps #[] (Heap.ExtBut.refl _ _) hPs (by simp) htr
end
end Ev
end
section
set_option linter.all false
set_option Elab.async false
set_option maxRecDepth 100000
set_option maxHeartbeats 4000000
/-! G6: all that a generator expression hands out, collected; tuple(g). -/
namespace Ev
open PySem PySem.Spec PyProof.Rows L2 GenW GxR

section
variable {P : Program} {w : World} {outer : List PySem.Env} {H : Hp} {sc s : Shared} {ex : List Addr} {cont : List V → Hp → Prop} {A : Around} {k : Nat} {u : Value}
theorem collect_G {Q : List Value → Shared → Prop} {E : Value → Shared → Prop} (hr : Room (k + 2) A) (hgd : A.guards = some []) (hfr : A.frames = some outer) (h : GMadeG P w k outer H sc ex cont u s)
    (hQ : ∀ (s' : Shared) (acc : List Value) (H' : Hp) (ys : List V), Vals ys acc → ys.length ≤ sizeLine → s'.os = sc.os → AllBare s'.gens → Un (frs outer) ex H H' sc.heap s'.heap → HOk P w H' s'.heap → cont ys H' → Q acc s') :
    wpAny (model P w) A (collect u) Q E s := by
  obtain ⟨a, g, c, rfl, ha1, ha2, hg, hgs, hos, hb, hl, hkp, wake⟩ := h
  have hSa : s.heap.objs.size ≠ a := Nat.ne_of_gt ha2
  have hcl : cStatics < s.heap.objs.size := let ⟨_, hn, _⟩ := hl; hn.lt
  have hSc : s.heap.objs.size ≠ cStatics := Nat.ne_of_gt hcl
  unfold collect
  refine wpAny_bind (wpAny_runValue (codeAny_builtin PySem.F.entry_proto_collect ?_))
  rw [Around.under_plainId PySem.F.plain_proto_collect _]
  show wpAny _ A.in1 (newList [] >>= fun l => again (.builtin "list.__iadd__" ⟨[l, .ref a], []⟩)) _ _ s
  refine wpAny_bind (wpAny_newObj_type ?_ (by size_fits))
  refine wpAny_pure ⟨plainId_quiet PySem.F.plain_list_iadd _, codeAny_builtin PySem.F.entry_list_iadd ?_⟩
  rw [Around.under_plainId PySem.F.plain_list_iadd _]
  have hS : (s.heap.push { cls := .type "list", data := .seq ([] : List Value).toArray }).get? s.heap.objs.size = some { cls := .type "list", data := .seq ([] : List Value).toArray } := Heap.get?_push_size _ rfl
  have up : ∀ (h : Heap) (f : Obj → Obj), (∀ b o, s.heap.get? b = some o → h.get? b = some o) → ∀ b o, s.heap.get? b = some o → (h.update s.heap.objs.size f).get? b = some o := fun h f q b o e =>
    (Heap.get?_update_other _ _ (Ne.symm (Nat.ne_of_lt (Heap.lt_size e)))).trans (q b o e)
  have k1 : ∀ b o, s.heap.get? b = some o → (s.heap.push { cls := .type "list", data := .seq ([] : List Value).toArray }).get? b = some o := fun b o e => Heap.get?_push_of_some _ e
  have gty : ∀ {h : Heap}, (∀ b o, s.heap.get? b = some o → h.get? b = some o) → h.IsGen a g := fun {h} q => hg.keeps q
  show wpAny _ A.in1 (Builtin.List.listExtendWith (.ref s.heap.objs.size) (.ref a) (.ref s.heap.objs.size)) _ _ _
  unfold Builtin.List.listExtendWith
  refine wpAny_bind (wpAny_typeOf (Heap.IsGen.typeIs (s := { s with heap := _ }) (gty k1)) ?_)
  have h1 : Builtin.List.listSameRef (.ref s.heap.objs.size) (.ref a) = false := by simp [Builtin.List.listSameRef, hSa]
  have h2 : (Value.type "generator" == Value.type "list") = false := by decide
  have h3 : (Value.type "generator" == Value.type "tuple") = false := by decide
  simp only [h1, h2, h3, Bool.or_false, Bool.false_eq_true, if_false]
  refine wpAny_bind (wpAny_pyIter_gen (s := { s with heap := _ }) (gty k1) ?_)
  refine wpAny_bind (wpAny_holding ?_)
  unfold Builtin.List.listLengthHint
  refine wpAny_bind (wpAny_specialOf (Heap.IsGen.typeIs (s := { s with heap := _ }) (gty k1)) PySem.F.gen_no_len ?_)
  show wpAny _ A.in1 (specialOf (Value.ref a) (Str.ofString "__length_hint__") >>= _) _ _ _
  refine wpAny_bind (wpAny_specialOf (Heap.IsGen.typeIs (s := { s with heap := _ }) (gty k1)) PySem.F.gen_no_hint ?_)
  refine wpAny_pure ?_
  show wpAny _ A.in1 (rule "list.extend.makes-room" >>= fun _ => Builtin.List.listTouch (.ref s.heap.objs.size) >>= fun _ =>
    again (.builtin "list.extend.loop" ⟨[.ref s.heap.objs.size, .ref a, .ref s.heap.objs.size], []⟩)) _ _ _
  refine wpAny_bind (wpAny_rule ?_)
  refine wpAny_bind ?_
  show wpAny _ A.in1 (updateSeq s.heap.objs.size (·.push .none) >>= fun _ => updateSeq s.heap.objs.size (·.pop)) _ _ _
  refine wpAny_bind (wpAny_updateSeq hS rfl ?_)
  have hS3 := Heap.get?_update_self (Obj.mapSeq (·.push Value.none)) hS rfl
  refine wpAny_updateSeq (hz := by seq_fits) hS3 rfl ?_
  have hS4 := Heap.get?_update_self (Obj.mapSeq (·.pop)) hS3 rfl
  have k4 := up _ (Obj.mapSeq (·.pop)) (up _ (Obj.mapSeq (·.push Value.none)) k1)
  refine wpAny_pure ⟨plainId_quiet PySem.F.plain_extend_loop _, ?_⟩
  refine drain (P := P) (w := w) (outer := outer) (H := H) (sc := sc) (ex := ex) (Q := cont) (EX := fun _ _ _ => False) (A := A) (g := g) hr.hd (by have := hr.dp; show A.depth < _; omega) hSa hSc
    (fun s' acc c H' ys q1 q2 q3 q4 q5 q6 q7 q8 q9 => ?_) (fun e s' hc => ?_)
    sizeLine _ (gty k4) (hl.keeps k4) ⟨_, hgs, rfl, ?_⟩
  · show wpAny _ A (load s.heap.objs.size >>= _) _ _ s'
    refine wpAny_bind (wpAny_load q1 ?_)
    exact wpAny_pure (hQ s' acc.toList H' ys q2 q3 q4 q5 q6 q7 q9)
  · obtain ⟨a, B, H', cls, d, rfl, fl, _, _, _, _, _, hW⟩ := hc
    exact hW.elim
  · refine wake _ _ _ ⟨hr.hd, ?_, ?_⟩ hgd hfr (Nat.le_refl _) k4 ⟨_, hS4⟩ hos (allBare_setGen (s := { s with heap := _ }) hb rfl)
    · have := hr.dp
      show A.depth + 3 * k + 5 < _
      omega
    · have := hr.un
      show A.units + 1 + 1 + 16 * k + 200 < _
      omega
theorem gmade_ty (h : GMadeG P w k outer H sc ex cont u s) : s.TypeIs u "generator" := by
  obtain ⟨a, g, c, rfl, _, _, hg, _⟩ := h
  exact hg.typeIs
theorem gmade_ref (h : GMadeG P w k outer H sc ex cont u s) : ∃ a, u = .ref a := by
  obtain ⟨a, g, c, rfl, _⟩ := h
  exact ⟨a, rfl⟩
theorem room_in1 {j : Nat} {B : Around} (r : Room (j + 1) B) : Room j B.in1 := r.in1
theorem code_tuple_new_G {Q₁ : Value → Shared → Prop} {E : Value → Shared → Prop} (hr : Room (k + 3) A) (hgd : A.guards = some []) (hfr : A.frames = some outer) (h : GMadeG P w k outer H sc ex cont u s)
    (hQ : ∀ (s' : Shared) (acc : List Value) (H' : Hp) (ys : List V), Vals ys acc → ys.length ≤ sizeLine → s'.os = sc.os → AllBare s'.gens → Un (frs outer) ex H H' sc.heap s'.heap → HOk P w H' s'.heap → cont ys H' → Q₁ (.ref s'.heap.objs.size) { s' with heap := s'.heap.push { cls := .type "tuple", data := .seq acc.toArray } }) :
    codeAny (model P w) A (.call (.builtin "tuple.__new__") ⟨[.type "tuple", u], []⟩) (wants Q₁ E) s := by
  have hTI := gmade_ty h
  obtain ⟨a, rfl⟩ := gmade_ref h
  refine codeAny_of_tree ?_
  show wpAny _ A.in1 (do checkBuiltinCall "tuple.__new__" ⟨[.type "tuple", .ref a], []⟩; again (.builtin "tuple.__new__" ⟨[.type "tuple", .ref a], []⟩)) _ _ s
  refine wpAny_bind (wpAny_of_eq (PySem.F.newCall_tuple_1 _) (wpAny_pure ⟨plainId_quiet PySem.F.plain_tuple_new _, codeAny_builtin PySem.F.entry_tuple_new ?_⟩))
  rw [Around.under_plainId PySem.F.plain_tuple_new _]
  have hsub := sub_tuple_self
  have hinit := init_tuple_lookup
  have hmh := madeHere_tuple
  have hr1 : Room (k + 2) A.in1 := hr.in1
  wp_walk using wpAny_typeOf hTI, collect_G hr1 hgd hfr h
  intro s' acc H' ys hv hle hos hb hun hok hc
  show wpAny _ _ (Builtin.Tuple.tupleExact acc.toArray >>= fun v => ret v) _ _ _
  unfold Builtin.Tuple.tupleExact
  refine wpAny_bind (wpAny_newObj_type ?_ (by show acc.toArray.size ≤ sizeLine; rw [List.size_toArray, ← hv.length]; exact hle))
  exact wpAny_pure (hQ s' acc H' ys hv hle hos hb hun hok hc)
theorem call_tuple_G {Q : Value → Shared → Prop} {E : Value → Shared → Prop} (hr : Room (k + 4) A) (hgd : A.guards = some []) (hfr : A.frames = some outer) (h : GMadeG P w k outer H sc ex cont u s)
    (hQ : ∀ (s' : Shared) (acc : List Value) (H' : Hp) (ys : List V), Vals ys acc → ys.length ≤ sizeLine → s'.os = sc.os → AllBare s'.gens → Un (frs outer) ex H H' sc.heap s'.heap → HOk P w H' s'.heap → cont ys H' → Q (.ref s'.heap.objs.size) { s' with heap := s'.heap.push { cls := .type "tuple", data := .seq acc.toArray } }) :
    wpAny (model P w) A (call (.type "tuple") [u]) Q E s := by
  refine callType_codes (Q₁ := fun obj s₁ => s₁.TypeIs obj "tuple" ∧ Q obj s₁) PySem.F.called_tuple (PySem.F.typeCall_tuple_1 _) PySem.F.entry_object_init
    (code_tuple_new_G (A := A.in1) hr.in1 hgd hfr h fun s' acc H' ys hv hle hos hb hun hok hc => ⟨⟨_, Heap.get?_push_size _ rfl, rfl⟩, hQ s' acc H' ys hv hle hos hb hun hok hc⟩) fun obj s₁ h₁ => ?_
  exact ⟨h₁.1, PySem.F.args_object_init_2 obj _, PySem.object_init_meets PySem.F.called_tuple.init.lookup PySem.F.called_tuple.made (by decide) P w A.in1 _ s₁ ⟨h₁.1, rfl, h₁.2⟩⟩
end
end Ev
end
section
set_option linter.all false
set_option Elab.async false
set_option maxRecDepth 100000
set_option maxHeartbeats 4000000
/-! G7: sorted(g), tuple(g), list(g) by values. -/
namespace Ev
open PySem PySem.Spec PyProof.Rows L2 GenW

section
variable {X : Cx} {fa : Fa} {rho : List Addr} {H : Hp} {S : Sto} {pins : List (Addr × Obj)} {σ : L2.St}
end
end Ev
end
section
set_option linter.all false
set_option Elab.async false
set_option maxRecDepth 100000
set_option maxHeartbeats 4000000
/-! G8: tuple(g), sorted(g), list(g) as expressions. -/
namespace Ev
open PySem PySem.Spec PyProof.Rows L2 GenW GxR

/-- an expression whose value is a generator expression -/
structure PGx (X : Cx) (k : Nat) (e : Expr) (tg : TGen) : Prop where
  run : ∀ (pins : List (Addr × Obj)) (s : Shared) (σ : L2.St) (H : Hp) (cont : List V → Hp → Prop), Inv X pins σ H s → tg σ H cont → wpAny (model X.prog X.w) X.A (eval e X.env)
    (fun u s' => ∃ H1 st ex, Inv X pins σ H1 st ∧ ExOk X pins ex ∧ GMadeG X.prog X.w k X.stack H1 st ex cont u s') X.xe s
section
variable {X : Cx} {pins : List (Addr × Obj)} {σ : L2.St} {H : Hp} {k : Nat} {tg : TGen} {e : Expr}
theorem Inv.ran {H' : Hp} {st s' : Shared} {ex : List Addr} (I : Inv X pins σ H st) (hex : ExOk X pins ex) (os : s'.os = st.os) (hb : AllBare s'.gens) (un : Un (frs X.stack) ex H H' st.heap s'.heap) (hok : HOk X.prog X.w H' s'.heap) : Inv X pins σ H' s' :=
  I.call' (ch := ex) os un hok hb hex
def tTupG (tg : TGen) : TE := fun σ H Q => tg σ H fun ys H' => ∀ a, H' a = none → Q (.ref a) (upd H' a (.tup ys))
theorem pe_tupG {p pos : Pos} (h : PGx X k e tg) (hr : Room (k + 4) X.A) (hgd : X.A.guards = some []) (hg : Gl X "tuple") (hm : X.mg "tuple" = none) (he : starEach [e] X.env = (false, eval e X.env) :: starEach [] X.env) :
    PE X (.Call (.Name "tuple" p) [e] [] pos) (tTupG tg) := by
  refine ⟨fun pins s σ H Q I hq => ?_⟩
  refine Call_ (ld_blt I hg hm (by decide +kernel : bootBuiltins "tuple" = some (.type "tuple")) (PyProof.Rows.callWith_type1 ?_ he rfl))
  rw [he]
  show wpAny _ _ (spliced ((false, eval e X.env) :: backTo pos (starEach [] X.env))) _ _ s
  refine Calls.spliced_cons (thn (h.run pins s σ H _ I hq) fun u s1 ⟨H1, st, ex, I1, hex, hG⟩ => ?_)
  refine Calls.spliced_nil ?_
  refine call_tuple_G hr hgd I1.ok.frames hG fun s' acc H' ys hv hle hos hb hun hok hc => ?_
  have J := Inv.ran I1 hex hos hb hun hok
  refine ⟨.ref s'.heap.objs.size, _, J.laid (t' := s'.toks) (o := .tup ys) (fun b o e => Heap.get?_push_of_some _ e) (Nat.le_refl _) ?_, rfl, hc _ (J.hok.fresh (Nat.le_refl _))⟩
  exact ⟨hle, acc, hv, IsTup.new _ _⟩
def tSortG (tg : TGen) : TE := fun σ H Q => tg σ H fun ys H' => ∃ (fa : Fa) (rho : List Addr) (xs : List D), RL fa rho H' xs ys ∧ sortOk xs = true ∧ ∀ ws a, H' a = none → RL fa rho H' (xs.mergeSort sortLeD) ws → Q (.ref a) (upd H' a (.lst ws))
theorem pe_sortG {p pos : Pos} (h : PGx X k e tg) (hr : Room (k + 4) X.A) (hgd : X.A.guards = some []) (hg : Gl X "sorted") (hm : X.mg "sorted" = none) (he : starEach [e] X.env = (false, eval e X.env) :: starEach [] X.env) :
    PE X (.Call (.Name "sorted" p) [e] [] pos) (tSortG tg) := by
  refine ⟨fun pins s σ H Q I hq => ?_⟩
  refine wpAny_Call_Name_kw (ld_blt I hg hm (by decide +kernel : bootBuiltins "sorted" = some (.builtin "sorted")) ?_)
  refine PyProof.Rows.callWith_builtin1 ?_ he (by rfl)
  rw [he]
  show wpAny _ _ (spliced ((false, eval e X.env) :: backTo pos (starEach [] X.env))) _ _ s
  refine Calls.spliced_cons (thn (h.run pins s σ H _ I hq) fun u s1 ⟨H1, st, ex, I1, hex, hG⟩ => ?_)
  refine Calls.spliced_nil ?_
  refine Calls.call_function_entry kind_sorted plain_sorted entry_sorted (args_sorted1 _) ?_
  unfold Builtin.«sorted»
  refine wpAny_bind (m := checkCount "sorted" 1 1 _) (wpAny_pure ?_)
  have hr1 : Room (k + 2) X.A.in1 := (hr.mono (show k + 2 + 1 ≤ k + 4 by omega)).in1
  refine wpAny_bind (collect_G (A := X.A.in1) hr1 hgd I1.ok.frames hG fun s' acc H' ys hv hle hos hb hun hok hc => ?_)
  have J := Inv.ran I1 hex hos hb hun hok
  obtain ⟨fa, rho, xs, rl, hs, q⟩ := hc
  refine wpAny_bind (wpAny_newList ?_ (by rw [← hv.length]; exact hle))
  refine wpAny_bind (wpAny_holding (sort_new (by have := hr.un; show X.A.units + 1 + 100 < _; omega) J rl hv hs hle fun ws s2 J2 hfree hrl => ?_))
  exact wpAny_pure ⟨_, rfl, .ref s'.heap.objs.size, _, J2, rfl, q ws _ hfree hrl⟩
end
end Ev
end
section
set_option linter.all false
set_option Elab.async false
set_option maxRecDepth 100000
set_option maxHeartbeats 2000000
/-! E15: the check of statements; which assignments swap. -/
namespace Ev
open PySem PySem.Spec PyProof.Rows L2

/-! ### values that are told on the way -/
def noSw (sc : Scope) (e : Expr) (tg : Option Expr) : Bool := match e with
  | .ListComp .. | .SetComp .. | .DictComp .. => (match tg with
    | some (.Name y _) => !(sc.names.lookup y == some .local)
    | _ => false)
  | _ => true
theorem noSw_ok {sc : Scope} {e : Expr} {tg : Option Expr} {n : Nat} {env : PySem.Env} (he : env.scope = sc) (h : noSw sc e tg = true) : swapsWith e tg n env = pure false := by
  unfold noSw at h
  have name : ∀ {y : Str} {p : Pos} {scope : Scope} {value : Expr}, (sc.names.lookup y == some NameKind.local) = false →
      (pure (env.blockKind == .function && env.kindOf y == some .local && p.line == value.pos.line && !(scope.names.any fun (n, k) => n == y && (k == .local || k == .cell))) : Sem Bool) = pure false := by
    intro y p scope value hy
    have : (env.kindOf y == some NameKind.local) = false := by unfold PySem.Env.kindOf; rw [he]; exact hy
    rw [this, Bool.and_false, Bool.false_and, Bool.false_and]
  split at h
  · split at h
    · unfold swapsWith; exact name (by simpa using h)
    · cases h
  · split at h
    · unfold swapsWith; exact name (by simpa using h)
    · cases h
  · split at h
    · unfold swapsWith; exact name (by simpa using h)
    · cases h
  · rename_i h1 h2 h3
    unfold swapsWith
    cases e <;> first
      | rfl
      | exact absurd rfl (h1 _ _ _ _)
      | exact absurd rfl (h2 _ _ _ _)
      | exact absurd rfl (h3 _ _ _ _ _)

/-! ### stores that swap -/
def swNames (sc : Scope) (ts : List Expr) : List Str := ts.filterMap fun
  | .Name id pos => if sc.names.lookup id == some .local && pos.line == ((ts.head?.map (·.pos.line)).getD 0) then some id else none
  | _ => none
def swNone (sc : Scope) (ts vs : List Expr) : Bool :=
  !(ts.length == 2 || ts.length == 3) || vs.length != ts.length || ((swNames sc ts).length != ts.length || (swNames sc ts).eraseDups.length != (swNames sc ts).length) || vs.all (foldedForSure 8)
def swSome (sc : Scope) (ts vs : List Expr) : Bool :=
  (ts.length == 2 || ts.length == 3) && vs.length == ts.length && (match sc.kind with | .function => true | _ => false) && !(vs.any isStar) && !((swNames sc ts).length != ts.length || (swNames sc ts).eraseDups.length != (swNames sc ts).length) && !vs.all (foldedForSure 8) && !vs.all (constantsAlone 8)
theorem star_eq (vs : List Expr) : (vs.any fun | .Starred .. => true | _ => false) = vs.any isStar := by
  congr 1
theorem swNone_ok {sc : Scope} {ts vs : List Expr} {a1 a2 : Nat} {p1 p2 : Pos} {env : PySem.Env} (he : env.scope = sc) (h : swNone sc ts vs = true) : swappedStores [.Tuple ts a1 p1] (.Tuple vs a2 p2) env = pure none := by
  subst he
  have hn : (ts.filterMap fun | .Name id pos => if env.kindOf id == some .local && pos.line == ((ts.head?.map (·.pos.line)).getD 0) then some id else none | _ => none) = swNames env.scope ts := rfl
  unfold swappedStores
  simp only [hn]
  unfold swNone at h
  simp only [Bool.or_eq_true] at h
  by_cases c1 : ((!(ts.length == 2 || ts.length == 3) || vs.length != ts.length || env.blockKind != .function) = true)
  · rw [if_pos c1]
  · rw [if_neg c1]
    show (if _ then _ else _) = _
    split
    · rfl
    · show (if ((swNames env.scope ts).length != ts.length || (swNames env.scope ts).eraseDups.length != (swNames env.scope ts).length) = true then _ else _) = _
      by_cases c2 : ((swNames env.scope ts).length != ts.length || (swNames env.scope ts).eraseDups.length != (swNames env.scope ts).length) = true
      · rw [if_pos c2]
      · rw [if_neg c2]
        show (if vs.all (foldedForSure 8) = true then _ else _) = _
        by_cases c3 : vs.all (foldedForSure 8) = true
        · rw [if_pos c3]
        · exfalso
          simp only [Bool.or_eq_true, not_or] at c1 c2
          rcases h with ((h | h) | h) | h
          · exact c1.1.1 h
          · exact c1.1.2 h
          · exact h.elim c2.1 c2.2
          · exact c3 h
theorem swSome_ok {sc : Scope} {ts vs : List Expr} {a1 a2 : Nat} {p1 p2 : Pos} {env : PySem.Env} (he : env.scope = sc) (h : swSome sc ts vs = true) : swappedStores [.Tuple ts a1 p1] (.Tuple vs a2 p2) env = pure (some (swNames sc ts)) := by
  subst he
  have hn : (ts.filterMap fun | .Name id pos => if env.kindOf id == some .local && pos.line == ((ts.head?.map (·.pos.line)).getD 0) then some id else none | _ => none) = swNames env.scope ts := rfl
  unfold swSome at h
  simp only [Bool.and_eq_true, Bool.not_eq_true'] at h
  obtain ⟨⟨⟨⟨⟨⟨h1, h2⟩, h3⟩, h4⟩, h5⟩, h6⟩, h7⟩ := h
  have hk : env.scope.kind = .function := by
    split at h3
    · assumption
    · cases h3
  have hb : (env.blockKind != .function) = false := by unfold PySem.Env.blockKind; rw [hk]; rfl
  have hv : (vs.length != ts.length) = false := by simpa using h2
  unfold swappedStores
  simp only [hn]
  rw [if_neg (by rw [h1, hv, hb]; decide)]
  show (if (vs.any fun | .Starred .. => true | _ => false) = true then _ else _) = _
  rw [star_eq, h4]
  show (if ((swNames env.scope ts).length != ts.length || (swNames env.scope ts).eraseDups.length != (swNames env.scope ts).length) = true then _ else _) = _
  rw [h5]
  show (if vs.all (foldedForSure 8) = true then _ else _) = _
  rw [h6]
  show (if vs.all (constantsAlone 8) = true then _ else _) = _
  rw [h7]
  rfl
/-- no stores of this assignment swap -/
def noPar (sc : Scope) (tg e : Expr) : Bool := match tg, e with
  | .Tuple ts _ _, .Tuple vs _ _ => swNone sc ts vs
  | .List _ _, .Tuple _ _ _ => false
  | _, _ => true
theorem noPar_ok {sc : Scope} {tg e : Expr} {env : PySem.Env} (he : env.scope = sc) (h : noPar sc tg e = true) : swappedStores [tg] e env = pure none := by
  unfold noPar at h
  split at h
  · exact swNone_ok he h
  · cases h
  · rename_i h1 h2
    unfold swappedStores
    cases tg <;> first
      | rfl
      | (cases e <;> first | rfl | exact absurd rfl (h1 _ _ _ _ _ _ rfl) | exact absurd rfl (h2 _ _ _ _ _ rfl))
theorem asg_one {tg : Expr} {env : PySem.Env} (h : isStar tg = false) : List.map (fun x => x.2) (assignEach [tg] env) = [assign tg env] := by
  rw [asg_cons h]; rfl
end Ev
end
section
set_option linter.all false
set_option Elab.async false
set_option maxRecDepth 100000
set_option maxHeartbeats 4000000
/-! E20: tuple(g), sorted(g) by values. -/
namespace Ev
open PySem PySem.Spec PyProof.Rows L2
section
variable {fa : Fa} {rho : List Addr} {H H' : Hp} {S : Sto} {P : Addr}
/-- a table has grown -/
theorem Ext.tab (s : SR fa rho H S) (t : fa.tb P) (h : GxR.Tabbed P H H') : Ext rho H rho H' := by
  refine ⟨⟨[], by simp, by simp⟩, fun b o hb q => ?_⟩
  by_cases e : b = P
  · subst e
    obtain ⟨ps, e1, _⟩ := s.tb b t
    obtain ⟨⟨ps', e2, _⟩, _⟩ := h
    rw [e1] at q
    cases q
    exact ⟨_, e2, .inr ⟨ps, ps', rfl, rfl⟩⟩
  · exact ⟨o, by rw [h.2 b e]; exact q, .inl rfl⟩
theorem SR.tab (s : SR fa rho H S) (t : fa.tb P) (h : GxR.Tabbed P H H') : SR fa rho H' S := by
  refine ⟨s.len, s.nd, fun n c e => ?_, fun a ha => ?_, fun Q tq => ?_⟩
  · obtain ⟨a, ea, r⟩ := s.cell n c e
    exact ⟨a, ea, r.mono (Ext.tab s t h) (h.2 a (Ne.symm (s.tb_out (List.mem_of_getElem? ea) t)))⟩
  · obtain ⟨h1, h2, h3⟩ := s.pv a ha
    refine ⟨h1, ?_, h3⟩
    rw [h.2 a (fun z => h3 (z ▸ t))]
    exact h2
  · by_cases e : Q = P
    · rw [e]; exact h.1
    · obtain ⟨ps, e1, r⟩ := s.tb Q tq
      exact ⟨ps, by rw [h.2 Q e]; exact e1, r⟩
end
theorem gxC_ok {scope : Scope} (h : gxC scope = true) : GxS scope := by
  unfold gxC at h
  simp only [Bool.and_eq_true, Bool.not_eq_true', decide_eq_true_eq, List.all_eq_true] at h
  refine ⟨h.1.1, fun y hy e => ?_, h.2⟩
  have := h.1.2 y hy
  rw [e] at this
  cases this
theorem noFold {iter : Expr} {env : PySem.Env} (h : isSet iter = false) (h' : isLstE iter = false) (x : Value) : genFold iter env x = pure x := by
  cases iter <;> first | rfl | (cases h; done) | (simp [isLstE] at h')
section
variable {pg : Pg} {fa : Fa} {F : FnT} {k j : Nat} {G : Gam} {X : Cx}
theorem OkX.gx (o : OkX pg fa F k j G X) {Aw : Around} {scope : Scope} {L bi : Addr} {code : Value} {st : Shared} {H : Hp} {fp : List Addr} {pn : List (Addr × Obj)} {j' : Nat} (hr : Room (k + j') (Aw.deeper (genEnv scope (cloFrom X.env.cells scope.names []) L code bi X.env))) (hg : Aw.guards = some []) :
    OkX pg fa F k j' (G.gx scope) (gxX X Aw scope L code bi st H fp pn) :=
  ⟨rfl, rfl, o.N, o.nd, o.calm, hg, hr, o.blt, o.fns, o.all, fun z => by cases z⟩
theorem se_gn (ok : OkX pg fa F k j G X) {ev : Ev.CE → Loc → Sto → R3 D} {ck ck' : Expr → Ev.CE → Bool} {n : Nat} {mu : Bool} {b : Bi} {elt tg iter : Expr} {ifs : List Expr} {scope : Scope} {own : List Nat} {t : CT} {it : CI} {cs : List Ev.CE} {y : Ev.CE} {p pos gpos : Pos}
    (hs : ∀ e c, ck e c = true → SEv fa X (ev c) e)
    (hb : ∀ (X' : Cx), OkX pg fa F k 2 (G.gx scope) X' → ∀ e c, ck' e c = true → SEv fa X' (ev c) e ∧ STv fa X' (ev c) e)
    (hgen : G.gen = true) (hnl : isLstE iter = false) (hbi : genBi b = true) (hgl : glo G.sc (biName b) = true) (hgx : gxC scope = true)
    (h1 : blkC G.N G.sc scope (ownOf G.N own) = true) (h2 : (ctSlots t).all (fun i => own.contains i) = true) (h3 : chkT (G.gx scope) n tg t = true) (h4 : chkI G ck t iter it = true) (h5 : chkL ck' ifs cs = true) (h6 : ck' elt y = true) :
    SEv fa X (fun l S => (evI ev it l S).bind fun J S1 => (evC ev J t cs y (wipeL l own) turns 0 S1 []).bind fun xs S2 => match biD S2 b [.lst xs] with
      | some d => mkR mu d S2
      | none => .stuck) (.Call (.Name (biName b) p) [.GeneratorExp elt [⟨tg, iter, ifs, 0⟩] scope gpos] [] pos) := by
  intro l S d S' rho0 σ H0 Q h L s0 q
  obtain ⟨J, S1, e1, h⟩ := bind_ok h
  obtain ⟨xs, S2, e2, h⟩ := bind_ok h
  obtain ⟨hj, c, P, hcode, TB, htb⟩ := ok.tab hgen
  have hblk : BlkOk X.N X.env.scope scope (ownOf G.N own) := by rw [ok.N, ok.sc]; exact blkOk_by h1
  have hNd : X.N.Nodup := by rw [ok.N]; exact ok.nd
  -- the generator
  let g : TG := fun v σ H Q => ∀ (Aw : Around) (L : Addr) (code : Value) (bi : Addr) (st : Shared) (H1 : Hp) (fp : List Addr) (pn : List (Addr × Obj)), Room (k + 2) (Aw.deeper (genEnv scope (cloFrom X.env.cells scope.names []) L code bi X.env)) → Aw.guards = some [] → tG (gxX X Aw scope L code bi st H1 fp pn) tg v σ H Q
  let tt : TT := fun σ H Q => ∀ (Aw : Around) (L : Addr) (code : Value) (bi : Addr) (st : Shared) (H1 : Hp) (fp : List Addr) (pn : List (Addr × Obj)), Room (k + 2) (Aw.deeper (genEnv scope (cloFrom X.env.cells scope.names []) L code bi X.env)) → Aw.guards = some [] → tTs (gxX X Aw scope L code bi st H1 fp pn) ifs σ H Q
  let te : TE := fun σ H Q => ∀ (Aw : Around) (L : Addr) (code : Value) (bi : Addr) (st : Shared) (H1 : Hp) (fp : List Addr) (pn : List (Addr × Obj)), Room (k + 2) (Aw.deeper (genEnv scope (cloFrom X.env.cells scope.names []) L code bi X.env)) → Aw.guards = some [] → tE (gxX X Aw scope L code bi st H1 fp pn) elt σ H Q
  have pgx : PGx X (k + 2 + 1) (.GeneratorExp elt [⟨tg, iter, ifs, 0⟩] scope gpos) (tGx P (tI X tg iter) g tt te own) := by
    refine ⟨fun pins s σ H cont I hq => ?_⟩
    have hq' : tGx P (tI X tg iter) g tt te ((ownOf G.N own).map (·.2)) σ H cont := by rw [own_map]; exact hq
    exact gx_made (ok.room.mono (by omega)) ok.calm TB hcode (gxC_ok hgx) hblk hNd (pi_max tg iter) (noFold (chkI_noSet h4) hnl)
      (fun Aw L code bi st H fp pn r1 r2 => ⟨fun pins s σ H v u Q I r h => h Aw L code bi st _ fp pn r1 r2 pins s u I r⟩)
      (fun Aw L code bi st H fp pn r1 r2 => ⟨fun pins s σ H Q I h => h Aw L code bi st _ fp pn r1 r2 pins s I⟩)
      (fun Aw L code bi st H fp pn r1 r2 => ⟨fun pins s σ H Q I h => h Aw L code bi st _ fp pn r1 r2 pins s I⟩) I hq'
  -- its run
  have key : ∀ cont : List V → Hp → Prop, (∀ rho' H' ys, Ext rho0 H0 rho' H' → SR fa rho' H' S2 → RL fa rho' H' xs ys → cont ys H') → tGx P (tI X tg iter) g tt te own σ H0 cont := by
    intro cont hc
    refine si_of ok hs h4 h3 _ _ _ _ _ _ _ _ e1 L s0 fun rho1 H1 Jt x1 s1 itr => ?_
    refine ⟨s1.tb P htb, fun H2 tb => ?_⟩
    have x2 := Ext.tab s1 htb tb
    have s2 := s1.tab htb tb
    have LB : LR fa rho1 H1 (wipeL l own) (L2.wipe σ own) := (L.mono x1).wipe own
    have main : ∃ W : Nat → Nat → List V → Hp → Prop, W = fun i m ys H => ∃ rho S acc, Ext rho1 H1 rho H ∧ SR fa rho H S ∧ RL fa rho H acc.reverse ys ∧ evC ev J t cs y (wipeL l own) m i S acc = .ok xs S2 := ⟨_, rfl⟩
    obtain ⟨W, hW⟩ := main
    refine ⟨W, ⟨turns, by rw [hW]; exact ⟨rho1, S1, [], x2, s2, .nil, e2⟩⟩, fun i m ys H w => ?_⟩
    rw [hW] at w
    obtain ⟨rho, Sx, acc, xx, sx, rx, ex⟩ := w
    obtain ⟨it1, it2⟩ := itr fa i rho H Sx ⟨⟨rfl, rfl⟩, fun a z => .inl z⟩ xx sx
    cases m with
    | zero => simp [evC] at ex
    | succ m =>
      simp only [evC] at ex
      split at ex
      · cases ex
      · rename_i ea
        cases ex
        exact .inl ⟨it1 ea, hc rho H ys (x1.trans s1 xx) sx rx⟩
      · rename_i d1 ea
        obtain ⟨hgo, hy⟩ := it2 d1 ea
        refine .inr ⟨hgo, fun ys' H' => W (i + 1) m ys' H', fun ys' H' w => ⟨m, Nat.lt_succ_self _, w⟩, fun v H' hyl => ?_⟩
        obtain ⟨x3, s3, r3⟩ := hy v H' hyl
        split at ex
        · cases ex
        · rename_i l1 el
          intro Aw L1 code bi st Ha fp pn r1 r2
          have okb : OkX pg fa F k 2 (G.gx scope) (gxX X Aw scope L1 code bi st Ha fp pn) := ok.gx r1 r2
          refine sg_of okb n h3 el (LB.mono (xx.trans sx x3)) s3 r3 fun σ2 L2' hw => ?_
          refine ⟨(hw own fun i hi => by have := List.all_eq_true.mp h2 i hi; simpa using this).trans wipe_idem, fun Aw L1 code bi st Ha fp pn r1 r2 => ?_⟩
          have okb : OkX pg fa F k 2 (G.gx scope) (gxX X Aw scope L1 code bi st Ha fp pn) := ok.gx r1 r2
          obtain ⟨bb, S3, e3, ex⟩ := bind_ok ex
          refine sts_of (fun e c hc => (hb _ okb e c hc).2) h5 _ _ _ _ _ _ _ _ e3 L2' s3 fun rho4 H4 x4 s4 => ?_
          have x34 := x3.trans s3 x4
          cases bb with
          | false =>
            rw [if_neg (by decide)]
            rw [if_neg (by decide)] at ex
            rw [hW]
            exact ⟨rho4, S3, acc, xx.trans sx x34, s4, rx.mono x34, ex⟩
          | true =>
            rw [if_pos rfl]
            rw [if_pos rfl] at ex
            obtain ⟨dy, S4, e4, ex⟩ := bind_ok ex
            split at ex
            · rename_i hlt
              intro Aw L1 code bi st Ha fp pn r1 r2
              have okb : OkX pg fa F k 2 (G.gx scope) (gxX X Aw scope L1 code bi st Ha fp pn) := ok.gx r1 r2
              refine (hb _ okb elt y h6).1 _ _ _ _ _ _ _ _ e4 (L2'.mono x4) s4 fun rho5 H5 u x5 s5 r5 => ?_
              have x35 := x34.trans s4 x5
              refine ⟨by rw [← rx.length, List.length_reverse]; exact hlt, ?_⟩
              rw [hW]
              refine ⟨rho5, S4, dy :: acc, xx.trans sx x35, s5, ?_, ex⟩
              rw [List.reverse_cons]
              exact (rx.mono x35).append (.cons r5 .nil)
            · cases ex
  have g0 := gl_of ok hgl
  cases b with
  | tuple =>
    simp only [biD, D.read] at h
    obtain ⟨rfl, rfl⟩ := mkR_same h (by intro xs e; cases e)
    refine tE_of (pe_tupG pgx (ok.room.mono (by omega)) ok.gd g0 (ok.blt "tuple" (by decide)) (star_cons rfl)) (key _ fun rho' H' ys x s r a ha => ?_)
    exact (q.mono x s).tup s r ha
  | sorted =>
    simp only [biD, D.read] at h
    split at h
    · rename_i dd hd
      split at hd
      · rename_i hso
        cases hd
        refine tE_of (pe_sortG pgx (ok.room.mono (by omega)) ok.gd g0 (ok.blt "sorted" (by decide)) (star_cons rfl)) (key _ fun rho' H' ys x s r => ?_)
        exact ⟨fa, rho', xs, r, hso, fun ws a ha hr => by rw [← sortD_eq] at hr; exact mk_ok h s hr ha (q.mono x s)⟩
      · cases hd
    · cases h
  | _ => cases hbi
end
end Ev
end
section
set_option linter.all false
set_option Elab.async false
set_option maxRecDepth 100000
set_option maxHeartbeats 4000000
/-! E16: all expressions of the text are sound. -/
namespace Ev
open PySem PySem.Spec PyProof.Rows L2
def isBoolE : Expr → Bool
  | .BoolOp .. => true
  | _ => false
def SAll (fa : Fa) (X : Cx) (ev : Loc → Sto → R3 D) (e : Expr) : Prop := SEv fa X ev e ∧ STv fa X ev e ∧ (isBoolE e = true → SWv fa X ev e)
section
variable {pg : Pg} {fa : Fa} {F : FnT} {k j : Nat} {G : Gam} {X : Cx}
theorem sall_plain {ev : Loc → Sto → R3 D} {e : Expr} (hp : isPlainT e = true) (h : SEv fa X ev e) : SAll fa X ev e := ⟨h, st_plain hp h, fun z => by cases e <;> simp [isBoolE, isPlainT] at z hp⟩
def ArOk (pg : Pg) (F : FnT) : Prop := ∀ f ds S d S', F f ds S = .ok d S' → (pg.prs[f]?.map List.length) = some ds.length
theorem blk_ne {N : List Str} {sc scope : Scope} {own : List (Str × Nat)} (h : blkC N sc scope own = true) : True := trivial
theorem sound (hF : ArOk pg F) : ∀ (n : Nat) {j : Nat} {fa : Fa} {G : Gam} {X : Cx}, OkX pg fa F k j G X → ∀ e c, chkE pg n G e c = true → SAll fa X (evE F n c) e := by
  intro n
  induction n with
  | zero => intro j fa G X ok e c h; simp [chkE] at h
  | succ n ih =>
    intro j fa G X ok e c h
    have hs : ∀ e c, chkE pg n G e c = true → SEv fa X (evE F n c) e := fun e c h => (ih ok e c h).1
    have ht : ∀ e c, chkE pg n G e c = true → STv fa X (evE F n c) e := fun e c h => (ih ok e c h).2.1
    unfold chkE at h
    split at h
    · rename_i x p i
      simp only [Bool.and_eq_true, decide_eq_true_eq] at h
      exact sall_plain rfl (se_var ok h.1.1 h.1.2 h.2)
    · rename_i x p f
      simp only [Bool.and_eq_true, decide_eq_true_eq] at h
      exact sall_plain rfl (se_fun ok h.1.1 h.1.2 h.2)
    · rename_i cc i p d
      split at h
      · rename_i d' e
        obtain rfl := D.beq_eq h
        exact sall_plain rfl (se_const e)
      · cases h
    · rename_i es a p cs
      exact sall_plain rfl (se_tup (sl_of hs h))
    · rename_i es p mu cs
      exact sall_plain rfl (se_lst (sl_of hs h))
    · rename_i ks vs p kk cs
      simp only [Bool.and_eq_true, decide_eq_true_eq] at h
      exact sall_plain rfl (se_dct hs h.1.1.1.1 h.1.1.1.2 h.1.1.2 h.1.2 h.2)
    · rename_i a op b p o x y
      simp only [Bool.and_eq_true] at h
      exact sall_plain rfl (se_bin h.1.1 (hs _ _ h.1.2) (hs _ _ h.2))
    · rename_i a p x
      exact sall_plain rfl (se_neg (hs _ _ h))
    · rename_i a p x
      exact ⟨se_not (hs _ _ h), st_not (ht _ _ h), fun z => by cases z⟩
    · rename_i a op b p o x y
      simp only [Bool.and_eq_true, Bool.not_eq_true'] at h
      exact ⟨se_cmp ok h.1.1.1 h.2 (hs _ _ h.1.1.2) (hs _ _ h.1.2), st_cmp ok h.1.1.1 h.2 (hs _ _ h.1.1.2) (hs _ _ h.1.2), fun z => by cases z⟩
    · rename_i a op op' b c p o o' x y z
      simp only [Bool.and_eq_true, Bool.not_eq_true'] at h
      obtain ⟨⟨⟨⟨⟨⟨h1, h2⟩, h3⟩, h4⟩, h5⟩, h6⟩, h7⟩ := h
      exact ⟨se_chain ok h1 h2 h6 h7 (hs _ _ h3) (hs _ _ h4) (hs _ _ h5), st_chain ok h1 h2 h6 h7 (hs _ _ h3) (hs _ _ h4) (hs _ _ h5), fun z => by cases z⟩
    · rename_i a b p x y
      simp only [Bool.and_eq_true] at h
      have w := sw_and (p := p) (ht _ _ h.1) (sw_one_and (p := p) (ht _ _ h.2))
      exact ⟨se_and (hs _ _ h.1) (se_one (hs _ _ h.2)), st_of_sw w, fun _ => w⟩
    · rename_i a b c r p x y
      simp only [Bool.and_eq_true] at h
      have w := sw_and (p := p) (ht _ _ h.1) ((ih ok _ _ h.2).2.2 rfl)
      exact ⟨se_and (hs _ _ h.1) (hs _ _ h.2), st_of_sw w, fun _ => w⟩
    · rename_i a b p x y
      simp only [Bool.and_eq_true] at h
      have w := sw_or (p := p) (ht _ _ h.1) (sw_one_or (p := p) (ht _ _ h.2))
      exact ⟨se_or (hs _ _ h.1) (se_one (hs _ _ h.2)), st_of_sw w, fun _ => w⟩
    · rename_i a b c r p x y
      simp only [Bool.and_eq_true] at h
      have w := sw_or (p := p) (ht _ _ h.1) ((ih ok _ _ h.2).2.2 rfl)
      exact ⟨se_or (hs _ _ h.1) (hs _ _ h.2), st_of_sw w, fun _ => w⟩
    · rename_i c a b p x y z
      simp only [Bool.and_eq_true] at h
      exact ⟨se_ife (ht _ _ h.1.1) (hs _ _ h.1.2) (hs _ _ h.2), st_ife (ht _ _ h.1.1) (ht _ _ h.1.2) (ht _ _ h.2), fun z => by cases z⟩
    · rename_i a lo hi p2 p x l h'
      simp only [Bool.and_eq_true] at h
      exact sall_plain rfl (se_sl (hs _ _ h.1.1) (so_of hs h.1.2) (so_of hs h.2))
    · rename_i a b p x _
      simp only [Bool.and_eq_true] at h
      exact sall_plain rfl (se_rev h.1 (hs _ _ h.2))
    · rename_i a b p x y _
      simp only [Bool.and_eq_true, Bool.not_eq_true'] at h
      exact sall_plain rfl (se_ix ok h.1.1 (hs _ _ h.1.2) (hs _ _ h.2))
    · rename_i x p e es pos f cs
      simp only [Bool.and_eq_true, decide_eq_true_eq] at h
      obtain ⟨⟨⟨⟨h1, h2⟩, h3⟩, h4⟩, h5⟩ := h
      exact sall_plain rfl (se_call ok h1 h2 h3 (chkL_ne h4) h5 (fun l S ds S' e1 => evL_len e1) (sl_of hs h4))
    · rename_i x p es kws pos f cs g
      simp only [Bool.and_eq_true, decide_eq_true_eq] at h
      obtain ⟨⟨⟨⟨⟨⟨⟨⟨h1, h2⟩, h3⟩, h4⟩, h5⟩, h6⟩, h7⟩, h8⟩, h9⟩ := h
      exact sall_plain rfl (se_callk ok hs h1 h2 h3 h5 h6 h7 h8)
    · rename_i x p y p2 es pos2 pos t mu cs
      simp only [Bool.and_eq_true, decide_eq_true_eq] at h
      obtain ⟨⟨⟨⟨⟨⟨h1, h2⟩, h3⟩, h4⟩, h5⟩, h6⟩, h7⟩ := h
      subst h1 h3
      exact sall_plain rfl (se_tr ok hs h2 h4 h5)
    · rename_i x p e es pos i cs
      simp only [Bool.and_eq_true, decide_eq_true_eq] at h
      obtain ⟨⟨⟨h1, h2⟩, h3⟩, h4⟩ := h
      exact sall_plain rfl (se_callv ok (n := cs.length) h1 h2 h3 (chkL_ne h4) (fun l S ds S' e1 => evL_len e1) hF (sl_of hs h4))
    · rename_i x p e es pos mu b cs
      simp only [Bool.and_eq_true, decide_eq_true_eq] at h
      obtain ⟨⟨rfl, h2⟩, h3⟩ := h
      exact sall_plain rfl (se_bi ok h2 (chkL_ne h3) (sl_of hs h3))
    · rename_i o m ap e es pos mm x cs
      simp only [Bool.and_eq_true, decide_eq_true_eq, Bool.not_eq_true'] at h
      obtain ⟨⟨⟨⟨⟨rfl, h2⟩, h3⟩, h4⟩, h5⟩, h6⟩ := h
      exact sall_plain rfl (se_me ok h3 (chkL_ne h4) h5 h6 (hs _ _ h2) (sl_of hs h4))
    · rename_i elt tg iter ifs scope pos mu own t it cs y
      simp only [Bool.and_eq_true] at h
      obtain ⟨⟨⟨⟨⟨h1, h2⟩, h3⟩, h4⟩, h5⟩, h6⟩ := h
      exact sall_plain rfl (se_lc ok hs (fun fa' X' ok' e c h => ⟨(ih ok' e c h).1, (ih ok' e c h).2.1⟩) h1 h2 h3 h4 h5 h6)
    · rename_i x p elt tg iter ifs scope gpos pos mu b own t it cs y
      simp only [Bool.and_eq_true, Bool.not_eq_true', decide_eq_true_eq] at h
      obtain ⟨⟨⟨⟨⟨⟨⟨⟨⟨⟨⟨h1, h2⟩, h3⟩, h4⟩, h5⟩, h6⟩, h7⟩, h8⟩, h9⟩, h10⟩, h11⟩, h12⟩ := h
      subst h4
      have hse := se_gn (p := p) (pos := pos) (gpos := gpos) (mu := mu) (b := b) ok hs (fun X' ok' e c h => ⟨(ih ok' e c h).1, (ih ok' e c h).2.1⟩) h1 h2 h3 h5 h6 h7 h8 h9 h10 h11 h12
      refine sall_plain rfl ?_
      intro l S d S' rho σ H Q e1 L s q
      refine hse l S d S' rho σ H Q ?_ L s q
      rw [← e1]
      cases b <;> first | rfl | cases h3
    · rename_i x p pos f
      simp only [Bool.and_eq_true, decide_eq_true_eq] at h
      obtain ⟨⟨⟨h1, h2⟩, h3⟩, h4⟩ := h
      exact sall_plain rfl (se_call0 ok h1 h2 h3 h4)
    · rename_i a op b p x y
      simp only [Bool.and_eq_true] at h
      exact sall_plain rfl (se_cat h.1.1 (hs _ _ h.1.2) (hs _ _ h.2))
    · cases h
end
end Ev
end
section
set_option linter.all false
set_option Elab.async false
set_option maxRecDepth 100000
set_option maxHeartbeats 4000000
/-! E17: statements. -/
namespace Ev
open PySem PySem.Spec PyProof.Rows L2

def lcSw (G : Gam) (tg e : Expr) (t : CT) : Bool := match tg, e, t with
  | .Name y py, .ListComp _ [⟨_, _, _, 0⟩] scope p, .nm i => decide (G.N[i]? = some y) && decide (G.sc.names.lookup y = some .local) && (py.line == p.line) && !(scope.names.any fun (n, k) => n == y && (k == .local || k == .cell)) && (match G.sc.kind with | .function => true | _ => false)
  | _, _, _ => false
def isLcC : Ev.CE → Bool
  | .lc .. => true
  | _ => false
def isRef : D → Bool
  | .ref _ => true
  | _ => false
section
variable (pg : Pg)
def chkSs (ck : Stmt → CS → Bool) : List Stmt → List CS → Bool
  | [], [] => true
  | s :: ss, c :: cs => ck s c && chkSs ck ss cs
  | _, _ => false
def chkS (M : Nat) (G : Gam) : Nat → Stmt → CS → Bool
  | 0, _, _ => false
  | n + 1, st, c => match st, c with
    | .Assign [.Subscript o i _] e _, .set co ci ce => !isSlice i && chkE pg M G o co && chkE pg M G i ci && chkE pg M G e ce
    | .Assign [.Tuple [.Name x p1, .Name y p2] _ _] (.Tuple [a, b] _ _) _, .par [i, j] cs => swSome G.sc [.Name x p1, .Name y p2] [a, b] && decide (swNames G.sc [.Name x p1, .Name y p2] = [x, y]) && decide (G.N[i]? = some x) && decide (G.N[j]? = some y) && decide (i ≠ j) && decide (G.sc.names.lookup x = some .local) && decide (G.sc.names.lookup y = some .local) && chkL (chkE pg M G) [a, b] cs
    | .Assign [tg] e _, .asg t ce => !isStar tg && chkT G M tg t && chkE pg M G e ce && ((noSw G.sc e (some tg) && noPar G.sc tg e) || (lcSw G tg e t && isLcC ce))
    | .AugAssign (.Name x _) op e _, .aug i o ce => opEq op o && decide (G.N[i]? = some x) && (decide (G.sc.names.lookup x = some .local) || (decide (G.sc.names.lookup x = some .cell) && G.fn x)) && chkE pg M G e ce
    | .Return none _, .ret none => true
    | .Return (some e) _, .ret (some ce) => chkE pg M G e ce
    | .Expr e _, .ex ce => noSw G.sc e none && chkE pg M G e ce
    | .If c a b _, .iff cc ca cb => chkE pg M G c cc && chkSs (chkS M G n) a ca && chkSs (chkS M G n) b cb
    | .For tg it body [] _, .fors t ci cb => chkT G M tg t && chkI G (chkE pg M G) t it ci && chkSs (chkS M G n) body cb
    | .While c body [] _, .whl cc cb => chkE pg M G c cc && chkSs (chkS M G n) body cb
    | .Pass _, .pass => true
    | .Break _, .brk => true
    | .Continue _, .cont => true
    | .Raise _ _ _, .rse _ _ => true
    | _, _ => false
end

/-- what is wanted of an end -/
def PostO (fa : Fa) (rho : List Addr) (H : Hp) (o : Out) (Dd : Ends) : Prop := match o with
  | .nx l S => ∀ rho' H' σ, Ext rho H rho' H' → SR fa rho' H' S → LR fa rho' H' l σ → Dd.nx σ H'
  | .rt d S => ∀ rho' H' v, Ext rho H rho' H' → SR fa rho' H' S → R fa rho' H' d v → Dd.rt v H'
  | .bk l S => ∀ rho' H' σ, Ext rho H rho' H' → SR fa rho' H' S → LR fa rho' H' l σ → Dd.bk σ H'
  | .ct l S => ∀ rho' H' σ, Ext rho H rho' H' → SR fa rho' H' S → LR fa rho' H' l σ → Dd.ct σ H'
  | .exc _ _ _ => False
  | .stuck => False
theorem PostO.mono {fa : Fa} {rho rho1 : List Addr} {H H1 : Hp} {S1 : Sto} {o : Out} {Dd : Ends} (p : PostO fa rho H o Dd) (e : Ext rho H rho1 H1) (s : SR fa rho1 H1 S1) : PostO fa rho1 H1 o Dd := by
  cases o with
  | nx l S => exact fun rho' H' σ x => p rho' H' σ (e.trans s x)
  | rt d S => exact fun rho' H' σ x => p rho' H' σ (e.trans s x)
  | bk l S => exact fun rho' H' σ x => p rho' H' σ (e.trans s x)
  | ct l S => exact fun rho' H' σ x => p rho' H' σ (e.trans s x)
  | exc c ds S => exact p
  | stuck => exact p
def SSv (fa : Fa) (X : Cx) (ex : Loc → Sto → Out) (st : Stmt) : Prop := ∀ (l : Loc) (S : Sto) (rho : List Addr) (σ : L2.St) (H : Hp) (Dd : Ends), LR fa rho H l σ → SR fa rho H S → PostO fa rho H (ex l S) Dd → tS X st Dd σ H
def SSsv (fa : Fa) (X : Cx) (ex : Loc → Sto → Out) (st : List Stmt) : Prop := ∀ (l : Loc) (S : Sto) (rho : List Addr) (σ : L2.St) (H : Hp) (Dd : Ends), LR fa rho H l σ → SR fa rho H S → PostO fa rho H (ex l S) Dd → tSs X st Dd σ H
theorem out_post {α : Type} {fa : Fa} {rho : List Addr} {H : Hp} {x : R3 α} {f : α → Sto → Out} {Dd : Ends} (h : PostO fa rho H (x.out f) Dd) : ∃ a S, x = .ok a S ∧ PostO fa rho H (f a S) Dd := by
  cases x with
  | ok a S => exact ⟨a, S, rfl, h⟩
  | exc c ds S => exact h.elim
  | stuck => exact h.elim
section
variable {pg : Pg} {fa : Fa} {F : FnT} {k j : Nat} {G : Gam} {X : Cx}
theorem ss_seq {ex : CS → Loc → Sto → Out} {ck : Stmt → CS → Bool} (hs : ∀ s c, ck s c = true → SSv fa X (ex c) s) : ∀ {ss : List Stmt} {cs : List CS}, chkSs ck ss cs = true → SSsv fa X (exSs ex cs) ss
  | [], [], _ => fun l S rho σ H Dd L s q => tSs_of pss_nil (q rho H σ Ext.refl s L)
  | st :: ss, c :: cs, h => by
    simp only [chkSs, Bool.and_eq_true] at h
    have ih := ss_seq hs h.2
    intro l S rho σ H Dd L s q
    simp only [exSs] at q
    refine tSs_of (pss_cons (ps_max st) (pss_max ss)) ?_
    refine hs st c h.1 l S rho σ H _ L s ?_
    cases e : ex c l S with
    | nx l1 S1 =>
      rw [e] at q
      intro rho1 H1 σ1 x1 s1 L1
      exact ih l1 S1 rho1 σ1 H1 Dd L1 s1 (PostO.mono (o := exSs ex cs l1 S1) q x1 s1)
    | rt d S1 => rw [e] at q; exact q
    | bk l1 S1 => rw [e] at q; exact q
    | ct l1 S1 => rw [e] at q; exact q
    | exc c ds S1 => rw [e] at q; exact q.elim
    | stuck => rw [e] at q; exact q.elim
  | [], _ :: _, h => by simp [chkSs] at h
  | _ :: _, [], h => by simp [chkSs] at h
theorem ss_for {J : IT} {Jt : It} {t : CT} {tg : Expr} {n : Nat} {body : Loc → Sto → Out} {bs : List Stmt} (ok : OkX pg fa F k j G X) (ht : chkT G n tg t = true) (hb : SSsv fa X body bs) {rho1 : List Addr} {H1 : Hp} {S1 : Sto} {l : Loc} {σ : L2.St} {Dd : Ends} {m0 : Nat}
    (itr : ITR fa rho1 H1 Jt J) (s1 : SR fa rho1 H1 S1) (L : LR fa rho1 H1 l σ) (q : PostO fa rho1 H1 (forL J t body m0 0 l S1) Dd) :
    ∃ W : Nat → Nat → L2.St → Hp → Prop, (∃ m, W 0 m σ H1) ∧ ∀ (i m : Nat) (σ : L2.St) (H : Hp), W i m σ H → Jt.stop i H ∧ Dd.nx σ H ∨ Jt.go i H ∧ ∃ N : L2.St → Hp → Prop, (∀ σ' H', N σ' H' → ∃ m', m' < m ∧ W (i + 1) m' σ' H') ∧ ∀ x H', Jt.yld i H x H' → tG X tg x σ H' fun σ2 H2 => tSs X bs { nx := N, rt := Dd.rt, bk := Dd.nx, ct := N } σ2 H2 := by
  have main : ∃ W : Nat → Nat → L2.St → Hp → Prop, W = fun i m σ H => ∃ rho S l, Ext rho1 H1 rho H ∧ SR fa rho H S ∧ LR fa rho H l σ ∧ PostO fa rho H (forL J t body m i l S) Dd := ⟨_, rfl⟩
  obtain ⟨W, hW⟩ := main
  refine ⟨W, ⟨m0, by rw [hW]; exact ⟨rho1, S1, l, Ext.refl, s1, L, q⟩⟩, fun i m σ H w => ?_⟩
  rw [hW] at w
  obtain ⟨rho, S, l, xx, sx, Lx, qx⟩ := w
  cases m with
  | zero => exact qx.elim
  | succ m =>
    obtain ⟨it1, it2⟩ := itr fa i rho H S ⟨⟨rfl, rfl⟩, fun a z => .inl z⟩ xx sx
    simp only [forL] at qx
    split at qx
    · exact qx.elim
    · rename_i ea
      exact .inl ⟨it1 ea, qx rho H σ Ext.refl sx Lx⟩
    · rename_i d ea
      obtain ⟨hgo, hy⟩ := it2 d ea
      refine .inr ⟨hgo, fun σ' H' => W (i + 1) m σ' H', fun σ' H' w => ⟨m, Nat.lt_succ_self _, w⟩, fun v H' hyl => ?_⟩
      obtain ⟨x2, s2, r2⟩ := hy v H' hyl
      split at qx
      · exact qx.elim
      · rename_i l1 el
        refine sg_of ok n ht el (Lx.mono x2) s2 r2 fun σ2 L2' _ => ?_
        refine hb l1 S rho σ2 H' _ L2' s2 ?_
        have next : ∀ l2 S2, PostO fa rho H (forL J t body m (i + 1) l2 S2) Dd → ∀ rho' H'' σ', Ext rho H' rho' H'' → SR fa rho' H'' S2 → LR fa rho' H'' l2 σ' → W (i + 1) m σ' H'' := fun l2 S2 q2 rho' H'' σ' x s L => by
          rw [hW]
          have x3 := x2.trans s2 x
          exact ⟨rho', S2, l2, xx.trans sx x3, s, L, q2.mono x3 s⟩
        cases e : body l1 S with
        | nx l2 S2 => rw [e] at qx; exact next l2 S2 qx
        | ct l2 S2 => rw [e] at qx; exact next l2 S2 qx
        | bk l2 S2 => rw [e] at qx; exact fun rho' H'' σ' x s L => qx rho' H'' σ' (x2.trans s2 x) s L
        | rt d S2 => rw [e] at qx; exact fun rho' H'' v x s r => qx rho' H'' v (x2.trans s2 x) s r
        | exc c ds S2 => rw [e] at qx; exact qx.elim
        | stuck => rw [e] at qx; exact qx.elim
theorem ss_while {test : Loc → Sto → R3 D} {c : Expr} {body : Loc → Sto → Out} {bs : List Stmt} (ht : STv fa X test c) (hb : SSsv fa X body bs) {rho1 : List Addr} {H1 : Hp} {S1 : Sto} {l : Loc} {σ : L2.St} {Dd : Ends} {m0 : Nat}
    (s1 : SR fa rho1 H1 S1) (L : LR fa rho1 H1 l σ) (q : PostO fa rho1 H1 (whlL test body m0 l S1) Dd) : tWhile (tT X c) (tSs X bs) Dd σ H1 := by
  have main : ∃ W : Nat → L2.St → Hp → Prop, W = fun m σ H => ∃ rho S l, Ext rho1 H1 rho H ∧ SR fa rho H S ∧ LR fa rho H l σ ∧ PostO fa rho H (whlL test body m l S) Dd := ⟨_, rfl⟩
  obtain ⟨W, hW⟩ := main
  refine ⟨W, ⟨m0, by rw [hW]; exact ⟨rho1, S1, l, Ext.refl, s1, L, q⟩⟩, fun m σ H w => ?_⟩
  rw [hW] at w
  obtain ⟨rho, S, l, xx, sx, Lx, qx⟩ := w
  cases m with
  | zero => exact qx.elim
  | succ m =>
    simp only [whlL] at qx
    obtain ⟨d, S2, e1, qx⟩ := out_post qx
    split at qx
    · rename_i et
      refine ht _ _ _ _ _ _ _ _ _ e1 et Lx sx fun rho2 H2 x2 s2 => ?_
      rw [if_pos rfl]
      refine ⟨fun σ' H' => W m σ' H', fun σ' H' w => ⟨m, Nat.lt_succ_self _, w⟩, ?_⟩
      refine hb l S2 rho2 σ H2 _ (Lx.mono x2) s2 ?_
      have next : ∀ l2 S3, PostO fa rho H (whlL test body m l2 S3) Dd → ∀ rho' H'' σ', Ext rho2 H2 rho' H'' → SR fa rho' H'' S3 → LR fa rho' H'' l2 σ' → W m σ' H'' := fun l2 S3 q2 rho' H'' σ' x s L => by
        rw [hW]
        have x3 := x2.trans s2 x
        exact ⟨rho', S3, l2, xx.trans sx x3, s, L, q2.mono x3 s⟩
      cases e : body l S2 with
      | nx l2 S3 => rw [e] at qx; exact next l2 S3 qx
      | ct l2 S3 => rw [e] at qx; exact next l2 S3 qx
      | bk l2 S3 => rw [e] at qx; exact fun rho' H'' σ' x s L => qx rho' H'' σ' (x2.trans s2 x) s L
      | rt d S3 => rw [e] at qx; exact fun rho' H'' v x s r => qx rho' H'' v (x2.trans s2 x) s r
      | exc c ds S3 => rw [e] at qx; exact qx.elim
      | stuck => rw [e] at qx; exact qx.elim
    · rename_i et
      refine ht _ _ _ _ _ _ _ _ _ e1 et Lx sx fun rho2 H2 x2 s2 => ?_
      rw [if_neg (by decide)]
      exact qx rho2 H2 σ x2 s2 (Lx.mono x2)
    · exact qx.elim
end
end Ev
end
section
set_option linter.all false
set_option Elab.async false
set_option maxRecDepth 100000
set_option maxHeartbeats 4000000
/-! E18: all statements of the text are sound. -/
namespace Ev
open PySem PySem.Spec PyProof.Rows L2
theorem sw_sub {e o i : Expr} {p : Pos} {n : Nat} {env : PySem.Env} : swapsWith e (some (.Subscript o i p)) n env = pure false := by
  unfold swapsWith
  cases e <;> rfl
theorem putD_map {kvs : List (Key × D)} {ws : List (Key × V)} {k : Key} {d : D} {v : V} {fa : Fa} {rho : List Addr} {H : Hp} (e : ws.map (·.1) = kvs.map (·.1)) (r : RL fa rho H (kvs.map (·.2)) (ws.map (·.2))) (rv : R fa rho H d v) :
    (putK ws k v).map (·.1) = (putD kvs k d).map (·.1) ∧ RL fa rho H ((putD kvs k d).map (·.2)) ((putK ws k v).map (·.2)) := by
  have hany : (ws.any fun kv => decide (kv.1 = k)) = (kvs.any fun kv => decide (kv.1 = k)) := by
    have h1 : (ws.any fun kv => decide (kv.1 = k)) = (ws.map (·.1)).any fun x => decide (x = k) := by rw [List.any_map]; rfl
    have h2 : (kvs.any fun kv => decide (kv.1 = k)) = (kvs.map (·.1)).any fun x => decide (x = k) := by rw [List.any_map]; rfl
    rw [h1, h2, e]
  unfold putK putD
  rw [hany]
  split
  · have : ∀ {kvs : List (Key × D)} {ws : List (Key × V)}, ws.map (·.1) = kvs.map (·.1) → RL fa rho H (kvs.map (·.2)) (ws.map (·.2)) →
        ((ws.map fun kv => if kv.1 = k then (kv.1, v) else kv).map (·.1)) = ((kvs.map fun kv => if kv.1 = k then (kv.1, d) else kv).map (·.1)) ∧ RL fa rho H ((kvs.map fun kv => if kv.1 = k then (kv.1, d) else kv).map (·.2)) ((ws.map fun kv => if kv.1 = k then (kv.1, v) else kv).map (·.2)) := by
      intro kvs
      induction kvs with
      | nil => intro ws e r; cases ws with
        | nil => exact ⟨rfl, .nil⟩
        | cons _ _ => simp at e
      | cons q kvs ih =>
        intro ws e r
        cases ws with
        | nil => simp at e
        | cons w ws =>
          obtain ⟨k1, d1⟩ := q
          obtain ⟨k2, v2⟩ := w
          simp only [List.map_cons, List.cons.injEq] at e
          obtain ⟨e1, e2⟩ := e
          subst e1
          simp only [List.map_cons] at r
          cases r with
          | cons r1 r2 =>
            obtain ⟨i1, i2⟩ := ih e2 r2
            simp only [List.map_cons]
            by_cases hk : k2 = k
            · rw [if_pos hk, if_pos hk]
              exact ⟨by rw [i1], .cons rv i2⟩
            · rw [if_neg hk, if_neg hk]
              exact ⟨by rw [i1], .cons r1 i2⟩
    exact this e r
  · rw [List.map_append, List.map_append, List.map_append, List.map_append]
    exact ⟨by rw [e]; rfl, r.append (.cons rv .nil)⟩
section
variable {pg : Pg} {fa : Fa} {F : FnT} {k j : Nat} {G : Gam} {X : Cx}
theorem ss_set (ok : OkX pg fa F k j G X) {ee eo ei : Loc → Sto → R3 D} {e o i : Expr} {p pos : Pos} (hsl : isSlice i = false) (he : SEv fa X ee e) (ho : SEv fa X eo o) (hi : SEv fa X ei i) :
    SSv fa X (fun l S => (ee l S).out fun d S1 => (eo l S1).out fun x S2 => (ei l S2).out fun y S3 => match setD x y d S3 with | some S4 => .nx l S4 | none => .stuck) (.Assign [.Subscript o i p] e pos) := by
  intro l S rho σ H Dd L s q
  obtain ⟨d, S1, e1, q⟩ := out_post q
  obtain ⟨x, S2, e2, q⟩ := out_post q
  obtain ⟨y, S3, e3, q⟩ := out_post q
  have hassign : ∀ v, assign (.Subscript o i p) X.env v = (do
      let ov ← holding [v] (eval o X.env)
      let iv ← holding [v, ov] (eval i X.env)
      standAt p
      holding [v, ov, iv] (setItem ov iv v)
      release [v, ov, iv] []) := by
    intro v
    cases i <;> first | rfl | cases hsl
  split at q
  · rename_i S4 hz
    unfold setD at hz
    split at hz
    · rename_i n
      split at hz
      · -- a list
        rename_i xs kk eS
        split at hz
        · rename_i jj ej
          cases hz
          refine tS_of (ps_asg (pe_max e) (pg_sub (pe_max o) (pe_max i) set_list hassign) (show swapsWithSole [.Subscript o i p] e pos.line X.env = pure false from sw_sub (o := o) (i := i) (p := p) (n := pos.line) (env := X.env)) rfl rfl) ?_
          refine he _ _ _ _ _ _ _ _ e1 L s fun rho1 H1 v x1 s1 r1 => ?_
          refine ho _ _ _ _ _ _ _ _ e2 (L.mono x1) s1 fun rho2 H2 u x2 s2 r2 => ?_
          have x12 := x1.trans s1 x2
          refine hi _ _ _ _ _ _ _ _ e3 (L.mono x12) s2 fun rho3 H3 w x3 s3 r3 => ?_
          have x13 := x12.trans s2 x3
          have r2' := r2.mono x3
          cases r2' with
          | @ref _ a ha =>
            cases r3
            obtain ⟨b, eb, vs, q1, q2⟩ := s3.cell n _ eS
            rw [ha] at eb; cases eb
            refine ⟨a, vs, kk, jj, rfl, rfl, q1, by rw [← q2.length]; exact ej, ?_⟩
            have x4 : Ext rho3 H3 rho3 (upd H3 a (.lst (vs.set jj v))) := Ext.put ha
            have rv := (r1.mono x2).mono x3
            exact q rho3 _ σ (x13.trans s3 x4) (s3.put ha ⟨vs.set jj v, upd_same, (RL.set rv jj q2).mono x4⟩) (L.mono (x13.trans s3 x4))
        · cases hz
      all_goals first
       | (cases hz; done)
       | (
        -- a dict
        rename_i kvs kk eS
        split at hz
        · rename_i hlt
          cases hz
          refine tS_of (ps_dput (by have := ok.un; omega) (pe_max o) (pe_max i) (pe_max e) (sw_sub (o := o) (i := i) (p := p) (n := pos.line) (env := X.env))) ?_
          refine he _ _ _ _ _ _ _ _ e1 L s fun rho1 H1 v x1 s1 r1 => ?_
          refine ho _ _ _ _ _ _ _ _ e2 (L.mono x1) s1 fun rho2 H2 u x2 s2 r2 => ?_
          have x12 := x1.trans s1 x2
          refine hi _ _ _ _ _ _ _ _ e3 (L.mono x12) s2 fun rho3 H3 w x3 s3 r3 => ?_
          have x13 := x12.trans s2 x3
          have r2' := r2.mono x3
          cases r2' with
          | @ref _ a ha =>
            cases r3
            obtain ⟨b, eb, ws, q1, q2, q3⟩ := s3.cell n _ eS
            rw [ha] at eb; cases eb
            have hl : ws.length = kvs.length := by simpa using congrArg List.length q2
            have rv := (r1.mono x2).mono x3
            first
              | refine ⟨a, _, rfl, DPut.k (k := .inr kk) q1 (by rw [hl]; exact hlt), ?_⟩
                have x4 : Ext rho3 H3 rho3 (upd H3 a (.dK (putK ws (.inr kk) v))) := Ext.put ha
                obtain ⟨p1, p2⟩ := putD_map (k := .inr kk) q2 q3 rv
                exact q rho3 _ σ (x13.trans s3 x4) (s3.put ha ⟨_, upd_same, p1, p2.mono x4⟩) (L.mono (x13.trans s3 x4))
              | refine ⟨a, _, rfl, DPut.k (k := .inl kk) q1 (by rw [hl]; exact hlt), ?_⟩
                have x4 : Ext rho3 H3 rho3 (upd H3 a (.dK (putK ws (.inl kk) v))) := Ext.put ha
                obtain ⟨p1, p2⟩ := putD_map (k := .inl kk) q2 q3 rv
                exact q rho3 _ σ (x13.trans s3 x4) (s3.put ha ⟨_, upd_same, p1, p2.mono x4⟩) (L.mono (x13.trans s3 x4))
        · cases hz)
    · cases hz
  · exact q.elim

theorem ss_aug (ok : OkX pg fa F k j G X) {ee : Loc → Sto → R3 D} {e : Expr} {op : Operator} {o : BOp} {x : Str} {i : Nat} {p pos : Pos} (ho : opEq op o = true) (hi : G.N[i]? = some x) (hx : G.sc.names.lookup x = some .local ∨ (G.sc.names.lookup x = some .cell ∧ G.fn x = true)) (he : SEv fa X ee e) :
    SSv fa X (fun l S => match l[i]? with
      | some (some x) => (ee l S).out fun y S1 => match augD o x y with
        | some z => .nx (l.set i (some z)) S1
        | none => .stuck
      | _ => .stuck) (.AugAssign (.Name x p) op e pos) := by
  intro l S rho σ H Dd L s q
  simp only at q
  split at q
  · rename_i d0 el
    obtain ⟨y, S1, e1, q⟩ := out_post q
    have hloc : L2.Loc X.env.scope x := by
      rw [ok.sc]
      rcases hx with z | z
      · exact .inl z
      · exact .inr z.1
    have hf : X.fn x = true ∨ X.env.scope.names.lookup x = some .local := by
      rw [ok.sc, ok.fn]
      rcases hx with z | z
      · exact .inr z
      · exact .inl z.2
    obtain ⟨v0, ev0, rv0⟩ := L.val i _ el
    split at q
    · rename_i z hz
      have go : ∀ {op' : Operator} {f : Int → Int → Int}, op = op' → PIp X op' (ipI f) → (∃ a b, d0 = .int a ∧ y = .int b ∧ z = .int (f a b)) → tS X (.AugAssign (.Name x p) op e pos) Dd σ H := by
        intro op' f eo hp ⟨a, b, ea, eb, ez⟩
        subst eo ea eb ez
        cases rv0
        refine tS_of (ps_aug (by rw [ok.N]; exact ok.nd) (by rw [ok.N]; exact hi) hloc (pe_max e) hp hf) ⟨.int a, ev0, ?_⟩
        refine he _ _ _ _ _ _ _ _ e1 L s fun rho1 H1 v x1 s1 r1 => ?_
        cases r1
        exact ⟨a, b, rfl, rfl, q rho1 H1 _ x1 s1 ((L.mono x1).set (.int _) i)⟩
      unfold augD at hz
      split at hz
      · cases hz
        exact go (opEq_ok ho) ip_add ⟨_, _, rfl, rfl, rfl⟩
      · cases hz
        exact go (opEq_ok ho) ip_sub ⟨_, _, rfl, rfl, rfl⟩
      · cases hz
    · exact q.elim
  · exact q.elim
theorem rl_two {rho : List Addr} {H : Hp} {d e : D} {vs : List V} (r : RL fa rho H [d, e] vs) : ∃ v u, vs = [v, u] ∧ R fa rho H d v ∧ R fa rho H e u := by
  cases r with
  | cons r1 r2 =>
    cases r2 with
    | cons r2 r3 => cases r3; exact ⟨_, _, rfl, r1, r2⟩
theorem ss_par (ok : OkX pg fa F k j G X) {ev : Loc → Sto → R3 (List D)} {a b : Expr} {x y : Str} {i i' : Nat} {p1 p2 p3 p4 pos : Pos} {k1 k2 : Nat} (hsw : swSome G.sc [.Name x p1, .Name y p2] [a, b] = true) (hnm : swNames G.sc [.Name x p1, .Name y p2] = [x, y])
    (hi : G.N[i]? = some x) (hj : G.N[i']? = some y) (hne : i ≠ i') (hx : G.sc.names.lookup x = some .local) (hy : G.sc.names.lookup y = some .local) (hs : SLv fa X ev [a, b]) :
    SSv fa X (fun l S => (ev l S).out fun ds S1 => if [i, i'].length = ds.length then .nx (parL [i, i'] ds l) S1 else .stuck) (.Assign [.Tuple [.Name x p1, .Name y p2] k1 p3] (.Tuple [a, b] k2 p4) pos) := by
  intro l S rho σ H Dd L s q
  obtain ⟨ds, S1, e1, q⟩ := out_post q
  split at q
  · rename_i hl
    match ds, hl with
    | [d, e], _ =>
      have hw : swappedStores [.Tuple [.Name x p1, .Name y p2] k1 p3] (.Tuple [a, b] k2 p4) X.env = pure (some [x, y]) := by rw [← hnm]; exact swSome_ok ok.sc hsw
      refine tS_of (ps_par ok.calm (by rw [ok.N]; exact ok.nd) (by rw [ok.N]; exact hi) (by rw [ok.N]; exact hj) hne (by rw [ok.sc]; exact hx) (by rw [ok.sc]; exact hy) (pa_max _) hw) ?_
      refine hs _ _ _ _ _ _ _ _ e1 L s fun rho1 H1 vs x1 s1 r1 => ?_
      obtain ⟨v, u, rfl, rv, ru⟩ := rl_two r1
      exact ⟨v, u, rfl, q rho1 H1 _ x1 s1 (((L.mono x1).set rv i).set ru i')⟩
  · exact q.elim
theorem ss_asg (ok : OkX pg fa F k j G X) {n : Nat} {ee : Loc → Sto → R3 D} {e tg : Expr} {t : CT} {pos : Pos} (hst : isStar tg = false) (ht : chkT G n tg t = true) (h1 : noSw G.sc e (some tg) = true) (h2 : noPar G.sc tg e = true) (he : SEv fa X ee e) :
    SSv fa X (fun l S => (ee l S).out fun d S1 => match asgT S1 t d l with | some l1 => .nx l1 S1 | none => .stuck) (.Assign [tg] e pos) := by
  intro l S rho σ H Dd L s q
  obtain ⟨d, S1, e1, q⟩ := out_post q
  split at q
  · rename_i l1 el
    refine tS_of (ps_asg (pe_max e) (pg_max tg) (show swapsWithSole [tg] e pos.line X.env = pure false from noSw_ok ok.sc h1) (noPar_ok ok.sc h2) (asg_one hst)) ?_
    refine he _ _ _ _ _ _ _ _ e1 L s fun rho1 H1 v x1 s1 r1 => ?_
    refine sg_of ok n ht el (L.mono x1) s1 r1 fun σ2 L2' _ => q rho1 H1 σ2 x1 s1 L2'
  · exact q.elim
structure OkS (pg : Pg) (fa : Fa) (F : FnT) (k j : Nat) (G : Gam) (X : Cx) : Prop where
  ok : OkX pg fa F k j G X
  xe : X.xe = fun _ _ => False
theorem OkS.owns (o : OkS pg fa F k j G X) : PassesOwn (model X.prog X.w) X.A X.env X.xe := by rw [o.xe]; exact PassesOwn.never
theorem lcSw_ok {G : Gam} {tg e : Expr} {t : CT} (h : lcSw G tg e t = true) : ∃ y py elt tg' iter ifs scope p i, tg = .Name y py ∧ e = .ListComp elt [⟨tg', iter, ifs, 0⟩] scope p ∧ t = .nm i ∧ G.N[i]? = some y ∧ G.sc.names.lookup y = some .local ∧ (py.line == p.line) = true ∧
    (scope.names.any fun (n, k) => n == y && (k == .local || k == .cell)) = false ∧ G.sc.kind = .function := by
  unfold lcSw at h
  split at h
  · simp only [Bool.and_eq_true, decide_eq_true_eq, Bool.not_eq_true'] at h
    obtain ⟨⟨⟨⟨h1, h2⟩, h3⟩, h4⟩, h5⟩ := h
    refine ⟨_, _, _, _, _, _, _, _, _, rfl, rfl, rfl, h1, h2, h3, h4, ?_⟩
    split at h5
    · assumption
    · cases h5
  · cases h
theorem ss_asgLc (hF : ArOk pg F) (ok : OkX pg fa F k j G X) {n : Nat} {e tg : Expr} {t : CT} {ce : Ev.CE} {pos : Pos} (hsw : lcSw G tg e t = true) (hc : isLcC ce = true) (he : chkE pg n G e ce = true) :
    SSv fa X (fun l S => (evE F n ce l S).out fun d S1 => match asgT S1 t d l with | some l1 => .nx l1 S1 | none => .stuck) (.Assign [tg] e pos) := by
  obtain ⟨y, py, elt, tg', iter, ifs, scope, p, i, rfl, rfl, rfl, hi, hy, hl, ha, hk⟩ := lcSw_ok hsw
  cases n with
  | zero => simp [chkE] at he
  | succ n =>
    cases ce <;> first | cases hc | skip
    rename_i mu own t' it cs yy
    unfold chkE at he
    simp only [Bool.and_eq_true] at he
    obtain ⟨⟨⟨⟨⟨h1, h2⟩, h3⟩, h4⟩, h5⟩, h6⟩ := he
    intro l S rho σ H Dd L s q
    obtain ⟨d, S1, e1, q⟩ := out_post q
    simp only [asgT] at q
    have hsw2 : swapsWith (.ListComp elt [⟨tg', iter, ifs, 0⟩] scope p) (some (.Name y py)) pos.line X.env = pure true := sw_true (by rw [ok.sc]; exact hk) (by rw [ok.sc]; exact hy) hl ha
    refine tS_of (ps_lcT ok h1 (chkI_noSet h4) hi hy hsw2) ?_
    exact lc_core ok (fun e c h => (sound hF n ok e c h).1) (fun fa' X' ok' e c h => ⟨(sound hF n ok' e c h).1, (sound hF n ok' e c h).2.1⟩) h2 h3 h4 h5 h6 l S d S1 rho σ H _ e1 L s fun rho1 H1 v x1 s1 r1 => q rho1 H1 _ x1 s1 ((L.mono x1).set r1 i)
theorem soundS (hF : ArOk pg F) (ok : OkS pg fa F k j G X) (M : Nat) : ∀ (n : Nat) (st : Stmt) (c : CS), chkS pg M G n st c = true → SSv fa X (exS (evE F M) n c) st := by
  intro n
  induction n with
  | zero => intro st c h; simp [chkS] at h
  | succ n ih =>
    intro st c h
    have hs : ∀ e c, chkE pg M G e c = true → SEv fa X (evE F M c) e := fun e c h => (sound hF M ok.ok e c h).1
    have ht : ∀ e c, chkE pg M G e c = true → STv fa X (evE F M c) e := fun e c h => (sound hF M ok.ok e c h).2.1
    unfold chkS at h
    split at h
    · rename_i o i p e pos co ci ce
      simp only [Bool.and_eq_true, Bool.not_eq_true'] at h
      exact ss_set ok.ok h.1.1.1 (hs _ _ h.2) (hs _ _ h.1.1.2) (hs _ _ h.1.2)
    · rename_i x p1 y p2 k1 p3 a b k2 p4 pos i i' cs
      simp only [Bool.and_eq_true, decide_eq_true_eq] at h
      obtain ⟨⟨⟨⟨⟨⟨⟨h1, h2⟩, h3⟩, h4⟩, h5⟩, h6⟩, h7⟩, h8⟩ := h
      exact ss_par ok.ok h1 h2 h3 h4 h5 h6 h7 (sl_of hs h8)
    · rename_i tg e pos t ce _ _
      simp only [Bool.and_eq_true, Bool.or_eq_true, Bool.not_eq_true'] at h
      obtain ⟨⟨⟨h1, h2⟩, h3⟩, h4⟩ := h
      rcases h4 with ⟨h4, h5⟩ | ⟨h4, h5⟩
      · exact ss_asg ok.ok h1 h2 h4 h5 (hs _ _ h3)
      · exact ss_asgLc hF ok.ok h4 h5 h3
    · rename_i x p op e pos i o ce
      simp only [Bool.and_eq_true, Bool.or_eq_true, decide_eq_true_eq] at h
      obtain ⟨⟨⟨h1, h2⟩, h3⟩, h4⟩ := h
      exact ss_aug ok.ok h1 h2 h3 (hs _ _ h4)
    · exact fun l S rho σ H Dd L s q => tS_of ps_retN (q rho H .non Ext.refl s .non)
    · rename_i e pos ce
      intro l S rho σ H Dd L s q
      obtain ⟨d, S1, e1, q⟩ := out_post q
      exact tS_of (ps_ret (pe_max e)) (hs _ _ h _ _ _ _ _ _ _ _ e1 L s fun rho1 H1 v x1 s1 r1 => q rho1 H1 v x1 s1 r1)
    · rename_i e pos ce
      simp only [Bool.and_eq_true] at h
      intro l S rho σ H Dd L s q
      obtain ⟨d, S1, e1, q⟩ := out_post q
      exact tS_of (ps_expr (pe_max e) (noSw_ok ok.ok.sc h.1)) (hs _ _ h.2 _ _ _ _ _ _ _ _ e1 L s fun rho1 H1 v x1 s1 r1 => q rho1 H1 σ x1 s1 (L.mono x1))
    · rename_i c a b pos cc ca cb
      simp only [Bool.and_eq_true] at h
      have ha := ss_seq ih h.1.2
      have hb := ss_seq ih h.2
      intro l S rho σ H Dd L s q
      obtain ⟨d, S1, e1, q⟩ := out_post q
      refine tS_of (ps_if (pt_max c) (pss_max a) (pss_max b)) ?_
      split at q
      · rename_i et
        refine ht _ _ h.1.1 _ _ _ _ _ _ _ _ _ e1 et L s fun rho1 H1 x1 s1 => ?_
        rw [if_pos rfl]
        exact ha l S1 rho1 σ H1 Dd (L.mono x1) s1 (q.mono x1 s1)
      · rename_i et
        refine ht _ _ h.1.1 _ _ _ _ _ _ _ _ _ e1 et L s fun rho1 H1 x1 s1 => ?_
        rw [if_neg (by decide)]
        exact hb l S1 rho1 σ H1 Dd (L.mono x1) s1 (q.mono x1 s1)
      · exact q.elim
    · rename_i tg it body pos t ci cb
      simp only [Bool.and_eq_true] at h
      obtain ⟨⟨h1, h2⟩, h3⟩ := h
      intro l S rho σ H Dd L s q
      obtain ⟨J, S1, e1, q⟩ := out_post q
      refine tS_of (ps_for ok.owns ok.ok.calm (pi_max tg it) (pg_max tg) (pss_max body) (noSet (chkI_noSet h2))) ?_
      refine si_of ok.ok hs h2 h1 _ _ _ _ _ _ _ _ e1 L s fun rho1 H1 Jt x1 s1 itr => ?_
      exact ss_for ok.ok h1 (ss_seq ih h3) itr s1 (L.mono x1) (q.mono x1 s1)
    · rename_i c body pos cc cb
      simp only [Bool.and_eq_true] at h
      intro l S rho σ H Dd L s q
      exact tS_of (ps_while ok.owns (pt_max c) (pss_max body)) (ss_while (ht _ _ h.1) (ss_seq ih h.2) s L q)
    · exact fun l S rho σ H Dd L s q => tS_of ps_pass (q rho H σ Ext.refl s L)
    · exact fun l S rho σ H Dd L s q => tS_of ps_break (q rho H σ Ext.refl s L)
    · exact fun l S rho σ H Dd L s q => tS_of ps_continue (q rho H σ Ext.refl s L)
    · rename_i e c pos cc es
      intro l S rho σ H Dd L s q
      obtain ⟨d, S1, e1, q⟩ := out_post q
      exact q.elim
    · cases h
end
end Ev
end
section
set_option linter.all false
set_option Elab.async false
set_option maxRecDepth 100000
set_option maxHeartbeats 4000000
/-! E19: defs by their bodies; all defs of the text. -/
namespace Ev
open PySem PySem.Spec PyProof.Rows L2

/-- the context of a def's body that lets nothing out -/
def cxF (P : Program) (w : World) (K : W.Frag) (mg : Str → Option Value) (base : Heap) (N : List Str) (qual : Str) (scope : Scope) (f : Addr) (cd : Value) (A : Around) (outer : List PySem.Env) (s : Shared) (H : Hp) : Cx :=
  { cxOf (CX P w) P w K mg base N qual scope f cd A outer s H (fun _ _ _ => False) with xe := fun _ _ => False }
theorem inv_cxF {P : Program} {w : World} {K : W.Frag} {mg : Str → Option Value} {base : Heap} {N : List Str} {qual : Str} {scope : Scope} {f : Addr} {cd : Value} {A : Around} {outer : List PySem.Env} {s s1 : Shared} {H H' : Hp} {pins : List (Addr × Obj)} {σ : L2.St}
    (I : Inv (cxOf (CX P w) P w K mg base N qual scope f cd A outer s H (fun _ _ _ => False)) pins σ H' s1) : Inv (cxF P w K mg base N qual scope f cd A outer s H) pins σ H' s1 :=
  ⟨⟨I.ok.mod, I.ok.kind, I.ok.glob, I.ok.blt, I.ok.above, I.ok.inj, I.ok.has, I.ok.cab, I.ok.hd, I.ok.frames, I.ok.stk, I.ok.exf, I.ok.bs, I.ok.bsz, I.ok.noex, I.ok.exfs, I.ok.funs, I.ok.frf⟩, I.os, I.bare, I.base, I.loc, I.cell, I.free, I.freeC, I.pin, I.hok, I.len⟩
theorem fng_of {P : Program} {w : World} {K : W.Frag} {mg : Str → Option Value} {base : Heap} {k : Nat} {f : Addr} {name qual : Str} {params : Arguments} {body : List Stmt} {scope : Scope} {dV kV doc pm cdv ct oc : Value} {an od : Option Addr}
    {osl : Array (Option Value)} {N ps : List Str} {sp : List V → Hp → VK → Prop} (lk : K.lookup f = some ⟨oc, od, .func (W.fnOf name qual params body scope dV kV doc pm an cdv ct), osl⟩) (hcd : W.codeIn K cdv qual = true) (S : FnScope N ps scope)
    (len : ∀ vs H Q, sp vs H Q → vs.length = ps.length)
    (hbody : ∀ (A : Around) (outer : List PySem.Env) (s : Shared) (H : Hp) (vs : List V) (Q : VK), Room k (A.deeper (envOfC qual scope s.heap.objs.size f cdv)) → A.guards = some [] → sp vs H Q →
      tSs (cxF P w K mg base N qual scope f cdv A outer s H) body { nx := fun _ H' => Q .non H', rt := Q } (start N vs) H) :
    FnG P w K mg base (k + 1) f (W.fnOf name qual params body scope dV kV doc pm an cdv ct) ps sp := by
  refine ⟨len, fun A outer s H args us vs Q hr hg e0 hb r hsp => ?_⟩
  have hl := len _ _ _ hsp
  have KX : K.In s.heap := e0.mod.kin.keeps fun b o e => (e0.bs b o e).1
  have lim : s.heap.NoLimit := e0.mod.nolimit.keeps fun b o e => (e0.bs b o e).1
  have hkind : ∀ y ∈ ps.zip us, scope.names.lookup y.1 = some .local ∨ (scope.names.lookup y.1 = some .cell ∧ ((cellsFrom (s.heap.objs.size + 1) scope.names []).lookup y.1).isSome = true) := fun ⟨n, v⟩ hy => by
    rcases S.par n (List.of_mem_zip hy).1 with q | q
    · exact .inl q
    · exact .inr ⟨q, W.cellsFrom_some _ _ _ (.inl q)⟩
  refine codeAny_call_function hr.depth (KX _ _ lk) rfl S.co S.gen rfl (W.codeRec_of KX hcd) (hb _ _ _ _ ?_)
  refine wpAny_newFunctionEnv_cells S.kind hkind fun env he s1 x => ?_
  subst he
  refine ⟨lim.keeps x.toInCall.keep, codeAny_func ?_⟩
  have hq := hbody A outer s H vs Q (hr.deeper _) hg hsp
  have I : Inv (cxF P w K mg base N qual scope f cdv A outer s H) [] (start N vs) H s1 := inv_cxF (inv_start S hr.hd e0 hl r x)
  refine wpAny_mono (hq [] s1 I) (fun fl s' hs => ?_) fun e s' hs => False.elim hs
  have fin : ∀ {σ' : L2.St} {H' : Hp} {v : V} {u : Value}, Inv (cxF P w K mg base N qual scope f cdv A outer s H) [] σ' H' s' → RelV v u → Q v H' → L2.CE outer P w H s Q u s' :=
    fun {σ' H' v u} J rv q => ⟨v, H', J.os, J.bare, J.base, J.hok, rv, q⟩
  cases fl with
  | ret u =>
    obtain ⟨v, σ', H', J, rv, q⟩ := hs
    exact fin J rv q
  | next =>
    obtain ⟨σ', H', J, q⟩ := hs
    exact fin (v := V.non) (u := Value.none) J rfl q
  | brk =>
    obtain ⟨_, _, _, q⟩ := hs
    exact False.elim q
  | cont =>
    obtain ⟨_, _, _, q⟩ := hs
    exact False.elim q

/-! ### all defs of the text -/
structure Df where
  x : Str
  ps : List Str
  N : List Str
  scope : Scope
  body : List Stmt
  cs : List CS
  gen : Bool := false
def Df.G (d : Df) : Gam := { sc := d.scope, fn := fun _ => true, N := d.N, gen := d.gen }
def pgOf (ds : List Df) (kcs : List (Nat × Nat × List Str × List Nat)) : Pg := { fns := ds.map (·.x), prs := ds.map (·.ps), kcs := kcs }
def tabOf (ds : List Df) : List Fd := ds.map fun d => { np := d.ps.length, nn := d.N.length, body := d.cs }
def Df.chk (pg : Pg) (d : Df) : Bool := chkSs (chkS pg dep d.G dep) d.body d.cs
/-- a def as it stands behind the top -/
structure DfOk (K : W.Frag) (mg : Str → Option Value) (base : Heap) (tb : Addr → Prop) (kcs : List (Nat × Nat × List Str × List Nat)) (f : Nat) (d : Df) (a : Addr) (fd : FuncData) : Prop where
  ex : ∃ (qual : Str) (params : Arguments) (oc : Value) (od an : Option Addr) (dV kV doc pm cdv ct : Value) (osl : Array (Option Value)), fd = W.fnOf d.x qual params d.body d.scope dV kV doc pm an cdv ct ∧ K.lookup a = some ⟨oc, od, .func fd, osl⟩ ∧ W.codeIn K cdv qual = true ∧ (d.gen = true → ∃ c P, cdv = .ref c ∧ GxR.TabB base mg c P ∧ tb P)
  kp : W.keepIn K (.ref a) = true
  mg : mg d.x = some (.ref a)
  bind : Binds K fd d.ps []
  kbs : ∀ n ks g, kcs.contains (f, n, ks, g) = true → KbOk fd d.ps n ks g
  sc : FnScope d.N d.ps d.scope
structure AllOk (K : W.Frag) (mg : Str → Option Value) (base : Heap) (tb : Addr → Prop) (kcs : List (Nat × Nat × List Str × List Nat)) (fn : Nat → Option Addr) (ds : List Df) : Prop where
  chk : ds.all (Df.chk (pgOf ds kcs)) = true
  at_ : ∀ f d, ds[f]? = some d → ∃ a fd, fn f = some a ∧ DfOk K mg base tb kcs f d a fd
  of : ∀ f a, fn f = some a → ∃ d, ds[f]? = some d
  blt : ∀ x ∈ (["len", "tuple", "list", "sorted", "int", "min", "max", "sum", "repr", "abs", "any", "all", "range", "enumerate", "zip", "reversed"] : List Str), mg x = none
theorem arOk (ds : List Df) (kcs : List (Nat × Nat × List Str × List Nat)) (n : Nat) : ArOk (pgOf ds kcs) (callF (tabOf ds) n) := by
  intro f as S d S' h
  cases n with
  | zero => cases h
  | succ n =>
    simp only [callF] at h
    split at h
    · cases h
    · rename_i t e
      split at h
      · rename_i hl
        unfold tabOf at e
        rw [List.getElem?_map] at e
        cases ed : ds[f]? with
        | none => rw [ed] at e; cases e
        | some dd =>
          rw [ed] at e
          have e' := Option.some.inj e
          subst e'
          show ((ds.map (·.ps))[f]?.map List.length) = _
          rw [List.getElem?_map, ed, hl]
          rfl
      · cases h
theorem start_lr {fa : Fa} {rho : List Addr} {H : Hp} {as : List D} {vs : List V} {N : List Str} {np : Nat} (r : RL fa rho H as vs) (hl : as.length = np) : LR fa rho H (as.map some ++ List.replicate (N.length - np) none) (start N vs) := by
  subst hl
  unfold L2.start
  refine ⟨by rw [List.length_append, List.length_append, List.length_map, List.length_map, List.length_replicate, List.length_replicate, r.length], fun i d q => ?_⟩
  by_cases hi : i < as.length
  · rw [List.getElem?_append_left (by rw [List.length_map]; exact hi), List.getElem?_map] at q
    cases e : as[i]? with
    | none => rw [e] at q; cases q
    | some d' =>
      rw [e] at q
      have q' := Option.some.inj (Option.some.inj q)
      subst q'
      obtain ⟨v, e2, r2⟩ := r.get e
      exact ⟨v, by rw [List.getElem?_append_left (by rw [List.length_map, ← r.length]; exact hi), List.getElem?_map, e2]; rfl, r2⟩
  · rw [List.getElem?_append_right (by rw [List.length_map]; omega), List.getElem?_replicate] at q
    split at q <;> cases q
theorem fns_ok {P : Program} {w : World} {K : W.Frag} {mg : Str → Option Value} {base : Heap} {kcs : List (Nat × Nat × List Str × List Nat)} {fn : Nat → Option Addr} {tb : Addr → Prop} {ds : List Df} (A : AllOk K mg base tb kcs fn ds) :
    ∀ (n : Nat) (f : Nat) (d : Df) (a : Addr) (fd : FuncData), ds[f]? = some d → fn f = some a → DfOk K mg base tb kcs f d a fd → FnG P w K mg base (8 * n) a fd d.ps (spF fn tb (callF (tabOf ds) n) f d.ps) := by
  intro n
  induction n with
  | zero =>
    intro f d a fd e1 e2 o
    exact ⟨fun vs H Q h => h.1, fun _ _ _ _ _ _ _ _ _ _ _ _ _ h => by obtain ⟨_, _, _, _, _, _, _, _, _, _, z, _⟩ := h; cases z⟩
  | succ n ih =>
    intro f d a fd e1 e2 o
    obtain ⟨qual, params, oc, od, an, dV, kV, doc, pm, cdv, ct, osl, rfl, lk, hcd, hgt⟩ := o.ex
    refine fng_of (k := 8 * n + 7) lk hcd o.sc (fun vs H Q h => h.1) fun A1 outer s H vs Q hr hg hsp => ?_
    obtain ⟨hlen, fa, rho, S, as, d0, S', ⟨hfn, htb⟩, r, sr, hcall, q⟩ := hsp
    have hX : OkS (pgOf ds kcs) fa (callF (tabOf ds) n) (8 * n) 7 d.G (cxF P w K mg base d.N qual d.scope a cdv A1 outer s H) := by
      refine ⟨⟨rfl, rfl, rfl, o.sc.nd, rfl, hg, hr, A.blt, fun f' a' hf' => ?_, fun f' x' hf' => ?_, fun z => ?_⟩, rfl⟩
      · rw [hfn] at hf'
        obtain ⟨d', ed'⟩ := A.of f' a' hf'
        obtain ⟨a2, fd', ha2, o'⟩ := A.at_ f' d' ed'
        rw [hf'] at ha2; cases ha2
        refine ⟨d'.x, d'.ps, fd', ?_, ?_, o'.mg, o'.kp, o'.bind, ?_, o'.kbs⟩
        · show (ds.map (·.x))[f']? = _; rw [List.getElem?_map, ed']; rfl
        · show (ds.map (·.ps))[f']? = _; rw [List.getElem?_map, ed']; rfl
        · rw [hfn, htb]
          exact ih f' d' a' fd' ed' hf' o'
      · have : (ds.map (·.x))[f']? = some x' := hf'
        rw [List.getElem?_map] at this
        cases ed : ds[f']? with
        | none => rw [ed] at this; cases this
        | some d' =>
          obtain ⟨a2, fd', ha2, _⟩ := A.at_ f' d' ed
          exact ⟨a2, by rw [hfn]; exact ha2⟩
      · obtain ⟨c, P, e1, e2, e3⟩ := hgt z
        exact ⟨Nat.le_refl _, c, P, e1, e2, by rw [htb]; exact e3⟩
    have hc : d.chk (pgOf ds kcs) = true := List.all_eq_true.mp A.chk d (List.mem_of_getElem? e1)
    have hS := ss_seq (soundS (arOk ds kcs n) hX dep dep) hc
    have ht : (tabOf ds)[f]? = some { np := d.ps.length, nn := d.N.length, body := d.cs } := by unfold tabOf; rw [List.getElem?_map, e1]; rfl
    simp only [callF] at hcall
    rw [ht] at hcall
    simp only at hcall
    split at hcall
    · rename_i hl
      refine hS _ S rho (start d.N vs) H _ (start_lr r hl) sr ?_
      generalize exSs (exS (evE (callF (tabOf ds) n) dep) dep) d.cs (as.map some ++ List.replicate (d.N.length - d.ps.length) none) S = out at hcall ⊢
      cases out with
      | nx l S1 => cases hcall; exact fun rho' H' σ x s _ => q rho' H' .non x s .non
      | rt v S1 => cases hcall; exact fun rho' H' v x s r => q rho' H' v x s r
      | exc c es S1 => cases hcall
      | bk l S1 => cases hcall
      | ct l S1 => cases hcall
      | stuck => cases hcall
    · cases hcall
end Ev
end
section
set_option linter.all false
set_option Elab.async false
set_option maxRecDepth 100000
set_option maxHeartbeats 4000000
/-! E21: the end of a law: a def's promise where nothing is being shown; tables of code objects. -/
namespace Ev
open PySem PySem.Spec PyProof.Rows L2

section
variable {P : Program} {w : World} {K : W.Frag} {mg mb : Str → Option Value} {k : Nat} {f a : Addr} {cs : List (Addr × Addr)} {fd : FuncData} {x : Str} {sp : List V → Hp → VK → Prop} {st : Shared} {vs : List Value} {ns : List Int}
/-- no object that holds a dict, names or a function is the script or an empty table -/
structure Apt (h : Heap) (H : Hp) (a : Addr) (cs : List (Addr × Addr)) (vs : List Value) : Prop where
  lst : h.get? a = some { cls := .type "list", data := .seq vs.toArray }
  tab : ∀ p ∈ cs, h.get? p.2 = some { cls := .none, data := .fields #[] }
  only : ∀ b, H b ≠ none → b = a ∨ b ∈ cs.map (·.2)
theorem Apt.free {h : Heap} {H : Hp} (A : Apt h H a cs vs) {b : Addr} {o : Obj} (e : h.get? b = some o) (h1 : ∀ us n, o.data ≠ .seq us n) (h2 : o.data ≠ .fields #[]) : H b = none := by
  cases q : H b with
  | none => rfl
  | some u =>
    exfalso
    rcases A.only b (by rw [q]; simp) with e' | e'
    · rw [e', A.lst] at e
      cases e
      exact h1 _ _ rfl
    · obtain ⟨p, hp, ep⟩ := List.mem_map.mp e'
      rw [← ep, A.tab p hp] at e
      cases e
      exact h2 rfl
theorem Apt.names {h : Heap} {H : Hp} (A : Apt h H a cs vs) {b : Addr} {m : Str → Option Value} (q : h.Ns b m) : (hidT h H).Ns b m := by
  obtain ⟨o, es, ep, e, d, r⟩ := q
  refine ⟨o, es, ep, hidT_get e (A.free e (fun us n z => ?_) fun z => ?_), d, r⟩
  · rw [d] at z; cases z
  · rw [d] at z; cases z
theorem run_law {H : Hp} (A : Apt st.heap H a cs vs) (KX : K.In st.heap) (hns : st.heap.Ns mainGlobals mg) (hb : st.heap.Ns builtinsNs mb) (hbb : ∀ x : Str, x ≠ "__name__" → mb x = bootBuiltins x) (hlim : st.heap.NoLimit) (hg : st.gens = #[])
    (hk : ∀ b, H b ≠ none → K.lookup b = none) (C : ∀ p ∈ cs, W.CodeHd st.heap p.1 p.2)
    (hbm : ∃ (bm : Addr) (ob : Obj), mg "__builtins__" = some (.ref bm) ∧ bm ≠ builtinsNs ∧ st.heap.get? bm = some ob ∧ ob.cls = .type "module" ∧ ob.dict = some builtinsNs ∧ ob.data = .plain) (hr : Room k callerA) (hok : HOk P w H st.heap)
    (hH : ∀ p ∈ cs, H p.2 = some (.tbl #[])) (hO : ∀ b, H b = none ∨ b ∈ cs.map (·.2) ∨ ∃ o xs, H b = some (.frz o (.lst xs)))
    (F : ∀ base : Heap, K.In base → base.Ns mainGlobals mg → (∀ p ∈ cs, GxR.TabB base mg p.1 p.2) → FnG P w K mg base k f fd [x] sp) (hbind : ∀ (s : Shared) (u : Value), BindsTo s fd ⟨[u], []⟩ [(x, u)])
    (hsp : sp [.ref a] H (fun v _ => v = .bl true)) :
    codeAny (model P w) callerA (.call (.ref f) ⟨[.ref a], []⟩) (fun r s' => r = .ok (.ret (.bool true)) ∧ OldK st.heap s'.heap ∧ s'.os = st.os ∧ AllBare s'.gens) st := by
  have hKb : K.In (hidT st.heap H) := fun b o e => hidT_get (KX b o e) (by
    cases q : H b with
    | none => rfl
    | some u =>
      have := hk b (by rw [q]; simp)
      rw [e] at this; cases this)
  have hM : L2.Mod K mg (hidT st.heap H) := ⟨hKb, A.names hns, ⟨mb, A.names hb, hbb⟩, let ⟨mc, h1, h2⟩ := hlim; ⟨mc, A.names h1, h2⟩⟩
  have TB : ∀ p ∈ cs, GxR.TabB (hidT st.heap H) mg p.1 p.2 := fun p hp => by
    have hTp := A.tab p hp
    refine ⟨?_, ?_, fun z => ?_⟩
    · obtain ⟨o, us, file, tf, flags, tg, inF, text, tt, e1, r1, r2, r3, r4⟩ := C p hp
      refine ⟨o, us, file, tf, flags, tg, inF, text, tt, hidT_get e1 (A.free e1 (fun us' n z => ?_) fun z => ?_), r1, r2, r3, r4⟩
      · rw [r2] at z; cases z
      · rw [r2] at z
        cases z
        simp at r3
    · obtain ⟨bm, ob, b1, b2, b3, b4, b5, b6⟩ := hbm
      have nG : bm ≠ mainGlobals := fun q => by
        obtain ⟨o, es, ep, e, hd, _⟩ := hns
        rw [q, e] at b3
        cases b3
        rw [hd] at b6; cases b6
      have nP : bm ≠ p.2 := fun q => by
        rw [q, hTp] at b3
        cases b3
        cases b6
      refine ⟨bm, ob, b1, b2, nG, nP, hidT_get b3 (A.free b3 (fun us n z => ?_) fun z => ?_), b4, b5, b6⟩
      · rw [b6] at z; cases z
      · rw [b6] at z; cases z
    · obtain ⟨o, es, ep, e, hd, _⟩ := hns
      rw [z, hTp] at e
      cases e
      cases hd
  have e0 : Env0 P w K mg (hidT st.heap H) callerA [] st H := ⟨rfl, hM, fun b o e => of_hidT e, Nat.le_of_eq (hidT_size _ _), trivial, fun b hb => absurd (show b ∈ ([] : List Addr) from hb) (by simp), hok, .of_eq hg⟩
  refine codeAny_mono ((F _ hKb (A.names hns) TB).run callerA [] st H ⟨[.ref a], []⟩ [.ref a] [.ref a] _ hr rfl e0 (hbind st (.ref a)) (.cons rfl .nil) hsp) fun r s' h => ?_
  cases r with
  | error e => exact h.elim
  | ok fl =>
    cases fl with
    | next => exact h.elim
    | brk => exact h.elim
    | cont => exact h.elim
    | ret u =>
      obtain ⟨v, H', os, bare, un, hok', r', q⟩ := h
      have q' : v = .bl true := q
      subst q'
      obtain rfl : u = Value.bool true := r'
      have grown : ∀ p ∈ cs, ∃ more : Array Value, s'.heap.get? p.2 = some { cls := .none, data := .fields more } := fun p hp => by
        obtain ⟨more, z⟩ := un.tbls p.2 #[] (hH p hp)
        exact ⟨_, hok' p.2 _ z⟩
      have key : ∀ b o, b ∉ cs.map (·.2) → st.heap.get? b = some o → s'.heap.get? b = some o := fun b o nb e => by
        rcases hO b with z | z | ⟨ob, xs, z⟩
        · exact un.keep b o e z (by intro y; exact absurd (show b ∈ ([] : List Addr) from y) (by simp)) (by simp)
        · exact absurd z nb
        · have z2 := un.frzs b ob _ z
          obtain ⟨e1, _⟩ := hok b _ z
          obtain ⟨e2, _⟩ := hok' b _ z2
          rw [e] at e1; cases e1
          exact e2
      refine ⟨rfl, ⟨fun b o e => ?_, fun b o e => ?_⟩, os, bare⟩
      · by_cases hb : b ∈ cs.map (·.2)
        · obtain ⟨p, hp, ep⟩ := List.mem_map.mp hb
          obtain ⟨more, hm⟩ := grown p hp
          rw [← ep] at e ⊢
          rw [A.tab p hp] at e
          cases e
          exact .inr (.inl ⟨((C p hp).tab (A.tab p hp)).isCodeTable, rfl, #[], more, rfl, by rw [Array.empty_append]; exact hm⟩)
        · exact .inl (key b o hb e)
      · by_cases hb : b ∈ cs.map (·.2)
        · obtain ⟨p, hp, ep⟩ := List.mem_map.mp hb
          obtain ⟨more, hm⟩ := grown p hp
          rw [← ep]
          exact ⟨_, hm⟩
        · exact ⟨o, key b o hb e⟩
end
end Ev
end
section
set_option linter.all false
set_option Elab.async false
set_option maxRecDepth 100000
set_option maxHeartbeats 4000000
/-! E22: from the head's facts to the law. -/
namespace Ev
open PySem PySem.Spec PyProof.Rows L2

/-- what the text says of a def -/
structure DfD (kcs : List (Nat × Nat × List Str × List Nat)) (f : Nat) (d : Df) (params : Arguments) : Prop where
  bind : ∀ (kV doc pm : Value) (an : Option Addr) (cdv ct : Value) (us : List Value), us.length = d.ps.length → bindArgs (W.fnOf d.x d.x params d.body d.scope .none kV doc pm an cdv ct) ⟨us, []⟩ = pure (d.ps.zip us)
  kbs : ∀ n ks g, kcs.contains (f, n, ks, g) = true → ∀ (kV doc pm : Value) (an : Option Addr) (cdv ct : Value) (us ws : List Value), us.length = n → ws.length = ks.length →
    bindArgs (W.fnOf d.x d.x params d.body d.scope .none kV doc pm an cdv ct) ⟨us, ks.zip ws⟩ = pure (d.ps.zip (g.map fun j => (us ++ ws).getD j .none))
  sc : FnScope d.N d.ps d.scope
/-- K' holds all of K but the script -/
def Agree (K K' : W.Frag) : Prop := ∀ b o, K.lookup b = some o → (∀ us n, o.data ≠ .seq us n) → K'.lookup b = some o
theorem df_ok {K K' : W.Frag} {mg : Str → Option Value} {base : Heap} {tb : Addr → Prop} {kcs : List (Nat × Nat × List Str × List Nat)} {f : Nat} {d : Df} {params : Arguments} {a : Addr} {fd : FuncData} (F : FunD K d.x d.x params d.body d.scope [] [] a fd) (D : DfD kcs f d params) (ag : Agree K K') (hm : mg d.x = some (.ref a))
    (hg : d.gen = true → ∃ c P, fd.code = .ref c ∧ GxR.TabB base mg c P ∧ tb P) : DfOk K' mg base tb kcs f d a fd := by
  obtain ⟨oc, od, dV, kV, doc, pm, an, cdv, ct, osl, rfl, lk, hcd, hD, hK⟩ := F.ex
  have hdV : dV = .none := by
    rcases hD with ⟨_, e⟩ | ⟨e, _⟩
    · exact e
    · exact absurd rfl e
  subst hdV
  have lk' : K'.lookup a = some ⟨oc, od, .func (W.fnOf d.x d.x params d.body d.scope .none kV doc pm an cdv ct), osl⟩ := ag _ _ lk fun us n z => by cases z
  refine ⟨⟨d.x, params, oc, od, an, .none, kV, doc, pm, cdv, ct, osl, rfl, lk', ?_, fun z => ?_⟩, ?_, hm, ?_, fun n ks g hc s us ws h1 h2 => .of_eq (D.kbs n ks g hc kV doc pm an cdv ct us ws h1 h2), D.sc⟩
  · unfold W.codeIn at hcd ⊢
    split at hcd
    · rename_i c
      split at hcd
      · rename_i vs sl ho
        rw [ag _ _ ho fun us n z => by cases z]
        exact hcd
      · cases hcd
    · cases hcd
  · exact hg z
  · simp only [W.keepIn, lk']
  · exact .all fun us hl => D.bind kV doc pm an cdv ct us hl
theorem lookup_filter {K : W.Frag} {a b : Addr} : (K.filter fun q => !decide (q.1 = a)).lookup b = if b = a then none else K.lookup b := by
  induction K with
  | nil => simp
  | cons q K ih =>
    obtain ⟨c, o⟩ := q
    by_cases hc : c = a
    · rw [List.filter_cons_of_neg (by simp [hc]), ih]
      by_cases hb : b = a
      · rw [if_pos hb, if_pos hb]
      · rw [if_neg hb, if_neg hb, List.lookup_cons]
        have : (b == c) = false := by simp [hc, hb]
        rw [this]
    · rw [List.filter_cons_of_pos (by simp [hc]), List.lookup_cons, ih]
      by_cases hb : b = a
      · have : (b == c) = false := by simp [hb, Ne.symm hc]
        rw [this, if_pos hb, if_pos hb]
      · rw [if_neg hb, if_neg hb, List.lookup_cons]
/-- what the head tells -/
structure HeadG (ds : List Df) (pars : List Arguments) (K : W.Frag) (mg : Str → Option Value) (h : Heap) (cs : List (Addr × Addr)) (fn : Nat → Option Addr) : Prop where
  kin : K.In h
  at_ : ∀ f d, ds[f]? = some d → ∃ a fd params, pars[f]? = some params ∧ fn f = some a ∧ FunD K d.x d.x params d.body d.scope [] [] a fd ∧ mg d.x = some (.ref a) ∧ (d.gen = true → ∃ c P, fd.code = .ref c ∧ (c, P) ∈ cs)
  of : ∀ f a, fn f = some a → ∃ d, ds[f]? = some d
  blt : ∀ x ∈ (["len", "tuple", "list", "sorted", "int", "min", "max", "sum", "repr", "abs", "any", "all", "range", "enumerate", "zip", "reversed"] : List Str), mg x = none
  tab : ∀ p ∈ cs, h.get? p.2 = some { cls := .none, data := .fields #[] }
  out : ∀ p ∈ cs, K.lookup p.2 = none
  hd : ∀ p ∈ cs, W.CodeHd h p.1 p.2
theorem rl_ints {fa : Fa} {rho : List Addr} {H : Hp} : ∀ ns : List Int, RL fa rho H (ns.map D.int) (ns.map V.int)
  | [] => .nil
  | _ :: r => .cons (.int _) (rl_ints r)
theorem walk_G {l : W.OpenLaw} {n N i : Nat} {q : Program} {loose : List Str} {XP : (Str → Option Value) → Heap → Prop} {YP : World → Heap → Prop} {d : DefRec} {ds : List Df} {pars : List Arguments} {kcs : List (Nat × Nat × List Str × List Nat)} {dl : Df} {x : Str}
    (hn : l.most = some n) (hn2 : n ≤ sizeLine) (hdf : d.params.defaults = []) (hr : Room (8 * N) callerA)
    (hi : ds[i]? = some dl) (hps : dl.ps = [x]) (hname : d.name = dl.x) (hlen : pars.length = ds.length)
    (hD : ∀ f d p, ds[f]? = some d → pars[f]? = some p → DfD kcs f d p) (hck : ds.all (Df.chk (pgOf ds kcs)) = true)
    (F : ∀ (w : World) (mg : Str → Option Value) (h : Heap), YP w h → h.Ns mainGlobals mg → ∃ K cs fn, HeadG ds pars K mg h cs fn)
    (run : ∀ ns : List Int, ns.length ≤ n → (∀ z ∈ ns, Builtin.Int.intBits z ≤ 1048576) → ∃ S', callF (tabOf ds) N i [.ref 0] [.fz (ns.map D.int)] = .ok (.bl true) S') :
    W.WalkO q loose XP YP l.row.toRowW d [] (fun f vs => PySem.call f vs) := by
  refine Att.attach_callB hn hdf fun w s₀ st mg mb f0 o pm cd doc a vs ns G Y ho hd hcd hmg hobj hints hlen' hbits hg => ?_
  obtain ⟨K, cs, fn, hh⟩ := F w mg _ Y G.T.g
  obtain ⟨fa0, fd, params, hp, hfn, hF, hm, _⟩ := hh.at_ i dl hi
  have ef : f0 = fa0 := by
    rw [hname] at hmg
    rw [hmg] at hm
    cases hm; rfl
  subst ef
  -- K without the script
  have hex : ∃ K' : W.Frag, K' = K.filter fun q => !decide (q.1 = a) := ⟨_, rfl⟩
  obtain ⟨K', hK'⟩ := hex
  have lk' : ∀ b, K'.lookup b = if b = a then none else K.lookup b := fun b => by rw [hK']; exact lookup_filter
  have ag : Agree K K' := fun b ob e hs => by
    rw [lk', if_neg]
    · exact e
    · intro z
      have := hh.kin b ob e
      rw [z, hobj] at this
      cases this
      exact hs _ _ rfl
  have KX' : K'.In st.heap := fun b ob e => by
    rw [lk'] at e
    split at e
    · cases e
    · exact hh.kin b ob e
  have rv := vals_ints hints
  have lenV := hints.length
  have aT : a ∉ cs.map (·.2) := fun z => by
    obtain ⟨p, hp, e⟩ := List.mem_map.mp z
    have q := hh.tab p hp
    rw [e, hobj] at q
    have z' : Data.seq vs.toArray _ = Data.fields #[] := congrArg Obj.data (Option.some.inj q)
    cases z'
  have memT : ∀ p ∈ cs, p.2 ∈ cs.map (·.2) := fun p hp => List.mem_map.mpr ⟨p, hp, rfl⟩
  have hz : ns.length ≤ sizeLine := Nat.le_trans hlen' hn2
  -- the heap at the start
  have hHex : ∃ H : Hp, H = fun b => if b = a then some (.frz { cls := .type "list", data := .seq vs.toArray } (.lst (ns.map V.int))) else if b ∈ cs.map (·.2) then some (.tbl #[]) else none := ⟨_, rfl⟩
  obtain ⟨H, hH⟩ := hHex
  have Ha : H a = some (.frz { cls := .type "list", data := .seq vs.toArray } (.lst (ns.map V.int))) := by rw [hH]; exact if_pos rfl
  have Hcs : ∀ b, b ∈ cs.map (·.2) → H b = some (.tbl #[]) := fun b hb => by rw [hH]; exact (if_neg (show ¬ b = a from fun z => aT (by rw [← z]; exact hb))).trans (if_pos hb)
  have Hno : ∀ b, b ≠ a → b ∉ cs.map (·.2) → H b = none := fun b h1 h2 => by rw [hH]; exact (if_neg h1).trans (if_neg h2)
  have hT : ∀ p ∈ cs, H p.2 = some (.tbl #[]) := fun p hp => Hcs _ (memT p hp)
  have cases3 : ∀ b, b = a ∨ b ∈ cs.map (·.2) ∨ (b ≠ a ∧ b ∉ cs.map (·.2)) := fun b => by
    by_cases h1 : b = a
    · exact .inl h1
    · by_cases h2 : b ∈ cs.map (·.2)
      · exact .inr (.inl h2)
      · exact .inr (.inr ⟨h1, h2⟩)
  have apt : Apt st.heap H a cs vs := ⟨hobj, hh.tab, fun b hb => by
    rcases cases3 b with h | h | ⟨h1, h2⟩
    · exact .inl h
    · exact .inr h
    · exact absurd (Hno b h1 h2) hb⟩
  have hok : HOk l.prog w H st.heap := fun b u z => by
    rcases cases3 b with h | h | ⟨h1, h2⟩
    · rw [h, Ha] at z
      cases z
      rw [h]
      exact ⟨hobj, by rw [List.length_map]; exact hz, vs, _, rv, hobj⟩
    · rw [Hcs b h] at z
      cases z
      obtain ⟨p, hp, e⟩ := List.mem_map.mp h
      rw [← e]
      exact hh.tab p hp
    · rw [Hno b h1 h2] at z; cases z
  refine run_law (x := x) (fd := fd) (sp := spF fn (fun P => P ∈ cs.map (·.2)) (callF (tabOf ds) N) i [x]) apt KX' G.T.g G.T.b G.T.builtins G.T.nolimit hg (fun b hb => ?_) hh.hd G.T.bmain hr hok hT (fun b => ?_) (fun base hKb hNs hTB => ?_) (fun s u => ?_) ?_
  · rcases apt.only b hb with h | h
    · rw [lk', if_pos h]
    · obtain ⟨p, hp, e⟩ := List.mem_map.mp h
      rw [lk']
      split
      · rfl
      · rw [← e]; exact hh.out p hp
  · rcases cases3 b with h | h | ⟨h1, h2⟩
    · exact .inr (.inr ⟨_, _, by rw [h]; exact Ha⟩)
    · exact .inr (.inl h)
    · exact .inl (Hno b h1 h2)
  · -- all defs keep their promises
    have mk : ∀ f d, ds[f]? = some d → ∃ a fd, fn f = some a ∧ DfOk K' mg base (fun P => P ∈ cs.map (·.2)) kcs f d a fd := fun f d e => by
      obtain ⟨a1, fd1, p1, e1, e2, e3, e4, e5⟩ := hh.at_ f d e
      refine ⟨a1, fd1, e2, df_ok e3 (hD f d p1 e e1) ag e4 fun z => ?_⟩
      obtain ⟨c, P, h1, h2⟩ := e5 z
      exact ⟨c, P, h1, hTB (c, P) h2, memT (c, P) h2⟩
    have all : AllOk K' mg base (fun P => P ∈ cs.map (·.2)) kcs fn ds := ⟨hck, mk, hh.of, hh.blt⟩
    have o := df_ok (mg := mg) (base := base) (tb := fun P => P ∈ cs.map (·.2)) hF (hD i dl params hi hp) ag hm fun z => by
      obtain ⟨a1, fd1, p1, e1, e2, e3, e4, e5⟩ := hh.at_ i dl hi
      rw [hfn] at e2
      cases e2
      obtain ⟨c, P, h1, h2⟩ := e5 z
      obtain ⟨oc, od, dV, kV, doc', pm', an, cdv, ct, osl, q1, lk, _⟩ := hF.ex
      obtain ⟨oc2, od2, dV2, kV2, doc2, pm2, an2, cdv2, ct2, osl2, q2, lk2, _⟩ := e3.ex
      rw [lk] at lk2
      injection lk2 with lk2
      injection lk2 with _ _ lk2 _
      injection lk2 with lk2
      exact ⟨c, P, by rw [lk2]; exact h1, hTB (c, P) h2, memT (c, P) h2⟩
    have := fns_ok (P := l.prog) (w := w) all N i dl f0 fd hi hfn o
    rw [hps] at this
    exact this
  · have b := FunD.bindsA (ps := [x]) hF fun kV doc pm an cdv ct us hl => by
      have := (hD i dl params hi hp).bind kV doc pm an cdv ct us (by rw [hps]; exact hl)
      rw [hps] at this
      exact this
    exact b s [u] rfl
  · obtain ⟨S', hrun⟩ := run ns hlen' hbits
    refine ⟨rfl, { fn := fn, pv := fun _ => False, tb := fun P => P ∈ cs.map (·.2) }, [a], [.fz (ns.map D.int)], [.ref 0], .bl true, S', ⟨rfl, rfl⟩, .cons (.ref rfl) .nil, ?_, hrun, fun rho' H' v x s r => r.bl_of⟩
    refine ⟨rfl, by simp, fun m c e => ?_, fun b z => z.elim, fun P hP => ⟨#[], Hcs P hP, ?_⟩⟩
    · cases m with
      | zero =>
        cases e
        exact ⟨a, rfl, _, _, Ha, rl_ints ns⟩
      | succ m => simp at e
    all_goals first | trivial | rfl | simp [TriplesOk] | decide
end Ev
end
section
set_option linter.all false
set_option Elab.async false
set_option maxRecDepth 100000
set_option maxHeartbeats 4000000
/-! E23: what the head's hook says, as what the law's walk asks; the name of the row is put in by the proof of each law. -/
namespace Ev
open PySem PySem.Spec PyProof.Rows L2
def bltN : List Str := ["len", "tuple", "list", "sorted", "int", "min", "max", "sum", "repr", "abs", "any", "all", "range", "enumerate", "zip", "reversed"]
def dfnOf (ds : List Df) (pars : List Arguments) : List He.DefD := (ds.zip pars).map fun q => ⟨(q.1.x, none), q.1.x, q.1.x, q.2, q.1.body, q.1.scope, [], []⟩
def faOf (ds : List Df) : List He.Fa := ds.map (fun d => .glo d.x) ++ bltN.map .free
def tfOf (ds : List Df) : List He.Defn := (ds.filter (·.gen)).map fun d => (d.x, none)
theorem headG_of {ds : List Df} {pars : List Arguments} {ex : W.Frag → Bool} {w : World} {h : Heap} {K : W.Frag} {mg : Str → Option Value} (hl : pars.length = ds.length) (KX : K.In h) (G : h.Ns mainGlobals mg) (c : He.SaysX (faOf ds) (dfnOf ds pars) [] (tfOf ds) ex w h K) :
    HeadG ds pars K mg h ((tfOf ds).map (He.cT K)) (fun f => (ds[f]?).map fun d => He.ga K d.x) := by
  have cd := c.t.d
  refine ⟨KX, fun f d e => ?_, fun f a e => ?_, fun x hx => ?_, fun p hp => ?_, fun p hp => ?_, fun p hp => ?_⟩
  · have hf : f < pars.length := by rw [hl]; exact (List.getElem?_eq_some_iff.mp e).1
    obtain ⟨fd, F⟩ := cd.def_ f (d := ⟨(d.x, none), d.x, d.x, pars[f], d.body, d.scope, [], []⟩) (by
      unfold dfnOf
      rw [List.getElem?_map, List.getElem?_zip_eq_some (z := (d, pars[f])) |>.mpr ⟨e, List.getElem?_eq_getElem hf⟩]
      rfl)
    refine ⟨He.ga K d.x, fd, pars[f], List.getElem?_eq_getElem hf, by rw [e]; rfl, F, He.glo_ok KX G (cd.facts (List.mem_append_left _ (List.mem_map.mpr ⟨d, List.mem_of_getElem? e, rfl⟩))), fun hg => ?_⟩
    obtain ⟨oc, od, dV, kV, doc, pm, an, cdv, ct, osl, q1, lk, hcd, _, _⟩ := F.ex
    obtain ⟨cc, rfl⟩ := He.codeIn_ref hcd
    have e2 : He.codeOf K (d.x, none) = cc := He.codeOf_eq (p := (d.x, none)) (by exact lk) (by rw [q1])
    refine ⟨cc, He.tabOf K cc, by rw [q1], List.mem_map.mpr ⟨(d.x, none), List.mem_map.mpr ⟨d, List.mem_filter.mpr ⟨List.mem_of_getElem? e, hg⟩, rfl⟩, ?_⟩⟩
    unfold He.cT
    rw [e2]
  · cases q : ds[f]? with
    | none => rw [q] at e; cases e
    | some d => exact ⟨d, rfl⟩
  · exact He.free_ok KX G (cd.facts (List.mem_append_right _ (List.mem_map.mpr ⟨x, hx, rfl⟩)))
  · obtain ⟨q, hq, rfl⟩ := List.mem_map.mp hp
    exact c.empty q hq
  · obtain ⟨q, hq, rfl⟩ := List.mem_map.mp hp
    exact c.out q hq
  · obtain ⟨q, hq, rfl⟩ := List.mem_map.mp hp
    exact W.codeHd_of_K KX (c.hd q hq)
end Ev
end
section
set_option linter.all false
/-! M1: the evaluator's steps as simp rules in one normal form (Option.elim, if); typed values. -/
namespace Ev
open PySem L2
theorem nrfl {α : Sort u} {a b : α} (h : a = b) : a = b := h
def tmR {α : Type} (o : Option Bool) (A B : R3 α) : R3 α := match o with
  | some true => A | some false => B | none => .stuck
def tmO (o : Option Bool) (A B : Out) : Out := match o with
  | some true => A | some false => B | none => .stuck
@[simp] theorem tmR_b {α : Type} {b : Bool} {A B : R3 α} : tmR (some b) A B = if b = true then A else B := by cases b <;> rfl
@[simp] theorem tmR_n {α : Type} {A B : R3 α} : tmR none A B = .stuck := nrfl rfl
@[simp] theorem tmO_b {b : Bool} {A B : Out} : tmO (some b) A B = if b = true then A else B := by cases b <;> rfl
@[simp] theorem tmO_n {A B : Out} : tmO none A B = .stuck := nrfl rfl
def Out.fin : Out → R3 D
  | .nx _ S1 => .ok .non S1 | .rt v S1 => .ok v S1 | .exc c es S1 => .exc c es S1 | _ => .stuck
section
variable {α β : Type} {S : Sto}
@[simp] theorem b_ok {a : α} {f : α → Sto → R3 β} : (R3.ok a S).bind f = f a S := nrfl rfl
@[simp] theorem b_st {f : α → Sto → R3 β} : (R3.stuck).bind f = .stuck := nrfl rfl
@[simp] theorem b_if {c : Prop} [Decidable c] {a b : R3 α} {f : α → Sto → R3 β} : (if c then a else b).bind f = if c then a.bind f else b.bind f := by split <;> rfl
@[simp] theorem b_el {γ : Type} {o : Option γ} {g : γ → R3 α} {f : α → Sto → R3 β} : (o.elim R3.stuck g).bind f = o.elim R3.stuck fun a => (g a).bind f := by cases o <;> rfl
@[simp] theorem o_ok {a : α} {f : α → Sto → Out} : (R3.ok a S).out f = f a S := nrfl rfl
@[simp] theorem o_st {f : α → Sto → Out} : (R3.stuck).out f = .stuck := nrfl rfl
@[simp] theorem o_if {c : Prop} [Decidable c] {a b : R3 α} {f : α → Sto → Out} : (if c then a else b).out f = if c then a.out f else b.out f := by split <;> rfl
@[simp] theorem o_el {γ : Type} {o : Option γ} {g : γ → R3 α} {f : α → Sto → Out} : (o.elim R3.stuck g).out f = o.elim Out.stuck fun a => (g a).out f := by cases o <;> rfl
@[simp] theorem q_nx {l : Loc} {f : Loc → Sto → Out} : (Out.nx l S).seq f = f l S := nrfl rfl
@[simp] theorem q_rt {d : D} {f : Loc → Sto → Out} : (Out.rt d S).seq f = .rt d S := nrfl rfl
@[simp] theorem q_st {f : Loc → Sto → Out} : (Out.stuck).seq f = .stuck := nrfl rfl
@[simp] theorem q_exc {c ds} {f : Loc → Sto → Out} : (Out.exc c ds S).seq f = .exc c ds S := nrfl rfl
@[simp] theorem q_if {c : Prop} [Decidable c] {a b : Out} {f : Loc → Sto → Out} : (if c then a else b).seq f = if c then a.seq f else b.seq f := by split <;> rfl
@[simp] theorem q_el {γ : Type} {o : Option γ} {g : γ → Out} {f : Loc → Sto → Out} : (o.elim Out.stuck g).seq f = o.elim Out.stuck fun a => (g a).seq f := by cases o <;> rfl
@[simp] theorem f_nx {l : Loc} : (Out.nx l S).fin = .ok .non S := nrfl rfl
@[simp] theorem f_rt {d : D} : (Out.rt d S).fin = .ok d S := nrfl rfl
@[simp] theorem f_st : (Out.stuck).fin = .stuck := nrfl rfl
@[simp] theorem f_exc {c ds} : (Out.exc c ds S).fin = .exc c ds S := nrfl rfl
@[simp] theorem f_if {c : Prop} [Decidable c] {a b : Out} : (if c then a else b).fin = if c then a.fin else b.fin := by split <;> rfl
@[simp] theorem f_el {γ : Type} {o : Option γ} {g : γ → Out} : (o.elim Out.stuck g).fin = o.elim R3.stuck fun a => (g a).fin := by cases o <;> rfl
theorem bind_cg {x y : R3 α} {f : α → Sto → R3 β} (h : x = y) : x.bind f = y.bind f := by rw [h]
theorem out_cg {x y : R3 α} {f : α → Sto → Out} (h : x = y) : x.out f = y.out f := by rw [h]
theorem seq_cg {x y : Out} {f : Loc → Sto → Out} (h : x = y) : x.seq f = y.seq f := by rw [h]
@[simp] theorem of_el {o : Option α} : R3.of o S = o.elim .stuck fun a => .ok a S := by cases o <;> rfl
end
section
variable {α β γ : Type}
@[simp] theorem el_map {o : Option α} {f : α → β} {d : γ} {g : β → γ} : (o.map f).elim d g = o.elim d fun a => g (f a) := by cases o <;> rfl
@[simp] theorem el_bind {o : Option α} {f : α → Option β} {d : γ} {g : β → γ} : (o.bind f).elim d g = o.elim d fun a => (f a).elim d g := by cases o <;> rfl
@[simp] theorem el_if {c : Prop} [Decidable c] {a b : Option α} {d : γ} {g : α → γ} : (if c then a else b).elim d g = if c then a.elim d g else b.elim d g := by split <;> rfl
@[simp] theorem comp_d {f : β → γ} {g : α → β} : f ∘ g = fun x => f (g x) := nrfl rfl
@[simp] theorem el_el {o : Option α} {f : α → Option β} {d : γ} {g : β → γ} : (o.elim none f).elim d g = o.elim d fun a => (f a).elim d g := by cases o <;> rfl
end
section
variable {F : Nat → List D → Sto → R3 D} {n : Nat} {l : Loc} {S : Sto}
@[simp] theorem e_v {i} : evE F (n+1) (.v i) l S = (l[i]?).elim .stuck fun o => o.elim .stuck fun d => .ok d S := by
  show (match l[i]? with | some (some d) => R3.ok d S | _ => .stuck) = _
  cases l[i]? with
  | none => rfl
  | some o => cases o <;> rfl
@[simp] theorem e_k {d} : evE F (n+1) (.k d) l S = .ok d S := nrfl rfl
@[simp] theorem e_g {f} : evE F (n+1) (.g f) l S = .ok (.fn f) S := nrfl rfl
@[simp] theorem e_tup {es} : evE F (n+1) (.tup es) l S = (evL (evE F n) es l S).bind fun ds S1 => if lenOk ds.length = true then .ok (.tup ds) S1 else .stuck := nrfl rfl
@[simp] theorem e_lst {mu es} : evE F (n+1) (.lst mu es) l S = (evL (evE F n) es l S).bind fun ds S1 => if lenOk ds.length = true then mkR mu (.lst ds) S1 else .stuck := nrfl rfl
@[simp] theorem e_bin {o a b} : evE F (n+1) (.bin o a b) l S = (evE F n a l S).bind fun x S1 => (evE F n b l S1).bind fun y S2 => R3.of (binD S2 o x y) S2 := nrfl rfl
def negD : D → Option D | .int i => some (.int (-i)) | _ => none
@[simp] theorem negD_i {i} : negD (.int i) = some (.int (-i)) := nrfl rfl
@[simp] theorem e_neg {a} : evE F (n+1) (.neg a) l S = (evE F n a l S).bind fun x S1 => R3.of (negD x) S1 := by
  show (evE F n a l S).bind (fun x S1 => match x with | D.int i => R3.ok (D.int (-i)) S1 | _ => R3.stuck) = _
  congr 1
  funext x S1
  cases x <;> rfl
@[simp] theorem e_cmp {o a b} : evE F (n+1) (.cmp o a b) l S = (evE F n a l S).bind fun x S1 => (evE F n b l S1).bind fun y S2 => R3.of ((cmpD S2 o x y).map .bl) S2 := nrfl rfl
@[simp] theorem e_chain {o p a b c} : evE F (n+1) (.chain o p a b c) l S = (evE F n a l S).bind fun x S1 => (evE F n b l S1).bind fun y S2 => tmR (cmpD S2 o x y) ((evE F n c l S2).bind fun z S3 => R3.of ((cmpD S3 p y z).map .bl) S3) (.ok (.bl false) S2) := nrfl rfl
@[simp] theorem e_and {a b} : evE F (n+1) (.and a b) l S = (evE F n a l S).bind fun x S1 => tmR (truth S1 x) (evE F n b l S1) (.ok x S1) := nrfl rfl
@[simp] theorem e_or {a b} : evE F (n+1) (.or a b) l S = (evE F n a l S).bind fun x S1 => tmR (truth S1 x) (.ok x S1) (evE F n b l S1) := nrfl rfl
@[simp] theorem e_not {a} : evE F (n+1) (.not a) l S = (evE F n a l S).bind fun x S1 => R3.of ((truth S1 x).map fun b => .bl (!b)) S1 := by
  show (evE F n a l S).bind (fun x S1 => match truth S1 x with | some b => R3.ok (D.bl (!b)) S1 | none => R3.stuck) = _
  congr 1
  funext x S1
  cases truth S1 x <;> rfl
@[simp] theorem e_ife {c a b} : evE F (n+1) (.ife c a b) l S = (evE F n c l S).bind fun x S1 => tmR (truth S1 x) (evE F n a l S1) (evE F n b l S1) := nrfl rfl
@[simp] theorem e_ix {a b} : evE F (n+1) (.ix a b) l S = (evE F n a l S).bind fun x S1 => (evE F n b l S1).bind fun y S2 => R3.of (ixD S2 x y) S2 := nrfl rfl
@[simp] theorem e_sl {a lo hi} : evE F (n+1) (.sl a lo hi) l S = (evE F n a l S).bind fun x S1 => (evO (evE F n) lo l S1).bind fun p S2 => (evO (evE F n) hi l S2).bind fun q S3 => R3.of (slD S3 x p q) S3 := nrfl rfl
@[simp] theorem e_rev {a} : evE F (n+1) (.rev a) l S = (evE F n a l S).bind fun x S1 => R3.of (revD S1 x) S1 := nrfl rfl
@[simp] theorem e_call {f es} : evE F (n+1) (.call f es) l S = (evL (evE F n) es l S).bind fun ds S1 => F f ds S1 := nrfl rfl
@[simp] theorem e_callk {f es ks} : evE F (n+1) (.callk f es ks) l S = (evL (evE F n) es l S).bind fun ds S1 => if ks.length = ds.length then F f (ks.map fun i => ds.getD i .non) S1 else .stuck := nrfl rfl
@[simp] theorem e_bi {mu b es} : evE F (n+1) (.bi mu b es) l S = (evL (evE F n) es l S).bind fun ds S1 => (biD S1 b ds).elim .stuck fun d => mkR mu d S1 := by
  show (evL (evE F n) es l S).bind (fun ds S1 => match biD S1 b ds with | some d => mkR mu d S1 | none => .stuck) = _
  congr 1
  funext ds S1
  cases biD S1 b ds <;> rfl
@[simp] theorem e_tr {t mu es} : evE F (n+1) (.tr t mu es) l S = (evL (evE F n) es l S).bind fun ds S1 => (rgB ds).elim .stuck fun q => if rgOk q.1 q.2 = true then (if t then .ok (.tup (rgD q.1 q.2)) S1 else mkR mu (.lst (rgD q.1 q.2)) S1) else .stuck := by
  show (evL (evE F n) es l S).bind (fun ds S1 => match rgB ds with | some (a, b) => _ | none => .stuck) = _
  congr 1
  funext ds S1
  cases rgB ds <;> rfl
@[simp] theorem e_me {m o es} : evE F (n+1) (.me m o es) l S = (evE F n o l S).bind fun x S1 => if isLst (D.read S1 x) = true then (evL (evE F n) es l S1).bind fun ds S2 => meD m x ds S2 else .stuck := nrfl rfl
theorem e_lc {mu own tg it ifs elt} : evE F (n+1) (.lc mu own tg it ifs elt) l S = (evI (evE F n) it l S).bind fun J S1 => (evC (evE F n) J tg ifs elt (wipeL l own) turns 0 S1 []).bind fun xs S2 => mkR mu (.lst xs) S2 := nrfl rfl
theorem e_gn_tuple {mu own tg it ifs elt} : evE F (n+1) (.gn mu .tuple own tg it ifs elt) l S = (evI (evE F n) it l S).bind fun J S1 => (evC (evE F n) J tg ifs elt (wipeL l own) turns 0 S1 []).bind fun xs S2 => mkR mu (.tup xs) S2 := nrfl rfl
theorem e_gn_sorted {mu own tg it ifs elt} : evE F (n+1) (.gn mu .sorted own tg it ifs elt) l S = (evI (evE F n) it l S).bind fun J S1 => (evC (evE F n) J tg ifs elt (wipeL l own) turns 0 S1 []).bind fun xs S2 => if sortOk xs = true then mkR mu (.lst (sortD xs)) S2 else .stuck := by
  show (evI (evE F n) it l S).bind (fun J S1 => (evC (evE F n) J tg ifs elt (wipeL l own) turns 0 S1 []).bind fun xs S2 => match biD S2 .sorted [.lst xs] with | some d => mkR mu d S2 | none => .stuck) = _
  congr 1
  funext J S1
  congr 1
  funext xs S2
  show (match (if sortOk xs then some (D.lst (sortD xs)) else none) with | some d => mkR mu d S2 | none => .stuck) = _
  split <;> rename_i h <;> simp_all
end
section
variable {ev : CE → Loc → Sto → R3 D} {n : Nat} {l : Loc} {S : Sto}
@[simp] theorem l_nil : evL ev [] l S = .ok [] S := nrfl rfl
@[simp] theorem l_cons {e es} : evL ev (e :: es) l S = (ev e l S).bind fun d S1 => (evL ev es l S1).bind fun ds S2 => .ok (d :: ds) S2 := nrfl rfl
@[simp] theorem evO_n : evO ev none l S = .ok none S := nrfl rfl
def intO : D → Option Int | .int i => some i | _ => none
@[simp] theorem intO_i {i} : intO (.int i) = some i := nrfl rfl
@[simp] theorem evO_s {e} : evO ev (some e) l S = (ev e l S).bind fun d S1 => (intO d).elim .stuck fun i => .ok (some i) S1 := by
  show (ev e l S).bind (fun d S1 => match d with | D.int i => R3.ok (some i) S1 | _ => R3.stuck) = _
  congr 1
  funext d S1
  cases d <;> rfl
@[simp] theorem i_of {e} : evI ev (.of e) l S = (ev e l S).bind fun d S1 => R3.of ((srcD S1 d).map .one) S1 := nrfl rfl
@[simp] theorem i_rng {es} : evI ev (.rng es) l S = (evL ev es l S).bind fun ds S1 => R3.of (rngD ds) S1 := nrfl rfl
@[simp] theorem i_enum {e} : evI ev (.enum e) l S = (ev e l S).bind fun d S1 => R3.of ((srcD S1 d).map .enum) S1 := nrfl rfl
@[simp] theorem i_zip {a b} : evI ev (.zip a b) l S = (ev a l S).bind fun x S1 => (ev b l S1).bind fun y S2 => R3.of (zipD S2 x y) S2 := nrfl rfl
@[simp] theorem i_revd {e} : evI ev (.revd e) l S = (ev e l S).bind fun d S1 => R3.of ((flatD d).map fun xs => .one (.vals xs.reverse)) S1 := nrfl rfl
@[simp] theorem ss_nil {ex : CS → Loc → Sto → Out} : exSs ex [] l S = .nx l S := nrfl rfl
@[simp] theorem ss_cons {ex : CS → Loc → Sto → Out} {s r} : exSs ex (s :: r) l S = (ex s l S).seq fun l1 S1 => exSs ex r l1 S1 := nrfl rfl
@[simp] theorem s_iff {c a b} : exS ev (n+1) (.iff c a b) l S = (ev c l S).out fun d S1 => tmO (truth S1 d) (exSs (exS ev n) a l S1) (exSs (exS ev n) b l S1) := nrfl rfl
@[simp] theorem s_ret {e} : exS ev (n+1) (.ret (some e)) l S = (ev e l S).out fun d S1 => .rt d S1 := nrfl rfl
@[simp] theorem s_ret0 : exS ev (n+1) (.ret none) l S = .rt .non S := nrfl rfl
@[simp] theorem s_asg {t e} : exS ev (n+1) (.asg t e) l S = (ev e l S).out fun d S1 => (asgT S1 t d l).elim .stuck fun l1 => .nx l1 S1 := by
  show (ev e l S).out (fun d S1 => match asgT S1 t d l with | some l1 => .nx l1 S1 | none => .stuck) = _
  congr 1
  funext d S1
  cases asgT S1 t d l <;> rfl
@[simp] theorem s_par {is es} : exS ev (n+1) (.par is es) l S = (evL ev es l S).out fun ds S1 => if is.length = ds.length then .nx (parL is ds l) S1 else .stuck := nrfl rfl
@[simp] theorem s_ex {e} : exS ev (n+1) (.ex e) l S = (ev e l S).out fun _ S1 => .nx l S1 := nrfl rfl
@[simp] theorem s_pass : exS ev (n+1) .pass l S = .nx l S := nrfl rfl
@[simp] theorem s_brk : exS ev (n+1) .brk l S = .bk l S := nrfl rfl
@[simp] theorem s_cont : exS ev (n+1) .cont l S = .ct l S := nrfl rfl
@[simp] theorem s_rse {c es} : exS ev (n+1) (.rse c es) l S = (evL ev es l S).out fun ds S1 => .exc c ds S1 := nrfl rfl
theorem s_for {t it body} : exS ev (n+1) (.fors t it body) l S = (evI ev it l S).out fun J S1 => forL J t (exSs (exS ev n) body) turns 0 l S1 := nrfl rfl
theorem s_whl {c body} : exS ev (n+1) (.whl c body) l S = whlL (ev c) (exSs (exS ev n) body) turns l S := nrfl rfl
@[simp] theorem asg_nm {i d} : asgT S (.nm i) d l = some (l.set i (some d)) := nrfl rfl
@[simp] theorem asg_t2 {t u a b} : asgT S (.tp [t, u]) (.tup [a, b]) l = (asgT S t a l).bind fun l1 => asgT S u b l1 := by
  show (match asgT S t a l with | some l1 => (match asgT S u b l1 with | some l2 => some l2 | none => none) | none => none) = _
  cases asgT S t a l with
  | none => rfl
  | some l1 => cases h : asgT S u b l1 <;> simp [h]
@[simp] theorem par_2 {i j a b} : parL [i, j] [a, b] l = (l.set i (some a)).set j (some b) := nrfl rfl
@[simp] theorem wipe_0 : wipeL l [] = l := nrfl rfl
@[simp] theorem wipe_s {v vs} : wipeL l (v :: vs) = (wipeL l vs).set v none := nrfl rfl
@[simp] theorem ifs_0 : evIfs ev [] l S = .ok true S := nrfl rfl
@[simp] theorem ifs_s {e es} : evIfs ev (e :: es) l S = (ev e l S).bind fun d S1 => tmR (truth S1 d) (evIfs ev es l S1) (.ok false S1) := nrfl rfl
end
/-! ### data -/
section
variable {S : Sto} {i j : Int} {xs ys : List D} {x y : D}
theorem len_le {n : Nat} (h : n ≤ 16777216) : lenOk n = true := decide_eq_true h
@[simp] theorem len0 : lenOk 0 = true := nrfl rfl
@[simp] theorem len1 : lenOk 1 = true := nrfl rfl
@[simp] theorem len2 : lenOk 2 = true := nrfl rfl
@[simp] theorem len3 : lenOk 3 = true := nrfl rfl
@[simp] theorem len4 : lenOk 4 = true := nrfl rfl
@[simp] theorem len5 : lenOk 5 = true := nrfl rfl
@[simp] theorem mkR_f {d : D} : mkR false d S = .ok d S := nrfl rfl
@[simp] theorem mkR_t : mkR true (.lst xs) S = .ok (.ref S.length) (S ++ [.lst xs]) := nrfl rfl
@[simp] theorem tr_bl {b : Bool} : truth S (.bl b) = some b := nrfl rfl
@[simp] theorem tr_non : truth S .non = some false := nrfl rfl
@[simp] theorem tr_int : truth S (.int i) = some (!decide (i = 0)) := nrfl rfl
@[simp] theorem tr_tup : truth S (.tup xs) = some (!xs.isEmpty) := nrfl rfl
@[simp] theorem tr_lst : truth S (.lst xs) = some (!xs.isEmpty) := nrfl rfl
@[simp] theorem bin_add : binD S .add (.int i) (.int j) = some (.int (i + j)) := nrfl rfl
@[simp] theorem bin_sub : binD S .sub (.int i) (.int j) = some (.int (i - j)) := nrfl rfl
@[simp] theorem bin_mul : binD S .mul (.int i) (.int j) = if mulOk i j = true then some (.int (i * j)) else none := nrfl rfl
@[simp] theorem bin_mod : binD S .mod (.int i) (.int j) = if 0 < j then some (.int (i % j)) else none := nrfl rfl
@[simp] theorem bin_fdiv : binD S .fdiv (.int i) (.int j) = if 0 < j ∧ j < 1073741824 then some (.int (i / j)) else none := nrfl rfl
@[simp] theorem bin_tt : binD S .add (.tup xs) (.tup ys) = if lenOk (xs.length + ys.length) = true then some (.tup (xs ++ ys)) else none := nrfl rfl
@[simp] theorem bin_ll : binD S .add (.lst xs) (.lst ys) = if lenOk (xs.length + ys.length) = true then some (.lst (xs ++ ys)) else none := nrfl rfl
@[simp] theorem c_eq : cmpD S .eq (.int i) (.int j) = some (decide (i = j)) := nrfl rfl
@[simp] theorem c_ne : cmpD S .ne (.int i) (.int j) = some (!decide (i = j)) := nrfl rfl
@[simp] theorem c_lt : cmpD S .lt (.int i) (.int j) = some (decide (i < j)) := nrfl rfl
@[simp] theorem c_gt : cmpD S .gt (.int i) (.int j) = some (decide (j < i)) := nrfl rfl
@[simp] theorem c_le : cmpD S .le (.int i) (.int j) = some (decide (i ≤ j)) := by
  show some (!decide (j < i)) = _
  by_cases h : i ≤ j
  · rw [decide_eq_true h, decide_eq_false (by omega)]; rfl
  · rw [decide_eq_false h, decide_eq_true (by omega)]; rfl
@[simp] theorem c_ge : cmpD S .ge (.int i) (.int j) = some (decide (j ≤ i)) := by
  show some (!decide (i < j)) = _
  by_cases h : j ≤ i
  · rw [decide_eq_true h, decide_eq_false (by omega)]; rfl
  · rw [decide_eq_false h, decide_eq_true (by omega)]; rfl
@[simp] theorem c_beq {a b : Bool} : cmpD S .eq (.bl a) (.bl b) = some (a == b) := by cases a <;> cases b <;> rfl
def isNonD : D → Bool | .non => true | _ => false
@[simp] theorem c_is : cmpD S .is_ x .non = some (isNonD x) := by cases x <;> rfl
@[simp] theorem c_isn : cmpD S .isnot x .non = some (!isNonD x) := by cases x <;> rfl
@[simp] theorem isNon_0 : isNonD .non = true := nrfl rfl
@[simp] theorem isNon_i : isNonD (.int i) = false := nrfl rfl
@[simp] theorem isNon_t : isNonD (.tup xs) = false := nrfl rfl
def oI : Option Int → D | some i => .int i | none => .non
@[simp] theorem oI_s : oI (some i) = .int i := nrfl rfl
@[simp] theorem oI_n : oI none = .non := nrfl rfl
@[simp] theorem isNon_o {o} : isNonD (oI o) = o.isNone := by cases o <;> rfl
@[simp] theorem ixT : ixD S (.tup xs) (.int i) = atI xs i := nrfl rfl
@[simp] theorem ix_lst : ixD S (.lst xs) (.int i) = atI xs i := nrfl rfl
theorem at_nn {α : Type} {xs : List α} {i : Int} (h : 0 ≤ i) : atI xs i = xs[i.toNat]? := by
  unfold atI ixN
  by_cases hl : i < (xs.length : Int)
  · simp [h, hl]
  · have : ¬ i.toNat < xs.length := by omega
    simp [h, hl]
@[simp] theorem at_0 {α : Type} {a : α} {r : List α} : atI (a :: r) 0 = some a := by rw [at_nn (by decide)]; rfl
@[simp] theorem at_1 {α : Type} {a b : α} {r : List α} : atI (a :: b :: r) 1 = some b := by rw [at_nn (by decide)]; rfl
@[simp] theorem at_2 {α : Type} {a b c : α} {r : List α} : atI (a :: b :: c :: r) 2 = some c := by rw [at_nn (by decide)]; rfl
@[simp] theorem at_map {α β : Type} {xs : List α} {f : α → β} {i : Int} : atI (xs.map f) i = (atI xs i).map f := by
  unfold atI
  rw [List.length_map]
  cases ixN xs.length i with
  | none => rfl
  | some k => simp
@[simp] theorem bi_len_t : biD S .len [.tup xs] = some (.int xs.length) := nrfl rfl
@[simp] theorem bi_len_l : biD S .len [.lst xs] = some (.int xs.length) := nrfl rfl
@[simp] theorem bi_tup_t : biD S .tuple [.tup xs] = some (.tup xs) := nrfl rfl
@[simp] theorem bi_tup_l : biD S .tuple [.lst xs] = some (.tup xs) := nrfl rfl
@[simp] theorem bi_lst_t : biD S .list [.tup xs] = some (.lst xs) := nrfl rfl
@[simp] theorem bi_lst_l : biD S .list [.lst xs] = some (.lst xs) := nrfl rfl
@[simp] theorem bi_int : biD S .int [.int i] = some (.int i) := nrfl rfl
@[simp] theorem rev_t : revD S (.tup xs) = some (.tup xs.reverse) := nrfl rfl
@[simp] theorem rev_l : revD S (.lst xs) = some (.lst xs.reverse) := nrfl rfl
@[simp] theorem sl_t {lo hi} : slD S (.tup xs) lo hi = some (.tup (cut xs lo hi)) := nrfl rfl
@[simp] theorem sl_l {lo hi} : slD S (.lst xs) lo hi = some (.lst (cut xs lo hi)) := nrfl rfl
@[simp] theorem src_t : srcD S (.tup xs) = some (.vals xs) := nrfl rfl
@[simp] theorem src_l : srcD S (.lst xs) = some (.vals xs) := nrfl rfl
@[simp] theorem cut_map {α β : Type} {xs : List α} {f : α → β} {lo hi} : cut (xs.map f) lo hi = (cut xs lo hi).map f := by
  unfold cut
  rw [List.length_map, List.map_take, List.map_drop]
end
theorem call_def {tab : List Fd} {f n : Nat} {d : Fd} (h : tab[f]? = some d) {ds : List D} {S : Sto} :
    callF tab (n+1) f ds S = if ds.length = d.np then (exSs (exS (evE (callF tab n) 60) 60) d.body (ds.map some ++ List.replicate (d.nn - d.np) none) S).fin else .stuck := by
  simp only [callF, h]
  split
  · unfold dep Out.fin
    split <;> simp_all
  · rfl
/-! ### walks of comprehensions and loops -/
def enumI {α : Type} : Int → List α → List (Int × α)
  | _, [] => []
  | i, x :: r => (i, x) :: enumI (i + 1) r
theorem enumI_get {α : Type} : ∀ (xs : List α) (i : Int) (k : Nat), (enumI i xs)[k]? = xs[k]?.map fun x => (i + k, x)
  | [], _, _ => by simp [enumI]
  | x :: r, i, 0 => by simp [enumI]
  | x :: r, i, k + 1 => by
    simp only [enumI, List.getElem?_cons_succ, enumI_get r (i + 1) k]
    congr 1
    funext y
    rw [show i + 1 + (k : Int) = i + ((k + 1 : Nat) : Int) from by omega]
@[simp] theorem enumI_len {α : Type} : ∀ (xs : List α) (i : Int), (enumI i xs).length = xs.length
  | [], _ => rfl
  | x :: r, i => by simp [enumI, enumI_len r]
/-- what is walked, as a row of values -/
def Row (it : IT) (ds : List D) : Prop := ∀ (S : Sto) (i : Nat), it.at S i = some ds[i]?
theorem row_vals (xs : List D) : Row (.one (.vals xs)) xs := fun S i => rfl
theorem row_enum {α : Type} (g : α → D) (xs : List α) : Row (.enum (.vals (xs.map g))) ((enumI 0 xs).map fun q => .tup [.int q.1, g q.2]) := fun S i => by
  simp only [IT.at, Src.at, List.getElem?_map, enumI_get]
  cases xs[i]? with
  | none => rfl
  | some x => simp
theorem row_rng (lo : Int) (n : Nat) : Row (.rng lo 1 n) ((List.range n).map fun (i : Nat) => .int (lo + i)) := fun S i => by
  simp only [IT.at, List.getElem?_map]
  by_cases h : i < n
  · rw [if_pos h, List.getElem?_range h]; simp
  · rw [if_neg h, List.getElem?_eq_none (by simpa using h)]; rfl
/-- what a comprehension gathers -/
def collect {β γ : Type} (c : β → Option Bool) (r : β → Option γ) : List β → Option (List γ)
  | [] => some []
  | y :: t => (c y).elim none fun b => if b = true then (r y).elim none fun z => (collect c r t).elim none fun zs => some (z :: zs) else collect c r t
theorem collect_map {β γ δ : Type} {c : β → Option Bool} {r : β → Option γ} {f : γ → δ} : ∀ ys : List β, collect c (fun y => (r y).map f) ys = (collect c r ys).map (List.map f)
  | [] => rfl
  | y :: t => by
    simp only [collect, collect_map t]
    cases c y with
    | none => rfl
    | some b =>
      cases b with
      | false => rfl
      | true =>
        cases r y with
        | none => rfl
        | some z =>
          simp only [Option.elim_some, if_true, Option.map_some]
          cases collect c r t <;> rfl
theorem collect_tot {β γ : Type} {c : β → Bool} {r : β → γ} : ∀ ys : List β, collect (fun y => some (c y)) (fun y => some (r y)) ys = some ((ys.filter c).map r)
  | [] => rfl
  | y :: t => by
    simp only [collect, collect_tot t, Option.elim_some, List.filter_cons]
    cases c y <;> rfl
theorem evC_of {ev : CE → Loc → Sto → R3 D} {it : IT} {tg : CT} {ifs : List CE} {elt : CE} {l : Loc} {S : Sto} {β : Type} {h : β → D} {ys : List β} (hr : Row it (ys.map h)) (c : β → Option Bool) (r : β → Option D)
    (hs : ∀ y ∈ ys, ∃ l1, asgT S tg (h y) l = some l1 ∧ evIfs ev ifs l1 S = R3.of (c y) S ∧ (c y = some true → ev elt l1 S = R3.of (r y) S)) :
    ∀ (zs : List β) (i k : Nat) (acc : List D), ys.drop i = zs → zs.length < k → acc.length + zs.length ≤ sizeLine → evC ev it tg ifs elt l k i S acc = R3.of ((collect c r zs).map fun ds => acc.reverse ++ ds) S := by
  intro zs
  induction zs with
  | nil =>
    intro i k acc hd hk _
    obtain ⟨k, rfl⟩ : ∃ m, k = m + 1 := ⟨k - 1, by simp at hk; omega⟩
    have h0 : it.at S i = some none := by rw [hr S i, List.getElem?_eq_none (by rw [List.length_map]; exact List.drop_eq_nil_iff.1 hd)]
    simp [evC, h0, collect]
  | cons z zs ih =>
    intro i k acc hd hk ha
    obtain ⟨k, rfl⟩ : ∃ m, k = m + 1 := ⟨k - 1, by simp at hk; omega⟩
    have hz : ys[i]? = some z := by
      have := congrArg (fun q => q[0]?) hd
      simpa using this
    have h0 : it.at S i = some (some (h z)) := by rw [hr S i, List.getElem?_map, hz]; rfl
    have hd' : ys.drop (i + 1) = zs := by
      have := congrArg List.tail hd
      simpa using this
    obtain ⟨l1, e1, e2, e3⟩ := hs z (List.mem_of_getElem? hz)
    simp only [List.length_cons] at hk ha
    simp only [evC, h0, e1, e2, collect, of_el]
    cases hc : c z with
    | none => rfl
    | some b =>
      cases b with
      | false =>
        simp only [Option.elim_some, b_ok, Bool.false_eq_true, if_false]
        rw [ih (i + 1) k acc hd' (by omega) (by omega), of_el]
      | true =>
        simp only [Option.elim_some, b_ok, if_true]
        rw [e3 hc, of_el]
        cases hy : r z with
        | none => rfl
        | some y =>
          simp only [Option.elim_some, b_ok]
          rw [if_pos (by omega), ih (i + 1) k (y :: acc) hd' (by omega) (by simp only [List.length_cons]; omega)]
          simp only [of_el, el_map]
          cases collect c r zs <;> simp
/-- a loop by an invariant; R: what is wanted of its end -/
theorem forL_ind {it : IT} {ds : List D} (hr : Row it ds) {t : CT} {body : Loc → Sto → Out} (P : Nat → Loc → Sto → Prop) (R : Out → Prop)
    (hs : ∀ i d l S, ds[i]? = some d → P i l S → ∃ l1, asgT S t d l = some l1 ∧ (match body l1 S with | .nx l2 S2 => P (i + 1) l2 S2 | .ct l2 S2 => P (i + 1) l2 S2 | .bk l2 S2 => R (.nx l2 S2) | o => R o))
    (he : ∀ l S, P ds.length l S → R (.nx l S)) : ∀ (m i k : Nat) (l : Loc) (S : Sto), ds.length - i = m → i ≤ ds.length → m < k → P i l S → R (forL it t body k i l S) := by
  intro m
  induction m with
  | zero =>
    intro i k l S hm hi hk hp
    obtain ⟨k, rfl⟩ : ∃ q, k = q + 1 := ⟨k - 1, by omega⟩
    have : i = ds.length := by omega
    subst this
    simp only [forL, hr S, List.getElem?_eq_none (Nat.le_refl _)]
    exact he l S hp
  | succ m ih =>
    intro i k l S hm hi hk hp
    obtain ⟨k, rfl⟩ : ∃ q, k = q + 1 := ⟨k - 1, by omega⟩
    have hl : i < ds.length := by omega
    obtain ⟨l1, e1, h1⟩ := hs i _ l S (List.getElem?_eq_getElem hl) hp
    simp only [forL, hr S, List.getElem?_eq_getElem hl, e1]
    cases hb : body l1 S with
    | nx l2 S2 => rw [hb] at h1; exact ih (i + 1) k l2 S2 (by omega) (by omega) (by omega) h1
    | ct l2 S2 => rw [hb] at h1; exact ih (i + 1) k l2 S2 (by omega) (by omega) (by omega) h1
    | bk l2 S2 => rw [hb] at h1; exact h1
    | rt d S2 => rw [hb] at h1; exact h1
    | exc c es S2 => rw [hb] at h1; exact h1
    | stuck => rw [hb] at h1; exact h1
def findE {α : Type} (P : Int → α → Bool) : Int → List α → Option Int
  | _, [] => none
  | i, x :: r => if P i x = true then some i else findE P (i + 1) r
/-- a loop over enumerate that hands back at its first hit -/
theorem forL_find {α : Type} {g : α → D} {xs : List α} {t : CT} {body : Loc → Sto → Out} {S : Sto} {I : Loc → Prop} {P : Int → α → Bool} {r : Int → D}
    (hs : ∀ (i : Int) x l, x ∈ xs → I l → ∃ l1, asgT S t (.tup [.int i, g x]) l = some l1 ∧ I l1 ∧ body l1 S = if P i x = true then .rt (r i) S else .nx l1 S)
    {l : Loc} (hl : I l) (hn : xs.length < turns) : ∃ l', I l' ∧ forL (.enum (.vals (xs.map g))) t body turns 0 l S = (findE P 0 xs).elim (.nx l' S) fun i => .rt (r i) S := by
  have key := forL_ind (row_enum g xs) (t := t) (body := body) (fun i l' S' => S' = S ∧ I l' ∧ findE P 0 xs = findE P i (xs.drop i)) (fun o => ∃ l', I l' ∧ o = (findE P 0 xs).elim (.nx l' S) fun i => .rt (r i) S)
    (fun i d l' S' hd hp => by
      obtain ⟨rfl, hI, hf⟩ := hp
      rw [List.getElem?_map, enumI_get] at hd
      cases hx : xs[i]? with
      | none => rw [hx] at hd; cases hd
      | some x =>
        rw [hx] at hd
        simp only [Option.map_some, Option.some.injEq, Int.zero_add] at hd
        subst hd
        have hdr : xs.drop i = x :: xs.drop (i + 1) := by
          rw [List.drop_eq_getElem_cons (List.getElem?_eq_some_iff.mp hx).1]
          rw [(List.getElem?_eq_some_iff.mp hx).2]
        obtain ⟨l1, e1, hI2, e2⟩ := hs i x l' (List.mem_of_getElem? hx) hI
        refine ⟨l1, e1, ?_⟩
        rw [e2]
        rw [hdr, findE] at hf
        by_cases hp : P (i : Int) x = true
        · rw [if_pos hp] at hf ⊢
          exact ⟨l', hI, by rw [hf]; rfl⟩
        · rw [if_neg hp] at hf ⊢
          exact ⟨rfl, hI2, hf⟩)
    (fun l' S' hp => by
      obtain ⟨rfl, hI, hf⟩ := hp
      refine ⟨l', hI, ?_⟩
      rw [hf, List.length_map, enumI_len, List.drop_length]
      rfl)
  exact key _ 0 turns l S rfl (Nat.zero_le _) (by rw [List.length_map, enumI_len]; exact hn) ⟨rfl, hl, rfl⟩
theorem forL_find2 {α : Type} {g : α → D} {xs : List α} {t : CT} {body : Loc → Sto → Out} {S : Sto} (L : Option D → Option D → Loc) {P : Int → α → Bool} {r : Int → D}
    (ha : ∀ (i : Int) x u v, asgT S t (.tup [.int i, g x]) (L u v) = some (L (some (.int i)) (some (g x))))
    (hs : ∀ (i : Int) x, x ∈ xs → body (L (some (.int i)) (some (g x))) S = if P i x = true then .rt (r i) S else .nx (L (some (.int i)) (some (g x))) S)
    (u v : Option D) (hn : xs.length < turns) : ∃ u' v', forL (.enum (.vals (xs.map g))) t body turns 0 (L u v) S = (findE P 0 xs).elim (.nx (L u' v') S) fun i => .rt (r i) S := by
  obtain ⟨l', ⟨u', v', rfl⟩, e⟩ := forL_find (g := g) (xs := xs) (t := t) (S := S) (body := body) (I := fun l => ∃ u v, l = L u v) (P := P) (r := r) (by
    rintro i x l hx ⟨u, v, rfl⟩
    exact ⟨_, ha i x u v, ⟨_, _, rfl⟩, hs i x hx⟩) (l := L u v) ⟨u, v, rfl⟩ hn
  exact ⟨u', v', e⟩
theorem evC_row {ev : CE → Loc → Sto → R3 D} {it : IT} {tg : CT} {ifs : List CE} {elt : CE} {l : Loc} {S : Sto} {β : Type} {h : β → D} {ys : List β} (hr : Row it (ys.map h)) (c : β → Option Bool) (r : β → Option D)
    (hs : ∀ y ∈ ys, ∃ l1, asgT S tg (h y) l = some l1 ∧ evIfs ev ifs l1 S = R3.of (c y) S ∧ (c y = some true → ev elt l1 S = R3.of (r y) S)) (hn : ys.length < turns) :
    evC ev it tg ifs elt l turns 0 S [] = (collect c r ys).elim .stuck fun ds => .ok ds S := by
  rw [evC_of hr c r hs ys 0 turns [] rfl hn (by unfold turns at hn; unfold sizeLine; simp; omega), of_el, el_map]
  cases collect c r ys <;> rfl
theorem evC_tot {ev : CE → Loc → Sto → R3 D} {it : IT} {tg : CT} {ifs : List CE} {elt : CE} {l : Loc} {S : Sto} {β : Type} {h : β → D} {ys : List β} (hr : Row it (ys.map h)) (c : β → Bool) (r : β → D)
    (hs : ∀ y ∈ ys, ∃ l1, asgT S tg (h y) l = some l1 ∧ evIfs ev ifs l1 S = .ok (c y) S ∧ (c y = true → ev elt l1 S = .ok (r y) S)) (hn : ys.length < turns) :
    evC ev it tg ifs elt l turns 0 S [] = .ok ((ys.filter c).map r) S := by
  rw [evC_row hr (fun y => some (c y)) (fun y => some (r y)) (fun y hy => by
    obtain ⟨l1, e1, e2, e3⟩ := hs y hy
    exact ⟨l1, e1, by rw [e2]; rfl, fun z => by rw [e3 (Option.some.inj z)]; rfl⟩) hn, collect_tot]
  rfl
theorem evC_all {ev : CE → Loc → Sto → R3 D} {it : IT} {tg : CT} {elt : CE} {l : Loc} {S : Sto} {β : Type} {h : β → D} {ys : List β} (hr : Row it (ys.map h)) (r : β → D)
    (hs : ∀ y ∈ ys, ∃ l1, asgT S tg (h y) l = some l1 ∧ ev elt l1 S = .ok (r y) S) (hn : ys.length < turns) :
    evC ev it tg [] elt l turns 0 S [] = .ok (ys.map r) S := by
  rw [evC_tot hr (fun _ => true) r (fun y hy => by
    obtain ⟨l1, e1, e2⟩ := hs y hy
    exact ⟨l1, e1, rfl, fun _ => e2⟩) hn, List.filter_eq_self.mpr (fun _ _ => rfl)]
theorem evC_opt {ev : CE → Loc → Sto → R3 D} {it : IT} {tg : CT} {elt : CE} {l : Loc} {S : Sto} {β : Type} {h : β → D} {ys : List β} (hr : Row it (ys.map h)) (r : β → Option D)
    (hs : ∀ y ∈ ys, ∃ l1, asgT S tg (h y) l = some l1 ∧ ev elt l1 S = R3.of (r y) S) (hn : ys.length < turns) :
    evC ev it tg [] elt l turns 0 S [] = (collect (fun _ => some true) r ys).elim .stuck fun ds => .ok ds S :=
  evC_row hr (fun _ => some true) r (fun y hy => by
    obtain ⟨l1, e1, e2⟩ := hs y hy
    exact ⟨l1, e1, rfl, fun _ => e2⟩) hn
theorem ss_step {ev : CE → Loc → Sto → R3 D} {n : Nat} {s : CS} {r : List CS} {l l1 : Loc} {S S1 : Sto} (h : exS ev n s l S = .nx l1 S1) : (exSs (exS ev n) (s :: r) l S).fin = (exSs (exS ev n) r l1 S1).fin := by
  rw [ss_cons, h, q_nx]
theorem ss_ret {ev : CE → Loc → Sto → R3 D} {n : Nat} {s : CS} {r : List CS} {l : Loc} {d : D} {S S1 : Sto} (h : exS ev n s l S = .rt d S1) : (exSs (exS ev n) (s :: r) l S).fin = .ok d S1 := by
  rw [ss_cons, h, q_rt, f_rt]
theorem call_body {tab : List Fd} {f n : Nat} {d : Fd} (h : tab[f]? = some d) {ds : List D} {S : Sto} (hl : ds.length = d.np) {l : Loc} (e : ds.map some ++ List.replicate (d.nn - d.np) none = l) :
    callF tab (n+1) f ds S = (exSs (exS (evE (callF tab n) 60) 60) d.body l S).fin := by
  rw [call_def h, if_pos hl, e]
end Ev
end
section
set_option linter.all false
set_option linter.unusedSimpArgs false
/-! M2: the program's functions over plans (mirrors): ends_of to from_point. -/
open Ev PySem L2
namespace Sp
abbrev P2 := Int × Int
abbrev prD (p : P2) : D := .tup [.int p.1, .int p.2]
abbrev PL (n : Int) (as zs : List P2) : D := .tup [.int n, .tup (as.map prD), .tup (zs.map prD)]
abbrev WK (p : Int) (ls : List Int) : D := .tup [.int p, .tup (ls.map .int)]
def c_ends_of  : List CS := [
 .iff (.cmp .ge (.v 1) (.k (.int 0))) [
  .ret (some (.ix (.ix (.v 0) (.k (.int 1))) (.v 1)))] [],
 .asg (.tp [(.nm 2), (.nm 3)]) (.ix (.ix (.v 0) (.k (.int 1))) (.bin .sub (.neg (.k (.int 1))) (.v 1))),
 .ret (some (.tup [(.v 3), (.v 2)]))]
def f_ends_of  : Fd := ⟨2, 4, c_ends_of ⟩
def c_next_of_b0  : List CS := [
 .iff (.and (.cmp .eq (.ix (.v 4) (.k (.int 0))) (.v 2)) (.cmp .notin (.tup [(.v 1), (.v 3)]) (.ix (.v 0) (.k (.int 2))))) [
  .ret (some (.v 3))] []]
def c_next_of_s0  : CS := .fors (.tp [(.nm 3), (.nm 4)]) (.enum (.ix (.v 0) (.k (.int 1)))) c_next_of_b0
def c_next_of  : List CS := [
 .asg (.nm 2) (.ix (.ix (.ix (.v 0) (.k (.int 1))) (.v 1)) (.k (.int 1))),
 c_next_of_s0,
 .ret (some (.k .non))]
def f_next_of  : Fd := ⟨2, 5, c_next_of ⟩
def c_ahead_of_b0  : List CS := [
 .iff (.and (.cmp .eq (.ix (.v 4) (.k (.int 1))) (.v 2)) (.cmp .notin (.tup [(.v 3), (.v 1)]) (.ix (.v 0) (.k (.int 2))))) [
  .ret (some (.v 3))] []]
def c_ahead_of_s0  : CS := .fors (.tp [(.nm 3), (.nm 4)]) (.enum (.ix (.v 0) (.k (.int 1)))) c_ahead_of_b0
def c_ahead_of  : List CS := [
 .asg (.nm 2) (.ix (.ix (.ix (.v 0) (.k (.int 1))) (.v 1)) (.k (.int 0))),
 c_ahead_of_s0,
 .ret (some (.k .non))]
def f_ahead_of  : Fd := ⟨2, 5, c_ahead_of ⟩
def c_mate_of_b0  : List CS := [
 .iff (.and (.cmp .ne (.v 2) (.v 5)) (.cmp .eq (.ix (.v 3) (.v 4)) (.ix (.ix (.ix (.v 0) (.k (.int 1))) (.v 5)) (.v 4)))) [
  .ret (some (.ife (.cmp .ge (.v 1) (.k (.int 0))) (.v 2) (.bin .sub (.neg (.k (.int 1))) (.v 2))))] []]
def c_mate_of_s0  : CS := .fors (.tp [(.nm 2), (.nm 3)]) (.enum (.ix (.v 0) (.k (.int 1)))) c_mate_of_b0
def c_mate_of  : List CS := [
 .iff (.cmp .ge (.v 1) (.k (.int 0))) [
  .par [4, 5] [(.k (.int 0)), (.v 1)]] [
  .par [4, 5] [(.k (.int 1)), (.bin .sub (.neg (.k (.int 1))) (.v 1))]],
 c_mate_of_s0,
 .ret (some (.k .non))]
def f_mate_of  : Fd := ⟨2, 6, c_mate_of ⟩
def c_may_follow (i_ends_of : Nat) : List CS := [
 .iff (.or (.cmp .ne (.ix (.call i_ends_of [(.v 0), (.v 1)]) (.k (.int 1))) (.ix (.call i_ends_of [(.v 0), (.v 2)]) (.k (.int 0)))) (.cmp .eq (.v 2) (.bin .sub (.neg (.k (.int 1))) (.v 1)))) [
  .ret (some (.k (.bl false)))] [],
 .iff (.and (.cmp .ge (.v 1) (.k (.int 0))) (.cmp .ge (.v 2) (.k (.int 0)))) [
  .ret (some (.cmp .notin (.tup [(.v 1), (.v 2)]) (.ix (.v 0) (.k (.int 2)))))] [],
 .iff (.and (.cmp .lt (.v 1) (.k (.int 0))) (.cmp .lt (.v 2) (.k (.int 0)))) [
  .ret (some (.cmp .notin (.tup [(.bin .sub (.neg (.k (.int 1))) (.v 2)), (.bin .sub (.neg (.k (.int 1))) (.v 1))]) (.ix (.v 0) (.k (.int 2)))))] [],
 .ret (some (.k (.bl true)))]
def f_may_follow (i_ends_of : Nat) : Fd := ⟨3, 3, c_may_follow i_ends_of⟩
def c_followers_e0 (i_from_point i_ends_of i_may_follow : Nat) : CE := (.gn false .tuple [3] (.nm 3) (.of (.v 2)) [(.call i_may_follow [(.v 0), (.v 1), (.v 3)])] (.v 3))
def c_followers (i_from_point i_ends_of i_may_follow : Nat) : List CS := [
 .asg (.nm 2) (.call i_from_point [(.v 0), (.ix (.call i_ends_of [(.v 0), (.v 1)]) (.k (.int 1)))]),
 .ret (some (c_followers_e0 i_from_point i_ends_of i_may_follow))]
def f_followers (i_from_point i_ends_of i_may_follow : Nat) : Fd := ⟨2, 4, c_followers i_from_point i_ends_of i_may_follow⟩
def c_from_point_e0  : CE := (.lc false [4, 5] (.tp [(.nm 4), (.nm 5)]) (.enum (.ix (.v 0) (.k (.int 1)))) [(.cmp .eq (.ix (.v 5) (.k (.int 0))) (.v 1))] (.v 4))
def c_from_point_e1  : CE := (.lc false [4, 5] (.tp [(.nm 4), (.nm 5)]) (.enum (.ix (.v 0) (.k (.int 1)))) [(.cmp .eq (.ix (.v 5) (.k (.int 1))) (.v 1))] (.bin .sub (.neg (.k (.int 1))) (.v 4)))
def c_from_point  : List CS := [
 .asg (.nm 2) c_from_point_e0,
 .asg (.nm 3) c_from_point_e1,
 .ret (some (.bi false .tuple [(.bin .add (.rev (.v 3)) (.v 2))]))]
def f_from_point  : Fd := ⟨2, 6, c_from_point ⟩
def deeps_pr {S : Sto} : ∀ zs : List P2, D.deeps S (zs.map prD) = zs.map prD
  | [] => rfl
  | z :: r => by simp only [List.map_cons, D.deeps, deeps_pr r, D.deep]
def prP (p : P2) : PyData := .tuple [.int p.1, .int p.2]
theorem pys_pr : ∀ zs : List P2, D.pys (zs.map prD) = some (zs.map prP)
  | [] => rfl
  | z :: r => by simp only [List.map_cons, D.pys, pys_pr r, D.py, prP]
theorem lay_pr : ∀ zs : List P2, PyData.canLayAll0 (zs.map prP) = true ∧ PyData.depthAll (zs.map prP) ≤ 1
  | [] => ⟨rfl, by simp [PyData.depthAll]⟩
  | z :: r => by
    obtain ⟨h1, h2⟩ := lay_pr r
    constructor
    · simp [PyData.canLayAll0, PyData.canLay0, prP, h1]
    · simp only [List.map_cons, PyData.depthAll, prP, PyData.depth]
      omega
theorem shaped_prs (zs : List P2) : SeqAt.shaped (.tuple (zs.map prP)) = true := by
  obtain ⟨h1, h2⟩ := lay_pr zs
  have h3 : PyData.depthAll (zs.map prP) + 1 ≤ 64 := by omega
  unfold SeqAt.shaped
  rw [show PyData.canLay0 (.tuple (zs.map prP)) = true from h1, show PyData.depth (.tuple (zs.map prP)) = PyData.depthAll (zs.map prP) + 1 from by rw [PyData.depth], decide_eq_true h3]
  rfl
theorem shaped_pr (a b : Int) : SeqAt.shaped (.tuple [.int a, .int b]) = true := by
  unfold SeqAt.shaped
  simp [PyData.canLay0, PyData.canLayAll0, PyData.depth, PyData.depthAll]
theorem eqv_pr (z : P2) (a b : Int) : PyData.eqv (prP z) (.tuple [.int a, .int b]) = (decide (z.1 = a) && decide (z.2 = b)) := by
  simp only [prP, PyData.eqv, PyData.eqvAll, Bool.and_true]
  congr 1
/-- whether a pair stands in a row of pairs -/
def hasP (zs : List P2) (a b : Int) : Bool := zs.any fun z => decide (z.1 = a) && decide (z.2 = b)
theorem in_pr {S : Sto} (a b : Int) (zs : List P2) : inD S (.tup [.int a, .int b]) (.tup (zs.map prD)) = some (hasP zs a b) := by
  simp only [inD, D.deep, D.deeps, deeps_pr, D.py, D.pys, pys_pr, shaped_pr, shaped_prs, Bool.and_self, if_true, List.any_map]
  congr 1
  unfold hasP
  congr 1
  funext z
  exact eqv_pr z a b
@[simp] theorem in_pr' {S : Sto} (a b : Int) (zs : List P2) : cmpD S .isin (.tup [.int a, .int b]) (.tup (zs.map prD)) = some (hasP zs a b) := in_pr a b zs
@[simp] theorem notin_pr {S : Sto} (a b : Int) (zs : List P2) : cmpD S .notin (.tup [.int a, .int b]) (.tup (zs.map prD)) = some (!hasP zs a b) := by
  simp only [cmpD, in_pr, Option.map_some]
/-! ends_of -/
def endsM (as : List P2) (a : Int) : Option P2 := if 0 ≤ a then atI as a else (atI as (-1 - a)).map fun p => (p.2, p.1)
theorem ends_run {tab : List Fd} {f d : Nat} (h : tab[f]? = some f_ends_of) (n : Int) (as zs : List P2) (a : Int) (S : Sto) :
    callF tab (d + 1) f [PL n as zs, .int a] S = (endsM as a).elim .stuck fun p => .ok (prD p) S := by
  rw [call_def h]
  simp [f_ends_of, c_ends_of, endsM]
/-! next_of, ahead_of -/
def nextM (as zs : List P2) (a : Int) : Option (Option Int) := (atI as a).bind fun p => if as.length < turns then some (findE (fun i q => decide (q.1 = p.2) && !hasP zs a i) 0 as) else none
theorem next_run {tab : List Fd} {f d : Nat} (h : tab[f]? = some f_next_of) (n : Int) (as zs : List P2) (hn : as.length < turns) (a : Int) (S : Sto) :
    callF tab (d + 1) f [PL n as zs, .int a] S = (nextM as zs a).elim .stuck fun o => .ok (oI o) S := by
  rw [call_def h]
  simp [f_next_of, c_next_of, nextM, hn]
  cases atI as a with
  | none => rfl
  | some p =>
    simp [c_next_of_s0, s_for]
    obtain ⟨u, v, e⟩ := forL_find2 (g := prD) (xs := as) (t := .tp [(.nm 3), (.nm 4)]) (S := S) (body := exSs (exS (evE (callF tab d) 60) 59) c_next_of_b0)
      (fun x y => [some (PL n as zs), some (.int a), some (.int p.2), x, y]) (P := fun i q => decide (q.1 = p.2) && !hasP zs a i) (r := fun i => .int i) (fun i x u v => by simp) (fun i q hq => by
        simp [c_next_of_b0]
        split <;> simp_all) none none hn
    rw [e]
    cases findE (fun i q => decide (q.1 = p.2) && !hasP zs a i) 0 as <;> simp
def aheadM (as zs : List P2) (a : Int) : Option (Option Int) := (atI as a).bind fun p => if as.length < turns then some (findE (fun i q => decide (q.2 = p.1) && !hasP zs i a) 0 as) else none
theorem ahead_run {tab : List Fd} {f d : Nat} (h : tab[f]? = some f_ahead_of) (n : Int) (as zs : List P2) (hn : as.length < turns) (a : Int) (S : Sto) :
    callF tab (d + 1) f [PL n as zs, .int a] S = (aheadM as zs a).elim .stuck fun o => .ok (oI o) S := by
  rw [call_def h]
  simp [f_ahead_of, c_ahead_of, aheadM, hn]
  cases atI as a with
  | none => rfl
  | some p =>
    simp [c_ahead_of_s0, s_for]
    obtain ⟨u, v, e⟩ := forL_find2 (g := prD) (xs := as) (t := .tp [(.nm 3), (.nm 4)]) (S := S) (body := exSs (exS (evE (callF tab d) 60) 59) c_ahead_of_b0)
      (fun x y => [some (PL n as zs), some (.int a), some (.int p.1), x, y]) (P := fun i q => decide (q.2 = p.1) && !hasP zs i a) (r := fun i => .int i) (fun i x u v => by simp) (fun i q hq => by
        simp [c_ahead_of_b0]
        split <;> simp_all) none none hn
    rw [e]
    cases findE (fun i q => decide (q.2 = p.1) && !hasP zs i a) 0 as <;> simp
/-! mate_of -/
def arw (a : Int) : Int := if 0 ≤ a then a else -1 - a
def sdO (a : Int) (p : P2) : Int := if 0 ≤ a then p.1 else p.2
def mateF (as : List P2) (a : Int) (p : P2) : Option Int := (findE (fun i q => !decide (i = arw a) && decide (sdO a q = sdO a p)) 0 as).map fun i => if 0 ≤ a then i else -1 - i
theorem mate_run {tab : List Fd} {f d : Nat} (h : tab[f]? = some f_mate_of) (n : Int) (as zs : List P2) (hn : as.length < turns) (a : Int) (p : P2) (hp : atI as (arw a) = some p) (S : Sto) :
    callF tab (d + 1) f [PL n as zs, .int a] S = .ok (oI (mateF as a p)) S := by
  rw [call_def h]
  have key : ∀ (sd : Int) (g : P2 → Int) (hg : ∀ q : P2, atI [D.int q.1, D.int q.2] sd = some (.int (g q))), ∃ u v, forL (.enum (.vals (as.map prD))) (.tp [(.nm 2), (.nm 3)]) (exSs (exS (evE (callF tab d) 60) 59) c_mate_of_b0) turns 0 [some (PL n as zs), some (.int a), none, none, some (.int sd), some (.int (arw a))] S
      = (findE (fun i q => !decide (i = arw a) && decide (g q = g p)) 0 as).elim (.nx [some (PL n as zs), some (.int a), u, v, some (.int sd), some (.int (arw a))] S) fun i => .rt (.int (if 0 ≤ a then i else -1 - i)) S := fun sd g hg => by
    refine forL_find2 (g := prD) (xs := as) (t := .tp [(.nm 2), (.nm 3)]) (S := S) (body := exSs (exS (evE (callF tab d) 60) 59) c_mate_of_b0)
      (fun x y => [some (PL n as zs), some (.int a), x, y, some (.int sd), some (.int (arw a))]) (P := fun i q => !decide (i = arw a) && decide (g q = g p)) (r := fun i => .int (if 0 ≤ a then i else -1 - i)) (fun i x u v => by simp) (fun i q hq => ?_) none none hn
    simp [c_mate_of_b0, hg, hp]
    by_cases h1 : i = arw a <;> by_cases h2 : g q = g p <;> by_cases h3 : 0 ≤ a <;> simp [h1, h2, h3]
  by_cases h0 : 0 ≤ a
  · obtain ⟨u, v, e⟩ := key 0 (·.1) (fun q => by simp)
    have ha : arw a = a := if_pos h0
    rw [ha] at e
    simp [f_mate_of, c_mate_of, h0, c_mate_of_s0, s_for, e, mateF, ha, sdO]
    cases findE (fun i q => !decide (i = a) && decide (q.1 = p.1)) 0 as <;> simp
  · obtain ⟨u, v, e⟩ := key 1 (·.2) (fun q => by simp)
    have ha : arw a = -1 - a := if_neg h0
    rw [ha] at e
    simp [f_mate_of, c_mate_of, h0, c_mate_of_s0, s_for, e, mateF, ha, sdO]
    cases findE (fun i q => !decide (i = -1 - a) && decide (q.2 = p.2)) 0 as <;> simp
theorem sgn (a : Int) : (0 ≤ a ∧ ¬ a < 0) ∨ (¬ 0 ≤ a ∧ a < 0) := by omega
/-! may_follow -/
def OkMay (tab : List Fd) (f : Nat) : Prop := ∃ e, tab[e]? = some f_ends_of ∧ tab[f]? = some (f_may_follow e)
def mayM (as zs : List P2) (a b : Int) : Option Bool := (endsM as a).bind fun p => (endsM as b).bind fun q => some (
  if p.2 ≠ q.1 ∨ b = -1 - a then false
  else if 0 ≤ a ∧ 0 ≤ b then !hasP zs a b
  else if a < 0 ∧ b < 0 then !hasP zs (-1 - b) (-1 - a)
  else true)
theorem may_run {tab : List Fd} {f d : Nat} (h : OkMay tab f) (n : Int) (as zs : List P2) (a b : Int) (S : Sto) :
    callF tab (d + 2) f [PL n as zs, .int a, .int b] S = (mayM as zs a b).elim .stuck fun o => .ok (.bl o) S := by
  obtain ⟨e, he, h⟩ := h
  rw [call_def h]
  simp [f_may_follow, c_may_follow, mayM, ends_run he]
  cases endsM as a with
  | none => rfl
  | some p =>
    cases endsM as b with
    | none => rfl
    | some q =>
      rcases sgn a with ⟨a1, a2⟩ | ⟨a1, a2⟩ <;> rcases sgn b with ⟨b1, b2⟩ | ⟨b1, b2⟩ <;> by_cases h1 : p.2 = q.1 <;> by_cases h2 : b = -1 - a <;> simp [a1, a2, b1, b2, h1, h2, ends_run he]
/-! from_point -/
def fromM (as : List P2) (pt : Int) : List Int := ((((enumI 0 as).filter fun q => decide (q.2.2 = pt)).map fun q => -1 - q.1).reverse) ++ ((enumI 0 as).filter fun q => decide (q.2.1 = pt)).map fun q => q.1
theorem from_run {tab : List Fd} {f d : Nat} (h : tab[f]? = some f_from_point) (n : Int) (as zs : List P2) (hn : as.length < turns) (pt : Int) (S : Sto) :
    callF tab (d + 1) f [PL n as zs, .int pt] S = .ok (.tup ((fromM as pt).map .int)) S := by
  have e0 : ∀ u v w x, evE (callF tab d) 60 c_from_point_e0 [some (PL n as zs), some (.int pt), u, v, w, x] S = .ok (.lst ((((enumI 0 as).filter fun q => decide (q.2.1 = pt)).map fun q => q.1).map .int)) S := fun u v w x => by
    have key := evC_tot (ev := evE (callF tab d) 59) (tg := .tp [(.nm 4), (.nm 5)]) (ifs := [(.cmp .eq (.ix (.v 5) (.k (.int 0))) (.v 1))]) (elt := .v 4) (l := [some (PL n as zs), some (.int pt), u, v, none, none]) (S := S) (row_enum prD as) (fun q => decide (q.2.1 = pt)) (fun q => .int q.1)
      (fun q hq => ⟨[some (PL n as zs), some (.int pt), u, v, some (.int q.1), some (prD q.2)], by simp, by simp; split <;> simp_all, fun _ => by simp⟩) (by simpa using hn)
    simp [c_from_point_e0, e_lc, key]
  have e1 : ∀ u v w x, evE (callF tab d) 60 c_from_point_e1 [some (PL n as zs), some (.int pt), u, v, w, x] S = .ok (.lst ((((enumI 0 as).filter fun q => decide (q.2.2 = pt)).map fun q => -1 - q.1).map .int)) S := fun u v w x => by
    have key := evC_tot (ev := evE (callF tab d) 59) (tg := .tp [(.nm 4), (.nm 5)]) (ifs := [(.cmp .eq (.ix (.v 5) (.k (.int 1))) (.v 1))]) (elt := .bin .sub (.neg (.k (.int 1))) (.v 4)) (l := [some (PL n as zs), some (.int pt), u, v, none, none]) (S := S) (row_enum prD as) (fun q => decide (q.2.2 = pt)) (fun q => .int (-1 - q.1))
      (fun q hq => ⟨[some (PL n as zs), some (.int pt), u, v, some (.int q.1), some (prD q.2)], by simp, by simp; split <;> simp_all, fun _ => by simp⟩) (by simpa using hn)
    simp [c_from_point_e1, e_lc, key]
  rw [call_def h]
  have hl : lenOk ((fromM as pt).length) = true := len_le (by
    have h1 := List.length_filter_le (fun q : Int × P2 => decide (q.2.1 = pt)) (enumI 0 as)
    have h2 := List.length_filter_le (fun q : Int × P2 => decide (q.2.2 = pt)) (enumI 0 as)
    rw [enumI_len] at h1 h2
    unfold turns at hn
    simp only [fromM, List.length_append, List.length_reverse, List.length_map]
    omega)
  simp only [fromM, List.length_append, List.length_reverse, List.length_map] at hl
  simp [f_from_point, c_from_point, e0, e1, hl, fromM]
/-! followers -/
theorem fromM_len {as : List P2} {pt : Int} : (fromM as pt).length ≤ as.length + as.length := by
  have h1 := List.length_filter_le (fun q : Int × P2 => decide (q.2.1 = pt)) (enumI 0 as)
  have h2 := List.length_filter_le (fun q : Int × P2 => decide (q.2.2 = pt)) (enumI 0 as)
  rw [enumI_len] at h1 h2
  simp only [fromM, List.length_append, List.length_reverse, List.length_map]
  omega
def OkFol (tab : List Fd) (f : Nat) : Prop := ∃ g e m, tab[g]? = some f_from_point ∧ tab[e]? = some f_ends_of ∧ OkMay tab m ∧ tab[f]? = some (f_followers g e m)
def folM (as zs : List P2) (a : Int) : Option (List Int) := (endsM as a).bind fun p => collect (fun b => mayM as zs a b) some (fromM as p.2)
theorem fol_run {tab : List Fd} {f d : Nat} (h : OkFol tab f) (n : Int) (as zs : List P2) (hn : as.length + as.length < turns) (a : Int) (S : Sto) :
    callF tab (d + 3) f [PL n as zs, .int a] S = (folM as zs a).elim .stuck fun ls => .ok (.tup (ls.map .int)) S := by
  obtain ⟨g, e, m, hg, he, hm, h⟩ := h
  rw [call_def h]
  have e0 : ∀ (ls : List Int) w, ls.length < turns → evE (callF tab (d + 2)) 60 (c_followers_e0 g e m) [some (PL n as zs), some (.int a), some (.tup (ls.map .int)), w] S = (collect (fun b => mayM as zs a b) some ls).elim .stuck fun xs => .ok (.tup (xs.map .int)) S := fun ls w hl => by
    have key := evC_row (ev := evE (callF tab (d + 2)) 59) (tg := .nm 3) (ifs := [(.call m [(.v 0), (.v 1), (.v 3)])]) (elt := .v 3) (l := [some (PL n as zs), some (.int a), some (.tup (ls.map .int)), none]) (S := S) (h := D.int) (ys := ls) (row_vals (ls.map .int)) (fun b => mayM as zs a b) (fun b => some (.int b))
      (fun q hq => ⟨[some (PL n as zs), some (.int a), some (.tup (ls.map .int)), some (.int q)], by simp, by
        simp [may_run hm]
        cases mayM as zs a q with
        | none => rfl
        | some b => cases b <;> rfl, fun _ => by simp⟩) hl
    simp [c_followers_e0, e_gn_tuple, key, collect_map (r := some) (f := D.int), show (fun b => some (D.int b)) = (fun b : Int => (some b).map D.int) from rfl]
  simp [f_followers, c_followers, ends_run he, folM]
  cases endsM as a with
  | none => rfl
  | some p =>
    have := fromM_len (as := as) (pt := p.2)
    simp [from_run hg n as zs (by omega), e0 _ _ (show (fromM as p.2).length < turns by omega)]
end Sp
end
section
set_option linter.all false
set_option linter.unusedSimpArgs false
/-! M3: walks: order, end_of, turned, string_of, goings, piece_of -/
open Ev PySem L2
namespace Sp
def c_end_of (i_ends_of : Nat) : List CS := [
 .ret (some (.ife (.ix (.v 1) (.k (.int 1))) (.ix (.call i_ends_of [(.v 0), (.ix (.ix (.v 1) (.k (.int 1))) (.neg (.k (.int 1))))]) (.k (.int 1))) (.ix (.v 1) (.k (.int 0)))))]
def f_end_of (i_ends_of : Nat) : Fd := ⟨2, 2, c_end_of i_ends_of⟩
def c_turned_e0 (i_end_of : Nat) : CE := (.gn false .tuple [2] (.nm 2) (.of (.rev (.ix (.v 1) (.k (.int 1))))) [] (.bin .sub (.neg (.k (.int 1))) (.v 2)))
def c_turned (i_end_of : Nat) : List CS := [
 .ret (some (.tup [(.call i_end_of [(.v 0), (.v 1)]), (c_turned_e0 i_end_of)]))]
def f_turned (i_end_of : Nat) : Fd := ⟨2, 3, c_turned i_end_of⟩
def c_string_of (i_turned : Nat) : List CS := [
 .ret (some (.bi false .min [(.v 1), (.call i_turned [(.v 0), (.v 1)])]))]
def f_string_of (i_turned : Nat) : Fd := ⟨2, 2, c_string_of i_turned⟩
def c_goings (i_from_point i_followers : Nat) : List CS := [
 .iff (.ix (.v 1) (.k (.int 1))) [
  .ret (some (.call i_followers [(.v 0), (.ix (.ix (.v 1) (.k (.int 1))) (.neg (.k (.int 1))))]))] [],
 .ret (some (.call i_from_point [(.v 0), (.ix (.v 1) (.k (.int 0)))]))]
def f_goings (i_from_point i_followers : Nat) : Fd := ⟨2, 2, c_goings i_from_point i_followers⟩
def c_piece_of (i_ends_of : Nat) : List CS := [
 .asg (.nm 4) (.ife (.cmp .gt (.v 2) (.k (.int 0))) (.ix (.call i_ends_of [(.v 0), (.ix (.ix (.v 1) (.k (.int 1))) (.bin .sub (.v 2) (.k (.int 1))))]) (.k (.int 1))) (.ix (.v 1) (.k (.int 0)))),
 .ret (some (.tup [(.v 4), (.sl (.ix (.v 1) (.k (.int 1))) (some (.v 2)) (some (.v 3)))]))]
def f_piece_of (i_ends_of : Nat) : Fd := ⟨4, 5, c_piece_of i_ends_of⟩
-- M3: walks: order, end_of, turned, string_of, goings, piece_of
def ltL : List Int → List Int → Bool
  | [], [] => false
  | [], _ :: _ => true
  | _ :: _, [] => false
  | x :: r, y :: t => decide (x < y) || (!decide (y < x) && ltL r t)
abbrev Wk := Int × List Int
abbrev wD (w : Wk) : D := WK w.1 w.2
def ltW (v w : Wk) : Bool := decide (v.1 < w.1) || (!decide (w.1 < v.1) && ltL v.2 w.2)
def minW (v w : Wk) : Wk := if ltW w v = true then w else v
@[simp] theorem deeps_int {S : Sto} : ∀ ls : List Int, D.deeps S (ls.map .int) = ls.map .int
  | [] => rfl
  | z :: r => by simp only [List.map_cons, D.deeps, deeps_int r, D.deep]
@[simp] theorem pys_int : ∀ ls : List Int, D.pys (ls.map .int) = some (ls.map .int)
  | [] => rfl
  | z :: r => by simp only [List.map_cons, D.pys, pys_int r, D.py]
def wP (w : Wk) : PyData := .tuple [.int w.1, .tuple (w.2.map .int)]
theorem deep_w {S : Sto} (w : Wk) : D.deep S (wD w) = wD w := by simp only [D.deep, D.deeps, deeps_int]
theorem py_w (w : Wk) : (wD w).py = some (wP w) := by simp only [D.py, D.pys, pys_int, wP]
theorem depths_int : ∀ ls : List Int, PyData.depthAll (ls.map .int) ≤ 1
  | [] => by simp [PyData.depthAll]
  | z :: r => by
    have := depths_int r
    simp only [List.map_cons, PyData.depthAll, PyData.depth]; omega
theorem depth_w (w : Wk) : (wP w).depth ≤ 4 := by
  have := depths_int w.2
  simp only [wP, PyData.depth, PyData.depthAll]; omega
theorem lays_int : ∀ ls : List Int, PyData.canLayAll0 (ls.map .int) = true
  | [] => rfl
  | z :: r => by simp only [List.map_cons, PyData.canLayAll0, PyData.canLay0, lays_int r, Bool.and_self]
theorem shaped_w (w : Wk) : SeqAt.shaped (wP w) = true := by
  have h1 := depth_w w
  unfold SeqAt.shaped
  rw [show PyData.canLay0 (wP w) = true from by simp only [wP, PyData.canLay0, PyData.canLayAll0, lays_int, Bool.and_self], decide_eq_true (show (wP w).depth ≤ 64 by omega)]
  rfl
theorem alikes_int : ∀ ls ms : List Int, W.alikeAll (ls.map .int) (ms.map .int) = true
  | [], ms => by cases ms <;> rfl
  | _ :: _, [] => rfl
  | z :: r, y :: t => by simp only [List.map_cons, W.alikeAll, W.alike, alikes_int r t, Bool.and_self]
theorem alike_w (v w : Wk) : W.alike (wP v) (wP w) = true := by simp only [wP, W.alike, W.alikeAll, alikes_int, Bool.and_self]
theorem lx_self (x : Int ⊕ List Nat) (a b : List (Int ⊕ List Nat)) : PyProof.Rows.lexLt PyProof.Rows.itemOrd (x :: a) (x :: b) = PyProof.Rows.lexLt PyProof.Rows.itemOrd a b := PyProof.Rows.lex_self (O := PyProof.Rows.itemOrd) x a b
theorem lx_cons (x y : Int) (a b : List (Int ⊕ List Nat)) : PyProof.Rows.lexLt PyProof.Rows.itemOrd (.inl x :: a) (.inl y :: b) = (decide (x < y) || (!decide (y < x) && PyProof.Rows.lexLt PyProof.Rows.itemOrd a b)) := rfl
theorem lex_ints : ∀ ls ms : List Int, PyProof.Rows.lexLt PyProof.Rows.itemOrd (W.keyToksAll (ls.map .int) ++ [Sum.inl 0]) (W.keyToksAll (ms.map .int) ++ [Sum.inl 0]) = ltL ls ms
  | [], [] => by simp [W.keyToksAll, PyProof.Rows.lexLt, ltL, PyProof.Rows.itemLt]
  | [], y :: t => by simp [W.keyToksAll, PyProof.Rows.lexLt, ltL, PyProof.Rows.itemLt]
  | x :: r, [] => by simp [W.keyToksAll, PyProof.Rows.lexLt, ltL, PyProof.Rows.itemLt]
  | x :: r, y :: t => by
    have := lex_ints r t
    simp only [List.map_cons, W.keyToksAll, W.keyToks, ltL, List.cons_append, List.nil_append]
    refine (lx_self _ _ _).trans ((lx_cons _ _ _ _).trans ?_)
    rw [this]
theorem lex_w (v w : Wk) : W.dataLt (wP v) (wP w) = ltW v w := by
  have := lex_ints v.2 w.2
  simp only [W.dataLt, wP, W.keyToks, W.keyToksAll, List.cons_append, List.nil_append, ltW]
  refine (lx_self _ _ _).trans ((lx_cons _ _ _ _).trans ?_)
  rw [lx_self, this]
theorem lt_w {S : Sto} (v w : Wk) : ltD S (wD v) (wD w) = some (ltW v w) := by
  have h1 := depth_w v
  have h2 := depth_w w
  show (match (D.deep S (wD v)).py, (D.deep S (wD w)).py with | some x, some y => _ | _, _ => none) = _
  rw [deep_w, deep_w, py_w, py_w]
  simp only
  rw [if_pos, lex_w]
  rw [alike_w, decide_eq_true (show (wP v).depth ≤ 64 by omega), decide_eq_true (show (wP w).depth ≤ 64 by omega)]
  rfl
theorem lt_w' {S : Sto} (p q : Int) (ls ms : List Int) : ltD S (WK p ls) (WK q ms) = some (ltW (p, ls) (q, ms)) := lt_w (p, ls) (q, ms)
theorem eqvs_int : ∀ ls ms : List Int, PyData.eqvAll (ls.map .int) (ms.map .int) = decide (ls = ms)
  | [], [] => rfl
  | [], y :: t => by simp [PyData.eqvAll]
  | x :: r, [] => by simp [PyData.eqvAll]
  | x :: r, y :: t => by
    simp only [List.map_cons, PyData.eqvAll, PyData.eqv, eqvs_int r t, List.cons.injEq]
    by_cases h : x = y <;> by_cases h' : r = t <;> simp [h, h']
theorem eq_w {S : Sto} (v w : Wk) : cmpD S .eq (wD v) (wD w) = some (decide (v = w)) := by
  show (match (D.deep S (wD v)).py, (D.deep S (wD w)).py with | some x, some y => _ | _, _ => none) = _
  rw [deep_w, deep_w, py_w, py_w]
  simp only
  rw [if_pos (by rw [shaped_w, shaped_w]; rfl)]
  obtain ⟨p, ls⟩ := v
  obtain ⟨q, ms⟩ := w
  simp only [wP, PyData.eqv, PyData.eqvAll, eqvs_int, Prod.mk.injEq]
  by_cases h : p = q <;> by_cases h' : ls = ms <;> simp [h, h']
@[simp] theorem min_w {S : Sto} (p q : Int) (ls ms : List Int) : biD S .min [WK p ls, WK q ms] = some (wD (minW (p, ls) (q, ms))) := by
  show (match ltD S (WK q ms) (WK p ls) with | some true => _ | some false => _ | none => none) = _
  rw [lt_w']
  unfold minW
  cases ltW (q, ms) (p, ls) <;> rfl
/-! end_of, turned, string_of, goings, piece_of -/
def OkEnd (tab : List Fd) (f : Nat) : Prop := ∃ e, tab[e]? = some f_ends_of ∧ tab[f]? = some (f_end_of e)
def endM (as : List P2) (w : Wk) : Option Int := if w.2 = [] then some w.1 else (atI w.2 (-1)).bind fun a => (endsM as a).map (·.2)
theorem end_run {tab : List Fd} {f d : Nat} (h : OkEnd tab f) (n : Int) (as zs : List P2) (p : Int) (ls : List Int) (S : Sto) :
    callF tab (d + 2) f [PL n as zs, WK p ls] S = (endM as (p, ls)).elim .stuck fun q => .ok (.int q) S := by
  obtain ⟨e, he, h⟩ := h
  rw [call_def h]
  simp [f_end_of, c_end_of, endM]
  by_cases h0 : ls = []
  · simp [h0]
  · simp [h0, ends_run he]
def OkTur (tab : List Fd) (f : Nat) : Prop := ∃ e, OkEnd tab e ∧ tab[f]? = some (f_turned e)
def turM (as : List P2) (w : Wk) : Option Wk := (endM as w).map fun q => (q, w.2.reverse.map fun a => -1 - a)
theorem tur_run {tab : List Fd} {f d : Nat} (h : OkTur tab f) (n : Int) (as zs : List P2) (p : Int) (ls : List Int) (hl : ls.length < turns) (S : Sto) :
    callF tab (d + 3) f [PL n as zs, WK p ls] S = (turM as (p, ls)).elim .stuck fun w => .ok (wD w) S := by
  obtain ⟨e, he, h⟩ := h
  rw [call_def h]
  have e0 : evE (callF tab (d + 2)) 59 (c_turned_e0 e) [some (PL n as zs), some (WK p ls), none] S = .ok (.tup ((ls.reverse.map fun a => -1 - a).map .int)) S := by
    have key := evC_all (ev := evE (callF tab (d + 2)) 58) (tg := .nm 2) (elt := .bin .sub (.neg (.k (.int 1))) (.v 2)) (l := [some (PL n as zs), some (WK p ls), none]) (S := S) (h := D.int) (ys := ls.reverse) (row_vals (ls.reverse.map .int)) (fun a => .int (-1 - a))
      (fun q hq => ⟨[some (PL n as zs), some (WK p ls), some (.int q)], by simp, by simp⟩) (by simpa using hl)
    rw [List.map_reverse] at key
    simp [c_turned_e0, e_gn_tuple, key]
  simp [f_turned, c_turned, end_run he, turM, e0]
  cases endM as (p, ls) <;> simp [wD]
def OkStr (tab : List Fd) (f : Nat) : Prop := ∃ e, OkTur tab e ∧ tab[f]? = some (f_string_of e)
def strM (as : List P2) (w : Wk) : Option Wk := (turM as w).map (minW w)
theorem str_run {tab : List Fd} {f d : Nat} (h : OkStr tab f) (n : Int) (as zs : List P2) (p : Int) (ls : List Int) (hl : ls.length < turns) (S : Sto) :
    callF tab (d + 4) f [PL n as zs, WK p ls] S = (strM as (p, ls)).elim .stuck fun w => .ok (wD w) S := by
  obtain ⟨e, he, h⟩ := h
  rw [call_def h]
  simp [f_string_of, c_string_of, tur_run he n as zs p ls hl, strM]
def OkGo (tab : List Fd) (f : Nat) : Prop := ∃ g e, tab[g]? = some f_from_point ∧ OkFol tab e ∧ tab[f]? = some (f_goings g e)
def goM (as zs : List P2) (w : Wk) : Option (List Int) := if w.2 = [] then some (fromM as w.1) else (atI w.2 (-1)).bind (folM as zs)
theorem go_run {tab : List Fd} {f d : Nat} (h : OkGo tab f) (n : Int) (as zs : List P2) (hn : as.length + as.length < turns) (p : Int) (ls : List Int) (S : Sto) :
    callF tab (d + 4) f [PL n as zs, WK p ls] S = (goM as zs (p, ls)).elim .stuck fun ls => .ok (.tup (ls.map .int)) S := by
  obtain ⟨g, e, hg, he, h⟩ := h
  rw [call_def h]
  simp [f_goings, c_goings, goM]
  by_cases h0 : ls = []
  · simp [h0, from_run hg n as zs (show as.length < turns by omega)]
  · simp [h0, fol_run he n as zs hn]
def OkPie (tab : List Fd) (f : Nat) : Prop := ∃ e, tab[e]? = some f_ends_of ∧ tab[f]? = some (f_piece_of e)
def pieM (as : List P2) (w : Wk) (i j : Int) : Option Wk := (if 0 < i then (atI w.2 (i - 1)).bind fun a => (endsM as a).map (·.2) else some w.1).map fun q => (q, cut w.2 (some i) (some j))
theorem pie_run {tab : List Fd} {f d : Nat} (h : OkPie tab f) (n : Int) (as zs : List P2) (p : Int) (ls : List Int) (i j : Int) (S : Sto) :
    callF tab (d + 2) f [PL n as zs, WK p ls, .int i, .int j] S = (pieM as (p, ls) i j).elim .stuck fun w => .ok (wD w) S := by
  obtain ⟨e, he, h⟩ := h
  rw [call_def h]
  simp [f_piece_of, c_piece_of, pieM]
  by_cases h0 : 0 < i
  · simp [h0, ends_run he]
  · simp [h0]

end Sp
end
section
set_option linter.all false
set_option linter.unusedSimpArgs false
/-! M4: has_sign, arrow, row, right_row, put -/
open Ev PySem L2
namespace Sp
def c_put  : List CS := [
 .ret (some (.tup [(.ix (.v 0) (.k (.int 0))), (.bin .add (.ix (.v 0) (.k (.int 1))) (.v 1))]))]
def f_put  : Fd := ⟨2, 2, c_put ⟩
def c_has_sign  : List CS := [
 .ret (some (.cmp .eq (.cmp .ge (.v 0) (.k (.int 0))) (.cmp .eq (.v 1) (.k (.int 1)))))]
def f_has_sign  : Fd := ⟨2, 2, c_has_sign ⟩
def c_arrow  : List CS := [
 .ret (some (.ife (.cmp .ge (.v 0) (.k (.int 0))) (.v 0) (.bin .sub (.neg (.k (.int 1))) (.v 0))))]
def f_arrow  : Fd := ⟨1, 1, c_arrow ⟩
def c_row_b0 (i_mate_of i_ahead_of i_next_of i_arrow : Nat) : List CS := [
 .ex (.me .append (.v 4) [(.v 5)]),
 .iff (.cmp .eq (.v 2) (.k (.int 1))) [
  .asg (.nm 6) (.call i_ahead_of [(.v 0), (.call i_arrow [(.v 5)])]),
  .asg (.nm 5) (.ife (.cmp .is_ (.v 6) (.k .non)) (.k .non) (.bin .sub (.neg (.k (.int 1))) (.v 6)))] [
  .asg (.nm 5) (.call i_next_of [(.v 0), (.v 5)])]]
def c_row_s0 (i_mate_of i_ahead_of i_next_of i_arrow : Nat) : CS := .whl (.cmp .isnot (.v 5) (.k .non)) (c_row_b0 i_mate_of i_ahead_of i_next_of i_arrow)
def c_row (i_mate_of i_ahead_of i_next_of i_arrow : Nat) : List CS := [
 .asg (.nm 3) (.ife (.cmp .eq (.v 2) (.k (.int 1))) (.v 1) (.bin .sub (.neg (.k (.int 1))) (.v 1))),
 .asg (.nm 4) (.lst true [(.v 3)]),
 .asg (.nm 5) (.call i_mate_of [(.v 0), (.bin .sub (.neg (.k (.int 1))) (.v 3))]),
 (c_row_s0 i_mate_of i_ahead_of i_next_of i_arrow),
 .ret (some (.bi false .tuple [(.v 4)]))]
def f_row (i_mate_of i_ahead_of i_next_of i_arrow : Nat) : Fd := ⟨3, 7, c_row i_mate_of i_ahead_of i_next_of i_arrow⟩
def c_right_row_b0 (i_goings i_has_sign i_row i_arrow : Nat) : List CS := [
 .iff (.call i_has_sign [(.v 3), (.v 2)]) [
  .ret (some (.call i_row [(.v 0), (.call i_arrow [(.v 3)]), (.v 2)]))] []]
def c_right_row_s0 (i_goings i_has_sign i_row i_arrow : Nat) : CS := .fors (.nm 3) (.of (.call i_goings [(.v 0), (.v 1)])) (c_right_row_b0 i_goings i_has_sign i_row i_arrow)
def c_right_row (i_goings i_has_sign i_row i_arrow : Nat) : List CS := [
 (c_right_row_s0 i_goings i_has_sign i_row i_arrow),
 .ret (some (.tup []))]
def f_right_row (i_goings i_has_sign i_row i_arrow : Nat) : Fd := ⟨3, 4, c_right_row i_goings i_has_sign i_row i_arrow⟩
-- M4: has_sign, arrow, row, right_row, put
def hasS (a s : Int) : Bool := decide (0 ≤ a) == decide (s = 1)
theorem hs_run {tab : List Fd} {f d : Nat} (h : tab[f]? = some f_has_sign) (a s : Int) (S : Sto) : callF tab (d + 1) f [.int a, .int s] S = .ok (.bl (hasS a s)) S := by
  rw [call_def h]
  simp [f_has_sign, c_has_sign, hasS]
theorem arw_run {tab : List Fd} {f d : Nat} (h : tab[f]? = some f_arrow) (a : Int) (S : Sto) : callF tab (d + 1) f [.int a] S = .ok (.int (arw a)) S := by
  rw [call_def h]
  simp [f_arrow, c_arrow, arw]
  split <;> simp
def putM (w : Wk) (r : List Int) : Option Wk := if lenOk (w.2.length + r.length) = true then some (w.1, w.2 ++ r) else none
theorem put_run {tab : List Fd} {f d : Nat} (h : tab[f]? = some f_put) (p : Int) (ls r : List Int) (S : Sto) : callF tab (d + 1) f [WK p ls, .tup (r.map .int)] S = (putM (p, ls) r).elim .stuck fun w => .ok (wD w) S := by
  rw [call_def h]
  simp [f_put, c_put, putM]
  split <;> simp [wD]
/-! row -/
theorem get_end {S0 : Sto} {c : Cell} : (S0 ++ [c])[S0.length]? = some c := by simp
@[simp] theorem read_end {S0 : Sto} {xs : List D} : D.read (S0 ++ [.lst xs]) (.ref S0.length) = .lst xs := by
  simp [D.read]
@[simp] theorem app_end {S0 : Sto} {xs : List D} {d : D} : appD (.ref S0.length) [d] (S0 ++ [.lst xs]) = if xs.length < sizeLine then .ok .non (S0 ++ [.lst (xs ++ [d])]) else .stuck := by
  simp only [appD, get_end]
  split
  · congr 1
    rw [List.set_append_right _ _ (Nat.le_refl _), Nat.sub_self]
    rfl
  · rfl
@[simp] theorem me_app {o : D} {ds : List D} {S : Sto} : meD .append o ds S = appD o ds S := rfl
@[simp] theorem isLst_l {xs : List D} : isLst (.lst xs) = true := rfl
def rowLoop (as zs : List P2) (s : Int) : Nat → List Int → Option Int → Option (List Int)
  | 0, _, _ => none
  | _ + 1, acc, none => some acc
  | k + 1, acc, some h => if s = 1 then (aheadM as zs (arw h)).bind fun b => rowLoop as zs s k (acc ++ [h]) (b.map fun b => -1 - b)
    else (nextM as zs h).bind fun b => rowLoop as zs s k (acc ++ [h]) b
def OkRow (tab : List Fd) (f : Nat) : Prop := ∃ m a n w, tab[m]? = some f_mate_of ∧ tab[a]? = some f_ahead_of ∧ tab[n]? = some f_next_of ∧ tab[w]? = some f_arrow ∧ tab[f]? = some (f_row m a n w)
theorem row_loop {tab : List Fd} {d m a n w : Nat} (ha : tab[a]? = some f_ahead_of) (hn' : tab[n]? = some f_next_of) (hw : tab[w]? = some f_arrow) (N : Int) (as zs : List P2) (hn : as.length < turns) (x s f0 : Int) (S0 : Sto) (r : List Int) :
    ∀ (k : Nat) (acc : List Int) (here : Option Int) (beh : Option D), rowLoop as zs s k acc here = some r → acc.length + k ≤ sizeLine → ∀ K, k ≤ K →
      ∃ u v, whlL (evE (callF tab (d + 1)) 60 (.cmp .isnot (.v 5) (.k .non))) (exSs (exS (evE (callF tab (d + 1)) 60) 59) (c_row_b0 m a n w)) K [some (PL N as zs), some (.int x), some (.int s), some (.int f0), some (.ref S0.length), some (oI here), beh] (S0 ++ [.lst (acc.map .int)])
        = .nx [some (PL N as zs), some (.int x), some (.int s), some (.int f0), some (.ref S0.length), u, v] (S0 ++ [.lst (r.map .int)]) := by
  intro k
  induction k with
  | zero => intro acc here beh e; cases e
  | succ k ih =>
    intro acc here beh e hz K hK
    obtain ⟨K, rfl⟩ : ∃ q, K = q + 1 := ⟨K - 1, by omega⟩
    cases here with
    | none =>
      cases e
      refine ⟨some .non, beh, ?_⟩
      simp [whlL]
    | some h =>
      have hlen : acc.length < sizeLine := by omega
      have step : ∀ (b : Option Int), rowLoop as zs s k (acc ++ [h]) b = some r → ∀ beh', ∃ u v, whlL (evE (callF tab (d + 1)) 60 (.cmp .isnot (.v 5) (.k .non))) (exSs (exS (evE (callF tab (d + 1)) 60) 59) (c_row_b0 m a n w)) K [some (PL N as zs), some (.int x), some (.int s), some (.int f0), some (.ref S0.length), some (oI b), beh'] (S0 ++ [.lst ((acc ++ [h]).map .int)])
        = .nx [some (PL N as zs), some (.int x), some (.int s), some (.int f0), some (.ref S0.length), u, v] (S0 ++ [.lst (r.map .int)]) := fun b e' beh' =>
        ih (acc ++ [h]) b beh' e' (by simp only [List.length_append, List.length_singleton]; omega) K (by omega)
      simp only [rowLoop] at e
      by_cases hs : s = 1
      · rw [if_pos hs] at e
        cases hA : aheadM as zs (arw h) with
        | none => rw [hA] at e; cases e
        | some b =>
          rw [hA] at e
          obtain ⟨u, v, q⟩ := step _ e (some (oI b))
          refine ⟨u, v, ?_⟩
          rw [← q, whlL]
          simp [c_row_b0, hs, hlen, ahead_run ha N as zs hn, arw_run hw, hA]
          cases b <;> simp
      · rw [if_neg hs] at e
        cases hA : nextM as zs h with
        | none => rw [hA] at e; cases e
        | some b =>
          rw [hA] at e
          obtain ⟨u, v, q⟩ := step _ e beh
          refine ⟨u, v, ?_⟩
          rw [← q, whlL]
          simp [c_row_b0, hs, hlen, next_run hn' N as zs hn, hA]
def frst (a s : Int) : Int := if s = 1 then a else -1 - a
def rowM (as zs : List P2) (a s : Int) : Option (List Int) := (atI as (arw (-1 - frst a s))).bind fun p => rowLoop as zs s 1000 [frst a s] (mateF as (-1 - frst a s) p)
theorem row_run {tab : List Fd} {f d : Nat} (h : OkRow tab f) (n : Int) (as zs : List P2) (hn : as.length < turns) (a s : Int) (r : List Int) (e : rowM as zs a s = some r) (S : Sto) :
    callF tab (d + 2) f [PL n as zs, .int a, .int s] S = .ok (.tup (r.map .int)) (S ++ [.lst (r.map .int)]) := by
  obtain ⟨i1, i2, i3, i4, h1, h2, h3, h4, h⟩ := h
  rw [call_def h]
  unfold rowM at e
  cases hp : atI as (arw (-1 - frst a s)) with
  | none => rw [hp] at e; cases e
  | some p =>
    rw [hp] at e
    obtain ⟨u, v, q⟩ := row_loop (d := d) (m := i1) h2 h3 h4 n as zs hn a s (frst a s) S r 1000 _ _ none e (by unfold sizeLine; simp) turns (by unfold turns; omega)
    have hf : (if s = 1 then a else -1 - a) = frst a s := rfl
    by_cases hs : s = 1
    · have hf : frst a s = a := if_pos hs
      rw [hf] at q hp
      simp at q
      subst hs
      simp [f_row, c_row, mate_run h1 n as zs hn _ p hp, c_row_s0, s_whl, q, biD]
    · have hf : frst a s = -1 - a := if_neg hs
      rw [hf] at q hp
      simp at q
      simp [f_row, c_row, hs, mate_run h1 n as zs hn _ p hp, c_row_s0, s_whl, q, biD]
/-! right_row -/
def OkRR (tab : List Fd) (f : Nat) : Prop := ∃ g hs r w, OkGo tab g ∧ tab[hs]? = some f_has_sign ∧ OkRow tab r ∧ tab[w]? = some f_arrow ∧ tab[f]? = some (f_right_row g hs r w)
def rrM (as zs : List P2) (w : Wk) (s : Int) : Option (List Int) := (goM as zs w).bind fun ls => if ls.length < turns then (ls.find? fun a => hasS a s).elim (some []) fun a => rowM as zs (arw a) s else none
theorem rr_run {tab : List Fd} {f d : Nat} (h : OkRR tab f) (n : Int) (as zs : List P2) (hn : as.length + as.length < turns) (p : Int) (ls : List Int) (s : Int) (r : List Int) (e : rrM as zs (p, ls) s = some r) (S : Sto) :
    ∃ T, callF tab (d + 5) f [PL n as zs, WK p ls, .int s] S = .ok (.tup (r.map .int)) (S ++ T) := by
  obtain ⟨i1, i2, i3, i4, h1, h2, h3, h4, h⟩ := h
  rw [call_def h]
  unfold rrM at e
  cases hg : goM as zs (p, ls) with
  | none => rw [hg] at e; cases e
  | some gs =>
    rw [hg, Option.bind_some] at e
    split at e
    · rename_i hl
      simp [f_right_row, c_right_row, c_right_row_s0, s_for, go_run h1 n as zs hn, hg]
      refine forL_ind (row_vals (gs.map D.int)) (fun i l' S' => S' = S ∧ (∃ u, l' = [some (PL n as zs), some (WK p ls), some (.int s), u]) ∧ gs.find? (fun a => hasS a s) = (gs.drop i).find? (fun a => hasS a s))
        (fun o => ∃ T, (o.seq fun l1 S1 => Out.rt (D.tup []) S1).fin = .ok (.tup (r.map .int)) (S ++ T)) ?_ ?_ _ 0 turns _ S rfl (Nat.zero_le _) (by rw [List.length_map]; exact hl) ⟨rfl, ⟨none, rfl⟩, rfl⟩
      · rintro i dd l' S' hd ⟨rfl, ⟨u, rfl⟩, hf⟩
        rw [List.getElem?_map] at hd
        cases hx : gs[i]? with
        | none => rw [hx] at hd; cases hd
        | some x =>
          rw [hx] at hd
          simp only [Option.map_some, Option.some.injEq] at hd
          subst hd
          have hdr : gs.drop i = x :: gs.drop (i + 1) := by
            rw [List.drop_eq_getElem_cons (List.getElem?_eq_some_iff.mp hx).1]
            rw [(List.getElem?_eq_some_iff.mp hx).2]
          rw [hdr, List.find?_cons] at hf
          refine ⟨[some (PL n as zs), some (WK p ls), some (.int s), some (.int x)], by simp, ?_⟩
          cases hp : hasS x s with
          | true =>
            simp only [hp] at hf
            rw [hf] at e
            simp only [Option.elim_some] at e
            simp [c_right_row_b0, hs_run h2, hp, arw_run h4, row_run h3 n as zs (show as.length < turns by omega) _ _ _ e]
          | false =>
            simp only [hp] at hf
            simp [c_right_row_b0, hs_run h2, hp]
            exact hf
      · rintro l' S' ⟨rfl, _, hf⟩
        rw [hf, List.length_map, List.drop_length] at e
        simp only [List.find?_nil, Option.elim_none, Option.some.injEq] at e
        subst e
        exact ⟨[], by simp⟩
    · cases e

end Sp
end
section
set_option linter.all false
set_option linter.unusedSimpArgs false
/-! M5: sorting, both_rows, without_first -/
open Ev PySem L2
namespace Sp
def c_both_rows_e0 (i_right_row i_arrow i_row i_turned i_from_point i_has_sign : Nat) : CE := (.gn false .sorted [5] (.nm 5) (.of (.call i_from_point [(.v 0), (.ix (.v 1) (.k (.int 0)))])) [(.call i_has_sign [(.v 5), (.v 2)])] (.call i_arrow [(.v 5)]))
def c_both_rows_e1 (i_right_row i_arrow i_row i_turned i_from_point i_has_sign : Nat) : CE := (.lc false [6] (.nm 6) (.of (.v 3)) [] (.call i_row [(.v 0), (.v 6), (.v 2)]))
def c_both_rows (i_right_row i_arrow i_row i_turned i_from_point i_has_sign : Nat) : List CS := [
 .iff (.ix (.v 1) (.k (.int 1))) [
  .ret (some (.tup [(.call i_right_row [(.v 0), (.call i_turned [(.v 0), (.v 1)]), (.v 2)]), (.call i_right_row [(.v 0), (.v 1), (.v 2)])]))] [],
 .asg (.nm 3) (c_both_rows_e0 i_right_row i_arrow i_row i_turned i_from_point i_has_sign),
 .asg (.nm 4) (.bin .add (c_both_rows_e1 i_right_row i_arrow i_row i_turned i_from_point i_has_sign) (.lst false [(.tup []), (.tup [])])),
 .ret (some (.tup [(.ix (.v 4) (.k (.int 1))), (.ix (.v 4) (.k (.int 0)))]))]
def f_both_rows (i_right_row i_arrow i_row i_turned i_from_point i_has_sign : Nat) : Fd := ⟨3, 7, c_both_rows i_right_row i_arrow i_row i_turned i_from_point i_has_sign⟩
def c_without_first_e0 (i_piece_of i_has_sign : Nat) : CE := (.lc false [4] (.nm 4) (.of (.ix (.v 1) (.k (.int 1)))) [] (.call i_has_sign [(.v 4), (.v 2)]))
def c_without_first (i_piece_of i_has_sign : Nat) : List CS := [
 .asg (.nm 3) (.me .index (c_without_first_e0 i_piece_of i_has_sign) [(.k (.bl true))]),
 .ret (some (.call i_piece_of [(.v 0), (.v 1), (.bin .add (.v 3) (.k (.int 1))), (.bi false .len [(.ix (.v 1) (.k (.int 1)))])]))]
def f_without_first (i_piece_of i_has_sign : Nat) : Fd := ⟨3, 5, c_without_first i_piece_of i_has_sign⟩
-- M5: sorting, both_rows, without_first
theorem mrg_map {α β : Type} {f : α → β} {le : α → α → Bool} {le' : β → β → Bool} (h : ∀ a b, le' (f a) (f b) = le a b) : ∀ (n : Nat) (xs ys : List α), mrg le' n (xs.map f) (ys.map f) = (mrg le n xs ys).map f
  | 0, _, _ => rfl
  | n+1, [], ys => by simp [mrg]
  | n+1, x :: xs, [] => by simp [mrg]
  | n+1, x :: xs, y :: ys => by
    have h1 := mrg_map h n xs (y :: ys)
    have h2 := mrg_map h n (x :: xs) ys
    simp only [List.map_cons] at h1 h2
    simp only [List.map_cons, mrg, h, h1, h2]
    split <;> rfl
theorem msort_map {α β : Type} {f : α → β} {le : α → α → Bool} {le' : β → β → Bool} (h : ∀ a b, le' (f a) (f b) = le a b) : ∀ (n : Nat) (xs : List α), msort le' n (xs.map f) = (msort le n xs).map f
  | 0, _ => rfl
  | n+1, [] => rfl
  | n+1, [a] => rfl
  | n+1, a :: b :: xs => by
    have h1 := msort_map h n ((a :: b :: xs).take ((xs.length + 2 + 1) / 2))
    have h2 := msort_map h n ((a :: b :: xs).drop ((xs.length + 2 + 1) / 2))
    rw [List.map_take] at h1
    rw [List.map_drop] at h2
    simp only [List.map_cons] at h1 h2
    simp only [List.map_cons, msort, List.length_map, h1, h2, mrg_map h]
def sortI (ls : List Int) : List Int := msort (fun a b => !decide (b < a)) (ls.length + 1) ls
theorem leD_int (a b : Int) : sortLeD (.int a) (.int b) = !decide (b < a) := by
  simp [sortLeD, D.py, W.dataLt, W.keyToks, PyProof.Rows.lexLt, PyProof.Rows.itemLt]
theorem sortD_int (ls : List Int) : sortD (ls.map .int) = (sortI ls).map .int := by
  unfold sortD sortI
  rw [List.length_map]
  exact msort_map leD_int _ _
theorem sortOk_int (ls : List Int) : sortOk (ls.map .int) = true := by
  simp only [sortOk, pys_int]
  simp [W.alike, PyData.depth, isFlat1]
def sortW (ws : List Wk) : List Wk := msort (fun a b => !ltW b a) (ws.length + 1) ws
theorem leD_w (v w : Wk) : sortLeD (wD v) (wD w) = !ltW w v := by
  simp only [sortLeD, py_w, lex_w]
theorem sortD_w (ws : List Wk) : sortD (ws.map wD) = (sortW ws).map wD := by
  unfold sortD sortW
  rw [List.length_map]
  exact msort_map leD_w _ _
theorem pys_w : ∀ ws : List Wk, D.pys (ws.map wD) = some (ws.map wP)
  | [] => rfl
  | w :: r => by
    rw [List.map_cons, D.pys, py_w, pys_w r]
    rfl
theorem sortOk_w (ws : List Wk) : sortOk (ws.map wD) = true := by
  simp only [sortOk, pys_w, Bool.and_eq_true, Bool.or_eq_true, List.all_eq_true, List.mem_map, forall_exists_index, and_imp, forall_apply_eq_imp_iff₂, decide_eq_true_eq]
  exact ⟨⟨fun v _ w _ => alike_w v w, fun v _ => Nat.le_trans (depth_w v) (by decide)⟩, .inl fun v _ => rfl⟩
/-! comprehensions that make cells -/
def mapO {β γ : Type} (r : β → Option γ) : List β → Option (List γ)
  | [] => some []
  | y :: t => (r y).bind fun z => (mapO r t).map (z :: ·)
theorem evC_grow {ev : CE → Ev.Loc → Sto → R3 D} {it : IT} {tg : CT} {elt : CE} {l : Ev.Loc} {β γ : Type} {h : β → D} {ys : List β} (hr : Row it (ys.map h)) (r : β → Option γ) (o : γ → D)
    (hs : ∀ y ∈ ys, ∃ l1, (∀ S, asgT S tg (h y) l = some l1) ∧ ∀ z, r y = some z → ∀ S, ∃ T, ev elt l1 S = .ok (o z) (S ++ T)) :
    ∀ (zs : List β) (i k : Nat) (S : Sto) (acc : List D) (gs : List γ), ys.drop i = zs → zs.length < k → acc.length + zs.length ≤ sizeLine → mapO r zs = some gs → ∃ T, evC ev it tg [] elt l k i S acc = .ok (acc.reverse ++ gs.map o) (S ++ T) := by
  intro zs
  induction zs with
  | nil =>
    intro i k S acc gs hd hk _ hg
    cases hg
    obtain ⟨k, rfl⟩ : ∃ m, k = m + 1 := ⟨k - 1, by simp at hk; omega⟩
    have h0 : it.at S i = some none := by rw [hr S i, List.getElem?_eq_none (by rw [List.length_map]; exact List.drop_eq_nil_iff.1 hd)]
    exact ⟨[], by simp [evC, h0]⟩
  | cons z zs ih =>
    intro i k S acc gs hd hk ha hg
    obtain ⟨k, rfl⟩ : ∃ m, k = m + 1 := ⟨k - 1, by simp at hk; omega⟩
    have hz : ys[i]? = some z := by
      have := congrArg (fun q => q[0]?) hd
      simpa using this
    have h0 : it.at S i = some (some (h z)) := by rw [hr S i, List.getElem?_map, hz]; rfl
    have hd' : ys.drop (i + 1) = zs := by
      have := congrArg List.tail hd
      simpa using this
    obtain ⟨l1, e1, e2⟩ := hs z (List.mem_of_getElem? hz)
    simp only [List.length_cons] at hk ha
    simp only [mapO, Option.bind_eq_some_iff, Option.map_eq_some_iff] at hg
    obtain ⟨y, hy, gs', hg', rfl⟩ := hg
    obtain ⟨T, e3⟩ := e2 y hy S
    obtain ⟨T', e4⟩ := ih (i + 1) k (S ++ T) (o y :: acc) gs' hd' (by omega) (by simp only [List.length_cons]; omega) hg'
    refine ⟨T ++ T', ?_⟩
    simp only [evC, h0, e1, ifs_0, b_ok, if_true, e3]
    rw [if_pos (by omega), e4]
    simp
/-! both_rows -/
def turG (as : List P2) (w : Wk) : Option Wk := if w.2.length < turns then turM as w else none
theorem turG_run {tab : List Fd} {f d : Nat} (h : OkTur tab f) (n : Int) (as zs : List P2) {p : Int} {ls : List Int} {v : Wk} (e : turG as (p, ls) = some v) (S : Sto) :
    callF tab (d + 3) f [PL n as zs, WK p ls] S = .ok (wD v) S := by
  unfold turG at e
  split at e
  · rename_i hl
    rw [tur_run h n as zs p ls hl, e]
    rfl
  · cases e
def strG (as : List P2) (w : Wk) : Option Wk := if w.2.length < turns then strM as w else none
theorem strG_run {tab : List Fd} {f d : Nat} (h : OkStr tab f) (n : Int) (as zs : List P2) {p : Int} {ls : List Int} {v : Wk} (e : strG as (p, ls) = some v) (S : Sto) :
    callF tab (d + 4) f [PL n as zs, WK p ls] S = .ok (wD v) S := by
  unfold strG at e
  split at e
  · rename_i hl
    rw [str_run h n as zs p ls hl, e]
    rfl
  · cases e
def OkBR (tab : List Fd) (f : Nat) : Prop := ∃ rr w r t fp hs, OkRR tab rr ∧ tab[w]? = some f_arrow ∧ OkRow tab r ∧ OkTur tab t ∧ tab[fp]? = some f_from_point ∧ tab[hs]? = some f_has_sign ∧ tab[f]? = some (f_both_rows rr w r t fp hs)
def brM (as zs : List P2) (w : Wk) (s : Int) : Option (List Int × List Int) :=
  if w.2 = [] then (mapO (fun a => rowM as zs a s) (sortI (((fromM as w.1).filter fun a => hasS a s).map arw))).bind fun rs =>
    match rs ++ [[], []] with
    | r :: l :: _ => some (l, r)
    | _ => none
  else (turG as w).bind fun t => (rrM as zs t s).bind fun l => (rrM as zs w s).bind fun r => some (l, r)
theorem br_run {tab : List Fd} {f d : Nat} (h : OkBR tab f) (n : Int) (as zs : List P2) (hn : as.length + as.length < turns) (p : Int) (ls : List Int) (s : Int) (l r : List Int) (e : brM as zs (p, ls) s = some (l, r)) (S : Sto) :
    ∃ T, callF tab (d + 6) f [PL n as zs, WK p ls, .int s] S = .ok (.tup [.tup (l.map .int), .tup (r.map .int)]) (S ++ T) := by
  obtain ⟨i1, i2, i3, i4, i5, i6, h1, h2, h3, h4, h5, h6, h⟩ := h
  rw [call_def h]
  unfold brM at e
  by_cases h0 : ls = []
  · subst h0
    simp only [if_true, Option.bind_eq_some_iff] at e
    obtain ⟨rs, hrs, e⟩ := e
    have fl := fromM_len (as := as) (pt := p)
    have e0 : evE (callF tab (d + 5)) 60 (c_both_rows_e0 i1 i2 i3 i4 i5 i6) [some (PL n as zs), some (WK p []), some (.int s), none, none, none, none] S = .ok (.lst ((sortI (((fromM as p).filter fun a => hasS a s).map arw)).map .int)) S := by
      have key := evC_tot (ev := evE (callF tab (d + 5)) 59) (tg := .nm 5) (ifs := [(.call i6 [(.v 5), (.v 2)])]) (elt := (.call i2 [(.v 5)])) (l := [some (PL n as zs), some (WK p []), some (.int s), none, none, none, none]) (S := S) (h := D.int) (ys := fromM as p) (row_vals ((fromM as p).map .int)) (fun a => hasS a s) (fun a => .int (arw a))
        (fun q hq => ⟨[some (PL n as zs), some (WK p []), some (.int s), none, none, some (.int q), none], by simp, by simp [hs_run h6]; split <;> simp_all, fun _ => by simp [arw_run h2]⟩) (by omega)
      rw [show (fun a => D.int (arw a)) = (D.int ∘ arw) from rfl, ← List.map_map] at key
      simp [c_both_rows_e0, e_gn_sorted, from_run h5 n as zs (show as.length < turns by omega), key, -List.map_map]
      rw [if_pos (sortOk_int _), sortD_int]
    have lenS : (sortI (((fromM as p).filter fun a => hasS a s).map arw)).length ≤ as.length + as.length := by
      have h1 : ∀ xs : List Int, (sortI xs).length = xs.length := fun xs => by
        unfold sortI
        rw [msort_eq _ _ _ (Nat.lt_succ_self _), List.length_mergeSort]
      rw [h1, List.length_map]
      exact Nat.le_trans (List.length_filter_le _ _) fl
    generalize sortI (((fromM as p).filter fun a => hasS a s).map arw) = ars at e0 lenS hrs
    obtain ⟨T, e1⟩ := evC_grow (ev := evE (callF tab (d + 5)) 58) (tg := .nm 6) (elt := (.call i3 [(.v 0), (.v 6), (.v 2)])) (l := [some (PL n as zs), some (WK p []), some (.int s), some (.lst (ars.map .int)), none, none, none]) (h := D.int) (ys := ars) (row_vals _) (fun a => rowM as zs a s) (fun r => D.tup (r.map .int))
      (fun q hq => ⟨[some (PL n as zs), some (WK p []), some (.int s), some (.lst (ars.map .int)), none, none, some (.int q)], fun S => by simp, fun z hz S => ⟨_, by simp [row_run h3 n as zs (show as.length < turns by omega) _ _ _ hz]; rfl⟩⟩) ars 0 turns S [] rs rfl (by omega) (by unfold turns at hn; unfold sizeLine; simp; omega) hrs
    refine ⟨T, ?_⟩
    try simp at e1
    try simp at e0
    have hl : lenOk (rs.length + 2) = true := len_le (by
      have : ∀ (xs : List Int) ys, mapO (fun a => rowM as zs a s) xs = some ys → ys.length = xs.length := fun xs => by
        induction xs with
        | nil => intro ys q; cases q; rfl
        | cons x xs ih =>
          intro ys q
          simp only [mapO, Option.bind_eq_some_iff, Option.map_eq_some_iff] at q
          obtain ⟨y, _, ys', q', rfl⟩ := q
          simp [ih ys' q']
      have := this _ _ hrs
      unfold turns at hn
      omega)
    simp [f_both_rows, c_both_rows, e0, c_both_rows_e1, e_lc, e1, hl]
    cases rs with
    | nil =>
      cases e
      simp
    | cons r0 rs =>
      cases rs with
      | nil =>
        cases e
        simp
      | cons l0 rs =>
        cases e
        simp
  · simp only [h0, if_false, Option.bind_eq_some_iff, Option.some.injEq, Prod.mk.injEq] at e
    obtain ⟨⟨tp, tl⟩, ht, l', hl, r', hr, rfl, rfl⟩ := e
    obtain ⟨T1, e1⟩ := rr_run (d := d) h1 n as zs hn tp tl s l' hl S
    obtain ⟨T2, e2⟩ := rr_run (d := d) h1 n as zs hn p ls s r' hr (S ++ T1)
    refine ⟨T1 ++ T2, ?_⟩
    simp [f_both_rows, c_both_rows, h0, turG_run h4 n as zs ht, e1, e2]
/-! without_first -/
theorem deeps_bl {S : Sto} : ∀ bs : List Bool, D.deeps S (bs.map .bl) = bs.map .bl
  | [] => rfl
  | z :: r => by simp only [List.map_cons, D.deeps, deeps_bl r, D.deep]
theorem pys_bl : ∀ bs : List Bool, D.pys (bs.map .bl) = some (bs.map .bool)
  | [] => rfl
  | z :: r => by simp only [List.map_cons, D.pys, pys_bl r, D.py]
theorem lays_bl : ∀ bs : List Bool, PyData.canLayAll0 (bs.map .bool) = true ∧ PyData.depthAll (bs.map .bool) ≤ 1
  | [] => ⟨rfl, by simp [PyData.depthAll]⟩
  | z :: r => by
    obtain ⟨h1, h2⟩ := lays_bl r
    constructor
    · simp only [List.map_cons, PyData.canLayAll0, PyData.canLay0, h1, Bool.and_self]
    · simp only [List.map_cons, PyData.depthAll, PyData.depth]; omega
theorem shaped_bl (bs : List Bool) : SeqAt.shaped (.list (bs.map .bool)) = true := by
  obtain ⟨h1, h2⟩ := lays_bl bs
  unfold SeqAt.shaped
  rw [show PyData.canLay0 (.list (bs.map .bool)) = true from h1, show PyData.depth (.list (bs.map .bool)) = PyData.depthAll (bs.map .bool) + 1 from by rw [PyData.depth], decide_eq_true (show PyData.depthAll (bs.map .bool) + 1 ≤ 64 by omega)]
  rfl
theorem find_bl : ∀ (bs : List Bool) (j : Nat), (findD (.bool true) (bs.map .bool) j).map (fun (k : Nat) => (k : Int)) = findE (fun _ b => b) j bs
  | [], j => rfl
  | z :: r, j => by
    have := find_bl r (j + 1)
    cases z with
    | true => simp [findD, findE, PyData.eqv]
    | false =>
      simp [findD, findE, PyData.eqv]
      rw [this]; rfl
theorem idx_bl {S : Sto} (bs : List Bool) : meD .index (.lst (bs.map .bl)) [.bl true] S = (findE (fun _ b => b) 0 bs).elim .stuck fun i => .ok (.int i) S := by
  have h := find_bl bs 0
  simp only [meD, idxD, D.deep, D.py, deeps_bl, pys_bl, shaped_bl, show SeqAt.shaped (.bool true) = true from rfl, Bool.and_self, if_true]
  rw [show ((0 : Nat) : Int) = 0 from rfl] at h
  rw [← h]
  cases findD (.bool true) (bs.map .bool) 0 <;> rfl
theorem findE_map {α β : Type} {f : α → β} {P : Int → β → Bool} : ∀ (xs : List α) (i : Int), findE P i (xs.map f) = findE (fun i x => P i (f x)) i xs
  | [], _ => rfl
  | x :: r, i => by simp only [List.map_cons, findE, findE_map r]
def OkWF (tab : List Fd) (f : Nat) : Prop := ∃ pp hs, OkPie tab pp ∧ tab[hs]? = some f_has_sign ∧ tab[f]? = some (f_without_first pp hs)
def wfM (as : List P2) (w : Wk) (s : Int) : Option Wk := if w.2.length < turns then (findE (fun _ a => hasS a s) 0 w.2).bind fun i => pieM as w (i + 1) w.2.length else none
theorem wf_run {tab : List Fd} {f d : Nat} (h : OkWF tab f) (n : Int) (as zs : List P2) (p : Int) (ls : List Int) (s : Int) (v : Wk) (e : wfM as (p, ls) s = some v) (S : Sto) :
    callF tab (d + 3) f [PL n as zs, WK p ls, .int s] S = .ok (wD v) S := by
  obtain ⟨i1, i2, h1, h2, h⟩ := h
  rw [call_def h]
  unfold wfM at e
  split at e
  · rename_i hl
    simp only [Option.bind_eq_some_iff] at e
    obtain ⟨i, hi, e⟩ := e
    have e0 : ∀ u, evE (callF tab (d + 2)) 59 (c_without_first_e0 i1 i2) [some (PL n as zs), some (WK p ls), some (.int s), u, none] S = .ok (.lst ((ls.map fun a => hasS a s).map .bl)) S := fun u => by
      have key := evC_all (ev := evE (callF tab (d + 2)) 58) (tg := .nm 4) (elt := (.call i2 [(.v 4), (.v 2)])) (l := [some (PL n as zs), some (WK p ls), some (.int s), u, none]) (S := S) (h := D.int) (ys := ls) (row_vals (ls.map .int)) (fun a => .bl (hasS a s))
        (fun q hq => ⟨[some (PL n as zs), some (WK p ls), some (.int s), u, some (.int q)], by simp, by simp [hs_run h2]⟩) hl
      simp [c_without_first_e0, e_lc, key]
    have hi' : findE (fun _ b => b) 0 (ls.map fun a => hasS a s) = some i := by rw [findE_map]; exact hi
    simp [f_without_first, c_without_first, e0, -List.map_map, idx_bl, hi', D.read, pie_run h1 n as zs, e]
  · cases e

end Sp
end
section
set_option linter.all false
set_option linter.unusedSimpArgs false
/-! M6: step, forth, back -/
open Ev PySem L2
namespace Sp
def c_step_e0 (i_both_rows i_string_of i_put i_without_first i_has_sign i_piece_of i_turned : Nat) : CE := (.lc false [7, 8] (.tp [(.nm 7), (.nm 8)]) (.enum (.ix (.v 1) (.k (.int 1)))) [(.call i_has_sign [(.v 8), (.v 2)])] (.v 7))
def c_step_e1 (i_both_rows i_string_of i_put i_without_first i_has_sign i_piece_of i_turned : Nat) : CE := (.lc false [7, 8] (.tp [(.nm 7), (.nm 8)]) (.enum (.ix (.v 1) (.k (.int 1)))) [(.not (.call i_has_sign [(.v 8), (.v 2)]))] (.v 7))
def c_step (i_both_rows i_string_of i_put i_without_first i_has_sign i_piece_of i_turned : Nat) : List CS := [
 .asg (.tp [(.nm 5), (.nm 6)]) (.call i_both_rows [(.v 0), (.v 1), (.v 2)]),
 .iff (.and (.v 5) (.v 6)) [
  .ret (some (.call i_string_of [(.v 0), (.call i_put [(.call i_turned [(.v 0), (.call i_put [(.v 1), (.v 6)])]), (.v 5)])]))] [],
 .iff (.v 6) [
  .ret (some (.call i_string_of [(.v 0), (.call i_without_first [(.v 0), (.call i_put [(.v 1), (.v 6)]), (.v 2)])]))] [],
 .iff (.v 5) [
  .ret (some (.call i_string_of [(.v 0), (.call i_without_first [(.v 0), (.call i_put [(.call i_turned [(.v 0), (.v 1)]), (.v 5)]), (.v 2)])]))] [],
 .asg (.nm 3) (c_step_e0 i_both_rows i_string_of i_put i_without_first i_has_sign i_piece_of i_turned),
 .asg (.nm 4) (c_step_e1 i_both_rows i_string_of i_put i_without_first i_has_sign i_piece_of i_turned),
 .iff (.and (.v 3) (.and (.v 4) (.cmp .lt (.ix (.v 3) (.k (.int 0))) (.ix (.v 4) (.neg (.k (.int 1))))))) [
  .ret (some (.call i_string_of [(.v 0), (.call i_piece_of [(.v 0), (.v 1), (.bin .add (.ix (.v 3) (.k (.int 0))) (.k (.int 1))), (.ix (.v 4) (.neg (.k (.int 1))))])]))] [],
 .ret (some (.k .non))]
def f_step (i_both_rows i_string_of i_put i_without_first i_has_sign i_piece_of i_turned : Nat) : Fd := ⟨3, 9, c_step i_both_rows i_string_of i_put i_without_first i_has_sign i_piece_of i_turned⟩
def c_forth (i_step : Nat) : List CS := [
 .ret (some (.call i_step [(.v 0), (.v 1), (.neg (.k (.int 1)))]))]
def f_forth (i_step : Nat) : Fd := ⟨2, 2, c_forth i_step⟩
def c_back (i_step : Nat) : List CS := [
 .ret (some (.call i_step [(.v 0), (.v 1), (.k (.int 1))]))]
def f_back (i_step : Nat) : Fd := ⟨2, 2, c_back i_step⟩
-- M6: step, forth, back
def oW : Option Wk → D | some w => wD w | none => .non
@[simp] theorem oW_s (w : Wk) : oW (some w) = wD w := rfl
@[simp] theorem oW_n : oW none = .non := rfl
def idxS (b : Bool) (s : Int) (ls : List Int) : List Int := ((enumI 0 ls).filter fun q => hasS q.2 s == b).map fun q => q.1
theorem oW_t {a b : D} {w : Wk} (h : a = .int w.1) (h' : b = .tup (w.2.map .int)) : D.tup [a, b] = wD w := by rw [h, h']
def OkStep (tab : List Fd) (f : Nat) : Prop := ∃ br st pu wf hs pp tu, OkBR tab br ∧ OkStr tab st ∧ tab[pu]? = some f_put ∧ OkWF tab wf ∧ tab[hs]? = some f_has_sign ∧ OkPie tab pp ∧ OkTur tab tu ∧ tab[f]? = some (f_step br st pu wf hs pp tu)
def stepM (as zs : List P2) (w : Wk) (s : Int) : Option (Option Wk) :=
  if w.2.length < turns then (brM as zs w s).bind fun q =>
    if q.1 = [] then
      if q.2 = [] then
        match idxS true s w.2, (atI (idxS false s w.2) (-1)) with
        | a :: _, some b => if a < b then (pieM as w (a + 1) b).bind fun v => (strG as v).map some else some none
        | _, _ => some none
      else (putM w q.2).bind fun v => (wfM as v s).bind fun x => (strG as x).map some
    else if q.2 = [] then (turG as w).bind fun t => (putM t q.1).bind fun v => (wfM as v s).bind fun x => (strG as x).map some
      else (putM w q.2).bind fun v => (turG as v).bind fun t => (putM t q.1).bind fun x => (strG as x).map some
  else none
theorem at_last {α : Type} : ∀ (xs : List α), xs ≠ [] → ∃ x, atI xs (-1) = some x
  | [], h => absurd rfl h
  | x :: r, _ => by
    have h : ixN (x :: r).length (-1) = some r.length := by
      unfold ixN
      rw [if_neg (by omega), if_pos (by simp only [List.length_cons]; omega)]
      congr 1
      simp only [List.length_cons]; omega
    unfold atI
    rw [h, Option.bind_some]
    exact ⟨_, List.getElem?_eq_getElem (by simp)⟩
theorem at_nil {α : Type} (i : Int) : atI ([] : List α) i = none := by
  unfold atI
  cases ixN ([] : List α).length i <;> rfl
theorem put_run' {tab : List Fd} {f d : Nat} (h : tab[f]? = some f_put) {p : Int} {ls r : List Int} {v : Wk} (e : putM (p, ls) r = some v) (S : Sto) : callF tab (d + 1) f [WK p ls, .tup (r.map .int)] S = .ok (wD v) S := by
  rw [put_run h, e]; rfl
theorem pie_run' {tab : List Fd} {f d : Nat} (h : OkPie tab f) (n : Int) (as zs : List P2) {p : Int} {ls : List Int} {i j : Int} {v : Wk} (e : pieM as (p, ls) i j = some v) (S : Sto) :
    callF tab (d + 2) f [PL n as zs, WK p ls, .int i, .int j] S = .ok (wD v) S := by
  rw [pie_run h, e]; rfl
theorem idx_e0 {F : Nat → List D → Sto → R3 D} {hs : Nat} (hF : ∀ a s S, F hs [.int a, .int s] S = .ok (.bl (hasS a s)) S) {l : Ev.Loc} {n : Nat} {tg : CT} {ifs : List CE} {elt : CE} {S : Sto} {ls : List Int} {s : Int} (b : Bool) (hl : ls.length < turns)
    (hs' : ∀ i a, ∃ l1, asgT S tg (.tup [.int i, .int a]) l = some l1 ∧ evIfs (evE F n) ifs l1 S = .ok (hasS a s == b) S ∧ evE F n elt l1 S = .ok (.int i) S) :
    evC (evE F n) (.enum (.vals (ls.map .int))) tg ifs elt l turns 0 S [] = .ok ((idxS b s ls).map .int) S := by
  rw [evC_tot (row_enum D.int ls) (fun q => hasS q.2 s == b) (fun q => .int q.1) (fun q hq => by
    obtain ⟨l1, e1, e2, e3⟩ := hs' q.1 q.2
    exact ⟨l1, e1, e2, fun _ => e3⟩) (by simpa using hl)]
  simp [idxS]
theorem step_run {tab : List Fd} {f d : Nat} (h : OkStep tab f) (n : Int) (as zs : List P2) (hn : as.length + as.length < turns) (p : Int) (ls : List Int) (s : Int) (o : Option Wk) (e : stepM as zs (p, ls) s = some o) (S : Sto) :
    ∃ T, callF tab (d + 7) f [PL n as zs, WK p ls, .int s] S = .ok (oW o) (S ++ T) := by
  obtain ⟨i1, i2, i3, i4, i5, i6, i7, h1, h2, h3, h4, h5, h6, h7, h⟩ := h
  rw [call_def h]
  unfold stepM at e
  split at e
  · rename_i hlen
    simp only [Option.bind_eq_some_iff] at e
    obtain ⟨⟨l, r⟩, hbr, e⟩ := e
    obtain ⟨T, e1⟩ := br_run (d := d) h1 n as zs hn p ls s l r hbr S
    refine ⟨T, ?_⟩
    simp [f_step, c_step, e1]
    by_cases hl : l = []
    · by_cases hr : r = []
      · simp only [hl, hr, if_true] at e
        subst hl hr
        have e0 : ∀ u v, evE (callF tab (d + 6)) 60 (c_step_e0 i1 i2 i3 i4 i5 i6 i7) [some (PL n as zs), some (WK p ls), some (.int s), u, v, some (.tup []), some (.tup []), none, none] (S ++ T) = .ok (.lst ((idxS true s ls).map .int)) (S ++ T) := fun u v => by
          have key := idx_e0 (F := callF tab (d + 6)) (hs := i5) (fun a s S => hs_run h5 a s S) (l := [some (PL n as zs), some (WK p ls), some (.int s), u, v, some (.tup []), some (.tup []), none, none]) (n := 59) (tg := .tp [(.nm 7), (.nm 8)]) (ifs := [(.call i5 [(.v 8), (.v 2)])]) (elt := .v 7) (S := S ++ T) (ls := ls) (s := s) true hlen
            (fun i a => ⟨[some (PL n as zs), some (WK p ls), some (.int s), u, v, some (.tup []), some (.tup []), some (.int i), some (.int a)], by simp, by simp [hs_run h5]; cases hasS a s <;> rfl, by simp⟩)
          simp [c_step_e0, e_lc, key]
        have e0' : ∀ u v, evE (callF tab (d + 6)) 60 (c_step_e1 i1 i2 i3 i4 i5 i6 i7) [some (PL n as zs), some (WK p ls), some (.int s), u, v, some (.tup []), some (.tup []), none, none] (S ++ T) = .ok (.lst ((idxS false s ls).map .int)) (S ++ T) := fun u v => by
          have key := idx_e0 (F := callF tab (d + 6)) (hs := i5) (fun a s S => hs_run h5 a s S) (l := [some (PL n as zs), some (WK p ls), some (.int s), u, v, some (.tup []), some (.tup []), none, none]) (n := 59) (tg := .tp [(.nm 7), (.nm 8)]) (ifs := [(.not (.call i5 [(.v 8), (.v 2)]))]) (elt := .v 7) (S := S ++ T) (ls := ls) (s := s) false hlen
            (fun i a => ⟨[some (PL n as zs), some (WK p ls), some (.int s), u, v, some (.tup []), some (.tup []), some (.int i), some (.int a)], by simp, by simp [hs_run h5]; cases hasS a s <;> rfl, by simp⟩)
          simp [c_step_e1, e_lc, key]
        simp [e0, e0']
        cases hA : idxS true s ls with
        | nil =>
          rw [hA] at e
          cases e
          simp
        | cons a rest =>
          rw [hA] at e
          by_cases hB : idxS false s ls = []
          · rw [hB, at_nil] at e
            cases e
            simp [hB]
          · obtain ⟨b, hb⟩ := at_last _ hB
            rw [hb] at e
            simp only at e
            simp [hB, hb]
            split at e
            · rename_i hab
              simp only [Option.bind_eq_some_iff, Option.map_eq_some_iff] at e
              obtain ⟨v, hv, x, hx, rfl⟩ := e
              simp [hab, pie_run' h6 n as zs hv, strG_run h2 n as zs hx]
            · rename_i hab
              cases e
              simp [hab]
      · simp only [hl, hr, if_true, if_false, Option.bind_eq_some_iff, Option.map_eq_some_iff] at e
        obtain ⟨v, hv, x, hx, y, hy, rfl⟩ := e
        subst hl
        simp [hr, put_run' h3 hv, wf_run h4 n as zs _ _ _ _ hx, strG_run h2 n as zs hy]
    · by_cases hr : r = []
      · simp only [hl, hr, if_true, if_false, Option.bind_eq_some_iff, Option.map_eq_some_iff] at e
        obtain ⟨t, ht, v, hv, x, hx, y, hy, rfl⟩ := e
        subst hr
        simp [hl, turG_run h7 n as zs ht, put_run' h3 hv, wf_run h4 n as zs _ _ _ _ hx, strG_run h2 n as zs hy]
      · simp only [hl, hr, if_false, Option.bind_eq_some_iff, Option.map_eq_some_iff] at e
        obtain ⟨v, hv, t, ht, x, hx, y, hy, rfl⟩ := e
        simp [hl, hr, put_run' h3 hv, turG_run h7 n as zs ht, put_run' h3 hx, strG_run h2 n as zs hy]
  · cases e
def OkForth (tab : List Fd) (f : Nat) : Prop := ∃ st, OkStep tab st ∧ tab[f]? = some (f_forth st)
def OkBack (tab : List Fd) (f : Nat) : Prop := ∃ st, OkStep tab st ∧ tab[f]? = some (f_back st)
theorem forth_run {tab : List Fd} {f d : Nat} (h : OkForth tab f) (n : Int) (as zs : List P2) (hn : as.length + as.length < turns) (p : Int) (ls : List Int) (o : Option Wk) (e : stepM as zs (p, ls) (-1) = some o) (S : Sto) :
    ∃ T, callF tab (d + 8) f [PL n as zs, WK p ls] S = .ok (oW o) (S ++ T) := by
  obtain ⟨i1, h1, h⟩ := h
  obtain ⟨T, e1⟩ := step_run (d := d) h1 n as zs hn p ls (-1) o e S
  refine ⟨T, ?_⟩
  rw [call_def h]
  simp [f_forth, c_forth, e1]
theorem back_run {tab : List Fd} {f d : Nat} (h : OkBack tab f) (n : Int) (as zs : List P2) (hn : as.length + as.length < turns) (p : Int) (ls : List Int) (o : Option Wk) (e : stepM as zs (p, ls) 1 = some o) (S : Sto) :
    ∃ T, callF tab (d + 8) f [PL n as zs, WK p ls] S = .ok (oW o) (S ++ T) := by
  obtain ⟨i1, h1, h⟩ := h
  obtain ⟨T, e1⟩ := step_run (d := d) h1 n as zs hn p ls 1 o e S
  refine ⟨T, ?_⟩
  rw [call_def h]
  simp [f_back, c_back, e1]

end Sp
end
section
set_option linter.all false
set_option linter.unusedSimpArgs false
/-! M7: made_at_ends, middle, back_middle, almost_split, road, road_back -/
open Ev PySem L2
namespace Sp
def c_made_at_ends_e0 (i_both_rows i_turned i_string_of i_has_sign i_put i_piece_of : Nat) : CE := (.lc false [9, 10] (.tp [(.nm 9), (.nm 10)]) (.enum (.ix (.v 6) (.k (.int 1)))) [(.not (.call i_has_sign [(.v 10), (.v 2)]))] (.v 9))
def c_made_at_ends_b0 (i_both_rows i_turned i_string_of i_has_sign i_put i_piece_of : Nat) : List CS := [
 .asg (.nm 8) (c_made_at_ends_e0 i_both_rows i_turned i_string_of i_has_sign i_put i_piece_of),
 .iff (.v 7) [
  .ex (.me .append (.v 3) [(.call i_string_of [(.v 0), (.call i_put [(.v 6), (.v 7)])])])] [
  .iff (.v 8) [
   .ex (.me .append (.v 3) [(.call i_string_of [(.v 0), (.call i_piece_of [(.v 0), (.v 6), (.k (.int 0)), (.ix (.v 8) (.neg (.k (.int 1))))])])])] []]]
def c_made_at_ends_s0 (i_both_rows i_turned i_string_of i_has_sign i_put i_piece_of : Nat) : CS := .fors (.tp [(.nm 6), (.nm 7)]) (.of (.tup [(.tup [(.call i_turned [(.v 0), (.v 1)]), (.v 4)]), (.tup [(.v 1), (.v 5)])])) (c_made_at_ends_b0 i_both_rows i_turned i_string_of i_has_sign i_put i_piece_of)
def c_made_at_ends (i_both_rows i_turned i_string_of i_has_sign i_put i_piece_of : Nat) : List CS := [
 .asg (.tp [(.nm 4), (.nm 5)]) (.call i_both_rows [(.v 0), (.v 1), (.v 2)]),
 .asg (.nm 3) (.lst true []),
 (c_made_at_ends_s0 i_both_rows i_turned i_string_of i_has_sign i_put i_piece_of),
 .ret (some (.bi false .tuple [(.bi false .sorted [(.v 3)])]))]
def f_made_at_ends (i_both_rows i_turned i_string_of i_has_sign i_put i_piece_of : Nat) : Fd := ⟨3, 11, c_made_at_ends i_both_rows i_turned i_string_of i_has_sign i_put i_piece_of⟩
def c_middle (i_made_at_ends : Nat) : List CS := [
 .ret (some (.call i_made_at_ends [(.v 0), (.v 1), (.neg (.k (.int 1)))]))]
def f_middle (i_made_at_ends : Nat) : Fd := ⟨2, 2, c_middle i_made_at_ends⟩
def c_back_middle (i_made_at_ends : Nat) : List CS := [
 .ret (some (.call i_made_at_ends [(.v 0), (.v 1), (.k (.int 1))]))]
def f_back_middle (i_made_at_ends : Nat) : Fd := ⟨2, 2, c_back_middle i_made_at_ends⟩
def c_almost_split (i_forth i_string_of i_middle : Nat) : List CS := [
 .asg (.nm 2) (.call i_forth [(.v 0), (.v 1)]),
 .iff (.cmp .is_ (.v 2) (.k .non)) [
  .rse 0 []] [],
 .ret (some (.tup [(.call i_string_of [(.v 0), (.v 1)]), (.call i_middle [(.v 0), (.v 1)]), (.v 2)]))]
def f_almost_split (i_forth i_string_of i_middle : Nat) : Fd := ⟨2, 3, c_almost_split i_forth i_string_of i_middle⟩
def c_road (i_zroad i_forth : Nat) : List CS := [
 .ret (some (.call i_zroad [(.v 0), (.v 1), (.v 2), (.g i_forth)]))]
def f_road (i_zroad i_forth : Nat) : Fd := ⟨3, 3, c_road i_zroad i_forth⟩
def c_road_back (i_zroad i_back : Nat) : List CS := [
 .ret (some (.call i_zroad [(.v 0), (.v 1), (.v 2), (.g i_back)]))]
def f_road_back (i_zroad i_back : Nat) : Fd := ⟨3, 3, c_road_back i_zroad i_back⟩
def c_zroad_b0 (i_string_of : Nat) : List CS := [
 .iff (.cmp .is_ (.v 5) (.k .non)) [
  .ret (some (.tup [(.k (.str "end")), (.bin .sub (.v 6) (.k (.int 1)))]))] [],
 .iff (.cmp .eq (.v 5) (.v 4)) [
  .ret (some (.tup [(.k (.str "ring")), (.v 6)]))] [],
 .asg (.nm 5) (.callv 3 [(.v 0), (.v 5)])]
def c_zroad_s0 (i_string_of : Nat) : CS := .fors (.nm 6) (.rng [(.k (.int 1)), (.bin .add (.v 2) (.k (.int 1)))]) (c_zroad_b0 i_string_of)
def c_zroad (i_string_of : Nat) : List CS := [
 .asg (.nm 4) (.call i_string_of [(.v 0), (.v 1)]),
 .asg (.nm 5) (.callv 3 [(.v 0), (.v 4)]),
 (c_zroad_s0 i_string_of),
 .iff (.cmp .is_ (.v 5) (.k .non)) [
  .ret (some (.tup [(.k (.str "end")), (.v 2)]))] [],
 .rse 0 []]
def f_zroad (i_string_of : Nat) : Fd := ⟨4, 7, c_zroad i_string_of⟩
-- M7: made_at_ends, middle, back_middle, almost_split, road, road_back
theorem forL_two {t : CT} {body : Ev.Loc → Sto → Out} {x y : D} {l l1 l2 l3 l4 : Ev.Loc} {S S2 S4 : Sto} (h1 : asgT S t x l = some l1) (b1 : body l1 S = .nx l2 S2) (h2 : asgT S2 t y l2 = some l3) (b2 : body l3 S2 = .nx l4 S4) :
    forL (.one (.vals [x, y])) t body turns 0 l S = .nx l4 S4 := by
  rw [show turns = 999997 + 1 + 1 + 1 from rfl]
  simp [forL, IT.at, Src.at, h1, b1, h2, b2]
theorem forL_four {t : CT} {body : Ev.Loc → Sto → Out} {x y z w : D} {l l1 l2 l3 l4 l5 l6 l7 l8 : Ev.Loc} {S S2 S4 S6 S8 : Sto} (h1 : asgT S t x l = some l1) (b1 : body l1 S = .nx l2 S2) (h2 : asgT S2 t y l2 = some l3) (b2 : body l3 S2 = .nx l4 S4)
    (h3 : asgT S4 t z l4 = some l5) (b3 : body l5 S4 = .nx l6 S6) (h4 : asgT S6 t w l6 = some l7) (b4 : body l7 S6 = .nx l8 S8) :
    forL (.one (.vals [x, y, z, w])) t body turns 0 l S = .nx l8 S8 := by
  rw [show turns = 999995 + 1 + 1 + 1 + 1 + 1 from rfl]
  simp [forL, IT.at, Src.at, h1, b1, h2, b2, h3, b3, h4, b4]
def OkMade (tab : List Fd) (f : Nat) : Prop := ∃ br tu st hs pu pp, OkBR tab br ∧ OkTur tab tu ∧ OkStr tab st ∧ tab[hs]? = some f_has_sign ∧ tab[pu]? = some f_put ∧ OkPie tab pp ∧ tab[f]? = some (f_made_at_ends br tu st hs pu pp)
def oneM (as : List P2) (w : Wk) (row : List Int) (s : Int) : Option (Option Wk) :=
  if w.2.length < turns then
    if row = [] then match atI (idxS false s w.2) (-1) with
      | some b => (pieM as w 0 b).bind fun v => (strG as v).map some
      | none => some none
    else (putM w row).bind fun v => (strG as v).map some
  else none
def madeM (as zs : List P2) (w : Wk) (s : Int) : Option (List Wk) :=
  (brM as zs w s).bind fun q => (turG as w).bind fun t => (oneM as t q.1 s).bind fun a => (oneM as w q.2 s).bind fun b => some (sortW (a.toList ++ b.toList))
theorem one_body {tab : List Fd} {d br tu st hs pu pp : Nat} (h3 : OkStr tab st) (h4 : tab[hs]? = some f_has_sign) (h5 : tab[pu]? = some f_put) (h6 : OkPie tab pp) (n : Int) (as zs : List P2) (s : Int) (S0 : Sto) (acc : List Wk) (hacc : acc.length < 2)
    (x0 x1 x4 x5 x8 x9 x10 : Option D) (p : Int) (ls row : List Int) (o : Option Wk) (e : oneM as (p, ls) row s = some o) (hx : x9 = none ∧ x10 = none) :
    ∃ u, exSs (exS (evE (callF tab (d + 6)) 60) 59) (c_made_at_ends_b0 br tu st hs pu pp) [some (PL n as zs), x1, some (.int s), some (.ref S0.length), x4, x5, some (WK p ls), some (.tup (row.map .int)), x8, x9, x10] (S0 ++ [.lst (acc.map wD)])
      = .nx [some (PL n as zs), x1, some (.int s), some (.ref S0.length), x4, x5, some (WK p ls), some (.tup (row.map .int)), u, none, none] (S0 ++ [.lst ((acc ++ o.toList).map wD)]) := by
  obtain ⟨rfl, rfl⟩ := hx
  unfold oneM at e
  split at e
  · rename_i hlen
    have e0 : evE (callF tab (d + 6)) 60 (c_made_at_ends_e0 br tu st hs pu pp) [some (PL n as zs), x1, some (.int s), some (.ref S0.length), x4, x5, some (WK p ls), some (.tup (row.map .int)), x8, none, none] (S0 ++ [.lst (acc.map wD)]) = .ok (.lst ((idxS false s ls).map .int)) (S0 ++ [.lst (acc.map wD)]) := by
      have key := idx_e0 (F := callF tab (d + 6)) (hs := hs) (fun a s S => hs_run h4 a s S) (l := [some (PL n as zs), x1, some (.int s), some (.ref S0.length), x4, x5, some (WK p ls), some (.tup (row.map .int)), x8, none, none]) (n := 59) (tg := .tp [(.nm 9), (.nm 10)]) (ifs := [(.not (.call hs [(.v 10), (.v 2)]))]) (elt := .v 9) (S := S0 ++ [.lst (acc.map wD)]) (ls := ls) (s := s) false hlen
        (fun i a => ⟨[some (PL n as zs), x1, some (.int s), some (.ref S0.length), x4, x5, some (WK p ls), some (.tup (row.map .int)), x8, some (.int i), some (.int a)], by simp, by simp [hs_run h4]; cases hasS a s <;> rfl, by simp⟩)
      simp [c_made_at_ends_e0, e_lc, key]
    have hz : acc.length < sizeLine := by unfold sizeLine; omega
    refine ⟨some (.lst ((idxS false s ls).map .int)), ?_⟩
    by_cases hr : row = []
    · simp only [hr, if_true] at e
      subst hr
      by_cases hB : idxS false s ls = []
      · rw [hB, at_nil] at e
        cases e
        try simp at e0
        simp [c_made_at_ends_b0, e0, hB]
      · obtain ⟨b, hb⟩ := at_last _ hB
        rw [hb] at e
        simp only [Option.bind_eq_some_iff, Option.map_eq_some_iff] at e
        obtain ⟨v, hv, x, hx, rfl⟩ := e
        try simp at e0
        simp [c_made_at_ends_b0, e0, hB, hb, pie_run' h6 n as zs hv, strG_run h3 n as zs hx, hz]
    · simp only [hr, if_false, Option.bind_eq_some_iff, Option.map_eq_some_iff] at e
      obtain ⟨v, hv, x, hx, rfl⟩ := e
      try simp at e0
      simp [c_made_at_ends_b0, e0, hr, put_run' h5 hv, strG_run h3 n as zs hx, hz]
  · cases e
theorem made_run {tab : List Fd} {f d : Nat} (h : OkMade tab f) (n : Int) (as zs : List P2) (hn : as.length + as.length < turns) (p : Int) (ls : List Int) (s : Int) (ws : List Wk) (e : madeM as zs (p, ls) s = some ws) (S : Sto) :
    ∃ T, callF tab (d + 7) f [PL n as zs, WK p ls, .int s] S = .ok (.tup (ws.map wD)) (S ++ T) := by
  obtain ⟨i1, i2, i3, i4, i5, i6, h1, h2, h3, h4, h5, h6, h⟩ := h
  rw [call_def h]
  unfold madeM at e
  simp only [Option.bind_eq_some_iff, Option.some.injEq] at e
  obtain ⟨⟨l, r⟩, hbr, ⟨tp, tl⟩, ht, a, ha, b, hb, rfl⟩ := e
  obtain ⟨T, e1⟩ := br_run (d := d) h1 n as zs hn p ls s l r hbr S
  obtain ⟨u1, b1⟩ := one_body (d := d) (br := i1) (tu := i2) h3 h4 h5 h6 n as zs s (S ++ T) [] (by decide) none (some (WK p ls)) (some (.tup (l.map .int))) (some (.tup (r.map .int))) none none none tp tl l a ha ⟨rfl, rfl⟩
  obtain ⟨u2, b2⟩ := one_body (d := d) (br := i1) (tu := i2) h3 h4 h5 h6 n as zs s (S ++ T) ([] ++ a.toList) (by cases a <;> simp) none (some (WK p ls)) (some (.tup (l.map .int))) (some (.tup (r.map .int))) u1 none none p ls r b hb ⟨rfl, rfl⟩
  have key := forL_two (t := .tp [(.nm 6), (.nm 7)]) (x := .tup [WK tp tl, .tup (l.map .int)]) (y := .tup [WK p ls, .tup (r.map .int)]) (l := [some (PL n as zs), some (WK p ls), some (.int s), some (.ref (S ++ T).length), some (.tup (l.map .int)), some (.tup (r.map .int)), none, none, none, none, none]) (by simp) b1 (by simp) b2
  have hs : biD ((S ++ T) ++ [.lst (([] ++ a.toList ++ b.toList).map wD)]) .sorted [.ref (S ++ T).length] = some (.lst ((sortW ([] ++ a.toList ++ b.toList)).map wD)) := by
    simp only [biD, read_end]
    rw [if_pos (sortOk_w _), sortD_w]
  refine ⟨T ++ [.lst (([] ++ a.toList ++ b.toList).map wD)], ?_⟩
  simp at key hs
  simp [f_made_at_ends, c_made_at_ends, e1, c_made_at_ends_s0, s_for, turG_run h2 n as zs ht, key, hs]
def OkMid (tab : List Fd) (f : Nat) : Prop := ∃ m, OkMade tab m ∧ tab[f]? = some (f_middle m)
def OkBMid (tab : List Fd) (f : Nat) : Prop := ∃ m, OkMade tab m ∧ tab[f]? = some (f_back_middle m)
theorem mid_run {tab : List Fd} {f d : Nat} (h : OkMid tab f) (n : Int) (as zs : List P2) (hn : as.length + as.length < turns) (p : Int) (ls : List Int) (ws : List Wk) (e : madeM as zs (p, ls) (-1) = some ws) (S : Sto) :
    ∃ T, callF tab (d + 8) f [PL n as zs, WK p ls] S = .ok (.tup (ws.map wD)) (S ++ T) := by
  obtain ⟨i1, h1, h⟩ := h
  obtain ⟨T, e1⟩ := made_run (d := d) h1 n as zs hn p ls (-1) ws e S
  refine ⟨T, ?_⟩
  rw [call_def h]
  simp [f_middle, c_middle, e1]
theorem bmid_run {tab : List Fd} {f d : Nat} (h : OkBMid tab f) (n : Int) (as zs : List P2) (hn : as.length + as.length < turns) (p : Int) (ls : List Int) (ws : List Wk) (e : madeM as zs (p, ls) 1 = some ws) (S : Sto) :
    ∃ T, callF tab (d + 8) f [PL n as zs, WK p ls] S = .ok (.tup (ws.map wD)) (S ++ T) := by
  obtain ⟨i1, h1, h⟩ := h
  obtain ⟨T, e1⟩ := made_run (d := d) h1 n as zs hn p ls 1 ws e S
  refine ⟨T, ?_⟩
  rw [call_def h]
  simp [f_back_middle, c_back_middle, e1]
/-! almost_split -/
@[simp] theorem isNon_w {o : Option Wk} : isNonD (oW o) = o.isNone := by cases o <;> rfl
def OkAs (tab : List Fd) (f : Nat) : Prop := ∃ fo st mi, OkForth tab fo ∧ OkStr tab st ∧ OkMid tab mi ∧ tab[f]? = some (f_almost_split fo st mi)
def asM (as zs : List P2) (w : Wk) : Option (Wk × List Wk × Wk) := (stepM as zs w (-1)).bind fun o => o.bind fun v => (strG as w).bind fun x => (madeM as zs w (-1)).bind fun m => some (x, m, v)
theorem as_run {tab : List Fd} {f d : Nat} (h : OkAs tab f) (n : Int) (as zs : List P2) (hn : as.length + as.length < turns) (p : Int) (ls : List Int) (x v : Wk) (m : List Wk) (e : asM as zs (p, ls) = some (x, m, v)) (S : Sto) :
    ∃ T, callF tab (d + 9) f [PL n as zs, WK p ls] S = .ok (.tup [wD x, .tup (m.map wD), wD v]) (S ++ T) := by
  obtain ⟨i1, i2, i3, h1, h2, h3, h⟩ := h
  rw [call_def h]
  unfold asM at e
  simp only [Option.bind_eq_some_iff, Option.some.injEq, Prod.mk.injEq] at e
  obtain ⟨o, ho, v', rfl, x', hx, m', hm, rfl, rfl, rfl⟩ := e
  obtain ⟨T, e1⟩ := forth_run (d := d) h1 n as zs hn p ls _ ho S
  obtain ⟨T', e2⟩ := mid_run (d := d) h3 n as zs hn p ls _ hm (S ++ T)
  refine ⟨T ++ T', ?_⟩
  simp [f_almost_split, c_almost_split, e1, strG_run h2 n as zs hx, e2, isNonD]
/-! road -/
@[simp] theorem e_callv {F : Nat → List D → Sto → R3 D} {n : Nat} {l : Ev.Loc} {S : Sto} {i f es} (h : l[i]? = some (some (.fn f))) : evE F (n+1) (.callv i es) l S = (evL (evE F n) es l S).bind fun ds S1 => F f ds S1 := by
  show (match l[i]? with | some (some (.fn f)) => (evL (evE F n) es l S).bind fun ds S1 => F f ds S1 | _ => .stuck) = _
  rw [h]
def rdD (q : Bool × Int) : D := .tup [.str (if q.1 then "ring" else "end"), .int q.2]
def roadLoop (as zs : List P2) (s most : Int) (start : Wk) : Nat → Int → Option Wk → Option (Bool × Int)
  | 0, _, here => if here = none then some (false, most) else none
  | _ + 1, k, none => some (false, k - 1)
  | m + 1, k, some h => if h = start then some (true, k) else (stepM as zs h s).bind fun o => roadLoop as zs s most start m (k + 1) o
def roadM (as zs : List P2) (w : Wk) (most s : Int) : Option (Bool × Int) := (strG as w).bind fun x => (stepM as zs x s).bind fun o => roadLoop as zs s most x most.toNat 1 o
def OkZ (tab : List Fd) (f : Nat) : Prop := ∃ st, OkStr tab st ∧ tab[f]? = some (f_zroad st)
theorem zroad_run {tab : List Fd} {f d fs : Nat} (h : OkZ tab f) (n : Int) (as zs : List P2) (s : Int) (hst : ∀ p ls o, stepM as zs (p, ls) s = some o → ∀ S, ∃ T, callF tab (d + 8) fs [PL n as zs, WK p ls] S = .ok (oW o) (S ++ T)) (p : Int) (ls : List Int) (most : Int) (hm : 0 ≤ most ∧ most < 1000) (q : Bool × Int) (e : roadM as zs (p, ls) most s = some q) (S : Sto) :
    ∃ T, callF tab (d + 9) f [PL n as zs, WK p ls, .int most, .fn fs] S = .ok (rdD q) (S ++ T) := by
  obtain ⟨i1, h1, h⟩ := h
  rw [call_def h]
  unfold roadM at e
  simp only [Option.bind_eq_some_iff] at e
  obtain ⟨⟨xp, xl⟩, hx, o, ho, e⟩ := e
  obtain ⟨T, e1⟩ := hst _ _ _ ho S
  have hrng : rngD [.int 1, .int (most + 1)] = some (.rng 1 1 most.toNat) := by
    simp only [rngD]
    rw [if_pos (by unfold small; simp; omega)]
    congr 2
    omega
  suffices key : ∃ T', (forL (.rng 1 1 most.toNat) (.nm 6) (exSs (exS (evE (callF tab (d + 8)) 60) 59) (c_zroad_b0 i1)) turns 0 [some (PL n as zs), some (WK p ls), some (.int most), some (.fn fs), some (WK xp xl), some (oW o), none] (S ++ T) = .rt (rdD q) (S ++ T')) ∨
      (∃ u, forL (.rng 1 1 most.toNat) (.nm 6) (exSs (exS (evE (callF tab (d + 8)) 60) 59) (c_zroad_b0 i1)) turns 0 [some (PL n as zs), some (WK p ls), some (.int most), some (.fn fs), some (WK xp xl), some (oW o), none] (S ++ T) = .nx [some (PL n as zs), some (WK p ls), some (.int most), some (.fn fs), some (WK xp xl), some .non, u] (S ++ T') ∧ q = (false, most)) by
    obtain ⟨T', hk | ⟨u, hk, rfl⟩⟩ := key
    · exact ⟨T', by simp [f_zroad, c_zroad, strG_run h1 n as zs hx, e1, c_zroad_s0, s_for, hrng, hk]⟩
    · exact ⟨T', by simp [f_zroad, c_zroad, strG_run h1 n as zs hx, e1, c_zroad_s0, s_for, hrng, hk, rdD]⟩
  refine forL_ind (row_rng 1 most.toNat) (fun i l' S' => (∃ T', S' = S ++ T') ∧ (∃ here u, l' = [some (PL n as zs), some (WK p ls), some (.int most), some (.fn fs), some (WK xp xl), some (oW here), u] ∧ roadLoop as zs s most (xp, xl) (most.toNat - i) (1 + i) here = some q))
    (fun oo => ∃ T', (oo = .rt (rdD q) (S ++ T')) ∨ (∃ u, oo = .nx [some (PL n as zs), some (WK p ls), some (.int most), some (.fn fs), some (WK xp xl), some .non, u] (S ++ T') ∧ q = (false, most))) ?_ ?_ _ 0 turns _ (S ++ T) rfl (Nat.zero_le _) (by simp; unfold turns; omega) ⟨⟨T, rfl⟩, ⟨o, none, rfl, by simpa using e⟩⟩
  · rintro i dd l' S' hd ⟨⟨T', rfl⟩, here, u, rfl, hl⟩
    rw [List.getElem?_map] at hd
    have hi : i < most.toNat := by
      rcases Nat.lt_or_ge i most.toNat with h | h
      · exact h
      · rw [List.getElem?_eq_none (by simpa using h)] at hd; cases hd
    rw [List.getElem?_range hi] at hd
    simp only [Option.map_some, Option.some.injEq] at hd
    subst hd
    refine ⟨_, asg_nm, ?_⟩
    obtain ⟨m, hm'⟩ : ∃ m, most.toNat - i = m + 1 := ⟨most.toNat - i - 1, by omega⟩
    rw [hm'] at hl
    cases here with
    | none =>
      simp only [roadLoop, Option.some.injEq] at hl
      subst hl
      exact ⟨T', .inl (by simp [c_zroad_b0, rdD, isNonD])⟩
    | some w =>
      obtain ⟨wp, wl⟩ := w
      simp only [roadLoop] at hl
      by_cases hw : (wp, wl) = (xp, xl)
      · rw [if_pos hw] at hl
        cases hl
        have he : cmpD (S ++ T') .eq (WK wp wl) (WK xp xl) = some (decide ((wp, wl) = (xp, xl))) := eq_w (wp, wl) (xp, xl)
        rw [decide_eq_true hw] at he
        simp [c_zroad_b0, he, rdD, isNonD]
      · rw [if_neg hw] at hl
        simp only [Option.bind_eq_some_iff] at hl
        obtain ⟨o', ho', hl⟩ := hl
        have he : cmpD (S ++ T') .eq (WK wp wl) (WK xp xl) = some (decide ((wp, wl) = (xp, xl))) := eq_w (wp, wl) (xp, xl)
        rw [decide_eq_false hw] at he
        obtain ⟨T2, e2⟩ := hst _ _ _ ho' (S ++ T')
        simp [c_zroad_b0, he, isNonD, e2]
        refine ⟨o', rfl, ?_⟩
        rw [show most.toNat - (i + 1) = m by omega]
        rw [show (1 : Int) + ((i : Int) + 1) = 1 + (i : Int) + 1 by omega]
        exact hl
  · rintro l' S' ⟨⟨T', rfl⟩, here, u, rfl, hl⟩
    simp only [List.length_map, List.length_range, Nat.sub_self, roadLoop] at hl
    split at hl
    · rename_i hh
      subst hh
      cases hl
      exact ⟨T', .inr ⟨u, rfl, rfl⟩⟩
    · cases hl
def OkRoad (tab : List Fd) (f : Nat) : Prop := ∃ z fo, OkZ tab z ∧ OkForth tab fo ∧ tab[f]? = some (f_road z fo)
def OkRoadB (tab : List Fd) (f : Nat) : Prop := ∃ z fo, OkZ tab z ∧ OkBack tab fo ∧ tab[f]? = some (f_road_back z fo)
theorem road_run {tab : List Fd} {f d : Nat} (h : OkRoad tab f) (n : Int) (as zs : List P2) (hn : as.length + as.length < turns) (p : Int) (ls : List Int) (most : Int) (hm : 0 ≤ most ∧ most < 1000) (q : Bool × Int) (e : roadM as zs (p, ls) most (-1) = some q) (S : Sto) :
    ∃ T, callF tab (d + 10) f [PL n as zs, WK p ls, .int most] S = .ok (rdD q) (S ++ T) := by
  obtain ⟨i1, i2, h1, h2, h⟩ := h
  obtain ⟨T, e1⟩ := zroad_run (d := d) h1 n as zs (-1) (fun p ls o ho S => forth_run h2 n as zs hn p ls o ho S) p ls most hm q e S
  refine ⟨T, ?_⟩
  rw [call_def h]
  simp [f_road, c_road, e1]
theorem roadB_run {tab : List Fd} {f d : Nat} (h : OkRoadB tab f) (n : Int) (as zs : List P2) (hn : as.length + as.length < turns) (p : Int) (ls : List Int) (most : Int) (hm : 0 ≤ most ∧ most < 1000) (q : Bool × Int) (e : roadM as zs (p, ls) most 1 = some q) (S : Sto) :
    ∃ T, callF tab (d + 10) f [PL n as zs, WK p ls, .int most] S = .ok (rdD q) (S ++ T) := by
  obtain ⟨i1, i2, h1, h2, h⟩ := h
  obtain ⟨T, e1⟩ := zroad_run (d := d) h1 n as zs 1 (fun p ls o ho S => back_run h2 n as zs hn p ls o ho S) p ls most hm q e S
  refine ⟨T, ?_⟩
  rw [call_def h]
  simp [f_road_back, c_road_back, e1]

end Sp
end
section
set_option linter.all false
set_option linter.unusedSimpArgs false
/-! L1: what the laws draw with: begun, draw, like -/
open Ev PySem L2
namespace Sp
def c_law_begun_e0  : CE := (.lc false [5] (.nm 5) (.of (.v 2)) [(.cmp .ge (.v 5) (.bin .pow (.k (.int 10)) (.k (.int 18))))] (.v 5))
def c_law_begun_b0  : List CS := [
 .asg (.nm 4) (.bin .mod (.bi false .int [(.bin .add (.bin .mul (.v 4) (.k (.int 48271))) (.v 5))]) (.k (.int 2147483647)))]
def c_law_begun_s0  : CS := .fors (.nm 5) (.of (.v 2)) c_law_begun_b0
def c_law_begun  : List CS := [
 .asg (.nm 2) (.bin .add (.sl (.v 0) (some (.v 1)) none) (.sl (.v 0) none (some (.v 1)))),
 .asg (.nm 3) c_law_begun_e0,
 .asg (.nm 4) (.bin .add (.k (.int 71)) (.v 1)),
 c_law_begun_s0,
 .ret (some (.dct [.inr "left", .inr "seed", .inr "cells", .inr "spot"] [(.ife (.cmp .ne (.v 3) (.lst false [])) (.ix (.v 3) (.k (.int 0))) (.k (.int 0))), (.v 4), (.bin .add (.v 2) (.lst false [(.bin .add (.bin .mul (.k (.int 53)) (.v 1)) (.k (.int 11)))])), (.k (.int 0))]))]
def f_law_begun  : Fd := ⟨2, 6, c_law_begun ⟩
def c_law_draw  : List CS := [
 .iff (.cmp .gt (.ix (.v 0) (.k (.str "left"))) (.k (.int 0))) [
  .asg (.nm 5) (.bin .mod (.bi false .int [(.ix (.v 0) (.k (.str "left")))]) (.v 1)),
  .set (.v 0) (.k (.str "left")) (.bin .fdiv (.ix (.v 0) (.k (.str "left"))) (.v 1)),
  .ret (some (.v 5))] [],
 .asg (.nm 2) (.ix (.v 0) (.k (.str "spot"))),
 .set (.v 0) (.k (.str "spot")) (.bin .add (.v 2) (.k (.int 1))),
 .par [6, 7] [(.ix (.v 0) (.k (.str "cells"))), (.bin .add (.ix (.v 0) (.k (.str "seed"))) (.bin .mul (.bin .mul (.k (.int 40503)) (.v 2)) (.v 2)))],
 .asg (.nm 3) (.ix (.v 6) (.bin .mod (.bi false .int [(.v 2)]) (.bi false .len [(.v 6)]))),
 .asg (.nm 4) (.bin .mod (.bi false .int [(.bin .add (.bin .mul (.v 3) (.bin .add (.bin .mul (.k (.int 2)) (.v 2)) (.k (.int 3)))) (.v 7))]) (.k (.int 2147483647))),
 .asg (.nm 4) (.bin .mod (.bi false .int [(.bin .add (.bin .add (.bin .mul (.v 4) (.v 4)) (.bin .mul (.k (.int 69621)) (.v 2))) (.ix (.v 0) (.k (.str "seed"))))]) (.k (.int 2147483629))),
 .ret (some (.bin .mod (.bin .fdiv (.bin .mod (.bi false .int [(.bin .add (.bin .mul (.v 4) (.k (.int 48271))) (.v 2))]) (.k (.int 2147483647))) (.k (.int 11))) (.v 1)))]
def f_law_draw  : Fd := ⟨2, 8, c_law_draw ⟩
def c_law_like  : List CS := [
 .ret (some (.cmp .eq (.bi false .repr [(.v 0)]) (.bi false .repr [(.v 1)])))]
def f_law_like  : Fd := ⟨2, 2, c_law_like ⟩
def c_law_ends  : List CS := [
 .asg (.tp [(.nm 2), (.nm 3)]) (.ix (.ix (.v 0) (.k (.int 1))) (.ife (.cmp .ge (.v 1) (.k (.int 0))) (.v 1) (.bin .sub (.neg (.k (.int 1))) (.v 1)))),
 .ret (some (.ife (.cmp .ge (.v 1) (.k (.int 0))) (.tup [(.v 2), (.v 3)]) (.tup [(.v 3), (.v 2)])))]
def f_law_ends  : Fd := ⟨2, 4, c_law_ends ⟩
def c_law_points_e0 (i_law_ends : Nat) : CE := (.lc false [2] (.nm 2) (.of (.ix (.v 1) (.k (.int 1)))) [] (.ix (.call i_law_ends [(.v 0), (.v 2)]) (.k (.int 1))))
def c_law_points (i_law_ends : Nat) : List CS := [
 .ret (some (.bin .add (.lst false [(.ix (.v 1) (.k (.int 0)))]) (c_law_points_e0 i_law_ends)))]
def f_law_points (i_law_ends : Nat) : Fd := ⟨2, 3, c_law_points i_law_ends⟩
def c_law_turned_e0 (i_law_points : Nat) : CE := (.lc false [2] (.nm 2) (.revd (.ix (.v 1) (.k (.int 1)))) [] (.bin .sub (.neg (.k (.int 1))) (.v 2)))
def c_law_turned (i_law_points : Nat) : List CS := [
 .ret (some (.tup [(.ix (.call i_law_points [(.v 0), (.v 1)]) (.neg (.k (.int 1)))), (.bi false .tuple [(c_law_turned_e0 i_law_points)])]))]
def f_law_turned (i_law_points : Nat) : Fd := ⟨2, 3, c_law_turned i_law_points⟩
def c_law_string (i_law_turned : Nat) : List CS := [
 .ret (some (.bi false .min [(.v 1), (.call i_law_turned [(.v 0), (.v 1)])]))]
def f_law_string (i_law_turned : Nat) : Fd := ⟨2, 2, c_law_string i_law_turned⟩
def c_law_stretch_e0  : CE := (.lc false [4] (.nm 4) (.rng [(.bin .sub (.v 1) (.k (.int 1))), (.bin .sub (.v 0) (.k (.int 1))), (.neg (.k (.int 1)))]) [] (.bin .sub (.neg (.k (.int 1))) (.v 4)))
def c_law_stretch  : List CS := [
 .asg (.nm 2) (.tup [(.v 0), (.tr true false [(.v 0), (.v 1)])]),
 .asg (.nm 3) (.tup [(.v 1), (.bi false .tuple [c_law_stretch_e0])]),
 .ret (some (.bi false .min [(.v 2), (.v 3)]))]
def f_law_stretch  : Fd := ⟨2, 5, c_law_stretch ⟩
-- L1: what the laws draw with: begun, draw, like
open PySem.Builtin.Int in
theorem mul_ok {i j : Int} {m n : Nat} (hi : intBits i ≤ m) (hj : intBits j ≤ n) (h : m + n ≤ 134217728) : mulOk i j = true := by
  unfold mulOk
  rw [decide_eq_true_eq]
  omega
theorem bits_lt {x : Int} {m : Nat} (h : x.natAbs < 2 ^ m) : Builtin.Int.intBits x ≤ m := intBits_le_iff.mpr h
theorem mul_ok64 {i j : Int} (hi : i.natAbs < 18446744073709551616) (hj : j.natAbs < 18446744073709551616) : mulOk i j = true :=
  mul_ok (m := 64) (n := 64) (bits_lt hi) (bits_lt hj) (by decide)
structure DrS where
  left : Int
  seed : Int
  cells : List Int
  spot : Int
def dkv (m : DrS) : List (Key × D) := [(.inr "left", .int m.left), (.inr "seed", .int m.seed), (.inr "cells", .lst (m.cells.map .int)), (.inr "spot", .int m.spot)]
theorem look_left (m : DrS) : lookK (dkv m) (.inr "left") = some (.int m.left) := rfl
theorem look_seed (m : DrS) : lookK (dkv m) (.inr "seed") = some (.int m.seed) := rfl
theorem look_cells (m : DrS) : lookK (dkv m) (.inr "cells") = some (.lst (m.cells.map .int)) := rfl
theorem look_spot (m : DrS) : lookK (dkv m) (.inr "spot") = some (.int m.spot) := rfl
theorem put_left (m : DrS) (x : Int) : putD (dkv m) (.inr "left") (.int x) = dkv { m with left := x } := rfl
theorem put_spot (m : DrS) (x : Int) : putD (dkv m) (.inr "spot") (.int x) = dkv { m with spot := x } := rfl
theorem ix_dk {S : Sto} {r : Nat} {kvs : List (Key × D)} (h : S[r]? = some (.dk kvs)) (s : Str) : ixD S (.ref r) (.str s) = lookK kvs (.inr s) := by
  simp [ixD, D.read, h]
theorem set_dk {S : Sto} {r : Nat} {kvs : List (Key × D)} (h : S[r]? = some (.dk kvs)) (hl : kvs.length < sizeLine) (s : Str) (d : D) : setD (.ref r) (.str s) d S = some (S.set r (.dk (putD kvs (.inr s) d))) := by
  simp [setD, h, hl]
theorem get_set {S : Sto} {r : Nat} {c c' : Cell} (h : S[r]? = some c) : (S.set r c')[r]? = some c' := by
  have := (List.getElem?_eq_some_iff.mp h).1
  simp [this]
def drawV (seed spot cell b : Int) : Int :=
  let b1 := (cell * (2 * spot + 3) + (seed + 40503 * spot * spot)) % 2147483647
  let b2 := (b1 * b1 + 69621 * spot + seed) % 2147483629
  (b2 * 48271 + spot) % 2147483647 / 11 % b
def drawM (m : DrS) (b : Int) : Int × DrS :=
  if 0 < m.left then (m.left % b, { m with left := m.left / b })
  else (drawV m.seed m.spot (m.cells[(m.spot % m.cells.length).toNat]?.getD 0) b, { m with spot := m.spot + 1 })
structure OkDr (N : Nat) (m : DrS) : Prop where
  ne : m.cells ≠ []
  bits : ∀ z ∈ m.cells, Builtin.Int.intBits z ≤ 1048576
  spot : 0 ≤ m.spot ∧ m.spot ≤ N
  seed : 0 ≤ m.seed ∧ m.seed < 2147483647
theorem OkDr.step {N : Nat} {m : DrS} (h : OkDr N m) (b : Int) : OkDr (N + 1) (drawM m b).2 := by
  unfold drawM
  have := h.spot
  split
  · exact ⟨h.ne, h.bits, ⟨by show 0 ≤ m.spot; omega, by show m.spot ≤ _; omega⟩, h.seed⟩
  · exact ⟨h.ne, h.bits, ⟨by show 0 ≤ m.spot + 1; omega, by show m.spot + 1 ≤ _; omega⟩, h.seed⟩
theorem drawM_lt (m : DrS) {b : Int} (hb : 0 < b) : 0 ≤ (drawM m b).1 ∧ (drawM m b).1 < b := by
  unfold drawM drawV
  split
  · exact ⟨Int.emod_nonneg _ (by omega), Int.emod_lt_of_pos _ hb⟩
  · exact ⟨Int.emod_nonneg _ (by omega), Int.emod_lt_of_pos _ hb⟩
@[simp] theorem s_set {ev : CE → Ev.Loc → Sto → R3 D} {n : Nat} {l : Ev.Loc} {S : Sto} {o i e} : exS ev (n+1) (.set o i e) l S = (ev e l S).out fun d S1 => (ev o l S1).out fun x S2 => (ev i l S2).out fun y S3 => (setD x y d S3).elim .stuck fun S4 => .nx l S4 := by
  show (ev e l S).out (fun d S1 => (ev o l S1).out fun x S2 => (ev i l S2).out fun y S3 => match setD x y d S3 with | some S4 => .nx l S4 | none => .stuck) = _
  congr 1
  funext d S1
  congr 1
  funext x S2
  congr 1
  funext y S3
  cases setD x y d S3 <;> rfl
theorem draw_run {tab : List Fd} {f d : Nat} (h : tab[f]? = some f_law_draw) {S : Sto} {r N : Nat} {m : DrS} (hS : S[r]? = some (.dk (dkv m))) (ok : OkDr N m) (hN : N < 1000000000) {b : Int} (hb : 0 < b ∧ b < 1073741824) :
    callF tab (d + 1) f [.ref r, .int b] S = .ok (.int (drawM m b).1) (S.set r (.dk (dkv (drawM m b).2))) := by
  have hl : (dkv m).length < sizeLine := by unfold sizeLine; simp [dkv]
  rw [call_body h rfl (l := [some (.ref r), some (.int b), none, none, none, none, none, none]) rfl]
  show (exSs (exS (evE (callF tab d) 60) 60) c_law_draw _ S).fin = _
  unfold c_law_draw
  by_cases h0 : 0 < m.left
  · have hm : drawM m b = (m.left % b, { m with left := m.left / b }) := if_pos h0
    rw [hm]
    refine ss_ret ?_
    simp [ix_dk hS, look_left, h0, hb.1, hb.2, set_dk hS hl, put_left]
  · obtain ⟨hs0, hs1⟩ := ok.spot
    obtain ⟨hd0, hd1⟩ := ok.seed
    have hlen : 0 < (m.cells.length : Int) := by
      have := List.length_pos_iff.mpr ok.ne
      omega
    have hlen' : 0 < m.cells.length := by omega
    have hq0 : 0 ≤ m.spot % (m.cells.length : Int) := Int.emod_nonneg _ (by omega)
    have hq1 : m.spot % (m.cells.length : Int) < m.cells.length := Int.emod_lt_of_pos _ hlen
    have hk : (m.spot % (m.cells.length : Int)).toNat < m.cells.length := by omega
    obtain ⟨cell, hc⟩ : ∃ c, m.cells[(m.spot % (m.cells.length : Int)).toNat]? = some c := ⟨_, List.getElem?_eq_getElem hk⟩
    have hat : atI m.cells (m.spot % (m.cells.length : Int)) = some cell := by rw [at_nn hq0, hc]
    have hbit := ok.bits _ (List.mem_of_getElem? hc)
    have hS2 := get_set (c' := .dk (dkv { m with spot := m.spot + 1 })) hS
    have m1 : mulOk 40503 m.spot = true := mul_ok64 (by decide) (by omega)
    have m2 : mulOk (40503 * m.spot) m.spot = true := mul_ok64 (by omega) (by omega)
    have m3 : mulOk 2 m.spot = true := mul_ok64 (by decide) (by omega)
    have m4 : mulOk cell (2 * m.spot + 3) = true := mul_ok hbit (bits_lt (m := 64) (by show _ < 18446744073709551616; omega)) (by decide)
    have m6 : mulOk 69621 m.spot = true := mul_ok64 (by decide) (by omega)
    have hv : (drawM m b) = (drawV m.seed m.spot cell b, { m with spot := m.spot + 1 }) := by
      unfold drawM
      rw [if_neg h0, hc, Option.getD_some]
    rw [hv]
    obtain ⟨b1, hb1⟩ : ∃ x, x = (cell * (2 * m.spot + 3) + (m.seed + 40503 * m.spot * m.spot)) % 2147483647 := ⟨_, rfl⟩
    obtain ⟨b2, hb2⟩ : ∃ x, x = (b1 * b1 + 69621 * m.spot + m.seed) % 2147483629 := ⟨_, rfl⟩
    have hv2 : drawV m.seed m.spot cell b = (b2 * 48271 + m.spot) % 2147483647 / 11 % b := by
      unfold drawV
      rw [hb2, hb1]
    rw [hv2]
    have m5 : mulOk b1 b1 = true := by
      have : 0 ≤ b1 ∧ b1 < 2147483647 := by rw [hb1]; exact ⟨Int.emod_nonneg _ (by decide), Int.emod_lt_of_pos _ (by decide)⟩
      exact mul_ok64 (by omega) (by omega)
    have m7 : mulOk b2 48271 = true := by
      have : 0 ≤ b2 ∧ b2 < 2147483629 := by rw [hb2]; exact ⟨Int.emod_nonneg _ (by decide), Int.emod_lt_of_pos _ (by decide)⟩
      exact mul_ok64 (by omega) (by decide)
    refine (ss_step (l1 := [some (.ref r), some (.int b), none, none, none, none, none, none]) (S1 := S) (by simp [ix_dk hS, look_left, h0])).trans ?_
    refine (ss_step (l1 := [some (.ref r), some (.int b), some (.int m.spot), none, none, none, none, none]) (S1 := S) (by simp [ix_dk hS, look_spot])).trans ?_
    refine (ss_step (l1 := [some (.ref r), some (.int b), some (.int m.spot), none, none, none, none, none]) (S1 := S.set r (.dk (dkv { m with spot := m.spot + 1 }))) (by simp [set_dk hS hl, put_spot])).trans ?_
    refine (ss_step (l1 := [some (.ref r), some (.int b), some (.int m.spot), none, none, none, some (.lst (m.cells.map .int)), some (.int (m.seed + 40503 * m.spot * m.spot))]) (S1 := S.set r (.dk (dkv { m with spot := m.spot + 1 }))) (by simp [ix_dk hS2, look_cells, look_seed, m1, m2])).trans ?_
    refine (ss_step (l1 := [some (.ref r), some (.int b), some (.int m.spot), some (.int cell), none, none, some (.lst (m.cells.map .int)), some (.int (m.seed + 40503 * m.spot * m.spot))]) (S1 := S.set r (.dk (dkv { m with spot := m.spot + 1 }))) (by simp [hlen', hat])).trans ?_
    refine (ss_step (l1 := [some (.ref r), some (.int b), some (.int m.spot), some (.int cell), some (.int b1), none, some (.lst (m.cells.map .int)), some (.int (m.seed + 40503 * m.spot * m.spot))]) (S1 := S.set r (.dk (dkv { m with spot := m.spot + 1 }))) (by simp [m3, m4, hb1])).trans ?_
    refine (ss_step (l1 := [some (.ref r), some (.int b), some (.int m.spot), some (.int cell), some (.int b2), none, some (.lst (m.cells.map .int)), some (.int (m.seed + 40503 * m.spot * m.spot))]) (S1 := S.set r (.dk (dkv { m with spot := m.spot + 1 }))) (by simp [m5, m6, hb2, ix_dk hS2, look_seed])).trans ?_
    refine ss_ret (d := .int ((b2 * 48271 + m.spot) % 2147483647 / 11 % b)) (S1 := S.set r (.dk (dkv { m with spot := m.spot + 1 }))) ?_
    have key : ∀ (c q e : Int), mulOk b2 c = true → 0 < q → (0 < e ∧ e < 1073741824) → ∀ S', exS (evE (callF tab d) 60) 60 (.ret (some (.bin .mod (.bin .fdiv (.bin .mod (.bi false .int [(.bin .add (.bin .mul (.v 4) (.k (.int c))) (.v 2))]) (.k (.int q))) (.k (.int e))) (.v 1)))) [some (.ref r), some (.int b), some (.int m.spot), some (.int cell), some (.int b2), none, some (.lst (m.cells.map .int)), some (.int (m.seed + 40503 * m.spot * m.spot))] S'
        = .rt (.int ((b2 * c + m.spot) % q / e % b)) S' := fun c q e h1 h2 h3 S' => by
      simp [h1, h2, h3.1, h3.2, hb.1]
    exact key 48271 2147483647 11 m7 (by omega) (by omega) _

end Sp
end
section
set_option linter.all false
set_option linter.unusedSimpArgs false
/-! L1b: begun, like -/
open Ev PySem L2
namespace Sp

-- L1b: begun, like
/-! begun -/
def stp (s z : Int) : Int := (s * 48271 + z) % 2147483647
theorem stp_def (s z : Int) : stp s z = (s * 48271 + z) % 2147483647 := rfl
theorem stp_lt (s z : Int) : 0 ≤ stp s z ∧ stp s z < 2147483647 := ⟨Int.emod_nonneg _ (by decide), Int.emod_lt_of_pos _ (by decide)⟩
theorem seed_ok {s : Int} (h0 : 0 ≤ s) (h1 : s < 2147483647) : mulOk s 48271 = true := mul_ok64 (by omega) (by decide)
def cellsM (ns : List Int) (k : Int) : List Int := cut ns (some k) none ++ cut ns none (some k)
def begunM (ns : List Int) (k : Int) : DrS :=
  { left := ((cellsM ns k).filter fun z => decide (1000000000000000000 ≤ z)).headD 0, seed := (cellsM ns k).foldl stp (71 + k), cells := cellsM ns k ++ [53 * k + 11], spot := 0 }
@[simp] theorem pow_18 {S : Sto} : binD S .pow (.int 10) (.int 18) = some (.int 1000000000000000000) := rfl
theorem ne_nil {S : Sto} (xs : List Int) : cmpD S .ne (.lst (xs.map .int)) (.lst []) = some (!xs.isEmpty) := by
  have h1 : SeqAt.shaped (.list (xs.map .int)) = true := by
    have := depths_int xs
    unfold SeqAt.shaped
    rw [show PyData.canLay0 (.list (xs.map .int)) = true from by simp only [PyData.canLay0, lays_int], show PyData.depth (.list (xs.map .int)) = PyData.depthAll (xs.map .int) + 1 from by rw [PyData.depth], decide_eq_true (show PyData.depthAll (xs.map .int) + 1 ≤ 64 by omega)]
    rfl
  have h2 : SeqAt.shaped (.list []) = true := rfl
  simp only [cmpD, eqD, D.deep, D.py, deeps_int, pys_int, D.deeps, D.pys, h1, h2, Bool.and_self, if_true, Option.map_some, PyData.eqv]
  cases xs <;> simp [PyData.eqvAll]
theorem cut_mem {α : Type} {xs : List α} {lo hi : Option Int} {x : α} (h : x ∈ cut xs lo hi) : x ∈ xs := by
  unfold cut at h
  exact List.mem_of_mem_drop (List.mem_of_mem_take h)
theorem cut_len {α : Type} {xs : List α} {lo hi : Option Int} : (cut xs lo hi).length ≤ xs.length := by
  unfold cut
  rw [List.length_take, List.length_drop]
  omega
theorem begun_ok {ns : List Int} {k : Int} (hk : 0 ≤ k ∧ k < 1000) (hb : ∀ z ∈ ns, Builtin.Int.intBits z ≤ 1048576) : OkDr 0 (begunM ns k) := by
  refine ⟨by simp [begunM], fun z hz => ?_, by simp [begunM], ?_⟩
  · simp only [begunM, cellsM, List.mem_append, List.mem_singleton] at hz
    rcases hz with (hz | hz) | hz
    · exact hb z (cut_mem hz)
    · exact hb z (cut_mem hz)
    · subst hz
      exact Nat.le_trans (bits_lt (m := 64) (by show _ < 18446744073709551616; omega)) (by decide)
  · show 0 ≤ (cellsM ns k).foldl stp (71 + k) ∧ (cellsM ns k).foldl stp (71 + k) < 2147483647
    have : ∀ (xs : List Int) (s : Int), 0 ≤ s ∧ s < 2147483647 → 0 ≤ xs.foldl stp s ∧ xs.foldl stp s < 2147483647 := fun xs => by
      induction xs with
      | nil => exact fun s h => h
      | cons x xs ih =>
        intro s h
        exact ih _ (stp_lt s x)
    exact this _ _ (by omega)
theorem e_dct {F : Nat → List D → Sto → R3 D} {n : Nat} {l : Ev.Loc} {S : Sto} {ks es} : evE F (n+1) (.dct ks es) l S = (evL (evE F n) es l S).bind fun ds S1 => if (decide (ks.length = ds.length) && decide ks.Nodup && lenOk ks.length) = true then .ok (.ref S1.length) (S1 ++ [.dk (ks.zip ds)]) else .stuck := rfl
set_option maxRecDepth 100000 in
theorem begun_run {tab : List Fd} {f d : Nat} (h : tab[f]? = some f_law_begun) {S : Sto} {r : Nat} {ns : List Int} (hS : S[r]? = some (.fz (ns.map .int))) (hn : ns.length < 100000) {k : Int} (hk : 0 ≤ k ∧ k < 1000) :
    callF tab (d + 1) f [.ref r, .int k] S = .ok (.ref S.length) (S ++ [.dk (dkv (begunM ns k))]) := by
  have hsl : ∀ lo hi, slD S (.ref r) lo hi = some (.lst ((cut ns lo hi).map .int)) := fun lo hi => by
    simp only [slD, D.read, hS, cut_map]
  have l1 := cut_len (xs := ns) (lo := some k) (hi := none)
  have l2 := cut_len (xs := ns) (lo := none) (hi := some k)
  have hlen : lenOk ((cut ns (some k) none).length + (cut ns none (some k)).length) = true := len_le (by omega)
  have hcl : (cellsM ns k).length = (cut ns (some k) none).length + (cut ns none (some k)).length := by simp [cellsM]
  have hct : (cellsM ns k).length < turns := by unfold turns; omega
  have hl3 : lenOk ((cellsM ns k).length + 1) = true := len_le (by omega)
  have e0 : ∀ u v w, evE (callF tab d) 60 c_law_begun_e0 [some (.ref r), some (.int k), some (.lst ((cellsM ns k).map .int)), u, v, w] S = .ok (.lst (((cellsM ns k).filter fun z => decide (1000000000000000000 ≤ z)).map .int)) S := fun u v w => by
    have key := evC_tot (ev := evE (callF tab d) 59) (tg := .nm 5) (ifs := [(.cmp .ge (.v 5) (.bin .pow (.k (.int 10)) (.k (.int 18))))]) (elt := .v 5) (l := [some (.ref r), some (.int k), some (.lst ((cellsM ns k).map .int)), u, v, none]) (S := S) (h := D.int) (ys := cellsM ns k) (row_vals _) (fun z => decide (1000000000000000000 ≤ z)) (fun z => .int z)
      (fun q hq => ⟨[some (.ref r), some (.int k), some (.lst ((cellsM ns k).map .int)), u, v, some (.int q)], by simp, by simp; split <;> simp_all, fun _ => by simp⟩) hct
    simp [c_law_begun_e0, e_lc, key]
  have e1 : ∀ u, ∃ v, exS (evE (callF tab d) 60) 60 c_law_begun_s0 [some (.ref r), some (.int k), some (.lst ((cellsM ns k).map .int)), u, some (.int (71 + k)), none] S
      = .nx [some (.ref r), some (.int k), some (.lst ((cellsM ns k).map .int)), u, some (.int ((cellsM ns k).foldl stp (71 + k))), v] S := fun u => by
    simp [c_law_begun_s0, s_for]
    refine forL_ind (row_vals ((cellsM ns k).map D.int)) (fun i l' S' => S' = S ∧ ∃ v s, 0 ≤ s ∧ s < 2147483647 ∧ l' = [some (.ref r), some (.int k), some (.lst ((cellsM ns k).map .int)), u, some (.int s), v] ∧ ((cellsM ns k).drop i).foldl stp s = (cellsM ns k).foldl stp (71 + k))
      (fun oo => ∃ v, oo = .nx [some (.ref r), some (.int k), some (.lst ((cellsM ns k).map .int)), u, some (.int ((cellsM ns k).foldl stp (71 + k))), v] S) ?_ ?_ _ 0 turns _ S rfl (Nat.zero_le _) (by simpa using hct) ⟨rfl, none, 71 + k, by omega, by omega, rfl, by rw [List.drop_zero]⟩
    · rintro i dd l' S' hd ⟨rfl, v, s, s0, s1, rfl, hf⟩
      rw [List.getElem?_map] at hd
      cases hx : (cellsM ns k)[i]? with
      | none => rw [hx] at hd; cases hd
      | some x =>
        rw [hx] at hd
        simp only [Option.map_some, Option.some.injEq] at hd
        subst hd
        have hdr : (cellsM ns k).drop i = x :: (cellsM ns k).drop (i + 1) := by
          rw [List.drop_eq_getElem_cons (List.getElem?_eq_some_iff.mp hx).1]
          rw [(List.getElem?_eq_some_iff.mp hx).2]
        rw [hdr, List.foldl_cons] at hf
        have hm := seed_ok s0 s1
        have key : ∀ (c q y : Int), mulOk s c = true → 0 < q → (s * c + x) % q = y → exSs (exS (evE (callF tab d) 60) 59) [.asg (.nm 4) (.bin .mod (.bi false .int [(.bin .add (.bin .mul (.v 4) (.k (.int c))) (.v 5))]) (.k (.int q)))] [some (.ref r), some (.int k), some (.lst ((cellsM ns k).map .int)), u, some (.int s), some (.int x)] S'
            = .nx [some (.ref r), some (.int k), some (.lst ((cellsM ns k).map .int)), u, some (.int y), some (.int x)] S' := fun c q y h1 h2 h3 => by
          simp [h1, h2, h3]
        have e4 : exSs (exS (evE (callF tab d) 60) 59) c_law_begun_b0 [some (.ref r), some (.int k), some (.lst ((cellsM ns k).map .int)), u, some (.int s), some (.int x)] S' = .nx [some (.ref r), some (.int k), some (.lst ((cellsM ns k).map .int)), u, some (.int (stp s x)), some (.int x)] S' := by
          unfold c_law_begun_b0
          exact key 48271 2147483647 (stp s x) hm (by decide) (stp_def s x).symm
        refine ⟨[some (D.ref r), some (D.int k), some (D.lst ((cellsM ns k).map .int)), u, some (D.int s), some (D.int x)], by simp, ?_⟩
        rw [e4]
        exact ⟨rfl, some (.int x), stp s x, (stp_lt s x).1, (stp_lt s x).2, rfl, hf⟩
    · rintro l' S' ⟨rfl, v, s, s0, s1, rfl, hf⟩
      rw [List.length_map, List.drop_length] at hf
      simp only [List.foldl_nil] at hf
      rw [← hf]
      exact ⟨v, rfl⟩
  obtain ⟨v, e1⟩ := e1 (some (.lst (((cellsM ns k).filter fun z => decide (1000000000000000000 ≤ z)).map .int)))
  have m53 : mulOk 53 k = true := mul_ok64 (by decide) (by omega)
  have hap : (cut ns (some k) none).map D.int ++ (cut ns none (some k)).map D.int = (cellsM ns k).map D.int := by simp [cellsM]
  rw [call_body h rfl (l := [some (.ref r), some (.int k), none, none, none, none]) rfl]
  show (exSs (exS (evE (callF tab d) 60) 60) c_law_begun _ S).fin = _
  unfold c_law_begun
  refine (ss_step (l1 := [some (.ref r), some (.int k), some (.lst ((cellsM ns k).map .int)), none, none, none]) (S1 := S) (by simp [hsl, hlen, hap])).trans ?_
  refine (ss_step (l1 := [some (.ref r), some (.int k), some (.lst ((cellsM ns k).map .int)), some (.lst (((cellsM ns k).filter fun z => decide (1000000000000000000 ≤ z)).map .int)), none, none]) (S1 := S) (by simp [e0])).trans ?_
  refine (ss_step (l1 := [some (.ref r), some (.int k), some (.lst ((cellsM ns k).map .int)), some (.lst (((cellsM ns k).filter fun z => decide (1000000000000000000 ≤ z)).map .int)), some (.int (71 + k)), none]) (S1 := S) (by simp)).trans ?_
  refine (ss_step e1).trans ?_
  refine ss_ret ?_
  have e2 : evE (callF tab d) 59 (.ife (.cmp .ne (.v 3) (.lst false [])) (.ix (.v 3) (.k (.int 0))) (.k (.int 0))) [some (.ref r), some (.int k), some (.lst ((cellsM ns k).map .int)), some (.lst (((cellsM ns k).filter fun z => decide (1000000000000000000 ≤ z)).map .int)), some (.int ((cellsM ns k).foldl stp (71 + k))), v] S = .ok (.int (begunM ns k).left) S := by
    show _ = R3.ok (D.int (((cellsM ns k).filter fun z => decide (1000000000000000000 ≤ z)).headD 0)) S
    generalize ((cellsM ns k).filter fun z => decide (1000000000000000000 ≤ z)) = fs
    simp [ne_nil]
    cases fs <;> simp
  have e3 : ∀ (c q : Int), mulOk c k = true → evE (callF tab d) 59 (.bin .add (.v 2) (.lst false [(.bin .add (.bin .mul (.k (.int c)) (.v 1)) (.k (.int q)))])) [some (.ref r), some (.int k), some (.lst ((cellsM ns k).map .int)), some (.lst (((cellsM ns k).filter fun z => decide (1000000000000000000 ≤ z)).map .int)), some (.int ((cellsM ns k).foldl stp (71 + k))), v] S = .ok (.lst ((cellsM ns k ++ [c * k + q]).map .int)) S := fun c q hc => by
    simp [hc, hl3]
  have e3 := e3 53 11 m53
  rw [s_ret]
  have hnd : (decide ((([.inr "left", .inr "seed", .inr "cells", .inr "spot"] : List Key)).length = [D.int (begunM ns k).left, D.int ((cellsM ns k).foldl stp (71 + k)), D.lst ((cellsM ns k ++ [53 * k + 11]).map .int), D.int 0].length) && decide (([.inr "left", .inr "seed", .inr "cells", .inr "spot"] : List Key)).Nodup && lenOk (([.inr "left", .inr "seed", .inr "cells", .inr "spot"] : List Key)).length) = true := rfl
  rw [e_dct, l_cons, e2, b_ok, l_cons, e_v]
  simp only [List.getElem?_cons_zero, List.getElem?_cons_succ, Option.elim_some, b_ok, l_cons, l_nil, e_k, e3]
  rw [if_pos hnd]
  rfl

end Sp
end
section
set_option linter.all false
set_option linter.unusedSimpArgs false
/-! L2: like, and the laws' own walks -/
open Ev PySem L2
namespace Sp

-- L2: like, and the laws' own walks
mutual
def niceP : PyData → Bool
  | .none => true
  | .bool _ => true
  | .int i => decide (-1000000 ≤ i ∧ i ≤ 1000000)
  | .str x => x.cps.toList.all fun c => decide (c < 16 ^ 8)
  | .list xs => nicePs xs
  | .tuple xs => nicePs xs
  | .dict _ => false
def nicePs : List PyData → Bool
  | [] => true
  | x :: r => niceP x && nicePs r
end
mutual
theorem niceP_ok : ∀ p : PyData, niceP p = true → p.showable = true ∧ p.leavesShort 13 = true
  | .none, _ => ⟨rfl, rfl⟩
  | .bool _, _ => ⟨rfl, rfl⟩
  | .int i, h => by
    simp only [niceP, decide_eq_true_eq] at h
    refine ⟨?_, ?_⟩
    · simp only [PyData.showable, decide_eq_true_eq]
      rcases Nat.eq_zero_or_pos i.natAbs with h0 | h0
      · rw [h0]; decide
      · rw [Nat.log2_lt (by omega)]
        have : i.natAbs < 2 ^ 20 := by show _ < 1048576; omega
        exact Nat.lt_of_lt_of_le this (Nat.pow_le_pow_right (by decide) (by decide))
    · simp only [PyData.leavesShort, decide_eq_true_eq]
      exact PyData.shown_int_le2 (by omega) (by omega)
  | .str x, h => ⟨rfl, by simpa only [niceP, PyData.leavesShort] using h⟩
  | .list xs, h => by
    have := nicePs_ok xs (by simpa only [niceP] using h)
    simpa only [PyData.showable, PyData.leavesShort] using this
  | .tuple xs, h => by
    have := nicePs_ok xs (by simpa only [niceP] using h)
    simpa only [PyData.showable, PyData.leavesShort] using this
  | .dict _, h => by cases h
theorem nicePs_ok : ∀ xs : List PyData, nicePs xs = true → PyData.showableAll xs = true ∧ PyData.leavesShortAll 13 xs = true
  | [], _ => ⟨rfl, rfl⟩
  | x :: r, h => by
    simp only [nicePs, Bool.and_eq_true] at h
    obtain ⟨h1, h2⟩ := niceP_ok x h.1
    obtain ⟨h3, h4⟩ := nicePs_ok r h.2
    simp only [PyData.showableAll, PyData.leavesShortAll, h1, h2, h3, h4, Bool.and_self, and_self]
end
mutual
theorem beq_py : ∀ (d : D) (p : PyData), d.py = some p → D.beq d d = true
  | .non, _, _ => rfl
  | .bl b, _, _ => by cases b <;> rfl
  | .int i, _, _ => by simp [D.beq]
  | .str s, _, _ => by simp [D.beq]
  | .tup xs, p, h => by
    simp only [D.py] at h
    cases e : D.pys xs with
    | none => rw [e] at h; cases h
    | some ps => simpa only [D.beq] using beqs_py xs ps e
  | .lst xs, p, h => by
    simp only [D.py] at h
    cases e : D.pys xs with
    | none => rw [e] at h; cases h
    | some ps => simpa only [D.beq] using beqs_py xs ps e
  | .ref _, _, h => by cases h
  | .fn _, _, h => by cases h
  | .rep _, _, h => by cases h
theorem beqs_py : ∀ (xs : List D) (ps : List PyData), D.pys xs = some ps → D.beqs xs xs = true
  | [], _, _ => rfl
  | x :: r, ps, h => by
    simp only [D.pys] at h
    cases e : D.py x with
    | none => rw [e] at h; cases h
    | some p =>
      rw [e] at h
      cases e' : D.pys r with
      | none => rw [e'] at h; cases h
      | some qs => simp only [D.beqs, beq_py x p e, beqs_py r qs e', Bool.and_self]
end
mutual
theorem deep_py (S : Sto) : ∀ (d : D) (p : PyData), d.py = some p → D.deep S d = d
  | .non, _, _ => rfl
  | .bl b, _, _ => rfl
  | .int i, _, _ => rfl
  | .str s, _, _ => rfl
  | .tup xs, p, h => by
    simp only [D.py] at h
    cases e : D.pys xs with
    | none => rw [e] at h; cases h
    | some ps => simp only [D.deep, deeps_py S xs ps e]
  | .lst xs, p, h => by
    simp only [D.py] at h
    cases e : D.pys xs with
    | none => rw [e] at h; cases h
    | some ps => simp only [D.deep, deeps_py S xs ps e]
  | .ref _, _, h => by cases h
  | .fn _, _, h => by cases h
  | .rep _, _, h => by cases h
theorem deeps_py (S : Sto) : ∀ (xs : List D) (ps : List PyData), D.pys xs = some ps → D.deeps S xs = xs
  | [], _, _ => rfl
  | x :: r, ps, h => by
    simp only [D.pys] at h
    cases e : D.py x with
    | none => rw [e] at h; cases h
    | some p =>
      rw [e] at h
      cases e' : D.pys r with
      | none => rw [e'] at h; cases h
      | some qs => simp only [D.deeps, deep_py S x p e, deeps_py S r qs e']
end
def okRep (d : D) : Bool := match d.py with
  | some p => niceP p && decide (p.bulk ≤ 100000) && decide (p.depth ≤ 64)
  | none => false
theorem repr_ok {S : Sto} {a x : D} (hs : isRp a = true) (hd : D.deep S a = x) (h : okRep x = true) : biD S .repr [a] = some (.rep x) := by
  unfold okRep at h
  split at h
  · rename_i p hp
    simp only [Bool.and_eq_true, decide_eq_true_eq] at h
    obtain ⟨h1, h2⟩ := niceP_ok p h.1.1
    have h3 := PyData.shown_le_bulk 13 (by decide) p h2
    have h4 : lenOk p.shown.length = true := len_le (by omega)
    simp only [biD, hs, if_true, hd, hp, h1, h4, h.2, decide_true, Bool.and_self]
  · cases h
theorem like_run {tab : List Fd} {f d : Nat} (h : tab[f]? = some f_law_like) {S : Sto} {a b x : D} (ha : isRp a = true) (hb : isRp b = true) (da : D.deep S a = x) (db : D.deep S b = x) (hx : okRep x = true) :
    callF tab (d + 1) f [a, b] S = .ok (.bl true) S := by
  rw [call_def h]
  have e : cmpD S .eq (.rep x) (.rep x) = some true := by
    unfold okRep at hx
    split at hx
    · rename_i p hp
      simp only [cmpD, eqD, beq_py x p hp, if_true]
    · cases hx
  simp [f_law_like, c_law_like, repr_ok ha da hx, repr_ok hb db hx, e]
theorem like_run' {tab : List Fd} {f d : Nat} (h : tab[f]? = some f_law_like) {S : Sto} {a b : D} (ha : isRp a = true) (e : a = b) (hx : okRep a = true) : callF tab (d + 1) f [a, b] S = .ok (.bl true) S := by
  subst e
  have : D.deep S a = a := by
    unfold okRep at hx
    split at hx
    · rename_i p hp
      exact deep_py S a p hp
    · cases hx
  exact like_run h ha ha this this hx
/-! stretch -/
def rgI (a b : Int) : List Int := (List.range (b - a).toNat).map fun (k : Nat) => a + (k : Int)
def rdI (j i : Int) : List Int := (List.range (j - i).toNat).map fun (k : Nat) => -1 - (j + (k : Int) * -1)
def stretchM (i j : Int) : Wk := minW (i, rgI i j) (j, rdI (j - 1) (i - 1))
theorem row_rngd (lo : Int) (n : Nat) : Row (.rng lo (-1) n) ((List.range n).map fun (i : Nat) => .int (lo + (i : Int) * -1)) := fun S i => by
  simp only [IT.at, List.getElem?_map]
  by_cases h : i < n
  · rw [if_pos h, List.getElem?_range h]; rfl
  · rw [if_neg h, List.getElem?_eq_none (by simpa using h)]; rfl
theorem rgD_int (a b : Int) : rgD a b = (rgI a b).map .int := by
  unfold rgD rgI
  rw [List.map_map]
  rfl
theorem small_ok {i : Int} (h : -1000000 ≤ i ∧ i ≤ 1000000) : small i = true := by
  unfold small
  rw [decide_eq_true_eq]
  have e1 : (2 : Int) ^ 62 = 4611686018427387904 := by decide
  rw [e1]; omega
theorem rgOk_ok {a b : Int} (h : -1000 ≤ a ∧ a ≤ 1000 ∧ -1000 ≤ b ∧ b ≤ 1000) : rgOk a b = true := by
  unfold rgOk
  rw [decide_eq_true_eq]
  have e1 : (2 : Int) ^ 62 = 4611686018427387904 := by decide
  have e2 : (2 : Nat) ^ 24 = 16777216 := by decide
  rw [e1, e2]; omega
theorem stretch_run {tab : List Fd} {f d : Nat} (h : tab[f]? = some f_law_stretch) {i j : Int} (hi : -100 ≤ i ∧ i ≤ 100 ∧ -100 ≤ j ∧ j ≤ 100) (S : Sto) : callF tab (d + 1) f [.int i, .int j] S = .ok (wD (stretchM i j)) S := by
  rw [call_def h]
  have e0 : ∀ u v, evE (callF tab d) 58 c_law_stretch_e0 [some (.int i), some (.int j), u, v, none] S = .ok (.lst ((rdI (j - 1) (i - 1)).map .int)) S := fun u v => by
    have key := evC_all (ev := evE (callF tab d) 57) (tg := .nm 4) (elt := (.bin .sub (.neg (.k (.int 1))) (.v 4))) (l := [some (.int i), some (.int j), u, v, none]) (S := S) (h := fun (k : Nat) => D.int (j - 1 + (k : Int) * -1)) (ys := List.range (j - 1 - (i - 1)).toNat) (row_rngd (j - 1) _) (fun k => .int (-1 - (j - 1 + (k : Int) * -1)))
      (fun q hq => ⟨[some (.int i), some (.int j), u, v, some (.int (j - 1 + (q : Int) * -1))], by simp, by simp⟩) (by unfold turns; simp; omega)
    have hr : rngD [.int (j - 1), .int (i - 1), .int (-1)] = some (.rng (j - 1) (-1) (j - 1 - (i - 1)).toNat) := by
      simp only [rngD]
      rw [if_pos]
      rw [small_ok (by omega), small_ok (by omega)]; rfl
    have hm : (rdI (j - 1) (i - 1)).map D.int = (List.range (j - 1 - (i - 1)).toNat).map fun (k : Nat) => D.int (-1 - (j - 1 + (k : Int) * -1)) := by
      unfold rdI; rw [List.map_map]; rfl
    rw [hm]
    simp [c_law_stretch_e0, e_lc, hr, key]
  have hg : rgOk i j = true := rgOk_ok (by omega)
  simp [f_law_stretch, c_law_stretch, rgB, hg, rgD_int, e0, stretchM]
/-! the laws' ends, points, turned, string -/
def lendM (as : List P2) (a : Int) : Option P2 := (atI as (arw a)).map fun p => if 0 ≤ a then p else (p.2, p.1)
theorem lend_run {tab : List Fd} {f d : Nat} (h : tab[f]? = some f_law_ends) (n : Int) (as zs : List P2) (a : Int) (S : Sto) :
    callF tab (d + 1) f [PL n as zs, .int a] S = (lendM as a).elim .stuck fun p => .ok (prD p) S := by
  rw [call_def h]
  by_cases h0 : 0 ≤ a
  · simp [f_law_ends, c_law_ends, lendM, arw, h0]
  · simp [f_law_ends, c_law_ends, lendM, arw, h0]
def OkLP (tab : List Fd) (f : Nat) : Prop := ∃ e, tab[e]? = some f_law_ends ∧ tab[f]? = some (f_law_points e)
def lptM (as : List P2) (w : Wk) : Option (List Int) := (collect (fun _ => some true) (fun a => (lendM as a).map (·.2)) w.2).map fun ps => w.1 :: ps
theorem lpt_run {tab : List Fd} {f d : Nat} (h : OkLP tab f) (n : Int) (as zs : List P2) (p : Int) (ls : List Int) (hl : ls.length < 1000000) (ps : List Int) (e : lptM as (p, ls) = some ps) (S : Sto) :
    callF tab (d + 2) f [PL n as zs, WK p ls] S = .ok (.lst (ps.map .int)) S := by
  obtain ⟨i1, h1, h⟩ := h
  rw [call_def h]
  have key := evC_opt (ev := evE (callF tab (d + 1)) 58) (tg := .nm 2) (elt := (.ix (.call i1 [(.v 0), (.v 2)]) (.k (.int 1)))) (l := [some (PL n as zs), some (WK p ls), none]) (S := S) (h := D.int) (ys := ls) (row_vals (ls.map .int)) (fun a => ((lendM as a).map (·.2)).map .int)
    (fun q hq => ⟨[some (PL n as zs), some (WK p ls), some (.int q)], by simp, by simp [lend_run h1]⟩) hl
  unfold lptM at e
  rw [collect_map] at key
  simp only [Option.map_eq_some_iff] at e
  obtain ⟨qs, hq, rfl⟩ := e
  rw [hq] at key
  have hlen : ∀ (xs ys : List Int), collect (fun _ => some true) (fun a => (lendM as a).map (·.2)) xs = some ys → ys.length ≤ xs.length := fun xs => by
    induction xs with
    | nil => intro ys z; cases z; simp
    | cons x xs ih =>
      intro ys z
      simp only [Ev.collect, Option.elim_some, if_true] at z
      cases hx : (lendM as x).map (·.2) with
      | none => rw [hx] at z; cases z
      | some y =>
        rw [hx] at z
        cases hc : collect (fun _ => some true) (fun a => (lendM as a).map (·.2)) xs with
        | none => rw [hc] at z; cases z
        | some zs =>
          rw [hc] at z
          cases z
          have := ih zs hc
          simp only [List.length_cons]; omega
  have hl2 : lenOk (1 + qs.length) = true := len_le (by have := hlen ls qs hq; omega)
  simp at key
  simp [f_law_points, c_law_points, c_law_points_e0, e_lc, key, hl2]
def OkLT (tab : List Fd) (f : Nat) : Prop := ∃ e, OkLP tab e ∧ tab[f]? = some (f_law_turned e)
def ltuM (as : List P2) (w : Wk) : Option Wk := (lptM as w).bind fun ps => (atI ps (-1)).map fun q => (q, w.2.reverse.map fun a => -1 - a)
theorem ltu_run {tab : List Fd} {f d : Nat} (h : OkLT tab f) (n : Int) (as zs : List P2) (p : Int) (ls : List Int) (hl : ls.length < 1000000) (v : Wk) (e : ltuM as (p, ls) = some v) (S : Sto) :
    callF tab (d + 3) f [PL n as zs, WK p ls] S = .ok (wD v) S := by
  obtain ⟨i1, h1, h⟩ := h
  rw [call_def h]
  have e0 : evE (callF tab (d + 2)) 58 (c_law_turned_e0 i1) [some (PL n as zs), some (WK p ls), none] S = .ok (.lst ((ls.reverse.map fun a => -1 - a).map .int)) S := by
    have key := evC_all (ev := evE (callF tab (d + 2)) 57) (tg := .nm 2) (elt := .bin .sub (.neg (.k (.int 1))) (.v 2)) (l := [some (PL n as zs), some (WK p ls), none]) (S := S) (h := D.int) (ys := ls.reverse) (row_vals (ls.reverse.map .int)) (fun a => .int (-1 - a))
      (fun q hq => ⟨[some (PL n as zs), some (WK p ls), some (.int q)], by simp, by simp⟩) (by rw [List.length_reverse]; exact hl)
    rw [List.map_reverse] at key
    simp [c_law_turned_e0, e_lc, flatD, key]
  unfold ltuM at e
  simp only [Option.bind_eq_some_iff, Option.map_eq_some_iff] at e
  obtain ⟨ps, hp, q, hq, rfl⟩ := e
  simp [f_law_turned, c_law_turned, lpt_run h1 n as zs p ls hl ps hp, hq, e0, wD]
def OkLS (tab : List Fd) (f : Nat) : Prop := ∃ e, OkLT tab e ∧ tab[f]? = some (f_law_string e)
def lstM (as : List P2) (w : Wk) : Option Wk := (ltuM as w).map (minW w)
theorem lst_run {tab : List Fd} {f d : Nat} (h : OkLS tab f) (n : Int) (as zs : List P2) (p : Int) (ls : List Int) (hl : ls.length < 1000000) (v : Wk) (e : lstM as (p, ls) = some v) (S : Sto) :
    callF tab (d + 4) f [PL n as zs, WK p ls] S = .ok (wD v) S := by
  obtain ⟨i1, h1, h⟩ := h
  rw [call_def h]
  unfold lstM at e
  simp only [Option.map_eq_some_iff] at e
  obtain ⟨t, ht, rfl⟩ := e
  simp [f_law_string, c_law_string, ltu_run h1 n as zs p ls hl t ht]

end Sp
end
section
set_option linter.all false
set_option linter.unusedSimpArgs false
/-! K1: law k39: lines without noughts -/
open Ev PySem L2
namespace Sp
def c_law_line_right_e0 (i_law_stretch i_forth i_back i_middle i_road i_road_back i_law_like i_almost_split : Nat) : CE := (.lc false [9] (.nm 9) (.rng [(.bin .sub (.v 0) (.k (.int 1)))]) [] (.tup [(.v 9), (.bin .add (.v 9) (.k (.int 1)))]))
def c_law_line_right_b0 (i_law_stretch i_forth i_back i_middle i_road i_road_back i_law_like i_almost_split : Nat) : List CS := [
 .asg (.nm 4) (.ife (.cmp .gt (.v 2) (.k (.int 0))) (.call i_law_stretch [(.bin .sub (.v 2) (.k (.int 1))), (.bin .sub (.v 3) (.k (.int 1)))]) (.k .non)),
 .asg (.nm 5) (.ife (.cmp .lt (.bin .add (.v 3) (.k (.int 1))) (.v 0)) (.call i_law_stretch [(.bin .add (.v 2) (.k (.int 1))), (.bin .add (.v 3) (.k (.int 1)))]) (.k .non)),
 .asg (.nm 6) (.bin .add (.ife (.cmp .gt (.v 2) (.k (.int 0))) (.lst false [(.call i_law_stretch [(.bin .sub (.v 2) (.k (.int 1))), (.v 3)])]) (.lst false [])) (.ife (.cmp .gt (.v 3) (.v 2)) (.lst false [(.call i_law_stretch [(.v 2), (.bin .sub (.v 3) (.k (.int 1)))])]) (.lst false []))),
 .asg (.nm 7) (.call i_law_stretch [(.v 2), (.v 3)]),
 .asg (.nm 8) (.lst false [(.call i_forth [(.v 1), (.v 7)]), (.call i_back [(.v 1), (.v 7)]), (.call i_middle [(.v 1), (.v 7)]), (.call i_road [(.v 1), (.v 7), (.k (.int 20))]), (.call i_road_back [(.v 1), (.v 7), (.k (.int 20))])]),
 .iff (.not (.call i_law_like [(.v 8), (.lst false [(.v 4), (.v 5), (.bi false .tuple [(.bi false .sorted [(.v 6)])]), (.tup [(.k (.str "end")), (.v 2)]), (.tup [(.k (.str "end")), (.bin .sub (.bin .sub (.v 0) (.k (.int 1))) (.v 3))])])])) [
  .ret (some (.k (.bl false)))] [],
 .iff (.cmp .isnot (.v 4) (.k .non)) [
  .iff (.not (.call i_law_like [(.call i_almost_split [(.v 1), (.v 7)]), (.tup [(.v 7), (.bi false .tuple [(.bi false .sorted [(.v 6)])]), (.v 4)])])) [
   .ret (some (.k (.bl false)))] []] []]
def c_law_line_right_s0 (i_law_stretch i_forth i_back i_middle i_road i_road_back i_law_like i_almost_split : Nat) : CS := .fors (.nm 3) (.rng [(.v 2), (.v 0)]) (c_law_line_right_b0 i_law_stretch i_forth i_back i_middle i_road i_road_back i_law_like i_almost_split)
def c_law_line_right_b1 (i_law_stretch i_forth i_back i_middle i_road i_road_back i_law_like i_almost_split : Nat) : List CS := [
 (c_law_line_right_s0 i_law_stretch i_forth i_back i_middle i_road i_road_back i_law_like i_almost_split)]
def c_law_line_right_s1 (i_law_stretch i_forth i_back i_middle i_road i_road_back i_law_like i_almost_split : Nat) : CS := .fors (.nm 2) (.rng [(.v 0)]) (c_law_line_right_b1 i_law_stretch i_forth i_back i_middle i_road i_road_back i_law_like i_almost_split)
def c_law_line_right (i_law_stretch i_forth i_back i_middle i_road i_road_back i_law_like i_almost_split : Nat) : List CS := [
 .asg (.nm 1) (.tup [(.v 0), (.bi false .tuple [(c_law_line_right_e0 i_law_stretch i_forth i_back i_middle i_road i_road_back i_law_like i_almost_split)]), (.tup [])]),
 (c_law_line_right_s1 i_law_stretch i_forth i_back i_middle i_road i_road_back i_law_like i_almost_split),
 .ret (some (.k (.bl true)))]
def f_law_line_right (i_law_stretch i_forth i_back i_middle i_road i_road_back i_law_like i_almost_split : Nat) : Fd := ⟨1, 10, c_law_line_right i_law_stretch i_forth i_back i_middle i_road i_road_back i_law_like i_almost_split⟩
-- K1: law k39: lines without noughts
theorem ss_go {ev : CE → Ev.Loc → Sto → R3 D} {n : Nat} {s : CS} {r : List CS} {l l1 : Ev.Loc} {S S1 : Sto} (h : exS ev n s l S = .nx l1 S1) : exSs (exS ev n) (s :: r) l S = exSs (exS ev n) r l1 S1 := by
  rw [ss_cons, h, q_nx]
/-- a loop all of whose turns go on -/
theorem forL_all {it : IT} {ds : List D} (hr : Row it ds) {t : CT} {body : Ev.Loc → Sto → Out} (I : Ev.Loc → Sto → Prop)
    (hs : ∀ (i : Nat) d l S, ds[i]? = some d → I l S → ∃ l1, asgT S t d l = some l1 ∧ ∃ l2 S2, body l1 S = .nx l2 S2 ∧ I l2 S2) (hn : ds.length < turns) {l : Ev.Loc} {S : Sto} (h : I l S) :
    ∃ l' S', forL it t body turns 0 l S = .nx l' S' ∧ I l' S' :=
  forL_ind hr (fun _ l S => I l S) (fun o => ∃ l' S', o = .nx l' S' ∧ I l' S') (fun i d l S hd hI => by
    obtain ⟨l1, e1, l2, S2, e2, h2⟩ := hs i d l S hd hI
    exact ⟨l1, e1, by rw [e2]; exact h2⟩) (fun l S hI => ⟨l, S, rfl, hI⟩) _ 0 turns l S rfl (Nat.zero_le _) (by omega) h
def lineA (size : Int) : List P2 := (List.range (size - 1).toNat).map fun (k : Nat) => (0 + (k : Int), 0 + (k : Int) + 1)
def lineLater (i j : Int) : Option Wk := if 0 < i then some (stretchM (i - 1) (j - 1)) else none
def lineAhead (size i j : Int) : Option Wk := if j + 1 < size then some (stretchM (i + 1) (j + 1)) else none
def lineSome (i j : Int) : List Wk := (if 0 < i then [stretchM (i - 1) j] else []) ++ (if i < j then [stretchM i (j - 1)] else [])
def wsD (ws : List Wk) : D := .tup (ws.map wD)
def lineTold (size i j : Int) : D := .lst [oW (lineLater i j), oW (lineAhead size i j), wsD (sortW (lineSome i j)), rdD (false, i), rdD (false, size - 1 - j)]
def lineSplit (i j : Int) (v : Wk) : D := .tup [wD (stretchM i j), wsD (sortW (lineSome i j)), wD v]
def lineOk1 (size i j : Int) : Bool :=
  decide (stepM (lineA size) [] (stretchM i j) (-1) = some (lineLater i j)) && (decide (stepM (lineA size) [] (stretchM i j) 1 = some (lineAhead size i j)) &&
  (decide (madeM (lineA size) [] (stretchM i j) (-1) = some (sortW (lineSome i j))) && (decide (roadM (lineA size) [] (stretchM i j) 20 (-1) = some (false, i)) && (decide (roadM (lineA size) [] (stretchM i j) 20 1 = some (false, size - 1 - j)) &&
  (okRep (lineTold size i j) &&
  ((lineLater i j).elim true fun v => decide (asM (lineA size) [] (stretchM i j) = some (stretchM i j, sortW (lineSome i j), v)) && okRep (lineSplit i j v)))))))
def OkLine (tab : List Fd) (f : Nat) : Prop := ∃ st fo ba mi ro rb li al, tab[st]? = some f_law_stretch ∧ OkForth tab fo ∧ OkBack tab ba ∧ OkMid tab mi ∧ OkRoad tab ro ∧ OkRoadB tab rb ∧ tab[li]? = some f_law_like ∧ OkAs tab al ∧ tab[f]? = some (f_law_line_right st fo ba mi ro rb li al)
theorem line_body {tab : List Fd} {d st fo ba mi ro rb li al : Nat} (h1 : tab[st]? = some f_law_stretch) (h2 : OkForth tab fo) (h3 : OkBack tab ba) (h4 : OkMid tab mi) (h5 : OkRoad tab ro) (h6 : OkRoadB tab rb) (h7 : tab[li]? = some f_law_like) (h8 : OkAs tab al)
    {size i j : Int} (hs : 1 ≤ size ∧ size ≤ 12) (hi : 0 ≤ i ∧ i ≤ j ∧ j < size) (ok : lineOk1 size i j = true) (x4 x5 x6 x7 x8 x9 : Option D) (S : Sto) :
    ∃ u v w x y T, exSs (exS (evE (callF tab (d + 10)) 60) 58) (c_law_line_right_b0 st fo ba mi ro rb li al) [some (.int size), some (PL size (lineA size) []), some (.int i), some (.int j), x4, x5, x6, x7, x8, x9] S
      = .nx [some (.int size), some (PL size (lineA size) []), some (.int i), some (.int j), u, v, w, x, y, x9] (S ++ T) := by
  have hA : (lineA size).length + (lineA size).length < turns := by
    unfold lineA turns; simp; omega
  simp only [lineOk1, Bool.and_eq_true, decide_eq_true_eq] at ok
  obtain ⟨k1, k2, k3, k4, k5, k6, k7⟩ := ok
  have e1 : exS (evE (callF tab (d + 10)) 60) 58 (.asg (.nm 4) (.ife (.cmp .gt (.v 2) (.k (.int 0))) (.call st [(.bin .sub (.v 2) (.k (.int 1))), (.bin .sub (.v 3) (.k (.int 1)))]) (.k .non))) [some (.int size), some (PL size (lineA size) []), some (.int i), some (.int j), x4, x5, x6, x7, x8, x9] S
      = .nx [some (.int size), some (PL size (lineA size) []), some (.int i), some (.int j), some (oW (lineLater i j)), x5, x6, x7, x8, x9] S := by
    unfold lineLater
    by_cases h0 : 0 < i
    · simp [h0, stretch_run h1 (i := i - 1) (j := j - 1) (by omega)]
    · simp [h0]
  have e2 : exS (evE (callF tab (d + 10)) 60) 58 (.asg (.nm 5) (.ife (.cmp .lt (.bin .add (.v 3) (.k (.int 1))) (.v 0)) (.call st [(.bin .add (.v 2) (.k (.int 1))), (.bin .add (.v 3) (.k (.int 1)))]) (.k .non))) [some (.int size), some (PL size (lineA size) []), some (.int i), some (.int j), some (oW (lineLater i j)), x5, x6, x7, x8, x9] S
      = .nx [some (.int size), some (PL size (lineA size) []), some (.int i), some (.int j), some (oW (lineLater i j)), some (oW (lineAhead size i j)), x6, x7, x8, x9] S := by
    unfold lineAhead
    by_cases h0 : j + 1 < size
    · simp [h0, stretch_run h1 (i := i + 1) (j := j + 1) (by omega)]
    · simp [h0]
  have e3 : exS (evE (callF tab (d + 10)) 60) 58 (.asg (.nm 6) (.bin .add (.ife (.cmp .gt (.v 2) (.k (.int 0))) (.lst false [(.call st [(.bin .sub (.v 2) (.k (.int 1))), (.v 3)])]) (.lst false [])) (.ife (.cmp .gt (.v 3) (.v 2)) (.lst false [(.call st [(.v 2), (.bin .sub (.v 3) (.k (.int 1)))])]) (.lst false [])))) [some (.int size), some (PL size (lineA size) []), some (.int i), some (.int j), some (oW (lineLater i j)), some (oW (lineAhead size i j)), x6, x7, x8, x9] S
      = .nx [some (.int size), some (PL size (lineA size) []), some (.int i), some (.int j), some (oW (lineLater i j)), some (oW (lineAhead size i j)), some (.lst ((lineSome i j).map wD)), x7, x8, x9] S := by
    unfold lineSome
    by_cases h0 : 0 < i <;> by_cases h0' : i < j <;> simp [h0, h0', stretch_run h1 (i := i - 1) (j := j) (by omega), stretch_run h1 (i := i) (j := j - 1) (by omega)]
  have e4 : exS (evE (callF tab (d + 10)) 60) 58 (.asg (.nm 7) (.call st [(.v 2), (.v 3)])) [some (.int size), some (PL size (lineA size) []), some (.int i), some (.int j), some (oW (lineLater i j)), some (oW (lineAhead size i j)), some (.lst ((lineSome i j).map wD)), x7, x8, x9] S
      = .nx [some (.int size), some (PL size (lineA size) []), some (.int i), some (.int j), some (oW (lineLater i j)), some (oW (lineAhead size i j)), some (.lst ((lineSome i j).map wD)), some (wD (stretchM i j)), x8, x9] S := by
    simp [stretch_run h1 (i := i) (j := j) (by omega)]
  have hsort : ∀ S : Sto, biD S .sorted [.lst ((lineSome i j).map wD)] = some (.lst ((sortW (lineSome i j)).map wD)) := fun S => by
    simp only [biD, D.read]
    rw [if_pos (sortOk_w _), sortD_w]
  obtain ⟨T1, r1⟩ := forth_run (d := d + 2) h2 size (lineA size) [] hA (stretchM i j).1 (stretchM i j).2 _ k1 S
  obtain ⟨T2, r2⟩ := back_run (d := d + 2) h3 size (lineA size) [] hA (stretchM i j).1 (stretchM i j).2 _ k2 (S ++ T1)
  obtain ⟨T3, r3⟩ := mid_run (d := d + 2) h4 size (lineA size) [] hA (stretchM i j).1 (stretchM i j).2 _ k3 (S ++ T1 ++ T2)
  obtain ⟨T4, r4⟩ := road_run (d := d) h5 size (lineA size) [] hA (stretchM i j).1 (stretchM i j).2 20 (by decide) _ k4 (S ++ T1 ++ T2 ++ T3)
  obtain ⟨T5, r5⟩ := roadB_run (d := d) h6 size (lineA size) [] hA (stretchM i j).1 (stretchM i j).2 20 (by decide) _ k5 (S ++ T1 ++ T2 ++ T3 ++ T4)
  have e5 : exS (evE (callF tab (d + 10)) 60) 58 (.asg (.nm 8) (.lst false [(.call fo [(.v 1), (.v 7)]), (.call ba [(.v 1), (.v 7)]), (.call mi [(.v 1), (.v 7)]), (.call ro [(.v 1), (.v 7), (.k (.int 20))]), (.call rb [(.v 1), (.v 7), (.k (.int 20))])])) [some (.int size), some (PL size (lineA size) []), some (.int i), some (.int j), some (oW (lineLater i j)), some (oW (lineAhead size i j)), some (.lst ((lineSome i j).map wD)), some (wD (stretchM i j)), x8, x9] S
      = .nx [some (.int size), some (PL size (lineA size) []), some (.int i), some (.int j), some (oW (lineLater i j)), some (oW (lineAhead size i j)), some (.lst ((lineSome i j).map wD)), some (wD (stretchM i j)), some (lineTold size i j), x9] (S ++ T1 ++ T2 ++ T3 ++ T4 ++ T5) := by
    simp only [s_asg, e_lst, l_cons, l_nil, e_call, e_v, e_k, List.getElem?_cons_zero, List.getElem?_cons_succ, Option.elim_some, b_ok, r1, r2, r3, r4, r5, List.length_cons, List.length_nil, Nat.zero_add, Nat.reduceAdd, len5, if_true, mkR_f, o_ok, asg_nm, List.set_cons_succ, List.set_cons_zero]
    rfl
  have e6 : ∀ S' : Sto, exS (evE (callF tab (d + 10)) 60) 58 (.iff (.not (.call li [(.v 8), (.lst false [(.v 4), (.v 5), (.bi false .tuple [(.bi false .sorted [(.v 6)])]), (.tup [(.k (.str "end")), (.v 2)]), (.tup [(.k (.str "end")), (.bin .sub (.bin .sub (.v 0) (.k (.int 1))) (.v 3))])])])) [.ret (some (.k (.bl false)))] []) [some (.int size), some (PL size (lineA size) []), some (.int i), some (.int j), some (oW (lineLater i j)), some (oW (lineAhead size i j)), some (.lst ((lineSome i j).map wD)), some (wD (stretchM i j)), some (lineTold size i j), x9] S'
      = .nx [some (.int size), some (PL size (lineA size) []), some (.int i), some (.int j), some (oW (lineLater i j)), some (oW (lineAhead size i j)), some (.lst ((lineSome i j).map wD)), some (wD (stretchM i j)), some (lineTold size i j), x9] S' := fun S' => by
    have hl := like_run' (d := d + 9) h7 (S := S') (a := lineTold size i j) (b := .lst [oW (lineLater i j), oW (lineAhead size i j), .tup ((sortW (lineSome i j)).map wD), .tup [.str "end", .int i], .tup [.str "end", .int (size - 1 - j)]]) rfl rfl k6
    simp [hsort, hl]
  unfold c_law_line_right_b0
  rw [ss_go e1, ss_go e2, ss_go e3, ss_go e4, ss_go e5, ss_go (e6 _)]
  cases hL : lineLater i j with
  | none =>
    refine ⟨some .non, some (oW (lineAhead size i j)), some (.lst ((lineSome i j).map wD)), some (wD (stretchM i j)), some (lineTold size i j), T1 ++ T2 ++ T3 ++ T4 ++ T5, ?_⟩
    simp [isNonD, oW]
  | some v =>
    rw [hL] at k7
    simp only [Option.elim_some, Bool.and_eq_true, decide_eq_true_eq] at k7
    obtain ⟨T6, r6⟩ := as_run (d := d + 1) h8 size (lineA size) [] hA (stretchM i j).1 (stretchM i j).2 _ _ _ k7.1 (S ++ T1 ++ T2 ++ T3 ++ T4 ++ T5)
    have hl := like_run' (d := d + 9) h7 (S := S ++ T1 ++ T2 ++ T3 ++ T4 ++ T5 ++ T6) (a := .tup [wD (stretchM i j), .tup ((sortW (lineSome i j)).map wD), wD v]) (b := .tup [wD (stretchM i j), .tup ((sortW (lineSome i j)).map wD), wD v]) rfl rfl k7.2
    have e7 : exS (evE (callF tab (d + 10)) 60) 58 (.iff (.cmp .isnot (.v 4) (.k .non)) [
      .iff (.not (.call li [(.call al [(.v 1), (.v 7)]), (.tup [(.v 7), (.bi false .tuple [(.bi false .sorted [(.v 6)])]), (.v 4)])])) [
       .ret (some (.k (.bl false)))] []] []) [some (.int size), some (PL size (lineA size) []), some (.int i), some (.int j), some (wD v), some (oW (lineAhead size i j)), some (.lst ((lineSome i j).map wD)), some (wD (stretchM i j)), some (lineTold size i j), x9] (S ++ T1 ++ T2 ++ T3 ++ T4 ++ T5)
        = .nx [some (.int size), some (PL size (lineA size) []), some (.int i), some (.int j), some (wD v), some (oW (lineAhead size i j)), some (.lst ((lineSome i j).map wD)), some (wD (stretchM i j)), some (lineTold size i j), x9] (S ++ T1 ++ T2 ++ T3 ++ T4 ++ T5 ++ T6) := by
      simp only [s_iff, e_cmp, e_v, e_k, List.getElem?_cons_zero, List.getElem?_cons_succ, Option.elim_some, b_ok, c_isn, isNonD, Option.map_some, of_el, o_ok, tr_bl, tmO_b, Bool.not_false, if_true, ss_cons, ss_nil, e_not, e_call, l_cons, l_nil, r6, e_tup, e_bi, hsort, mkR_f, bi_tup_l, List.length_cons, List.length_nil, Nat.zero_add, Nat.reduceAdd, len3, hl, Bool.not_true, Bool.false_eq_true, if_false, q_nx]
    refine ⟨some (wD v), some (oW (lineAhead size i j)), some (.lst ((lineSome i j).map wD)), some (wD (stretchM i j)), some (lineTold size i j), T1 ++ T2 ++ T3 ++ T4 ++ T5 ++ T6, ?_⟩
    rw [oW_s, ss_go e7, ss_nil]
    simp only [List.append_assoc]
def lineOk (size : Nat) : Bool := (List.range size).all fun i => (List.range (size - i)).all fun j => lineOk1 size i (i + j : Nat)
theorem line_run {tab : List Fd} {f d : Nat} (h : OkLine tab f) {size : Nat} (hs : 1 ≤ size ∧ size ≤ 12) (ok : lineOk size = true) (S : Sto) :
    ∃ T, callF tab (d + 11) f [.int size] S = .ok (.bl true) (S ++ T) := by
  obtain ⟨st, fo, ba, mi, ro, rb, li, al, h1, h2, h3, h4, h5, h6, h7, h8, h⟩ := h
  rw [call_body h rfl (l := [some (.int size), none, none, none, none, none, none, none, none, none]) rfl]
  have e0 : evE (callF tab (d + 10)) 58 (c_law_line_right_e0 st fo ba mi ro rb li al) [some (.int size), none, none, none, none, none, none, none, none, none] S = .ok (.lst ((lineA size).map prD)) S := by
    have key := evC_all (ev := evE (callF tab (d + 10)) 57) (tg := .nm 9) (elt := (.tup [(.v 9), (.bin .add (.v 9) (.k (.int 1)))])) (l := [some (.int size), none, none, none, none, none, none, none, none, none]) (S := S) (row_rng 0 ((size : Int) - 1).toNat) (fun (k : Nat) => prD (0 + (k : Int), 0 + (k : Int) + 1))
      (fun q hq => ⟨[some (.int size), none, none, none, none, none, none, none, none, some (.int (0 + (q : Int)))], by simp, by simp⟩) (by unfold turns; simp; omega)
    have hr : rngD [.int ((size : Int) - 1)] = some (.rng 0 1 ((size : Int) - 1).toNat) := by
      simp only [rngD]
      rw [if_pos (small_ok (by omega))]
    have hm : (lineA size).map prD = (List.range ((size : Int) - 1).toNat).map fun (k : Nat) => prD (0 + (k : Int), 0 + (k : Int) + 1) := by
      unfold lineA; rw [List.map_map]; rfl
    rw [hm]
    simp only [c_law_line_right_e0, e_lc, i_rng, l_cons, l_nil, e_bin, e_v, e_k, List.getElem?_cons_zero, Option.elim_some, b_ok, bin_sub, of_el, hr, wipe_s, wipe_0, List.set_cons_succ, List.set_cons_zero, key, mkR_f]
  have inner : ∀ (i : Nat), i < size → ∀ x3 x4 x5 x6 x7 x8 x9 S, ∃ y3 y4 y5 y6 y7 y8 y9 T, exSs (exS (evE (callF tab (d + 10)) 60) 59) (c_law_line_right_b1 st fo ba mi ro rb li al) [some (.int size), some (PL size (lineA size) []), some (.int i), x3, x4, x5, x6, x7, x8, x9] S
      = .nx [some (.int size), some (PL size (lineA size) []), some (.int i), y3, y4, y5, y6, y7, y8, y9] (S ++ T) := fun i hi x3 x4 x5 x6 x7 x8 x9 S => by
    obtain ⟨l', S', e, ⟨y3, y4, y5, y6, y7, y8, y9, rfl⟩, T, rfl⟩ := forL_all (row_rng (i : Int) (((size : Int) - (i : Int)).toNat)) (t := .nm 3) (body := exSs (exS (evE (callF tab (d + 10)) 60) 58) (c_law_line_right_b0 st fo ba mi ro rb li al))
      (fun l' S' => (∃ y3 y4 y5 y6 y7 y8 y9, l' = [some (.int size), some (PL size (lineA size) []), some (.int i), y3, y4, y5, y6, y7, y8, y9]) ∧ ∃ T, S' = S ++ T)
      (by
        rintro k dd l' S' hd ⟨⟨y3, y4, y5, y6, y7, y8, y9, rfl⟩, T, rfl⟩
        rw [List.getElem?_map] at hd
        have hk : k < ((size : Int) - (i : Int)).toNat := by
          rcases Nat.lt_or_ge k ((size : Int) - (i : Int)).toNat with h | h
          · exact h
          · rw [List.getElem?_eq_none (by simpa using h)] at hd; cases hd
        rw [List.getElem?_range hk] at hd
        cases hd
        have ok1 : lineOk1 size i ((i : Int) + (k : Int)) = true := by
          have q1 := List.all_eq_true.mp ok i (List.mem_range.mpr hi)
          have q2 := List.all_eq_true.mp q1 k (List.mem_range.mpr (by omega))
          rw [← q2]; congr 1
        obtain ⟨u, v, w, x, y, T', e⟩ := line_body (d := d) h1 h2 h3 h4 h5 h6 h7 h8 (size := size) (i := i) (j := (i : Int) + (k : Int)) (by omega) (by omega) ok1 y4 y5 y6 y7 y8 y9 (S ++ T)
        exact ⟨_, asg_nm, _, _, e, ⟨_, _, _, _, _, _, _, rfl⟩, ⟨T ++ T', by rw [List.append_assoc]⟩⟩)
      (by unfold turns; simp; omega) (l := [some (.int size), some (PL size (lineA size) []), some (.int i), x3, x4, x5, x6, x7, x8, x9]) (S := S) ⟨⟨_, _, _, _, _, _, _, rfl⟩, [], by simp⟩
    refine ⟨y3, y4, y5, y6, y7, y8, y9, T, ?_⟩
    have hr : rngD [.int (i : Int), .int (size : Int)] = some (.rng (i : Int) 1 ((size : Int) - (i : Int)).toNat) := by
      simp only [rngD]
      rw [if_pos]
      rw [small_ok (by omega), small_ok (by omega)]; rfl
    simp only [c_law_line_right_b1, c_law_line_right_s0, ss_cons, ss_nil, s_for, i_rng, l_cons, l_nil, e_v, List.getElem?_cons_zero, List.getElem?_cons_succ, Option.elim_some, b_ok, of_el, hr, o_ok, e, q_nx]
  obtain ⟨l', S', e, ⟨y2, y3, y4, y5, y6, y7, y8, y9, rfl⟩, T, rfl⟩ := forL_all (row_rng 0 size) (t := .nm 2) (body := exSs (exS (evE (callF tab (d + 10)) 60) 59) (c_law_line_right_b1 st fo ba mi ro rb li al))
    (fun l' S' => (∃ y2 y3 y4 y5 y6 y7 y8 y9, l' = [some (.int size), some (PL size (lineA size) []), y2, y3, y4, y5, y6, y7, y8, y9]) ∧ ∃ T, S' = S ++ T)
    (by
      rintro k dd l' S' hd ⟨⟨y2, y3, y4, y5, y6, y7, y8, y9, rfl⟩, T, rfl⟩
      rw [List.getElem?_map] at hd
      have hk : k < size := by
        rcases Nat.lt_or_ge k size with h | h
        · exact h
        · rw [List.getElem?_eq_none (by simpa using h)] at hd; cases hd
      rw [List.getElem?_range hk] at hd
      cases hd
      obtain ⟨z3, z4, z5, z6, z7, z8, z9, T', e⟩ := inner k hk y3 y4 y5 y6 y7 y8 y9 (S ++ T)
      rw [show ((k : Nat) : Int) = 0 + (k : Int) from (Int.zero_add _).symm] at e
      exact ⟨_, asg_nm, _, _, e, ⟨_, _, _, _, _, _, _, _, rfl⟩, ⟨T ++ T', by rw [List.append_assoc]⟩⟩)
    (by unfold turns; simp; omega) (l := [some (.int size), some (PL size (lineA size) []), none, none, none, none, none, none, none, none]) (S := S) ⟨⟨_, _, _, _, _, _, _, _, rfl⟩, [], by simp⟩
  refine ⟨T, ?_⟩
  have hr : rngD [.int (size : Int)] = some (.rng 0 1 size) := by
    simp only [rngD]
    rw [if_pos (small_ok (by omega))]
    rfl
  show (exSs (exS (evE (callF tab (d + 10)) 60) 60) (c_law_line_right st fo ba mi ro rb li al) _ S).fin = _
  unfold c_law_line_right
  rw [ss_step (l1 := [some (.int size), some (PL size (lineA size) []), none, none, none, none, none, none, none, none]) (S1 := S) (by simp [e0]), ss_step (l1 := [some (.int size), some (PL size (lineA size) []), y2, y3, y4, y5, y6, y7, y8, y9]) (S1 := S ++ T) (by rw [c_law_line_right_s1, s_for]; simp only [i_rng, l_cons, l_nil, e_v, List.getElem?_cons_zero, Option.elim_some, b_ok, of_el, hr, o_ok, e])]
  simp

end Sp
end
section
set_option linter.all false
set_option linter.unusedSimpArgs false
/-! K2: law k39: lines and rounds of noughts -/
open Ev PySem L2
namespace Sp
def c_law_noughts_right_e0 (i_law_string i_forth i_road i_law_like i_back i_middle : Nat) : CE := (.lc false [6] (.nm 6) (.rng [(.ife (.v 1) (.v 2) (.bin .sub (.v 2) (.k (.int 1))))]) [] (.tup [(.v 6), (.bin .mod (.bi false .int [(.bin .add (.v 6) (.k (.int 1)))]) (.v 0))]))
def c_law_noughts_right_e1 (i_law_string i_forth i_road i_law_like i_back i_middle : Nat) : CE := (.lc false [6] (.nm 6) (.rng [(.v 2)]) [] (.tup [(.v 6), (.bin .mod (.bi false .int [(.bin .add (.v 6) (.k (.int 1)))]) (.v 0))]))
def c_law_noughts_right_b0 (i_law_string i_forth i_road i_law_like i_back i_middle : Nat) : List CS := [
 .asg (.nm 7) (.ife (.or (.v 1) (.cmp .gt (.v 5) (.k (.int 0)))) (.bin .mod (.bi false .int [(.bin .sub (.v 5) (.k (.int 1)))]) (.v 0)) (.k .non)),
 .asg (.nm 8) (.lst false [(.call i_forth [(.v 4), (.tup [(.v 5), (.tup [])])]), (.call i_road [(.v 4), (.tup [(.v 5), (.tup [])]), (.k (.int 20))])]),
 .asg (.nm 9) (.lst false [(.ife (.cmp .is_ (.v 7) (.k .non)) (.k .non) (.tup [(.v 7), (.tup [])])), (.ife (.v 1) (.tup [(.k (.str "ring")), (.v 0)]) (.tup [(.k (.str "end")), (.v 5)]))]),
 .iff (.not (.call i_law_like [(.v 8), (.v 9)])) [
  .ret (some (.k (.bl false)))] []]
def c_law_noughts_right_s0 (i_law_string i_forth i_road i_law_like i_back i_middle : Nat) : CS := .fors (.nm 5) (.rng [(.v 0)]) (c_law_noughts_right_b0 i_law_string i_forth i_road i_law_like i_back i_middle)
def c_law_noughts_right_b1 (i_law_string i_forth i_road i_law_like i_back i_middle : Nat) : List CS := [
 .asg (.nm 10) (.call i_law_string [(.v 4), (.tup [(.v 6), (.tup [(.v 6)])])]),
 .asg (.nm 11) (.call i_law_string [(.v 4), (.tup [(.v 6), (.tup [])])]),
 .iff (.not (.call i_law_like [(.lst false [(.call i_forth [(.v 4), (.v 10)]), (.call i_back [(.v 4), (.v 10)]), (.call i_middle [(.v 4), (.v 10)])]), (.lst false [(.k .non), (.k .non), (.tup [(.v 11)])])])) [
  .ret (some (.k (.bl false)))] []]
def c_law_noughts_right_s1 (i_law_string i_forth i_road i_law_like i_back i_middle : Nat) : CS := .fors (.nm 6) (.rng [(.v 2)]) (c_law_noughts_right_b1 i_law_string i_forth i_road i_law_like i_back i_middle)
def c_law_noughts_right (i_law_string i_forth i_road i_law_like i_back i_middle : Nat) : List CS := [
 .asg (.nm 2) (.ife (.v 1) (.v 0) (.bin .sub (.v 0) (.k (.int 1)))),
 .asg (.nm 3) (.bi false .tuple [(c_law_noughts_right_e0 i_law_string i_forth i_road i_law_like i_back i_middle)]),
 .asg (.nm 4) (.tup [(.v 0), (.bi false .tuple [(c_law_noughts_right_e1 i_law_string i_forth i_road i_law_like i_back i_middle)]), (.bi false .tuple [(.bi false .sorted [(.v 3)])])]),
 (c_law_noughts_right_s0 i_law_string i_forth i_road i_law_like i_back i_middle),
 (c_law_noughts_right_s1 i_law_string i_forth i_road i_law_like i_back i_middle),
 .ret (some (.k (.bl true)))]
def f_law_noughts_right (i_law_string i_forth i_road i_law_like i_back i_middle : Nat) : Fd := ⟨2, 12, c_law_noughts_right i_law_string i_forth i_road i_law_like i_back i_middle⟩
-- K2: law k39: lines and rounds of noughts
def ltP (p q : P2) : Bool := decide (p.1 < q.1) || (!decide (q.1 < p.1) && decide (p.2 < q.2))
def sortP (ps : List P2) : List P2 := msort (fun a b => !ltP b a) (ps.length + 1) ps
theorem lex_p (p q : P2) : W.dataLt (prP p) (prP q) = ltP p q := by
  have : ∀ x : Int, PyProof.Rows.lexLt PyProof.Rows.itemOrd (.inl x :: [.inl 0]) (.inl x :: [.inl 0]) = false := fun x => PyProof.Rows.lex_irrefl (O := PyProof.Rows.itemOrd) _
  simp only [W.dataLt, prP, W.keyToks, W.keyToksAll, List.cons_append, List.nil_append, ltP]
  refine (lx_self _ _ _).trans ((lx_cons _ _ _ _).trans ?_)
  rw [lx_self, lx_cons]
  rw [show PyProof.Rows.lexLt PyProof.Rows.itemOrd [Sum.inl 0] [Sum.inl 0] = false from PyProof.Rows.lex_irrefl (O := PyProof.Rows.itemOrd) _]
  simp
theorem py_p (p : P2) : (prD p).py = some (prP p) := rfl
theorem leD_p (p q : P2) : sortLeD (prD p) (prD q) = !ltP q p := by
  simp only [sortLeD, py_p, lex_p]
theorem sortD_p (ps : List P2) : sortD (ps.map prD) = (sortP ps).map prD := by
  unfold sortD sortP
  rw [List.length_map]
  exact msort_map leD_p _ _
theorem depth_p (p : P2) : (prP p).depth ≤ 4 := by
  simp only [prP, PyData.depth, PyData.depthAll]; omega
theorem alike_p (p q : P2) : W.alike (prP p) (prP q) = true := rfl
theorem sortOk_p (ps : List P2) : sortOk (ps.map prD) = true := by
  simp only [sortOk, pys_pr, Bool.and_eq_true, Bool.or_eq_true, List.all_eq_true, List.mem_map, forall_exists_index, and_imp, forall_apply_eq_imp_iff₂, decide_eq_true_eq]
  exact ⟨⟨fun v _ w _ => alike_p v w, fun v _ => Nat.le_trans (depth_p v) (by decide)⟩, .inl fun v _ => rfl⟩
def ntCount (size : Int) (b : Bool) : Int := if b = true then size else size - 1
def ntPair (size : Int) (k : Nat) : P2 := (0 + (k : Int), (0 + (k : Int) + 1) % size)
def ntZ (size : Int) (b : Bool) : List P2 := sortP ((List.range (if b = true then ntCount size b else ntCount size b - 1).toNat).map (ntPair size))
def ntA (size : Int) (b : Bool) : List P2 := (List.range (ntCount size b).toNat).map (ntPair size)
def ntAhead (size p : Int) (b : Bool) : Option Int := if b = true ∨ 0 < p then some ((p - 1) % size) else none
def ntRd (size p : Int) (b : Bool) : Bool × Int := if b = true then (true, size) else (false, p)
def ntTold (size p : Int) (b : Bool) : D := .lst [oW ((ntAhead size p b).map fun a => (a, [])), rdD (ntRd size p b)]
def nt1 (size : Int) (b : Bool) (p : Int) : Bool :=
  decide (stepM (ntA size b) (ntZ size b) (p, []) (-1) = some ((ntAhead size p b).map fun a => (a, []))) && (decide (roadM (ntA size b) (ntZ size b) (p, []) 20 (-1) = some (ntRd size p b)) && okRep (ntTold size p b))
def nt2 (size : Int) (b : Bool) (k : Int) : Bool :=
  (lstM (ntA size b) (k, [k])).elim false fun one => (lstM (ntA size b) (k, [])).elim false fun kept =>
    decide (stepM (ntA size b) (ntZ size b) one (-1) = some none) && (decide (stepM (ntA size b) (ntZ size b) one 1 = some none) && (decide (madeM (ntA size b) (ntZ size b) one (-1) = some [kept]) && okRep (.lst [.non, .non, wsD [kept]])))
def ntOk (size : Nat) (b : Bool) : Bool := ((List.range size).all fun p => nt1 size b p) && ((List.range (ntCount size b).toNat).all fun k => nt2 size b (0 + (k : Int)))
def OkNt (tab : List Fd) (f : Nat) : Prop := ∃ ls fo ro li ba mi, OkLS tab ls ∧ OkForth tab fo ∧ OkRoad tab ro ∧ tab[li]? = some f_law_like ∧ OkBack tab ba ∧ OkMid tab mi ∧ tab[f]? = some (f_law_noughts_right ls fo ro li ba mi)
theorem nt_run {tab : List Fd} {f d : Nat} (h : OkNt tab f) {size : Nat} (hs : 1 ≤ size ∧ size ≤ 12) (b : Bool) (ok : ntOk size b = true) (S : Sto) :
    ∃ T, callF tab (d + 11) f [.int size, .bl b] S = .ok (.bl true) (S ++ T) := by
  obtain ⟨ls, fo, ro, li, ba, mi, h1, h2, h3, h4, h5, h6, h⟩ := h
  have hc : 0 ≤ ntCount size b ∧ ntCount size b ≤ 12 := by
    unfold ntCount; split <;> omega
  have hsz : (0 : Int) < size := by omega
  have hA : (ntA size b).length + (ntA size b).length < turns := by
    unfold ntA turns; simp; omega
  simp only [ntOk, Bool.and_eq_true] at ok
  obtain ⟨ok1, ok2⟩ := ok
  rw [call_body h rfl (l := [some (.int size), some (.bl b), none, none, none, none, none, none, none, none, none, none]) rfl]
  show ∃ T, (exSs (exS (evE (callF tab (d + 10)) 60) 60) (c_law_noughts_right ls fo ro li ba mi) _ S).fin = _
  unfold c_law_noughts_right
  have cmp : ∀ (n : Nat) (l : Ev.Loc) (S : Sto) (m : Nat), l[0]? = some (some (.int size)) → 12 ≤ l.length → m < turns →
      evC (evE (callF tab (d + 10)) (n + 10)) (.rng 0 1 m) (.nm 6) [] (.tup [(.v 6), (.bin .mod (.bi false .int [(.bin .add (.v 6) (.k (.int 1)))]) (.v 0))]) l turns 0 S [] = .ok (((List.range m).map (ntPair size)).map prD) S := fun n l S m hl0 hl hm => by
    have key := evC_all (ev := evE (callF tab (d + 10)) (n + 10)) (tg := .nm 6) (elt := (.tup [(.v 6), (.bin .mod (.bi false .int [(.bin .add (.v 6) (.k (.int 1)))]) (.v 0))])) (l := l) (S := S) (row_rng 0 m) (fun (k : Nat) => prD (ntPair size k))
      (fun q hq => ⟨l.set 6 (some (.int (0 + (q : Int)))), by simp, by
        have e1 : (l.set 6 (some (D.int (0 + (q : Int)))))[0]? = some (some (.int size)) := by rw [List.getElem?_set_ne (by decide), hl0]
        have e2 : (l.set 6 (some (D.int (0 + (q : Int)))))[6]? = some (some (.int (0 + (q : Int)))) := by
          rw [List.getElem?_set_self (by omega)]
        simp only [e_tup, l_cons, l_nil, e_v, e1, e2, e_bin, e_bi, e_k, Option.elim_some, b_ok, of_el, bin_add, bi_int, mkR_f, bin_mod, hsz, if_true, List.length_cons, List.length_nil, Nat.zero_add, Nat.reduceAdd, len2]
        rfl⟩) (by simpa using hm)
    rw [key, List.map_map]; rfl
  have e1 : exS (evE (callF tab (d + 10)) 60) 60 (.asg (.nm 2) (.ife (.v 1) (.v 0) (.bin .sub (.v 0) (.k (.int 1))))) [some (.int size), some (.bl b), none, none, none, none, none, none, none, none, none, none] S
      = .nx [some (.int size), some (.bl b), some (.int (ntCount size b)), none, none, none, none, none, none, none, none, none] S := by
    unfold ntCount
    cases b <;> simp
  have e2 : exS (evE (callF tab (d + 10)) 60) 60 (.asg (.nm 3) (.bi false .tuple [(c_law_noughts_right_e0 ls fo ro li ba mi)])) [some (.int size), some (.bl b), some (.int (ntCount size b)), none, none, none, none, none, none, none, none, none] S
      = .nx [some (.int size), some (.bl b), some (.int (ntCount size b)), some (.tup (((List.range (if b = true then ntCount size b else ntCount size b - 1).toNat).map (ntPair size)).map prD)), none, none, none, none, none, none, none, none] S := by
    have hr : rngD [.int (if b = true then ntCount size b else ntCount size b - 1)] = some (.rng 0 1 (if b = true then ntCount size b else ntCount size b - 1).toNat) := by
      simp only [rngD]
      rw [if_pos (small_ok (by split <;> omega))]
    have key := cmp 48 [some (.int size), some (.bl b), some (.int (ntCount size b)), none, none, none, none, none, none, none, none, none] S (if b = true then ntCount size b else ntCount size b - 1).toNat rfl (by simp) (by unfold turns; split <;> omega)
    have e3 : evE (callF tab (d + 10)) 58 (.ife (.v 1) (.v 2) (.bin .sub (.v 2) (.k (.int 1)))) [some (.int size), some (.bl b), some (.int (ntCount size b)), none, none, none, none, none, none, none, none, none] S = .ok (.int (if b = true then ntCount size b else ntCount size b - 1)) S := by
      cases b <;> simp
    generalize (if b = true then ntCount size b else ntCount size b - 1) = c at hr key e3 ⊢
    simp only [Nat.reduceAdd] at key
    simp only [s_asg, e_bi, l_cons, l_nil, c_law_noughts_right_e0, e_lc, i_rng, e3, b_ok, of_el, hr, Option.elim_some, wipe_s, wipe_0, List.set_cons_succ, List.set_cons_zero, key, mkR_f, bi_tup_l, o_ok, asg_nm]
  have e3 : exS (evE (callF tab (d + 10)) 60) 60 (.asg (.nm 4) (.tup [(.v 0), (.bi false .tuple [(c_law_noughts_right_e1 ls fo ro li ba mi)]), (.bi false .tuple [(.bi false .sorted [(.v 3)])])])) [some (.int size), some (.bl b), some (.int (ntCount size b)), some (.tup (((List.range (if b = true then ntCount size b else ntCount size b - 1).toNat).map (ntPair size)).map prD)), none, none, none, none, none, none, none, none] S
      = .nx [some (.int size), some (.bl b), some (.int (ntCount size b)), some (.tup (((List.range (if b = true then ntCount size b else ntCount size b - 1).toNat).map (ntPair size)).map prD)), some (PL size (ntA size b) (ntZ size b)), none, none, none, none, none, none, none] S := by
    have hr : rngD [.int (ntCount size b)] = some (.rng 0 1 (ntCount size b).toNat) := by
      simp only [rngD]
      rw [if_pos (small_ok (by omega))]
    have hso : ∀ ps : List P2, biD S .sorted [.tup (ps.map prD)] = some (.lst ((sortP ps).map prD)) := fun ps => by
      simp only [biD, D.read]
      rw [if_pos (sortOk_p _), sortD_p]
    have key := fun l h1 h2 => cmp 47 l S (ntCount size b).toNat h1 h2 (by unfold turns; omega)
    have key := key [some (.int size), some (.bl b), some (.int (ntCount size b)), some (.tup (((List.range (if b = true then ntCount size b else ntCount size b - 1).toNat).map (ntPair size)).map prD)), none, none, none, none, none, none, none, none] rfl (by simp)
    simp only [Nat.reduceAdd] at key
    simp only [s_asg, e_tup, e_bi, l_cons, l_nil, c_law_noughts_right_e1, e_lc, i_rng, e_v, List.getElem?_cons_zero, List.getElem?_cons_succ, b_ok, of_el, hr, Option.elim_some, wipe_s, wipe_0, List.set_cons_succ, List.set_cons_zero, key, mkR_f, bi_tup_l, hso, o_ok, asg_nm, List.length_cons, List.length_nil, Nat.zero_add, Nat.reduceAdd, len3, if_true]
    rfl
  generalize hZ : D.tup (((List.range (if b = true then ntCount size b else ntCount size b - 1).toNat).map (ntPair size)).map prD) = ZD at e2 e3
  have loop1 : ∀ S : Sto, ∃ y5 y7 y8 y9 T, exS (evE (callF tab (d + 10)) 60) 60 (c_law_noughts_right_s0 ls fo ro li ba mi) [some (.int size), some (.bl b), some (.int (ntCount size b)), some ZD, some (PL size (ntA size b) (ntZ size b)), none, none, none, none, none, none, none] S
      = .nx [some (.int size), some (.bl b), some (.int (ntCount size b)), some ZD, some (PL size (ntA size b) (ntZ size b)), y5, none, y7, y8, y9, none, none] (S ++ T) := fun S => by
    obtain ⟨l', S', e, ⟨y5, y7, y8, y9, rfl⟩, T, rfl⟩ := forL_all (row_rng 0 size) (t := .nm 5) (body := exSs (exS (evE (callF tab (d + 10)) 60) 59) (c_law_noughts_right_b0 ls fo ro li ba mi))
      (fun l' S' => (∃ y5 y7 y8 y9, l' = [some (.int size), some (.bl b), some (.int (ntCount size b)), some ZD, some (PL size (ntA size b) (ntZ size b)), y5, none, y7, y8, y9, none, none]) ∧ ∃ T, S' = S ++ T)
      (by
        rintro k dd l' S' hd ⟨⟨y5, y7, y8, y9, rfl⟩, T, rfl⟩
        rw [List.getElem?_map] at hd
        have hk : k < size := by
          rcases Nat.lt_or_ge k size with h | h
          · exact h
          · rw [List.getElem?_eq_none (by simpa using h)] at hd; cases hd
        rw [List.getElem?_range hk] at hd
        cases hd
        have ok := List.all_eq_true.mp ok1 k (List.mem_range.mpr hk)
        simp only [nt1, Bool.and_eq_true, decide_eq_true_eq] at ok
        obtain ⟨k1, k2, k3⟩ := ok
        obtain ⟨T1, r1⟩ : ∃ T1, callF tab (d + 10) fo [PL size (ntA size b) (ntZ size b), .tup [.int k, .tup []]] (S ++ T) = .ok (oW ((ntAhead size k b).map fun a => (a, []))) (S ++ T ++ T1) := forth_run (d := d + 2) h2 size (ntA size b) (ntZ size b) hA k [] _ k1 (S ++ T)
        obtain ⟨T2, r2⟩ : ∃ T2, callF tab (d + 10) ro [PL size (ntA size b) (ntZ size b), .tup [.int k, .tup []], .int 20] (S ++ T ++ T1) = .ok (rdD (ntRd size k b)) (S ++ T ++ T1 ++ T2) := road_run (d := d) h3 size (ntA size b) (ntZ size b) hA k [] 20 (by decide) _ k2 (S ++ T ++ T1)
        have ez : (0 : Int) + (k : Int) = (k : Int) := Int.zero_add _
        have hpos : (0 < (k : Int)) ↔ 0 < k := by omega
        have b1 : exS (evE (callF tab (d + 10)) 60) 59 (.asg (.nm 7) (.ife (.or (.v 1) (.cmp .gt (.v 5) (.k (.int 0)))) (.bin .mod (.bi false .int [(.bin .sub (.v 5) (.k (.int 1)))]) (.v 0)) (.k .non))) [some (.int size), some (.bl b), some (.int (ntCount size b)), some ZD, some (PL size (ntA size b) (ntZ size b)), some (.int k), none, y7, y8, y9, none, none] (S ++ T)
            = .nx [some (.int size), some (.bl b), some (.int (ntCount size b)), some ZD, some (PL size (ntA size b) (ntZ size b)), some (.int k), none, some (oI (ntAhead size k b)), y8, y9, none, none] (S ++ T) := by
          have hsz' : 0 < size := by omega
          unfold ntAhead
          cases b <;> by_cases h0 : 0 < k <;> simp [h0, hsz', hpos]
        have b2 : exS (evE (callF tab (d + 10)) 60) 59 (.asg (.nm 8) (.lst false [(.call fo [(.v 4), (.tup [(.v 5), (.tup [])])]), (.call ro [(.v 4), (.tup [(.v 5), (.tup [])]), (.k (.int 20))])])) [some (.int size), some (.bl b), some (.int (ntCount size b)), some ZD, some (PL size (ntA size b) (ntZ size b)), some (.int k), none, some (oI (ntAhead size k b)), y8, y9, none, none] (S ++ T)
            = .nx [some (.int size), some (.bl b), some (.int (ntCount size b)), some ZD, some (PL size (ntA size b) (ntZ size b)), some (.int k), none, some (oI (ntAhead size k b)), some (ntTold size k b), y9, none, none] (S ++ T ++ T1 ++ T2) := by
          simp only [s_asg, e_lst, l_cons, l_nil, e_call, e_tup, e_v, e_k, List.getElem?_cons_zero, List.getElem?_cons_succ, Option.elim_some, b_ok, List.length_cons, List.length_nil, Nat.zero_add, Nat.reduceAdd, len0, len2, if_true]
          simp only [r1, r2, b_ok, List.length_cons, List.length_nil, Nat.zero_add, Nat.reduceAdd, len2, if_true, mkR_f, o_ok, asg_nm, Option.elim_some, List.set_cons_succ, List.set_cons_zero]
          rfl
        have b3 : ∀ S' : Sto, exS (evE (callF tab (d + 10)) 60) 59 (.asg (.nm 9) (.lst false [(.ife (.cmp .is_ (.v 7) (.k .non)) (.k .non) (.tup [(.v 7), (.tup [])])), (.ife (.v 1) (.tup [(.k (.str "ring")), (.v 0)]) (.tup [(.k (.str "end")), (.v 5)]))])) [some (.int size), some (.bl b), some (.int (ntCount size b)), some ZD, some (PL size (ntA size b) (ntZ size b)), some (.int k), none, some (oI (ntAhead size k b)), some (ntTold size k b), y9, none, none] S'
            = .nx [some (.int size), some (.bl b), some (.int (ntCount size b)), some ZD, some (PL size (ntA size b) (ntZ size b)), some (.int k), none, some (oI (ntAhead size k b)), some (ntTold size k b), some (ntTold size k b), none, none] S' := fun S' => by
          unfold ntTold
          cases hx : ntAhead size k b <;> cases b <;> simp [ntRd, rdD]
        have hl : ∀ S', callF tab (d + 10) li [ntTold size k b, ntTold size k b] S' = .ok (.bl true) S' := fun S' => like_run' (d := d + 9) h4 rfl rfl k3
        have b4 : ∀ S' : Sto, exS (evE (callF tab (d + 10)) 60) 59 (.iff (.not (.call li [(.v 8), (.v 9)])) [.ret (some (.k (.bl false)))] []) [some (.int size), some (.bl b), some (.int (ntCount size b)), some ZD, some (PL size (ntA size b) (ntZ size b)), some (.int k), none, some (oI (ntAhead size k b)), some (ntTold size k b), some (ntTold size k b), none, none] S'
            = .nx [some (.int size), some (.bl b), some (.int (ntCount size b)), some ZD, some (PL size (ntA size b) (ntZ size b)), some (.int k), none, some (oI (ntAhead size k b)), some (ntTold size k b), some (ntTold size k b), none, none] S' := fun S' => by
          simp [hl]
        refine ⟨[some (.int size), some (.bl b), some (.int (ntCount size b)), some ZD, some (PL size (ntA size b) (ntZ size b)), some (.int k), none, y7, y8, y9, none, none], by simp, [some (.int size), some (.bl b), some (.int (ntCount size b)), some ZD, some (PL size (ntA size b) (ntZ size b)), some (.int k), none, some (oI (ntAhead size k b)), some (ntTold size k b), some (ntTold size k b), none, none], S ++ T ++ T1 ++ T2, ?_, ⟨_, _, _, _, rfl⟩, ⟨T ++ T1 ++ T2, by simp only [List.append_assoc]⟩⟩
        unfold c_law_noughts_right_b0
        rw [ss_go b1, ss_go b2, ss_go (b3 _), ss_go (b4 _), ss_nil])
      (by unfold turns; simp; omega) (l := [some (.int size), some (.bl b), some (.int (ntCount size b)), some ZD, some (PL size (ntA size b) (ntZ size b)), none, none, none, none, none, none, none]) (S := S) ⟨⟨_, _, _, _, rfl⟩, [], by simp⟩
    refine ⟨y5, y7, y8, y9, T, ?_⟩
    have hr : rngD [.int (size : Int)] = some (.rng 0 1 size) := by
      simp only [rngD]
      rw [if_pos (small_ok (by omega))]
      rfl
    simp only [c_law_noughts_right_s0, s_for, i_rng, l_cons, l_nil, e_v, List.getElem?_cons_zero, Option.elim_some, b_ok, of_el, hr, o_ok, e]
  have loop2 : ∀ (S : Sto) (x5 x7 x8 x9 : Option D), ∃ y6 y10 y11 T, exS (evE (callF tab (d + 10)) 60) 60 (c_law_noughts_right_s1 ls fo ro li ba mi) [some (.int size), some (.bl b), some (.int (ntCount size b)), some ZD, some (PL size (ntA size b) (ntZ size b)), x5, none, x7, x8, x9, none, none] S
      = .nx [some (.int size), some (.bl b), some (.int (ntCount size b)), some ZD, some (PL size (ntA size b) (ntZ size b)), x5, y6, x7, x8, x9, y10, y11] (S ++ T) := fun S x5 x7 x8 x9 => by
    obtain ⟨l', S', e, ⟨y6, y10, y11, rfl⟩, T, rfl⟩ := forL_all (row_rng 0 (ntCount size b).toNat) (t := .nm 6) (body := exSs (exS (evE (callF tab (d + 10)) 60) 59) (c_law_noughts_right_b1 ls fo ro li ba mi))
      (fun l' S' => (∃ y6 y10 y11, l' = [some (.int size), some (.bl b), some (.int (ntCount size b)), some ZD, some (PL size (ntA size b) (ntZ size b)), x5, y6, x7, x8, x9, y10, y11]) ∧ ∃ T, S' = S ++ T)
      (by
        rintro k dd l' S' hd ⟨⟨y6, y10, y11, rfl⟩, T, rfl⟩
        rw [List.getElem?_map] at hd
        have hk : k < (ntCount size b).toNat := by
          rcases Nat.lt_or_ge k (ntCount size b).toNat with h | h
          · exact h
          · rw [List.getElem?_eq_none (by simpa using h)] at hd; cases hd
        rw [List.getElem?_range hk] at hd
        cases hd
        have ok := List.all_eq_true.mp ok2 k (List.mem_range.mpr hk)
        obtain ⟨kk, hkk⟩ : ∃ kk, kk = (0 : Int) + (k : Int) := ⟨_, rfl⟩
        rw [← hkk] at ok
        unfold nt2 at ok
        cases ho : lstM (ntA size b) (kk, [kk]) with
        | none => rw [ho] at ok; cases ok
        | some one =>
          cases hq : lstM (ntA size b) (kk, []) with
          | none => rw [ho, hq] at ok; cases ok
          | some kept =>
            rw [ho, hq] at ok
            simp only [Option.elim_some, Bool.and_eq_true, decide_eq_true_eq] at ok
            obtain ⟨k1, k2, k3, k4⟩ := ok
            have q1 : ∀ S', callF tab (d + 10) ls [PL size (ntA size b) (ntZ size b), .tup [.int kk, .tup [.int kk]]] S' = .ok (wD one) S' := fun S' => lst_run (d := d + 6) h1 size (ntA size b) (ntZ size b) kk [kk] (by simp) one ho S'
            have q2 : ∀ S', callF tab (d + 10) ls [PL size (ntA size b) (ntZ size b), .tup [.int kk, .tup []]] S' = .ok (wD kept) S' := fun S' => lst_run (d := d + 6) h1 size (ntA size b) (ntZ size b) kk [] (by simp) kept hq S'
            obtain ⟨T1, r1⟩ := forth_run (d := d + 2) h2 size (ntA size b) (ntZ size b) hA one.1 one.2 _ k1 (S ++ T)
            obtain ⟨T2, r2⟩ := back_run (d := d + 2) h5 size (ntA size b) (ntZ size b) hA one.1 one.2 _ k2 (S ++ T ++ T1)
            obtain ⟨T3, r3⟩ := mid_run (d := d + 2) h6 size (ntA size b) (ntZ size b) hA one.1 one.2 _ k3 (S ++ T ++ T1 ++ T2)
            have b1 : exS (evE (callF tab (d + 10)) 60) 59 (.asg (.nm 10) (.call ls [(.v 4), (.tup [(.v 6), (.tup [(.v 6)])])])) [some (.int size), some (.bl b), some (.int (ntCount size b)), some ZD, some (PL size (ntA size b) (ntZ size b)), x5, some (.int kk), x7, x8, x9, y10, y11] (S ++ T)
                = .nx [some (.int size), some (.bl b), some (.int (ntCount size b)), some ZD, some (PL size (ntA size b) (ntZ size b)), x5, some (.int kk), x7, x8, x9, some (wD one), y11] (S ++ T) := by
              simp [q1]
            have b2 : exS (evE (callF tab (d + 10)) 60) 59 (.asg (.nm 11) (.call ls [(.v 4), (.tup [(.v 6), (.tup [])])])) [some (.int size), some (.bl b), some (.int (ntCount size b)), some ZD, some (PL size (ntA size b) (ntZ size b)), x5, some (.int kk), x7, x8, x9, some (wD one), y11] (S ++ T)
                = .nx [some (.int size), some (.bl b), some (.int (ntCount size b)), some ZD, some (PL size (ntA size b) (ntZ size b)), x5, some (.int kk), x7, x8, x9, some (wD one), some (wD kept)] (S ++ T) := by
              simp [q2]
            have hl := like_run' (d := d + 9) h4 (S := S ++ T ++ T1 ++ T2 ++ T3) (a := .lst [.non, .non, wsD [kept]]) (b := .lst [.non, .non, .tup [wD kept]]) rfl rfl k4
            have b3 : exS (evE (callF tab (d + 10)) 60) 59 (.iff (.not (.call li [(.lst false [(.call fo [(.v 4), (.v 10)]), (.call ba [(.v 4), (.v 10)]), (.call mi [(.v 4), (.v 10)])]), (.lst false [(.k .non), (.k .non), (.tup [(.v 11)])])])) [.ret (some (.k (.bl false)))] []) [some (.int size), some (.bl b), some (.int (ntCount size b)), some ZD, some (PL size (ntA size b) (ntZ size b)), x5, some (.int kk), x7, x8, x9, some (wD one), some (wD kept)] (S ++ T)
                = .nx [some (.int size), some (.bl b), some (.int (ntCount size b)), some ZD, some (PL size (ntA size b) (ntZ size b)), x5, some (.int kk), x7, x8, x9, some (wD one), some (wD kept)] (S ++ T ++ T1 ++ T2 ++ T3) := by
              simp only [wsD, List.map_cons, List.map_nil] at hl r3
              simp only [s_iff, e_not, e_call, e_lst, e_tup, l_cons, l_nil, e_v, e_k, List.getElem?_cons_zero, List.getElem?_cons_succ, Option.elim_some, b_ok, r1, r2, r3, oW_n, List.length_cons, List.length_nil, Nat.zero_add, Nat.reduceAdd, len1, len3, if_true, mkR_f, hl, of_el, tr_bl, Option.map_some, Bool.not_true, o_ok, tmO_b, Bool.false_eq_true, if_false, ss_nil]
            refine ⟨[some (.int size), some (.bl b), some (.int (ntCount size b)), some ZD, some (PL size (ntA size b) (ntZ size b)), x5, some (.int kk), x7, x8, x9, y10, y11], by simp [hkk], [some (.int size), some (.bl b), some (.int (ntCount size b)), some ZD, some (PL size (ntA size b) (ntZ size b)), x5, some (.int kk), x7, x8, x9, some (wD one), some (wD kept)], S ++ T ++ T1 ++ T2 ++ T3, ?_, ⟨_, _, _, rfl⟩, ⟨T ++ T1 ++ T2 ++ T3, by simp only [List.append_assoc]⟩⟩
            unfold c_law_noughts_right_b1
            rw [ss_go b1, ss_go b2, ss_go b3, ss_nil])
      (by unfold turns; simp; omega) (l := [some (.int size), some (.bl b), some (.int (ntCount size b)), some ZD, some (PL size (ntA size b) (ntZ size b)), x5, none, x7, x8, x9, none, none]) (S := S) ⟨⟨_, _, _, rfl⟩, [], by simp⟩
    refine ⟨y6, y10, y11, T, ?_⟩
    have hr : rngD [.int (ntCount size b)] = some (.rng 0 1 (ntCount size b).toNat) := by
      simp only [rngD]
      rw [if_pos (small_ok (by omega))]
    simp only [c_law_noughts_right_s1, s_for, i_rng, l_cons, l_nil, e_v, List.getElem?_cons_zero, List.getElem?_cons_succ, Option.elim_some, b_ok, of_el, hr, o_ok, e]
  obtain ⟨y5, y7, y8, y9, T1, e4⟩ := loop1 S
  obtain ⟨y6, y10, y11, T2, e5⟩ := loop2 (S ++ T1) y5 y7 y8 y9
  refine ⟨T1 ++ T2, ?_⟩
  rw [ss_step e1, ss_step e2, ss_step e3, ss_step e4, ss_step e5]
  simp

end Sp
end
section
set_option linter.all false
set_option linter.unusedSimpArgs false
/-! N1: nil_of, nil_ahead_of, turned_plan; the laws' own letters -/
open Ev PySem L2
namespace Sp
def c_nil_of_b0  : List CS := [
 .iff (.cmp .eq (.v 2) (.v 1)) [
  .ret (some (.v 3))] []]
def c_nil_of_s0  : CS := .fors (.tp [(.nm 2), (.nm 3)]) (.of (.ix (.v 0) (.k (.int 2)))) c_nil_of_b0
def c_nil_of  : List CS := [
 c_nil_of_s0,
 .ret (some (.k .non))]
def f_nil_of  : Fd := ⟨2, 4, c_nil_of ⟩
def c_nil_ahead_of_b0  : List CS := [
 .iff (.cmp .eq (.v 3) (.v 1)) [
  .ret (some (.v 2))] []]
def c_nil_ahead_of_s0  : CS := .fors (.tp [(.nm 2), (.nm 3)]) (.of (.ix (.v 0) (.k (.int 2)))) c_nil_ahead_of_b0
def c_nil_ahead_of  : List CS := [
 c_nil_ahead_of_s0,
 .ret (some (.k .non))]
def f_nil_ahead_of  : Fd := ⟨2, 4, c_nil_ahead_of ⟩
def c_turned_plan_e0  : CE := (.gn false .tuple [5, 6] (.tp [(.nm 5), (.nm 6)]) (.of (.v 3)) [] (.tup [(.v 6), (.v 5)]))
def c_turned_plan_e1  : CE := (.gn false .sorted [7, 8] (.tp [(.nm 7), (.nm 8)]) (.of (.v 4)) [] (.tup [(.v 8), (.v 7)]))
def c_turned_plan  : List CS := [
 .asg (.tp [(.nm 2), (.nm 3), (.nm 4)]) (.v 0),
 .asg (.nm 1) c_turned_plan_e0,
 .ret (some (.tup [(.v 2), (.v 1), (.bi false .tuple [c_turned_plan_e1])]))]
def f_turned_plan  : Fd := ⟨1, 9, c_turned_plan ⟩
def c_law_may (i_law_ends : Nat) : List CS := [
 .iff (.or (.cmp .ne (.ix (.call i_law_ends [(.v 0), (.v 1)]) (.k (.int 1))) (.ix (.call i_law_ends [(.v 0), (.v 2)]) (.k (.int 0)))) (.cmp .eq (.v 2) (.bin .sub (.neg (.k (.int 1))) (.v 1)))) [
  .ret (some (.k (.bl false)))] [],
 .iff (.and (.cmp .ge (.v 1) (.k (.int 0))) (.cmp .ge (.v 2) (.k (.int 0)))) [
  .ret (some (.cmp .notin (.tup [(.v 1), (.v 2)]) (.ix (.v 0) (.k (.int 2)))))] [],
 .iff (.and (.cmp .lt (.v 1) (.k (.int 0))) (.cmp .lt (.v 2) (.k (.int 0)))) [
  .ret (some (.cmp .notin (.tup [(.bin .sub (.neg (.k (.int 1))) (.v 2)), (.bin .sub (.neg (.k (.int 1))) (.v 1))]) (.ix (.v 0) (.k (.int 2)))))] [],
 .ret (some (.k (.bl true)))]
def f_law_may (i_law_ends : Nat) : Fd := ⟨3, 3, c_law_may i_law_ends⟩
def c_law_after_e0 (i_law_may : Nat) : CE := (.lc false [3] (.nm 3) (.rng [(.neg (.v 2)), (.v 2)]) [(.call i_law_may [(.v 0), (.v 1), (.v 3)])] (.v 3))
def c_law_after (i_law_may : Nat) : List CS := [
 .asg (.nm 2) (.bi false .len [(.ix (.v 0) (.k (.int 1)))]),
 .ret (some (c_law_after_e0 i_law_may))]
def f_law_after (i_law_may : Nat) : Fd := ⟨2, 4, c_law_after i_law_may⟩
def c_law_next_e0 (i_law_after : Nat) : CE := (.lc false [3] (.nm 3) (.of (.call i_law_after [(.v 0), (.v 1)])) [(.cmp .ge (.v 3) (.k (.int 0)))] (.v 3))
def c_law_next (i_law_after : Nat) : List CS := [
 .asg (.nm 2) (c_law_next_e0 i_law_after),
 .ret (some (.ife (.cmp .ne (.v 2) (.lst false [])) (.ix (.v 2) (.k (.int 0))) (.k .non)))]
def f_law_next (i_law_after : Nat) : Fd := ⟨2, 4, c_law_next i_law_after⟩
def c_law_nil_e0  : CE := (.lc false [3] (.nm 3) (.of (.ix (.v 0) (.k (.int 2)))) [(.cmp .eq (.ix (.v 3) (.k (.int 0))) (.v 1))] (.ix (.v 3) (.k (.int 1))))
def c_law_nil  : List CS := [
 .asg (.nm 2) c_law_nil_e0,
 .ret (some (.ife (.cmp .ne (.v 2) (.lst false [])) (.ix (.v 2) (.k (.int 0))) (.k .non)))]
def f_law_nil  : Fd := ⟨2, 4, c_law_nil ⟩
-- N1: nil_of, nil_ahead_of, turned_plan; the laws' own letters
theorem forL_findV {α : Type} {h : α → D} {xs : List α} {it : IT} (hr : Row it (xs.map h)) {t : CT} {body : Ev.Loc → Sto → Out} {S : Sto} (I : Ev.Loc → Prop) (P : α → Bool) (r : α → D)
    (hs : ∀ x l, x ∈ xs → I l → ∃ l1, asgT S t (h x) l = some l1 ∧ I l1 ∧ body l1 S = if P x = true then .rt (r x) S else .nx l1 S)
    {l : Ev.Loc} (hl : I l) (hn : xs.length < turns) : ∃ l', I l' ∧ forL it t body turns 0 l S = (xs.find? P).elim (.nx l' S) fun x => .rt (r x) S := by
  have key := forL_ind hr (t := t) (body := body) (fun i l' S' => S' = S ∧ I l' ∧ xs.find? P = (xs.drop i).find? P) (fun o => ∃ l', I l' ∧ o = (xs.find? P).elim (.nx l' S) fun x => .rt (r x) S)
    (fun i d l' S' hd hp => by
      obtain ⟨rfl, hI, hf⟩ := hp
      rw [List.getElem?_map] at hd
      cases hx : xs[i]? with
      | none => rw [hx] at hd; cases hd
      | some x =>
        rw [hx] at hd
        simp only [Option.map_some, Option.some.injEq] at hd
        subst hd
        have hdr : xs.drop i = x :: xs.drop (i + 1) := by
          rw [List.drop_eq_getElem_cons (List.getElem?_eq_some_iff.mp hx).1]
          rw [(List.getElem?_eq_some_iff.mp hx).2]
        obtain ⟨l1, e1, hI2, e2⟩ := hs x l' (List.mem_of_getElem? hx) hI
        refine ⟨l1, e1, ?_⟩
        rw [e2]
        rw [hdr, List.find?_cons] at hf
        cases hp : P x with
        | true =>
          rw [hp] at hf
          simp only [if_true]
          exact ⟨l', hI, by rw [hf]; rfl⟩
        | false =>
          rw [hp] at hf
          simp only [Bool.false_eq_true, if_false]
          exact ⟨trivial, hI2, hf⟩)
    (fun l' S' hp => by
      obtain ⟨rfl, hI, hf⟩ := hp
      refine ⟨l', hI, ?_⟩
      rw [hf, List.length_map, List.drop_length]
      rfl)
  exact key _ 0 turns l S rfl (Nat.zero_le _) (by rw [List.length_map]; exact hn) ⟨rfl, hl, rfl⟩
def nilM (zs : List P2) (a : Int) : Option Int := (zs.find? fun z => decide (z.1 = a)).map (·.2)
def nilA (zs : List P2) (a : Int) : Option Int := (zs.find? fun z => decide (z.2 = a)).map (·.1)
theorem nil_run {tab : List Fd} {f d : Nat} (h : tab[f]? = some f_nil_of) (n : Int) (as zs : List P2) (hn : zs.length < turns) (a : Int) (S : Sto) :
    callF tab (d + 1) f [PL n as zs, .int a] S = .ok (oI (nilM zs a)) S := by
  rw [call_body h rfl (l := [some (PL n as zs), some (.int a), none, none]) rfl]
  show (exSs (exS (evE (callF tab d) 60) 60) c_nil_of _ S).fin = _
  unfold c_nil_of
  obtain ⟨l', ⟨u, v, rfl⟩, e⟩ := forL_findV (it := .one (.vals (zs.map prD))) (h := prD) (xs := zs) (row_vals _) (t := .tp [(.nm 2), (.nm 3)]) (S := S) (body := exSs (exS (evE (callF tab d) 60) 59) c_nil_of_b0) (fun l => ∃ u v, l = [some (PL n as zs), some (.int a), u, v]) (fun z => decide (z.1 = a)) (fun z => .int z.2)
    (by
      rintro x l hx ⟨u, v, rfl⟩
      refine ⟨[some (PL n as zs), some (.int a), some (.int x.1), some (.int x.2)], by simp, ⟨_, _, rfl⟩, ?_⟩
      simp [c_nil_of_b0]) (l := [some (PL n as zs), some (.int a), none, none]) ⟨_, _, rfl⟩ hn
  rw [ss_cons, c_nil_of_s0, s_for]
  simp only [i_of, e_ix, e_v, e_k, List.getElem?_cons_zero, Option.elim_some, b_ok, ixT, at_2, of_el, src_t, Option.map_some, o_ok, e]
  unfold nilM
  cases zs.find? fun z => decide (z.1 = a) <;> simp
theorem nilA_run {tab : List Fd} {f d : Nat} (h : tab[f]? = some f_nil_ahead_of) (n : Int) (as zs : List P2) (hn : zs.length < turns) (a : Int) (S : Sto) :
    callF tab (d + 1) f [PL n as zs, .int a] S = .ok (oI (nilA zs a)) S := by
  rw [call_body h rfl (l := [some (PL n as zs), some (.int a), none, none]) rfl]
  show (exSs (exS (evE (callF tab d) 60) 60) c_nil_ahead_of _ S).fin = _
  unfold c_nil_ahead_of
  obtain ⟨l', ⟨u, v, rfl⟩, e⟩ := forL_findV (it := .one (.vals (zs.map prD))) (h := prD) (xs := zs) (row_vals _) (t := .tp [(.nm 2), (.nm 3)]) (S := S) (body := exSs (exS (evE (callF tab d) 60) 59) c_nil_ahead_of_b0) (fun l => ∃ u v, l = [some (PL n as zs), some (.int a), u, v]) (fun z => decide (z.2 = a)) (fun z => .int z.1)
    (by
      rintro x l hx ⟨u, v, rfl⟩
      refine ⟨[some (PL n as zs), some (.int a), some (.int x.1), some (.int x.2)], by simp, ⟨_, _, rfl⟩, ?_⟩
      simp [c_nil_ahead_of_b0]) (l := [some (PL n as zs), some (.int a), none, none]) ⟨_, _, rfl⟩ hn
  rw [ss_cons, c_nil_ahead_of_s0, s_for]
  simp only [i_of, e_ix, e_v, e_k, List.getElem?_cons_zero, Option.elim_some, b_ok, ixT, at_2, of_el, src_t, Option.map_some, o_ok, e]
  unfold nilA
  cases zs.find? fun z => decide (z.2 = a) <;> simp
/-! turned_plan -/
def swp (p : P2) : P2 := (p.2, p.1)
@[simp] theorem asg_t3 {S : Sto} {l : Ev.Loc} {t u v a b c} : asgT S (.tp [t, u, v]) (.tup [a, b, c]) l = (asgT S t a l).bind fun l1 => (asgT S u b l1).bind fun l2 => asgT S v c l2 := by
  show (match asgT S t a l with | some l1 => (match asgT S u b l1 with | some l2 => (match asgT S v c l2 with | some l3 => some l3 | none => none) | none => none) | none => none) = _
  cases asgT S t a l with
  | none => rfl
  | some l1 =>
    cases h : asgT S u b l1 with
    | none => simp [h]
    | some l2 => cases h' : asgT S v c l2 <;> simp [h, h']
theorem turn_run {tab : List Fd} {f d : Nat} (h : tab[f]? = some f_turned_plan) (n : Int) (as zs : List P2) (ha : as.length < turns) (hz : zs.length < turns) (S : Sto) :
    callF tab (d + 1) f [PL n as zs] S = .ok (PL n (as.map swp) (sortP (zs.map swp))) S := by
  rw [call_body h rfl (l := [some (PL n as zs), none, none, none, none, none, none, none, none]) rfl]
  show (exSs (exS (evE (callF tab d) 60) 60) c_turned_plan _ S).fin = _
  unfold c_turned_plan
  have k1 := evC_all (ev := evE (callF tab d) 59) (tg := .tp [(.nm 5), (.nm 6)]) (elt := (.tup [(.v 6), (.v 5)])) (l := [some (PL n as zs), none, some (.int n), some (.tup (as.map prD)), some (.tup (zs.map prD)), none, none, none, none]) (S := S) (h := prD) (ys := as) (row_vals _) (fun p => prD (swp p))
    (fun q hq => ⟨[some (PL n as zs), none, some (.int n), some (.tup (as.map prD)), some (.tup (zs.map prD)), some (.int q.1), some (.int q.2), none, none], by simp, by simp [swp]⟩) ha
  have k2 := evC_all (ev := evE (callF tab d) 57) (tg := .tp [(.nm 7), (.nm 8)]) (elt := (.tup [(.v 8), (.v 7)])) (l := [some (PL n as zs), some (.tup ((as.map swp).map prD)), some (.int n), some (.tup (as.map prD)), some (.tup (zs.map prD)), none, none, none, none]) (S := S) (h := prD) (ys := zs) (row_vals _) (fun p => prD (swp p))
    (fun q hq => ⟨[some (PL n as zs), some (.tup ((as.map swp).map prD)), some (.int n), some (.tup (as.map prD)), some (.tup (zs.map prD)), none, none, some (.int q.1), some (.int q.2)], by simp, by simp [swp]⟩) hz
  have m1 : as.map (fun p => prD (swp p)) = (as.map swp).map prD := by rw [List.map_map]; rfl
  have m2 : zs.map (fun p => prD (swp p)) = (zs.map swp).map prD := by rw [List.map_map]; rfl
  rw [m1] at k1
  rw [m2] at k2
  have e1 : exS (evE (callF tab d) 60) 60 (.asg (.tp [(.nm 2), (.nm 3), (.nm 4)]) (.v 0)) [some (PL n as zs), none, none, none, none, none, none, none, none] S = .nx [some (PL n as zs), none, some (.int n), some (.tup (as.map prD)), some (.tup (zs.map prD)), none, none, none, none] S := by
    simp
  have e2 : exS (evE (callF tab d) 60) 60 (.asg (.nm 1) c_turned_plan_e0) [some (PL n as zs), none, some (.int n), some (.tup (as.map prD)), some (.tup (zs.map prD)), none, none, none, none] S = .nx [some (PL n as zs), some (.tup ((as.map swp).map prD)), some (.int n), some (.tup (as.map prD)), some (.tup (zs.map prD)), none, none, none, none] S := by
    simp only [s_asg, c_turned_plan_e0, e_gn_tuple, i_of, e_v, List.getElem?_cons_zero, List.getElem?_cons_succ, Option.elim_some, b_ok, of_el, src_t, Option.map_some, wipe_s, wipe_0, List.set_cons_succ, List.set_cons_zero, k1, mkR_f, o_ok, asg_nm]
  rw [ss_step e1, ss_step e2]
  refine ss_ret ?_
  simp only [s_ret, e_tup, l_cons, l_nil, e_bi, c_turned_plan_e1, e_gn_sorted, i_of, e_v, List.getElem?_cons_zero, List.getElem?_cons_succ, Option.elim_some, b_ok, of_el, src_t, Option.map_some, wipe_s, wipe_0, List.set_cons_succ, List.set_cons_zero, k2, sortOk_p, sortD_p, if_true, mkR_f, bi_tup_l, List.length_cons, List.length_nil, Nat.zero_add, Nat.reduceAdd, len3, o_ok]
/-! may, after, next, nil, begins, first -/
theorem lend_eq (as : List P2) (a : Int) : lendM as a = endsM as a := by
  unfold lendM endsM arw
  by_cases h : 0 ≤ a
  · simp only [h, if_true]
    cases atI as a <;> rfl
  · simp only [h, if_false]
def OkLM (tab : List Fd) (f : Nat) : Prop := ∃ e, tab[e]? = some f_law_ends ∧ tab[f]? = some (f_law_may e)
theorem lmay_run {tab : List Fd} {f d : Nat} (h : OkLM tab f) (n : Int) (as zs : List P2) (a b : Int) (S : Sto) :
    callF tab (d + 2) f [PL n as zs, .int a, .int b] S = (mayM as zs a b).elim .stuck fun o => .ok (.bl o) S := by
  obtain ⟨e, he, h⟩ := h
  rw [call_def h]
  simp [f_law_may, c_law_may, mayM, lend_run he, lend_eq]
  cases endsM as a with
  | none => rfl
  | some p =>
    cases endsM as b with
    | none => rfl
    | some q =>
      rcases sgn a with ⟨a1, a2⟩ | ⟨a1, a2⟩ <;> rcases sgn b with ⟨b1, b2⟩ | ⟨b1, b2⟩ <;> by_cases h1 : p.2 = q.1 <;> by_cases h2 : b = -1 - a <;> simp [a1, a2, b1, b2, h1, h2]
theorem row_rgI (a b : Int) : Row (.rng a 1 (b - a).toNat) ((rgI a b).map .int) := by
  have := row_rng a (b - a).toNat
  unfold rgI
  rw [List.map_map]
  exact this
theorem rgI_len (a b : Int) : (rgI a b).length = (b - a).toNat := by simp [rgI]
theorem rngD_2 {a b : Int} (h : -1000000 ≤ a ∧ a ≤ 1000000 ∧ -1000000 ≤ b ∧ b ≤ 1000000) : rngD [.int a, .int b] = some (.rng a 1 (b - a).toNat) := by
  simp only [rngD]
  rw [if_pos]
  rw [small_ok (by omega), small_ok (by omega)]; rfl
theorem rngD_1 {b : Int} (h : -1000000 ≤ b ∧ b ≤ 1000000) : rngD [.int b] = some (.rng 0 1 (b - 0).toNat) := by
  simp only [rngD]
  rw [if_pos (small_ok (by omega)), Int.sub_zero]
abbrev cnt (as : List P2) : Int := (as.length : Int)
def OkLA (tab : List Fd) (f : Nat) : Prop := ∃ m, OkLM tab m ∧ tab[f]? = some (f_law_after m)
def aftM (as zs : List P2) (a : Int) : Option (List Int) := Ev.collect (fun b => mayM as zs a b) some (rgI (-cnt as) (cnt as))
theorem aft_run {tab : List Fd} {f d : Nat} (h : OkLA tab f) (n : Int) (as zs : List P2) (hn : as.length < 1000) (a : Int) (S : Sto) :
    callF tab (d + 3) f [PL n as zs, .int a] S = (aftM as zs a).elim .stuck fun ls => .ok (.lst (ls.map .int)) S := by
  obtain ⟨m, hm, h⟩ := h
  have hc : cnt as = (as.length : Int) := rfl
  rw [call_def h]
  have key := evC_row (ev := evE (callF tab (d + 2)) 59) (tg := .nm 3) (ifs := [(.call m [(.v 0), (.v 1), (.v 3)])]) (elt := .v 3) (l := [some (PL n as zs), some (.int a), some (.int (cnt as)), none]) (S := S) (h := D.int) (ys := rgI (-cnt as) (cnt as)) (row_rgI _ _) (fun b => mayM as zs a b) (fun b => some (.int b))
    (fun q hq => ⟨[some (PL n as zs), some (.int a), some (.int (cnt as)), some (.int q)], by simp, by
      simp [lmay_run hm]
      cases mayM as zs a q with
      | none => rfl
      | some b => cases b <;> rfl, fun _ => by simp⟩) (by rw [rgI_len]; unfold turns; omega)
  have hr := rngD_2 (a := -cnt as) (b := cnt as) (by omega)
  have e0 : evE (callF tab (d + 2)) 60 (c_law_after_e0 m) [some (PL n as zs), some (.int a), some (.int (cnt as)), none] S = (aftM as zs a).elim .stuck fun ls => .ok (.lst (ls.map .int)) S := by
    unfold aftM
    rw [show (fun b => some (D.int b)) = (fun b : Int => (some b).map D.int) from rfl, collect_map, el_map] at key
    simp only [c_law_after_e0, e_lc, i_rng, l_cons, l_nil, e_neg, e_v, List.getElem?_cons_zero, List.getElem?_cons_succ, Option.elim_some, b_ok, negD_i, of_el, hr, wipe_s, wipe_0, List.set_cons_succ, List.set_cons_zero, key, b_el, mkR_f]
  simp [f_law_after, c_law_after, e0]
theorem eq_nil {S : Sto} (xs : List Int) : cmpD S .eq (.lst (xs.map .int)) (.lst []) = some xs.isEmpty := by
  have := ne_nil (S := S) xs
  simp only [cmpD, Option.map_eq_some_iff] at this
  obtain ⟨b, hb, h⟩ := this
  simp only [cmpD, hb]
  cases b <;> cases hx : xs.isEmpty <;> simp_all
def OkLN (tab : List Fd) (f : Nat) : Prop := ∃ m, OkLA tab m ∧ tab[f]? = some (f_law_next m)
def lnxM (as zs : List P2) (a : Int) : Option (Option Int) := (aftM as zs a).map fun ls => (ls.filter fun b => decide (0 ≤ b)).head?
theorem lnx_run {tab : List Fd} {f d : Nat} (h : OkLN tab f) (n : Int) (as zs : List P2) (hn : as.length < 1000) (a : Int) (o : Option Int) (e : lnxM as zs a = some o) (S : Sto) :
    callF tab (d + 4) f [PL n as zs, .int a] S = .ok (oI o) S := by
  obtain ⟨m, hm, h⟩ := h
  rw [call_def h]
  unfold lnxM at e
  simp only [Option.map_eq_some_iff] at e
  obtain ⟨ls, hls, rfl⟩ := e
  have hll : ls.length < turns := by
    have : ∀ (xs ys : List Int), Ev.collect (fun b => mayM as zs a b) some xs = some ys → ys.length ≤ xs.length := fun xs => by
      induction xs with
      | nil => intro ys z; cases z; simp
      | cons x xs ih =>
        intro ys z
        simp only [Ev.collect] at z
        cases hx : mayM as zs a x with
        | none => rw [hx] at z; cases z
        | some b =>
          rw [hx] at z
          cases b with
          | false => simp at z; have := ih _ z; simp; omega
          | true =>
            cases hc : Ev.collect (fun b => mayM as zs a b) some xs with
            | none => rw [hc] at z; cases z
            | some w =>
              rw [hc] at z
              cases z
              have := ih _ hc
              simp; omega
    have := this _ _ hls
    rw [rgI_len] at this
    have hc : cnt as = (as.length : Int) := rfl
    unfold turns; omega
  have key := evC_tot (ev := evE (callF tab (d + 3)) 59) (tg := .nm 3) (ifs := [(.cmp .ge (.v 3) (.k (.int 0)))]) (elt := .v 3) (l := [some (PL n as zs), some (.int a), none, none]) (S := S) (h := D.int) (ys := ls) (row_vals (ls.map .int)) (fun b => decide (0 ≤ b)) (fun b => .int b)
    (fun q hq => ⟨[some (PL n as zs), some (.int a), none, some (.int q)], by simp, by simp; split <;> simp_all, fun _ => by simp⟩) hll
  have e0 : evE (callF tab (d + 3)) 60 (c_law_next_e0 m) [some (PL n as zs), some (.int a), none, none] S = .ok (.lst ((ls.filter fun b => decide (0 ≤ b)).map .int)) S := by
    simp [c_law_next_e0, e_lc, aft_run hm n as zs hn, hls, key]
  generalize ls.filter (fun b => decide (0 ≤ b)) = fs at e0
  simp [f_law_next, c_law_next, e0, ne_nil]
  cases fs <;> simp
theorem lnil_run {tab : List Fd} {f d : Nat} (h : tab[f]? = some f_law_nil) (n : Int) (as zs : List P2) (hn : zs.length < turns) (a : Int) (S : Sto) :
    callF tab (d + 1) f [PL n as zs, .int a] S = .ok (oI ((zs.filter fun z => decide (z.1 = a)).head?.map (·.2))) S := by
  rw [call_def h]
  have key := evC_tot (ev := evE (callF tab d) 59) (tg := .nm 3) (ifs := [(.cmp .eq (.ix (.v 3) (.k (.int 0))) (.v 1))]) (elt := (.ix (.v 3) (.k (.int 1)))) (l := [some (PL n as zs), some (.int a), none, none]) (S := S) (h := prD) (ys := zs) (row_vals (zs.map prD)) (fun z => decide (z.1 = a)) (fun z => .int z.2)
    (fun q hq => ⟨[some (PL n as zs), some (.int a), none, some (prD q)], by simp, by simp; split <;> simp_all, fun _ => by simp⟩) hn
  have e0 : evE (callF tab d) 60 c_law_nil_e0 [some (PL n as zs), some (.int a), none, none] S = .ok (.lst (((zs.filter fun z => decide (z.1 = a)).map (·.2)).map .int)) S := by
    rw [List.map_map]
    simp only [c_law_nil_e0, e_lc, i_of, e_ix, e_v, e_k, List.getElem?_cons_zero, Option.elim_some, b_ok, ixT, at_2, of_el, src_t, Option.map_some, wipe_s, wipe_0, List.set_cons_succ, List.set_cons_zero, key, mkR_f]
    rfl
  generalize zs.filter (fun z => decide (z.1 = a)) = fs at e0
  simp [f_law_nil, c_law_nil]
  rw [e0]
  have hne := ne_nil (S := S) (fs.map (·.2))
  cases fs with
  | nil => simp [show cmpD S COp.ne (D.lst []) (D.lst []) = some false from hne]
  | cons z fs =>
    simp only [List.map_cons, List.map_map, comp_d] at hne
    simp [hne]

end Sp
end
section
set_option linter.all false
set_option linter.unusedSimpArgs false
/-! N2: valid plans, what is found in them -/
open Ev PySem L2
namespace Sp

-- N2: valid plans, what is found in them
def ar (as : List P2) (i : Int) : P2 := (as[i.toNat]?).getD (0, 0)
def inA (as : List P2) (i : Int) : Prop := 0 ≤ i ∧ i < cnt as
structure Vp (n : Int) (as zs : List P2) : Prop where
  len : as.length ≤ 60
  zlen : zs.length ≤ 1000
  size : 1 ≤ n ∧ n ≤ 100
  pts : ∀ i, inA as i → 0 ≤ (ar as i).1 ∧ (ar as i).1 < n ∧ 0 ≤ (ar as i).2 ∧ (ar as i).2 < n
  zin : ∀ a b, (a, b) ∈ zs → inA as a ∧ inA as b ∧ (ar as a).2 = (ar as b).1
  z1 : ∀ a b c, (a, b) ∈ zs → (a, c) ∈ zs → b = c
  z2 : ∀ a b c, (a, c) ∈ zs → (b, c) ∈ zs → a = b
  o1 : ∀ a b c, inA as a → inA as b → inA as c → (ar as b).1 = (ar as a).2 → (ar as c).1 = (ar as a).2 → (a, b) ∉ zs → (a, c) ∉ zs → b = c
  o2 : ∀ a b c, inA as a → inA as b → inA as c → (ar as b).2 = (ar as a).1 → (ar as c).2 = (ar as a).1 → (b, a) ∉ zs → (c, a) ∉ zs → b = c
  t1 : ∀ a b c, inA as a → inA as b → inA as c → (ar as b).1 = (ar as a).1 → (ar as c).1 = (ar as a).1 → b ≠ a → c ≠ a → b = c
  t2 : ∀ a b c, inA as a → inA as b → inA as c → (ar as b).2 = (ar as a).2 → (ar as c).2 = (ar as a).2 → b ≠ a → c ≠ a → b = c
  srt : zs.Pairwise fun x y => ltP x y = true
theorem at_ar {as : List P2} {i : Int} (h : inA as i) : atI as i = some (ar as i) := by
  have h1 : 0 ≤ i := h.1
  have h2 : i < (as.length : Int) := h.2
  have hi : i.toNat < as.length := by omega
  rw [at_nn h.1, ar, List.getElem?_eq_getElem hi]
  rfl
def inL (as : List P2) (a : Int) : Prop := -cnt as ≤ a ∧ a < cnt as
def ed (as : List P2) (a : Int) : P2 := if 0 ≤ a then ar as a else ((ar as (-1 - a)).2, (ar as (-1 - a)).1)
theorem ends_ed {as : List P2} {a : Int} (h : inL as a) : endsM as a = some (ed as a) := by
  unfold endsM ed
  obtain ⟨h1, h2⟩ := h
  by_cases h0 : 0 ≤ a
  · rw [if_pos h0, if_pos h0, at_ar ⟨h0, h2⟩]
  · rw [if_neg h0, if_neg h0, at_ar ⟨by omega, by omega⟩]
    rfl
def mayB (as zs : List P2) (a b : Int) : Bool := !decide ((ed as a).2 ≠ (ed as b).1 ∨ b = -1 - a) && (if 0 ≤ a ∧ 0 ≤ b then !hasP zs a b else if a < 0 ∧ b < 0 then !hasP zs (-1 - b) (-1 - a) else true)
theorem may_B {as zs : List P2} {a b : Int} (ha : inL as a) (hb : inL as b) : mayM as zs a b = some (mayB as zs a b) := by
  unfold mayM mayB
  rw [ends_ed ha, ends_ed hb]
  simp only [Option.bind_some]
  by_cases h : (ed as a).2 ≠ (ed as b).1 ∨ b = -1 - a
  · rw [if_pos h, decide_eq_true h]; rfl
  · rw [if_neg h, decide_eq_false h]
    simp only [Bool.not_false, Bool.true_and]
theorem mem_rgI {a b x : Int} : x ∈ rgI a b ↔ a ≤ x ∧ x < b := by
  unfold rgI
  rw [List.mem_map]
  constructor
  · rintro ⟨k, hk, rfl⟩
    have := List.mem_range.mp hk
    omega
  · rintro ⟨h1, h2⟩
    exact ⟨(x - a).toNat, List.mem_range.mpr (by omega), by omega⟩
theorem collect_filter {xs : List Int} {c : Int → Option Bool} {p : Int → Bool} (h : ∀ x ∈ xs, c x = some (p x)) : Ev.collect c some xs = some (xs.filter p) := by
  induction xs with
  | nil => rfl
  | cons x xs ih =>
    have h1 := h x List.mem_cons_self
    have h2 := ih fun y hy => h y (List.mem_cons_of_mem _ hy)
    simp only [Ev.collect, h1, h2, Option.elim_some, List.filter_cons]
    cases p x <;> rfl
theorem aft_B {as zs : List P2} {a : Int} (ha : inL as a) : aftM as zs a = some ((rgI (-cnt as) (cnt as)).filter (mayB as zs a)) :=
  collect_filter fun b hb => may_B ha (mem_rgI.mp hb)
theorem rgI_cons {a b : Int} (h : a < b) : rgI a b = a :: rgI (a + 1) b := by
  unfold rgI
  obtain ⟨k, hk⟩ : ∃ k, (b - a).toNat = k + 1 := ⟨(b - a).toNat - 1, by omega⟩
  rw [hk, show (b - (a + 1)).toNat = k by omega, List.range_succ_eq_map, List.map_cons, List.map_map]
  congr 1
  · simp
  · apply List.map_congr_left
    intro x hx
    simp only [Function.comp_def]
    omega
theorem rgI_nil {a b : Int} (h : b ≤ a) : rgI a b = [] := by
  unfold rgI
  rw [show (b - a).toNat = 0 by omega]
  rfl
theorem rgI_append {a b c : Int} (h1 : a ≤ b) (h2 : b ≤ c) : rgI a c = rgI a b ++ rgI b c := by
  obtain ⟨k, hk⟩ : ∃ k : Nat, b = a + k := ⟨(b - a).toNat, by omega⟩
  subst hk
  clear h1
  induction k generalizing a with
  | zero => rw [rgI_nil (a := a) (b := a + ((0 : Nat) : Int)) (by omega)]; simp
  | succ k ih =>
    rw [rgI_cons (a := a) (b := c) (by omega), rgI_cons (a := a) (b := a + ((k + 1 : Nat) : Int)) (by omega)]
    have := ih (a := a + 1) (by omega)
    rw [show a + ((k + 1 : Nat) : Int) = a + 1 + (k : Int) by omega, this]
    rfl
theorem enum_rg (as : List P2) : enumI 0 as = (rgI 0 (cnt as)).map fun k => (k, ar as k) := by
  have key : ∀ (xs pre : List P2), as = pre ++ xs → enumI (pre.length : Int) xs = (rgI (pre.length : Int) (cnt as)).map fun k => (k, ar as k) := fun xs => by
    induction xs with
    | nil =>
      intro pre h
      rw [rgI_nil (by rw [h]; simp)]
      rfl
    | cons x xs ih =>
      intro pre h
      have hc : cnt as = (as.length : Int) := rfl
      have hl : as.length = pre.length + (xs.length + 1) := by rw [h]; simp
      rw [rgI_cons (by omega), enumI, List.map_cons]
      have hx : ar as (pre.length : Int) = x := by
        unfold ar
        rw [h]
        simp
      rw [hx]
      have := ih (pre ++ [x]) (by rw [h]; simp)
      rw [show ((pre ++ [x]).length : Int) = (pre.length : Int) + 1 by simp] at this
      rw [this]
  exact key as [] rfl
theorem findE_rg (as : List P2) (P : Int → P2 → Bool) : findE P 0 as = (rgI 0 (cnt as)).find? fun b => P b (ar as b) := by
  have h : ∀ (xs : List P2) (i : Int), findE P i xs = ((enumI i xs).find? fun q => P q.1 q.2).map (·.1) := fun xs => by
    induction xs with
    | nil => intro i; rfl
    | cons x xs ih =>
      intro i
      simp only [findE, enumI, List.find?_cons, ih]
      cases P i x <;> rfl
  rw [h, enum_rg, List.find?_map, Option.map_map]
  simp only [Function.comp_def]
  cases (rgI 0 (cnt as)).find? fun b => P b (ar as b) <;> rfl
def nxB (as zs : List P2) (a b : Int) : Bool := decide ((ar as b).1 = (ar as a).2) && !hasP zs a b
def ahB (as zs : List P2) (a b : Int) : Bool := decide ((ar as b).2 = (ar as a).1) && !hasP zs b a
def nxO (as zs : List P2) (a : Int) : Option Int := (rgI 0 (cnt as)).find? (nxB as zs a)
def ahO (as zs : List P2) (a : Int) : Option Int := (rgI 0 (cnt as)).find? (ahB as zs a)
theorem next_O {as zs : List P2} (hl : as.length ≤ 60) {a : Int} (h : inA as a) : nextM as zs a = some (nxO as zs a) := by
  unfold nextM nxO
  rw [at_ar h, Option.bind_some, if_pos (by unfold turns; omega), findE_rg]
  rfl
theorem ahead_O {as zs : List P2} (hl : as.length ≤ 60) {a : Int} (h : inA as a) : aheadM as zs a = some (ahO as zs a) := by
  unfold aheadM ahO
  rw [at_ar h, Option.bind_some, if_pos (by unfold turns; omega), findE_rg]
  rfl
theorem inL_of {as : List P2} {a : Int} (h : inA as a) : inL as a := ⟨by have := h.1; have := h.2; omega, h.2⟩
theorem find_congr {α : Type} {p q : α → Bool} : ∀ {xs : List α}, (∀ x ∈ xs, p x = q x) → xs.find? p = xs.find? q
  | [], _ => rfl
  | x :: xs, h => by
    have h1 := h x List.mem_cons_self
    have h2 := find_congr fun y hy => h y (List.mem_cons_of_mem x hy)
    simp only [List.find?_cons, h1, h2]
theorem may_nx {as zs : List P2} {a b : Int} (ha : inA as a) (hb : inA as b) : mayB as zs a b = nxB as zs a b := by
  unfold mayB nxB ed
  have h0 := ha.1
  have h1 := hb.1
  rw [if_pos h0, if_pos h1, if_pos ⟨h0, h1⟩]
  by_cases h : (ar as a).2 = (ar as b).1
  · have : ¬ ((ar as a).2 ≠ (ar as b).1 ∨ b = -1 - a) := by omega
    rw [decide_eq_false this, decide_eq_true h.symm]; rfl
  · have : ((ar as a).2 ≠ (ar as b).1 ∨ b = -1 - a) := Or.inl h
    rw [decide_eq_true this, decide_eq_false (fun z => h z.symm)]; rfl
theorem lnx_O {as zs : List P2} {a : Int} (h : inA as a) : lnxM as zs a = some (nxO as zs a) := by
  have h0 := h.1
  have h1 := h.2
  unfold lnxM
  rw [aft_B (inL_of h), Option.map_some, rgI_append (b := 0) (by omega) (by omega), List.filter_append, List.filter_append]
  have e1 : ((rgI (-cnt as) 0).filter (mayB as zs a)).filter (fun b => decide (0 ≤ b)) = [] := by
    rw [List.filter_eq_nil_iff]
    intro x hx
    have := mem_rgI.mp (List.mem_filter.mp hx).1
    simp; omega
  have e2 : ((rgI 0 (cnt as)).filter (mayB as zs a)).filter (fun b => decide (0 ≤ b)) = (rgI 0 (cnt as)).filter (mayB as zs a) := by
    rw [List.filter_eq_self]
    intro x hx
    have := mem_rgI.mp (List.mem_filter.mp hx).1
    simp; omega
  rw [e1, e2, List.nil_append, List.head?_filter]
  congr 1
  exact find_congr fun b hb => may_nx h (mem_rgI.mp hb)
theorem has_mem {zs : List P2} {a b : Int} : hasP zs a b = true ↔ (a, b) ∈ zs := by
  unfold hasP
  rw [List.any_eq_true]
  constructor
  · rintro ⟨z, hz, h⟩
    simp only [Bool.and_eq_true, decide_eq_true_eq] at h
    have : z = (a, b) := Prod.ext h.1 h.2
    rw [← this]; exact hz
  · exact fun h => ⟨_, h, by simp⟩
theorem has_not {zs : List P2} {a b : Int} : hasP zs a b = false ↔ (a, b) ∉ zs := by
  rw [← has_mem]; cases hasP zs a b <;> simp
theorem rg_nodup (a b : Int) : (rgI a b).Nodup := by
  unfold rgI
  rw [List.Nodup, List.pairwise_map]
  exact List.nodup_range.imp fun h z => h (by omega)
/-- what a find of one that is alone tells -/
def fstD : List Int → Option (Option Int)
  | [] => some none
  | [x] => some (some x)
  | _ => none
theorem fst_find {p : Int → Bool} : ∀ {xs : List Int}, xs.Nodup → (∀ x ∈ xs, ∀ y ∈ xs, p x = true → p y = true → x = y) → fstD (xs.filter p) = some (xs.find? p)
  | [], _, _ => rfl
  | x :: xs, hn, h => by
    have hn' := List.nodup_cons.mp hn
    rw [List.filter_cons, List.find?_cons]
    cases hp : p x with
    | false =>
      simp only [Bool.false_eq_true, if_false]
      exact fst_find hn'.2 fun a ha b hb => h a (List.mem_cons_of_mem _ ha) b (List.mem_cons_of_mem _ hb)
    | true =>
      simp only [if_true]
      have : xs.filter p = [] := by
        rw [List.filter_eq_nil_iff]
        intro y hy hpy
        have := h x List.mem_cons_self y (List.mem_cons_of_mem _ hy) hp hpy
        exact hn'.1 (this ▸ hy)
      rw [this]; rfl
theorem nx_iff {n : Int} {as zs : List P2} (V : Vp n as zs) {a b : Int} (ha : inA as a) : nxO as zs a = some b ↔ inA as b ∧ (ar as b).1 = (ar as a).2 ∧ (a, b) ∉ zs := by
  unfold nxO
  constructor
  · intro h
    have h1 := List.find?_some h
    have h2 := mem_rgI.mp (List.mem_of_find?_eq_some h)
    unfold nxB at h1
    simp only [Bool.and_eq_true, decide_eq_true_eq, Bool.not_eq_true', has_not] at h1
    exact ⟨h2, h1.1, h1.2⟩
  · rintro ⟨hb, h1, h2⟩
    have hb' : nxB as zs a b = true := by
      unfold nxB
      simp only [Bool.and_eq_true, decide_eq_true_eq, Bool.not_eq_true', has_not]
      exact ⟨h1, h2⟩
    cases hf : (rgI 0 (cnt as)).find? (nxB as zs a) with
    | none => exact absurd hb' (by simpa using List.find?_eq_none.mp hf b (mem_rgI.mpr hb))
    | some c =>
      have h3 := List.find?_some hf
      have h4 := mem_rgI.mp (List.mem_of_find?_eq_some hf)
      unfold nxB at h3
      simp only [Bool.and_eq_true, decide_eq_true_eq, Bool.not_eq_true', has_not] at h3
      rw [V.o1 a c b ha h4 hb h3.1 h1 h3.2 h2]
theorem ah_iff {n : Int} {as zs : List P2} (V : Vp n as zs) {a b : Int} (ha : inA as a) : ahO as zs a = some b ↔ inA as b ∧ (ar as b).2 = (ar as a).1 ∧ (b, a) ∉ zs := by
  unfold ahO
  constructor
  · intro h
    have h1 := List.find?_some h
    have h2 := mem_rgI.mp (List.mem_of_find?_eq_some h)
    unfold ahB at h1
    simp only [Bool.and_eq_true, decide_eq_true_eq, Bool.not_eq_true', has_not] at h1
    exact ⟨h2, h1.1, h1.2⟩
  · rintro ⟨hb, h1, h2⟩
    have hb' : ahB as zs a b = true := by
      unfold ahB
      simp only [Bool.and_eq_true, decide_eq_true_eq, Bool.not_eq_true', has_not]
      exact ⟨h1, h2⟩
    cases hf : (rgI 0 (cnt as)).find? (ahB as zs a) with
    | none => exact absurd hb' (by simpa using List.find?_eq_none.mp hf b (mem_rgI.mpr hb))
    | some c =>
      have h3 := List.find?_some hf
      have h4 := mem_rgI.mp (List.mem_of_find?_eq_some hf)
      unfold ahB at h3
      simp only [Bool.and_eq_true, decide_eq_true_eq, Bool.not_eq_true', has_not] at h3
      rw [V.o2 a c b ha h4 hb h3.1 h1 h3.2 h2]
theorem nil_iff {n : Int} {as zs : List P2} (V : Vp n as zs) {a b : Int} : nilM zs a = some b ↔ (a, b) ∈ zs := by
  unfold nilM
  constructor
  · intro h
    simp only [Option.map_eq_some_iff] at h
    obtain ⟨z, hz, rfl⟩ := h
    have h1 := List.find?_some hz
    have h2 := List.mem_of_find?_eq_some hz
    simp only [decide_eq_true_eq] at h1
    rw [← h1]; exact h2
  · intro h
    cases hf : zs.find? fun z => decide (z.1 = a) with
    | none => exact absurd (List.find?_eq_none.mp hf _ h) (by simp)
    | some z =>
      have h1 := List.find?_some hf
      have h2 := List.mem_of_find?_eq_some hf
      simp only [decide_eq_true_eq] at h1
      simp only [Option.map_some, Option.some.injEq]
      exact V.z1 a z.2 b (by rw [← h1]; exact h2) h
theorem nilA_iff {n : Int} {as zs : List P2} (V : Vp n as zs) {a b : Int} : nilA zs a = some b ↔ (b, a) ∈ zs := by
  unfold nilA
  constructor
  · intro h
    simp only [Option.map_eq_some_iff] at h
    obtain ⟨z, hz, rfl⟩ := h
    have h1 := List.find?_some hz
    have h2 := List.mem_of_find?_eq_some hz
    simp only [decide_eq_true_eq] at h1
    rw [← h1]; exact h2
  · intro h
    cases hf : zs.find? fun z => decide (z.2 = a) with
    | none => exact absurd (List.find?_eq_none.mp hf _ h) (by simp)
    | some z =>
      have h1 := List.find?_some hf
      have h2 := List.mem_of_find?_eq_some hf
      simp only [decide_eq_true_eq] at h1
      simp only [Option.map_some, Option.some.injEq]
      exact V.z2 z.1 b a (by rw [← h1]; exact h2) h
/-- followers, letters from a point -/
theorem from_rg {n : Int} {as zs : List P2} (V : Vp n as zs) (pt : Int) : fromM as pt = (rgI (-cnt as) (cnt as)).filter fun b => decide ((ed as b).1 = pt) := by
  have hc : cnt as = (as.length : Int) := rfl
  rw [rgI_append (b := 0) (by omega) (by omega), List.filter_append]
  unfold fromM
  rw [enum_rg]
  congr 1
  · have key : ∀ k : Nat, ((((rgI 0 (k : Int)).map fun i => (i, ar as i)).filter fun q => decide (q.2.2 = pt)).map fun q => -1 - q.1).reverse = (rgI (-(k : Int)) 0).filter fun b => decide ((ed as b).1 = pt) := fun k => by
      induction k with
      | zero => rfl
      | succ k ih =>
        rw [rgI_append (a := 0) (b := (k : Int)) (c := ((k + 1 : Nat) : Int)) (by omega) (by omega), rgI_cons (a := (k : Int)) (by omega), rgI_nil (a := (k : Int) + 1) (by omega)]
        rw [rgI_cons (a := -((k + 1 : Nat) : Int)) (by omega), show -((k + 1 : Nat) : Int) + 1 = -(k : Int) by omega]
        rw [List.map_append, List.filter_append, List.map_append, List.reverse_append, ih]
        have e : (ed as (-((k + 1 : Nat) : Int))).1 = (ar as k).2 := by
          unfold ed
          rw [if_neg (by omega), show -1 - -((k + 1 : Nat) : Int) = (k : Int) by omega]
        rw [List.filter_cons (x := -((k + 1 : Nat) : Int)), e]
        simp only [List.map_cons, List.map_nil, List.filter_cons, List.filter_nil]
        by_cases h : (ar as k).2 = pt
        · simp [h]; omega
        · simp [h]
    have := key as.length
    rw [hc]; exact this
  · rw [List.filter_map, List.map_map]
    have e : ((fun q : Int × P2 => q.1) ∘ fun k => (k, ar as k)) = id := rfl
    rw [e, List.map_id]
    apply List.filter_congr
    intro x hx
    have := mem_rgI.mp hx
    simp only [Function.comp_def, ed, if_pos this.1]
theorem fol_rg {n : Int} {as zs : List P2} (V : Vp n as zs) {a : Int} (ha : inL as a) : folM as zs a = some ((rgI (-cnt as) (cnt as)).filter (mayB as zs a)) := by
  unfold folM
  rw [ends_ed ha, Option.bind_some, from_rg V, collect_filter (p := mayB as zs a) fun b hb => may_B ha (mem_rgI.mp (List.mem_filter.mp hb).1), List.filter_filter]
  congr 1
  apply List.filter_congr
  intro x hx
  cases h : mayB as zs a x with
  | false => rfl
  | true =>
    unfold mayB at h
    simp only [Bool.and_eq_true, Bool.not_eq_true', decide_eq_false_iff_not, not_or, Decidable.not_not] at h
    simp [h.1.1]

end Sp
end
section
set_option linter.all false
set_option linter.unusedSimpArgs false
/-! N3: first, begins, turned plans of the law; whether an arrow and a letter are told -/
open Ev PySem L2
namespace Sp
def c_law_first  : List CS := [
 .ret (some (.ife (.cmp .eq (.v 0) (.lst false [])) (.k .non) (.ife (.cmp .eq (.bi false .len [(.v 0)]) (.k (.int 1))) (.ix (.v 0) (.k (.int 0))) (.k (.str "more")))))]
def f_law_first  : Fd := ⟨1, 1, c_law_first ⟩
def c_law_begins_e0 (i_law_ends : Nat) : CE := (.lc false [3] (.nm 3) (.rng [(.neg (.v 2)), (.v 2)]) [(.cmp .eq (.ix (.call i_law_ends [(.v 0), (.v 3)]) (.k (.int 0))) (.v 1))] (.v 3))
def c_law_begins (i_law_ends : Nat) : List CS := [
 .asg (.nm 2) (.bi false .len [(.ix (.v 0) (.k (.int 1)))]),
 .ret (some (c_law_begins_e0 i_law_ends))]
def f_law_begins (i_law_ends : Nat) : Fd := ⟨2, 4, c_law_begins i_law_ends⟩
def c_law_arrow_told_e0 (i_law_first i_law_like i_law_next i_law_nil i_mate_of i_next_of i_nil_of i_ahead_of i_nil_ahead_of : Nat) : CE := (.lc false [9] (.nm 9) (.of (.v 2)) [(.cmp .eq (.call i_law_next [(.v 0), (.v 9)]) (.v 1))] (.v 9))
def c_law_arrow_told_e1 (i_law_first i_law_like i_law_next i_law_nil i_mate_of i_next_of i_nil_of i_ahead_of i_nil_ahead_of : Nat) : CE := (.lc false [9] (.nm 9) (.of (.v 2)) [(.cmp .eq (.call i_law_nil [(.v 0), (.v 9)]) (.v 1))] (.v 9))
def c_law_arrow_told_e2 (i_law_first i_law_like i_law_next i_law_nil i_mate_of i_next_of i_nil_of i_ahead_of i_nil_ahead_of : Nat) : CE := (.lc false [9] (.nm 9) (.of (.v 2)) [(.and (.cmp .ne (.v 9) (.v 1)) (.cmp .eq (.ix (.ix (.ix (.v 0) (.k (.int 1))) (.v 9)) (.k (.int 0))) (.ix (.ix (.ix (.v 0) (.k (.int 1))) (.v 1)) (.k (.int 0)))))] (.v 9))
def c_law_arrow_told_e3 (i_law_first i_law_like i_law_next i_law_nil i_mate_of i_next_of i_nil_of i_ahead_of i_nil_ahead_of : Nat) : CE := (.lc false [9] (.nm 9) (.of (.v 2)) [(.and (.cmp .ne (.v 9) (.v 1)) (.cmp .eq (.ix (.ix (.ix (.v 0) (.k (.int 1))) (.v 9)) (.k (.int 1))) (.ix (.ix (.ix (.v 0) (.k (.int 1))) (.v 1)) (.k (.int 1)))))] (.v 9))
def c_law_arrow_told (i_law_first i_law_like i_law_next i_law_nil i_mate_of i_next_of i_nil_of i_ahead_of i_nil_ahead_of : Nat) : List CS := [
 .asg (.nm 2) (.tr false false [(.bi false .len [(.ix (.v 0) (.k (.int 1)))])]),
 .asg (.nm 3) (.tup [(.call i_law_next [(.v 0), (.v 1)]), (.call i_law_nil [(.v 0), (.v 1)])]),
 .iff (.not (.call i_law_like [(.tup [(.call i_next_of [(.v 0), (.v 1)]), (.call i_nil_of [(.v 0), (.v 1)])]), (.v 3)])) [
  .ret (some (.k (.bl false)))] [],
 .asg (.nm 4) (.call i_law_first [(c_law_arrow_told_e0 i_law_first i_law_like i_law_next i_law_nil i_mate_of i_next_of i_nil_of i_ahead_of i_nil_ahead_of)]),
 .asg (.nm 5) (.call i_law_first [(c_law_arrow_told_e1 i_law_first i_law_like i_law_next i_law_nil i_mate_of i_next_of i_nil_of i_ahead_of i_nil_ahead_of)]),
 .iff (.not (.call i_law_like [(.tup [(.call i_ahead_of [(.v 0), (.v 1)]), (.call i_nil_ahead_of [(.v 0), (.v 1)])]), (.tup [(.v 4), (.v 5)])])) [
  .ret (some (.k (.bl false)))] [],
 .asg (.nm 6) (.call i_law_first [(c_law_arrow_told_e2 i_law_first i_law_like i_law_next i_law_nil i_mate_of i_next_of i_nil_of i_ahead_of i_nil_ahead_of)]),
 .asg (.nm 7) (.call i_law_first [(c_law_arrow_told_e3 i_law_first i_law_like i_law_next i_law_nil i_mate_of i_next_of i_nil_of i_ahead_of i_nil_ahead_of)]),
 .asg (.nm 8) (.ife (.cmp .is_ (.v 7) (.k .non)) (.k .non) (.bin .sub (.neg (.k (.int 1))) (.v 7))),
 .ret (some (.call i_law_like [(.tup [(.call i_mate_of [(.v 0), (.v 1)]), (.call i_mate_of [(.v 0), (.bin .sub (.neg (.k (.int 1))) (.v 1))])]), (.tup [(.v 6), (.v 8)])]))]
def f_law_arrow_told (i_law_first i_law_like i_law_next i_law_nil i_mate_of i_next_of i_nil_of i_ahead_of i_nil_ahead_of : Nat) : Fd := ⟨2, 10, c_law_arrow_told i_law_first i_law_like i_law_next i_law_nil i_mate_of i_next_of i_nil_of i_ahead_of i_nil_ahead_of⟩
-- N3: first, begins, turned plans of the law; whether an arrow and a letter are told
theorem first_run {tab : List Fd} {f d : Nat} (h : tab[f]? = some f_law_first) (ls : List Int) (o : Option Int) (e : fstD ls = some o) (S : Sto) : callF tab (d + 1) f [.lst (ls.map .int)] S = .ok (oI o) S := by
  rw [call_def h]
  have := eq_nil (S := S) ls
  simp [f_law_first, c_law_first, this]
  cases ls with
  | nil => cases e; simp
  | cons x xs =>
    cases xs with
    | nil => cases e; simp
    | cons y ys => cases e
theorem c_eq_oI {S : Sto} (o : Option Int) (a : Int) : cmpD S .eq (oI o) (.int a) = some (decide (o = some a)) := by
  cases o with
  | none => rfl
  | some x => simp
theorem in_ints {S : Sto} (a : Int) (ls : List Int) : cmpD S .isin (.int a) (.lst (ls.map .int)) = some (decide (a ∈ ls)) := by
  have h1 : SeqAt.shaped (.list (ls.map .int)) = true := by
    have := depths_int ls
    unfold SeqAt.shaped
    rw [show PyData.canLay0 (.list (ls.map .int)) = true from by simp only [PyData.canLay0, lays_int], show PyData.depth (.list (ls.map .int)) = PyData.depthAll (ls.map .int) + 1 from by rw [PyData.depth], decide_eq_true (show PyData.depthAll (ls.map .int) + 1 ≤ 64 by omega)]
    rfl
  have h2 : SeqAt.shaped (.int a) = true := rfl
  simp only [cmpD, inD, D.deep, D.py, deeps_int, pys_int, h1, h2, Bool.and_self, if_true, List.any_map]
  congr 1
  induction ls with
  | nil => rfl
  | cons x xs ih =>
    rw [List.any_cons, ih (by
      have := depths_int xs
      unfold SeqAt.shaped
      rw [show PyData.canLay0 (.list (xs.map .int)) = true from by simp only [PyData.canLay0, lays_int], show PyData.depth (.list (xs.map .int)) = PyData.depthAll (xs.map .int) + 1 from by rw [PyData.depth], decide_eq_true (show PyData.depthAll (xs.map .int) + 1 ≤ 64 by omega)]
      rfl)]
    simp only [Function.comp_def, PyData.eqv, List.mem_cons]
    by_cases h : a = x
    · simp [h]
    · have h' : ¬ x = a := fun z => h z.symm
      simp [h, h']
def OkLB (tab : List Fd) (f : Nat) : Prop := ∃ e, tab[e]? = some f_law_ends ∧ tab[f]? = some (f_law_begins e)
theorem begins_run {tab : List Fd} {f d : Nat} (h : OkLB tab f) {n : Int} {as zs : List P2} (V : Vp n as zs) (pt : Int) (S : Sto) :
    callF tab (d + 2) f [PL n as zs, .int pt] S = .ok (.lst (((rgI (-cnt as) (cnt as)).filter fun b => decide ((ed as b).1 = pt)).map .int)) S := by
  obtain ⟨m, hm, h⟩ := h
  have hc : cnt as = (as.length : Int) := rfl
  have hl := V.len
  rw [call_def h]
  have key := evC_tot (ev := evE (callF tab (d + 1)) 59) (tg := .nm 3) (ifs := [(.cmp .eq (.ix (.call m [(.v 0), (.v 3)]) (.k (.int 0))) (.v 1))]) (elt := .v 3) (l := [some (PL n as zs), some (.int pt), some (.int (cnt as)), none]) (S := S) (h := D.int) (ys := rgI (-cnt as) (cnt as)) (row_rgI _ _) (fun b => decide ((ed as b).1 = pt)) (fun b => .int b)
    (fun q hq => ⟨[some (PL n as zs), some (.int pt), some (.int (cnt as)), some (.int q)], by simp, by
      simp [lend_run hm, lend_eq, ends_ed (mem_rgI.mp hq)]
      split <;> simp_all, fun _ => by simp⟩) (by rw [rgI_len]; unfold turns; omega)
  have hr := rngD_2 (a := -cnt as) (b := cnt as) (by omega)
  have e0 : evE (callF tab (d + 1)) 60 (c_law_begins_e0 m) [some (PL n as zs), some (.int pt), some (.int (cnt as)), none] S = .ok (.lst (((rgI (-cnt as) (cnt as)).filter fun b => decide ((ed as b).1 = pt)).map .int)) S := by
    simp only [c_law_begins_e0, e_lc, i_rng, l_cons, l_nil, e_neg, e_v, List.getElem?_cons_zero, List.getElem?_cons_succ, Option.elim_some, b_ok, negD_i, of_el, hr, wipe_s, wipe_0, List.set_cons_succ, List.set_cons_zero, key, mkR_f]
  simp [f_law_begins, c_law_begins, e0]
/-! what may be shown -/
theorem nicePs_int {ls : List Int} (h : ∀ x ∈ ls, -1000000 ≤ x ∧ x ≤ 1000000) : nicePs (ls.map .int) = true := by
  induction ls with
  | nil => rfl
  | cons x xs ih =>
    simp only [List.map_cons, nicePs, niceP, ih fun y hy => h y (List.mem_cons_of_mem _ hy), decide_eq_true (h x List.mem_cons_self), Bool.and_self]
theorem bulk_int (ls : List Int) : PyData.bulkAll (ls.map .int) = ls.length := by
  induction ls with
  | nil => rfl
  | cons x xs ih => simp only [List.map_cons, PyData.bulkAll, PyData.bulk, ih, List.length_cons]; omega
theorem okRep_ints {ls : List Int} (h : ∀ x ∈ ls, -1000000 ≤ x ∧ x ≤ 1000000) (hl : ls.length ≤ 1000) : okRep (.tup (ls.map .int)) = true := by
  have := depths_int ls
  unfold okRep
  rw [show D.py (.tup (ls.map .int)) = some (.tuple (ls.map .int)) from by simp only [D.py, pys_int]]
  have e1 : PyData.depth (.tuple (ls.map .int)) = PyData.depthAll (ls.map .int) + 1 := by rw [PyData.depth]
  have e2 : PyData.bulk (.tuple (ls.map .int)) = ls.length := by rw [PyData.bulk, bulk_int]
  simp only [niceP, nicePs_int h, e1, e2, Bool.true_and, Bool.and_eq_true, decide_eq_true_eq]
  omega
theorem okRep_bl (b : Bool) : okRep (.bl b) = true := by cases b <;> rfl
theorem okRep_int {x : Int} (h : -1000000 ≤ x ∧ x ≤ 1000000) : okRep (.int x) = true := by
  unfold okRep
  simp [D.py, niceP, h, PyData.bulk, PyData.depth]
def smO (o : Option Int) : Prop := ∀ x, o = some x → -1000000 ≤ x ∧ x ≤ 1000000
theorem okRep_o {o : Option Int} (h : smO o) : okRep (oI o) = true := by
  cases o with
  | none => rfl
  | some x => exact okRep_int (h x rfl)
theorem okRep_oo {o p : Option Int} (h : smO o) (h' : smO p) : okRep (.tup [oI o, oI p]) = true := by
  unfold okRep
  cases o with
  | none =>
    cases p with
    | none => rfl
    | some y => have := h' y rfl; simp [D.py, D.pys, niceP, nicePs, this, PyData.bulk, PyData.bulkAll, PyData.depth, PyData.depthAll]
  | some x =>
    have hx := h x rfl
    cases p with
    | none => simp [D.py, D.pys, niceP, nicePs, hx, PyData.bulk, PyData.bulkAll, PyData.depth, PyData.depthAll]
    | some y => have := h' y rfl; simp [D.py, D.pys, niceP, nicePs, hx, this, PyData.bulk, PyData.bulkAll, PyData.depth, PyData.depthAll]
theorem okRep_pr {p : P2} (h : -1000000 ≤ p.1 ∧ p.1 ≤ 1000000 ∧ -1000000 ≤ p.2 ∧ p.2 ≤ 1000000) : okRep (prD p) = true := okRep_oo (o := some p.1) (p := some p.2) (fun x e => by cases e; omega) (fun x e => by cases e; omega)
theorem isRp_o (o : Option Int) : isRp (oI o) = true := by cases o <;> rfl
theorem tr_ok {F : Nat → List D → Sto → R3 D} {n : Nat} {l : Ev.Loc} {S S1 : Sto} {es : List CE} {ds : List D} {a b : Int} (h1 : evL (evE F n) es l S = .ok ds S1) (h2 : rgB ds = some (a, b)) (h3 : rgOk a b = true) : evE F (n+1) (.tr false false es) l S = .ok (.lst (rgD a b)) S1 := by
  rw [e_tr, h1, b_ok, h2, Option.elim_some]
  simp only [h3, if_true, Bool.false_eq_true, if_false, mkR_f]
/-! an arrow -/
def OkAr (tab : List Fd) (f : Nat) : Prop := ∃ fi li ln nl ma nx ni ah na, tab[fi]? = some f_law_first ∧ tab[li]? = some f_law_like ∧ OkLN tab ln ∧ tab[nl]? = some f_law_nil ∧ tab[ma]? = some f_mate_of ∧ tab[nx]? = some f_next_of ∧ tab[ni]? = some f_nil_of ∧ tab[ah]? = some f_ahead_of ∧ tab[na]? = some f_nil_ahead_of ∧ tab[f]? = some (f_law_arrow_told fi li ln nl ma nx ni ah na)
theorem lnil_eq {zs : List P2} {a : Int} : (zs.filter fun z => decide (z.1 = a)).head?.map (·.2) = nilM zs a := by
  unfold nilM
  rw [List.head?_filter]
theorem rg_sm {c : Int} {p : Int → Bool} (hc : c ≤ 1000) : smO ((rgI 0 c).find? p) := fun x e => by
  have := mem_rgI.mp (List.mem_of_find?_eq_some e)
  omega
theorem ahead_first {n : Int} {as zs : List P2} (V : Vp n as zs) {a : Int} (ha : inA as a) : fstD ((rgI 0 (cnt as)).filter fun one => decide (nxO as zs one = some a)) = some (ahO as zs a) := by
  have key : ∀ x ∈ rgI 0 (cnt as), decide (nxO as zs x = some a) = ahB as zs a x := fun x hx => by
    have hx' : inA as x := mem_rgI.mp hx
    unfold ahB
    by_cases h : nxO as zs x = some a
    · have := (nx_iff V hx').mp h
      rw [decide_eq_true h, decide_eq_true this.2.1.symm, has_not.mpr this.2.2]; rfl
    · rw [decide_eq_false h]
      by_cases h1 : (ar as x).2 = (ar as a).1
      · by_cases h2 : (x, a) ∈ zs
        · rw [has_mem.mpr h2, Bool.not_true, Bool.and_false]
        · exact absurd ((nx_iff V hx').mpr ⟨ha, h1.symm, h2⟩) h
      · rw [decide_eq_false h1]; rfl
  rw [fst_find (rg_nodup _ _), find_congr key]
  · rfl
  · intro x hx y hy h1 h2
    have h1' := (nx_iff V (mem_rgI.mp hx)).mp (of_decide_eq_true h1)
    have h2' := (nx_iff V (mem_rgI.mp hy)).mp (of_decide_eq_true h2)
    exact V.o2 a x y ha (mem_rgI.mp hx) (mem_rgI.mp hy) h1'.2.1.symm h2'.2.1.symm h1'.2.2 h2'.2.2
theorem nilA_first {n : Int} {as zs : List P2} (V : Vp n as zs) (a : Int) : fstD ((rgI 0 (cnt as)).filter fun one => decide (nilM zs one = some a)) = some (nilA zs a) := by
  rw [fst_find (rg_nodup _ _)]
  · congr 1
    cases h : nilA zs a with
    | none =>
      rw [List.find?_eq_none]
      intro x hx z
      have h1 := (nil_iff V).mp (of_decide_eq_true z)
      have h2 := (nilA_iff V).mpr h1
      rw [h] at h2; cases h2
    | some b =>
      have h1 := (nilA_iff V).mp h
      have hb : b ∈ rgI 0 (cnt as) := mem_rgI.mpr (V.zin _ _ h1).1
      cases hf : (rgI 0 (cnt as)).find? fun one => decide (nilM zs one = some a) with
      | none => exact absurd (decide_eq_true ((nil_iff V).mpr h1)) (List.find?_eq_none.mp hf b hb)
      | some c =>
        have h3 := List.find?_some hf
        simp only [decide_eq_true_eq] at h3
        have h2 := (nil_iff V).mp h3
        rw [V.z2 c b a h2 h1]
  · intro x hx y hy h1 h2
    exact V.z2 x y a ((nil_iff V).mp (of_decide_eq_true h1)) ((nil_iff V).mp (of_decide_eq_true h2))
def m1B (as : List P2) (a b : Int) : Bool := !decide (b = a) && decide ((ar as b).1 = (ar as a).1)
def m2B (as : List P2) (a b : Int) : Bool := !decide (b = a) && decide ((ar as b).2 = (ar as a).2)
theorem mate_1 {as : List P2} {a : Int} (ha : inA as a) : mateF as a (ar as a) = (rgI 0 (cnt as)).find? (m1B as a) := by
  unfold mateF
  rw [findE_rg]
  have h0 := ha.1
  rw [show (fun i : Int => if 0 ≤ a then i else -1 - i) = id from by funext i; rw [if_pos h0]; rfl, Option.map_id]
  apply find_congr
  intro x _
  unfold m1B arw sdO
  rw [if_pos h0, if_pos h0, if_pos h0]
theorem mate_2 {as : List P2} {a : Int} (ha : inA as a) : mateF as (-1 - a) (ar as a) = ((rgI 0 (cnt as)).find? (m2B as a)).map fun i => -1 - i := by
  unfold mateF
  rw [findE_rg]
  have h0 := ha.1
  have h1 : ¬ 0 ≤ -1 - a := by omega
  rw [show (fun i : Int => if 0 ≤ -1 - a then i else -1 - i) = fun i => -1 - i from by funext i; rw [if_neg h1]]
  congr 1
  apply find_congr
  intro x _
  unfold m2B arw sdO
  rw [if_neg h1, if_neg h1, if_neg h1, show -1 - (-1 - a) = a by omega]
theorem arrow_run {tab : List Fd} {f d : Nat} (h : OkAr tab f) {n : Int} {as zs : List P2} (V : Vp n as zs) {a : Int} (ha : inA as a) (S : Sto) : callF tab (d + 5) f [PL n as zs, .int a] S = .ok (.bl true) S := by
  obtain ⟨fi, li, ln, nl, ma, nx, ni, ah, na, h1, h2, h3, h4, h5, h6, h7, h8, h9, h⟩ := h
  have hc : cnt as = (as.length : Int) := rfl
  have hl := V.len
  have hzl : zs.length < turns := by have := V.zlen; unfold turns; omega
  have hal : as.length < turns := by unfold turns; omega
  have ha1 : 0 ≤ a := ha.1
  have ha2 : a < as.length := ha.2
  rw [call_body h rfl (l := [some (PL n as zs), some (.int a), none, none, none, none, none, none, none, none]) rfl]
  show (exSs (exS (evE (callF tab (d + 4)) 60) 60) (c_law_arrow_told fi li ln nl ma nx ni ah na) _ S).fin = _
  unfold c_law_arrow_told
  have rr : rgD 0 (cnt as) = (rgI 0 (cnt as)).map .int := rgD_int 0 _
  have rok : rgOk 0 (cnt as) = true := rgOk_ok (by omega)
  have rln : ∀ b, inA as b → ∀ S, callF tab (d + 4) ln [PL n as zs, .int b] S = .ok (oI (nxO as zs b)) S := fun b hb S => lnx_run h3 n as zs (by omega) b _ (lnx_O hb) S
  have rnl : ∀ b S, callF tab (d + 4) nl [PL n as zs, .int b] S = .ok (oI (nilM zs b)) S := fun b S => by rw [lnil_run h4 n as zs hzl, lnil_eq]
  have rnx : ∀ S, callF tab (d + 4) nx [PL n as zs, .int a] S = .ok (oI (nxO as zs a)) S := fun S => by rw [next_run h6 n as zs hal, next_O hl ha]; rfl
  have rah : ∀ S, callF tab (d + 4) ah [PL n as zs, .int a] S = .ok (oI (ahO as zs a)) S := fun S => by rw [ahead_run h8 n as zs hal, ahead_O hl ha]; rfl
  have sn : smO (nxO as zs a) := rg_sm (by omega)
  have sa : smO (ahO as zs a) := rg_sm (by omega)
  have si : smO (nilM zs a) := fun x e => by
    have := (V.zin _ _ ((nil_iff V).mp e)).2.1
    obtain ⟨q1, q2⟩ := this
    omega
  have sia : smO (nilA zs a) := fun x e => by
    have := (V.zin _ _ ((nilA_iff V).mp e)).1
    obtain ⟨q1, q2⟩ := this
    omega
  have e1 : exS (evE (callF tab (d + 4)) 60) 60 (.asg (.nm 2) (.tr false false [(.bi false .len [(.ix (.v 0) (.k (.int 1)))])])) [some (PL n as zs), some (.int a), none, none, none, none, none, none, none, none] S
      = .nx [some (PL n as zs), some (.int a), some (.lst ((rgI 0 (cnt as)).map .int)), none, none, none, none, none, none, none] S := by
    have q0 : evL (evE (callF tab (d + 4)) 59) [.bi false .len [(.ix (.v 0) (.k (.int 1)))]] [some (PL n as zs), some (.int a), none, none, none, none, none, none, none, none] S = .ok [.int (cnt as)] S := by simp
    rw [s_asg, tr_ok q0 rfl rok, rr]
    rfl
  have e2 : exS (evE (callF tab (d + 4)) 60) 60 (.asg (.nm 3) (.tup [(.call ln [(.v 0), (.v 1)]), (.call nl [(.v 0), (.v 1)])])) [some (PL n as zs), some (.int a), some (.lst ((rgI 0 (cnt as)).map .int)), none, none, none, none, none, none, none] S
      = .nx [some (PL n as zs), some (.int a), some (.lst ((rgI 0 (cnt as)).map .int)), some (.tup [oI (nxO as zs a), oI (nilM zs a)]), none, none, none, none, none, none] S := by
    simp [rln a ha, rnl]
  have l1 := like_run' (d := d + 3) h2 (S := S) (a := .tup [oI (nxO as zs a), oI (nilM zs a)]) rfl rfl (okRep_oo sn si)
  have e3 : exS (evE (callF tab (d + 4)) 60) 60 (.iff (.not (.call li [(.tup [(.call nx [(.v 0), (.v 1)]), (.call ni [(.v 0), (.v 1)])]), (.v 3)])) [.ret (some (.k (.bl false)))] []) [some (PL n as zs), some (.int a), some (.lst ((rgI 0 (cnt as)).map .int)), some (.tup [oI (nxO as zs a), oI (nilM zs a)]), none, none, none, none, none, none] S
      = .nx [some (PL n as zs), some (.int a), some (.lst ((rgI 0 (cnt as)).map .int)), some (.tup [oI (nxO as zs a), oI (nilM zs a)]), none, none, none, none, none, none] S := by
    simp [rnx, nil_run h7 n as zs hzl, l1]
  have comp : ∀ (cond : CE) (p : Int → Bool) (x3 x4 x5 x6 x7 x8 : Option D), (∀ q ∈ rgI 0 (cnt as), evE (callF tab (d + 4)) 58 cond [some (PL n as zs), some (.int a), some (.lst ((rgI 0 (cnt as)).map .int)), x3, x4, x5, x6, x7, x8, some (.int q)] S = .ok (.bl (p q)) S) →
      evE (callF tab (d + 4)) 59 (.lc false [9] (.nm 9) (.of (.v 2)) [cond] (.v 9)) [some (PL n as zs), some (.int a), some (.lst ((rgI 0 (cnt as)).map .int)), x3, x4, x5, x6, x7, x8, none] S = .ok (.lst (((rgI 0 (cnt as)).filter p).map .int)) S := fun cond p x3 x4 x5 x6 x7 x8 hq => by
    have key := evC_tot (ev := evE (callF tab (d + 4)) 58) (tg := .nm 9) (ifs := [cond]) (elt := .v 9) (l := [some (PL n as zs), some (.int a), some (.lst ((rgI 0 (cnt as)).map .int)), x3, x4, x5, x6, x7, x8, none]) (S := S) (h := D.int) (ys := rgI 0 (cnt as)) (row_vals _) p (fun b => .int b)
      (fun q hm => ⟨[some (PL n as zs), some (.int a), some (.lst ((rgI 0 (cnt as)).map .int)), x3, x4, x5, x6, x7, x8, some (.int q)], by simp, by
        simp only [ifs_s, hq q hm, b_ok, tr_bl, tmR_b, ifs_0]
        cases p q <;> rfl, fun _ => by simp⟩) (by rw [rgI_len]; unfold turns; omega)
    simp [e_lc, key]
  have e4 : exS (evE (callF tab (d + 4)) 60) 60 (.asg (.nm 4) (.call fi [c_law_arrow_told_e0 fi li ln nl ma nx ni ah na])) [some (PL n as zs), some (.int a), some (.lst ((rgI 0 (cnt as)).map .int)), some (.tup [oI (nxO as zs a), oI (nilM zs a)]), none, none, none, none, none, none] S
      = .nx [some (PL n as zs), some (.int a), some (.lst ((rgI 0 (cnt as)).map .int)), some (.tup [oI (nxO as zs a), oI (nilM zs a)]), some (oI (ahO as zs a)), none, none, none, none, none] S := by
    have c := comp (.cmp .eq (.call ln [(.v 0), (.v 9)]) (.v 1)) (fun one => decide (nxO as zs one = some a)) (some (.tup [oI (nxO as zs a), oI (nilM zs a)])) none none none none none (fun q hq => by simp [rln q (mem_rgI.mp hq), c_eq_oI])
    have r := first_run (d := d + 3) h1 _ _ (ahead_first V ha) S
    simp [c_law_arrow_told_e0, c, r]
  have e5 : exS (evE (callF tab (d + 4)) 60) 60 (.asg (.nm 5) (.call fi [c_law_arrow_told_e1 fi li ln nl ma nx ni ah na])) [some (PL n as zs), some (.int a), some (.lst ((rgI 0 (cnt as)).map .int)), some (.tup [oI (nxO as zs a), oI (nilM zs a)]), some (oI (ahO as zs a)), none, none, none, none, none] S
      = .nx [some (PL n as zs), some (.int a), some (.lst ((rgI 0 (cnt as)).map .int)), some (.tup [oI (nxO as zs a), oI (nilM zs a)]), some (oI (ahO as zs a)), some (oI (nilA zs a)), none, none, none, none] S := by
    have c := comp (.cmp .eq (.call nl [(.v 0), (.v 9)]) (.v 1)) (fun one => decide (nilM zs one = some a)) (some (.tup [oI (nxO as zs a), oI (nilM zs a)])) (some (oI (ahO as zs a))) none none none none (fun q hq => by simp [rnl, c_eq_oI])
    have r := first_run (d := d + 3) h1 _ _ (nilA_first V a) S
    simp [c_law_arrow_told_e1, c, r]
  have l2 := like_run' (d := d + 3) h2 (S := S) (a := .tup [oI (ahO as zs a), oI (nilA zs a)]) rfl rfl (okRep_oo sa sia)
  have e6 : exS (evE (callF tab (d + 4)) 60) 60 (.iff (.not (.call li [(.tup [(.call ah [(.v 0), (.v 1)]), (.call na [(.v 0), (.v 1)])]), (.tup [(.v 4), (.v 5)])])) [.ret (some (.k (.bl false)))] []) [some (PL n as zs), some (.int a), some (.lst ((rgI 0 (cnt as)).map .int)), some (.tup [oI (nxO as zs a), oI (nilM zs a)]), some (oI (ahO as zs a)), some (oI (nilA zs a)), none, none, none, none] S
      = .nx [some (PL n as zs), some (.int a), some (.lst ((rgI 0 (cnt as)).map .int)), some (.tup [oI (nxO as zs a), oI (nilM zs a)]), some (oI (ahO as zs a)), some (oI (nilA zs a)), none, none, none, none] S := by
    simp [rah, nilA_run h9 n as zs hzl, l2]
  have aa := at_ar ha
  have u1 : fstD ((rgI 0 (cnt as)).filter (m1B as a)) = some ((rgI 0 (cnt as)).find? (m1B as a)) := fst_find (rg_nodup _ _) fun x hx y hy p q => by
    simp only [m1B, Bool.and_eq_true, Bool.not_eq_true', decide_eq_false_iff_not, decide_eq_true_eq] at p q
    exact V.t1 a x y ha (mem_rgI.mp hx) (mem_rgI.mp hy) p.2 q.2 p.1 q.1
  have u2 : fstD ((rgI 0 (cnt as)).filter (m2B as a)) = some ((rgI 0 (cnt as)).find? (m2B as a)) := fst_find (rg_nodup _ _) fun x hx y hy p q => by
    simp only [m2B, Bool.and_eq_true, Bool.not_eq_true', decide_eq_false_iff_not, decide_eq_true_eq] at p q
    exact V.t2 a x y ha (mem_rgI.mp hx) (mem_rgI.mp hy) p.2 q.2 p.1 q.1
  have e7 : ∀ x4 x5, exS (evE (callF tab (d + 4)) 60) 60 (.asg (.nm 6) (.call fi [c_law_arrow_told_e2 fi li ln nl ma nx ni ah na])) [some (PL n as zs), some (.int a), some (.lst ((rgI 0 (cnt as)).map .int)), some (.tup [oI (nxO as zs a), oI (nilM zs a)]), x4, x5, none, none, none, none] S
      = .nx [some (PL n as zs), some (.int a), some (.lst ((rgI 0 (cnt as)).map .int)), some (.tup [oI (nxO as zs a), oI (nilM zs a)]), x4, x5, some (oI ((rgI 0 (cnt as)).find? (m1B as a))), none, none, none] S := fun x4 x5 => by
    have c := comp (.and (.cmp .ne (.v 9) (.v 1)) (.cmp .eq (.ix (.ix (.ix (.v 0) (.k (.int 1))) (.v 9)) (.k (.int 0))) (.ix (.ix (.ix (.v 0) (.k (.int 1))) (.v 1)) (.k (.int 0))))) (m1B as a) (some (.tup [oI (nxO as zs a), oI (nilM zs a)])) x4 x5 none none none (fun q hq => by
      have aq := at_ar (as := as) (mem_rgI.mp hq)
      simp [aq, aa, m1B]
      by_cases hqa : q = a <;> simp [hqa])
    have r := first_run (d := d + 3) h1 _ _ u1 S
    simp [c_law_arrow_told_e2, c, r]
  have e8 : ∀ x4 x5 x6, exS (evE (callF tab (d + 4)) 60) 60 (.asg (.nm 7) (.call fi [c_law_arrow_told_e3 fi li ln nl ma nx ni ah na])) [some (PL n as zs), some (.int a), some (.lst ((rgI 0 (cnt as)).map .int)), some (.tup [oI (nxO as zs a), oI (nilM zs a)]), x4, x5, x6, none, none, none] S
      = .nx [some (PL n as zs), some (.int a), some (.lst ((rgI 0 (cnt as)).map .int)), some (.tup [oI (nxO as zs a), oI (nilM zs a)]), x4, x5, x6, some (oI ((rgI 0 (cnt as)).find? (m2B as a))), none, none] S := fun x4 x5 x6 => by
    have c := comp (.and (.cmp .ne (.v 9) (.v 1)) (.cmp .eq (.ix (.ix (.ix (.v 0) (.k (.int 1))) (.v 9)) (.k (.int 1))) (.ix (.ix (.ix (.v 0) (.k (.int 1))) (.v 1)) (.k (.int 1))))) (m2B as a) (some (.tup [oI (nxO as zs a), oI (nilM zs a)])) x4 x5 x6 none none (fun q hq => by
      have aq := at_ar (as := as) (mem_rgI.mp hq)
      simp [aq, aa, m2B]
      by_cases hqa : q = a <;> simp [hqa])
    have r := first_run (d := d + 3) h1 _ _ u2 S
    simp [c_law_arrow_told_e3, c, r]
  have e9 : ∀ x4 x5 x6, exS (evE (callF tab (d + 4)) 60) 60 (.asg (.nm 8) (.ife (.cmp .is_ (.v 7) (.k .non)) (.k .non) (.bin .sub (.neg (.k (.int 1))) (.v 7)))) [some (PL n as zs), some (.int a), some (.lst ((rgI 0 (cnt as)).map .int)), some (.tup [oI (nxO as zs a), oI (nilM zs a)]), x4, x5, x6, some (oI ((rgI 0 (cnt as)).find? (m2B as a))), none, none] S
      = .nx [some (PL n as zs), some (.int a), some (.lst ((rgI 0 (cnt as)).map .int)), some (.tup [oI (nxO as zs a), oI (nilM zs a)]), x4, x5, x6, some (oI ((rgI 0 (cnt as)).find? (m2B as a))), some (oI (((rgI 0 (cnt as)).find? (m2B as a)).map fun i => -1 - i)), none] S := fun x4 x5 x6 => by
    cases (rgI 0 (cnt as)).find? (m2B as a) <;> simp
  rw [ss_step e1, ss_step e2, ss_step e3, ss_step e4, ss_step e5, ss_step e6, ss_step (e7 _ _), ss_step (e8 _ _ _), ss_step (e9 _ _ _)]
  refine ss_ret ?_
  have ram : ∀ S, callF tab (d + 4) ma [PL n as zs, .int a] S = .ok (oI ((rgI 0 (cnt as)).find? (m1B as a))) S := fun S => by
    rw [mate_run h5 n as zs hal a (ar as a) (by rw [show arw a = a from if_pos ha1]; exact aa), mate_1 ha]
  have ram2 : ∀ S, callF tab (d + 4) ma [PL n as zs, .int (-1 - a)] S = .ok (oI (((rgI 0 (cnt as)).find? (m2B as a)).map fun i => -1 - i)) S := fun S => by
    rw [mate_run h5 n as zs hal (-1 - a) (ar as a) (by rw [show arw (-1 - a) = a from by unfold arw; rw [if_neg (by omega)]; omega]; exact aa), mate_2 ha]
  have sm2 : smO (((rgI 0 (cnt as)).find? (m2B as a)).map fun i => -1 - i) := fun x e => by
    simp only [Option.map_eq_some_iff] at e
    obtain ⟨y, hy, rfl⟩ := e
    have := mem_rgI.mp (List.mem_of_find?_eq_some hy)
    omega
  have l3 := like_run' (d := d + 3) h2 (S := S) (a := .tup [oI ((rgI 0 (cnt as)).find? (m1B as a)), oI (((rgI 0 (cnt as)).find? (m2B as a)).map fun i => -1 - i)]) rfl rfl (okRep_oo (rg_sm (by omega)) sm2)
  simp [ram, ram2, l3]

end Sp
end
section
set_option linter.all false
set_option linter.unusedSimpArgs false
/-! N4: a letter, a plan, a turned plan are told -/
open Ev PySem L2
namespace Sp
def c_law_letter_told_b0 (i_law_after i_law_like i_ends_of i_law_ends i_followers i_may_follow : Nat) : List CS := [
 .iff (.not (.call i_law_like [(.call i_may_follow [(.v 0), (.v 1), (.v 4)]), (.cmp .isin (.v 4) (.v 2))])) [
  .ret (some (.k (.bl false)))] []]
def c_law_letter_told_s0 (i_law_after i_law_like i_ends_of i_law_ends i_followers i_may_follow : Nat) : CS := .fors (.nm 4) (.rng [(.neg (.v 3)), (.v 3)]) (c_law_letter_told_b0 i_law_after i_law_like i_ends_of i_law_ends i_followers i_may_follow)
def c_law_letter_told (i_law_after i_law_like i_ends_of i_law_ends i_followers i_may_follow : Nat) : List CS := [
 .iff (.not (.call i_law_like [(.call i_ends_of [(.v 0), (.v 1)]), (.call i_law_ends [(.v 0), (.v 1)])])) [
  .ret (some (.k (.bl false)))] [],
 .asg (.nm 2) (.call i_law_after [(.v 0), (.v 1)]),
 .iff (.not (.call i_law_like [(.call i_followers [(.v 0), (.v 1)]), (.bi false .tuple [(.v 2)])])) [
  .ret (some (.k (.bl false)))] [],
 .asg (.nm 3) (.bi false .len [(.ix (.v 0) (.k (.int 1)))]),
 (c_law_letter_told_s0 i_law_after i_law_like i_ends_of i_law_ends i_followers i_may_follow),
 .ret (some (.k (.bl true)))]
def f_law_letter_told (i_law_after i_law_like i_ends_of i_law_ends i_followers i_may_follow : Nat) : Fd := ⟨2, 5, c_law_letter_told i_law_after i_law_like i_ends_of i_law_ends i_followers i_may_follow⟩
def c_law_plan_told_b0 (i_law_letter_told i_law_arrow_told i_law_like i_from_point i_law_begins : Nat) : List CS := [
 .iff (.not (.call i_law_letter_told [(.v 0), (.v 2)])) [
  .ret (some (.k (.bl false)))] []]
def c_law_plan_told_s0 (i_law_letter_told i_law_arrow_told i_law_like i_from_point i_law_begins : Nat) : CS := .fors (.nm 2) (.rng [(.neg (.v 1)), (.v 1)]) (c_law_plan_told_b0 i_law_letter_told i_law_arrow_told i_law_like i_from_point i_law_begins)
def c_law_plan_told_b1 (i_law_letter_told i_law_arrow_told i_law_like i_from_point i_law_begins : Nat) : List CS := [
 .iff (.not (.call i_law_arrow_told [(.v 0), (.v 3)])) [
  .ret (some (.k (.bl false)))] []]
def c_law_plan_told_s1 (i_law_letter_told i_law_arrow_told i_law_like i_from_point i_law_begins : Nat) : CS := .fors (.nm 3) (.rng [(.v 1)]) (c_law_plan_told_b1 i_law_letter_told i_law_arrow_told i_law_like i_from_point i_law_begins)
def c_law_plan_told_b2 (i_law_letter_told i_law_arrow_told i_law_like i_from_point i_law_begins : Nat) : List CS := [
 .iff (.not (.call i_law_like [(.call i_from_point [(.v 0), (.v 4)]), (.bi false .tuple [(.call i_law_begins [(.v 0), (.v 4)])])])) [
  .ret (some (.k (.bl false)))] []]
def c_law_plan_told_s2 (i_law_letter_told i_law_arrow_told i_law_like i_from_point i_law_begins : Nat) : CS := .fors (.nm 4) (.rng [(.ix (.v 0) (.k (.int 0)))]) (c_law_plan_told_b2 i_law_letter_told i_law_arrow_told i_law_like i_from_point i_law_begins)
def c_law_plan_told (i_law_letter_told i_law_arrow_told i_law_like i_from_point i_law_begins : Nat) : List CS := [
 .asg (.nm 1) (.bi false .len [(.ix (.v 0) (.k (.int 1)))]),
 (c_law_plan_told_s0 i_law_letter_told i_law_arrow_told i_law_like i_from_point i_law_begins),
 (c_law_plan_told_s1 i_law_letter_told i_law_arrow_told i_law_like i_from_point i_law_begins),
 (c_law_plan_told_s2 i_law_letter_told i_law_arrow_told i_law_like i_from_point i_law_begins),
 .ret (some (.k (.bl true)))]
def f_law_plan_told (i_law_letter_told i_law_arrow_told i_law_like i_from_point i_law_begins : Nat) : Fd := ⟨1, 5, c_law_plan_told i_law_letter_told i_law_arrow_told i_law_like i_from_point i_law_begins⟩
-- N4: a letter, a plan, a turned plan are told
theorem ed_sm {n : Int} {as zs : List P2} (V : Vp n as zs) {a : Int} (ha : inL as a) : 0 ≤ (ed as a).1 ∧ (ed as a).1 < n ∧ 0 ≤ (ed as a).2 ∧ (ed as a).2 < n := by
  obtain ⟨h1, h2⟩ := ha
  unfold ed
  by_cases h0 : 0 ≤ a
  · rw [if_pos h0]
    exact V.pts a ⟨h0, h2⟩
  · rw [if_neg h0]
    have := V.pts (-1 - a) ⟨by omega, by omega⟩
    exact ⟨this.2.2.1, this.2.2.2, this.1, this.2.1⟩
def OkLe (tab : List Fd) (f : Nat) : Prop := ∃ la li en le fo mf, OkLA tab la ∧ tab[li]? = some f_law_like ∧ tab[en]? = some f_ends_of ∧ tab[le]? = some f_law_ends ∧ OkFol tab fo ∧ OkMay tab mf ∧ tab[f]? = some (f_law_letter_told la li en le fo mf)
theorem letter_run {tab : List Fd} {f d : Nat} (h : OkLe tab f) {n : Int} {as zs : List P2} (V : Vp n as zs) {a : Int} (ha : inL as a) (S : Sto) : callF tab (d + 4) f [PL n as zs, .int a] S = .ok (.bl true) S := by
  obtain ⟨la, li, en, le, fo, mf, h1, h2, h3, h4, h5, h6, h⟩ := h
  have hc : cnt as = (as.length : Int) := rfl
  have hl := V.len
  have hsz := V.size
  have hal : as.length + as.length < turns := by unfold turns; omega
  rw [call_body h rfl (l := [some (PL n as zs), some (.int a), none, none, none]) rfl]
  show (exSs (exS (evE (callF tab (d + 3)) 60) 60) (c_law_letter_told la li en le fo mf) _ S).fin = _
  unfold c_law_letter_told
  have ep := ed_sm V ha
  have r1 : ∀ S, callF tab (d + 3) en [PL n as zs, .int a] S = .ok (prD (ed as a)) S := fun S => by rw [ends_run h3, ends_ed ha]; rfl
  have r2 : ∀ S, callF tab (d + 3) le [PL n as zs, .int a] S = .ok (prD (ed as a)) S := fun S => by rw [lend_run h4, lend_eq, ends_ed ha]; rfl
  have r3 : ∀ S, callF tab (d + 3) la [PL n as zs, .int a] S = .ok (.lst (((rgI (-cnt as) (cnt as)).filter (mayB as zs a)).map .int)) S := fun S => by rw [aft_run h1 n as zs (by omega), aft_B ha]; rfl
  have r4 : ∀ S, callF tab (d + 3) fo [PL n as zs, .int a] S = .ok (.tup (((rgI (-cnt as) (cnt as)).filter (mayB as zs a)).map .int)) S := fun S => by rw [fol_run h5 n as zs hal, fol_rg V ha]; rfl
  have hmem : ∀ x ∈ (rgI (-cnt as) (cnt as)).filter (mayB as zs a), -1000000 ≤ x ∧ x ≤ 1000000 := fun x hx => by
    have := mem_rgI.mp (List.mem_filter.mp hx).1
    omega
  have hlen : ((rgI (-cnt as) (cnt as)).filter (mayB as zs a)).length ≤ 1000 := Nat.le_trans (List.length_filter_le _ _) (by rw [rgI_len]; omega)
  have hin : ∀ b ∈ rgI (-cnt as) (cnt as), decide (b ∈ (rgI (-cnt as) (cnt as)).filter (mayB as zs a)) = mayB as zs a b := fun b hb => by
    cases h : mayB as zs a b with
    | true => exact decide_eq_true (List.mem_filter.mpr ⟨hb, h⟩)
    | false => exact decide_eq_false fun z => by rw [(List.mem_filter.mp z).2] at h; cases h
  have kf : okRep (.tup (((rgI (-cnt as) (cnt as)).filter (mayB as zs a)).map .int)) = true := okRep_ints hmem hlen
  generalize hfs : (rgI (-cnt as) (cnt as)).filter (mayB as zs a) = fs at r3 r4 hin kf
  have l1 := like_run' (d := d + 2) h2 (S := S) (a := prD (ed as a)) rfl rfl (okRep_pr (by omega))
  have e1 : exS (evE (callF tab (d + 3)) 60) 60 (.iff (.not (.call li [(.call en [(.v 0), (.v 1)]), (.call le [(.v 0), (.v 1)])])) [.ret (some (.k (.bl false)))] []) [some (PL n as zs), some (.int a), none, none, none] S = .nx [some (PL n as zs), some (.int a), none, none, none] S := by
    simp [r1, r2, l1]
  have e2 : exS (evE (callF tab (d + 3)) 60) 60 (.asg (.nm 2) (.call la [(.v 0), (.v 1)])) [some (PL n as zs), some (.int a), none, none, none] S = .nx [some (PL n as zs), some (.int a), some (.lst (fs.map .int)), none, none] S := by
    simp [r3]
  have l2 := like_run' (d := d + 2) h2 (S := S) (a := .tup (fs.map .int)) rfl rfl kf
  have e3 : exS (evE (callF tab (d + 3)) 60) 60 (.iff (.not (.call li [(.call fo [(.v 0), (.v 1)]), (.bi false .tuple [(.v 2)])])) [.ret (some (.k (.bl false)))] []) [some (PL n as zs), some (.int a), some (.lst (fs.map .int)), none, none] S = .nx [some (PL n as zs), some (.int a), some (.lst (fs.map .int)), none, none] S := by
    simp [r4, l2]
  have e4 : exS (evE (callF tab (d + 3)) 60) 60 (.asg (.nm 3) (.bi false .len [(.ix (.v 0) (.k (.int 1)))])) [some (PL n as zs), some (.int a), some (.lst (fs.map .int)), none, none] S = .nx [some (PL n as zs), some (.int a), some (.lst (fs.map .int)), some (.int (cnt as)), none] S := by
    simp
  have hr := rngD_2 (a := -cnt as) (b := cnt as) (by omega)
  obtain ⟨l', S', e, ⟨u, rfl⟩, rfl⟩ := forL_all (row_rgI (-cnt as) (cnt as)) (t := .nm 4) (body := exSs (exS (evE (callF tab (d + 3)) 60) 59) (c_law_letter_told_b0 la li en le fo mf))
    (fun l' S' => (∃ u, l' = [some (PL n as zs), some (.int a), some (.lst (fs.map .int)), some (.int (cnt as)), u]) ∧ S' = S)
    (by
      rintro k dd l' S' hd ⟨⟨u, rfl⟩, rfl⟩
      have hd' := List.mem_of_getElem? hd
      obtain ⟨b, hb, rfl⟩ := List.mem_map.mp hd'
      refine ⟨[some (PL n as zs), some (.int a), some (.lst (fs.map .int)), some (.int (cnt as)), some (.int b)], by simp, [some (PL n as zs), some (.int a), some (.lst (fs.map .int)), some (.int (cnt as)), some (.int b)], S', ?_, ⟨_, rfl⟩, rfl⟩
      have r5 : callF tab (d + 3) mf [PL n as zs, .int a, .int b] S' = .ok (.bl (mayB as zs a b)) S' := by rw [may_run h6, may_B ha (mem_rgI.mp hb)]; rfl
      have r6 : cmpD S' .isin (.int b) (.lst (fs.map .int)) = some (mayB as zs a b) := by rw [in_ints, hin b hb]
      have l3 := like_run' (d := d + 2) h2 (S := S') (a := .bl (mayB as zs a b)) rfl rfl (okRep_bl _)
      unfold c_law_letter_told_b0
      rw [ss_go (l1 := [some (PL n as zs), some (.int a), some (.lst (fs.map .int)), some (.int (cnt as)), some (.int b)]) (S1 := S'), ss_nil]
      simp only [s_iff, e_not, e_call, e_cmp, l_cons, l_nil, e_v, List.getElem?_cons_zero, List.getElem?_cons_succ, Option.elim_some, b_ok, r5, r6, l3, Option.map_some, of_el, tr_bl, Bool.not_true, o_ok, tmO_b, Bool.false_eq_true, if_false, ss_nil])
    (by rw [List.length_map, rgI_len]; unfold turns; omega) (l := [some (PL n as zs), some (.int a), some (.lst (fs.map .int)), some (.int (cnt as)), none]) (S := S) ⟨⟨_, rfl⟩, rfl⟩
  have e5 : exS (evE (callF tab (d + 3)) 60) 60 (c_law_letter_told_s0 la li en le fo mf) [some (PL n as zs), some (.int a), some (.lst (fs.map .int)), some (.int (cnt as)), none] S' = .nx [some (PL n as zs), some (.int a), some (.lst (fs.map .int)), some (.int (cnt as)), u] S' := by
    rw [c_law_letter_told_s0, s_for]
    simp only [i_rng, l_cons, l_nil, e_neg, e_v, List.getElem?_cons_zero, List.getElem?_cons_succ, Option.elim_some, b_ok, negD_i, of_el, hr, o_ok, e]
  rw [ss_step e1, ss_step e2, ss_step e3, ss_step e4, ss_step e5]
  simp
/-! a plan -/
def OkPT (tab : List Fd) (f : Nat) : Prop := ∃ le ar li fp lb, OkLe tab le ∧ OkAr tab ar ∧ tab[li]? = some f_law_like ∧ tab[fp]? = some f_from_point ∧ OkLB tab lb ∧ tab[f]? = some (f_law_plan_told le ar li fp lb)
theorem plan_run {tab : List Fd} {f d : Nat} (h : OkPT tab f) {n : Int} {as zs : List P2} (V : Vp n as zs) (S : Sto) : callF tab (d + 6) f [PL n as zs] S = .ok (.bl true) S := by
  obtain ⟨le, ar', li, fp, lb, h1, h2, h3, h4, h5, h⟩ := h
  have hc : cnt as = (as.length : Int) := rfl
  have hl := V.len
  have hsz := V.size
  have hal : as.length < turns := by unfold turns; omega
  rw [call_body h rfl (l := [some (PL n as zs), none, none, none, none]) rfl]
  show (exSs (exS (evE (callF tab (d + 5)) 60) 60) (c_law_plan_told le ar' li fp lb) _ S).fin = _
  unfold c_law_plan_told
  have e1 : exS (evE (callF tab (d + 5)) 60) 60 (.asg (.nm 1) (.bi false .len [(.ix (.v 0) (.k (.int 1)))])) [some (PL n as zs), none, none, none, none] S = .nx [some (PL n as zs), some (.int (cnt as)), none, none, none] S := by simp
  have hr := rngD_2 (a := -cnt as) (b := cnt as) (by omega)
  have hr1 := rngD_1 (b := cnt as) (by omega)
  have hr2 := rngD_1 (b := n) (by omega)
  obtain ⟨l', S', q1, ⟨u, rfl⟩, rfl⟩ := forL_all (row_rgI (-cnt as) (cnt as)) (t := .nm 2) (body := exSs (exS (evE (callF tab (d + 5)) 60) 59) (c_law_plan_told_b0 le ar' li fp lb))
    (fun l' S' => (∃ u, l' = [some (PL n as zs), some (.int (cnt as)), u, none, none]) ∧ S' = S)
    (by
      rintro k dd l' S' hd ⟨⟨u, rfl⟩, rfl⟩
      obtain ⟨b, hb, rfl⟩ := List.mem_map.mp (List.mem_of_getElem? hd)
      refine ⟨[some (PL n as zs), some (.int (cnt as)), some (.int b), none, none], by simp, [some (PL n as zs), some (.int (cnt as)), some (.int b), none, none], S', ?_, ⟨_, rfl⟩, rfl⟩
      have r := letter_run (d := d + 1) h1 V (mem_rgI.mp hb) S'
      unfold c_law_plan_told_b0
      rw [ss_go (l1 := [some (PL n as zs), some (.int (cnt as)), some (.int b), none, none]) (S1 := S'), ss_nil]
      simp only [s_iff, e_not, e_call, l_cons, l_nil, e_v, List.getElem?_cons_zero, List.getElem?_cons_succ, Option.elim_some, b_ok, r, Option.map_some, of_el, tr_bl, Bool.not_true, o_ok, tmO_b, Bool.false_eq_true, if_false, ss_nil])
    (by rw [List.length_map, rgI_len]; unfold turns; omega) (l := [some (PL n as zs), some (.int (cnt as)), none, none, none]) (S := S) ⟨⟨_, rfl⟩, rfl⟩
  have e2 : exS (evE (callF tab (d + 5)) 60) 60 (c_law_plan_told_s0 le ar' li fp lb) [some (PL n as zs), some (.int (cnt as)), none, none, none] S' = .nx [some (PL n as zs), some (.int (cnt as)), u, none, none] S' := by
    rw [c_law_plan_told_s0, s_for]
    simp only [i_rng, l_cons, l_nil, e_neg, e_v, List.getElem?_cons_zero, List.getElem?_cons_succ, Option.elim_some, b_ok, negD_i, of_el, hr, o_ok, q1]
  obtain ⟨l', S', q2, ⟨v, rfl⟩, rfl⟩ := forL_all (row_rgI 0 (cnt as)) (t := .nm 3) (body := exSs (exS (evE (callF tab (d + 5)) 60) 59) (c_law_plan_told_b1 le ar' li fp lb))
    (fun l' S'' => (∃ v, l' = [some (PL n as zs), some (.int (cnt as)), u, v, none]) ∧ S'' = S')
    (by
      rintro k dd l' S' hd ⟨⟨v, rfl⟩, rfl⟩
      obtain ⟨b, hb, rfl⟩ := List.mem_map.mp (List.mem_of_getElem? hd)
      refine ⟨[some (PL n as zs), some (.int (cnt as)), u, some (.int b), none], by simp, [some (PL n as zs), some (.int (cnt as)), u, some (.int b), none], _, ?_, ⟨_, rfl⟩, rfl⟩
      have r := arrow_run (d := d) h2 V (mem_rgI.mp hb) S'
      unfold c_law_plan_told_b1
      rw [ss_go (l1 := [some (PL n as zs), some (.int (cnt as)), u, some (.int b), none]) (S1 := S'), ss_nil]
      simp only [s_iff, e_not, e_call, l_cons, l_nil, e_v, List.getElem?_cons_zero, List.getElem?_cons_succ, Option.elim_some, b_ok, r, Option.map_some, of_el, tr_bl, Bool.not_true, o_ok, tmO_b, Bool.false_eq_true, if_false, ss_nil])
    (by rw [List.length_map, rgI_len]; unfold turns; omega) (l := [some (PL n as zs), some (.int (cnt as)), u, none, none]) (S := S') ⟨⟨_, rfl⟩, rfl⟩
  have e3 : exS (evE (callF tab (d + 5)) 60) 60 (c_law_plan_told_s1 le ar' li fp lb) [some (PL n as zs), some (.int (cnt as)), u, none, none] S' = .nx [some (PL n as zs), some (.int (cnt as)), u, v, none] S' := by
    rw [c_law_plan_told_s1, s_for]
    simp only [i_rng, l_cons, l_nil, e_v, List.getElem?_cons_zero, List.getElem?_cons_succ, Option.elim_some, b_ok, of_el, hr1, o_ok, q2]
  obtain ⟨l', S', q3, ⟨w, rfl⟩, rfl⟩ := forL_all (row_rgI 0 n) (t := .nm 4) (body := exSs (exS (evE (callF tab (d + 5)) 60) 59) (c_law_plan_told_b2 le ar' li fp lb))
    (fun l' S'' => (∃ w, l' = [some (PL n as zs), some (.int (cnt as)), u, v, w]) ∧ S'' = S')
    (by
      rintro k dd l' S' hd ⟨⟨w, rfl⟩, rfl⟩
      obtain ⟨b, hb, rfl⟩ := List.mem_map.mp (List.mem_of_getElem? hd)
      refine ⟨[some (PL n as zs), some (.int (cnt as)), u, v, some (.int b)], by simp, [some (PL n as zs), some (.int (cnt as)), u, v, some (.int b)], _, ?_, ⟨_, rfl⟩, rfl⟩
      have r1 := from_run (d := d + 4) h4 n as zs hal b S'
      rw [from_rg V] at r1
      have r2 := begins_run (d := d + 3) h5 V b S'
      have hmem : ∀ x ∈ (rgI (-cnt as) (cnt as)).filter (fun c => decide ((ed as c).1 = b)), -1000000 ≤ x ∧ x ≤ 1000000 := fun x hx => by
        have := mem_rgI.mp (List.mem_filter.mp hx).1
        omega
      have l1 := like_run' (d := d + 4) h3 (S := S') (a := .tup (((rgI (-cnt as) (cnt as)).filter fun c => decide ((ed as c).1 = b)).map .int)) rfl rfl (okRep_ints hmem (Nat.le_trans (List.length_filter_le _ _) (by rw [rgI_len]; omega)))
      unfold c_law_plan_told_b2
      rw [ss_go (l1 := [some (PL n as zs), some (.int (cnt as)), u, v, some (.int b)]) (S1 := S'), ss_nil]
      simp only [s_iff, e_not, e_call, e_bi, l_cons, l_nil, e_v, List.getElem?_cons_zero, List.getElem?_cons_succ, Option.elim_some, b_ok, r1, r2, bi_tup_l, mkR_f, l1, Option.map_some, of_el, tr_bl, Bool.not_true, o_ok, tmO_b, Bool.false_eq_true, if_false, ss_nil])
    (by rw [List.length_map, rgI_len]; unfold turns; omega) (l := [some (PL n as zs), some (.int (cnt as)), u, v, none]) (S := S') ⟨⟨_, rfl⟩, rfl⟩
  have e4 : exS (evE (callF tab (d + 5)) 60) 60 (c_law_plan_told_s2 le ar' li fp lb) [some (PL n as zs), some (.int (cnt as)), u, v, none] S' = .nx [some (PL n as zs), some (.int (cnt as)), u, v, w] S' := by
    rw [c_law_plan_told_s2, s_for]
    simp only [i_rng, l_cons, l_nil, e_ix, e_v, e_k, List.getElem?_cons_zero, List.getElem?_cons_succ, Option.elim_some, b_ok, ixT, at_0, of_el, hr2, o_ok, q3]
  rw [ss_step e1, ss_step e2, ss_step e3, ss_step e4]
  simp

end Sp
end
section
set_option linter.all false
set_option linter.unusedSimpArgs false
/-! N5: sorted pairs, turned plans -/
open Ev PySem L2
namespace Sp
def c_law_turned_plan_e0  : CE := (.lc false [2, 3] (.tp [(.nm 2), (.nm 3)]) (.of (.ix (.v 0) (.k (.int 1)))) [] (.tup [(.v 3), (.v 2)]))
def c_law_turned_plan_e1  : CE := (.lc false [2, 3] (.tp [(.nm 2), (.nm 3)]) (.of (.ix (.v 0) (.k (.int 2)))) [] (.tup [(.v 3), (.v 2)]))
def c_law_turned_plan  : List CS := [
 .asg (.nm 1) (.bi false .tuple [c_law_turned_plan_e0]),
 .ret (some (.tup [(.ix (.v 0) (.k (.int 0))), (.v 1), (.bi false .tuple [(.bi false .sorted [c_law_turned_plan_e1])])]))]
def f_law_turned_plan  : Fd := ⟨1, 4, c_law_turned_plan ⟩
-- N5: sorted pairs, turned plans
theorem lt_iff {p q : P2} : ltP p q = true ↔ p.1 < q.1 ∨ (p.1 = q.1 ∧ p.2 < q.2) := by
  unfold ltP
  simp only [Bool.or_eq_true, Bool.and_eq_true, Bool.not_eq_true', decide_eq_true_eq, decide_eq_false_iff_not]
  omega
def leP (p q : P2) : Bool := !ltP q p
theorem le_iff {p q : P2} : leP p q = true ↔ p.1 < q.1 ∨ (p.1 = q.1 ∧ p.2 ≤ q.2) := by
  unfold leP
  rw [Bool.not_eq_true', ← Bool.not_eq_true, lt_iff]
  omega
theorem sortP_eq (ps : List P2) : sortP ps = ps.mergeSort leP := msort_eq _ _ _ (Nat.lt_succ_self _)
theorem sortP_perm (ps : List P2) : (sortP ps).Perm ps := by
  rw [sortP_eq]; exact List.mergeSort_perm _ _
theorem sortP_le (ps : List P2) : (sortP ps).Pairwise fun x y => leP x y = true := by
  rw [sortP_eq]
  refine List.pairwise_mergeSort (fun a b c h1 h2 => ?_) (fun a b => ?_) _
  · rw [le_iff] at *; omega
  · rw [Bool.or_eq_true, le_iff, le_iff]; omega
theorem sortP_lt {ps : List P2} (h : ps.Nodup) : (sortP ps).Pairwise fun x y => ltP x y = true := by
  have h1 := sortP_le ps
  have h2 : (sortP ps).Nodup := (sortP_perm ps).nodup_iff.mpr h
  refine List.Pairwise.imp₂ ?_ h1 h2
  intro a b hl hn
  rw [lt_iff]
  rw [le_iff] at hl
  have : ¬ (a.1 = b.1 ∧ a.2 = b.2) := fun z => hn (Prod.ext z.1 z.2)
  omega
theorem lt_nodup {ps : List P2} (h : ps.Pairwise fun x y => ltP x y = true) : ps.Nodup := by
  refine h.imp fun {a b} hl e => ?_
  subst e
  rw [lt_iff] at hl
  omega
theorem sort_same {ps qs : List P2} (h : qs.Pairwise fun x y => ltP x y = true) (hp : ps.Perm qs) : sortP ps = qs := by
  have h1 := sortP_le ps
  have h2 : (sortP ps).Perm qs := (sortP_perm ps).trans hp
  refine List.Perm.eq_of_pairwise (le := fun x y => leP x y = true) (fun a b _ _ h3 h4 => ?_) h1 (h.imp fun {a b} hl => ?_) h2
  · rw [le_iff] at h3 h4
    exact Prod.ext (by omega) (by omega)
  · rw [le_iff]
    rw [lt_iff] at hl
    omega
theorem swp_swp (p : P2) : swp (swp p) = p := rfl
theorem map_swp2 (ps : List P2) : (ps.map swp).map swp = ps := by
  rw [List.map_map]
  exact List.map_id _
theorem mem_swp {ps : List P2} {a b : Int} : (a, b) ∈ ps.map swp ↔ (b, a) ∈ ps := by
  rw [List.mem_map]
  constructor
  · rintro ⟨q, hq, e⟩
    have : q = (b, a) := by rw [← swp_swp q, e]; rfl
    rw [← this]; exact hq
  · exact fun h => ⟨_, h, rfl⟩
theorem nodup_swp {ps : List P2} (h : ps.Nodup) : (ps.map swp).Nodup := by
  rw [List.Nodup, List.pairwise_map]
  exact h.imp fun {x y} hn z => hn (show swp (swp x) = swp (swp y) from congrArg swp z)
theorem mem_tz {zs : List P2} {a b : Int} : (a, b) ∈ sortP (zs.map swp) ↔ (b, a) ∈ zs := by
  rw [(sortP_perm _).mem_iff, mem_swp]
theorem ar_swp {as : List P2} {i : Int} (h : inA as i) : ar (as.map swp) i = swp (ar as i) := by
  obtain ⟨h1, h2⟩ := h
  have hi : i.toNat < as.length := by
    have hc : cnt as = (as.length : Int) := rfl
    omega
  unfold ar
  rw [List.getElem?_map, List.getElem?_eq_getElem hi]
  rfl
theorem cnt_swp (as : List P2) : cnt (as.map swp) = cnt as := by simp [cnt]
theorem inA_swp {as : List P2} {i : Int} : inA (as.map swp) i ↔ inA as i := by
  unfold inA
  rw [cnt_swp]
theorem Vp.turn {n : Int} {as zs : List P2} (V : Vp n as zs) : Vp n (as.map swp) (sortP (zs.map swp)) := by
  have hz : (sortP (zs.map swp)).length = zs.length := by rw [(sortP_perm _).length_eq, List.length_map]
  refine ⟨by rw [List.length_map]; exact V.len, by rw [hz]; exact V.zlen, V.size, fun i hi => ?_, fun a b h => ?_, fun a b c h1 h2 => ?_, fun a b c h1 h2 => ?_, fun a b c ha hb hc h1 h2 h3 h4 => ?_, fun a b c ha hb hc h1 h2 h3 h4 => ?_, fun a b c ha hb hc h1 h2 h3 h4 => ?_, fun a b c ha hb hc h1 h2 h3 h4 => ?_, ?_⟩
  · rw [inA_swp] at hi
    rw [ar_swp hi]
    have := V.pts i hi
    exact ⟨this.2.2.1, this.2.2.2, this.1, this.2.1⟩
  · have h' := V.zin _ _ (mem_tz.mp h)
    rw [inA_swp, inA_swp, ar_swp h'.2.1, ar_swp h'.1]
    exact ⟨h'.2.1, h'.1, h'.2.2.symm⟩
  · exact V.z2 b c a (mem_tz.mp h1) (mem_tz.mp h2)
  · exact V.z1 c a b (mem_tz.mp h1) (mem_tz.mp h2)
  · rw [inA_swp] at ha hb hc
    rw [ar_swp ha, ar_swp hb] at h1
    rw [ar_swp ha, ar_swp hc] at h2
    exact V.o2 a b c ha hb hc h1 h2 (fun z => h3 (mem_tz.mpr z)) (fun z => h4 (mem_tz.mpr z))
  · rw [inA_swp] at ha hb hc
    rw [ar_swp ha, ar_swp hb] at h1
    rw [ar_swp ha, ar_swp hc] at h2
    exact V.o1 a b c ha hb hc h1 h2 (fun z => h3 (mem_tz.mpr z)) (fun z => h4 (mem_tz.mpr z))
  · rw [inA_swp] at ha hb hc
    rw [ar_swp ha, ar_swp hb] at h1
    rw [ar_swp ha, ar_swp hc] at h2
    exact V.t2 a b c ha hb hc h1 h2 h3 h4
  · rw [inA_swp] at ha hb hc
    rw [ar_swp ha, ar_swp hb] at h1
    rw [ar_swp ha, ar_swp hc] at h2
    exact V.t1 a b c ha hb hc h1 h2 h3 h4
  · exact sortP_lt (nodup_swp (lt_nodup V.srt))
theorem turn_back {n : Int} {as zs : List P2} (V : Vp n as zs) : sortP ((sortP (zs.map swp)).map swp) = zs := by
  refine sort_same V.srt ?_
  have := (sortP_perm (zs.map swp)).map swp
  rw [map_swp2] at this
  exact this
theorem opt_ext {o p : Option Int} (h : ∀ b, o = some b ↔ p = some b) : o = p := by
  cases o with
  | none =>
    cases p with
    | none => rfl
    | some b => exact ((h b).mpr rfl)
  | some a => exact ((h a).mp rfl).symm
theorem nx_turn {n : Int} {as zs : List P2} (V : Vp n as zs) {a : Int} (ha : inA as a) : nxO (as.map swp) (sortP (zs.map swp)) a = ahO as zs a := opt_ext fun b => by
  rw [nx_iff V.turn (inA_swp.mpr ha), ah_iff V ha, inA_swp]
  constructor
  · rintro ⟨h1, h2, h3⟩
    rw [ar_swp ha, ar_swp h1] at h2
    exact ⟨h1, h2, fun z => h3 (mem_tz.mpr z)⟩
  · rintro ⟨h1, h2, h3⟩
    rw [ar_swp ha, ar_swp h1]
    exact ⟨h1, h2, fun z => h3 (mem_tz.mp z)⟩
theorem nil_turn {n : Int} {as zs : List P2} (V : Vp n as zs) (a : Int) : nilA (sortP (zs.map swp)) a = nilM zs a := opt_ext fun b => by
  rw [nilA_iff V.turn, nil_iff V, mem_tz]
theorem lturn_run {tab : List Fd} {f d : Nat} (h : tab[f]? = some f_law_turned_plan) (n : Int) (as zs : List P2) (ha : as.length < turns) (hz : zs.length < turns) (S : Sto) :
    callF tab (d + 1) f [PL n as zs] S = .ok (PL n (as.map swp) (sortP (zs.map swp))) S := by
  rw [call_body h rfl (l := [some (PL n as zs), none, none, none]) rfl]
  show (exSs (exS (evE (callF tab d) 60) 60) c_law_turned_plan _ S).fin = _
  unfold c_law_turned_plan
  have k1 := evC_all (ev := evE (callF tab d) 58) (tg := .tp [(.nm 2), (.nm 3)]) (elt := (.tup [(.v 3), (.v 2)])) (l := [some (PL n as zs), none, none, none]) (S := S) (h := prD) (ys := as) (row_vals _) (fun p => prD (swp p))
    (fun q hq => ⟨[some (PL n as zs), none, some (.int q.1), some (.int q.2)], by simp, by simp [swp]⟩) ha
  have k2 := evC_all (ev := evE (callF tab d) 56) (tg := .tp [(.nm 2), (.nm 3)]) (elt := (.tup [(.v 3), (.v 2)])) (l := [some (PL n as zs), some (.tup ((as.map swp).map prD)), none, none]) (S := S) (h := prD) (ys := zs) (row_vals _) (fun p => prD (swp p))
    (fun q hq => ⟨[some (PL n as zs), some (.tup ((as.map swp).map prD)), some (.int q.1), some (.int q.2)], by simp, by simp [swp]⟩) hz
  have m1 : as.map (fun p => prD (swp p)) = (as.map swp).map prD := by rw [List.map_map]; rfl
  have m2 : zs.map (fun p => prD (swp p)) = (zs.map swp).map prD := by rw [List.map_map]; rfl
  rw [m1] at k1
  rw [m2] at k2
  have e1 : exS (evE (callF tab d) 60) 60 (.asg (.nm 1) (.bi false .tuple [c_law_turned_plan_e0])) [some (PL n as zs), none, none, none] S = .nx [some (PL n as zs), some (.tup ((as.map swp).map prD)), none, none] S := by
    simp only [s_asg, e_bi, l_cons, l_nil, c_law_turned_plan_e0, e_lc, i_of, e_ix, e_v, e_k, List.getElem?_cons_zero, List.getElem?_cons_succ, Option.elim_some, b_ok, ixT, at_1, of_el, src_t, Option.map_some, wipe_s, wipe_0, List.set_cons_succ, List.set_cons_zero, k1, mkR_f, bi_tup_l, o_ok, asg_nm]
  rw [ss_step e1]
  refine ss_ret ?_
  have hso : ∀ ps : List P2, biD S .sorted [.lst (ps.map prD)] = some (.lst ((sortP ps).map prD)) := fun ps => by
    simp only [biD, D.read]
    rw [if_pos (sortOk_p _), sortD_p]
  simp only [s_ret, e_tup, l_cons, l_nil, e_bi, c_law_turned_plan_e1, e_lc, i_of, e_ix, e_v, e_k, List.getElem?_cons_zero, List.getElem?_cons_succ, Option.elim_some, b_ok, ixT, at_0, at_2, of_el, src_t, Option.map_some, wipe_s, wipe_0, List.set_cons_succ, List.set_cons_zero, k2, hso, mkR_f, bi_tup_l, List.length_cons, List.length_nil, Nat.zero_add, Nat.reduceAdd, len3, if_true, o_ok]
/-! what may be shown of plans -/
theorem nicePs_pr {ps : List P2} (h : ∀ p ∈ ps, -1000000 ≤ p.1 ∧ p.1 ≤ 1000000 ∧ -1000000 ≤ p.2 ∧ p.2 ≤ 1000000) : nicePs (ps.map prP) = true := by
  induction ps with
  | nil => rfl
  | cons x xs ih =>
    have hx := h x List.mem_cons_self
    simp only [List.map_cons, nicePs, prP, niceP, ih fun y hy => h y (List.mem_cons_of_mem _ hy), decide_eq_true (show -1000000 ≤ x.1 ∧ x.1 ≤ 1000000 by omega), decide_eq_true (show -1000000 ≤ x.2 ∧ x.2 ≤ 1000000 by omega), Bool.and_self]
theorem bulk_pr (ps : List P2) : PyData.bulkAll (ps.map prP) = 3 * ps.length := by
  induction ps with
  | nil => rfl
  | cons x xs ih => simp only [List.map_cons, PyData.bulkAll, PyData.bulk, prP, ih, List.length_cons]; omega
theorem okRep_PL {n : Int} {as zs : List P2} (V : Vp n as zs) : okRep (PL n as zs) = true := by
  have hsz := V.size
  have hl := V.len
  have hzl := V.zlen
  have hc : cnt as = (as.length : Int) := rfl
  have ha : ∀ p ∈ as, -1000000 ≤ p.1 ∧ p.1 ≤ 1000000 ∧ -1000000 ≤ p.2 ∧ p.2 ≤ 1000000 := fun p hp => by
    obtain ⟨i, hi, e⟩ := List.mem_iff_getElem.mp hp
    have := V.pts (i : Int) ⟨by omega, by omega⟩
    have h2 : ar as (i : Int) = p := by
      unfold ar
      rw [Int.toNat_natCast, List.getElem?_eq_getElem hi, e]; rfl
    rw [h2] at this
    omega
  have hz : ∀ p ∈ zs, -1000000 ≤ p.1 ∧ p.1 ≤ 1000000 ∧ -1000000 ≤ p.2 ∧ p.2 ≤ 1000000 := fun p hp => by
    obtain ⟨⟨q1, q2⟩, ⟨q3, q4⟩, _⟩ := V.zin p.1 p.2 hp
    omega
  have e0 : D.py (PL n as zs) = some (.tuple [.int n, .tuple (as.map prP), .tuple (zs.map prP)]) := by simp only [D.py, D.pys, pys_pr]
  have d1 := (lay_pr as).2
  have d2 := (lay_pr zs).2
  have e1 : PyData.depth (.tuple [.int n, .tuple (as.map prP), .tuple (zs.map prP)]) ≤ 64 := by
    simp only [PyData.depth, PyData.depthAll]; omega
  have e2 : PyData.bulk (.tuple [.int n, .tuple (as.map prP), .tuple (zs.map prP)]) ≤ 100000 := by
    simp only [PyData.bulk, PyData.bulkAll, bulk_pr]; omega
  unfold okRep
  rw [e0]
  simp only [niceP, nicePs, nicePs_pr ha, nicePs_pr hz, decide_eq_true e1, decide_eq_true e2, decide_eq_true (show -1000000 ≤ n ∧ n ≤ 1000000 by omega), Bool.and_self]

end Sp
end
section
set_option linter.all false
set_option linter.unusedSimpArgs false
/-! N6: a turned plan is told -/
open Ev PySem L2
namespace Sp
def c_law_turned_told_b0 (i_turned_plan i_law_plan_told i_law_like i_next_of i_nil_of i_law_turned_plan i_ahead_of i_nil_ahead_of : Nat) : List CS := [
 .iff (.not (.call i_law_like [(.call i_next_of [(.v 1), (.v 2)]), (.call i_ahead_of [(.v 0), (.v 2)])])) [
  .ret (some (.k (.bl false)))] [],
 .iff (.not (.call i_law_like [(.call i_nil_ahead_of [(.v 1), (.v 2)]), (.call i_nil_of [(.v 0), (.v 2)])])) [
  .ret (some (.k (.bl false)))] [],
 .par [3, 4] [(.call i_next_of [(.v 0), (.v 2)]), (.call i_nil_of [(.v 0), (.v 2)])],
 .iff (.and (.cmp .isnot (.v 3) (.k .non)) (.not (.call i_law_like [(.call i_ahead_of [(.v 0), (.v 3)]), (.v 2)]))) [
  .ret (some (.k (.bl false)))] [],
 .iff (.and (.cmp .isnot (.v 4) (.k .non)) (.not (.call i_law_like [(.call i_nil_ahead_of [(.v 0), (.v 4)]), (.v 2)]))) [
  .ret (some (.k (.bl false)))] []]
def c_law_turned_told_s0 (i_turned_plan i_law_plan_told i_law_like i_next_of i_nil_of i_law_turned_plan i_ahead_of i_nil_ahead_of : Nat) : CS := .fors (.nm 2) (.rng [(.bi false .len [(.ix (.v 0) (.k (.int 1)))])]) (c_law_turned_told_b0 i_turned_plan i_law_plan_told i_law_like i_next_of i_nil_of i_law_turned_plan i_ahead_of i_nil_ahead_of)
def c_law_turned_told (i_turned_plan i_law_plan_told i_law_like i_next_of i_nil_of i_law_turned_plan i_ahead_of i_nil_ahead_of : Nat) : List CS := [
 .asg (.nm 1) (.call i_turned_plan [(.v 0)]),
 .iff (.or (.not (.call i_law_like [(.v 1), (.call i_law_turned_plan [(.v 0)])])) (.not (.call i_law_like [(.call i_turned_plan [(.v 1)]), (.v 0)]))) [
  .ret (some (.k (.bl false)))] [],
 (c_law_turned_told_s0 i_turned_plan i_law_plan_told i_law_like i_next_of i_nil_of i_law_turned_plan i_ahead_of i_nil_ahead_of),
 .ret (some (.call i_law_plan_told [(.v 1)]))]
def f_law_turned_told (i_turned_plan i_law_plan_told i_law_like i_next_of i_nil_of i_law_turned_plan i_ahead_of i_nil_ahead_of : Nat) : Fd := ⟨1, 5, c_law_turned_told i_turned_plan i_law_plan_told i_law_like i_next_of i_nil_of i_law_turned_plan i_ahead_of i_nil_ahead_of⟩
-- N6: a turned plan is told
def OkTT (tab : List Fd) (f : Nat) : Prop := ∃ tp pt li nx ni lt ah na, tab[tp]? = some f_turned_plan ∧ OkPT tab pt ∧ tab[li]? = some f_law_like ∧ tab[nx]? = some f_next_of ∧ tab[ni]? = some f_nil_of ∧ tab[lt]? = some f_law_turned_plan ∧ tab[ah]? = some f_ahead_of ∧ tab[na]? = some f_nil_ahead_of ∧ tab[f]? = some (f_law_turned_told tp pt li nx ni lt ah na)
theorem turned_run {tab : List Fd} {f d : Nat} (h : OkTT tab f) {n : Int} {as zs : List P2} (V : Vp n as zs) (S : Sto) : callF tab (d + 7) f [PL n as zs] S = .ok (.bl true) S := by
  obtain ⟨tp, pt, li, nx, ni, lt, ah, na, h1, h2, h3, h4, h5, h6, h7, h8, h⟩ := h
  have hc : cnt as = (as.length : Int) := rfl
  have hl := V.len
  have W := V.turn
  have hal : as.length < turns := by unfold turns; omega
  have hzl : zs.length < turns := by have := V.zlen; unfold turns; omega
  have hal' : (as.map swp).length < turns := by rw [List.length_map]; exact hal
  have hzl' : (sortP (zs.map swp)).length < turns := by have := W.zlen; unfold turns; omega
  rw [call_body h rfl (l := [some (PL n as zs), none, none, none, none]) rfl]
  show (exSs (exS (evE (callF tab (d + 6)) 60) 60) (c_law_turned_told tp pt li nx ni lt ah na) _ S).fin = _
  unfold c_law_turned_told
  have r1 : ∀ S, callF tab (d + 6) tp [PL n as zs] S = .ok (PL n (as.map swp) (sortP (zs.map swp))) S := fun S => turn_run h1 n as zs hal hzl S
  have r2 : ∀ S, callF tab (d + 6) tp [PL n (as.map swp) (sortP (zs.map swp))] S = .ok (PL n as zs) S := fun S => by
    rw [turn_run h1 n _ _ hal' hzl', map_swp2, turn_back V]
  have r3 : ∀ S, callF tab (d + 6) lt [PL n as zs] S = .ok (PL n (as.map swp) (sortP (zs.map swp))) S := fun S => lturn_run h6 n as zs hal hzl S
  have r4 : ∀ S, callF tab (d + 6) pt [PL n (as.map swp) (sortP (zs.map swp))] S = .ok (.bl true) S := fun S => plan_run (d := d) h2 W S
  have l1 := fun S => like_run' (d := d + 5) h3 (S := S) (a := PL n (as.map swp) (sortP (zs.map swp))) rfl rfl (okRep_PL W)
  have l2 := fun S => like_run' (d := d + 5) h3 (S := S) (a := PL n as zs) rfl rfl (okRep_PL V)
  have nx1 : ∀ a, inA as a → ∀ S, callF tab (d + 6) nx [PL n as zs, .int a] S = .ok (oI (nxO as zs a)) S := fun a ha S => by rw [next_run h4 n as zs hal, next_O hl ha]; rfl
  have ah1 : ∀ a, inA as a → ∀ S, callF tab (d + 6) ah [PL n as zs, .int a] S = .ok (oI (ahO as zs a)) S := fun a ha S => by rw [ahead_run h7 n as zs hal, ahead_O hl ha]; rfl
  have nx2 : ∀ a, inA as a → ∀ S, callF tab (d + 6) nx [PL n (as.map swp) (sortP (zs.map swp)), .int a] S = .ok (oI (ahO as zs a)) S := fun a ha S => by
    rw [next_run h4 n _ _ hal', next_O W.len (inA_swp.mpr ha), nx_turn V ha]; rfl
  have ni1 : ∀ a S, callF tab (d + 6) ni [PL n as zs, .int a] S = .ok (oI (nilM zs a)) S := fun a S => nil_run h5 n as zs hzl a S
  have na1 : ∀ a S, callF tab (d + 6) na [PL n as zs, .int a] S = .ok (oI (nilA zs a)) S := fun a S => nilA_run h8 n as zs hzl a S
  have na2 : ∀ a S, callF tab (d + 6) na [PL n (as.map swp) (sortP (zs.map swp)), .int a] S = .ok (oI (nilM zs a)) S := fun a S => by rw [nilA_run h8 n _ _ hzl', nil_turn V]
  generalize hO : PL n (as.map swp) (sortP (zs.map swp)) = OT at r1 r2 r3 r4 l1 nx2 na2
  have e1 : exS (evE (callF tab (d + 6)) 60) 60 (.asg (.nm 1) (.call tp [(.v 0)])) [some (PL n as zs), none, none, none, none] S = .nx [some (PL n as zs), some OT, none, none, none] S := by
    simp [r1]
  have e2 : exS (evE (callF tab (d + 6)) 60) 60 (.iff (.or (.not (.call li [(.v 1), (.call lt [(.v 0)])])) (.not (.call li [(.call tp [(.v 1)]), (.v 0)]))) [.ret (some (.k (.bl false)))] []) [some (PL n as zs), some OT, none, none, none] S = .nx [some (PL n as zs), some OT, none, none, none] S := by
    simp [r2, r3, l1, l2]
  have hr1 := rngD_1 (b := cnt as) (by omega)
  obtain ⟨l', S', q, ⟨u, v, w, rfl⟩, rfl⟩ := forL_all (row_rgI 0 (cnt as)) (t := .nm 2) (body := exSs (exS (evE (callF tab (d + 6)) 60) 59) (c_law_turned_told_b0 tp pt li nx ni lt ah na))
    (fun l' S' => (∃ u v w, l' = [some (PL n as zs), some OT, u, v, w]) ∧ S' = S)
    (by
      rintro k dd l' S' hd ⟨⟨u, v, w, rfl⟩, rfl⟩
      obtain ⟨a, hb, rfl⟩ := List.mem_map.mp (List.mem_of_getElem? hd)
      have ha : inA as a := mem_rgI.mp hb
      refine ⟨[some (PL n as zs), some OT, some (.int a), v, w], by simp, [some (PL n as zs), some OT, some (.int a), some (oI (nxO as zs a)), some (oI (nilM zs a))], S', ?_, ⟨_, _, _, rfl⟩, rfl⟩
      have sa : smO (ahO as zs a) := rg_sm (by omega)
      have si : smO (nilM zs a) := fun x e => by
        obtain ⟨q1, q2⟩ := (V.zin _ _ ((nil_iff V).mp e)).2.1
        omega
      have sia : okRep (.int a) = true := okRep_int (by obtain ⟨q1, q2⟩ := ha; omega)
      have m1 := like_run' (d := d + 5) h3 (S := S') (a := oI (ahO as zs a)) (isRp_o _) rfl (okRep_o sa)
      have m2 := like_run' (d := d + 5) h3 (S := S') (a := oI (nilM zs a)) (isRp_o _) rfl (okRep_o si)
      have m3 := like_run' (d := d + 5) h3 (S := S') (a := .int a) rfl rfl sia
      have b1 : exS (evE (callF tab (d + 6)) 60) 59 (.iff (.not (.call li [(.call nx [(.v 1), (.v 2)]), (.call ah [(.v 0), (.v 2)])])) [.ret (some (.k (.bl false)))] []) [some (PL n as zs), some OT, some (.int a), v, w] S' = .nx [some (PL n as zs), some OT, some (.int a), v, w] S' := by
        simp [nx2 a ha, ah1 a ha, m1]
      have b2 : exS (evE (callF tab (d + 6)) 60) 59 (.iff (.not (.call li [(.call na [(.v 1), (.v 2)]), (.call ni [(.v 0), (.v 2)])])) [.ret (some (.k (.bl false)))] []) [some (PL n as zs), some OT, some (.int a), v, w] S' = .nx [some (PL n as zs), some OT, some (.int a), v, w] S' := by
        simp [na2, ni1, m2]
      have b3 : exS (evE (callF tab (d + 6)) 60) 59 (.par [3, 4] [(.call nx [(.v 0), (.v 2)]), (.call ni [(.v 0), (.v 2)])]) [some (PL n as zs), some OT, some (.int a), v, w] S' = .nx [some (PL n as zs), some OT, some (.int a), some (oI (nxO as zs a)), some (oI (nilM zs a))] S' := by
        simp [nx1 a ha, ni1]
      have b4 : exS (evE (callF tab (d + 6)) 60) 59 (.iff (.and (.cmp .isnot (.v 3) (.k .non)) (.not (.call li [(.call ah [(.v 0), (.v 3)]), (.v 2)]))) [.ret (some (.k (.bl false)))] []) [some (PL n as zs), some OT, some (.int a), some (oI (nxO as zs a)), some (oI (nilM zs a))] S' = .nx [some (PL n as zs), some OT, some (.int a), some (oI (nxO as zs a)), some (oI (nilM zs a))] S' := by
        cases hx : nxO as zs a with
        | none => simp
        | some b =>
          have hb := (nx_iff V ha).mp hx
          have hah : ahO as zs b = some a := (ah_iff V hb.1).mpr ⟨ha, hb.2.1.symm, hb.2.2⟩
          simp [ah1 b hb.1, hah, m3]
      have b5 : exS (evE (callF tab (d + 6)) 60) 59 (.iff (.and (.cmp .isnot (.v 4) (.k .non)) (.not (.call li [(.call na [(.v 0), (.v 4)]), (.v 2)]))) [.ret (some (.k (.bl false)))] []) [some (PL n as zs), some OT, some (.int a), some (oI (nxO as zs a)), some (oI (nilM zs a))] S' = .nx [some (PL n as zs), some OT, some (.int a), some (oI (nxO as zs a)), some (oI (nilM zs a))] S' := by
        cases hx : nilM zs a with
        | none => simp
        | some b =>
          have hna : nilA zs b = some a := (nilA_iff V).mpr ((nil_iff V).mp hx)
          simp [na1, hna, m3]
      unfold c_law_turned_told_b0
      rw [ss_go b1, ss_go b2, ss_go b3, ss_go b4, ss_go b5, ss_nil])
    (by rw [List.length_map, rgI_len]; unfold turns; omega) (l := [some (PL n as zs), some OT, none, none, none]) (S := S) ⟨⟨_, _, _, rfl⟩, rfl⟩
  have e3 : exS (evE (callF tab (d + 6)) 60) 60 (c_law_turned_told_s0 tp pt li nx ni lt ah na) [some (PL n as zs), some OT, none, none, none] S' = .nx [some (PL n as zs), some OT, u, v, w] S' := by
    have q0 : evE (callF tab (d + 6)) 60 (.bi false .len [(.ix (.v 0) (.k (.int 1)))]) [some (PL n as zs), some OT, none, none, none] S' = .ok (.int (cnt as)) S' := by simp
    rw [c_law_turned_told_s0, s_for, i_rng, l_cons, q0, b_ok, l_nil, b_ok, b_ok, hr1]
    simp only [of_el, Option.elim_some, o_ok, q]
  rw [ss_step e1, ss_step e2, ss_step e3]
  refine ss_ret ?_
  simp [r4]

end Sp
end
section
set_option linter.all false
set_option linter.unusedSimpArgs false
/-! N7: draws as promises; shuffled -/
open Ev PySem L2
namespace Sp
def c_law_of (i_law_draw : Nat) : List CS := [
 .ret (some (.ix (.v 1) (.call i_law_draw [(.v 0), (.bi false .len [(.v 1)])])))]
def f_law_of (i_law_draw : Nat) : Fd := ⟨2, 2, c_law_of i_law_draw⟩
def c_law_shuffled_e0 (i_law_of : Nat) : CE := (.lc false [6] (.nm 6) (.of (.v 3)) [(.cmp .ne (.v 6) (.v 5))] (.v 6))
def c_law_shuffled_b0 (i_law_of : Nat) : List CS := [
 .asg (.nm 5) (.call i_law_of [(.v 0), (.v 3)]),
 .asg (.nm 3) (c_law_shuffled_e0 i_law_of),
 .ex (.me .append (.v 4) [(.v 5)])]
def c_law_shuffled_s0 (i_law_of : Nat) : CS := .fors (.nm 2) (.rng [(.v 1)]) (c_law_shuffled_b0 i_law_of)
def c_law_shuffled (i_law_of : Nat) : List CS := [
 .par [3, 4] [(.tr false false [(.v 1)]), (.lst true [])],
 (c_law_shuffled_s0 i_law_of),
 .ret (some (.bi false .tuple [(.v 4)]))]
def f_law_shuffled (i_law_of : Nat) : Fd := ⟨2, 7, c_law_shuffled i_law_of⟩
-- N7: draws as promises; shuffled
/-- all of a store but one cell is kept -/
def Fr (r : Nat) (S S' : Sto) : Prop := S.length ≤ S'.length ∧ ∀ i, i < S.length → i ≠ r → S'[i]? = S[i]?
theorem Fr.refl {r : Nat} {S : Sto} : Fr r S S := ⟨Nat.le_refl _, fun _ _ _ => rfl⟩
theorem Fr.trans {r : Nat} {S S' S'' : Sto} (h : Fr r S S') (h' : Fr r S' S'') : Fr r S S'' :=
  ⟨Nat.le_trans h.1 h'.1, fun i hi hr => by rw [h'.2 i (Nat.lt_of_lt_of_le hi h.1) hr, h.2 i hi hr]⟩
theorem Fr.set {r : Nat} {S : Sto} {c : Cell} : Fr r S (S.set r c) := ⟨by rw [List.length_set]; exact Nat.le_refl _, fun i hi hr => by rw [List.getElem?_set_ne (Ne.symm hr)]⟩
theorem Fr.app {r : Nat} {S T : Sto} : Fr r S (S ++ T) := ⟨by rw [List.length_append]; omega, fun i hi _ => by rw [List.getElem?_append_left hi]⟩
theorem Fr.cell {r i : Nat} {S S' : Sto} {c : Cell} (h : Fr r S S') (hc : S[i]? = some c) (hr : i ≠ r) : S'[i]? = some c := by
  rw [h.2 i (List.getElem?_eq_some_iff.mp hc).1 hr, hc]
theorem Fr.put {r q : Nat} {S S' : Sto} {c : Cell} (h : Fr r S S') (hq : S.length ≤ q) : Fr r S (S'.set q c) :=
  ⟨by rw [List.length_set]; exact h.1, fun i hi hr => by rw [List.getElem?_set_ne (by omega), h.2 i hi hr]⟩
def Stt (S : Sto) (r N : Nat) : Prop := ∃ m, S[r]? = some (.dk (dkv m)) ∧ OkDr N m
theorem OkDr.up {N M : Nat} {m : DrS} (h : OkDr N m) (hle : N ≤ M) : OkDr M m := ⟨h.ne, h.bits, ⟨h.spot.1, by have := h.spot.2; omega⟩, h.seed⟩
theorem Stt.up {S : Sto} {r N M : Nat} (h : Stt S r N) (hle : N ≤ M) : Stt S r M := by
  obtain ⟨m, h1, h2⟩ := h
  exact ⟨m, h1, h2.up hle⟩
theorem Stt.app {S T : Sto} {r N : Nat} (h : Stt S r N) : Stt (S ++ T) r N := by
  obtain ⟨m, h1, h2⟩ := h
  exact ⟨m, by rw [List.getElem?_append_left (List.getElem?_eq_some_iff.mp h1).1, h1], h2⟩
theorem Stt.lt {S : Sto} {r N : Nat} (h : Stt S r N) : r < S.length := by
  obtain ⟨m, h1, h2⟩ := h
  exact (List.getElem?_eq_some_iff.mp h1).1
theorem Stt.set {S : Sto} {r N q : Nat} {c : Cell} (h : Stt S r N) (hq : q ≠ r) : Stt (S.set q c) r N := by
  obtain ⟨m, h1, h2⟩ := h
  exact ⟨m, by rw [List.getElem?_set_ne hq, h1], h2⟩
theorem draw_spec {tab : List Fd} {f d : Nat} (h : tab[f]? = some f_law_draw) {S : Sto} {r N : Nat} (st : Stt S r N) (hN : N < 1000000000) {b : Int} (hb : 0 < b ∧ b < 1073741824) :
    ∃ v S', callF tab (d + 1) f [.ref r, .int b] S = .ok (.int v) S' ∧ (0 ≤ v ∧ v < b) ∧ Stt S' r (N + 1) ∧ Fr r S S' := by
  obtain ⟨m, h1, h2⟩ := st
  exact ⟨_, _, draw_run h h1 h2 hN hb, drawM_lt m hb.1, ⟨_, get_set h1, h2.step b⟩, Fr.set⟩
def OkOf (tab : List Fd) (f : Nat) : Prop := ∃ dr, tab[dr]? = some f_law_draw ∧ tab[f]? = some (f_law_of dr)
theorem of_spec {tab : List Fd} {f d : Nat} (h : OkOf tab f) {S : Sto} {r N : Nat} (st : Stt S r N) (hN : N < 1000000000) {ls : List Int} (hl : 0 < ls.length ∧ ls.length < 100000) :
    ∃ v S', callF tab (d + 2) f [.ref r, .lst (ls.map .int)] S = .ok (.int v) S' ∧ v ∈ ls ∧ Stt S' r (N + 1) ∧ Fr r S S' := by
  obtain ⟨dr, h1, h⟩ := h
  obtain ⟨v, S', e, ⟨v0, v1⟩, s1, f1⟩ := draw_spec (d := d) h1 st hN (b := (ls.length : Int)) (by omega)
  have hv : v.toNat < ls.length := by omega
  refine ⟨ls[v.toNat], S', ?_, List.getElem_mem hv, s1, f1⟩
  have ha : atI ls v = some ls[v.toNat] := by rw [at_nn v0, List.getElem?_eq_getElem hv]
  rw [call_body h rfl (l := [some (.ref r), some (.lst (ls.map .int))]) rfl]
  show (exSs (exS (evE (callF tab (d + 1)) 60) 60) (c_law_of dr) _ S).fin = _
  unfold c_law_of
  refine ss_ret ?_
  simp only [s_ret, e_ix, e_call, e_bi, l_cons, l_nil, e_v, List.getElem?_cons_zero, List.getElem?_cons_succ, Option.elim_some, b_ok, bi_len_l, List.length_map, mkR_f, e, ix_lst, at_map, ha, Option.map_some, of_el, o_ok]
def OkSh (tab : List Fd) (f : Nat) : Prop := ∃ o, OkOf tab o ∧ tab[f]? = some (f_law_shuffled o)
theorem shuf_spec {tab : List Fd} {f d : Nat} (h : OkSh tab f) {S : Sto} {r N : Nat} (st : Stt S r N) {c : Int} (hc : 0 ≤ c ∧ c ≤ 1000) (hN : N + 1000 < 1000000000) :
    ∃ (ps : List Int) (S' : Sto), callF tab (d + 3) f [.ref r, .int c] S = .ok (.tup (ps.map .int)) S' ∧ ps.Perm (rgI 0 c) ∧ Stt S' r (N + 1000) ∧ Fr r S S' := by
  obtain ⟨o, h1, h⟩ := h
  have hrlt := st.lt
  rw [call_body h rfl (l := [some (.ref r), some (.int c), none, none, none, none, none]) rfl]
  show ∃ ps S', (exSs (exS (evE (callF tab (d + 2)) 60) 60) (c_law_shuffled o) _ S).fin = _ ∧ _
  unfold c_law_shuffled
  have rok : rgOk 0 c = true := rgOk_ok (by omega)
  have rr : rgD 0 c = (rgI 0 c).map .int := rgD_int 0 c
  have e1 : exS (evE (callF tab (d + 2)) 60) 60 (.par [3, 4] [(.tr false false [(.v 1)]), (.lst true [])]) [some (.ref r), some (.int c), none, none, none, none, none] S
      = .nx [some (.ref r), some (.int c), none, some (.lst ((rgI 0 c).map .int)), some (.ref S.length), none, none] (S ++ [.lst []]) := by
    have q0 : evL (evE (callF tab (d + 2)) 59) [.v 1] [some (.ref r), some (.int c), none, none, none, none, none] S = .ok [.int c] S := by simp
    have q1 := tr_ok (F := callF tab (d + 2)) (n := 59) q0 rfl rok
    rw [s_par, l_cons, q1, rr]
    simp
  obtain ⟨l', S', q, L, F, hLF, hF, u, v, w, rfl, hcell, hst, hfr⟩ : ∃ l' S', forL (.rng 0 1 (c - 0).toNat) (.nm 2) (exSs (exS (evE (callF tab (d + 2)) 60) 59) (c_law_shuffled_b0 o)) turns 0 [some (.ref r), some (.int c), none, some (.lst ((rgI 0 c).map .int)), some (.ref S.length), none, none] (S ++ [.lst []]) = .nx l' S' ∧
      (∃ L F : List Int, (F ++ L).Perm (rgI 0 c) ∧ F.length = c.toNat ∧ ∃ u v w, l' = [some (.ref r), some (.int c), u, some (.lst (L.map .int)), some (.ref S.length), v, w] ∧ S'[S.length]? = some (.lst (F.map .int)) ∧ Stt S' r (N + 1000) ∧ Fr r S S') := by
    have key := forL_ind (row_rgI 0 c) (t := .nm 2) (body := exSs (exS (evE (callF tab (d + 2)) 60) 59) (c_law_shuffled_b0 o))
      (fun i l' S' => ∃ L F : List Int, (F ++ L).Perm (rgI 0 c) ∧ F.length = i ∧ ∃ u v, l' = [some (.ref r), some (.int c), u, some (.lst (L.map .int)), some (.ref S.length), v, none] ∧ S'[S.length]? = some (.lst (F.map .int)) ∧ Stt S' r (N + i) ∧ Fr r S S')
      (fun oo => ∃ l' S', oo = .nx l' S' ∧ (∃ L F : List Int, (F ++ L).Perm (rgI 0 c) ∧ F.length = c.toNat ∧ ∃ u v w, l' = [some (.ref r), some (.int c), u, some (.lst (L.map .int)), some (.ref S.length), v, w] ∧ S'[S.length]? = some (.lst (F.map .int)) ∧ Stt S' r (N + 1000) ∧ Fr r S S'))
      (by
        rintro i dd l' S' hd ⟨L, F, hp, hF, u, v, rfl, hcell, hst, hfr⟩
        have hi : i < c.toNat := by
          have := (List.getElem?_eq_some_iff.mp hd).1
          rw [List.length_map, rgI_len] at this; omega
        have hlen := hp.length_eq
        rw [List.length_append, rgI_len] at hlen
        obtain ⟨one, S1, e2, hm, s1, f1⟩ := of_spec (d := d) h1 hst (by omega) (ls := L) (by omega)
        refine ⟨_, asg_nm, ?_⟩
        have hnd : L.Nodup := (List.nodup_append.mp (hp.nodup_iff.mpr (rg_nodup 0 c))).2.1
        have c1 : S1[S.length]? = some (.lst (F.map .int)) := f1.cell hcell (by omega)
        have key := evC_tot (ev := evE (callF tab (d + 2)) 58) (tg := .nm 6) (ifs := [(.cmp .ne (.v 6) (.v 5))]) (elt := .v 6) (l := [some (.ref r), some (.int c), some dd, some (.lst (L.map .int)), some (.ref S.length), some (.int one), none]) (S := S1) (h := D.int) (ys := L) (row_vals (L.map .int)) (fun x => !decide (x = one)) (fun x => .int x)
          (fun q hq => ⟨[some (.ref r), some (.int c), some dd, some (.lst (L.map .int)), some (.ref S.length), some (.int one), some (.int q)], by simp, by
            simp
            by_cases hq : q = one <;> simp [hq], fun _ => by simp⟩) (by unfold turns; omega)
        have b1 : exS (evE (callF tab (d + 2)) 60) 59 (.asg (.nm 5) (.call o [(.v 0), (.v 3)])) [some (.ref r), some (.int c), some dd, some (.lst (L.map .int)), some (.ref S.length), v, none] S' = .nx [some (.ref r), some (.int c), some dd, some (.lst (L.map .int)), some (.ref S.length), some (.int one), none] S1 := by
          simp [e2]
        have b2 : exS (evE (callF tab (d + 2)) 60) 59 (.asg (.nm 3) (c_law_shuffled_e0 o)) [some (.ref r), some (.int c), some dd, some (.lst (L.map .int)), some (.ref S.length), some (.int one), none] S1 = .nx [some (.ref r), some (.int c), some dd, some (.lst ((L.filter fun x => !decide (x = one)).map .int)), some (.ref S.length), some (.int one), none] S1 := by
          have k2 : evE (callF tab (d + 2)) 60 (c_law_shuffled_e0 o) [some (.ref r), some (.int c), some dd, some (.lst (L.map .int)), some (.ref S.length), some (.int one), none] S1 = .ok (.lst ((L.filter fun x => !decide (x = one)).map .int)) S1 := by
            rw [c_law_shuffled_e0, e_lc]
            simp only [i_of, e_v, List.getElem?_cons_zero, List.getElem?_cons_succ, Option.elim_some, b_ok, of_el, src_l, Option.map_some, wipe_s, wipe_0, List.set_cons_succ, List.set_cons_zero]
            rw [show evE (callF tab (d + 2)) 59 = evE (callF tab (d + 2)) 59 from rfl]
            have key59 := evC_tot (ev := evE (callF tab (d + 2)) 59) (tg := .nm 6) (ifs := [(.cmp .ne (.v 6) (.v 5))]) (elt := .v 6) (l := [some (.ref r), some (.int c), some dd, some (.lst (L.map .int)), some (.ref S.length), some (.int one), none]) (S := S1) (h := D.int) (ys := L) (row_vals (L.map .int)) (fun x => !decide (x = one)) (fun x => .int x)
              (fun q hq => ⟨[some (.ref r), some (.int c), some dd, some (.lst (L.map .int)), some (.ref S.length), some (.int one), some (.int q)], by simp, by
                simp
                by_cases hq : q = one <;> simp [hq], fun _ => by simp⟩) (by unfold turns; omega)
            rw [key59, b_ok, mkR_f]
          rw [s_asg, k2]
          simp
        have b3 : exS (evE (callF tab (d + 2)) 60) 59 (.ex (.me .append (.v 4) [(.v 5)])) [some (.ref r), some (.int c), some dd, some (.lst ((L.filter fun x => !decide (x = one)).map .int)), some (.ref S.length), some (.int one), none] S1 = .nx [some (.ref r), some (.int c), some dd, some (.lst ((L.filter fun x => !decide (x = one)).map .int)), some (.ref S.length), some (.int one), none] (S1.set S.length (.lst ((F ++ [one]).map .int))) := by
          have hr : D.read S1 (.ref S.length) = .lst (F.map .int) := by simp [D.read, c1]
          have ha : appD (.ref S.length) [.int one] S1 = .ok .non (S1.set S.length (.lst ((F ++ [one]).map .int))) := by
            simp only [appD, c1]
            rw [if_pos (by rw [List.length_map]; unfold sizeLine; omega)]
            simp
          simp only [s_ex, e_me, e_v, l_cons, l_nil, List.getElem?_cons_zero, List.getElem?_cons_succ, Option.elim_some, b_ok, hr, isLst_l, if_true, me_app, ha, o_ok]
        unfold c_law_shuffled_b0
        rw [show (List.set [some (D.ref r), some (D.int c), u, some (D.lst (L.map .int)), some (D.ref S.length), v, none] 2 (some dd)) = [some (D.ref r), some (D.int c), some dd, some (D.lst (L.map .int)), some (D.ref S.length), v, none] from rfl, ss_go b1, ss_go b2, ss_go b3, ss_nil]
        refine ⟨L.filter fun x => !decide (x = one), F ++ [one], ?_, by rw [List.length_append, hF]; rfl, _, _, rfl, get_set c1, ?_, ?_⟩
        · have e5 : L.erase one = L.filter fun x => !decide (x = one) := by
            rw [List.Nodup.erase_eq_filter hnd]
            apply List.filter_congr
            intro x _
            by_cases hx : x = one <;> simp [hx]
          rw [← e5]
          have := (List.perm_cons_erase hm).symm
          refine List.Perm.trans ?_ hp
          rw [List.append_assoc]
          exact List.Perm.append_left F (by simpa using this)
        · exact (s1.set (by omega)).up (by omega)
        · exact (hfr.trans f1).put (Nat.le_refl _))
      (by
        rintro l' S' ⟨L, F, hp, hF, u, v, rfl, hcell, hst, hfr⟩
        rw [List.length_map, rgI_len] at hF hst
        exact ⟨_, _, rfl, L, F, hp, by omega, _, _, _, rfl, hcell, hst.up (by omega), hfr⟩)
    have := key _ 0 turns [some (.ref r), some (.int c), none, some (.lst ((rgI 0 c).map .int)), some (.ref S.length), none, none] (S ++ [.lst []]) rfl (Nat.zero_le _) (by rw [List.length_map, rgI_len]; unfold turns; omega) ⟨rgI 0 c, [], by simp, rfl, _, _, rfl, by simp, st.app, Fr.app⟩
    obtain ⟨l', S', e, L, F, hp, hF, u, v, w, rfl, h5, h6, h7⟩ := this
    exact ⟨_, S', e, L, F, hp, hF, u, v, w, rfl, h5, h6, h7⟩
  have hL : L = [] := by
    have := hLF.length_eq
    rw [List.length_append, rgI_len] at this
    exact List.length_eq_zero_iff.mp (by omega)
  subst hL
  rw [List.append_nil] at hLF
  have e2 : exS (evE (callF tab (d + 2)) 60) 60 (c_law_shuffled_s0 o) [some (.ref r), some (.int c), none, some (.lst ((rgI 0 c).map .int)), some (.ref S.length), none, none] (S ++ [.lst []]) = .nx [some (.ref r), some (.int c), u, some (.lst ([].map .int)), some (.ref S.length), v, w] S' := by
    rw [c_law_shuffled_s0, s_for]
    simp only [i_rng, l_cons, l_nil, e_v, List.getElem?_cons_zero, List.getElem?_cons_succ, Option.elim_some, b_ok, of_el, rngD_1 (b := c) (by omega), o_ok]
    exact q
  refine ⟨F, S', ?_, hLF, hst, hfr⟩
  rw [ss_step e1, ss_step e2]
  refine ss_ret ?_
  have hb : biD S' .tuple [.ref S.length] = some (.tup (F.map .int)) := by simp [biD, D.read, hcell]
  simp only [s_ret, e_bi, l_cons, l_nil, e_v, List.getElem?_cons_zero, List.getElem?_cons_succ, Option.elim_some, b_ok, hb, mkR_f, o_ok]

end Sp
end
section
set_option linter.all false
set_option linter.unusedSimpArgs false
/-! N8: round arrows, plans without an arrow, ended plans -/
open Ev PySem L2
namespace Sp
def c_law_round_arrow_b0 (i_law_next : Nat) : List CS := [
 .iff (.and (.cmp .isnot (.v 2) (.k .non)) (.cmp .ne (.v 2) (.v 1))) [
  .asg (.nm 2) (.call i_law_next [(.v 0), (.v 2)])] []]
def c_law_round_arrow_s0 (i_law_next : Nat) : CS := .fors (.nm 3) (.rng [(.bi false .len [(.ix (.v 0) (.k (.int 1)))])]) (c_law_round_arrow_b0 i_law_next)
def c_law_round_arrow_b1 (i_law_next : Nat) : List CS := [
 .asg (.nm 2) (.call i_law_next [(.v 0), (.v 1)]),
 (c_law_round_arrow_s0 i_law_next),
 .iff (.cmp .eq (.v 2) (.v 1)) [
  .ret (some (.v 1))] []]
def c_law_round_arrow_s1 (i_law_next : Nat) : CS := .fors (.nm 1) (.rng [(.bi false .len [(.ix (.v 0) (.k (.int 1)))])]) (c_law_round_arrow_b1 i_law_next)
def c_law_round_arrow (i_law_next : Nat) : List CS := [
 (c_law_round_arrow_s1 i_law_next),
 .ret (some (.k .non))]
def f_law_round_arrow (i_law_next : Nat) : Fd := ⟨1, 4, c_law_round_arrow i_law_next⟩
def c_law_without_e0  : CE := (.lc false [4] (.nm 4) (.rng [(.bi false .len [(.ix (.v 0) (.k (.int 1)))])]) [(.cmp .ne (.v 4) (.v 1))] (.ix (.ix (.v 0) (.k (.int 1))) (.v 4)))
def c_law_without_e1  : CE := (.lc false [5] (.nm 5) (.of (.ix (.v 0) (.k (.int 2)))) [(.cmp .notin (.v 1) (.v 5))] (.v 5))
def c_law_without_e2  : CE := (.lc false [6, 7] (.tp [(.nm 6), (.nm 7)]) (.of (.v 3)) [] (.tup [(.bin .sub (.v 6) (.ife (.cmp .gt (.v 6) (.v 1)) (.k (.int 1)) (.k (.int 0)))), (.bin .sub (.v 7) (.ife (.cmp .gt (.v 7) (.v 1)) (.k (.int 1)) (.k (.int 0))))]))
def c_law_without  : List CS := [
 .asg (.nm 2) c_law_without_e0,
 .asg (.nm 3) c_law_without_e1,
 .asg (.nm 3) c_law_without_e2,
 .ret (some (.tup [(.ix (.v 0) (.k (.int 0))), (.bi false .tuple [(.v 2)]), (.bi false .tuple [(.bi false .sorted [(.v 3)])])]))]
def f_law_without  : Fd := ⟨2, 8, c_law_without ⟩
def c_law_ended_b0 (i_law_round_arrow i_law_without : Nat) : List CS := [
 .asg (.nm 2) (.call i_law_round_arrow [(.v 0)]),
 .iff (.cmp .isnot (.v 2) (.k .non)) [
  .asg (.nm 0) (.call i_law_without [(.v 0), (.v 2)])] []]
def c_law_ended_s0 (i_law_round_arrow i_law_without : Nat) : CS := .fors (.nm 1) (.rng [(.bi false .len [(.ix (.v 0) (.k (.int 1)))])]) (c_law_ended_b0 i_law_round_arrow i_law_without)
def c_law_ended (i_law_round_arrow i_law_without : Nat) : List CS := [
 (c_law_ended_s0 i_law_round_arrow i_law_without),
 .ret (some (.v 0))]
def f_law_ended (i_law_round_arrow i_law_without : Nat) : Fd := ⟨1, 3, c_law_ended i_law_round_arrow i_law_without⟩
-- N8: round arrows, plans without an arrow, ended plans
theorem c_ne_oI {S : Sto} (o : Option Int) (a : Int) : cmpD S .ne (oI o) (.int a) = some (!decide (o = some a)) := by
  cases o with
  | none => rfl
  | some x => simp
theorem nx_in {as zs : List P2} {a b : Int} (h : nxO as zs a = some b) : inA as b := mem_rgI.mp (List.mem_of_find?_eq_some h)
def OkRA (tab : List Fd) (f : Nat) : Prop := ∃ ln, OkLN tab ln ∧ tab[f]? = some (f_law_round_arrow ln)
theorem ra_run {tab : List Fd} {f d : Nat} (h : OkRA tab f) (n : Int) (as zs : List P2) (hl : as.length ≤ 60) (S : Sto) :
    ∃ o : Option Int, callF tab (d + 5) f [PL n as zs] S = .ok (oI o) S ∧ ∀ a, o = some a → inA as a := by
  obtain ⟨ln, h1, h⟩ := h
  have hc : cnt as = (as.length : Int) := rfl
  rw [call_body h rfl (l := [some (PL n as zs), none, none, none]) rfl]
  show ∃ o : Option Int, (exSs (exS (evE (callF tab (d + 4)) 60) 60) (c_law_round_arrow ln) _ S).fin = _ ∧ _
  unfold c_law_round_arrow
  have rln : ∀ b, inA as b → ∀ S, callF tab (d + 4) ln [PL n as zs, .int b] S = .ok (oI (nxO as zs b)) S := fun b hb S => lnx_run h1 n as zs (by omega) b _ (lnx_O hb) S
  have hr1 := rngD_1 (b := cnt as) (by omega)
  have q0 : ∀ x1 x2 x3 k, evE (callF tab (d + 4)) (k + 10) (.bi false .len [(.ix (.v 0) (.k (.int 1)))]) [some (PL n as zs), x1, x2, x3] S = .ok (.int (cnt as)) S := fun x1 x2 x3 k => by simp
  have inner : ∀ (a : Int) (o : Option Int) (x3 : Option D), (∀ b, o = some b → inA as b) → ∃ (o' : Option Int) (y3 : Option D), (∀ b, o' = some b → inA as b) ∧ exS (evE (callF tab (d + 4)) 60) 59 (c_law_round_arrow_s0 ln) [some (PL n as zs), some (.int a), some (oI o), x3] S = .nx [some (PL n as zs), some (.int a), some (oI o'), y3] S := fun a o x3 ho => by
    obtain ⟨l', S', e, ⟨o', y3, rfl, ho'⟩, rfl⟩ := forL_all (row_rgI 0 (cnt as)) (t := .nm 3) (body := exSs (exS (evE (callF tab (d + 4)) 60) 58) (c_law_round_arrow_b0 ln))
      (fun l' S' => (∃ (o' : Option Int) (y3 : Option D), l' = [some (PL n as zs), some (.int a), some (oI o'), y3] ∧ ∀ b, o' = some b → inA as b) ∧ S' = S)
      (by
        rintro k dd l' S' hd ⟨⟨o', y3, rfl, ho'⟩, rfl⟩
        cases o' with
        | none =>
          refine ⟨_, asg_nm, [some (PL n as zs), some (.int a), some (oI none), some dd], S', ?_, ⟨none, _, rfl, fun b z => by cases z⟩, rfl⟩
          unfold c_law_round_arrow_b0
          simp
        | some b =>
          by_cases hb : b = a
          · refine ⟨_, asg_nm, [some (PL n as zs), some (.int a), some (oI (some b)), some dd], S', ?_, ⟨some b, _, rfl, ho'⟩, rfl⟩
            unfold c_law_round_arrow_b0
            simp [hb]
          · refine ⟨_, asg_nm, [some (PL n as zs), some (.int a), some (oI (nxO as zs b)), some dd], S', ?_, ⟨nxO as zs b, _, rfl, fun c hc => nx_in hc⟩, rfl⟩
            unfold c_law_round_arrow_b0
            simp [hb, rln b (ho' b rfl)])
      (by rw [List.length_map, rgI_len]; unfold turns; omega) (l := [some (PL n as zs), some (.int a), some (oI o), x3]) (S := S) ⟨⟨o, x3, rfl, ho⟩, rfl⟩
    refine ⟨o', y3, ho', ?_⟩
    rw [c_law_round_arrow_s0, s_for, i_rng, l_cons, q0 _ _ _ 50, b_ok, l_nil, b_ok, b_ok, hr1]
    simp only [of_el, Option.elim_some, o_ok]
    exact e
  have key := forL_ind (row_rgI 0 (cnt as)) (t := .nm 1) (body := exSs (exS (evE (callF tab (d + 4)) 60) 59) (c_law_round_arrow_b1 ln))
    (fun i l' S' => S' = S ∧ ∃ u v w, l' = [some (PL n as zs), u, v, w]) (fun oo => (∃ l', oo = .nx l' S) ∨ ∃ a, inA as a ∧ oo = .rt (.int a) S)
    (by
      rintro i dd l' S' hd ⟨rfl, u, v, w, rfl⟩
      obtain ⟨a, ha, rfl⟩ := List.mem_map.mp (List.mem_of_getElem? hd)
      have ha' : inA as a := mem_rgI.mp ha
      refine ⟨[some (PL n as zs), some (.int a), v, w], by simp, ?_⟩
      obtain ⟨o', y3, ho', e⟩ := inner a (nxO as zs a) w (fun b hb => nx_in hb)
      have b1 : exS (evE (callF tab (d + 4)) 60) 59 (.asg (.nm 2) (.call ln [(.v 0), (.v 1)])) [some (PL n as zs), some (.int a), v, w] S' = .nx [some (PL n as zs), some (.int a), some (oI (nxO as zs a)), w] S' := by
        simp [rln a ha']
      unfold c_law_round_arrow_b1
      rw [ss_go b1, ss_go e]
      by_cases hb : o' = some a
      · subst hb
        simp
        exact ha'
      · have : cmpD S' .eq (oI o') (.int a) = some false := by rw [c_eq_oI, decide_eq_false hb]
        simp [this])
    (fun l' S' hp => .inl ⟨l', by rw [hp.1]⟩) _ 0 turns [some (PL n as zs), none, none, none] S rfl (Nat.zero_le _) (by rw [List.length_map, rgI_len]; unfold turns; omega) ⟨rfl, _, _, _, rfl⟩
  have e1 : exS (evE (callF tab (d + 4)) 60) 60 (c_law_round_arrow_s1 ln) [some (PL n as zs), none, none, none] S = forL (.rng 0 1 (cnt as - 0).toNat) (.nm 1) (exSs (exS (evE (callF tab (d + 4)) 60) 59) (c_law_round_arrow_b1 ln)) turns 0 [some (PL n as zs), none, none, none] S := by
    rw [c_law_round_arrow_s1, s_for, i_rng, l_cons, q0 _ _ _ 50, b_ok, l_nil, b_ok, b_ok, hr1]
    simp only [of_el, Option.elim_some, o_ok]
  rcases key with ⟨l', hk⟩ | ⟨a, ha, hk⟩
  · refine ⟨none, ?_, fun a z => by cases z⟩
    rw [ss_cons, e1, hk]
    simp
  · refine ⟨some a, ?_, fun b z => by cases z; exact ha⟩
    rw [ss_cons, e1, hk]
    simp
/-! without -/
def un (a i : Int) : Int := if i < a then i else i + 1
def sh (a x : Int) : Int := x - (if a < x then 1 else 0)
def woA (as : List P2) (a : Int) : List P2 := ((rgI 0 (cnt as)).filter fun k => !decide (k = a)).map (ar as)
def woZ (zs : List P2) (a : Int) : List P2 := sortP ((zs.filter fun z => !(decide (z.1 = a) || decide (z.2 = a))).map fun z => (sh a z.1, sh a z.2))
theorem un_sh {a x : Int} (h : x ≠ a) : un a (sh a x) = x := by
  unfold un sh
  by_cases h1 : a < x
  · rw [if_pos h1, if_neg (by omega)]; omega
  · rw [if_neg h1, if_pos (by omega)]; omega
theorem sh_un (a i : Int) : sh a (un a i) = i := by
  unfold un sh
  by_cases h1 : i < a
  · rw [if_pos h1, if_neg (by omega)]; omega
  · rw [if_neg h1, if_pos (by omega)]; omega
theorem un_ne (a i : Int) : un a i ≠ a := by
  unfold un
  split <;> omega
theorem un_inj {a i j : Int} (h : un a i = un a j) : i = j := by rw [← sh_un a i, h, sh_un]
theorem rg_filter {c a : Int} (ha : 0 ≤ a ∧ a < c) : (rgI 0 c).filter (fun k => !decide (k = a)) = rgI 0 a ++ rgI (a + 1) c := by
  rw [rgI_append (b := a) ha.1 (by omega), rgI_cons ha.2, List.filter_append, List.filter_cons]
  have e1 : (rgI 0 a).filter (fun k => !decide (k = a)) = rgI 0 a := by
    rw [List.filter_eq_self]
    intro x hx
    have := mem_rgI.mp hx
    simp; omega
  have e2 : (rgI (a + 1) c).filter (fun k => !decide (k = a)) = rgI (a + 1) c := by
    rw [List.filter_eq_self]
    intro x hx
    have := mem_rgI.mp hx
    simp; omega
  rw [e1, e2]
  simp
theorem wo_len {as : List P2} {a : Int} (ha : inA as a) : cnt (woA as a) = cnt as - 1 := by
  obtain ⟨h1, h2⟩ := ha
  unfold woA
  rw [rg_filter ⟨h1, h2⟩]
  show (((rgI 0 a ++ rgI (a + 1) (cnt as)).map (ar as)).length : Int) = _
  rw [List.length_map, List.length_append, rgI_len, rgI_len]
  omega
theorem rgI_get {a b : Int} {k : Nat} (h : a + k < b) : (rgI a b)[k]? = some (a + k) := by
  unfold rgI
  rw [List.getElem?_map, List.getElem?_range (by omega)]
  rfl
theorem wo_ar {as : List P2} {a i : Int} (ha : inA as a) (hi : inA (woA as a) i) : ar (woA as a) i = ar as (un a i) ∧ inA as (un a i) := by
  have hlen := wo_len ha
  obtain ⟨h1, h2⟩ := ha
  obtain ⟨h3, h4⟩ := hi
  rw [hlen] at h4
  unfold un
  by_cases h5 : i < a
  · rw [if_pos h5]
    refine ⟨?_, h3, by omega⟩
    have : (woA as a)[i.toNat]? = some (ar as i) := by
      unfold woA
      rw [rg_filter ⟨h1, h2⟩, List.getElem?_map, List.getElem?_append_left (by rw [rgI_len]; omega), rgI_get (by omega), Option.map_some]
      congr 2; omega
    show ((woA as a)[i.toNat]?).getD (0, 0) = _
    rw [this]; rfl
  · rw [if_neg h5]
    refine ⟨?_, by omega, by omega⟩
    have : (woA as a)[i.toNat]? = some (ar as (i + 1)) := by
      unfold woA
      rw [rg_filter ⟨h1, h2⟩, List.getElem?_map, List.getElem?_append_right (by rw [rgI_len]; omega), rgI_len, rgI_get (by omega), Option.map_some]
      congr 2; omega
    show ((woA as a)[i.toNat]?).getD (0, 0) = _
    rw [this]; rfl
theorem wo_mem {zs : List P2} {a x y : Int} : (x, y) ∈ woZ zs a ↔ (un a x, un a y) ∈ zs := by
  unfold woZ
  rw [(sortP_perm _).mem_iff, List.mem_map]
  constructor
  · rintro ⟨z, hz, e⟩
    obtain ⟨h1, h2⟩ := List.mem_filter.mp hz
    simp only [Bool.not_eq_true', Bool.or_eq_false_iff, decide_eq_false_iff_not] at h2
    have e1 : sh a z.1 = x := congrArg Prod.fst e
    have e2 : sh a z.2 = y := congrArg Prod.snd e
    rw [← e1, ← e2, un_sh h2.1, un_sh h2.2]
    exact h1
  · intro h
    refine ⟨_, List.mem_filter.mpr ⟨h, ?_⟩, by rw [sh_un, sh_un]⟩
    simp [un_ne]
theorem Vp.without {n : Int} {as zs : List P2} (V : Vp n as zs) {a : Int} (ha : inA as a) : Vp n (woA as a) (woZ zs a) := by
  have hlen := wo_len ha
  have hc : cnt as = (as.length : Int) := rfl
  have hc' : cnt (woA as a) = ((woA as a).length : Int) := rfl
  have hl := V.len
  have hz : (woZ zs a).length ≤ zs.length := by
    unfold woZ
    rw [(sortP_perm _).length_eq, List.length_map]
    exact List.length_filter_le _ _
  refine ⟨by omega, Nat.le_trans hz V.zlen, V.size, fun i hi => ?_, fun x y h => ?_, fun x y z h1 h2 => ?_, fun x y z h1 h2 => ?_, fun x y z hx hy hz h1 h2 h3 h4 => ?_, fun x y z hx hy hz h1 h2 h3 h4 => ?_, fun x y z hx hy hz h1 h2 h3 h4 => ?_, fun x y z hx hy hz h1 h2 h3 h4 => ?_, ?_⟩
  · obtain ⟨e, hi'⟩ := wo_ar ha hi
    rw [e]
    exact V.pts _ hi'
  · have hm := wo_mem.mp h
    obtain ⟨q1, q2, q3⟩ := V.zin _ _ hm
    have back : ∀ i, inA as (un a i) → inA (woA as a) i := fun i hi => by
      obtain ⟨w1, w2⟩ := hi
      obtain ⟨a1, a2⟩ := ha
      refine ⟨?_, ?_⟩
      · unfold un at w1; split at w1 <;> omega
      · rw [hlen]; unfold un at w2; split at w2 <;> omega
    have hx := back x q1
    have hy := back y q2
    refine ⟨hx, hy, ?_⟩
    rw [(wo_ar ha hx).1, (wo_ar ha hy).1]
    exact q3
  · exact un_inj (V.z1 _ _ _ (wo_mem.mp h1) (wo_mem.mp h2))
  · exact un_inj (V.z2 _ _ _ (wo_mem.mp h1) (wo_mem.mp h2))
  · obtain ⟨ex, ix⟩ := wo_ar ha hx
    obtain ⟨ey, iy⟩ := wo_ar ha hy
    obtain ⟨ez, iz⟩ := wo_ar ha hz
    rw [ex, ey] at h1
    rw [ex, ez] at h2
    exact un_inj (V.o1 _ _ _ ix iy iz h1 h2 (fun w => h3 (wo_mem.mpr w)) (fun w => h4 (wo_mem.mpr w)))
  · obtain ⟨ex, ix⟩ := wo_ar ha hx
    obtain ⟨ey, iy⟩ := wo_ar ha hy
    obtain ⟨ez, iz⟩ := wo_ar ha hz
    rw [ex, ey] at h1
    rw [ex, ez] at h2
    exact un_inj (V.o2 _ _ _ ix iy iz h1 h2 (fun w => h3 (wo_mem.mpr w)) (fun w => h4 (wo_mem.mpr w)))
  · obtain ⟨ex, ix⟩ := wo_ar ha hx
    obtain ⟨ey, iy⟩ := wo_ar ha hy
    obtain ⟨ez, iz⟩ := wo_ar ha hz
    rw [ex, ey] at h1
    rw [ex, ez] at h2
    exact un_inj (V.t1 _ _ _ ix iy iz h1 h2 (fun w => h3 (un_inj w)) (fun w => h4 (un_inj w)))
  · obtain ⟨ex, ix⟩ := wo_ar ha hx
    obtain ⟨ey, iy⟩ := wo_ar ha hy
    obtain ⟨ez, iz⟩ := wo_ar ha hz
    rw [ex, ey] at h1
    rw [ex, ez] at h2
    exact un_inj (V.t2 _ _ _ ix iy iz h1 h2 (fun w => h3 (un_inj w)) (fun w => h4 (un_inj w)))
  · refine sortP_lt ?_
    rw [List.Nodup, List.pairwise_map]
    refine List.Pairwise.imp_of_mem ?_ ((lt_nodup V.srt).filter _)
    intro p q hp hq hne e
    have h1 := (List.mem_filter.mp hp).2
    have h2 := (List.mem_filter.mp hq).2
    simp only [Bool.not_eq_true', Bool.or_eq_false_iff, decide_eq_false_iff_not] at h1 h2
    have e1 : sh a p.1 = sh a q.1 := congrArg Prod.fst e
    have e2 : sh a p.2 = sh a q.2 := congrArg Prod.snd e
    refine hne (Prod.ext ?_ ?_)
    · rw [← un_sh h1.1, e1, un_sh h2.1]
    · rw [← un_sh h1.2, e2, un_sh h2.2]
theorem notin_two {S : Sto} (a x y : Int) : cmpD S .notin (.int a) (.tup [.int x, .int y]) = some (!(decide (x = a) || decide (y = a))) := by
  have h1 : SeqAt.shaped (.tuple [.int x, .int y]) = true := shaped_pr x y
  have h2 : SeqAt.shaped (.int a) = true := rfl
  simp only [cmpD, inD, D.deep, D.deeps, D.py, D.pys, h1, h2, Bool.and_self, if_true, List.any_cons, List.any_nil, Option.map_some, PyData.eqv, Bool.or_false]
  rfl
theorem wo_run {tab : List Fd} {f d : Nat} (h : tab[f]? = some f_law_without) {n : Int} {as zs : List P2} (V : Vp n as zs) {a : Int} (ha : inA as a) (S : Sto) :
    callF tab (d + 1) f [PL n as zs, .int a] S = .ok (PL n (woA as a) (woZ zs a)) S := by
  have hc : cnt as = (as.length : Int) := rfl
  have hl := V.len
  have hzl := V.zlen
  rw [call_body h rfl (l := [some (PL n as zs), some (.int a), none, none, none, none, none, none]) rfl]
  show (exSs (exS (evE (callF tab d) 60) 60) c_law_without _ S).fin = _
  unfold c_law_without
  have hr1 := rngD_1 (b := cnt as) (by omega)
  have k1 := evC_tot (ev := evE (callF tab d) 59) (tg := .nm 4) (ifs := [(.cmp .ne (.v 4) (.v 1))]) (elt := (.ix (.ix (.v 0) (.k (.int 1))) (.v 4))) (l := [some (PL n as zs), some (.int a), none, none, none, none, none, none]) (S := S) (h := D.int) (ys := rgI 0 (cnt as)) (row_rgI _ _) (fun k => !decide (k = a)) (fun k => prD (ar as k))
    (fun q hq => ⟨[some (PL n as zs), some (.int a), none, none, some (.int q), none, none, none], by simp, by simp; by_cases hqa : q = a <;> simp [hqa], fun _ => by simp [at_ar (as := as) (mem_rgI.mp hq)]⟩) (by rw [rgI_len]; unfold turns; omega)
  rw [show ((rgI 0 (cnt as)).filter fun k => !decide (k = a)).map (fun k => prD (ar as k)) = (woA as a).map prD by unfold woA; rw [List.map_map]; rfl] at k1
  have q0 : evE (callF tab d) 59 (.bi false .len [(.ix (.v 0) (.k (.int 1)))]) [some (PL n as zs), some (.int a), none, none, none, none, none, none] S = .ok (.int (cnt as)) S := by simp
  have e1 : exS (evE (callF tab d) 60) 60 (.asg (.nm 2) c_law_without_e0) [some (PL n as zs), some (.int a), none, none, none, none, none, none] S = .nx [some (PL n as zs), some (.int a), some (.lst ((woA as a).map prD)), none, none, none, none, none] S := by
    rw [s_asg, c_law_without_e0, e_lc, i_rng, l_cons, q0, b_ok, l_nil, b_ok, b_ok, hr1]
    simp only [of_el, Option.elim_some, b_ok, wipe_s, wipe_0, List.set_cons_succ, List.set_cons_zero, k1, mkR_f, o_ok, asg_nm]
  have k2 := evC_tot (ev := evE (callF tab d) 59) (tg := .nm 5) (ifs := [(.cmp .notin (.v 1) (.v 5))]) (elt := .v 5) (l := [some (PL n as zs), some (.int a), some (.lst ((woA as a).map prD)), none, none, none, none, none]) (S := S) (h := prD) (ys := zs) (row_vals _) (fun z => !(decide (z.1 = a) || decide (z.2 = a))) (fun z => prD z)
    (fun q hq => ⟨[some (PL n as zs), some (.int a), some (.lst ((woA as a).map prD)), none, none, some (prD q), none, none], by simp, by
      simp [notin_two]
      by_cases h1 : q.1 = a <;> by_cases h2 : q.2 = a <;> simp [h1, h2], fun _ => by simp⟩) (by unfold turns; omega)
  generalize hks : (zs.filter fun z => !(decide (z.1 = a) || decide (z.2 = a))) = ks at k2
  have e2 : exS (evE (callF tab d) 60) 60 (.asg (.nm 3) c_law_without_e1) [some (PL n as zs), some (.int a), some (.lst ((woA as a).map prD)), none, none, none, none, none] S = .nx [some (PL n as zs), some (.int a), some (.lst ((woA as a).map prD)), some (.lst (ks.map prD)), none, none, none, none] S := by
    rw [s_asg, c_law_without_e1, e_lc]
    simp only [i_of, e_ix, e_v, e_k, List.getElem?_cons_zero, Option.elim_some, b_ok, ixT, at_2, of_el, src_t, Option.map_some, wipe_s, wipe_0, List.set_cons_succ, List.set_cons_zero, k2, mkR_f, o_ok, asg_nm]
  have hkl : ks.length < turns := by
    rw [← hks]
    have := List.length_filter_le (fun z : P2 => !(decide (z.1 = a) || decide (z.2 = a))) zs
    unfold turns; omega
  have k3 := evC_all (ev := evE (callF tab d) 59) (tg := .tp [(.nm 6), (.nm 7)]) (elt := (.tup [(.bin .sub (.v 6) (.ife (.cmp .gt (.v 6) (.v 1)) (.k (.int 1)) (.k (.int 0)))), (.bin .sub (.v 7) (.ife (.cmp .gt (.v 7) (.v 1)) (.k (.int 1)) (.k (.int 0))))])) (l := [some (PL n as zs), some (.int a), some (.lst ((woA as a).map prD)), some (.lst (ks.map prD)), none, none, none, none]) (S := S) (h := prD) (ys := ks) (row_vals _) (fun z => prD (sh a z.1, sh a z.2))
    (fun q hq => ⟨[some (PL n as zs), some (.int a), some (.lst ((woA as a).map prD)), some (.lst (ks.map prD)), none, none, some (.int q.1), some (.int q.2)], by simp, by
      by_cases h1 : a < q.1 <;> by_cases h2 : a < q.2 <;> simp [h1, h2, sh]⟩) hkl
  rw [show ks.map (fun z => prD (sh a z.1, sh a z.2)) = (ks.map fun z => (sh a z.1, sh a z.2)).map prD by rw [List.map_map]; rfl] at k3
  have e3 : exS (evE (callF tab d) 60) 60 (.asg (.nm 3) c_law_without_e2) [some (PL n as zs), some (.int a), some (.lst ((woA as a).map prD)), some (.lst (ks.map prD)), none, none, none, none] S = .nx [some (PL n as zs), some (.int a), some (.lst ((woA as a).map prD)), some (.lst ((ks.map fun z => (sh a z.1, sh a z.2)).map prD)), none, none, none, none] S := by
    rw [s_asg, c_law_without_e2, e_lc]
    simp only [i_of, e_v, List.getElem?_cons_zero, List.getElem?_cons_succ, Option.elim_some, b_ok, of_el, src_l, Option.map_some, wipe_s, wipe_0, List.set_cons_succ, List.set_cons_zero, k3, mkR_f, o_ok, asg_nm]
  rw [ss_step e1, ss_step e2, ss_step e3]
  refine ss_ret ?_
  have hso : ∀ ps : List P2, biD S .sorted [.lst (ps.map prD)] = some (.lst ((sortP ps).map prD)) := fun ps => by
    simp only [biD, D.read]
    rw [if_pos (sortOk_p _), sortD_p]
  unfold woZ
  rw [hks]
  simp only [s_ret, e_tup, l_cons, l_nil, e_bi, e_ix, e_v, e_k, List.getElem?_cons_zero, List.getElem?_cons_succ, Option.elim_some, b_ok, ixT, at_0, of_el, hso, mkR_f, bi_tup_l, List.length_cons, List.length_nil, Nat.zero_add, Nat.reduceAdd, len3, if_true, o_ok]
/-! ended -/
def OkEd (tab : List Fd) (f : Nat) : Prop := ∃ ra wo, OkRA tab ra ∧ tab[wo]? = some f_law_without ∧ tab[f]? = some (f_law_ended ra wo)
theorem ended_run {tab : List Fd} {f d : Nat} (h : OkEd tab f) {n : Int} {as zs : List P2} (V : Vp n as zs) (S : Sto) :
    ∃ as' zs', callF tab (d + 6) f [PL n as zs] S = .ok (PL n as' zs') S ∧ Vp n as' zs' := by
  obtain ⟨ra, wo, h1, h2, h⟩ := h
  have hc : cnt as = (as.length : Int) := rfl
  have hl := V.len
  rw [call_body h rfl (l := [some (PL n as zs), none, none]) rfl]
  show ∃ as' zs', (exSs (exS (evE (callF tab (d + 5)) 60) 60) (c_law_ended ra wo) _ S).fin = _ ∧ _
  unfold c_law_ended
  have hr1 := rngD_1 (b := cnt as) (by omega)
  obtain ⟨l', S', e, ⟨as', zs', u, v, rfl, V'⟩, rfl⟩ := forL_all (row_rgI 0 (cnt as)) (t := .nm 1) (body := exSs (exS (evE (callF tab (d + 5)) 60) 59) (c_law_ended_b0 ra wo))
    (fun l' S' => (∃ as' zs' u v, l' = [some (PL n as' zs'), u, v] ∧ Vp n as' zs') ∧ S' = S)
    (by
      rintro k dd l' S' hd ⟨⟨as', zs', u, v, rfl, V'⟩, rfl⟩
      obtain ⟨o, r1, ho⟩ := ra_run (d := d) h1 n as' zs' V'.len S'
      have b1 : exS (evE (callF tab (d + 5)) 60) 59 (.asg (.nm 2) (.call ra [(.v 0)])) [some (PL n as' zs'), some dd, v] S' = .nx [some (PL n as' zs'), some dd, some (oI o)] S' := by
        simp [r1]
      cases o with
      | none =>
        refine ⟨_, asg_nm, [some (PL n as' zs'), some dd, some .non], S', ?_, ⟨as', zs', _, _, rfl, V'⟩, rfl⟩
        unfold c_law_ended_b0
        rw [show List.set [some (PL n as' zs'), u, v] 1 (some dd) = [some (PL n as' zs'), some dd, v] from rfl, ss_go b1]
        simp
      | some a =>
        have ha := ho a rfl
        refine ⟨_, asg_nm, [some (PL n (woA as' a) (woZ zs' a)), some dd, some (.int a)], S', ?_, ⟨_, _, _, _, rfl, V'.without ha⟩, rfl⟩
        have r2 := wo_run (d := d + 4) h2 V' ha S'
        unfold c_law_ended_b0
        rw [show List.set [some (PL n as' zs'), u, v] 1 (some dd) = [some (PL n as' zs'), some dd, v] from rfl, ss_go b1]
        simp [r2])
    (by rw [List.length_map, rgI_len]; unfold turns; omega) (l := [some (PL n as zs), none, none]) (S := S) ⟨⟨as, zs, _, _, rfl, V⟩, rfl⟩
  have q0 : evE (callF tab (d + 5)) 60 (.bi false .len [(.ix (.v 0) (.k (.int 1)))]) [some (PL n as zs), none, none] S' = .ok (.int (cnt as)) S' := by simp
  have e1 : exS (evE (callF tab (d + 5)) 60) 60 (c_law_ended_s0 ra wo) [some (PL n as zs), none, none] S' = .nx [some (PL n as' zs'), u, v] S' := by
    rw [c_law_ended_s0, s_for, i_rng, l_cons, q0, b_ok, l_nil, b_ok, b_ok, hr1]
    simp only [of_el, Option.elim_some, o_ok, e]
  refine ⟨as', zs', ?_, V'⟩
  rw [ss_step e1]
  simp

end Sp
end
section
set_option linter.all false
set_option linter.unusedSimpArgs false
/-! N9: noughts over rows -/
open Ev PySem L2
namespace Sp

-- N9: noughts over rows
structure Rw (n : Int) (rs : List P2) : Prop where
  len : rs.length ≤ 60
  size : 1 ≤ n ∧ n ≤ 100
  pts : ∀ i, inA rs i → 0 ≤ (ar rs i).1 ∧ (ar rs i).1 < n ∧ 0 ≤ (ar rs i).2 ∧ (ar rs i).2 < n
  t1 : ∀ a b c, inA rs a → inA rs b → inA rs c → (ar rs b).1 = (ar rs a).1 → (ar rs c).1 = (ar rs a).1 → b ≠ a → c ≠ a → b = c
  t2 : ∀ a b c, inA rs a → inA rs b → inA rs c → (ar rs b).2 = (ar rs a).2 → (ar rs c).2 = (ar rs a).2 → b ≠ a → c ≠ a → b = c
def insL (rs : List P2) (p : Int) : List Int := (rgI 0 (cnt rs)).filter fun a => decide ((ar rs a).2 = p)
def outL (rs : List P2) (p : Int) : List Int := (rgI 0 (cnt rs)).filter fun a => decide ((ar rs a).1 = p)
theorem mem_ins {rs : List P2} {p a : Int} : a ∈ insL rs p ↔ inA rs a ∧ (ar rs a).2 = p := by
  unfold insL
  rw [List.mem_filter, mem_rgI, decide_eq_true_eq]; rfl
theorem mem_out {rs : List P2} {p a : Int} : a ∈ outL rs p ↔ inA rs a ∧ (ar rs a).1 = p := by
  unfold outL
  rw [List.mem_filter, mem_rgI, decide_eq_true_eq]; rfl
theorem two_most {L : List Int} (hn : L.Nodup) (h : ∀ a ∈ L, ∀ b ∈ L, ∀ c ∈ L, b ≠ a → c ≠ a → b = c) : L = [] ∨ (∃ x, L = [x]) ∨ ∃ x y, x ≠ y ∧ L = [x, y] := by
  cases L with
  | nil => exact .inl rfl
  | cons x L =>
    cases L with
    | nil => exact .inr (.inl ⟨x, rfl⟩)
    | cons y L =>
      have h1 := List.nodup_cons.mp hn
      have h2 := List.nodup_cons.mp h1.2
      have hxy : x ≠ y := fun z => h1.1 (z ▸ List.mem_cons_self)
      cases L with
      | nil => exact .inr (.inr ⟨x, y, hxy, rfl⟩)
      | cons z L =>
        exfalso
        have hxz : x ≠ z := fun w => h1.1 (w ▸ List.mem_cons_of_mem _ List.mem_cons_self)
        have hyz : y ≠ z := fun w => h2.1 (w ▸ List.mem_cons_self)
        exact hyz (h x (by simp) y (by simp) z (by simp) (Ne.symm hxy) (Ne.symm hxz))
theorem ins_two {n : Int} {rs : List P2} (R : Rw n rs) (p : Int) : insL rs p = [] ∨ (∃ x, insL rs p = [x]) ∨ ∃ x y, x ≠ y ∧ insL rs p = [x, y] :=
  two_most ((rg_nodup _ _).filter _) fun a ha b hb c hc h1 h2 => by
    have ha := mem_ins.mp ha
    have hb := mem_ins.mp hb
    have hc := mem_ins.mp hc
    exact R.t2 a b c ha.1 hb.1 hc.1 (by rw [hb.2, ha.2]) (by rw [hc.2, ha.2]) h1 h2
theorem out_two {n : Int} {rs : List P2} (R : Rw n rs) (p : Int) : outL rs p = [] ∨ (∃ x, outL rs p = [x]) ∨ ∃ x y, x ≠ y ∧ outL rs p = [x, y] :=
  two_most ((rg_nodup _ _).filter _) fun a ha b hb c hc h1 h2 => by
    have ha := mem_out.mp ha
    have hb := mem_out.mp hb
    have hc := mem_out.mp hc
    exact R.t1 a b c ha.1 hb.1 hc.1 (by rw [hb.2, ha.2]) (by rw [hc.2, ha.2]) h1 h2
/-- the noughts put in at a point -/
structure Loc (I O : List Int) (A : List P2) : Prop where
  nd : A.Nodup
  mem : ∀ x y, (x, y) ∈ A → x ∈ I ∧ y ∈ O
  z1 : ∀ a b c, (a, b) ∈ A → (a, c) ∈ A → b = c
  z2 : ∀ a b c, (a, c) ∈ A → (b, c) ∈ A → a = b
  l3 : ∀ a b c, a ∈ I → b ∈ O → c ∈ O → (a, b) ∉ A → (a, c) ∉ A → b = c
  l4 : ∀ a b c, a ∈ O → b ∈ I → c ∈ I → (b, a) ∉ A → (c, a) ∉ A → b = c
def addN (I O : List Int) (s : Int) : List P2 := match I, O with
  | [x, w], [y, z] => if s = 0 then [(x, y), (w, z)] else [(x, z), (w, y)]
  | [x, w], [y] => if s = 0 then [(x, y)] else [(w, y)]
  | [x], [y, z] => if s = 0 then [(x, y)] else [(x, z)]
  | [x], [y] => if s = 1 then [(x, y)] else []
  | _, _ => []
theorem add_loc {I O : List Int} {s : Int} (hI : I = [] ∨ (∃ x, I = [x]) ∨ ∃ x y, x ≠ y ∧ I = [x, y]) (hO : O = [] ∨ (∃ x, O = [x]) ∨ ∃ x y, x ≠ y ∧ O = [x, y]) : Loc I O (addN I O s) := by
  rcases hI with rfl | ⟨x, rfl⟩ | ⟨x, w, hxw, rfl⟩
  · exact ⟨by simp [addN], by simp [addN], by simp [addN], by simp [addN], by simp, by simp⟩
  · rcases hO with rfl | ⟨y, rfl⟩ | ⟨y, z, hyz, rfl⟩
    · exact ⟨by simp [addN], by simp [addN], by simp [addN], by simp [addN], by simp, by simp⟩
    · show Loc [x] [y] (if s = 1 then [(x, y)] else [])
      by_cases hs : s = 1
      · rw [if_pos hs]; exact ⟨by simp, by (intros; (try simp at *) <;> omega), by (intros; (try simp at *) <;> omega), by (intros; (try simp at *) <;> omega), by (intros; (try simp at *) <;> omega), by (intros; (try simp at *) <;> omega)⟩
      · rw [if_neg hs]; exact ⟨by simp, by (intros; (try simp at *) <;> omega), by (intros; (try simp at *) <;> omega), by (intros; (try simp at *) <;> omega), by (intros; (try simp at *) <;> omega), by (intros; (try simp at *) <;> omega)⟩
    · show Loc [x] [y, z] (if s = 0 then [(x, y)] else [(x, z)])
      by_cases hs : s = 0
      · rw [if_pos hs]; exact ⟨by simp, by (intros; (try simp at *) <;> omega), by (intros; (try simp at *) <;> omega), by (intros; (try simp at *) <;> omega), by (intros; (try simp at *) <;> omega), by (intros; (try simp at *) <;> omega)⟩
      · rw [if_neg hs]; exact ⟨by simp, by (intros; (try simp at *) <;> omega), by (intros; (try simp at *) <;> omega), by (intros; (try simp at *) <;> omega), by (intros; (try simp at *) <;> omega), by (intros; (try simp at *) <;> omega)⟩
  · rcases hO with rfl | ⟨y, rfl⟩ | ⟨y, z, hyz, rfl⟩
    · exact ⟨by simp [addN], by simp [addN], by simp [addN], by simp [addN], by simp, by simp⟩
    · show Loc [x, w] [y] (if s = 0 then [(x, y)] else [(w, y)])
      by_cases hs : s = 0
      · rw [if_pos hs]; exact ⟨by simp, by (intros; (try simp at *) <;> omega), by (intros; (try simp at *) <;> omega), by (intros; (try simp at *) <;> omega), by (intros; (try simp at *) <;> omega), by (intros; (try simp at *) <;> omega)⟩
      · rw [if_neg hs]; exact ⟨by simp, by (intros; (try simp at *) <;> omega), by (intros; (try simp at *) <;> omega), by (intros; (try simp at *) <;> omega), by (intros; (try simp at *) <;> omega), by (intros; (try simp at *) <;> omega)⟩
    · show Loc [x, w] [y, z] (if s = 0 then [(x, y), (w, z)] else [(x, z), (w, y)])
      by_cases hs : s = 0
      · rw [if_pos hs]; exact ⟨by simp [hxw], by (intros; (try simp at *) <;> omega), by (intros; (try simp at *) <;> omega), by (intros; (try simp at *) <;> omega), by (intros; (try simp at *) <;> omega), by (intros; (try simp at *) <;> omega)⟩
      · rw [if_neg hs]; exact ⟨by simp [hxw], by (intros; (try simp at *) <;> omega), by (intros; (try simp at *) <;> omega), by (intros; (try simp at *) <;> omega), by (intros; (try simp at *) <;> omega), by (intros; (try simp at *) <;> omega)⟩
structure Wn (rs : List P2) (p : Int) (ps : List P2) : Prop where
  nd : ps.Nodup
  mem : ∀ x y, (x, y) ∈ ps → inA rs x ∧ inA rs y ∧ (ar rs x).2 = (ar rs y).1 ∧ (ar rs x).2 < p
  z1 : ∀ a b c, (a, b) ∈ ps → (a, c) ∈ ps → b = c
  z2 : ∀ a b c, (a, c) ∈ ps → (b, c) ∈ ps → a = b
  o1 : ∀ a b c, inA rs a → inA rs b → inA rs c → (ar rs a).2 < p → (ar rs b).1 = (ar rs a).2 → (ar rs c).1 = (ar rs a).2 → (a, b) ∉ ps → (a, c) ∉ ps → b = c
  o2 : ∀ a b c, inA rs a → inA rs b → inA rs c → (ar rs a).1 < p → (ar rs b).2 = (ar rs a).1 → (ar rs c).2 = (ar rs a).1 → (b, a) ∉ ps → (c, a) ∉ ps → b = c
theorem Wn.step {rs : List P2} {p : Int} {ps A : List P2} (W : Wn rs p ps) (L : Loc (insL rs p) (outL rs p) A) : Wn rs (p + 1) (ps ++ A) := by
  have hA : ∀ x y, (x, y) ∈ A → inA rs x ∧ inA rs y ∧ (ar rs x).2 = p ∧ (ar rs y).1 = p := fun x y h => by
    obtain ⟨h1, h2⟩ := L.mem x y h
    have h1 := mem_ins.mp h1
    have h2 := mem_out.mp h2
    exact ⟨h1.1, h2.1, h1.2, h2.2⟩
  refine ⟨?_, fun x y h => ?_, fun a b c h1 h2 => ?_, fun a b c h1 h2 => ?_, fun a b c ha hb hc h0 h1 h2 h3 h4 => ?_, fun a b c ha hb hc h0 h1 h2 h3 h4 => ?_⟩
  · rw [List.nodup_append]
    refine ⟨W.nd, L.nd, fun z hz w hw e => ?_⟩
    subst e
    have h1 := W.mem z.1 z.2 hz
    have h2 := hA z.1 z.2 hw
    omega
  · rcases List.mem_append.mp h with h | h
    · have := W.mem x y h
      exact ⟨this.1, this.2.1, this.2.2.1, by omega⟩
    · have := hA x y h
      exact ⟨this.1, this.2.1, by omega, by omega⟩
  · rcases List.mem_append.mp h1 with h1 | h1 <;> rcases List.mem_append.mp h2 with h2 | h2
    · exact W.z1 a b c h1 h2
    · have := W.mem a b h1; have := hA a c h2; omega
    · have := W.mem a c h2; have := hA a b h1; omega
    · exact L.z1 a b c h1 h2
  · rcases List.mem_append.mp h1 with h1 | h1 <;> rcases List.mem_append.mp h2 with h2 | h2
    · exact W.z2 a b c h1 h2
    · have := W.mem a c h1; have := hA b c h2; omega
    · have := W.mem b c h2; have := hA a c h1; omega
    · exact L.z2 a b c h1 h2
  · have n3 : (a, b) ∉ ps := fun z => h3 (List.mem_append_left _ z)
    have n4 : (a, c) ∉ ps := fun z => h4 (List.mem_append_left _ z)
    by_cases hp : (ar rs a).2 < p
    · exact W.o1 a b c ha hb hc hp h1 h2 n3 n4
    · have e : (ar rs a).2 = p := by omega
      exact L.l3 a b c (mem_ins.mpr ⟨ha, e⟩) (mem_out.mpr ⟨hb, by omega⟩) (mem_out.mpr ⟨hc, by omega⟩) (fun z => h3 (List.mem_append_right _ z)) (fun z => h4 (List.mem_append_right _ z))
  · have n3 : (b, a) ∉ ps := fun z => h3 (List.mem_append_left _ z)
    have n4 : (c, a) ∉ ps := fun z => h4 (List.mem_append_left _ z)
    by_cases hp : (ar rs a).1 < p
    · exact W.o2 a b c ha hb hc hp h1 h2 n3 n4
    · have e : (ar rs a).1 = p := by omega
      exact L.l4 a b c (mem_out.mpr ⟨ha, e⟩) (mem_ins.mpr ⟨hb, by omega⟩) (mem_ins.mpr ⟨hc, by omega⟩) (fun z => h3 (List.mem_append_right _ z)) (fun z => h4 (List.mem_append_right _ z))
theorem Wn.vp {n : Int} {rs ps : List P2} (R : Rw n rs) (W : Wn rs n ps) (hl : ps.length ≤ 1000) : Vp n rs (sortP ps) := by
  have hm : ∀ x y, (x, y) ∈ sortP ps ↔ (x, y) ∈ ps := fun x y => (sortP_perm ps).mem_iff
  refine ⟨R.len, by rw [(sortP_perm ps).length_eq]; exact hl, R.size, R.pts, fun a b h => ?_, fun a b c h1 h2 => W.z1 a b c ((hm _ _).mp h1) ((hm _ _).mp h2), fun a b c h1 h2 => W.z2 a b c ((hm _ _).mp h1) ((hm _ _).mp h2), fun a b c ha hb hc h1 h2 h3 h4 => ?_, fun a b c ha hb hc h1 h2 h3 h4 => ?_, R.t1, R.t2, sortP_lt W.nd⟩
  · have := W.mem a b ((hm _ _).mp h)
    exact ⟨this.1, this.2.1, this.2.2.1⟩
  · exact W.o1 a b c ha hb hc (R.pts a ha).2.2.2 h1 h2 (fun z => h3 ((hm _ _).mpr z)) (fun z => h4 ((hm _ _).mpr z))
  · exact W.o2 a b c ha hb hc (R.pts a ha).2.1 h1 h2 (fun z => h3 ((hm _ _).mpr z)) (fun z => h4 ((hm _ _).mpr z))

end Sp
end
section
set_option linter.all false
set_option linter.unusedSimpArgs false
/-! N10: noughts are put in -/
open Ev PySem L2
namespace Sp
def c_law_with_noughts_e0 (i_law_ended i_law_draw : Nat) : CE := (.lc false [8] (.nm 8) (.rng [(.bi false .len [(.v 2)])]) [(.cmp .eq (.ix (.ix (.v 2) (.v 8)) (.k (.int 1))) (.v 4))] (.v 8))
def c_law_with_noughts_e1 (i_law_ended i_law_draw : Nat) : CE := (.lc false [9] (.nm 9) (.rng [(.bi false .len [(.v 2)])]) [(.cmp .eq (.ix (.ix (.v 2) (.v 9)) (.k (.int 0))) (.v 4))] (.v 9))
def c_law_with_noughts_b0 (i_law_ended i_law_draw : Nat) : List CS := [
 .asg (.nm 5) (c_law_with_noughts_e0 i_law_ended i_law_draw),
 .asg (.nm 6) (c_law_with_noughts_e1 i_law_ended i_law_draw),
 .asg (.nm 7) (.call i_law_draw [(.v 0), (.k (.int 2))]),
 .iff (.and (.cmp .eq (.bi false .len [(.v 5)]) (.k (.int 2))) (.cmp .eq (.bi false .len [(.v 6)]) (.k (.int 2)))) [
  .asg (.nm 3) (.cat (.v 3) (.lst false [(.tup [(.ix (.v 5) (.k (.int 0))), (.ix (.v 6) (.v 7))]), (.tup [(.ix (.v 5) (.k (.int 1))), (.ix (.v 6) (.bin .sub (.k (.int 1)) (.v 7)))])]))] [],
 .iff (.and (.cmp .eq (.bi false .len [(.v 5)]) (.k (.int 2))) (.cmp .eq (.bi false .len [(.v 6)]) (.k (.int 1)))) [
  .ex (.me .append (.v 3) [(.tup [(.ix (.v 5) (.v 7)), (.ix (.v 6) (.k (.int 0)))])])] [],
 .iff (.and (.cmp .eq (.bi false .len [(.v 5)]) (.k (.int 1))) (.cmp .eq (.bi false .len [(.v 6)]) (.k (.int 2)))) [
  .ex (.me .append (.v 3) [(.tup [(.ix (.v 5) (.k (.int 0))), (.ix (.v 6) (.v 7))])])] [],
 .iff (.and (.cmp .eq (.bi false .len [(.v 5)]) (.k (.int 1))) (.and (.cmp .eq (.bi false .len [(.v 6)]) (.k (.int 1))) (.cmp .eq (.v 7) (.k (.int 1))))) [
  .ex (.me .append (.v 3) [(.tup [(.ix (.v 5) (.k (.int 0))), (.ix (.v 6) (.k (.int 0)))])])] []]
def c_law_with_noughts_s0 (i_law_ended i_law_draw : Nat) : CS := .fors (.nm 4) (.rng [(.v 1)]) (c_law_with_noughts_b0 i_law_ended i_law_draw)
def c_law_with_noughts (i_law_ended i_law_draw : Nat) : List CS := [
 .asg (.nm 3) (.lst true []),
 (c_law_with_noughts_s0 i_law_ended i_law_draw),
 .ret (some (.call i_law_ended [(.tup [(.v 1), (.bi false .tuple [(.v 2)]), (.bi false .tuple [(.bi false .sorted [(.v 3)])])])]))]
def f_law_with_noughts (i_law_ended i_law_draw : Nat) : Fd := ⟨3, 10, c_law_with_noughts i_law_ended i_law_draw⟩
-- N10: noughts are put in
theorem ix_rd {S : Sto} {X : D} {xs : List D} {i : Int} (h : D.read S X = .lst xs) : ixD S X (.int i) = atI xs i := by simp only [ixD, h]
theorem len_rd {S : Sto} {X : D} {xs : List D} (h : D.read S X = .lst xs) : biD S .len [X] = some (.int xs.length) := by simp only [biD, h]
theorem tup_rd {S : Sto} {X : D} {xs : List D} (h : D.read S X = .lst xs) : biD S .tuple [X] = some (.tup xs) := by simp only [biD, h]
theorem sorted_rd {S : Sto} {X : D} {ps : List P2} (h : D.read S X = .lst (ps.map prD)) : biD S .sorted [X] = some (.lst ((sortP ps).map prD)) := by
  simp only [biD, h]
  rw [if_pos (sortOk_p _), sortD_p]
theorem read_at {S : Sto} {p : Nat} {xs : List D} (h : S[p]? = some (.lst xs)) : D.read S (.ref p) = .lst xs := by simp only [D.read, h]
def catR (o : Option D) (S : Sto) : R3 D := match o with
  | some (.lst xs) => mkR true (.lst xs) S
  | _ => .stuck
theorem e_cat {F : Nat → List D → Sto → R3 D} {n : Nat} {l : Ev.Loc} {S : Sto} {a b : CE} : evE F (n+1) (.cat a b) l S = (evE F n a l S).bind fun x S1 => (evE F n b l S1).bind fun y S2 => catR (binD S2 .add x y) S2 := by
  rw [evE]
  rfl
theorem cat_at {S : Sto} {p : Nat} {xs ys : List D} (h : S[p]? = some (.lst xs)) (hl : xs.length + ys.length ≤ 16777216) : catR (binD S .add (.ref p) (.lst ys)) S = .ok (.ref S.length) (S ++ [.lst (xs ++ ys)]) := by
  have : binD S .add (.ref p) (.lst ys) = some (.lst (xs ++ ys)) := by
    simp only [binD, D.readM, h]
    rw [if_pos (len_le hl)]
  rw [this]
  rfl
theorem app_at {S : Sto} {p : Nat} {xs : List D} {d : D} (h : S[p]? = some (.lst xs)) (hl : xs.length < 16777216) : appD (.ref p) [d] S = .ok .non (S.set p (.lst (xs ++ [d]))) := by
  simp only [appD, h]
  rw [if_pos (by unfold sizeLine; omega)]
def nzTail : List CS := [
 .iff (.and (.cmp .eq (.bi false .len [(.v 5)]) (.k (.int 2))) (.cmp .eq (.bi false .len [(.v 6)]) (.k (.int 2)))) [
  .asg (.nm 3) (.cat (.v 3) (.lst false [(.tup [(.ix (.v 5) (.k (.int 0))), (.ix (.v 6) (.v 7))]), (.tup [(.ix (.v 5) (.k (.int 1))), (.ix (.v 6) (.bin .sub (.k (.int 1)) (.v 7)))])]))] [],
 .iff (.and (.cmp .eq (.bi false .len [(.v 5)]) (.k (.int 2))) (.cmp .eq (.bi false .len [(.v 6)]) (.k (.int 1)))) [
  .ex (.me .append (.v 3) [(.tup [(.ix (.v 5) (.v 7)), (.ix (.v 6) (.k (.int 0)))])])] [],
 .iff (.and (.cmp .eq (.bi false .len [(.v 5)]) (.k (.int 1))) (.cmp .eq (.bi false .len [(.v 6)]) (.k (.int 2)))) [
  .ex (.me .append (.v 3) [(.tup [(.ix (.v 5) (.k (.int 0))), (.ix (.v 6) (.v 7))])])] [],
 .iff (.and (.cmp .eq (.bi false .len [(.v 5)]) (.k (.int 1))) (.and (.cmp .eq (.bi false .len [(.v 6)]) (.k (.int 1))) (.cmp .eq (.v 7) (.k (.int 1))))) [
  .ex (.me .append (.v 3) [(.tup [(.ix (.v 5) (.k (.int 0))), (.ix (.v 6) (.k (.int 0)))])])] []]
def FW (r : Nat) (n : Int) (X : D) (p : Nat) (i : Int) (I O : List Int) (s : Int) : Ev.Loc := [some (.ref r), some (.int n), some X, some (.ref p), some (.int i), some (.lst (I.map .int)), some (.lst (O.map .int)), some (.int s), none, none]
def Grow (p p' : Nat) (S S' : Sto) : Prop := (p' = p ∧ (S' = S ∨ ∃ c, S' = S.set p c)) ∨ (p' = S.length ∧ ∃ c, S' = S ++ [c])
theorem get_app {S : Sto} {c : Cell} : (S ++ [c])[S.length]? = some c := by simp
theorem add_run {F : Nat → List D → Sto → R3 D} {r p : Nat} {n i s : Int} {X : D} {I O : List Int} (hI : I = [] ∨ (∃ x, I = [x]) ∨ ∃ x y, x ≠ y ∧ I = [x, y]) (hO : O = [] ∨ (∃ x, O = [x]) ∨ ∃ x y, x ≠ y ∧ O = [x, y]) (hs : s = 0 ∨ s = 1)
    {S : Sto} {ps : List P2} (hp : S[p]? = some (.lst (ps.map prD))) (hl : ps.length < 1000) :
    ∃ p' S', exSs (exS (evE F 60) 59) nzTail (FW r n X p i I O s) S = .nx (FW r n X p' i I O s) S' ∧ S'[p']? = some (.lst ((ps ++ addN I O s).map prD)) ∧ Grow p p' S S' := by
  have hrd := read_at hp
  have hap : ∀ d, appD (.ref p) [d] S = .ok .non (S.set p (.lst (ps.map prD ++ [d]))) := fun d => app_at hp (by rw [List.length_map]; omega)
  have hca : ∀ x y : D, catR (binD S .add (.ref p) (.lst [x, y])) S = .ok (.ref S.length) (S ++ [.lst (ps.map prD ++ [x, y])]) := fun x y => cat_at hp (by simp; omega)
  have same : ∀ (I O : List Int), addN I O s = [] → exSs (exS (evE F 60) 59) nzTail (FW r n X p i I O s) S = .nx (FW r n X p i I O s) S → ∃ p' S', exSs (exS (evE F 60) 59) nzTail (FW r n X p i I O s) S = .nx (FW r n X p' i I O s) S' ∧ S'[p']? = some (.lst ((ps ++ addN I O s).map prD)) ∧ Grow p p' S S' :=
    fun I O h e => ⟨p, S, e, by rw [h, List.append_nil]; exact hp, .inl ⟨rfl, .inl rfl⟩⟩
  have one : ∀ (I O : List Int) (a b : Int), addN I O s = [(a, b)] → exSs (exS (evE F 60) 59) nzTail (FW r n X p i I O s) S = .nx (FW r n X p i I O s) (S.set p (.lst (ps.map prD ++ [.tup [.int a, .int b]]))) → ∃ p' S', exSs (exS (evE F 60) 59) nzTail (FW r n X p i I O s) S = .nx (FW r n X p' i I O s) S' ∧ S'[p']? = some (.lst ((ps ++ addN I O s).map prD)) ∧ Grow p p' S S' :=
    fun I O a b h e => ⟨p, _, e, by rw [h, get_set hp]; simp, .inl ⟨rfl, .inr ⟨_, rfl⟩⟩⟩
  have two : ∀ (I O : List Int) (a b a' b' : Int), addN I O s = [(a, b), (a', b')] → exSs (exS (evE F 60) 59) nzTail (FW r n X p i I O s) S = .nx (FW r n X S.length i I O s) (S ++ [.lst (ps.map prD ++ [.tup [.int a, .int b], .tup [.int a', .int b']])]) → ∃ p' S', exSs (exS (evE F 60) 59) nzTail (FW r n X p i I O s) S = .nx (FW r n X p' i I O s) S' ∧ S'[p']? = some (.lst ((ps ++ addN I O s).map prD)) ∧ Grow p p' S S' :=
    fun I O a b a' b' h e => ⟨S.length, _, e, by rw [h, get_app]; simp, .inr ⟨rfl, _, rfl⟩⟩
  rcases hI with rfl | ⟨x, rfl⟩ | ⟨x, w, hxw, rfl⟩
  · exact same [] O rfl (by simp [nzTail, FW])
  · rcases hO with rfl | ⟨y, rfl⟩ | ⟨y, z, hyz, rfl⟩
    · exact same [x] [] rfl (by simp [nzTail, FW])
    · rcases hs with rfl | rfl
      · exact same [x] [y] rfl (by simp [nzTail, FW])
      · exact one [x] [y] x y rfl (by simp [nzTail, FW, hrd, hap])
    · rcases hs with rfl | rfl
      · exact one [x] [y, z] x y rfl (by simp [nzTail, FW, hrd, hap])
      · exact one [x] [y, z] x z rfl (by simp [nzTail, FW, hrd, hap])
  · rcases hO with rfl | ⟨y, rfl⟩ | ⟨y, z, hyz, rfl⟩
    · exact same [x, w] [] rfl (by simp [nzTail, FW])
    · rcases hs with rfl | rfl
      · exact one [x, w] [y] x y rfl (by simp [nzTail, FW, hrd, hap])
      · exact one [x, w] [y] w y rfl (by simp [nzTail, FW, hrd, hap])
    · rcases hs with rfl | rfl
      · exact two [x, w] [y, z] x y w z rfl (by simp [nzTail, FW, e_cat, hca])
      · exact two [x, w] [y, z] x z w y rfl (by simp [nzTail, FW, e_cat, hca])
theorem FW_3 {r : Nat} {n : Int} {X : D} {p : Nat} {i : Int} {I O : List Int} {s : Int} : FW r n X p i I O s = [some (.ref r), some (.int n), some X, some (.ref p), some (.int i), some (.lst (I.map .int)), some (.lst (O.map .int)), some (.int s), none, none] := rfl
theorem Fr.grow {r p p' : Nat} {S0 S S' : Sto} (h : Fr r S0 S) (hp : S0.length ≤ p) (g : Grow p p' S S') : Fr r S0 S' ∧ S0.length ≤ p' := by
  rcases g with ⟨rfl, rfl | ⟨c, rfl⟩⟩ | ⟨rfl, c, rfl⟩
  · exact ⟨h, hp⟩
  · exact ⟨h.put hp, hp⟩
  · exact ⟨h.trans Fr.app, h.1⟩
theorem Stt.grow {r p p' N : Nat} {S S' : Sto} (h : Stt S r N) (hp : p ≠ r) (g : Grow p p' S S') : Stt S' r N := by
  rcases g with ⟨rfl, rfl | ⟨c, rfl⟩⟩ | ⟨rfl, c, rfl⟩
  · exact h
  · exact h.set hp
  · exact h.app
theorem addN_len (I O : List Int) (s : Int) : (addN I O s).length ≤ 2 := by
  unfold addN
  split <;> try split
  all_goals simp
def OkWN (tab : List Fd) (f : Nat) : Prop := ∃ ed dr, OkEd tab ed ∧ tab[dr]? = some f_law_draw ∧ tab[f]? = some (f_law_with_noughts ed dr)
theorem Wn.nil {rs : List P2} (R : ∃ n, Rw n rs) : Wn rs 0 [] := by
  obtain ⟨n, R⟩ := R
  refine ⟨List.nodup_nil, fun x y h => by simp at h, fun a b c h => by simp at h, fun a b c h => by simp at h, fun a b c ha hb hc h0 => ?_, fun a b c ha hb hc h0 => ?_⟩
  · have := (R.pts a ha).2.2.1; omega
  · have := (R.pts a ha).1; omega
theorem wn_run {tab : List Fd} {f d : Nat} (h : OkWN tab f) {n : Int} {rs : List P2} (R : Rw n rs) {S : Sto} {r N : Nat} {X : D} (st : Stt S r N) (hN : N + 200 < 1000000000) (hX : ∀ S', Fr r S S' → D.read S' X = .lst (rs.map prD)) :
    ∃ as zs S', callF tab (d + 7) f [.ref r, .int n, X] S = .ok (PL n as zs) S' ∧ Vp n as zs ∧ Stt S' r (N + 200) ∧ Fr r S S' := by
  obtain ⟨ed, dr, h1, h2, h⟩ := h
  have hn := R.size
  have hlen := R.len
  have hrlt := st.lt
  rw [call_body h rfl (l := [some (.ref r), some (.int n), some X, none, none, none, none, none, none, none]) rfl]
  show ∃ as zs S', (exSs (exS (evE (callF tab (d + 6)) 60) 60) (c_law_with_noughts ed dr) _ S).fin = _ ∧ _
  unfold c_law_with_noughts
  have e1 : exS (evE (callF tab (d + 6)) 60) 60 (.asg (.nm 3) (.lst true [])) [some (.ref r), some (.int n), some X, none, none, none, none, none, none, none] S = .nx [some (.ref r), some (.int n), some X, some (.ref S.length), none, none, none, none, none, none] (S ++ [.lst []]) := by simp
  obtain ⟨l', S', q, p, ps, u4, u5, u6, u7, rfl, hcell, hpl, hlp, hst, hfr, W⟩ : ∃ l' S', forL (.rng 0 1 (n - 0).toNat) (.nm 4) (exSs (exS (evE (callF tab (d + 6)) 60) 59) (c_law_with_noughts_b0 ed dr)) turns 0 [some (.ref r), some (.int n), some X, some (.ref S.length), none, none, none, none, none, none] (S ++ [.lst []]) = .nx l' S' ∧
      (∃ (p : Nat) (ps : List P2) (u4 u5 u6 u7 : Option D), l' = [some (.ref r), some (.int n), some X, some (.ref p), u4, u5, u6, u7, none, none] ∧ S'[p]? = some (.lst (ps.map prD)) ∧ S.length ≤ p ∧ ps.length ≤ 200 ∧ Stt S' r (N + 200) ∧ Fr r S S' ∧ Wn rs n ps) := by
    have key := forL_ind (row_rgI 0 n) (t := .nm 4) (body := exSs (exS (evE (callF tab (d + 6)) 60) 59) (c_law_with_noughts_b0 ed dr))
      (fun i l' S' => ∃ (p : Nat) (ps : List P2) (u4 u5 u6 u7 : Option D), l' = [some (.ref r), some (.int n), some X, some (.ref p), u4, u5, u6, u7, none, none] ∧ S'[p]? = some (.lst (ps.map prD)) ∧ S.length ≤ p ∧ ps.length ≤ 2 * i ∧ Stt S' r (N + i) ∧ Fr r S S' ∧ Wn rs i ps)
      (fun oo => ∃ l' S', oo = .nx l' S' ∧ (∃ (p : Nat) (ps : List P2) (u4 u5 u6 u7 : Option D), l' = [some (.ref r), some (.int n), some X, some (.ref p), u4, u5, u6, u7, none, none] ∧ S'[p]? = some (.lst (ps.map prD)) ∧ S.length ≤ p ∧ ps.length ≤ 200 ∧ Stt S' r (N + 200) ∧ Fr r S S' ∧ Wn rs n ps))
      (by
        rintro i dd l' S' hd ⟨p, ps, u4, u5, u6, u7, rfl, hcell, hpl, hlp, hst, hfr, W⟩
        have hi : i < n.toNat := by
          have := (List.getElem?_eq_some_iff.mp hd).1
          rw [List.length_map, rgI_len] at this; omega
        have hdd : dd = .int (i : Int) := by
          rw [List.getElem?_map, rgI_get (a := 0) (b := n) (k := i) (by omega)] at hd
          simpa using hd.symm
        subst hdd
        have hrd := hX S' hfr
        obtain ⟨s, S1, e2, hs, s1, f1⟩ := draw_spec (d := d + 5) h2 hst (by omega) (b := 2) (by omega)
        have hr1 := rngD_1 (b := (rs.length : Int)) (by omega)
        have lnq : ∀ k : Nat, evE (callF tab (d + 6)) (k + 3) (.bi false .len [(.v 2)]) [some (.ref r), some (.int n), some X, some (.ref p), some (.int i), u5, u6, u7, none, none] S' = .ok (.int rs.length) S' := fun k => by
          simp [len_rd hrd]
        have lnq' : ∀ k : Nat, evE (callF tab (d + 6)) (k + 3) (.bi false .len [(.v 2)]) [some (.ref r), some (.int n), some X, some (.ref p), some (.int i), some (.lst ((insL rs i).map .int)), u6, u7, none, none] S' = .ok (.int rs.length) S' := fun k => by
          simp [len_rd hrd]
        have k1 := evC_tot (ev := evE (callF tab (d + 6)) 59) (tg := .nm 8) (ifs := [(.cmp .eq (.ix (.ix (.v 2) (.v 8)) (.k (.int 1))) (.v 4))]) (elt := .v 8) (l := [some (.ref r), some (.int n), some X, some (.ref p), some (.int i), u5, u6, u7, none, none]) (S := S') (h := D.int) (ys := rgI 0 (cnt rs)) (row_rgI _ _) (fun a => decide ((ar rs a).2 = i)) (fun x => .int x)
          (fun q hq => ⟨[some (.ref r), some (.int n), some X, some (.ref p), some (.int i), u5, u6, u7, some (.int q), none], by simp, by
            simp [ix_rd hrd, at_ar (as := rs) (mem_rgI.mp hq)]
            by_cases hqa : (ar rs q).2 = i <;> simp [hqa], fun _ => by simp⟩) (by rw [rgI_len]; unfold turns cnt; omega)
        have k2 := evC_tot (ev := evE (callF tab (d + 6)) 59) (tg := .nm 9) (ifs := [(.cmp .eq (.ix (.ix (.v 2) (.v 9)) (.k (.int 0))) (.v 4))]) (elt := .v 9) (l := [some (.ref r), some (.int n), some X, some (.ref p), some (.int i), some (.lst ((insL rs i).map .int)), u6, u7, none, none]) (S := S') (h := D.int) (ys := rgI 0 (cnt rs)) (row_rgI _ _) (fun a => decide ((ar rs a).1 = i)) (fun x => .int x)
          (fun q hq => ⟨[some (.ref r), some (.int n), some X, some (.ref p), some (.int i), some (.lst ((insL rs i).map .int)), u6, u7, none, some (.int q)], by simp, by
            simp [ix_rd hrd, at_ar (as := rs) (mem_rgI.mp hq)]
            by_cases hqa : (ar rs q).1 = i <;> simp [hqa], fun _ => by simp⟩) (by rw [rgI_len]; unfold turns cnt; omega)
        have b1 : exS (evE (callF tab (d + 6)) 60) 59 (.asg (.nm 5) (c_law_with_noughts_e0 ed dr)) [some (.ref r), some (.int n), some X, some (.ref p), some (.int i), u5, u6, u7, none, none] S' = .nx [some (.ref r), some (.int n), some X, some (.ref p), some (.int i), some (.lst ((insL rs i).map .int)), u6, u7, none, none] S' := by
          rw [s_asg, c_law_with_noughts_e0, e_lc, i_rng, l_cons, lnq 56, b_ok, l_nil, b_ok, b_ok, hr1]
          simp only [of_el, Option.elim_some, b_ok, wipe_s, wipe_0, List.set_cons_succ, List.set_cons_zero]
          rw [show ((rs.length : Int) - 0).toNat = (cnt rs - 0).toNat from rfl, k1, b_ok, mkR_f, o_ok]
          rfl
        have b2 : exS (evE (callF tab (d + 6)) 60) 59 (.asg (.nm 6) (c_law_with_noughts_e1 ed dr)) [some (.ref r), some (.int n), some X, some (.ref p), some (.int i), some (.lst ((insL rs i).map .int)), u6, u7, none, none] S' = .nx [some (.ref r), some (.int n), some X, some (.ref p), some (.int i), some (.lst ((insL rs i).map .int)), some (.lst ((outL rs i).map .int)), u7, none, none] S' := by
          rw [s_asg, c_law_with_noughts_e1, e_lc, i_rng, l_cons, lnq' 56, b_ok, l_nil, b_ok, b_ok, hr1]
          simp only [of_el, Option.elim_some, b_ok, wipe_s, wipe_0, List.set_cons_succ, List.set_cons_zero]
          rw [show ((rs.length : Int) - 0).toNat = (cnt rs - 0).toNat from rfl, k2, b_ok, mkR_f, o_ok]
          rfl
        have b3 : exS (evE (callF tab (d + 6)) 60) 59 (.asg (.nm 7) (.call dr [(.v 0), (.k (.int 2))])) [some (.ref r), some (.int n), some X, some (.ref p), some (.int i), some (.lst ((insL rs i).map .int)), some (.lst ((outL rs i).map .int)), u7, none, none] S' = .nx (FW r n X p i (insL rs i) (outL rs i) s) S1 := by
          simp [e2, FW]
        obtain ⟨p', S2, e3, c3, g3⟩ := add_run (F := callF tab (d + 6)) (r := r) (p := p) (n := n) (i := i) (s := s) (X := X) (ins_two R i) (out_two R i) (by omega) (f1.cell hcell (by omega)) (by omega)
        refine ⟨_, asg_nm, ?_⟩
        rw [show (List.set [some (D.ref r), some (D.int n), some X, some (D.ref p), u4, u5, u6, u7, none, none] 4 (some (D.int (i : Int)))) = [some (D.ref r), some (D.int n), some X, some (D.ref p), some (D.int (i : Int)), u5, u6, u7, none, none] from rfl]
        rw [show c_law_with_noughts_b0 ed dr = _ :: _ :: _ :: nzTail from rfl, ss_go b1, ss_go b2, ss_go b3, e3]
        refine ⟨p', ps ++ addN (insL rs i) (outL rs i) s, _, _, _, _, rfl, c3, ?_⟩
        · have hf := Fr.grow (hfr.trans f1) hpl g3
          refine ⟨hf.2, ?_, Stt.grow s1 (by omega) g3, hf.1, ?_⟩
          · have := addN_len (insL rs i) (outL rs i) s
            rw [List.length_append]; omega
          · exact W.step (add_loc (ins_two R i) (out_two R i)))
      (by
        rintro l' S' ⟨p, ps, u4, u5, u6, u7, rfl, hcell, hpl, hlp, hst, hfr, W⟩
        rw [List.length_map, rgI_len] at hlp hst W
        exact ⟨_, _, rfl, p, ps, u4, u5, u6, u7, rfl, hcell, hpl, by omega, hst.up (by omega), hfr, by rw [show (((n - 0).toNat : Nat) : Int) = n by omega] at W; exact W⟩)
    exact key _ 0 turns [some (.ref r), some (.int n), some X, some (.ref S.length), none, none, none, none, none, none] (S ++ [.lst []]) rfl (Nat.zero_le _) (by rw [List.length_map, rgI_len]; unfold turns; omega) ⟨S.length, [], none, none, none, none, rfl, by simp, Nat.le_refl _, by simp, st.app, Fr.app, Wn.nil ⟨n, R⟩⟩
  have e2 : exS (evE (callF tab (d + 6)) 60) 60 (c_law_with_noughts_s0 ed dr) [some (.ref r), some (.int n), some X, some (.ref S.length), none, none, none, none, none, none] (S ++ [.lst []]) = .nx [some (.ref r), some (.int n), some X, some (.ref p), u4, u5, u6, u7, none, none] S' := by
    rw [c_law_with_noughts_s0, s_for]
    simp only [i_rng, l_cons, l_nil, e_v, List.getElem?_cons_zero, List.getElem?_cons_succ, Option.elim_some, b_ok, of_el, rngD_1 (b := n) (by omega), o_ok]
    exact q
  have V := Wn.vp R W (by omega)
  obtain ⟨as, zs, e3, V'⟩ := ended_run (d := d) h1 V S'
  refine ⟨as, zs, S', ?_, V', hst, hfr⟩
  rw [ss_step e1, ss_step e2]
  refine ss_ret ?_
  have q1 := tup_rd (hX S' hfr)
  have q2 := sorted_rd (read_at hcell)
  simp only [s_ret, e_call, e_tup, e_bi, l_cons, l_nil, e_v, List.getElem?_cons_zero, List.getElem?_cons_succ, Option.elim_some, b_ok, q1, q2, mkR_f, bi_tup_l, List.length_cons, List.length_nil, Nat.zero_add, Nat.reduceAdd, len3, if_true, e3, o_ok]

end Sp
end
section
set_option linter.all false
set_option linter.unusedSimpArgs false
/-! N11: free plans -/
open Ev PySem L2
namespace Sp
def c_law_free_plan_e0 (i_law_with_noughts i_law_draw : Nat) : CE := (.lc false [9] (.nm 9) (.of (.v 3)) [(.cmp .eq (.ix (.v 9) (.k (.int 0))) (.v 8))] (.v 9))
def c_law_free_plan_e1 (i_law_with_noughts i_law_draw : Nat) : CE := (.lc false [9] (.nm 9) (.of (.v 3)) [(.cmp .eq (.ix (.v 9) (.k (.int 1))) (.v 5))] (.v 9))
def c_law_free_plan_b0 (i_law_with_noughts i_law_draw : Nat) : List CS := [
 .asg (.tp [(.nm 8), (.nm 5)]) (.tup [(.call i_law_draw [(.v 0), (.v 1)]), (.call i_law_draw [(.v 0), (.v 1)])]),
 .asg (.nm 5) (.ife (.and (.cmp .eq (.v 8) (.v 5)) (.cmp .gt (.call i_law_draw [(.v 0), (.k (.int 3))]) (.k (.int 0)))) (.bin .mod (.bi false .int [(.bin .add (.v 8) (.k (.int 1)))]) (.v 1)) (.v 5)),
 .asg (.nm 6) (c_law_free_plan_e0 i_law_with_noughts i_law_draw),
 .asg (.nm 7) (c_law_free_plan_e1 i_law_with_noughts i_law_draw),
 .iff (.and (.cmp .lt (.bi false .len [(.v 6)]) (.k (.int 2))) (.cmp .lt (.bi false .len [(.v 7)]) (.k (.int 2)))) [
  .ex (.me .append (.v 3) [(.tup [(.v 8), (.v 5)])])] []]
def c_law_free_plan_s0 (i_law_with_noughts i_law_draw : Nat) : CS := .fors (.nm 4) (.rng [(.bin .add (.bin .sub (.v 1) (.k (.int 1))) (.call i_law_draw [(.v 0), (.v 2)]))]) (c_law_free_plan_b0 i_law_with_noughts i_law_draw)
def c_law_free_plan (i_law_with_noughts i_law_draw : Nat) : List CS := [
 .asg (.nm 3) (.lst true []),
 (c_law_free_plan_s0 i_law_with_noughts i_law_draw),
 .ret (some (.call i_law_with_noughts [(.v 0), (.v 1), (.v 3)]))]
def f_law_free_plan (i_law_with_noughts i_law_draw : Nat) : Fd := ⟨3, 10, c_law_free_plan i_law_with_noughts i_law_draw⟩
-- N11: free plans
theorem evC_ind {ev : CE → Ev.Loc → Sto → R3 D} {it : IT} {tg : CT} {ifs : List CE} {elt : CE} {l : Ev.Loc} {β : Type} {h : β → D} {ys : List β} (P : Nat → List D → Sto → Prop)
    (hr : ∀ i acc S, P i acc S → it.at S i = some (ys.map h)[i]?)
    (hs : ∀ i y acc S, ys[i]? = some y → P i acc S → ∃ l1, asgT S tg (h y) l = some l1 ∧ ∃ b S1, evIfs ev ifs l1 S = .ok b S1 ∧ (b = true → ∃ d S2, ev elt l1 S1 = .ok d S2 ∧ P (i + 1) (acc ++ [d]) S2) ∧ (b = false → P (i + 1) acc S1)) :
    ∀ (m i k : Nat) (acc : List D) (S : Sto), ys.length - i = m → i ≤ ys.length → m < k → acc.length + m ≤ sizeLine → P i acc.reverse S → ∃ ds S', evC ev it tg ifs elt l k i S acc = .ok ds S' ∧ P ys.length ds S' := by
  intro m
  induction m with
  | zero =>
    intro i k acc S hm hi hk _ hp
    obtain ⟨k, rfl⟩ : ∃ q, k = q + 1 := ⟨k - 1, by omega⟩
    have : i = ys.length := by omega
    subst this
    have h0 : it.at S ys.length = some none := by rw [hr _ _ _ hp, List.getElem?_eq_none (by rw [List.length_map]; exact Nat.le_refl _)]
    exact ⟨acc.reverse, S, by simp [evC, h0], hp⟩
  | succ m ih =>
    intro i k acc S hm hi hk ha hp
    obtain ⟨k, rfl⟩ : ∃ q, k = q + 1 := ⟨k - 1, by omega⟩
    have hl : i < ys.length := by omega
    have hz : ys[i]? = some ys[i] := List.getElem?_eq_getElem hl
    have h0 : it.at S i = some (some (h ys[i])) := by rw [hr _ _ _ hp, List.getElem?_map, hz]; rfl
    obtain ⟨l1, e1, b, S1, e2, e3, e4⟩ := hs i _ _ S hz hp
    simp only [evC, h0, e1, e2]
    cases b with
    | false =>
      simp only [b_ok, Bool.false_eq_true, if_false]
      exact ih (i + 1) k acc S1 (by omega) (by omega) (by omega) (by omega) (e4 rfl)
    | true =>
      obtain ⟨d, S2, e5, e6⟩ := e3 rfl
      simp only [b_ok, if_true]
      rw [e5]
      simp only [b_ok]
      rw [if_pos (by omega)]
      exact ih (i + 1) k (d :: acc) S2 (by omega) (by omega) (by omega) (by simp only [List.length_cons]; omega) (by rw [List.reverse_cons]; exact e6)
theorem take_next {α : Type} {xs : List α} {i : Nat} {x : α} (h : xs[i]? = some x) : xs.take (i + 1) = xs.take i ++ [x] := by
  rw [List.take_succ, h]; rfl
theorem evC_cell {ev : CE → Ev.Loc → Sto → R3 D} {p : Nat} {tg : CT} {ifs : List CE} {elt : CE} {l : Ev.Loc} {S : Sto} {β : Type} {h : β → D} {ys : List β} (hp : S[p]? = some (.lst (ys.map h))) (c : β → Bool) (r : β → D)
    (hs : ∀ y ∈ ys, ∃ l1, asgT S tg (h y) l = some l1 ∧ evIfs ev ifs l1 S = .ok (c y) S ∧ (c y = true → ev elt l1 S = .ok (r y) S)) (hn : ys.length < turns) :
    evC ev (.one (.cell p)) tg ifs elt l turns 0 S [] = .ok ((ys.filter c).map r) S := by
  obtain ⟨ds, S', e, e1, e2⟩ := evC_ind (ev := ev) (it := .one (.cell p)) (tg := tg) (ifs := ifs) (elt := elt) (l := l) (h := h) (ys := ys) (fun i acc S' => S' = S ∧ acc = ((ys.take i).filter c).map r)
    (by
      rintro i acc S' ⟨rfl, _⟩
      simp only [IT.at, Src.at, hp])
    (by
      rintro i y acc S' hy ⟨rfl, rfl⟩
      obtain ⟨l1, e1, e2, e3⟩ := hs y (List.mem_of_getElem? hy)
      refine ⟨l1, e1, c y, S', e2, fun hc => ⟨r y, S', e3 hc, rfl, ?_⟩, fun hc => ⟨rfl, ?_⟩⟩
      · rw [take_next hy, List.filter_append, List.map_append]
        simp [hc]
      · rw [take_next hy, List.filter_append, List.map_append]
        simp [hc])
    ys.length 0 turns [] S rfl (Nat.zero_le _) hn (by unfold turns at hn; unfold sizeLine; simp; omega) ⟨rfl, by simp⟩
  rw [e, e1, e2, List.take_length]
theorem rows_rg (rs : List P2) : (rgI 0 (cnt rs)).map (ar rs) = rs := by
  apply List.ext_getElem?
  intro k
  rw [List.getElem?_map]
  by_cases hk : k < rs.length
  · rw [rgI_get (a := 0) (b := cnt rs) (k := k) (by unfold cnt; omega), Option.map_some]
    have := at_ar (as := rs) (i := 0 + (k : Int)) ⟨by omega, by unfold cnt; omega⟩
    rw [at_nn (by omega)] at this
    rw [← this]
    congr 1; omega
  · rw [List.getElem?_eq_none (by rw [rgI_len]; unfold cnt; omega), List.getElem?_eq_none (by omega)]; rfl
theorem filt_two {rs : List P2} {P : P2 → Bool} (h : (rs.filter P).length < 2) {i j : Int} (hi : inA rs i) (hj : inA rs j) (pi : P (ar rs i) = true) (pj : P (ar rs j) = true) : i = j := by
  have e : (rs.filter P).length = ((rgI 0 (cnt rs)).filter fun k => P (ar rs k)).length := by
    conv => lhs; rw [← rows_rg rs]
    rw [List.filter_map, List.length_map]
    rfl
  rw [e] at h
  have m1 : i ∈ (rgI 0 (cnt rs)).filter fun k => P (ar rs k) := List.mem_filter.mpr ⟨mem_rgI.mpr hi, pi⟩
  have m2 : j ∈ (rgI 0 (cnt rs)).filter fun k => P (ar rs k) := List.mem_filter.mpr ⟨mem_rgI.mpr hj, pj⟩
  cases hL : (rgI 0 (cnt rs)).filter fun k => P (ar rs k) with
  | nil => rw [hL] at m1; simp at m1
  | cons x L =>
    rw [hL] at h m1 m2
    have : L = [] := List.length_eq_zero_iff.mp (by simp at h; omega)
    subst this
    simp at m1 m2
    omega
theorem ar_app {rs : List P2} {x : P2} {i : Int} (h : inA (rs ++ [x]) i) : (inA rs i ∧ ar (rs ++ [x]) i = ar rs i) ∨ (i = cnt rs ∧ ar (rs ++ [x]) i = x) := by
  have h1 : 0 ≤ i := h.1
  have h2 : i < ((rs ++ [x]).length : Int) := h.2
  rw [List.length_append, List.length_cons, List.length_nil] at h2
  by_cases hi : i < (rs.length : Int)
  · left
    refine ⟨⟨h1, hi⟩, ?_⟩
    unfold ar
    rw [List.getElem?_append_left (by omega)]
  · right
    have : i = (rs.length : Int) := by omega
    refine ⟨this, ?_⟩
    unfold ar
    rw [this, Int.toNat_natCast, List.getElem?_append_right (Nat.le_refl _)]
    simp
theorem Rw.add {n : Int} {rs : List P2} (R : Rw n rs) (hl : rs.length < 60) {a b : Int} (ha : 0 ≤ a ∧ a < n) (hb : 0 ≤ b ∧ b < n) (h1 : (rs.filter fun q => decide (q.1 = a)).length < 2) (h2 : (rs.filter fun q => decide (q.2 = b)).length < 2) : Rw n (rs ++ [(a, b)]) := by
  refine ⟨by rw [List.length_append, List.length_cons, List.length_nil]; omega, R.size, fun i hi => ?_, fun p q s hp hq hs e1 e2 n1 n2 => ?_, fun p q s hp hq hs e1 e2 n1 n2 => ?_⟩
  · rcases ar_app hi with ⟨h, e⟩ | ⟨h, e⟩
    · rw [e]; exact R.pts i h
    · rw [e]; exact ⟨ha.1, ha.2, hb.1, hb.2⟩
  · have F : ∀ i j, inA rs i → inA rs j → (ar rs i).1 = a → (ar rs j).1 = a → i = j := fun i j hi hj pi pj => filt_two h1 hi hj (by simpa using pi) (by simpa using pj)
    rcases ar_app hp with ⟨hp, ep⟩ | ⟨hp, ep⟩ <;> rcases ar_app hq with ⟨hq, eq⟩ | ⟨hq, eq⟩ <;> rcases ar_app hs with ⟨hs, es⟩ | ⟨hs, es⟩ <;> rw [ep] at e1 e2 <;> rw [eq] at e1 <;> rw [es] at e2
    · exact R.t1 p q s hp hq hs e1 e2 n1 n2
    · exact absurd (F q p hq hp (by simpa using e1.trans e2.symm) (by simpa using e2.symm)) n1
    · exact absurd (F s p hs hp (by simpa using e2.trans e1.symm) (by simpa using e1.symm)) n2
    · omega
    · exact F q s hq hs (by simpa using e1) (by simpa using e2)
    · omega
    · omega
    · omega
  · have F : ∀ i j, inA rs i → inA rs j → (ar rs i).2 = b → (ar rs j).2 = b → i = j := fun i j hi hj pi pj => filt_two h2 hi hj (by simpa using pi) (by simpa using pj)
    rcases ar_app hp with ⟨hp, ep⟩ | ⟨hp, ep⟩ <;> rcases ar_app hq with ⟨hq, eq⟩ | ⟨hq, eq⟩ <;> rcases ar_app hs with ⟨hs, es⟩ | ⟨hs, es⟩ <;> rw [ep] at e1 e2 <;> rw [eq] at e1 <;> rw [es] at e2
    · exact R.t2 p q s hp hq hs e1 e2 n1 n2
    · exact absurd (F q p hq hp (by simpa using e1.trans e2.symm) (by simpa using e2.symm)) n1
    · exact absurd (F s p hs hp (by simpa using e2.trans e1.symm) (by simpa using e1.symm)) n2
    · omega
    · exact F q s hq hs (by simpa using e1) (by simpa using e2)
    · omega
    · omega
    · omega
theorem Rw.nil {n : Int} (h : 1 ≤ n ∧ n ≤ 100) : Rw n [] := by
  have no : ∀ i, ¬ inA [] i := fun i z => by have h1 := z.1; have h2 : i < 0 := z.2; omega
  exact ⟨by simp, h, fun i z => absurd z (no i), fun a b c z => absurd z (no a), fun a b c z => absurd z (no a)⟩
def OkFP (tab : List Fd) (f : Nat) : Prop := ∃ wn dr, OkWN tab wn ∧ tab[dr]? = some f_law_draw ∧ tab[f]? = some (f_law_free_plan wn dr)
def fpTail : List CS := [
 .iff (.and (.cmp .lt (.bi false .len [(.v 6)]) (.k (.int 2))) (.cmp .lt (.bi false .len [(.v 7)]) (.k (.int 2)))) [
  .ex (.me .append (.v 3) [(.tup [(.v 8), (.v 5)])])] []]
theorem fp_body {tab : List Fd} {d wn dr : Nat} (h2 : tab[dr]? = some f_law_draw) {n most : Int} (hn : 1 ≤ n ∧ n ≤ 100) {r p N : Nat} (hpr : p ≠ r) {S : Sto} {rs : List P2} (R : Rw n rs) (hl : rs.length < 60) (hp : S[p]? = some (.lst (rs.map prD))) (st : Stt S r N) (hN : N + 3 < 1000000000) (u4 u5 u6 u7 u8 : Option D) :
    ∃ u5' u6' u7' u8' rs' S', exSs (exS (evE (callF tab (d + 7)) 60) 59) (c_law_free_plan_b0 wn dr) [some (.ref r), some (.int n), some (.int most), some (.ref p), u4, u5, u6, u7, u8, none] S = .nx [some (.ref r), some (.int n), some (.int most), some (.ref p), u4, u5', u6', u7', u8', none] S' ∧
      Rw n rs' ∧ rs'.length ≤ rs.length + 1 ∧ S'[p]? = some (.lst (rs'.map prD)) ∧ Stt S' r (N + 3) ∧ (∀ S0 : Sto, S0.length ≤ p → Fr r S0 S → Fr r S0 S') := by
  obtain ⟨a, S1, e1, ha, s1, f1⟩ := draw_spec (d := d + 6) h2 st (by omega) (b := n) (by omega)
  obtain ⟨b, S2, e2, hb, s2, f2⟩ := draw_spec (d := d + 6) h2 s1 (by omega) (b := n) (by omega)
  have b1 : exS (evE (callF tab (d + 7)) 60) 59 (.asg (.tp [(.nm 8), (.nm 5)]) (.tup [(.call dr [(.v 0), (.v 1)]), (.call dr [(.v 0), (.v 1)])])) [some (.ref r), some (.int n), some (.int most), some (.ref p), u4, u5, u6, u7, u8, none] S = .nx [some (.ref r), some (.int n), some (.int most), some (.ref p), u4, some (.int b), u6, u7, some (.int a), none] S2 := by
    simp [e1, e2]
  obtain ⟨b', S3, b2, hb', s3, f3⟩ : ∃ b' S3, exS (evE (callF tab (d + 7)) 60) 59 (.asg (.nm 5) (.ife (.and (.cmp .eq (.v 8) (.v 5)) (.cmp .gt (.call dr [(.v 0), (.k (.int 3))]) (.k (.int 0)))) (.bin .mod (.bi false .int [(.bin .add (.v 8) (.k (.int 1)))]) (.v 1)) (.v 5))) [some (.ref r), some (.int n), some (.int most), some (.ref p), u4, some (.int b), u6, u7, some (.int a), none] S2 = .nx [some (.ref r), some (.int n), some (.int most), some (.ref p), u4, some (.int b'), u6, u7, some (.int a), none] S3 ∧ (0 ≤ b' ∧ b' < n) ∧ Stt S3 r (N + 3) ∧ Fr r S2 S3 := by
    by_cases hab : a = b
    · obtain ⟨v, S3, e3, hv, s3, f3⟩ := draw_spec (d := d + 6) h2 s2 (by omega) (b := 3) (by omega)
      by_cases hv0 : 0 < v
      · refine ⟨(a + 1) % n, S3, ?_, ⟨Int.emod_nonneg _ (by omega), Int.emod_lt_of_pos _ (by omega)⟩, s3, f3⟩
        have hn0 : 0 < n := by omega
        simp [hab, e3, hv0, hn0]
      · refine ⟨b, S3, ?_, hb, s3, f3⟩
        simp [hab, e3, hv0]
    · exact ⟨b, S2, by simp [hab], hb, s2.up (by omega), Fr.refl⟩
  have c3 : S3[p]? = some (.lst (rs.map prD)) := f3.cell (f2.cell (f1.cell hp hpr) hpr) hpr
  have hs3 : srcD S3 (.ref p) = some (.cell p) := by simp only [srcD, c3]
  have hrt : rs.length < turns := by unfold turns; omega
  have k1 := evC_cell (ev := evE (callF tab (d + 7)) 59) (tg := .nm 9) (ifs := [(.cmp .eq (.ix (.v 9) (.k (.int 0))) (.v 8))]) (elt := .v 9) (l := [some (.ref r), some (.int n), some (.int most), some (.ref p), u4, some (.int b'), u6, u7, some (.int a), none]) (h := prD) (ys := rs) c3 (fun q => decide (q.1 = a)) (fun q => prD q)
    (fun q hq => ⟨[some (.ref r), some (.int n), some (.int most), some (.ref p), u4, some (.int b'), u6, u7, some (.int a), some (prD q)], by simp, by
      simp
      by_cases hqa : q.1 = a <;> simp [hqa], fun _ => by simp⟩) hrt
  generalize hA : (rs.filter fun q => decide (q.1 = a)) = A at k1
  have b3 : exS (evE (callF tab (d + 7)) 60) 59 (.asg (.nm 6) (c_law_free_plan_e0 wn dr)) [some (.ref r), some (.int n), some (.int most), some (.ref p), u4, some (.int b'), u6, u7, some (.int a), none] S3 = .nx [some (.ref r), some (.int n), some (.int most), some (.ref p), u4, some (.int b'), some (.lst (A.map prD)), u7, some (.int a), none] S3 := by
    rw [s_asg, c_law_free_plan_e0, e_lc]
    simp only [i_of, e_v, List.getElem?_cons_zero, List.getElem?_cons_succ, Option.elim_some, b_ok, of_el, hs3, Option.map_some, wipe_s, wipe_0, List.set_cons_succ, List.set_cons_zero, k1, mkR_f, o_ok, asg_nm]
  have k2 := evC_cell (ev := evE (callF tab (d + 7)) 59) (tg := .nm 9) (ifs := [(.cmp .eq (.ix (.v 9) (.k (.int 1))) (.v 5))]) (elt := .v 9) (l := [some (.ref r), some (.int n), some (.int most), some (.ref p), u4, some (.int b'), some (.lst (A.map prD)), u7, some (.int a), none]) (h := prD) (ys := rs) c3 (fun q => decide (q.2 = b')) (fun q => prD q)
    (fun q hq => ⟨[some (.ref r), some (.int n), some (.int most), some (.ref p), u4, some (.int b'), some (.lst (A.map prD)), u7, some (.int a), some (prD q)], by simp, by
      simp
      by_cases hqa : q.2 = b' <;> simp [hqa], fun _ => by simp⟩) hrt
  generalize hB : (rs.filter fun q => decide (q.2 = b')) = B at k2
  have b4 : exS (evE (callF tab (d + 7)) 60) 59 (.asg (.nm 7) (c_law_free_plan_e1 wn dr)) [some (.ref r), some (.int n), some (.int most), some (.ref p), u4, some (.int b'), some (.lst (A.map prD)), u7, some (.int a), none] S3 = .nx [some (.ref r), some (.int n), some (.int most), some (.ref p), u4, some (.int b'), some (.lst (A.map prD)), some (.lst (B.map prD)), some (.int a), none] S3 := by
    rw [s_asg, c_law_free_plan_e1, e_lc]
    simp only [i_of, e_v, List.getElem?_cons_zero, List.getElem?_cons_succ, Option.elim_some, b_ok, of_el, hs3, Option.map_some, wipe_s, wipe_0, List.set_cons_succ, List.set_cons_zero, k2, mkR_f, o_ok, asg_nm]
  rw [show c_law_free_plan_b0 wn dr = _ :: _ :: _ :: _ :: fpTail from rfl, ss_go b1, ss_go b2, ss_go b3, ss_go b4]
  have hf : ∀ S0 : Sto, Fr r S0 S → Fr r S0 S3 := fun S0 h0 => ((h0.trans f1).trans f2).trans f3
  by_cases hc : A.length < 2 ∧ B.length < 2
  · have hrd := read_at c3
    have hap : ∀ d, appD (.ref p) [d] S3 = .ok .non (S3.set p (.lst (rs.map prD ++ [d]))) := fun d => app_at c3 (by rw [List.length_map]; omega)
    refine ⟨some (.int b'), some (.lst (A.map prD)), some (.lst (B.map prD)), some (.int a), rs ++ [(a, b')], S3.set p (.lst (rs.map prD ++ [.tup [.int a, .int b']])), ?_, R.add hl ha hb' (by rw [hA]; exact hc.1) (by rw [hB]; exact hc.2), by simp, ?_, s3.set hpr, fun S0 h0 h1 => (hf S0 h1).put h0⟩
    · have c1 : (A.length : Int) < 2 := by omega
      have c2 : (B.length : Int) < 2 := by omega
      simp [fpTail, hrd, hap, c1, c2]
    · rw [get_set c3]; simp
  · refine ⟨some (.int b'), some (.lst (A.map prD)), some (.lst (B.map prD)), some (.int a), rs, S3, ?_, R, by omega, c3, s3, fun S0 h0 h1 => hf S0 h1⟩
    by_cases c1 : (A.length : Int) < 2
    · have c2 : ¬ (B.length : Int) < 2 := by omega
      simp [fpTail, c1, c2]
    · simp [fpTail, c1]
theorem fp_run {tab : List Fd} {f d : Nat} (h : OkFP tab f) {n most : Int} (hn : 1 ≤ n ∧ n ≤ 20) (hm : 1 ≤ most ∧ most ≤ 30) {S : Sto} {r N : Nat} (st : Stt S r N) (hN : N + 500 < 1000000000) :
    ∃ as zs S', callF tab (d + 8) f [.ref r, .int n, .int most] S = .ok (PL n as zs) S' ∧ Vp n as zs ∧ Stt S' r (N + 500) ∧ Fr r S S' := by
  obtain ⟨wn, dr, h1, h2, h⟩ := h
  have hrlt := st.lt
  rw [call_body h rfl (l := [some (.ref r), some (.int n), some (.int most), none, none, none, none, none, none, none]) rfl]
  show ∃ as zs S', (exSs (exS (evE (callF tab (d + 7)) 60) 60) (c_law_free_plan wn dr) _ S).fin = _ ∧ _
  unfold c_law_free_plan
  have e1 : exS (evE (callF tab (d + 7)) 60) 60 (.asg (.nm 3) (.lst true [])) [some (.ref r), some (.int n), some (.int most), none, none, none, none, none, none, none] S = .nx [some (.ref r), some (.int n), some (.int most), some (.ref S.length), none, none, none, none, none, none] (S ++ [.lst []]) := by simp
  obtain ⟨v, S1, e2, hv, s1, f1⟩ := draw_spec (d := d + 6) h2 (st.app (T := [.lst []])) (by omega) (b := most) (by omega)
  have q0 : evE (callF tab (d + 7)) 60 (.bin .add (.bin .sub (.v 1) (.k (.int 1))) (.call dr [(.v 0), (.v 2)])) [some (.ref r), some (.int n), some (.int most), some (.ref S.length), none, none, none, none, none, none] (S ++ [.lst []]) = .ok (.int (n - 1 + v)) S1 := by
    simp [e2]
  have cell1 : S1[S.length]? = some (.lst (([] : List P2).map prD)) := f1.cell (c := .lst []) get_app (by omega)
  have fr1 : Fr r S S1 := Fr.app.trans f1
  generalize hcc : n - 1 + v = c at q0
  have hc : 0 ≤ c ∧ c ≤ 50 := by omega
  obtain ⟨l', S', q, rs, u4, u5, u6, u7, u8, rfl, hcell, R, hst, hfr⟩ : ∃ l' S', forL (.rng 0 1 (c - 0).toNat) (.nm 4) (exSs (exS (evE (callF tab (d + 7)) 60) 59) (c_law_free_plan_b0 wn dr)) turns 0 [some (.ref r), some (.int n), some (.int most), some (.ref S.length), none, none, none, none, none, none] S1 = .nx l' S' ∧
      (∃ (rs : List P2) (u4 u5 u6 u7 u8 : Option D), l' = [some (.ref r), some (.int n), some (.int most), some (.ref S.length), u4, u5, u6, u7, u8, none] ∧ S'[S.length]? = some (.lst (rs.map prD)) ∧ Rw n rs ∧ Stt S' r (N + 300) ∧ Fr r S S') := by
    have key := forL_ind (row_rgI 0 c) (t := .nm 4) (body := exSs (exS (evE (callF tab (d + 7)) 60) 59) (c_law_free_plan_b0 wn dr))
      (fun i l' S' => ∃ (rs : List P2) (u4 u5 u6 u7 u8 : Option D), l' = [some (.ref r), some (.int n), some (.int most), some (.ref S.length), u4, u5, u6, u7, u8, none] ∧ S'[S.length]? = some (.lst (rs.map prD)) ∧ Rw n rs ∧ rs.length ≤ i ∧ Stt S' r (N + 1 + 3 * i) ∧ Fr r S S')
      (fun oo => ∃ l' S', oo = .nx l' S' ∧ (∃ (rs : List P2) (u4 u5 u6 u7 u8 : Option D), l' = [some (.ref r), some (.int n), some (.int most), some (.ref S.length), u4, u5, u6, u7, u8, none] ∧ S'[S.length]? = some (.lst (rs.map prD)) ∧ Rw n rs ∧ Stt S' r (N + 300) ∧ Fr r S S'))
      (by
        rintro i dd l' S' hd ⟨rs, u4, u5, u6, u7, u8, rfl, hcell, R, hl, hst, hfr⟩
        have hi : i < c.toNat := by
          have := (List.getElem?_eq_some_iff.mp hd).1
          rw [List.length_map, rgI_len] at this; omega
        refine ⟨_, asg_nm, ?_⟩
        rw [show (List.set [some (D.ref r), some (D.int n), some (D.int most), some (D.ref S.length), u4, u5, u6, u7, u8, none] 4 (some dd)) = [some (D.ref r), some (D.int n), some (D.int most), some (D.ref S.length), some dd, u5, u6, u7, u8, none] from rfl]
        obtain ⟨u5', u6', u7', u8', rs', S2, e, R', hl', c', s', f'⟩ := fp_body (d := d) (wn := wn) (most := most) h2 (n := n) (by omega) (by omega) R (by omega) hcell hst (by omega) (some dd) u5 u6 u7 u8
        rw [e]
        exact ⟨rs', _, _, _, _, _, rfl, c', R', by omega, s'.up (by omega), f' S (Nat.le_refl _) hfr⟩)
      (by
        rintro l' S' ⟨rs, u4, u5, u6, u7, u8, rfl, hcell, R, hl, hst, hfr⟩
        rw [List.length_map, rgI_len] at hst
        exact ⟨_, _, rfl, rs, _, _, _, _, _, rfl, hcell, R, hst.up (by omega), hfr⟩)
    exact key _ 0 turns [some (.ref r), some (.int n), some (.int most), some (.ref S.length), none, none, none, none, none, none] S1 rfl (Nat.zero_le _) (by rw [List.length_map, rgI_len]; unfold turns; omega) ⟨[], none, none, none, none, none, rfl, cell1, Rw.nil (by omega), by simp, s1, fr1⟩
  have e3 : exS (evE (callF tab (d + 7)) 60) 60 (c_law_free_plan_s0 wn dr) [some (.ref r), some (.int n), some (.int most), some (.ref S.length), none, none, none, none, none, none] (S ++ [.lst []]) = .nx [some (.ref r), some (.int n), some (.int most), some (.ref S.length), u4, u5, u6, u7, u8, none] S' := by
    rw [c_law_free_plan_s0, s_for, i_rng, l_cons, q0, b_ok, l_nil, b_ok, b_ok, rngD_1 (b := c) (by omega)]
    simp only [of_el, Option.elim_some, o_ok]
    exact q
  obtain ⟨as, zs, S2, e4, V, s2, f2⟩ := wn_run (d := d) h1 R (X := .ref S.length) hst (by omega) (fun S'' hf => read_at (hf.cell hcell (by omega)))
  refine ⟨as, zs, S2, ?_, V, s2.up (by omega), hfr.trans f2⟩
  rw [ss_step e1, ss_step e3]
  refine ss_ret ?_
  simp only [s_ret, e_call, l_cons, l_nil, e_v, List.getElem?_cons_zero, List.getElem?_cons_succ, Option.elim_some, b_ok, e4, o_ok]

end Sp
end
section
set_option linter.all false
set_option linter.unusedSimpArgs false
/-! N12: renamed plans -/
open Ev PySem L2
namespace Sp
def c_law_renamed_e0  : CE := (.lc true [5] (.nm 5) (.of (.ix (.v 0) (.k (.int 1)))) [] (.k .non))
def c_law_renamed_b0  : List CS := [
 .set (.v 3) (.ix (.v 2) (.v 4)) (.tup [(.ix (.v 1) (.ix (.ix (.ix (.v 0) (.k (.int 1))) (.v 4)) (.k (.int 0)))), (.ix (.v 1) (.ix (.ix (.ix (.v 0) (.k (.int 1))) (.v 4)) (.k (.int 1))))])]
def c_law_renamed_s0  : CS := .fors (.nm 4) (.rng [(.bi false .len [(.v 3)])]) c_law_renamed_b0
def c_law_renamed_e1  : CE := (.lc false [4, 6] (.tp [(.nm 4), (.nm 6)]) (.of (.ix (.v 0) (.k (.int 2)))) [] (.tup [(.ix (.v 2) (.v 4)), (.ix (.v 2) (.v 6))]))
def c_law_renamed  : List CS := [
 .asg (.nm 3) c_law_renamed_e0,
 c_law_renamed_s0,
 .ret (some (.tup [(.ix (.v 0) (.k (.int 0))), (.bi false .tuple [(.v 3)]), (.bi false .tuple [(.bi false .sorted [c_law_renamed_e1])])]))]
def f_law_renamed  : Fd := ⟨3, 7, c_law_renamed ⟩
-- N12: renamed plans
def iv (qs : List Int) (x : Int) : Int := (qs[x.toNat]?).getD 0
structure Pm (c : Int) (qs : List Int) : Prop where
  len : (qs.length : Int) = c
  rg : ∀ x, 0 ≤ x → x < c → 0 ≤ iv qs x ∧ iv qs x < c
  inj : ∀ x y, 0 ≤ x → x < c → 0 ≤ y → y < c → iv qs x = iv qs y → x = y
  sur : ∀ y, 0 ≤ y → y < c → ∃ x, 0 ≤ x ∧ x < c ∧ iv qs x = y
theorem iv_get {qs : List Int} {x : Int} (h0 : 0 ≤ x) (h1 : x.toNat < qs.length) : iv qs x = qs[x.toNat] := by
  unfold iv
  rw [List.getElem?_eq_getElem h1]; rfl
theorem at_iv {c : Int} {qs : List Int} (h : Pm c qs) {x : Int} (h0 : 0 ≤ x) (h1 : x < c) : atI qs x = some (iv qs x) := by
  have hl := h.len
  have : x.toNat < qs.length := by omega
  rw [at_nn h0, iv_get h0 this, List.getElem?_eq_getElem this]
theorem nodup_get {α : Type} {xs : List α} (h : xs.Nodup) {i j : Nat} (hi : i < xs.length) (hj : j < xs.length) (e : xs[i] = xs[j]) : i = j := by
  have hp := List.pairwise_iff_getElem.mp h
  rcases Nat.lt_trichotomy i j with h1 | h1 | h1
  · exact absurd e (hp i j hi hj h1)
  · exact h1
  · exact absurd e.symm (hp j i hj hi h1)
theorem pm_of {c : Int} {qs : List Int} (hc : 0 ≤ c) (h : qs.Perm (rgI 0 c)) : Pm c qs := by
  have hl : (qs.length : Int) = c := by rw [h.length_eq, rgI_len]; omega
  have hn : qs.Nodup := h.nodup_iff.mpr (rg_nodup 0 c)
  refine ⟨hl, fun x h0 h1 => ?_, fun x y h0 h1 h2 h3 e => ?_, fun y h0 h1 => ?_⟩
  · have hx : x.toNat < qs.length := by omega
    rw [iv_get h0 hx]
    have := mem_rgI.mp (h.mem_iff.mp (List.getElem_mem hx))
    exact this
  · have hx : x.toNat < qs.length := by omega
    have hy : y.toNat < qs.length := by omega
    rw [iv_get h0 hx, iv_get h2 hy] at e
    have := nodup_get hn hx hy e
    omega
  · obtain ⟨i, hi, e⟩ := List.getElem_of_mem (h.mem_iff.mpr (mem_rgI.mpr ⟨h0, h1⟩))
    refine ⟨i, by omega, by omega, ?_⟩
    unfold iv
    rw [Int.toNat_natCast, List.getElem?_eq_getElem hi, e]; rfl
structure Rn (as : List P2) (qs ss : List Int) (bs : List P2) : Prop where
  len : bs.length = as.length
  ar : ∀ a, inA as a → ar bs (iv ss a) = (iv qs (ar as a).1, iv qs (ar as a).2)
theorem Vp.renamed {n : Int} {as zs bs : List P2} {qs ss : List Int} (V : Vp n as zs) (Q : Pm n qs) (T : Pm (cnt as) ss) (B : Rn as qs ss bs) : Vp n bs (sortP (zs.map fun z => (iv ss z.1, iv ss z.2))) := by
  have hcn : cnt bs = cnt as := by unfold cnt; rw [B.len]
  have inB : ∀ x, inA as x → inA bs (iv ss x) := fun x h => by
    have := T.rg x h.1 h.2
    exact ⟨this.1, by rw [hcn]; exact this.2⟩
  have pre : ∀ i, inA bs i → ∃ x, inA as x ∧ iv ss x = i := fun i h => by
    obtain ⟨x, h0, h1, e⟩ := T.sur i h.1 (by rw [← hcn]; exact h.2)
    exact ⟨x, ⟨h0, h1⟩, e⟩
  have inj : ∀ x y, inA as x → inA as y → iv ss x = iv ss y → x = y := fun x y hx hy e => T.inj x y hx.1 hx.2 hy.1 hy.2 e
  have p1 : ∀ x, inA as x → (Sp.ar bs (iv ss x)).1 = iv qs (Sp.ar as x).1 := fun x h => by rw [B.ar x h]
  have p2 : ∀ x, inA as x → (Sp.ar bs (iv ss x)).2 = iv qs (Sp.ar as x).2 := fun x h => by rw [B.ar x h]
  have q11 : ∀ x y, inA as x → inA as y → iv qs (Sp.ar as x).1 = iv qs (Sp.ar as y).1 → (Sp.ar as x).1 = (Sp.ar as y).1 := fun x y hx hy e => by
    have := V.pts x hx; have := V.pts y hy
    exact Q.inj _ _ (by omega) (by omega) (by omega) (by omega) e
  have q22 : ∀ x y, inA as x → inA as y → iv qs (Sp.ar as x).2 = iv qs (Sp.ar as y).2 → (Sp.ar as x).2 = (Sp.ar as y).2 := fun x y hx hy e => by
    have := V.pts x hx; have := V.pts y hy
    exact Q.inj _ _ (by omega) (by omega) (by omega) (by omega) e
  have q12 : ∀ x y, inA as x → inA as y → iv qs (Sp.ar as x).1 = iv qs (Sp.ar as y).2 → (Sp.ar as x).1 = (Sp.ar as y).2 := fun x y hx hy e => by
    have := V.pts x hx; have := V.pts y hy
    exact Q.inj _ _ (by omega) (by omega) (by omega) (by omega) e
  have hm : ∀ i j, (i, j) ∈ sortP (zs.map fun z => (iv ss z.1, iv ss z.2)) ↔ ∃ x y, (x, y) ∈ zs ∧ iv ss x = i ∧ iv ss y = j := fun i j => by
    rw [(sortP_perm _).mem_iff, List.mem_map]
    constructor
    · rintro ⟨z, h, e⟩
      have e1 : iv ss z.1 = i := congrArg Prod.fst e
      have e2 : iv ss z.2 = j := congrArg Prod.snd e
      exact ⟨z.1, z.2, h, e1, e2⟩
    · rintro ⟨x, y, h, e1, e2⟩
      exact ⟨(x, y), h, by rw [e1, e2]⟩
  have hm2 : ∀ x y, inA as x → inA as y → ((iv ss x, iv ss y) ∈ sortP (zs.map fun z => (iv ss z.1, iv ss z.2)) ↔ (x, y) ∈ zs) := fun x y hx hy => by
    rw [hm]
    constructor
    · rintro ⟨x', y', h, e1, e2⟩
      have := V.zin x' y' h
      rw [inj x' x this.1 hx e1, inj y' y this.2.1 hy e2] at h
      exact h
    · intro h; exact ⟨x, y, h, rfl, rfl⟩
  refine ⟨by rw [B.len]; exact V.len, by rw [(sortP_perm _).length_eq, List.length_map]; exact V.zlen, V.size, fun i hi => ?_, fun i j h => ?_, fun i j k h1 h2 => ?_, fun i j k h1 h2 => ?_, fun i j k hi hj hk e1 e2 n1 n2 => ?_, fun i j k hi hj hk e1 e2 n1 n2 => ?_, fun i j k hi hj hk e1 e2 n1 n2 => ?_, fun i j k hi hj hk e1 e2 n1 n2 => ?_, ?_⟩
  · obtain ⟨x, hx, rfl⟩ := pre i hi
    rw [B.ar x hx]
    have := V.pts x hx
    have h1 := Q.rg (Sp.ar as x).1 (by omega) (by omega)
    have h2 := Q.rg (Sp.ar as x).2 (by omega) (by omega)
    exact ⟨h1.1, h1.2, h2.1, h2.2⟩
  · obtain ⟨x, y, hz, rfl, rfl⟩ := (hm i j).mp h
    have := V.zin x y hz
    exact ⟨inB x this.1, inB y this.2.1, by rw [p2 x this.1, p1 y this.2.1, this.2.2]⟩
  · obtain ⟨x, y, h, rfl, rfl⟩ := (hm i j).mp h1
    obtain ⟨x', y', h', e, rfl⟩ := (hm _ k).mp h2
    rw [inj x' x (V.zin _ _ h').1 (V.zin _ _ h).1 e] at h'
    rw [V.z1 x y y' h h']
  · obtain ⟨x, y, h, rfl, rfl⟩ := (hm i k).mp h1
    obtain ⟨x', y', h', rfl, e⟩ := (hm j _).mp h2
    rw [inj y' y (V.zin _ _ h').2.1 (V.zin _ _ h).2.1 e] at h'
    rw [V.z2 x x' y h h']
  · obtain ⟨x, hx, rfl⟩ := pre i hi
    obtain ⟨y, hy, rfl⟩ := pre j hj
    obtain ⟨z, hz, rfl⟩ := pre k hk
    rw [p1 y hy, p2 x hx] at e1
    rw [p1 z hz, p2 x hx] at e2
    rw [hm2 x y hx hy] at n1
    rw [hm2 x z hx hz] at n2
    rw [V.o1 x y z hx hy hz (q12 y x hy hx e1) (q12 z x hz hx e2) n1 n2]
  · obtain ⟨x, hx, rfl⟩ := pre i hi
    obtain ⟨y, hy, rfl⟩ := pre j hj
    obtain ⟨z, hz, rfl⟩ := pre k hk
    rw [p2 y hy, p1 x hx] at e1
    rw [p2 z hz, p1 x hx] at e2
    rw [hm2 y x hy hx] at n1
    rw [hm2 z x hz hx] at n2
    rw [V.o2 x y z hx hy hz (q12 x y hx hy e1.symm).symm (q12 x z hx hz e2.symm).symm n1 n2]
  · obtain ⟨x, hx, rfl⟩ := pre i hi
    obtain ⟨y, hy, rfl⟩ := pre j hj
    obtain ⟨z, hz, rfl⟩ := pre k hk
    rw [p1 y hy, p1 x hx] at e1
    rw [p1 z hz, p1 x hx] at e2
    rw [V.t1 x y z hx hy hz (q11 y x hy hx e1) (q11 z x hz hx e2) (fun e => n1 (by rw [e])) (fun e => n2 (by rw [e]))]
  · obtain ⟨x, hx, rfl⟩ := pre i hi
    obtain ⟨y, hy, rfl⟩ := pre j hj
    obtain ⟨z, hz, rfl⟩ := pre k hk
    rw [p2 y hy, p2 x hx] at e1
    rw [p2 z hz, p2 x hx] at e2
    rw [V.t2 x y z hx hy hz (q22 y x hy hx e1) (q22 z x hz hx e2) (fun e => n1 (by rw [e])) (fun e => n2 (by rw [e]))]
  · apply sortP_lt
    rw [List.Nodup, List.pairwise_map]
    have hz : zs.Pairwise fun x y => x ≠ y := lt_nodup V.srt
    refine List.Pairwise.imp_of_mem ?_ hz
    intro z w hz hw hne e
    have h1 := V.zin z.1 z.2 hz
    have h2 := V.zin w.1 w.2 hw
    have e1 : iv ss z.1 = iv ss w.1 := congrArg Prod.fst e
    have e2 : iv ss z.2 = iv ss w.2 := congrArg Prod.snd e
    exact hne (Prod.ext (inj _ _ h1.1 h2.1 e1) (inj _ _ h1.2.1 h2.2.1 e2))
theorem all_pr : ∀ (L : List D), (∀ d ∈ L, ∃ q, d = prD q) → ∃ bs : List P2, L = bs.map prD
  | [], _ => ⟨[], rfl⟩
  | d :: L, h => by
    obtain ⟨q, e⟩ := h d List.mem_cons_self
    obtain ⟨bs, e'⟩ := all_pr L fun x hx => h x (List.mem_cons_of_mem _ hx)
    exact ⟨q :: bs, by rw [e, e']; rfl⟩
theorem prD_inj {p q : P2} (h : prD p = prD q) : p = q := by
  simp only [prD, D.tup.injEq, List.cons.injEq, D.int.injEq, and_true] at h
  exact Prod.ext h.1 h.2
theorem set_last {S : Sto} {c c' : Cell} : (S ++ [c]).set S.length c' = S ++ [c'] := by
  rw [List.set_append_right _ _ (Nat.le_refl _)]
  simp
theorem ren_run {tab : List Fd} {f d : Nat} (h : tab[f]? = some f_law_renamed) {n : Int} {as zs : List P2} {qs ss : List Int} (V : Vp n as zs) (Q : Pm n qs) (T : Pm (cnt as) ss) (S : Sto) :
    ∃ bs c, callF tab (d + 1) f [PL n as zs, .tup (qs.map .int), .tup (ss.map .int)] S = .ok (PL n bs (sortP (zs.map fun z => (iv ss z.1, iv ss z.2)))) (S ++ [c]) ∧ Rn as qs ss bs := by
  have hlen := V.len
  have hzl := V.zlen
  have hca : cnt as = (as.length : Int) := rfl
  rw [call_body h rfl (l := [some (PL n as zs), some (.tup (qs.map .int)), some (.tup (ss.map .int)), none, none, none, none]) rfl]
  show ∃ bs c, (exSs (exS (evE (callF tab d) 60) 60) c_law_renamed _ S).fin = _ ∧ _
  unfold c_law_renamed
  have k1 := evC_all (ev := evE (callF tab d) 59) (tg := .nm 5) (elt := .k .non) (l := [some (PL n as zs), some (.tup (qs.map .int)), some (.tup (ss.map .int)), none, none, none, none]) (S := S) (h := prD) (ys := as) (row_vals _) (fun _ => .non)
    (fun q hq => ⟨[some (PL n as zs), some (.tup (qs.map .int)), some (.tup (ss.map .int)), none, none, some (prD q), none], by simp, by simp⟩) (by unfold turns; omega)
  have e1 : exS (evE (callF tab d) 60) 60 (.asg (.nm 3) c_law_renamed_e0) [some (PL n as zs), some (.tup (qs.map .int)), some (.tup (ss.map .int)), none, none, none, none] S = .nx [some (PL n as zs), some (.tup (qs.map .int)), some (.tup (ss.map .int)), some (.ref S.length), none, none, none] (S ++ [.lst (as.map fun _ => .non)]) := by
    rw [s_asg, c_law_renamed_e0, e_lc]
    simp only [i_of, e_ix, e_v, e_k, List.getElem?_cons_zero, Option.elim_some, b_ok, ixT, at_1, of_el, src_t, Option.map_some, wipe_s, wipe_0, List.set_cons_succ, List.set_cons_zero, k1, mkR_t, o_ok, asg_nm]
  have key := forL_ind (row_rgI 0 (cnt as)) (t := .nm 4) (body := exSs (exS (evE (callF tab d) 60) 59) c_law_renamed_b0)
    (fun i l' S' => ∃ (L : List D) (u : Option D), l' = [some (PL n as zs), some (.tup (qs.map .int)), some (.tup (ss.map .int)), some (.ref S.length), u, none, none] ∧ S' = S ++ [.lst L] ∧ L.length = as.length ∧ ∀ a : Int, 0 ≤ a → a < (i : Int) → a < cnt as → L[(iv ss a).toNat]? = some (prD (iv qs (ar as a).1, iv qs (ar as a).2)))
    (fun oo => ∃ (L : List D) (u : Option D), oo = .nx [some (PL n as zs), some (.tup (qs.map .int)), some (.tup (ss.map .int)), some (.ref S.length), u, none, none] (S ++ [.lst L]) ∧ L.length = as.length ∧ ∀ a : Int, inA as a → L[(iv ss a).toNat]? = some (prD (iv qs (ar as a).1, iv qs (ar as a).2)))
    (by
      rintro i dd l' S' hd ⟨L, u, rfl, rfl, hL, hA⟩
      have hi : i < (cnt as).toNat := by
        have := (List.getElem?_eq_some_iff.mp hd).1
        rw [List.length_map, rgI_len] at this; omega
      have hdd : dd = .int (i : Int) := by
        rw [List.getElem?_map, rgI_get (a := 0) (b := cnt as) (k := i) (by omega)] at hd
        simpa using hd.symm
      subst hdd
      have hia : inA as (i : Int) := ⟨by omega, by omega⟩
      have hp := V.pts _ hia
      have ht := T.rg i (by omega) (by omega)
      have g1 : atI ss (i : Int) = some (iv ss i) := at_iv T (by omega) (by omega)
      have g2 : atI qs (ar as i).1 = some (iv qs (ar as i).1) := at_iv Q (by omega) (by omega)
      have g3 : atI qs (ar as i).2 = some (iv qs (ar as i).2) := at_iv Q (by omega) (by omega)
      have g4 := at_ar hia
      have hx : ixN L.length (iv ss i) = some (iv ss i).toNat := by
        unfold ixN
        have h2 : iv ss i < (L.length : Int) := by omega
        simp [ht.1, h2]
      have hs : setD (.ref S.length) (.int (iv ss i)) (.tup [.int (iv qs (ar as i).1), .int (iv qs (ar as i).2)]) (S ++ [.lst L]) = some (S ++ [.lst (L.set (iv ss i).toNat (.tup [.int (iv qs (ar as i).1), .int (iv qs (ar as i).2)]))]) := by
        simp only [setD, get_app, hx, set_last]
      refine ⟨_, asg_nm, ?_⟩
      have eb : exSs (exS (evE (callF tab d) 60) 59) c_law_renamed_b0 (List.set [some (PL n as zs), some (.tup (qs.map .int)), some (.tup (ss.map .int)), some (.ref S.length), u, none, none] 4 (some (.int (i : Int)))) (S ++ [.lst L]) = .nx [some (PL n as zs), some (.tup (qs.map .int)), some (.tup (ss.map .int)), some (.ref S.length), some (.int (i : Int)), none, none] (S ++ [.lst (L.set (iv ss i).toNat (.tup [.int (iv qs (ar as i).1), .int (iv qs (ar as i).2)]))]) := by
        unfold c_law_renamed_b0
        simp [g1, g2, g3, g4, hs]
      rw [eb]
      refine ⟨_, _, rfl, rfl, by rw [List.length_set]; exact hL, fun a h0 h1 h2 => ?_⟩
      by_cases ha : a = (i : Int)
      · subst ha
        rw [List.getElem?_set_self (by omega)]
      · have hne : (iv ss i).toNat ≠ (iv ss a).toNat := fun e => by
          have h3 := T.rg a h0 h2
          have := T.inj a i h0 h2 (by omega) (by omega) (by omega)
          omega
        rw [List.getElem?_set_ne hne]
        exact hA a h0 (by omega) h2)
    (by
      rintro l' S' ⟨L, u, rfl, rfl, hL, hA⟩
      rw [List.length_map, rgI_len] at hA
      exact ⟨L, u, rfl, hL, fun a ha => hA a ha.1 (by have := ha.2; omega) ha.2⟩)
  obtain ⟨L, u, e2, hL, hA⟩ := key _ 0 turns [some (PL n as zs), some (.tup (qs.map .int)), some (.tup (ss.map .int)), some (.ref S.length), none, none, none] (S ++ [.lst (as.map fun _ => .non)]) rfl (Nat.zero_le _) (by rw [List.length_map, rgI_len]; unfold turns; omega) ⟨_, _, rfl, rfl, by simp, fun a h0 h1 => by omega⟩
  have q0 : evE (callF tab d) 60 (.bi false .len [(.v 3)]) [some (PL n as zs), some (.tup (qs.map .int)), some (.tup (ss.map .int)), some (.ref S.length), none, none, none] (S ++ [.lst (as.map fun _ => .non)]) = .ok (.int (cnt as)) (S ++ [.lst (as.map fun _ => .non)]) := by
    have := len_rd (read_at (S := S ++ [.lst (as.map fun _ => .non)]) (p := S.length) get_app)
    simp [this]
  have e3 : exS (evE (callF tab d) 60) 60 c_law_renamed_s0 [some (PL n as zs), some (.tup (qs.map .int)), some (.tup (ss.map .int)), some (.ref S.length), none, none, none] (S ++ [.lst (as.map fun _ => .non)]) = .nx [some (PL n as zs), some (.tup (qs.map .int)), some (.tup (ss.map .int)), some (.ref S.length), u, none, none] (S ++ [.lst L]) := by
    rw [c_law_renamed_s0, s_for, i_rng, l_cons, q0, b_ok, l_nil, b_ok, b_ok, rngD_1 (b := cnt as) (by omega)]
    simp only [of_el, Option.elim_some, o_ok]
    exact e2
  obtain ⟨bs, hbs⟩ := all_pr L fun x hx => by
    obtain ⟨k, hk, e⟩ := List.getElem_of_mem hx
    obtain ⟨a, h0, h1, e'⟩ := T.sur (k : Int) (by omega) (by omega)
    have := hA a ⟨h0, h1⟩
    rw [e', Int.toNat_natCast, List.getElem?_eq_getElem hk, e] at this
    exact ⟨_, Option.some.inj this⟩
  subst hbs
  have hR : Rn as qs ss bs := by
    refine ⟨by rw [← hL, List.length_map], fun a ha => ?_⟩
    have := hA a ha
    rw [List.getElem?_map] at this
    unfold ar
    cases hb : bs[(iv ss a).toNat]? with
    | none => rw [hb] at this; simp at this
    | some x =>
      rw [hb, Option.map_some] at this
      exact prD_inj (Option.some.inj this)
  have k2 := evC_all (ev := evE (callF tab d) 56) (tg := .tp [(.nm 4), (.nm 6)]) (elt := (.tup [(.ix (.v 2) (.v 4)), (.ix (.v 2) (.v 6))])) (l := [some (PL n as zs), some (.tup (qs.map .int)), some (.tup (ss.map .int)), some (.ref S.length), none, none, none]) (S := S ++ [.lst (bs.map prD)]) (h := prD) (ys := zs) (row_vals _) (fun z => prD (iv ss z.1, iv ss z.2))
    (fun q hq => ⟨[some (PL n as zs), some (.tup (qs.map .int)), some (.tup (ss.map .int)), some (.ref S.length), some (.int q.1), none, some (.int q.2)], by simp, by
      have hz := V.zin q.1 q.2 hq
      have g1 : atI ss q.1 = some (iv ss q.1) := at_iv T hz.1.1 hz.1.2
      have g2 : atI ss q.2 = some (iv ss q.2) := at_iv T hz.2.1.1 hz.2.1.2
      simp [g1, g2]⟩) (by unfold turns; omega)
  rw [show zs.map (fun z => prD (iv ss z.1, iv ss z.2)) = (zs.map fun z => (iv ss z.1, iv ss z.2)).map prD by rw [List.map_map]; rfl] at k2
  refine ⟨bs, .lst (bs.map prD), ?_, hR⟩
  rw [ss_step e1, ss_step e3]
  refine ss_ret ?_
  have q1 := tup_rd (read_at (S := S ++ [.lst (bs.map prD)]) (p := S.length) get_app)
  have q3 : ∀ ps : List P2, biD (S ++ [.lst (bs.map prD)]) .sorted [.lst (ps.map prD)] = some (.lst ((sortP ps).map prD)) := fun ps => sorted_rd rfl
  have q2 : evE (callF tab d) 57 c_law_renamed_e1 [some (PL n as zs), some (.tup (qs.map .int)), some (.tup (ss.map .int)), some (.ref S.length), u, none, none] (S ++ [.lst (bs.map prD)]) = .ok (.lst ((zs.map fun z => (iv ss z.1, iv ss z.2)).map prD)) (S ++ [.lst (bs.map prD)]) := by
    rw [c_law_renamed_e1, e_lc]
    simp only [i_of, e_ix, e_v, e_k, List.getElem?_cons_zero, Option.elim_some, b_ok, ixT, at_2, of_el, src_t, Option.map_some, wipe_s, wipe_0, List.set_cons_succ, List.set_cons_zero, k2, mkR_f]
  simp only [s_ret, e_tup, e_ix, e_k, e_bi, l_cons, l_nil, e_v, List.getElem?_cons_zero, List.getElem?_cons_succ, Option.elim_some, b_ok, q1, q2, q3, ixT, at_0, of_el, mkR_f, bi_tup_l, List.length_cons, List.length_nil, Nat.zero_add, Nat.reduceAdd, len3, if_true, o_ok]

end Sp
end
section
set_option linter.all false
set_option linter.unusedSimpArgs false
/-! N13: known plans -/
open Ev PySem L2
namespace Sp
def c_law_known_plan_e0 (i_law_draw i_law_with_noughts : Nat) : CE := (.lc false [6] (.nm 6) (.rng [(.bin .sub (.v 1) (.k (.int 1)))]) [] (.call i_law_draw [(.v 0), (.k (.int 2))]))
def c_law_known_plan_e1 (i_law_draw i_law_with_noughts : Nat) : CE := (.lc true [6] (.nm 6) (.rng [(.bin .sub (.v 1) (.k (.int 1)))]) [] (.ife (.cmp .eq (.ix (.v 5) (.v 6)) (.k (.int 0))) (.tup [(.v 6), (.bin .add (.v 6) (.k (.int 1)))]) (.tup [(.bin .add (.v 6) (.k (.int 1))), (.v 6)])))
def c_law_known_plan_e2 (i_law_draw i_law_with_noughts : Nat) : CE := (.lc true [6] (.nm 6) (.rng [(.v 1)]) [] (.tup [(.v 6), (.bin .mod (.bi false .int [(.bin .add (.v 6) (.k (.int 1)))]) (.v 1))]))
def c_law_known_plan_e3 (i_law_draw i_law_with_noughts : Nat) : CE := (.lc false [6] (.nm 6) (.rng [(.v 1)]) [] (.tup [(.v 6), (.bin .mod (.bi false .int [(.bin .add (.v 6) (.k (.int 1)))]) (.v 1))]))
def c_law_known_plan_e4 (i_law_draw i_law_with_noughts : Nat) : CE := (.lc true [6] (.nm 6) (.rng [(.bin .sub (.v 1) (.k (.int 1)))]) [] (.tup [(.v 6), (.bin .add (.v 6) (.k (.int 1)))]))
def c_law_known_plan_b0 (i_law_draw i_law_with_noughts : Nat) : List CS := [
 .ex (.me .append (.v 3) [(.tup [(.v 6), (.bin .add (.v 6) (.k (.int 1)))])]),
 .iff (.cmp .eq (.bin .mod (.bi false .int [(.v 6)]) (.k (.int 2))) (.k (.int 0))) [
  .ex (.me .append (.v 3) [(.tup [(.bin .add (.v 6) (.k (.int 1))), (.v 6)])])] []]
def c_law_known_plan_s0 (i_law_draw i_law_with_noughts : Nat) : CS := .fors (.nm 6) (.rng [(.bin .sub (.v 1) (.k (.int 1)))]) (c_law_known_plan_b0 i_law_draw i_law_with_noughts)
def c_law_known_plan_e5 (i_law_draw i_law_with_noughts : Nat) : CE := (.lc false [6] (.nm 6) (.rng [(.bin .sub (.v 1) (.k (.int 1)))]) [] (.tup [(.v 6), (.bin .add (.v 6) (.k (.int 1)))]))
def c_law_known_plan_e6 (i_law_draw i_law_with_noughts : Nat) : CE := (.lc false [6] (.nm 6) (.rng [(.bin .sub (.v 1) (.k (.int 2)))]) [(.cmp .eq (.call i_law_draw [(.v 0), (.k (.int 2))]) (.k (.int 1)))] (.tup [(.v 6), (.bin .add (.v 6) (.k (.int 1)))]))
def c_law_known_plan (i_law_draw i_law_with_noughts : Nat) : List CS := [
 .asg (.nm 2) (.call i_law_draw [(.v 0), (.k (.int 5))]),
 .iff (.cmp .eq (.v 2) (.k (.int 0))) [
  .asg (.nm 5) (c_law_known_plan_e0 i_law_draw i_law_with_noughts),
  .asg (.nm 3) (c_law_known_plan_e1 i_law_draw i_law_with_noughts),
  .ret (some (.call i_law_with_noughts [(.v 0), (.v 1), (.v 3)]))] [],
 .iff (.cmp .eq (.v 2) (.k (.int 1))) [
  .asg (.nm 3) (c_law_known_plan_e2 i_law_draw i_law_with_noughts),
  .ret (some (.tup [(.v 1), (.bi false .tuple [(.v 3)]), (.bi false .tuple [(.bi false .sorted [(c_law_known_plan_e3 i_law_draw i_law_with_noughts)])])]))] [],
 .iff (.cmp .eq (.v 2) (.k (.int 2))) [
  .asg (.nm 3) (c_law_known_plan_e4 i_law_draw i_law_with_noughts),
  .ret (some (.call i_law_with_noughts [(.v 0), (.v 1), (.bin .add (.v 3) (.ife (.cmp .gt (.v 1) (.k (.int 1))) (.lst false [(.tup [(.k (.int 0)), (.k (.int 1))])]) (.lst false [])))]))] [],
 .iff (.cmp .eq (.v 2) (.k (.int 3))) [
  .asg (.nm 3) (.lst true []),
  (c_law_known_plan_s0 i_law_draw i_law_with_noughts),
  .ret (some (.call i_law_with_noughts [(.v 0), (.v 1), (.v 3)]))] [],
 .asg (.nm 3) (.cat (c_law_known_plan_e5 i_law_draw i_law_with_noughts) (.lst false [(.tup [(.bin .sub (.v 1) (.k (.int 1))), (.bin .sub (.v 1) (.k (.int 1)))])])),
 .asg (.nm 4) (.bin .add (.lst false [(.tup [(.bin .sub (.v 1) (.k (.int 1))), (.bin .sub (.v 1) (.k (.int 1)))])]) (c_law_known_plan_e6 i_law_draw i_law_with_noughts)),
 .ret (some (.tup [(.v 1), (.bi false .tuple [(.v 3)]), (.bi false .tuple [(.bi false .sorted [(.v 4)])])]))]
def f_law_known_plan (i_law_draw i_law_with_noughts : Nat) : Fd := ⟨2, 7, c_law_known_plan i_law_draw i_law_with_noughts⟩
-- N13: known plans
theorem iff_no {ev : CE → Ev.Loc → Sto → R3 D} {n : Nat} {c : CE} {a : List CS} {l : Ev.Loc} {S : Sto} (h : ev c l S = .ok (.bl false) S) : exS ev (n + 1) (.iff c a []) l S = .nx l S := by
  simp [h]
theorem iff_yes {ev : CE → Ev.Loc → Sto → R3 D} {n : Nat} {c : CE} {a b : List CS} {l : Ev.Loc} {S : Sto} (h : ev c l S = .ok (.bl true) S) : exS ev (n + 1) (.iff c a b) l S = exSs (exS ev n) a l S := by
  simp [h]
theorem ss_one {ev : CE → Ev.Loc → Sto → R3 D} {n : Nat} {s : CS} {r : List CS} {l : Ev.Loc} {d : D} {S S1 : Sto} (h : exS ev n s l S = .rt d S1) : exSs (exS ev n) (s :: r) l S = .rt d S1 := by
  rw [ss_cons, h, q_rt]
theorem ar_rg {m : Int} {g : Int → P2} {k : Int} (h : inA ((rgI 0 m).map g) k) : 0 ≤ k ∧ k < m ∧ ar ((rgI 0 m).map g) k = g k := by
  have h0 : 0 ≤ k := h.1
  have h1 : k < ((((rgI 0 m).map g).length : Nat) : Int) := h.2
  rw [List.length_map, rgI_len] at h1
  refine ⟨h0, by omega, ?_⟩
  unfold ar
  rw [List.getElem?_map, rgI_get (a := 0) (b := m) (k := k.toNat) (by omega), Option.map_some, Option.getD_some]
  congr 1; omega
theorem Rw.zig {n : Int} (hn : 1 ≤ n ∧ n ≤ 50) {rs : List P2} (hl : (rs.length : Int) = n - 1) (hz : ∀ k, inA rs k → ar rs k = (k, k + 1) ∨ ar rs k = (k + 1, k)) : Rw n rs := by
  have hc : cnt rs = n - 1 := hl
  refine ⟨by omega, by omega, fun i hi => ?_, fun a b c ha hb hc e1 e2 n1 n2 => ?_, fun a b c ha hb hc e1 e2 n1 n2 => ?_⟩
  · have h1 := hi.1; have h2 := hi.2
    rcases hz i hi with e | e <;> rw [e] <;> simp <;> omega
  · rcases hz a ha with e | e <;> rcases hz b hb with e' | e' <;> rcases hz c hc with e'' | e'' <;> rw [e, e'] at e1 <;> rw [e, e''] at e2 <;> simp at e1 e2 <;> omega
  · rcases hz a ha with e | e <;> rcases hz b hb with e' | e' <;> rcases hz c hc with e'' | e'' <;> rw [e, e'] at e1 <;> rw [e, e''] at e2 <;> simp at e1 e2 <;> omega
def lineR (n : Int) : List P2 := (rgI 0 (n - 1)).map fun k => (k, k + 1)
theorem lineR_len {n : Int} (h : 1 ≤ n) : ((lineR n).length : Int) = n - 1 := by unfold lineR; rw [List.length_map, rgI_len]; omega
theorem Rw.more {n : Int} (hn : 1 ≤ n ∧ n ≤ 50) : Rw n (lineR n ++ (if 1 < n then [((0 : Int), (1 : Int))] else [])) := by
  have hl := lineR_len hn.1
  have hline : ∀ k, inA (lineR n) k → ar (lineR n) k = (k, k + 1) := fun k hk => (ar_rg hk).2.2
  have hlk : ∀ k, inA (lineR n) k → 0 ≤ k ∧ k < n - 1 := fun k hk => ⟨hk.1, by have := hk.2; unfold cnt at this; omega⟩
  by_cases h1 : 1 < n
  · rw [if_pos h1]
    have hz : ∀ k, inA (lineR n ++ [((0 : Int), (1 : Int))]) k → (0 ≤ k ∧ k < n - 1 ∧ ar (lineR n ++ [(0, 1)]) k = (k, k + 1)) ∨ (k = n - 1 ∧ ar (lineR n ++ [(0, 1)]) k = (0, 1)) := fun k hk => by
      rcases ar_app hk with ⟨h, e⟩ | ⟨h, e⟩
      · exact .inl ⟨(hlk k h).1, (hlk k h).2, by rw [e, hline k h]⟩
      · exact .inr ⟨by rw [h]; exact hl, e⟩
    refine ⟨by rw [List.length_append, List.length_cons, List.length_nil]; omega, by omega, fun i hi => ?_, fun a b c ha hb hc e1 e2 n1 n2 => ?_, fun a b c ha hb hc e1 e2 n1 n2 => ?_⟩
    · rcases hz i hi with ⟨g0, g1, e⟩ | ⟨g, e⟩ <;> rw [e] <;> simp <;> omega
    · rcases hz a ha with ⟨g0, g1, e⟩ | ⟨g, e⟩ <;> rcases hz b hb with ⟨g2, g3, e'⟩ | ⟨g2, e'⟩ <;> rcases hz c hc with ⟨g4, g5, e''⟩ | ⟨g4, e''⟩ <;> rw [e, e'] at e1 <;> rw [e, e''] at e2 <;> simp at e1 e2 <;> omega
    · rcases hz a ha with ⟨g0, g1, e⟩ | ⟨g, e⟩ <;> rcases hz b hb with ⟨g2, g3, e'⟩ | ⟨g2, e'⟩ <;> rcases hz c hc with ⟨g4, g5, e''⟩ | ⟨g4, e''⟩ <;> rw [e, e'] at e1 <;> rw [e, e''] at e2 <;> simp at e1 e2 <;> omega
  · rw [if_neg h1, List.append_nil]
    exact Rw.zig hn hl fun k hk => .inl (hline k hk)
def ringR (n : Int) : List P2 := (rgI 0 n).map fun k => (k, (k + 1) % n)
theorem mod_nx {n k : Int} (h : 0 ≤ k ∧ k < n) : (k + 1) % n = if k = n - 1 then 0 else k + 1 := by
  by_cases h1 : k = n - 1
  · rw [if_pos h1, h1, show n - 1 + 1 = n by omega, Int.emod_self]
  · rw [if_neg h1, Int.emod_eq_of_lt (by omega) (by omega)]
theorem mem_ring {n x y : Int} : (x, y) ∈ sortP (ringR n) ↔ 0 ≤ x ∧ x < n ∧ y = (if x = n - 1 then 0 else x + 1) := by
  rw [(sortP_perm _).mem_iff]
  unfold ringR
  rw [List.mem_map]
  constructor
  · rintro ⟨k, hk, e⟩
    have hk := mem_rgI.mp hk
    have e1 : k = x := congrArg Prod.fst e
    have e2 : (k + 1) % n = y := congrArg Prod.snd e
    subst e1
    exact ⟨hk.1, hk.2, by rw [← e2, mod_nx hk]⟩
  · rintro ⟨h0, h1, e⟩
    exact ⟨x, mem_rgI.mpr ⟨h0, h1⟩, by rw [mod_nx ⟨h0, h1⟩, ← e]⟩
theorem Vp.ring {n : Int} (hn : 1 ≤ n ∧ n ≤ 50) : Vp n (ringR n) (sortP (ringR n)) := by
  have hl : ((ringR n).length : Int) = n := by unfold ringR; rw [List.length_map, rgI_len]; omega
  have hz : ∀ k, inA (ringR n) k → 0 ≤ k ∧ k < n ∧ (ar (ringR n) k).1 = k ∧ (ar (ringR n) k).2 = (if k = n - 1 then 0 else k + 1) := fun k hk => by
    have := ar_rg hk
    refine ⟨this.1, this.2.1, ?_, ?_⟩
    · unfold ringR; rw [this.2.2]
    · unfold ringR; rw [this.2.2]; exact mod_nx ⟨this.1, this.2.1⟩
  have hin : ∀ k, 0 ≤ k → k < n → inA (ringR n) k := fun k h0 h1 => ⟨h0, by unfold cnt; omega⟩
  refine ⟨by omega, by rw [(sortP_perm _).length_eq]; omega, by omega, fun i hi => ?_, fun a b h => ?_, fun a b c h1 h2 => ?_, fun a b c h1 h2 => ?_, fun a b c ha hb hc e1 e2 n1 n2 => ?_, fun a b c ha hb hc e1 e2 n1 n2 => ?_, fun a b c ha hb hc e1 e2 n1 n2 => ?_, fun a b c ha hb hc e1 e2 n1 n2 => ?_, ?_⟩
  · obtain ⟨h0, h1, e, e'⟩ := hz i hi
    rw [e, e']; split <;> omega
  · obtain ⟨h0, h1, e⟩ := mem_ring.mp h
    have hb : 0 ≤ b ∧ b < n := by split at e <;> omega
    have ha' := hz a (hin a h0 h1)
    have hb' := hz b (hin b hb.1 hb.2)
    exact ⟨hin a h0 h1, hin b hb.1 hb.2, by rw [ha'.2.2.2, hb'.2.2.1, e]⟩
  · rw [(mem_ring.mp h1).2.2, (mem_ring.mp h2).2.2]
  · have g1 := mem_ring.mp h1
    have g2 := mem_ring.mp h2
    have := g1.2.2.symm.trans g2.2.2
    split at this <;> split at this <;> omega
  · have := hz b hb; have := hz c hc; omega
  · obtain ⟨_, _, _, g1⟩ := hz b hb
    obtain ⟨_, _, _, g2⟩ := hz c hc
    rw [g1] at e1; rw [g2] at e2
    split at e1 <;> split at e2 <;> omega
  · have := hz a ha; have := hz b hb; omega
  · obtain ⟨_, _, _, g1⟩ := hz b hb
    obtain ⟨_, _, _, g2⟩ := hz a ha
    rw [g1, g2] at e1
    split at e1 <;> split at e1 <;> omega
  · apply sortP_lt
    unfold ringR
    rw [List.Nodup, List.pairwise_map]
    exact (rg_nodup 0 n).imp fun h e => h (congrArg Prod.fst e)

end Sp
end
section
set_option linter.all false
set_option linter.unusedSimpArgs false
/-! N14: known plans, the rest -/
open Ev PySem L2
namespace Sp

-- N14: known plans, the rest
theorem Vp.tail {n : Int} (hn : 1 ≤ n ∧ n ≤ 50) {ks : List Int} (hs : ks.Sublist (rgI 0 (n - 2))) : Vp n (lineR n ++ [(n - 1, n - 1)]) (sortP ([(n - 1, n - 1)] ++ ks.map fun k => (k, k + 1))) := by
  have hl := lineR_len hn.1
  have hk : ks.Nodup := hs.nodup (rg_nodup _ _)
  have hks : ∀ k ∈ ks, 0 ≤ k ∧ k < n - 2 := fun k h => mem_rgI.mp (hs.subset h)
  have hz : ∀ k, inA (lineR n ++ [(n - 1, n - 1)]) k → 0 ≤ k ∧ k < n ∧ (ar (lineR n ++ [(n - 1, n - 1)]) k).1 = k ∧ (ar (lineR n ++ [(n - 1, n - 1)]) k).2 = (if k = n - 1 then k else k + 1) := fun k hk => by
    rcases ar_app hk with ⟨h, e⟩ | ⟨h, e⟩
    · have := ar_rg h
      have e' : ar (lineR n) k = (k, k + 1) := this.2.2
      rw [e, e']
      refine ⟨this.1, by omega, rfl, ?_⟩
      rw [if_neg (by omega)]
    · rw [e]
      have : k = n - 1 := by rw [h]; exact hl
      exact ⟨by omega, by omega, this.symm, by rw [if_pos this]; exact this.symm⟩
  have hin : ∀ k, 0 ≤ k → k < n → inA (lineR n ++ [(n - 1, n - 1)]) k := fun k h0 h1 => ⟨h0, by unfold cnt; rw [List.length_append, List.length_cons, List.length_nil]; omega⟩
  have hm : ∀ x y, (x, y) ∈ sortP ([(n - 1, n - 1)] ++ ks.map fun k => (k, k + 1)) ↔ (x = n - 1 ∧ y = n - 1) ∨ (x ∈ ks ∧ y = x + 1) := fun x y => by
    rw [(sortP_perm _).mem_iff, List.mem_append, List.mem_singleton, List.mem_map, Prod.mk.injEq]
    constructor
    · rintro (h | ⟨k, h, e⟩)
      · exact .inl h
      · have e1 : k = x := congrArg Prod.fst e
        have e2 : k + 1 = y := congrArg Prod.snd e
        subst e1
        exact .inr ⟨h, e2.symm⟩
    · rintro (h | ⟨h, e⟩)
      · exact .inl h
      · exact .inr ⟨x, h, by rw [e]⟩
  have hkl : ks.length ≤ 50 := by
    have := hs.length_le
    rw [rgI_len] at this; omega
  refine ⟨by rw [List.length_append, List.length_cons, List.length_nil]; omega, by rw [(sortP_perm _).length_eq, List.length_append, List.length_map, List.length_cons, List.length_nil]; omega, by omega, fun i hi => ?_, fun a b h => ?_, fun a b c h1 h2 => ?_, fun a b c h1 h2 => ?_, fun a b c ha hb hc e1 e2 n1 n2 => ?_, fun a b c ha hb hc e1 e2 n1 n2 => ?_, fun a b c ha hb hc e1 e2 n1 n2 => ?_, fun a b c ha hb hc e1 e2 n1 n2 => ?_, ?_⟩
  · obtain ⟨h0, h1, e, e'⟩ := hz i hi
    rw [e, e']; split <;> omega
  · rcases (hm a b).mp h with ⟨rfl, rfl⟩ | ⟨g, rfl⟩
    · have i1 := hin (n - 1) (by omega) (by omega)
      have := hz _ i1
      exact ⟨i1, i1, by rw [this.2.2.1, this.2.2.2, if_pos rfl]⟩
    · have := hks a g
      have i1 := hin a (by omega) (by omega)
      have i2 := hin (a + 1) (by omega) (by omega)
      have g1 := hz _ i1
      have g2 := hz _ i2
      exact ⟨i1, i2, by rw [g1.2.2.2, g2.2.2.1, if_neg (by omega)]⟩
  · rcases (hm a b).mp h1 with ⟨g1, g2⟩ | ⟨g1, g2⟩ <;> rcases (hm a c).mp h2 with ⟨g3, g4⟩ | ⟨g3, g4⟩
    · omega
    · have := hks a g3; omega
    · have := hks a g1; omega
    · omega
  · rcases (hm a c).mp h1 with ⟨g1, g2⟩ | ⟨g1, g2⟩ <;> rcases (hm b c).mp h2 with ⟨g3, g4⟩ | ⟨g3, g4⟩
    · omega
    · have := hks b g3; omega
    · have := hks a g1; omega
    · omega
  · have := hz b hb; have := hz c hc; omega
  · obtain ⟨_, _, g0, g0'⟩ := hz a ha
    obtain ⟨_, _, _, g1⟩ := hz b hb
    obtain ⟨_, _, _, g2⟩ := hz c hc
    have m0 : ¬ (b = n - 1 ∧ a = n - 1) := fun z => n1 ((hm b a).mpr (.inl z))
    have m1 : ¬ (c = n - 1 ∧ a = n - 1) := fun z => n2 ((hm c a).mpr (.inl z))
    rw [g1, g0] at e1; rw [g2, g0] at e2
    split at e1 <;> split at e2 <;> omega
  · have := hz a ha; have := hz b hb; omega
  · obtain ⟨_, _, _, g0⟩ := hz a ha
    obtain ⟨_, _, _, g1⟩ := hz b hb
    obtain ⟨_, _, _, g2⟩ := hz c hc
    rw [g1, g0] at e1; rw [g2, g0] at e2
    split at e1 <;> split at e2 <;> split at e1 <;> omega
  · apply sortP_lt
    rw [List.singleton_append, List.nodup_cons]
    refine ⟨fun z => ?_, ?_⟩
    · obtain ⟨k, h, e⟩ := List.mem_map.mp z
      have := hks k h
      have e1 : k = n - 1 := congrArg Prod.fst e
      omega
    · rw [List.Nodup, List.pairwise_map]
      exact List.Pairwise.imp (fun h e => h (congrArg Prod.fst e)) hk
/-- draws of a row of signs -/
theorem kp_draws {tab : List Fd} {d dr : Nat} (h2 : tab[dr]? = some f_law_draw) {m : Int} (hm : m ≤ 50) {S : Sto} {r N : Nat} (st : Stt S r N) (hN : N + 100 < 1000000000) {l : Ev.Loc} {e : Nat} (hl : l[0]? = some (some (.ref r))) (h6 : l.length = 7) :
    ∃ (ts : List Int) (S' : Sto), evC (evE (callF tab (d + 1)) (e + 3)) (.rng 0 1 (m - 0).toNat) (.nm 6) [] (.call dr [(.v 0), (.k (.int 2))]) l turns 0 S [] = .ok (ts.map .int) S' ∧ ts.length = m.toNat ∧ Stt S' r (N + 100) ∧ Fr r S S' := by
  obtain ⟨ds, S', e1, ts, rfl, e3, e4, e5⟩ := evC_ind (ev := evE (callF tab (d + 1)) (e + 3)) (it := .rng 0 1 (m - 0).toNat) (tg := .nm 6) (ifs := []) (elt := .call dr [(.v 0), (.k (.int 2))]) (l := l) (h := D.int) (ys := rgI 0 m) (fun i acc S' => ∃ ts : List Int, acc = ts.map .int ∧ ts.length = i ∧ Stt S' r (N + i) ∧ Fr r S S')
    (fun i acc S' _ => row_rgI 0 m S' i)
    (by
      rintro i y acc S' hy ⟨ts, rfl, hl', hst, hfr⟩
      have hi : i < m.toNat := by
        have := (List.getElem?_eq_some_iff.mp hy).1
        rw [rgI_len] at this; omega
      obtain ⟨v, S1, e2, hv, s1, f1⟩ := draw_spec (d := d) h2 hst (by omega) (b := 2) (by omega)
      have hl0 : (l.set 6 (some (.int y)))[0]? = some (some (.ref r)) := by rw [List.getElem?_set_ne (by omega)]; exact hl
      refine ⟨_, asg_nm, true, S', rfl, fun _ => ⟨.int v, S1, ?_, ts ++ [v], by simp, by simp [hl'], s1, hfr.trans f1⟩, fun z => by cases z⟩
      simp only [e_call, l_cons, l_nil, e_v, e_k, hl0, Option.elim_some, b_ok, e2])
    (rgI 0 m).length 0 turns [] S rfl (Nat.zero_le _) (by rw [rgI_len]; unfold turns; omega) (by rw [rgI_len]; unfold sizeLine; simp; omega) ⟨[], rfl, rfl, st, Fr.refl⟩
  rw [rgI_len] at e3 e4
  exact ⟨ts, S', e1, by omega, e4.up (by omega), e5⟩
/-- draws of pairs that follow -/
theorem kp_pairs {tab : List Fd} {d dr : Nat} (h2 : tab[dr]? = some f_law_draw) {m : Int} (hm : m ≤ 50) {S : Sto} {r N : Nat} (st : Stt S r N) (hN : N + 100 < 1000000000) {l : Ev.Loc} {e : Nat} (hl : l[0]? = some (some (.ref r))) (h6 : l.length = 7) :
    ∃ (ks : List Int) (S' : Sto), evC (evE (callF tab (d + 1)) (e + 4)) (.rng 0 1 (m - 0).toNat) (.nm 6) [(.cmp .eq (.call dr [(.v 0), (.k (.int 2))]) (.k (.int 1)))] (.tup [(.v 6), (.bin .add (.v 6) (.k (.int 1)))]) l turns 0 S [] = .ok ((ks.map fun k => (k, k + 1)).map prD) S' ∧ ks.Sublist (rgI 0 m) ∧ Stt S' r (N + 100) ∧ Fr r S S' := by
  obtain ⟨ds, S', e1, ks, rfl, e3, e4, e5⟩ := evC_ind (ev := evE (callF tab (d + 1)) (e + 4)) (it := .rng 0 1 (m - 0).toNat) (tg := .nm 6) (ifs := [(.cmp .eq (.call dr [(.v 0), (.k (.int 2))]) (.k (.int 1)))]) (elt := .tup [(.v 6), (.bin .add (.v 6) (.k (.int 1)))]) (l := l) (h := D.int) (ys := rgI 0 m) (fun i acc S' => ∃ ks : List Int, acc = (ks.map fun k => (k, k + 1)).map prD ∧ ks.Sublist ((rgI 0 m).take i) ∧ Stt S' r (N + i) ∧ Fr r S S')
    (fun i acc S' _ => row_rgI 0 m S' i)
    (by
      rintro i y acc S' hy ⟨ks, rfl, hs, hst, hfr⟩
      have hi : i < m.toNat := by
        have := (List.getElem?_eq_some_iff.mp hy).1
        rw [rgI_len] at this; omega
      obtain ⟨v, S1, e2, hv, s1, f1⟩ := draw_spec (d := d) h2 hst (by omega) (b := 2) (by omega)
      have hl0 : (l.set 6 (some (.int y)))[0]? = some (some (.ref r)) := by rw [List.getElem?_set_ne (by omega)]; exact hl
      have hl6 : (l.set 6 (some (.int y)))[6]? = some (some (.int y)) := by rw [List.getElem?_set_self (by omega)]
      refine ⟨_, asg_nm, decide (v = 1), S1, ?_, fun hv1 => ⟨prD (y, y + 1), S1, ?_, ks ++ [y], by simp, ?_, s1, hfr.trans f1⟩, fun hv1 => ⟨ks, rfl, ?_, s1, hfr.trans f1⟩⟩
      · simp only [ifs_s, ifs_0, e_cmp, e_call, l_cons, l_nil, e_v, e_k, hl0, Option.elim_some, b_ok, e2, c_eq, Option.map_some, of_el, tr_bl, tmR_b]
        by_cases hv1 : v = 1 <;> simp [hv1]
      · simp only [e_tup, l_cons, l_nil, e_v, e_k, e_bin, hl6, Option.elim_some, b_ok, bin_add, of_el, List.length_cons, List.length_nil, Nat.zero_add, Nat.reduceAdd, len2, if_true]
      · rw [take_next hy]
        exact List.Sublist.append hs (List.Sublist.refl _)
      · rw [take_next hy]
        exact hs.trans (List.sublist_append_left _ _))
    (rgI 0 m).length 0 turns [] S rfl (Nat.zero_le _) (by rw [rgI_len]; unfold turns; omega) (by rw [rgI_len]; unfold sizeLine; simp; omega) ⟨[], rfl, by simp, st, Fr.refl⟩
  rw [rgI_len] at e4
  rw [List.take_length] at e3
  exact ⟨ks, S', e1, e3, e4.up (by omega), e5⟩

end Sp
end
section
set_option linter.all false
set_option linter.unusedSimpArgs false
/-! N15: known plans run -/
open Ev PySem L2
namespace Sp

-- N15: known plans run
structure W3 (n k : Int) (rs : List P2) : Prop where
  rw : Rw n rs
  le : ∀ q ∈ rs, q.1 ≤ k ∧ q.2 ≤ k
  f1 : (rs.filter fun q => decide (q.1 = k)).length ≤ 1
  f2 : (rs.filter fun q => decide (q.2 = k)).length ≤ 1
  len : (rs.length : Int) ≤ 2 * k
theorem filt_no {rs : List P2} {P : P2 → Bool} (h : ∀ q ∈ rs, P q = false) : (rs.filter P).length = 0 := by
  rw [List.filter_eq_nil_iff.mpr fun q hq => by rw [h q hq]; exact Bool.false_ne_true]; rfl
theorem filt_app {rs : List P2} {P : P2 → Bool} {q : P2} : ((rs ++ [q]).filter P).length = (rs.filter P).length + (if P q = true then 1 else 0) := by
  rw [List.filter_append, List.length_append]
  by_cases h : P q = true <;> simp [h]
theorem W3.one {n k : Int} {rs : List P2} (W : W3 n k rs) (h0 : 0 ≤ k) (h1 : k + 1 < n) (hn : n ≤ 20) : W3 n (k + 1) (rs ++ [(k, k + 1)]) ∧ ((rs ++ [(k, k + 1)]).filter fun q => decide (q.1 = k + 1)).length = 0 ∧ ((rs ++ [(k, k + 1)]).filter fun q => decide (q.2 = k)).length ≤ 1 ∧ (rs.length : Int) + 1 ≤ 2 * k + 1 := by
  have a1 : (rs.filter fun q => decide (q.1 = k + 1)).length = 0 := filt_no fun q hq => by have := W.le q hq; simp; omega
  have a2 : (rs.filter fun q => decide (q.2 = k + 1)).length = 0 := filt_no fun q hq => by have := W.le q hq; simp; omega
  have hl := W.len
  have c1 : ((rs ++ [(k, k + 1)]).filter fun q => decide (q.1 = k + 1)).length = 0 := by
    rw [filt_app, a1]; simp; omega
  have c2 : ((rs ++ [(k, k + 1)]).filter fun q => decide (q.2 = k + 1)).length = 1 := by
    rw [filt_app, a2]; simp
  have c3 : ((rs ++ [(k, k + 1)]).filter fun q => decide (q.2 = k)).length ≤ 1 := by
    have := W.f2
    have hne : ¬ k + 1 = k := by omega
    rw [filt_app]; simp [hne]; omega
  have hf1 := W.f1
  refine ⟨⟨W.rw.add (by omega) (by omega) (by omega) (by omega) (by omega), fun q hq => ?_, by omega, by omega, by rw [List.length_append, List.length_cons, List.length_nil]; omega⟩, c1, c3, by omega⟩
  rcases List.mem_append.mp hq with h | h
  · have := W.le q h; omega
  · rw [List.mem_singleton] at h; subst h; simp; omega
theorem W3.two {n k : Int} {rs : List P2} (W : W3 n k rs) (h0 : 0 ≤ k) (h1 : k + 1 < n) (hn : n ≤ 20) : W3 n (k + 1) (rs ++ [(k, k + 1)] ++ [(k + 1, k)]) := by
  obtain ⟨W', c1, c3, hl⟩ := W.one h0 h1 hn
  have hl' := W'.len
  have hf2 := W'.f2
  rw [List.length_append, List.length_cons, List.length_nil] at hl'
  refine ⟨W'.rw.add (by rw [List.length_append, List.length_cons, List.length_nil]; omega) (by omega) (by omega) (by omega) (by omega), fun q hq => ?_, ?_, ?_, by rw [List.length_append, List.length_append, List.length_cons, List.length_cons, List.length_nil]; omega⟩
  · rcases List.mem_append.mp hq with h | h
    · exact W'.le q h
    · rw [List.mem_singleton] at h; subst h; simp; omega
  · rw [filt_app, c1]; simp
  · have hne : ¬ k = k + 1 := by omega
    rw [filt_app]; simp only [decide_eq_true_eq, hne, if_false]; omega
theorem W3.nil {n : Int} (h : 1 ≤ n ∧ n ≤ 100) : W3 n 0 [] := ⟨Rw.nil h, fun q hq => by simp at hq, by simp, by simp, by simp⟩
def KPres (tab : List Fd) (n : Int) (r N : Nat) (S : Sto) (o : Out) : Prop := ∃ as zs S', o = .rt (PL n as zs) S' ∧ Vp n as zs ∧ Stt S' r (N + 400) ∧ Fr r S S'
def zg (ts : List Int) (k : Int) : P2 := if iv ts k = 0 then (k, k + 1) else (k + 1, k)
def kpB0 (dr wn : Nat) : List CS := [
  .asg (.nm 5) (c_law_known_plan_e0 dr wn),
  .asg (.nm 3) (c_law_known_plan_e1 dr wn),
  .ret (some (.call wn [(.v 0), (.v 1), (.v 3)]))]
theorem kp0_run {tab : List Fd} {d dr wn : Nat} (h1 : OkWN tab wn) (h2 : tab[dr]? = some f_law_draw) {n v : Int} (hn : 1 ≤ n ∧ n ≤ 20) {S : Sto} {r N : Nat} (st : Stt S r N) (hN : N + 500 < 1000000000) :
    KPres tab n r N S (exSs (exS (evE (callF tab (d + 7)) 60) 59) (kpB0 dr wn) [some (.ref r), some (.int n), some (.int v), none, none, none, none] S) := by
  obtain ⟨ts, S1, k1, hts, s1, f1⟩ := kp_draws (d := d + 6) h2 (m := n - 1) (by omega) st (by omega) (l := [some (.ref r), some (.int n), some (.int v), none, none, none, none]) (e := 56) rfl rfl
  have hr1 := rngD_1 (b := n - 1) (by omega)
  have b1 : exS (evE (callF tab (d + 7)) 60) 59 (.asg (.nm 5) (c_law_known_plan_e0 dr wn)) [some (.ref r), some (.int n), some (.int v), none, none, none, none] S = .nx [some (.ref r), some (.int n), some (.int v), none, none, some (.lst (ts.map .int)), none] S1 := by
    rw [s_asg, c_law_known_plan_e0, e_lc]
    simp only [i_rng, l_cons, l_nil, e_bin, e_v, e_k, List.getElem?_cons_zero, List.getElem?_cons_succ, Option.elim_some, b_ok, bin_sub, of_el, hr1, wipe_s, wipe_0, List.set_cons_succ, List.set_cons_zero]
    rw [k1]
    simp only [b_ok, mkR_f, o_ok, asg_nm, Option.elim_some, List.set_cons_succ, List.set_cons_zero]
  have k2 := evC_all (ev := evE (callF tab (d + 7)) 59) (tg := .nm 6) (elt := (.ife (.cmp .eq (.ix (.v 5) (.v 6)) (.k (.int 0))) (.tup [(.v 6), (.bin .add (.v 6) (.k (.int 1)))]) (.tup [(.bin .add (.v 6) (.k (.int 1))), (.v 6)]))) (l := [some (.ref r), some (.int n), some (.int v), none, none, some (.lst (ts.map .int)), none]) (S := S1) (h := D.int) (ys := rgI 0 (n - 1)) (row_rgI _ _) (fun k => prD (zg ts k))
    (fun k hk => ⟨[some (.ref r), some (.int n), some (.int v), none, none, some (.lst (ts.map .int)), some (.int k)], by simp, by
      have hk := mem_rgI.mp hk
      have ha : atI ts k = some (iv ts k) := by
        have : k.toNat < ts.length := by omega
        rw [at_nn hk.1, iv_get hk.1 this, List.getElem?_eq_getElem this]
      by_cases hz : iv ts k = 0 <;> simp [ha, hz, zg]⟩) (by rw [rgI_len]; unfold turns; omega)
  rw [show (rgI 0 (n - 1)).map (fun k => prD (zg ts k)) = ((rgI 0 (n - 1)).map (zg ts)).map prD by rw [List.map_map]; rfl] at k2
  have b2 : exS (evE (callF tab (d + 7)) 60) 59 (.asg (.nm 3) (c_law_known_plan_e1 dr wn)) [some (.ref r), some (.int n), some (.int v), none, none, some (.lst (ts.map .int)), none] S1 = .nx [some (.ref r), some (.int n), some (.int v), some (.ref S1.length), none, some (.lst (ts.map .int)), none] (S1 ++ [.lst (((rgI 0 (n - 1)).map (zg ts)).map prD)]) := by
    rw [s_asg, c_law_known_plan_e1, e_lc]
    simp only [i_rng, l_cons, l_nil, e_bin, e_v, e_k, List.getElem?_cons_zero, List.getElem?_cons_succ, Option.elim_some, b_ok, bin_sub, of_el, hr1, wipe_s, wipe_0, List.set_cons_succ, List.set_cons_zero]
    rw [k2]
    simp only [b_ok, mkR_t, o_ok, asg_nm, Option.elim_some, List.set_cons_succ, List.set_cons_zero]
  have R : Rw n ((rgI 0 (n - 1)).map (zg ts)) := Rw.zig (by omega) (by rw [List.length_map, rgI_len]; omega) fun k hk => by
    rw [(ar_rg hk).2.2]
    unfold zg
    split
    · exact .inl rfl
    · exact .inr rfl
  have hrlt := s1.lt
  obtain ⟨as, zs, S2, e4, V, s2, f2⟩ := wn_run (d := d) h1 R (X := .ref S1.length) (s1.app (T := [.lst (((rgI 0 (n - 1)).map (zg ts)).map prD)])) (by omega) (fun S'' hf => read_at (hf.cell get_app (by omega)))
  refine ⟨as, zs, S2, ?_, V, s2.up (by omega), (f1.trans Fr.app).trans f2⟩
  unfold kpB0
  rw [ss_go b1, ss_go b2]
  refine ss_one ?_
  simp only [s_ret, e_call, l_cons, l_nil, e_v, List.getElem?_cons_zero, List.getElem?_cons_succ, Option.elim_some, b_ok, e4, o_ok]
def kpB1 (dr wn : Nat) : List CS := [
  .asg (.nm 3) (c_law_known_plan_e2 dr wn),
  .ret (some (.tup [(.v 1), (.bi false .tuple [(.v 3)]), (.bi false .tuple [(.bi false .sorted [(c_law_known_plan_e3 dr wn)])])]))]
theorem kp1_run {tab : List Fd} {d dr wn : Nat} {n v : Int} (hn : 1 ≤ n ∧ n ≤ 20) {S : Sto} {r N : Nat} (st : Stt S r N) :
    KPres tab n r N S (exSs (exS (evE (callF tab (d + 7)) 60) 59) (kpB1 dr wn) [some (.ref r), some (.int n), some (.int v), none, none, none, none] S) := by
  have hr1 := rngD_1 (b := n) (by omega)
  have hn0 : 0 < n := by omega
  have k1 : ∀ (e : Nat) (x : Option D) (S : Sto), evC (evE (callF tab (d + 7)) (e + 10)) (.rng 0 1 (n - 0).toNat) (.nm 6) [] (.tup [(.v 6), (.bin .mod (.bi false .int [(.bin .add (.v 6) (.k (.int 1)))]) (.v 1))]) [some (.ref r), some (.int n), some (.int v), x, none, none, none] turns 0 S [] = .ok ((ringR n).map prD) S := fun e x S => by
    have k1 := evC_all (ev := evE (callF tab (d + 7)) (e + 10)) (tg := .nm 6) (elt := (.tup [(.v 6), (.bin .mod (.bi false .int [(.bin .add (.v 6) (.k (.int 1)))]) (.v 1))])) (l := [some (.ref r), some (.int n), some (.int v), x, none, none, none]) (S := S) (h := D.int) (ys := rgI 0 n) (row_rgI _ _) (fun k => prD (k, (k + 1) % n))
      (fun k hk => ⟨[some (.ref r), some (.int n), some (.int v), x, none, none, some (.int k)], by simp, by simp [hn0]⟩) (by rw [rgI_len]; unfold turns; omega)
    rw [k1]
    unfold ringR
    rw [List.map_map]; rfl
  have b1 : exS (evE (callF tab (d + 7)) 60) 59 (.asg (.nm 3) (c_law_known_plan_e2 dr wn)) [some (.ref r), some (.int n), some (.int v), none, none, none, none] S = .nx [some (.ref r), some (.int n), some (.int v), some (.ref S.length), none, none, none] (S ++ [.lst ((ringR n).map prD)]) := by
    rw [s_asg, c_law_known_plan_e2, e_lc]
    simp only [i_rng, l_cons, l_nil, e_v, List.getElem?_cons_zero, List.getElem?_cons_succ, Option.elim_some, b_ok, of_el, hr1, wipe_s, wipe_0, List.set_cons_succ, List.set_cons_zero]
    rw [k1 49]
    simp only [b_ok, mkR_t, o_ok, asg_nm, Option.elim_some, List.set_cons_succ, List.set_cons_zero]
  refine ⟨_, _, S ++ [.lst ((ringR n).map prD)], ?_, Vp.ring (by omega), (st.app).up (by omega), Fr.app⟩
  unfold kpB1
  rw [ss_go b1]
  refine ss_one ?_
  have q1 := tup_rd (read_at (S := S ++ [.lst ((ringR n).map prD)]) (p := S.length) get_app)
  have q3 : ∀ ps : List P2, biD (S ++ [.lst ((ringR n).map prD)]) .sorted [.lst (ps.map prD)] = some (.lst ((sortP ps).map prD)) := fun ps => sorted_rd rfl
  have q2 : evE (callF tab (d + 7)) 57 (c_law_known_plan_e3 dr wn) [some (.ref r), some (.int n), some (.int v), some (.ref S.length), none, none, none] (S ++ [.lst ((ringR n).map prD)]) = .ok (.lst ((ringR n).map prD)) (S ++ [.lst ((ringR n).map prD)]) := by
    rw [c_law_known_plan_e3, e_lc]
    simp only [i_rng, l_cons, l_nil, e_v, List.getElem?_cons_zero, List.getElem?_cons_succ, Option.elim_some, b_ok, of_el, hr1, wipe_s, wipe_0, List.set_cons_succ, List.set_cons_zero]
    rw [k1 46]
    simp only [b_ok, mkR_f]
  simp only [s_ret, e_tup, e_bi, l_cons, l_nil, e_v, List.getElem?_cons_zero, List.getElem?_cons_succ, Option.elim_some, b_ok, q1, q2, q3, mkR_f, bi_tup_l, List.length_cons, List.length_nil, Nat.zero_add, Nat.reduceAdd, len3, if_true, o_ok]

end Sp
end
section
set_option linter.all false
set_option linter.unusedSimpArgs false
/-! N16: known plans run, the rest -/
open Ev PySem L2
namespace Sp

-- N16: known plans run, the rest
theorem line_c {F : Nat → List D → Sto → R3 D} {e : Nat} {n v : Int} (hn : 1 ≤ n ∧ n ≤ 20) {r : Nat} {S : Sto} : evC (evE F (e + 10)) (.rng 0 1 (n - 1 - 0).toNat) (.nm 6) [] (.tup [(.v 6), (.bin .add (.v 6) (.k (.int 1)))]) [some (.ref r), some (.int n), some (.int v), none, none, none, none] turns 0 S [] = .ok ((lineR n).map prD) S := by
  have k1 := evC_all (ev := evE F (e + 10)) (tg := .nm 6) (elt := (.tup [(.v 6), (.bin .add (.v 6) (.k (.int 1)))])) (l := [some (.ref r), some (.int n), some (.int v), none, none, none, none]) (S := S) (h := D.int) (ys := rgI 0 (n - 1)) (row_rgI _ _) (fun k => prD (k, k + 1))
    (fun k hk => ⟨[some (.ref r), some (.int n), some (.int v), none, none, none, some (.int k)], by simp, by simp⟩) (by rw [rgI_len]; unfold turns; omega)
  rw [k1]
  unfold lineR
  rw [List.map_map]; rfl
def kpB2 (dr wn : Nat) : List CS := [
  .asg (.nm 3) (c_law_known_plan_e4 dr wn),
  .ret (some (.call wn [(.v 0), (.v 1), (.bin .add (.v 3) (.ife (.cmp .gt (.v 1) (.k (.int 1))) (.lst false [(.tup [(.k (.int 0)), (.k (.int 1))])]) (.lst false [])))]))]
theorem add_at {S : Sto} {p : Nat} {xs ys : List D} (h : S[p]? = some (.lst xs)) (hl : xs.length + ys.length ≤ 16777216) : binD S .add (.ref p) (.lst ys) = some (.lst (xs ++ ys)) := by
  simp only [binD, D.readM, h]
  rw [if_pos (len_le hl)]
theorem kp2_run {tab : List Fd} {d dr wn : Nat} (h1 : OkWN tab wn) {n v : Int} (hn : 1 ≤ n ∧ n ≤ 20) {S : Sto} {r N : Nat} (st : Stt S r N) (hN : N + 500 < 1000000000) :
    KPres tab n r N S (exSs (exS (evE (callF tab (d + 7)) 60) 59) (kpB2 dr wn) [some (.ref r), some (.int n), some (.int v), none, none, none, none] S) := by
  have hr1 := rngD_1 (b := n - 1) (by omega)
  have hll := lineR_len hn.1
  have b1 : exS (evE (callF tab (d + 7)) 60) 59 (.asg (.nm 3) (c_law_known_plan_e4 dr wn)) [some (.ref r), some (.int n), some (.int v), none, none, none, none] S = .nx [some (.ref r), some (.int n), some (.int v), some (.ref S.length), none, none, none] (S ++ [.lst ((lineR n).map prD)]) := by
    rw [s_asg, c_law_known_plan_e4, e_lc]
    simp only [i_rng, l_cons, l_nil, e_bin, e_v, e_k, List.getElem?_cons_zero, List.getElem?_cons_succ, Option.elim_some, b_ok, bin_sub, of_el, hr1, wipe_s, wipe_0, List.set_cons_succ, List.set_cons_zero]
    rw [line_c (e := 49) hn]
    simp only [b_ok, mkR_t, o_ok, asg_nm, Option.elim_some, List.set_cons_succ, List.set_cons_zero]
  have R := Rw.more (n := n) (by omega)
  have hc := get_app (S := S) (c := .lst ((lineR n).map prD))
  obtain ⟨as, zs, S2, e4, V, s2, f2⟩ := wn_run (d := d) h1 R (X := .lst ((lineR n ++ (if 1 < n then [((0 : Int), (1 : Int))] else [])).map prD)) (st.app (T := [.lst ((lineR n).map prD)])) (by omega) (fun S'' hf => rfl)
  refine ⟨as, zs, S2, ?_, V, s2.up (by omega), Fr.app.trans f2⟩
  unfold kpB2
  rw [ss_go b1]
  refine ss_one ?_
  have q1 : evE (callF tab (d + 7)) 59 (.bin .add (.v 3) (.ife (.cmp .gt (.v 1) (.k (.int 1))) (.lst false [(.tup [(.k (.int 0)), (.k (.int 1))])]) (.lst false []))) [some (.ref r), some (.int n), some (.int v), some (.ref S.length), none, none, none] (S ++ [.lst ((lineR n).map prD)]) = .ok (.lst ((lineR n ++ (if 1 < n then [((0 : Int), (1 : Int))] else [])).map prD)) (S ++ [.lst ((lineR n).map prD)]) := by
    have g1 : ∀ x : D, binD (S ++ [.lst ((lineR n).map prD)]) .add (.ref S.length) (.lst [x]) = some (.lst ((lineR n).map prD ++ [x])) := fun x => add_at hc (by simp; omega)
    have g0 : binD (S ++ [.lst ((lineR n).map prD)]) .add (.ref S.length) (.lst []) = some (.lst ((lineR n).map prD ++ [])) := add_at hc (by simp; omega)
    by_cases hn1 : 1 < n
    · simp [hn1, g1]
    · simp [hn1, g0]
  simp only [s_ret, e_call, l_cons, l_nil, q1, e_v, List.getElem?_cons_zero, List.getElem?_cons_succ, Option.elim_some, b_ok, e4, o_ok]
def kpB3 (dr wn : Nat) : List CS := [
  .asg (.nm 3) (.lst true []),
  (c_law_known_plan_s0 dr wn),
  .ret (some (.call wn [(.v 0), (.v 1), (.v 3)]))]
theorem kp3_run {tab : List Fd} {d dr wn : Nat} (h1 : OkWN tab wn) {n v : Int} (hn : 1 ≤ n ∧ n ≤ 20) {S : Sto} {r N : Nat} (st : Stt S r N) (hN : N + 500 < 1000000000) :
    KPres tab n r N S (exSs (exS (evE (callF tab (d + 7)) 60) 59) (kpB3 dr wn) [some (.ref r), some (.int n), some (.int v), none, none, none, none] S) := by
  have hrlt := st.lt
  have hr1 := rngD_1 (b := n - 1) (by omega)
  have b1 : exS (evE (callF tab (d + 7)) 60) 59 (.asg (.nm 3) (.lst true [])) [some (.ref r), some (.int n), some (.int v), none, none, none, none] S = .nx [some (.ref r), some (.int n), some (.int v), some (.ref S.length), none, none, none] (S ++ [.lst []]) := by simp
  have key := forL_ind (row_rgI 0 (n - 1)) (t := .nm 6) (body := exSs (exS (evE (callF tab (d + 7)) 60) 58) (c_law_known_plan_b0 dr wn))
    (fun i l' S' => ∃ (rs : List P2) (u : Option D), l' = [some (.ref r), some (.int n), some (.int v), some (.ref S.length), none, none, u] ∧ S' = S ++ [.lst (rs.map prD)] ∧ W3 n i rs)
    (fun oo => ∃ (rs : List P2) (u : Option D), oo = .nx [some (.ref r), some (.int n), some (.int v), some (.ref S.length), none, none, u] (S ++ [.lst (rs.map prD)]) ∧ Rw n rs)
    (by
      rintro i dd l' S' hd ⟨rs, u, rfl, rfl, W⟩
      have hi : i < (n - 1).toNat := by
        have := (List.getElem?_eq_some_iff.mp hd).1
        rw [List.length_map, rgI_len] at this; omega
      have hdd : dd = .int (i : Int) := by
        rw [List.getElem?_map, rgI_get (a := 0) (b := n - 1) (k := i) (by omega)] at hd
        simpa using hd.symm
      subst hdd
      have hlen := W.len
      have ap : ∀ (xs : List P2) (x : P2), xs.length < 100 → appD (.ref S.length) [prD x] (S ++ [.lst (xs.map prD)]) = .ok .non (S ++ [.lst ((xs ++ [x]).map prD)]) := fun xs x hx => by
        rw [app_at get_app (by rw [List.length_map]; omega), set_last, List.map_append]; rfl
      have rd : ∀ xs : List P2, D.read (S ++ [.lst (xs.map prD)]) (.ref S.length) = .lst (xs.map prD) := fun xs => read_at get_app
      refine ⟨_, asg_nm, ?_⟩
      rw [show (List.set [some (D.ref r), some (D.int n), some (D.int v), some (D.ref S.length), none, none, u] 6 (some (D.int (i : Int)))) = [some (D.ref r), some (D.int n), some (D.int v), some (D.ref S.length), none, none, some (D.int (i : Int))] from rfl]
      have a1 := ap rs ((i : Int), (i : Int) + 1) (by omega)
      have a2 := ap (rs ++ [((i : Int), (i : Int) + 1)]) ((i : Int) + 1, (i : Int)) (by rw [List.length_append, List.length_cons, List.length_nil]; omega)
      have c1 : exS (evE (callF tab (d + 7)) 60) 58 (.ex (.me .append (.v 3) [(.tup [(.v 6), (.bin .add (.v 6) (.k (.int 1)))])])) [some (D.ref r), some (D.int n), some (D.int v), some (D.ref S.length), none, none, some (D.int (i : Int))] (S ++ [.lst (rs.map prD)]) = .nx [some (D.ref r), some (D.int n), some (D.int v), some (D.ref S.length), none, none, some (D.int (i : Int))] (S ++ [.lst ((rs ++ [((i : Int), (i : Int) + 1)]).map prD)]) := by
        simp only [s_ex, e_me, e_v, e_k, e_tup, e_bin, l_cons, l_nil, List.getElem?_cons_zero, List.getElem?_cons_succ, Option.elim_some, b_ok, rd, isLst_l, if_true, bin_add, of_el, List.length_cons, List.length_nil, Nat.zero_add, Nat.reduceAdd, len2, me_app, a1, o_ok]
      have q1 : evE (callF tab (d + 7)) 60 (.cmp .eq (.bin .mod (.bi false .int [(.v 6)]) (.k (.int 2))) (.k (.int 0))) [some (D.ref r), some (D.int n), some (D.int v), some (D.ref S.length), none, none, some (D.int (i : Int))] (S ++ [.lst ((rs ++ [((i : Int), (i : Int) + 1)]).map prD)]) = .ok (.bl (decide ((i : Int) % 2 = 0))) (S ++ [.lst ((rs ++ [((i : Int), (i : Int) + 1)]).map prD)]) := by
        have h2 : (0 : Int) < 2 := by decide
        simp only [e_cmp, e_bin, e_bi, e_v, e_k, l_cons, l_nil, List.getElem?_cons_zero, List.getElem?_cons_succ, Option.elim_some, b_ok, bi_int, mkR_f, bin_mod, h2, if_true, of_el, c_eq, Option.map_some]
      rw [c_law_known_plan_b0, ss_go c1]
      by_cases hz : (i : Int) % 2 = 0
      · rw [decide_eq_true hz] at q1
        have c2 : exS (evE (callF tab (d + 7)) 60) 57 (.ex (.me .append (.v 3) [(.tup [(.bin .add (.v 6) (.k (.int 1))), (.v 6)])])) [some (D.ref r), some (D.int n), some (D.int v), some (D.ref S.length), none, none, some (D.int (i : Int))] (S ++ [.lst ((rs ++ [((i : Int), (i : Int) + 1)]).map prD)]) = .nx [some (D.ref r), some (D.int n), some (D.int v), some (D.ref S.length), none, none, some (D.int (i : Int))] (S ++ [.lst ((rs ++ [((i : Int), (i : Int) + 1)] ++ [((i : Int) + 1, (i : Int))]).map prD)]) := by
          simp only [s_ex, e_me, e_v, e_k, e_tup, e_bin, l_cons, l_nil, List.getElem?_cons_zero, List.getElem?_cons_succ, Option.elim_some, b_ok, rd, isLst_l, if_true, bin_add, of_el, List.length_cons, List.length_nil, Nat.zero_add, Nat.reduceAdd, len2, me_app, a2, o_ok]
        have c3 := iff_yes (n := 57) (a := [.ex (.me .append (.v 3) [(.tup [(.bin .add (.v 6) (.k (.int 1))), (.v 6)])])]) (b := []) q1
        rw [ss_go c2, ss_nil] at c3
        rw [ss_go c3, ss_nil]
        exact ⟨_, _, rfl, rfl, W.two (by omega) (by omega) (by omega)⟩
      · rw [decide_eq_false hz] at q1
        have c3 := iff_no (n := 57) (a := [.ex (.me .append (.v 3) [(.tup [(.bin .add (.v 6) (.k (.int 1))), (.v 6)])])]) q1
        rw [ss_go c3, ss_nil]
        exact ⟨_, _, rfl, rfl, (W.one (by omega) (by omega) (by omega)).1⟩)
    (by
      rintro l' S' ⟨rs, u, rfl, rfl, W⟩
      exact ⟨rs, u, rfl, W.rw⟩)
  obtain ⟨rs, u, e2, R⟩ := key _ 0 turns [some (.ref r), some (.int n), some (.int v), some (.ref S.length), none, none, none] (S ++ [.lst []]) rfl (Nat.zero_le _) (by rw [List.length_map, rgI_len]; unfold turns; omega) ⟨[], none, rfl, rfl, W3.nil (by omega)⟩
  have b2 : exS (evE (callF tab (d + 7)) 60) 59 (c_law_known_plan_s0 dr wn) [some (.ref r), some (.int n), some (.int v), some (.ref S.length), none, none, none] (S ++ [.lst []]) = .nx [some (.ref r), some (.int n), some (.int v), some (.ref S.length), none, none, u] (S ++ [.lst (rs.map prD)]) := by
    rw [c_law_known_plan_s0, s_for]
    simp only [i_rng, l_cons, l_nil, e_bin, e_v, e_k, List.getElem?_cons_zero, List.getElem?_cons_succ, Option.elim_some, b_ok, bin_sub, of_el, hr1, o_ok]
    exact e2
  obtain ⟨as, zs, S2, e4, V, s2, f2⟩ := wn_run (d := d) h1 R (X := .ref S.length) (st.app (T := [.lst (rs.map prD)])) (by omega) (fun S'' hf => read_at (hf.cell get_app (by omega)))
  refine ⟨as, zs, S2, ?_, V, s2.up (by omega), Fr.app.trans f2⟩
  unfold kpB3
  rw [ss_go b1, ss_go b2]
  refine ss_one ?_
  simp only [s_ret, e_call, l_cons, l_nil, e_v, List.getElem?_cons_zero, List.getElem?_cons_succ, Option.elim_some, b_ok, e4, o_ok]

end Sp
end
section
set_option linter.all false
set_option linter.unusedSimpArgs false
/-! N17: known plans run, all of them; plans -/
open Ev PySem L2
namespace Sp

-- N17: known plans run, all of them; plans
theorem kp4_run {tab : List Fd} {d dr wn : Nat} (h2 : tab[dr]? = some f_law_draw) {n v : Int} (hn : 1 ≤ n ∧ n ≤ 20) {S : Sto} {r N : Nat} (st : Stt S r N) (hN : N + 500 < 1000000000) :
    ∃ as zs S', (exSs (exS (evE (callF tab (d + 7)) 60) 60) [
 .asg (.nm 3) (.cat (c_law_known_plan_e5 dr wn) (.lst false [(.tup [(.bin .sub (.v 1) (.k (.int 1))), (.bin .sub (.v 1) (.k (.int 1)))])])),
 .asg (.nm 4) (.bin .add (.lst false [(.tup [(.bin .sub (.v 1) (.k (.int 1))), (.bin .sub (.v 1) (.k (.int 1)))])]) (c_law_known_plan_e6 dr wn)),
 .ret (some (.tup [(.v 1), (.bi false .tuple [(.v 3)]), (.bi false .tuple [(.bi false .sorted [(.v 4)])])]))] [some (.ref r), some (.int n), some (.int v), none, none, none, none] S).fin = .ok (PL n as zs) S' ∧ Vp n as zs ∧ Stt S' r (N + 400) ∧ Fr r S S' := by
  have hrlt := st.lt
  have hr1 := rngD_1 (b := n - 1) (by omega)
  have hr2 := rngD_1 (b := n - 2) (by omega)
  have hll := lineR_len hn.1
  have b1 : exS (evE (callF tab (d + 7)) 60) 60 (.asg (.nm 3) (.cat (c_law_known_plan_e5 dr wn) (.lst false [(.tup [(.bin .sub (.v 1) (.k (.int 1))), (.bin .sub (.v 1) (.k (.int 1)))])]))) [some (.ref r), some (.int n), some (.int v), none, none, none, none] S = .nx [some (.ref r), some (.int n), some (.int v), some (.ref S.length), none, none, none] (S ++ [.lst ((lineR n ++ [(n - 1, n - 1)]).map prD)]) := by
    have q5 : evE (callF tab (d + 7)) 59 (c_law_known_plan_e5 dr wn) [some (.ref r), some (.int n), some (.int v), none, none, none, none] S = .ok (.lst ((lineR n).map prD)) S := by
      rw [c_law_known_plan_e5, e_lc]
      simp only [i_rng, l_cons, l_nil, e_bin, e_v, e_k, List.getElem?_cons_zero, List.getElem?_cons_succ, Option.elim_some, b_ok, bin_sub, of_el, hr1, wipe_s, wipe_0, List.set_cons_succ, List.set_cons_zero]
      rw [line_c (e := 48) hn]
      simp only [b_ok, mkR_f]
    have g1 : binD S .add (.lst ((lineR n).map prD)) (.lst [.tup [.int (n - 1), .int (n - 1)]]) = some (.lst ((lineR n ++ [(n - 1, n - 1)]).map prD)) := by
      rw [bin_ll, if_pos (len_le (by rw [List.length_map, List.length_cons, List.length_nil]; omega)), List.map_append]; rfl
    rw [s_asg, e_cat, q5]
    simp only [b_ok, e_lst, e_tup, l_cons, l_nil, e_bin, e_v, e_k, List.getElem?_cons_zero, List.getElem?_cons_succ, Option.elim_some, bin_sub, of_el, List.length_cons, List.length_nil, Nat.zero_add, Nat.reduceAdd, len1, len2, if_true, mkR_f, g1]
    rfl
  obtain ⟨ks, S2, k2, hks, s2, f2⟩ := kp_pairs (d := d + 6) h2 (m := n - 2) (by omega) (st.app (T := [.lst ((lineR n ++ [(n - 1, n - 1)]).map prD)])) (by omega) (l := [some (.ref r), some (.int n), some (.int v), some (.ref S.length), none, none, none]) (e := 54) rfl rfl
  have hkl := hks.length_le
  rw [rgI_len] at hkl
  have b2 : exS (evE (callF tab (d + 7)) 60) 60 (.asg (.nm 4) (.bin .add (.lst false [(.tup [(.bin .sub (.v 1) (.k (.int 1))), (.bin .sub (.v 1) (.k (.int 1)))])]) (c_law_known_plan_e6 dr wn))) [some (.ref r), some (.int n), some (.int v), some (.ref S.length), none, none, none] (S ++ [.lst ((lineR n ++ [(n - 1, n - 1)]).map prD)]) = .nx [some (.ref r), some (.int n), some (.int v), some (.ref S.length), some (.lst (([(n - 1, n - 1)] ++ ks.map fun k => (k, k + 1)).map prD)), none, none] S2 := by
    have q6 : evE (callF tab (d + 7)) 59 (c_law_known_plan_e6 dr wn) [some (.ref r), some (.int n), some (.int v), some (.ref S.length), none, none, none] (S ++ [.lst ((lineR n ++ [(n - 1, n - 1)]).map prD)]) = .ok (.lst ((ks.map fun k => (k, k + 1)).map prD)) S2 := by
      rw [c_law_known_plan_e6, e_lc]
      simp only [i_rng, l_cons, l_nil, e_bin, e_v, e_k, List.getElem?_cons_zero, List.getElem?_cons_succ, Option.elim_some, b_ok, bin_sub, of_el, hr2, wipe_s, wipe_0, List.set_cons_succ, List.set_cons_zero]
      rw [k2]
      simp only [b_ok, mkR_f]
    have g1 : binD S2 .add (.lst [.tup [.int (n - 1), .int (n - 1)]]) (.lst ((ks.map fun k => (k, k + 1)).map prD)) = some (.lst (([(n - 1, n - 1)] ++ ks.map fun k => (k, k + 1)).map prD)) := by
      rw [bin_ll, if_pos (len_le (by rw [List.length_map, List.length_map, List.length_cons, List.length_nil]; omega)), List.map_append]; rfl
    simp only [s_asg, b_ok, e_lst, e_tup, l_cons, l_nil, e_bin, e_v, e_k, List.getElem?_cons_zero, List.getElem?_cons_succ, Option.elim_some, bin_sub, of_el, List.length_cons, List.length_nil, Nat.zero_add, Nat.reduceAdd, len1, len2, if_true, mkR_f, q6, g1, o_ok, asg_nm, List.set_cons_succ, List.set_cons_zero]
  refine ⟨_, _, S2, ?_, Vp.tail (n := n) (by omega) hks, s2.up (by omega), Fr.app.trans f2⟩
  rw [ss_step b1, ss_step b2]
  refine ss_ret ?_
  have q1 := tup_rd (read_at (f2.cell (get_app (S := S) (c := .lst ((lineR n ++ [(n - 1, n - 1)]).map prD))) (by omega)))
  have q3 : ∀ ps : List P2, biD S2 .sorted [.lst (ps.map prD)] = some (.lst ((sortP ps).map prD)) := fun ps => sorted_rd rfl
  simp only [s_ret, e_tup, e_bi, l_cons, l_nil, e_v, List.getElem?_cons_zero, List.getElem?_cons_succ, Option.elim_some, b_ok, q1, q3, mkR_f, bi_tup_l, List.length_cons, List.length_nil, Nat.zero_add, Nat.reduceAdd, len3, if_true, o_ok]
def OkKP (tab : List Fd) (f : Nat) : Prop := ∃ dr wn, tab[dr]? = some f_law_draw ∧ OkWN tab wn ∧ tab[f]? = some (f_law_known_plan dr wn)
theorem kp_run {tab : List Fd} {f d : Nat} (h : OkKP tab f) {n : Int} (hn : 1 ≤ n ∧ n ≤ 20) {S : Sto} {r N : Nat} (st : Stt S r N) (hN : N + 600 < 1000000000) :
    ∃ as zs S', callF tab (d + 8) f [.ref r, .int n] S = .ok (PL n as zs) S' ∧ Vp n as zs ∧ Stt S' r (N + 500) ∧ Fr r S S' := by
  obtain ⟨dr, wn, h2, h1, h⟩ := h
  rw [call_body h rfl (l := [some (.ref r), some (.int n), none, none, none, none, none]) rfl]
  show ∃ as zs S', (exSs (exS (evE (callF tab (d + 7)) 60) 60) (c_law_known_plan dr wn) _ S).fin = _ ∧ _
  obtain ⟨v, S1, e1, hv, s1, f1⟩ := draw_spec (d := d + 6) h2 st (by omega) (b := 5) (by omega)
  have b0 : exS (evE (callF tab (d + 7)) 60) 60 (.asg (.nm 2) (.call dr [(.v 0), (.k (.int 5))])) [some (.ref r), some (.int n), none, none, none, none, none] S = .nx [some (.ref r), some (.int n), some (.int v), none, none, none, none] S1 := by
    simp [e1]
  have no : ∀ (w : Int) (a : List CS), v ≠ w → exS (evE (callF tab (d + 7)) 60) 60 (.iff (.cmp .eq (.v 2) (.k (.int w))) a []) [some (.ref r), some (.int n), some (.int v), none, none, none, none] S1 = .nx [some (.ref r), some (.int n), some (.int v), none, none, none, none] S1 := fun w a hw => iff_no (by
    simp only [e_cmp, e_v, e_k, List.getElem?_cons_zero, List.getElem?_cons_succ, Option.elim_some, b_ok, c_eq, Option.map_some, of_el, decide_eq_false hw])
  have yes : ∀ (w : Int) (a : List CS), v = w → exS (evE (callF tab (d + 7)) 60) 60 (.iff (.cmp .eq (.v 2) (.k (.int w))) a []) [some (.ref r), some (.int n), some (.int v), none, none, none, none] S1 = exSs (exS (evE (callF tab (d + 7)) 60) 59) a [some (.ref r), some (.int n), some (.int v), none, none, none, none] S1 := fun w a hw => iff_yes (by
    simp only [e_cmp, e_v, e_k, List.getElem?_cons_zero, List.getElem?_cons_succ, Option.elim_some, b_ok, c_eq, Option.map_some, of_el, decide_eq_true hw])
  have fin : ∀ {o : Out}, KPres tab n r (N + 1) S1 o → ∀ {s : CS} {rest : List CS}, exS (evE (callF tab (d + 7)) 60) 60 s [some (.ref r), some (.int n), some (.int v), none, none, none, none] S1 = o → ∃ as zs S', (exSs (exS (evE (callF tab (d + 7)) 60) 60) (s :: rest) [some (.ref r), some (.int n), some (.int v), none, none, none, none] S1).fin = .ok (PL n as zs) S' ∧ Vp n as zs ∧ Stt S' r (N + 500) ∧ Fr r S S' := by
    rintro o ⟨as, zs, S', rfl, V, s', f'⟩ s rest e
    exact ⟨as, zs, S', ss_ret e, V, s'.up (by omega), f1.trans f'⟩
  unfold c_law_known_plan
  rw [ss_step b0]
  by_cases v0 : v = 0
  · exact fin (kp0_run (d := d) (v := v) h1 h2 hn s1 (by omega)) (yes 0 (kpB0 dr wn) v0)
  rw [ss_step (no 0 _ v0)]
  by_cases v1 : v = 1
  · exact fin (kp1_run (d := d) (v := v) (dr := dr) (wn := wn) hn s1) (yes 1 (kpB1 dr wn) v1)
  rw [ss_step (no 1 _ v1)]
  by_cases v2 : v = 2
  · exact fin (kp2_run (d := d) (v := v) (dr := dr) h1 hn s1 (by omega)) (yes 2 (kpB2 dr wn) v2)
  rw [ss_step (no 2 _ v2)]
  by_cases v3 : v = 3
  · exact fin (kp3_run (d := d) (v := v) (dr := dr) h1 hn s1 (by omega)) (yes 3 (kpB3 dr wn) v3)
  rw [ss_step (no 3 _ v3)]
  obtain ⟨as, zs, S', e, V, s', f'⟩ := kp4_run (d := d) (v := v) (wn := wn) h2 hn s1 (by omega)
  exact ⟨as, zs, S', e, V, s'.up (by omega), f1.trans f'⟩

end Sp
end
section
set_option linter.all false
set_option linter.unusedSimpArgs false
/-! N18: plans are drawn; law k01 -/
open Ev PySem L2
namespace Sp
def c_law_plan (i_law_renamed i_law_draw i_law_known_plan i_law_free_plan i_law_shuffled : Nat) : List CS := [
 .asg (.nm 2) (.bin .add (.k (.int 1)) (.call i_law_draw [(.v 0), (.v 1)])),
 .iff (.cmp .eq (.call i_law_draw [(.v 0), (.k (.int 3))]) (.k (.int 0))) [
  .asg (.nm 3) (.call i_law_known_plan [(.v 0), (.v 2)])] [
  .asg (.nm 3) (.call i_law_free_plan [(.v 0), (.v 2), (.bin .mul (.k (.int 3)) (.v 2))])],
 .ret (some (.call i_law_renamed [(.v 3), (.call i_law_shuffled [(.v 0), (.v 2)]), (.call i_law_shuffled [(.v 0), (.bi false .len [(.ix (.v 3) (.k (.int 1)))])])]))]
def f_law_plan (i_law_renamed i_law_draw i_law_known_plan i_law_free_plan i_law_shuffled : Nat) : Fd := ⟨2, 4, c_law_plan i_law_renamed i_law_draw i_law_known_plan i_law_free_plan i_law_shuffled⟩
def c_law_b0 (i_law_hands_right i_law_begun i_law_plan i_law_shuffled i_law_plan_told i_law_turned_told i_law_renamed : Nat) : List CS := [
 .asg (.nm 2) (.call i_law_begun [(.v 0), (.v 1)]),
 .asg (.nm 3) (.call i_law_plan [(.v 2), (.k (.int 6))]),
 .iff (.or (.not (.call i_law_plan_told [(.v 3)])) (.not (.call i_law_turned_told [(.v 3)]))) [
  .ret (some (.k (.bl false)))] [],
 .par [4, 5] [(.call i_law_shuffled [(.v 2), (.ix (.v 3) (.k (.int 0)))]), (.call i_law_shuffled [(.v 2), (.bi false .len [(.ix (.v 3) (.k (.int 1)))])])],
 .iff (.or (.not (.call i_law_plan_told [(.call i_law_renamed [(.v 3), (.v 4), (.v 5)])])) (.not (.call i_law_plan_told [(.v 3)]))) [
  .ret (some (.k (.bl false)))] []]
def c_law_s0 (i_law_hands_right i_law_begun i_law_plan i_law_shuffled i_law_plan_told i_law_turned_told i_law_renamed : Nat) : CS := .fors (.nm 1) (.rng [(.bi false .max [(.k (.int 2)), (.bi false .min [(.bi false .len [(.v 0)]), (.k (.int 4))])])]) (c_law_b0 i_law_hands_right i_law_begun i_law_plan i_law_shuffled i_law_plan_told i_law_turned_told i_law_renamed)
def c_law (i_law_hands_right i_law_begun i_law_plan i_law_shuffled i_law_plan_told i_law_turned_told i_law_renamed : Nat) : List CS := [
 .iff (.not (.call i_law_hands_right [])) [
  .ret (some (.k (.bl false)))] [],
 (c_law_s0 i_law_hands_right i_law_begun i_law_plan i_law_shuffled i_law_plan_told i_law_turned_told i_law_renamed),
 .ret (some (.k (.bl true)))]
def f_law (i_law_hands_right i_law_begun i_law_plan i_law_shuffled i_law_plan_told i_law_turned_told i_law_renamed : Nat) : Fd := ⟨1, 6, c_law i_law_hands_right i_law_begun i_law_plan i_law_shuffled i_law_plan_told i_law_turned_told i_law_renamed⟩
-- N18: plans are drawn; law k01
def OkPl (tab : List Fd) (f : Nat) : Prop := ∃ re dr kp fp sh, tab[re]? = some f_law_renamed ∧ tab[dr]? = some f_law_draw ∧ OkKP tab kp ∧ OkFP tab fp ∧ OkSh tab sh ∧ tab[f]? = some (f_law_plan re dr kp fp sh)
theorem pm_perm {c : Int} {ps : List Int} (hc : 0 ≤ c) (h : ps.Perm (rgI 0 c)) : Pm c ps := pm_of hc h
theorem pl_run {tab : List Fd} {f d : Nat} (h : OkPl tab f) {S : Sto} {r N : Nat} (st : Stt S r N) (hN : N + 5000 < 1000000000) :
    ∃ n as zs S', callF tab (d + 9) f [.ref r, .int 6] S = .ok (PL n as zs) S' ∧ Vp n as zs ∧ Stt S' r (N + 4000) ∧ Fr r S S' := by
  obtain ⟨re, dr, kp, fp, sh, h1, h2, h3, h4, h5, h⟩ := h
  rw [call_body h rfl (l := [some (.ref r), some (.int 6), none, none]) rfl]
  show ∃ n as zs S', (exSs (exS (evE (callF tab (d + 8)) 60) 60) (c_law_plan re dr kp fp sh) _ S).fin = _ ∧ _
  obtain ⟨v, S1, e1, hv, s1, f1⟩ := draw_spec (d := d + 7) h2 st (by omega) (b := 6) (by omega)
  generalize hn : 1 + v = n
  have hn1 : 1 ≤ n ∧ n ≤ 20 := by omega
  obtain ⟨w, S2, e2, hw, s2, f2⟩ := draw_spec (d := d + 7) h2 s1 (by omega) (b := 3) (by omega)
  have b1 : exS (evE (callF tab (d + 8)) 60) 60 (.asg (.nm 2) (.bin .add (.k (.int 1)) (.call dr [(.v 0), (.v 1)]))) [some (.ref r), some (.int 6), none, none] S = .nx [some (.ref r), some (.int 6), some (.int n), none] S1 := by
    rw [← hn]
    simp only [s_asg, e_bin, e_call, l_cons, l_nil, e_v, e_k, List.getElem?_cons_zero, List.getElem?_cons_succ, Option.elim_some, b_ok, e1, bin_add, of_el, o_ok, asg_nm, List.set_cons_succ, List.set_cons_zero]
  obtain ⟨as, zs, S3, b2, V, s3, f3⟩ : ∃ as zs S3, exS (evE (callF tab (d + 8)) 60) 60 (.iff (.cmp .eq (.call dr [(.v 0), (.k (.int 3))]) (.k (.int 0))) [
  .asg (.nm 3) (.call kp [(.v 0), (.v 2)])] [
  .asg (.nm 3) (.call fp [(.v 0), (.v 2), (.bin .mul (.k (.int 3)) (.v 2))])]) [some (.ref r), some (.int 6), some (.int n), none] S1 = .nx [some (.ref r), some (.int 6), some (.int n), some (PL n as zs)] S3 ∧ Vp n as zs ∧ Stt S3 r (N + 1000) ∧ Fr r S1 S3 := by
    by_cases hw0 : w = 0
    · obtain ⟨as, zs, S3, e3, V, s3, f3⟩ := kp_run (d := d) h3 hn1 s2 (by omega)
      refine ⟨as, zs, S3, ?_, V, s3.up (by omega), f2.trans f3⟩
      simp only [s_iff, e_cmp, e_call, l_cons, l_nil, e_v, e_k, List.getElem?_cons_zero, List.getElem?_cons_succ, Option.elim_some, b_ok, e2, c_eq, Option.map_some, of_el, o_ok, tr_bl, tmO_b, decide_eq_true hw0, if_true, ss_cons, ss_nil, s_asg, e3, asg_nm, List.set_cons_succ, List.set_cons_zero, q_nx]
    · obtain ⟨as, zs, S3, e3, V, s3, f3⟩ := fp_run (d := d) h4 hn1 (most := 3 * n) (by omega) s2 (by omega)
      have hm : mulOk 3 n = true := mul_ok64 (by decide) (by omega)
      refine ⟨as, zs, S3, ?_, V, s3.up (by omega), f2.trans f3⟩
      simp only [s_iff, e_cmp, e_bin, e_call, l_cons, l_nil, e_v, e_k, List.getElem?_cons_zero, List.getElem?_cons_succ, Option.elim_some, b_ok, e2, c_eq, Option.map_some, of_el, o_ok, tr_bl, tmO_b, decide_eq_false hw0, Bool.false_eq_true, if_false, if_true, bin_mul, hm, ss_cons, ss_nil, s_asg, e3, asg_nm, List.set_cons_succ, List.set_cons_zero, q_nx]
  have hlen := V.len
  obtain ⟨qs, S4, e4, hq, s4, f4⟩ := shuf_spec (d := d + 5) h5 s3 (c := n) (by omega) (by omega)
  obtain ⟨ss, S5, e5, hs, s5, f5⟩ := shuf_spec (d := d + 5) h5 s4 (c := cnt as) (by unfold cnt; omega) (by omega)
  obtain ⟨bs, c, e6, B⟩ := ren_run (d := d + 7) h1 V (pm_of (by omega) hq) (pm_of (by unfold cnt; omega) hs) S5
  refine ⟨n, bs, _, S5 ++ [c], ?_, V.renamed (pm_of (by omega) hq) (pm_of (by unfold cnt; omega) hs) B, (s5.app).up (by omega), (((f1.trans f3).trans f4).trans f5).trans Fr.app⟩
  unfold c_law_plan
  rw [ss_step b1, ss_step b2]
  refine ss_ret ?_
  have q0 : biD S4 .len [.tup (as.map prD)] = some (.int (cnt as)) := by rw [bi_len_t, List.length_map]
  simp only [s_ret, e_call, e_bi, e_ix, l_cons, l_nil, e_v, e_k, List.getElem?_cons_zero, List.getElem?_cons_succ, Option.elim_some, b_ok, e4, ixT, at_1, of_el, q0, mkR_f, e5, e6, o_ok]
theorem ltD_int {S : Sto} (a b : Int) : ltD S (.int a) (.int b) = some (decide (a < b)) := rfl
theorem bi_min {S : Sto} (a b : Int) : biD S .min [.int a, .int b] = some (.int (if b < a then b else a)) := by
  simp only [biD, ltD_int]
  by_cases h : b < a <;> simp [h]
theorem bi_max {S : Sto} (a b : Int) : biD S .max [.int a, .int b] = some (.int (if a < b then b else a)) := by
  simp only [biD, ltD_int]
  by_cases h : a < b <;> simp [h]
theorem law01_body {tab : List Fd} {d hr be pl sh pt tt re : Nat} (hbe : tab[be]? = some f_law_begun) (hpl : OkPl tab pl) (hsh : OkSh tab sh) (hpt : OkPT tab pt) (htt : OkTT tab tt) (hre : tab[re]? = some f_law_renamed)
    {ns : List Int} (hn : ns.length < 100000) (hb : ∀ z ∈ ns, Builtin.Int.intBits z ≤ 1048576) {k : Int} (hk : 0 ≤ k ∧ k < 1000) {S : Sto} (hS : S[0]? = some (.fz (ns.map .int))) (u2 u3 u4 u5 : Option D) :
    ∃ v2 v3 v4 v5 S', exSs (exS (evE (callF tab (d + 11)) 60) 59) (c_law_b0 hr be pl sh pt tt re) [some (.ref 0), some (.int k), u2, u3, u4, u5] S = .nx [some (.ref 0), some (.int k), v2, v3, v4, v5] S' ∧ S'[0]? = some (.fz (ns.map .int)) := by
  have h0 : 0 < S.length := (List.getElem?_eq_some_iff.mp hS).1
  have r1 := begun_run (d := d + 10) hbe hS hn hk
  have ok0 := begun_ok (ns := ns) (k := k) hk hb
  generalize begunM ns k = m at r1 ok0
  have st1 : Stt (S ++ [.dk (dkv m)]) S.length 0 := ⟨m, get_app, ok0⟩
  obtain ⟨n, as, zs, S2, e2, V, s2, f2⟩ := pl_run (d := d + 2) hpl st1 (by omega)
  obtain ⟨qs, S3, e3, hq, s3, f3⟩ := shuf_spec (d := d + 8) hsh s2 (c := n) (by have := V.size; omega) (by omega)
  have hlen := V.len
  obtain ⟨ss, S4, e4, hs, s4, f4⟩ := shuf_spec (d := d + 8) hsh s3 (c := cnt as) (by unfold cnt; omega) (by omega)
  have Q := pm_of (by have := V.size; omega) hq
  have T := pm_of (by unfold cnt; omega) hs
  obtain ⟨bs, c, e5, B⟩ := ren_run (d := d + 10) hre V Q T S4
  have V' := V.renamed Q T B
  have p1 := fun S => plan_run (d := d + 5) hpt V S
  have p2 := fun S => turned_run (d := d + 4) htt V S
  have p3 := fun S => plan_run (d := d + 5) hpt V' S
  have c2 : S2[0]? = some (.fz (ns.map .int)) := f2.cell (by rw [List.getElem?_append_left h0]; exact hS) (by omega)
  have c4 : S4[0]? = some (.fz (ns.map .int)) := f4.cell (f3.cell c2 (by omega)) (by omega)
  have b1 : exS (evE (callF tab (d + 11)) 60) 59 (.asg (.nm 2) (.call be [(.v 0), (.v 1)])) [some (.ref 0), some (.int k), u2, u3, u4, u5] S = .nx [some (.ref 0), some (.int k), some (.ref S.length), u3, u4, u5] (S ++ [.dk (dkv m)]) := by
    simp only [s_asg, e_call, l_cons, l_nil, e_v, List.getElem?_cons_zero, List.getElem?_cons_succ, Option.elim_some, b_ok, r1, o_ok, asg_nm, List.set_cons_succ, List.set_cons_zero]
  have b2 : exS (evE (callF tab (d + 11)) 60) 59 (.asg (.nm 3) (.call pl [(.v 2), (.k (.int 6))])) [some (.ref 0), some (.int k), some (.ref S.length), u3, u4, u5] (S ++ [.dk (dkv m)]) = .nx [some (.ref 0), some (.int k), some (.ref S.length), some (PL n as zs), u4, u5] S2 := by
    simp only [s_asg, e_call, l_cons, l_nil, e_v, e_k, List.getElem?_cons_zero, List.getElem?_cons_succ, Option.elim_some, b_ok, e2, o_ok, asg_nm, List.set_cons_succ, List.set_cons_zero]
  have b3 : exS (evE (callF tab (d + 11)) 60) 59 (.iff (.or (.not (.call pt [(.v 3)])) (.not (.call tt [(.v 3)]))) [
  .ret (some (.k (.bl false)))] []) [some (.ref 0), some (.int k), some (.ref S.length), some (PL n as zs), u4, u5] S2 = .nx [some (.ref 0), some (.int k), some (.ref S.length), some (PL n as zs), u4, u5] S2 := by
    refine iff_no ?_
    simp only [e_or, e_not, e_call, l_cons, l_nil, e_v, List.getElem?_cons_zero, List.getElem?_cons_succ, Option.elim_some, b_ok, p1, p2, tr_bl, Option.map_some, of_el, Bool.not_true, tmR_b, Bool.false_eq_true, if_false]
  have q0 : biD S3 .len [.tup (as.map prD)] = some (.int (cnt as)) := by rw [bi_len_t, List.length_map]
  have b4 : exS (evE (callF tab (d + 11)) 60) 59 (.par [4, 5] [(.call sh [(.v 2), (.ix (.v 3) (.k (.int 0)))]), (.call sh [(.v 2), (.bi false .len [(.ix (.v 3) (.k (.int 1)))])])]) [some (.ref 0), some (.int k), some (.ref S.length), some (PL n as zs), u4, u5] S2 = .nx [some (.ref 0), some (.int k), some (.ref S.length), some (PL n as zs), some (.tup (qs.map .int)), some (.tup (ss.map .int))] S4 := by
    simp only [s_par, e_call, e_ix, e_bi, l_cons, l_nil, e_v, e_k, List.getElem?_cons_zero, List.getElem?_cons_succ, Option.elim_some, b_ok, ixT, at_0, at_1, of_el, e3, q0, mkR_f, e4, o_ok, List.length_cons, List.length_nil, if_true, par_2, List.set_cons_succ, List.set_cons_zero]
  have b5 : exS (evE (callF tab (d + 11)) 60) 59 (.iff (.or (.not (.call pt [(.call re [(.v 3), (.v 4), (.v 5)])])) (.not (.call pt [(.v 3)]))) [
  .ret (some (.k (.bl false)))] []) [some (.ref 0), some (.int k), some (.ref S.length), some (PL n as zs), some (.tup (qs.map .int)), some (.tup (ss.map .int))] S4 = .nx [some (.ref 0), some (.int k), some (.ref S.length), some (PL n as zs), some (.tup (qs.map .int)), some (.tup (ss.map .int))] (S4 ++ [c]) := by
    simp only [s_iff, e_or, e_not, e_call, l_cons, l_nil, e_v, List.getElem?_cons_zero, List.getElem?_cons_succ, Option.elim_some, b_ok, e5, p1, p3, tr_bl, Option.map_some, of_el, Bool.not_true, tmR_b, Bool.false_eq_true, if_false, o_ok, tmO_b, ss_nil]
  refine ⟨some (.ref S.length), some (PL n as zs), some (.tup (qs.map .int)), some (.tup (ss.map .int)), S4 ++ [c], ?_, by rw [List.getElem?_append_left (List.getElem?_eq_some_iff.mp c4).1]; exact c4⟩
  unfold c_law_b0
  rw [ss_go b1, ss_go b2, ss_go b3, ss_go b4, ss_go b5, ss_nil]
theorem law01 {tab : List Fd} {f d hr be pl sh pt tt re : Nat} (hhr : ∀ S, callF tab (d + 11) hr [] S = .ok (.bl true) S) (hbe : tab[be]? = some f_law_begun) (hpl : OkPl tab pl) (hsh : OkSh tab sh) (hpt : OkPT tab pt) (htt : OkTT tab tt) (hre : tab[re]? = some f_law_renamed)
    (h : tab[f]? = some (f_law hr be pl sh pt tt re)) (ns : List Int) (hn : ns.length < 100000) (hb : ∀ z ∈ ns, Builtin.Int.intBits z ≤ 1048576) :
    ∃ S', callF tab (d + 12) f [.ref 0] [.fz (ns.map .int)] = .ok (.bl true) S' := by
  rw [call_body h rfl (l := [some (.ref 0), none, none, none, none, none]) rfl]
  show ∃ S', (exSs (exS (evE (callF tab (d + 11)) 60) 60) (c_law hr be pl sh pt tt re) _ _).fin = _
  unfold c_law
  have b1 : exS (evE (callF tab (d + 11)) 60) 60 (.iff (.not (.call hr [])) [
  .ret (some (.k (.bl false)))] []) [some (.ref 0), none, none, none, none, none] [.fz (ns.map .int)] = .nx [some (.ref 0), none, none, none, none, none] [.fz (ns.map .int)] := by
    refine iff_no ?_
    simp only [e_not, e_call, l_nil, b_ok, hhr, tr_bl, Option.map_some, of_el, Bool.not_true, Option.elim_some]
  have hl : biD [.fz (ns.map .int)] .len [.ref 0] = some (.int (ns.length : Int)) := by
    rw [len_rd (xs := ns.map .int) rfl, List.length_map]
  obtain ⟨c, hc, e1⟩ : ∃ c : Int, (0 ≤ c ∧ c < 1000) ∧ evE (callF tab (d + 11)) 60 (.bi false .max [(.k (.int 2)), (.bi false .min [(.bi false .len [(.v 0)]), (.k (.int 4))])]) [some (.ref 0), none, none, none, none, none] [.fz (ns.map .int)] = .ok (.int c) [.fz (ns.map .int)] := by
    refine ⟨(if 2 < (if 4 < (ns.length : Int) then 4 else (ns.length : Int)) then (if 4 < (ns.length : Int) then 4 else (ns.length : Int)) else 2), ?_, ?_⟩
    · split <;> split <;> omega
    · simp only [e_bi, l_cons, l_nil, e_v, e_k, List.getElem?_cons_zero, Option.elim_some, b_ok, hl, mkR_f, bi_min, bi_max]
  have key := forL_ind (row_rgI 0 c) (t := .nm 1) (body := exSs (exS (evE (callF tab (d + 11)) 60) 59) (c_law_b0 hr be pl sh pt tt re))
    (fun _ l' S' => (∃ u1 u2 u3 u4 u5, l' = [some (.ref 0), u1, u2, u3, u4, u5]) ∧ S'[0]? = some (.fz (ns.map .int)))
    (fun oo => ∃ l' S', oo = .nx l' S')
    (by
      rintro i dd l' S' hd ⟨⟨u1, u2, u3, u4, u5, rfl⟩, hS⟩
      have hi : i < c.toNat := by
        have := (List.getElem?_eq_some_iff.mp hd).1
        rw [List.length_map, rgI_len] at this; omega
      have hdd : dd = .int (i : Int) := by
        rw [List.getElem?_map, rgI_get (a := 0) (b := c) (k := i) (by omega)] at hd
        simpa using hd.symm
      subst hdd
      obtain ⟨v2, v3, v4, v5, S2, e, h0⟩ := law01_body (d := d) (hr := hr) hbe hpl hsh hpt htt hre hn hb (k := (i : Int)) (by omega) hS u2 u3 u4 u5
      refine ⟨_, asg_nm, ?_⟩
      rw [show (List.set [some (D.ref 0), u1, u2, u3, u4, u5] 1 (some (D.int (i : Int)))) = [some (D.ref 0), some (D.int (i : Int)), u2, u3, u4, u5] from rfl, e]
      exact ⟨⟨_, _, _, _, _, rfl⟩, h0⟩)
    (by
      rintro l' S' _
      exact ⟨l', S', rfl⟩)
  obtain ⟨l', S', e2⟩ := key _ 0 turns [some (.ref 0), none, none, none, none, none] [.fz (ns.map .int)] rfl (Nat.zero_le _) (by rw [List.length_map, rgI_len]; unfold turns; omega) ⟨⟨_, _, _, _, _, rfl⟩, rfl⟩
  have b2 : exS (evE (callF tab (d + 11)) 60) 60 (c_law_s0 hr be pl sh pt tt re) [some (.ref 0), none, none, none, none, none] [.fz (ns.map .int)] = .nx l' S' := by
    rw [c_law_s0, s_for, i_rng, l_cons, e1, b_ok, l_nil, b_ok, b_ok, rngD_1 (b := c) (by omega)]
    simp only [of_el, Option.elim_some, o_ok]
    exact e2
  refine ⟨S', ?_⟩
  rw [ss_step b1, ss_step b2]
  refine ss_ret ?_
  simp only [s_ret, e_k, o_ok]

end Sp
end
set_option Elab.async false
set_option linter.all false
set_option maxRecDepth 100000
set_option maxHeartbeats 0
namespace K01
open PySem PySem.Spec PyProof.Rows L2 Ev
def top (i : Nat) : Stmt := PySem.Challenge.pw_stringrooms_k01_whole_letters_of_plans.main.body.getD i (.Pass ⟨0, 0, 0, 0⟩)
def c0 : List CS := [
 .iff (.cmp .ge (.v 1) (.k (.int 0))) [
  .ret (some (.ix (.ix (.v 0) (.k (.int 1))) (.v 1)))] [],
 .asg (.tp [(.nm 2), (.nm 3)]) (.ix (.ix (.v 0) (.k (.int 1))) (.bin .sub (.neg (.k (.int 1))) (.v 1))),
 .ret (some (.tup [(.v 3), (.v 2)]))]
def d0 : Df := { x := "ends_of", ps := ["plan", "letter"], N := ["plan", "letter", "start", "end"], scope := defScope (top 1), body := defBody (top 1), cs := c0, gen := false }
def c1 : List CS := [
 .asg (.nm 2) (.ix (.ix (.ix (.v 0) (.k (.int 1))) (.v 1)) (.k (.int 1))),
 .fors (.tp [(.nm 3), (.nm 4)]) (.enum (.ix (.v 0) (.k (.int 1)))) [
  .iff (.and (.cmp .eq (.ix (.v 4) (.k (.int 0))) (.v 2)) (.cmp .notin (.tup [(.v 1), (.v 3)]) (.ix (.v 0) (.k (.int 2))))) [
   .ret (some (.v 3))] []],
 .ret (some (.k .non))]
def d1 : Df := { x := "next_of", ps := ["plan", "arrow"], N := ["plan", "arrow", "end", "other", "ends"], scope := defScope (top 2), body := defBody (top 2), cs := c1, gen := false }
def c2 : List CS := [
 .fors (.tp [(.nm 2), (.nm 3)]) (.of (.ix (.v 0) (.k (.int 2)))) [
  .iff (.cmp .eq (.v 2) (.v 1)) [
   .ret (some (.v 3))] []],
 .ret (some (.k .non))]
def d2 : Df := { x := "nil_of", ps := ["plan", "arrow"], N := ["plan", "arrow", "first", "second"], scope := defScope (top 3), body := defBody (top 3), cs := c2, gen := false }
def c3 : List CS := [
 .asg (.nm 2) (.ix (.ix (.ix (.v 0) (.k (.int 1))) (.v 1)) (.k (.int 0))),
 .fors (.tp [(.nm 3), (.nm 4)]) (.enum (.ix (.v 0) (.k (.int 1)))) [
  .iff (.and (.cmp .eq (.ix (.v 4) (.k (.int 1))) (.v 2)) (.cmp .notin (.tup [(.v 3), (.v 1)]) (.ix (.v 0) (.k (.int 2))))) [
   .ret (some (.v 3))] []],
 .ret (some (.k .non))]
def d3 : Df := { x := "ahead_of", ps := ["plan", "arrow"], N := ["plan", "arrow", "start", "other", "ends"], scope := defScope (top 4), body := defBody (top 4), cs := c3, gen := false }
def c4 : List CS := [
 .fors (.tp [(.nm 2), (.nm 3)]) (.of (.ix (.v 0) (.k (.int 2)))) [
  .iff (.cmp .eq (.v 3) (.v 1)) [
   .ret (some (.v 2))] []],
 .ret (some (.k .non))]
def d4 : Df := { x := "nil_ahead_of", ps := ["plan", "arrow"], N := ["plan", "arrow", "first", "second"], scope := defScope (top 5), body := defBody (top 5), cs := c4, gen := false }
def c5 : List CS := [
 .iff (.cmp .ge (.v 1) (.k (.int 0))) [
  .par [4, 5] [(.k (.int 0)), (.v 1)]] [
  .par [4, 5] [(.k (.int 1)), (.bin .sub (.neg (.k (.int 1))) (.v 1))]],
 .fors (.tp [(.nm 2), (.nm 3)]) (.enum (.ix (.v 0) (.k (.int 1)))) [
  .iff (.and (.cmp .ne (.v 2) (.v 5)) (.cmp .eq (.ix (.v 3) (.v 4)) (.ix (.ix (.ix (.v 0) (.k (.int 1))) (.v 5)) (.v 4)))) [
   .ret (some (.ife (.cmp .ge (.v 1) (.k (.int 0))) (.v 2) (.bin .sub (.neg (.k (.int 1))) (.v 2))))] []],
 .ret (some (.k .non))]
def d5 : Df := { x := "mate_of", ps := ["plan", "letter"], N := ["plan", "letter", "other", "ends", "side", "arrow"], scope := defScope (top 6), body := defBody (top 6), cs := c5, gen := false }
def c6 : List CS := [
 .iff (.or (.cmp .ne (.ix (.call 0 [(.v 0), (.v 1)]) (.k (.int 1))) (.ix (.call 0 [(.v 0), (.v 2)]) (.k (.int 0)))) (.cmp .eq (.v 2) (.bin .sub (.neg (.k (.int 1))) (.v 1)))) [
  .ret (some (.k (.bl false)))] [],
 .iff (.and (.cmp .ge (.v 1) (.k (.int 0))) (.cmp .ge (.v 2) (.k (.int 0)))) [
  .ret (some (.cmp .notin (.tup [(.v 1), (.v 2)]) (.ix (.v 0) (.k (.int 2)))))] [],
 .iff (.and (.cmp .lt (.v 1) (.k (.int 0))) (.cmp .lt (.v 2) (.k (.int 0)))) [
  .ret (some (.cmp .notin (.tup [(.bin .sub (.neg (.k (.int 1))) (.v 2)), (.bin .sub (.neg (.k (.int 1))) (.v 1))]) (.ix (.v 0) (.k (.int 2)))))] [],
 .ret (some (.k (.bl true)))]
def d6 : Df := { x := "may_follow", ps := ["plan", "letter", "other"], N := ["plan", "letter", "other"], scope := defScope (top 7), body := defBody (top 7), cs := c6, gen := false }
def c7 : List CS := [
 .asg (.nm 2) (.call 8 [(.v 0), (.ix (.call 0 [(.v 0), (.v 1)]) (.k (.int 1)))]),
 .ret (some (.gn false .tuple [3] (.nm 3) (.of (.v 2)) [(.call 6 [(.v 0), (.v 1), (.v 3)])] (.v 3)))]
def d7 : Df := { x := "followers", ps := ["plan", "letter"], N := ["plan", "letter", "reading", "other"], scope := defScope (top 8), body := defBody (top 8), cs := c7, gen := true }
def c8 : List CS := [
 .asg (.nm 2) (.lc false [4, 5] (.tp [(.nm 4), (.nm 5)]) (.enum (.ix (.v 0) (.k (.int 1)))) [(.cmp .eq (.ix (.v 5) (.k (.int 0))) (.v 1))] (.v 4)),
 .asg (.nm 3) (.lc false [4, 5] (.tp [(.nm 4), (.nm 5)]) (.enum (.ix (.v 0) (.k (.int 1)))) [(.cmp .eq (.ix (.v 5) (.k (.int 1))) (.v 1))] (.bin .sub (.neg (.k (.int 1))) (.v 4))),
 .ret (some (.bi false .tuple [(.bin .add (.rev (.v 3)) (.v 2))]))]
def d8 : Df := { x := "from_point", ps := ["plan", "point"], N := ["plan", "point", "along", "against", "arrow", "ends"], scope := defScope (top 9), body := defBody (top 9), cs := c8, gen := false }
def c9 : List CS := [
 .asg (.tp [(.nm 2), (.nm 3), (.nm 4)]) (.v 0),
 .asg (.nm 1) (.gn false .tuple [5, 6] (.tp [(.nm 5), (.nm 6)]) (.of (.v 3)) [] (.tup [(.v 6), (.v 5)])),
 .ret (some (.tup [(.v 2), (.v 1), (.bi false .tuple [(.gn false .sorted [7, 8] (.tp [(.nm 7), (.nm 8)]) (.of (.v 4)) [] (.tup [(.v 8), (.v 7)]))])]))]
def d9 : Df := { x := "turned_plan", ps := ["plan"], N := ["plan", "turned", "size", "arrows", "noughts", "start", "end", "first", "second"], scope := defScope (top 10), body := defBody (top 10), cs := c9, gen := true }
def c10 : List CS := [
 .asg (.nm 2) (.bin .add (.sl (.v 0) (some (.v 1)) none) (.sl (.v 0) none (some (.v 1)))),
 .asg (.nm 3) (.lc false [5] (.nm 5) (.of (.v 2)) [(.cmp .ge (.v 5) (.bin .pow (.k (.int 10)) (.k (.int 18))))] (.v 5)),
 .asg (.nm 4) (.bin .add (.k (.int 71)) (.v 1)),
 .fors (.nm 5) (.of (.v 2)) [
  .asg (.nm 4) (.bin .mod (.bi false .int [(.bin .add (.bin .mul (.v 4) (.k (.int 48271))) (.v 5))]) (.k (.int 2147483647)))],
 .ret (some (.dct [.inr "left", .inr "seed", .inr "cells", .inr "spot"] [(.ife (.cmp .ne (.v 3) (.lst false [])) (.ix (.v 3) (.k (.int 0))) (.k (.int 0))), (.v 4), (.bin .add (.v 2) (.lst false [(.bin .add (.bin .mul (.k (.int 53)) (.v 1)) (.k (.int 11)))])), (.k (.int 0))]))]
def d10 : Df := { x := "_law_begun", ps := ["script", "k"], N := ["script", "k", "cells", "great", "seed", "cell"], scope := defScope (top 12), body := defBody (top 12), cs := c10, gen := false }
def c11 : List CS := [
 .iff (.cmp .gt (.ix (.v 0) (.k (.str "left"))) (.k (.int 0))) [
  .asg (.nm 5) (.bin .mod (.bi false .int [(.ix (.v 0) (.k (.str "left")))]) (.v 1)),
  .set (.v 0) (.k (.str "left")) (.bin .fdiv (.ix (.v 0) (.k (.str "left"))) (.v 1)),
  .ret (some (.v 5))] [],
 .asg (.nm 2) (.ix (.v 0) (.k (.str "spot"))),
 .set (.v 0) (.k (.str "spot")) (.bin .add (.v 2) (.k (.int 1))),
 .par [6, 7] [(.ix (.v 0) (.k (.str "cells"))), (.bin .add (.ix (.v 0) (.k (.str "seed"))) (.bin .mul (.bin .mul (.k (.int 40503)) (.v 2)) (.v 2)))],
 .asg (.nm 3) (.ix (.v 6) (.bin .mod (.bi false .int [(.v 2)]) (.bi false .len [(.v 6)]))),
 .asg (.nm 4) (.bin .mod (.bi false .int [(.bin .add (.bin .mul (.v 3) (.bin .add (.bin .mul (.k (.int 2)) (.v 2)) (.k (.int 3)))) (.v 7))]) (.k (.int 2147483647))),
 .asg (.nm 4) (.bin .mod (.bi false .int [(.bin .add (.bin .add (.bin .mul (.v 4) (.v 4)) (.bin .mul (.k (.int 69621)) (.v 2))) (.ix (.v 0) (.k (.str "seed"))))]) (.k (.int 2147483629))),
 .ret (some (.bin .mod (.bin .fdiv (.bin .mod (.bi false .int [(.bin .add (.bin .mul (.v 4) (.k (.int 48271))) (.v 2))]) (.k (.int 2147483647))) (.k (.int 11))) (.v 1)))]
def d11 : Df := { x := "_law_draw", ps := ["m", "bound"], N := ["m", "bound", "spot", "cell", "blend", "found", "cells", "extra"], scope := defScope (top 13), body := defBody (top 13), cs := c11, gen := false }
def c12 : List CS := [
 .ret (some (.ix (.v 1) (.call 11 [(.v 0), (.bi false .len [(.v 1)])])))]
def d12 : Df := { x := "_law_of", ps := ["m", "some"], N := ["m", "some"], scope := defScope (top 14), body := defBody (top 14), cs := c12, gen := false }
def c13 : List CS := [
 .ret (some (.cmp .eq (.bi false .repr [(.v 0)]) (.bi false .repr [(.v 1)])))]
def d13 : Df := { x := "_law_like", ps := ["told", "due"], N := ["told", "due"], scope := defScope (top 15), body := defBody (top 15), cs := c13, gen := false }
def c14 : List CS := [
 .par [3, 4] [(.tr false false [(.v 1)]), (.lst true [])],
 .fors (.nm 2) (.rng [(.v 1)]) [
  .asg (.nm 5) (.call 12 [(.v 0), (.v 3)]),
  .asg (.nm 3) (.lc false [6] (.nm 6) (.of (.v 3)) [(.cmp .ne (.v 6) (.v 5))] (.v 6)),
  .ex (.me .append (.v 4) [(.v 5)])],
 .ret (some (.bi false .tuple [(.v 4)]))]
def d14 : Df := { x := "_law_shuffled", ps := ["m", "count"], N := ["m", "count", "k", "left", "found", "one", "other"], scope := defScope (top 16), body := defBody (top 16), cs := c14, gen := false }
def c15 : List CS := [
 .asg (.tp [(.nm 2), (.nm 3)]) (.ix (.ix (.v 0) (.k (.int 1))) (.ife (.cmp .ge (.v 1) (.k (.int 0))) (.v 1) (.bin .sub (.neg (.k (.int 1))) (.v 1)))),
 .ret (some (.ife (.cmp .ge (.v 1) (.k (.int 0))) (.tup [(.v 2), (.v 3)]) (.tup [(.v 3), (.v 2)])))]
def d15 : Df := { x := "_law_ends", ps := ["plan", "letter"], N := ["plan", "letter", "begin", "end"], scope := defScope (top 17), body := defBody (top 17), cs := c15, gen := false }
def c16 : List CS := [
 .iff (.or (.cmp .ne (.ix (.call 15 [(.v 0), (.v 1)]) (.k (.int 1))) (.ix (.call 15 [(.v 0), (.v 2)]) (.k (.int 0)))) (.cmp .eq (.v 2) (.bin .sub (.neg (.k (.int 1))) (.v 1)))) [
  .ret (some (.k (.bl false)))] [],
 .iff (.and (.cmp .ge (.v 1) (.k (.int 0))) (.cmp .ge (.v 2) (.k (.int 0)))) [
  .ret (some (.cmp .notin (.tup [(.v 1), (.v 2)]) (.ix (.v 0) (.k (.int 2)))))] [],
 .iff (.and (.cmp .lt (.v 1) (.k (.int 0))) (.cmp .lt (.v 2) (.k (.int 0)))) [
  .ret (some (.cmp .notin (.tup [(.bin .sub (.neg (.k (.int 1))) (.v 2)), (.bin .sub (.neg (.k (.int 1))) (.v 1))]) (.ix (.v 0) (.k (.int 2)))))] [],
 .ret (some (.k (.bl true)))]
def d16 : Df := { x := "_law_may", ps := ["plan", "one", "other"], N := ["plan", "one", "other"], scope := defScope (top 18), body := defBody (top 18), cs := c16, gen := false }
def c17 : List CS := [
 .asg (.nm 2) (.bi false .len [(.ix (.v 0) (.k (.int 1)))]),
 .ret (some (.lc false [3] (.nm 3) (.rng [(.neg (.v 2)), (.v 2)]) [(.call 16 [(.v 0), (.v 1), (.v 3)])] (.v 3)))]
def d17 : Df := { x := "_law_after", ps := ["plan", "one"], N := ["plan", "one", "count", "other"], scope := defScope (top 19), body := defBody (top 19), cs := c17, gen := false }
def c18 : List CS := [
 .asg (.nm 2) (.lc false [3] (.nm 3) (.of (.call 17 [(.v 0), (.v 1)])) [(.cmp .ge (.v 3) (.k (.int 0)))] (.v 3)),
 .ret (some (.ife (.cmp .ne (.v 2) (.lst false [])) (.ix (.v 2) (.k (.int 0))) (.k .non)))]
def d18 : Df := { x := "_law_next", ps := ["plan", "arrow"], N := ["plan", "arrow", "found", "other"], scope := defScope (top 20), body := defBody (top 20), cs := c18, gen := false }
def c19 : List CS := [
 .asg (.nm 2) (.lc false [3] (.nm 3) (.of (.ix (.v 0) (.k (.int 2)))) [(.cmp .eq (.ix (.v 3) (.k (.int 0))) (.v 1))] (.ix (.v 3) (.k (.int 1)))),
 .ret (some (.ife (.cmp .ne (.v 2) (.lst false [])) (.ix (.v 2) (.k (.int 0))) (.k .non)))]
def d19 : Df := { x := "_law_nil", ps := ["plan", "arrow"], N := ["plan", "arrow", "found", "pair"], scope := defScope (top 21), body := defBody (top 21), cs := c19, gen := false }
def c20 : List CS := [
 .asg (.nm 2) (.lc false [4] (.nm 4) (.rng [(.bi false .len [(.ix (.v 0) (.k (.int 1)))])]) [(.cmp .ne (.v 4) (.v 1))] (.ix (.ix (.v 0) (.k (.int 1))) (.v 4))),
 .asg (.nm 3) (.lc false [5] (.nm 5) (.of (.ix (.v 0) (.k (.int 2)))) [(.cmp .notin (.v 1) (.v 5))] (.v 5)),
 .asg (.nm 3) (.lc false [6, 7] (.tp [(.nm 6), (.nm 7)]) (.of (.v 3)) [] (.tup [(.bin .sub (.v 6) (.ife (.cmp .gt (.v 6) (.v 1)) (.k (.int 1)) (.k (.int 0)))), (.bin .sub (.v 7) (.ife (.cmp .gt (.v 7) (.v 1)) (.k (.int 1)) (.k (.int 0))))])),
 .ret (some (.tup [(.ix (.v 0) (.k (.int 0))), (.bi false .tuple [(.v 2)]), (.bi false .tuple [(.bi false .sorted [(.v 3)])])]))]
def d20 : Df := { x := "_law_without", ps := ["plan", "arrow"], N := ["plan", "arrow", "rows", "kept", "k", "pair", "a", "b"], scope := defScope (top 22), body := defBody (top 22), cs := c20, gen := false }
def c21 : List CS := [
 .fors (.nm 1) (.rng [(.bi false .len [(.ix (.v 0) (.k (.int 1)))])]) [
  .asg (.nm 2) (.call 18 [(.v 0), (.v 1)]),
  .fors (.nm 3) (.rng [(.bi false .len [(.ix (.v 0) (.k (.int 1)))])]) [
   .iff (.and (.cmp .isnot (.v 2) (.k .non)) (.cmp .ne (.v 2) (.v 1))) [
    .asg (.nm 2) (.call 18 [(.v 0), (.v 2)])] []],
  .iff (.cmp .eq (.v 2) (.v 1)) [
   .ret (some (.v 1))] []],
 .ret (some (.k .non))]
def d21 : Df := { x := "_law_round_arrow", ps := ["plan"], N := ["plan", "arrow", "at", "step"], scope := defScope (top 23), body := defBody (top 23), cs := c21, gen := false }
def c22 : List CS := [
 .fors (.nm 1) (.rng [(.bi false .len [(.ix (.v 0) (.k (.int 1)))])]) [
  .asg (.nm 2) (.call 21 [(.v 0)]),
  .iff (.cmp .isnot (.v 2) (.k .non)) [
   .asg (.nm 0) (.call 20 [(.v 0), (.v 2)])] []],
 .ret (some (.v 0))]
def d22 : Df := { x := "_law_ended", ps := ["plan"], N := ["plan", "step", "arrow"], scope := defScope (top 24), body := defBody (top 24), cs := c22, gen := false }
def c23 : List CS := [
 .asg (.nm 3) (.lst true []),
 .fors (.nm 4) (.rng [(.v 1)]) [
  .asg (.nm 5) (.lc false [8] (.nm 8) (.rng [(.bi false .len [(.v 2)])]) [(.cmp .eq (.ix (.ix (.v 2) (.v 8)) (.k (.int 1))) (.v 4))] (.v 8)),
  .asg (.nm 6) (.lc false [9] (.nm 9) (.rng [(.bi false .len [(.v 2)])]) [(.cmp .eq (.ix (.ix (.v 2) (.v 9)) (.k (.int 0))) (.v 4))] (.v 9)),
  .asg (.nm 7) (.call 11 [(.v 0), (.k (.int 2))]),
  .iff (.and (.cmp .eq (.bi false .len [(.v 5)]) (.k (.int 2))) (.cmp .eq (.bi false .len [(.v 6)]) (.k (.int 2)))) [
   .asg (.nm 3) (.cat (.v 3) (.lst false [(.tup [(.ix (.v 5) (.k (.int 0))), (.ix (.v 6) (.v 7))]), (.tup [(.ix (.v 5) (.k (.int 1))), (.ix (.v 6) (.bin .sub (.k (.int 1)) (.v 7)))])]))] [],
  .iff (.and (.cmp .eq (.bi false .len [(.v 5)]) (.k (.int 2))) (.cmp .eq (.bi false .len [(.v 6)]) (.k (.int 1)))) [
   .ex (.me .append (.v 3) [(.tup [(.ix (.v 5) (.v 7)), (.ix (.v 6) (.k (.int 0)))])])] [],
  .iff (.and (.cmp .eq (.bi false .len [(.v 5)]) (.k (.int 1))) (.cmp .eq (.bi false .len [(.v 6)]) (.k (.int 2)))) [
   .ex (.me .append (.v 3) [(.tup [(.ix (.v 5) (.k (.int 0))), (.ix (.v 6) (.v 7))])])] [],
  .iff (.and (.cmp .eq (.bi false .len [(.v 5)]) (.k (.int 1))) (.and (.cmp .eq (.bi false .len [(.v 6)]) (.k (.int 1))) (.cmp .eq (.v 7) (.k (.int 1))))) [
   .ex (.me .append (.v 3) [(.tup [(.ix (.v 5) (.k (.int 0))), (.ix (.v 6) (.k (.int 0)))])])] []],
 .ret (some (.call 22 [(.tup [(.v 1), (.bi false .tuple [(.v 2)]), (.bi false .tuple [(.bi false .sorted [(.v 3)])])])]))]
def d23 : Df := { x := "_law_with_noughts", ps := ["m", "size", "rows"], N := ["m", "size", "rows", "pairs", "p", "ins", "outs", "side", "a", "b"], scope := defScope (top 25), body := defBody (top 25), cs := c23, gen := false }
def c24 : List CS := [
 .asg (.nm 3) (.lst true []),
 .fors (.nm 4) (.rng [(.bin .add (.bin .sub (.v 1) (.k (.int 1))) (.call 11 [(.v 0), (.v 2)]))]) [
  .asg (.tp [(.nm 8), (.nm 5)]) (.tup [(.call 11 [(.v 0), (.v 1)]), (.call 11 [(.v 0), (.v 1)])]),
  .asg (.nm 5) (.ife (.and (.cmp .eq (.v 8) (.v 5)) (.cmp .gt (.call 11 [(.v 0), (.k (.int 3))]) (.k (.int 0)))) (.bin .mod (.bi false .int [(.bin .add (.v 8) (.k (.int 1)))]) (.v 1)) (.v 5)),
  .asg (.nm 6) (.lc false [9] (.nm 9) (.of (.v 3)) [(.cmp .eq (.ix (.v 9) (.k (.int 0))) (.v 8))] (.v 9)),
  .asg (.nm 7) (.lc false [9] (.nm 9) (.of (.v 3)) [(.cmp .eq (.ix (.v 9) (.k (.int 1))) (.v 5))] (.v 9)),
  .iff (.and (.cmp .lt (.bi false .len [(.v 6)]) (.k (.int 2))) (.cmp .lt (.bi false .len [(.v 7)]) (.k (.int 2)))) [
   .ex (.me .append (.v 3) [(.tup [(.v 8), (.v 5)])])] []],
 .ret (some (.call 23 [(.v 0), (.v 1), (.v 3)]))]
def d24 : Df := { x := "_law_free_plan", ps := ["m", "size", "most"], N := ["m", "size", "most", "rows", "step", "b", "begun", "ended", "a", "row"], scope := defScope (top 26), body := defBody (top 26), cs := c24, gen := false }
def c25 : List CS := [
 .asg (.nm 2) (.call 11 [(.v 0), (.k (.int 5))]),
 .iff (.cmp .eq (.v 2) (.k (.int 0))) [
  .asg (.nm 5) (.lc false [6] (.nm 6) (.rng [(.bin .sub (.v 1) (.k (.int 1)))]) [] (.call 11 [(.v 0), (.k (.int 2))])),
  .asg (.nm 3) (.lc true [6] (.nm 6) (.rng [(.bin .sub (.v 1) (.k (.int 1)))]) [] (.ife (.cmp .eq (.ix (.v 5) (.v 6)) (.k (.int 0))) (.tup [(.v 6), (.bin .add (.v 6) (.k (.int 1)))]) (.tup [(.bin .add (.v 6) (.k (.int 1))), (.v 6)]))),
  .ret (some (.call 23 [(.v 0), (.v 1), (.v 3)]))] [],
 .iff (.cmp .eq (.v 2) (.k (.int 1))) [
  .asg (.nm 3) (.lc true [6] (.nm 6) (.rng [(.v 1)]) [] (.tup [(.v 6), (.bin .mod (.bi false .int [(.bin .add (.v 6) (.k (.int 1)))]) (.v 1))])),
  .ret (some (.tup [(.v 1), (.bi false .tuple [(.v 3)]), (.bi false .tuple [(.bi false .sorted [(.lc false [6] (.nm 6) (.rng [(.v 1)]) [] (.tup [(.v 6), (.bin .mod (.bi false .int [(.bin .add (.v 6) (.k (.int 1)))]) (.v 1))]))])])]))] [],
 .iff (.cmp .eq (.v 2) (.k (.int 2))) [
  .asg (.nm 3) (.lc true [6] (.nm 6) (.rng [(.bin .sub (.v 1) (.k (.int 1)))]) [] (.tup [(.v 6), (.bin .add (.v 6) (.k (.int 1)))])),
  .ret (some (.call 23 [(.v 0), (.v 1), (.bin .add (.v 3) (.ife (.cmp .gt (.v 1) (.k (.int 1))) (.lst false [(.tup [(.k (.int 0)), (.k (.int 1))])]) (.lst false [])))]))] [],
 .iff (.cmp .eq (.v 2) (.k (.int 3))) [
  .asg (.nm 3) (.lst true []),
  .fors (.nm 6) (.rng [(.bin .sub (.v 1) (.k (.int 1)))]) [
   .ex (.me .append (.v 3) [(.tup [(.v 6), (.bin .add (.v 6) (.k (.int 1)))])]),
   .iff (.cmp .eq (.bin .mod (.bi false .int [(.v 6)]) (.k (.int 2))) (.k (.int 0))) [
    .ex (.me .append (.v 3) [(.tup [(.bin .add (.v 6) (.k (.int 1))), (.v 6)])])] []],
  .ret (some (.call 23 [(.v 0), (.v 1), (.v 3)]))] [],
 .asg (.nm 3) (.cat (.lc false [6] (.nm 6) (.rng [(.bin .sub (.v 1) (.k (.int 1)))]) [] (.tup [(.v 6), (.bin .add (.v 6) (.k (.int 1)))])) (.lst false [(.tup [(.bin .sub (.v 1) (.k (.int 1))), (.bin .sub (.v 1) (.k (.int 1)))])])),
 .asg (.nm 4) (.bin .add (.lst false [(.tup [(.bin .sub (.v 1) (.k (.int 1))), (.bin .sub (.v 1) (.k (.int 1)))])]) (.lc false [6] (.nm 6) (.rng [(.bin .sub (.v 1) (.k (.int 2)))]) [(.cmp .eq (.call 11 [(.v 0), (.k (.int 2))]) (.k (.int 1)))] (.tup [(.v 6), (.bin .add (.v 6) (.k (.int 1)))]))),
 .ret (some (.tup [(.v 1), (.bi false .tuple [(.v 3)]), (.bi false .tuple [(.bi false .sorted [(.v 4)])])]))]
def d25 : Df := { x := "_law_known_plan", ps := ["m", "size"], N := ["m", "size", "word", "rows", "pairs", "turns", "k"], scope := defScope (top 27), body := defBody (top 27), cs := c25, gen := false }
def c26 : List CS := [
 .asg (.nm 3) (.lc true [5] (.nm 5) (.of (.ix (.v 0) (.k (.int 1)))) [] (.k .non)),
 .fors (.nm 4) (.rng [(.bi false .len [(.v 3)])]) [
  .set (.v 3) (.ix (.v 2) (.v 4)) (.tup [(.ix (.v 1) (.ix (.ix (.ix (.v 0) (.k (.int 1))) (.v 4)) (.k (.int 0)))), (.ix (.v 1) (.ix (.ix (.ix (.v 0) (.k (.int 1))) (.v 4)) (.k (.int 1))))])],
 .ret (some (.tup [(.ix (.v 0) (.k (.int 0))), (.bi false .tuple [(.v 3)]), (.bi false .tuple [(.bi false .sorted [(.lc false [4, 6] (.tp [(.nm 4), (.nm 6)]) (.of (.ix (.v 0) (.k (.int 2)))) [] (.tup [(.ix (.v 2) (.v 4)), (.ix (.v 2) (.v 6))]))])])]))]
def d26 : Df := { x := "_law_renamed", ps := ["plan", "points", "arrows"], N := ["plan", "points", "arrows", "rows", "a", "row", "b"], scope := defScope (top 28), body := defBody (top 28), cs := c26, gen := false }
def c27 : List CS := [
 .asg (.nm 2) (.bin .add (.k (.int 1)) (.call 11 [(.v 0), (.v 1)])),
 .iff (.cmp .eq (.call 11 [(.v 0), (.k (.int 3))]) (.k (.int 0))) [
  .asg (.nm 3) (.call 25 [(.v 0), (.v 2)])] [
  .asg (.nm 3) (.call 24 [(.v 0), (.v 2), (.bin .mul (.k (.int 3)) (.v 2))])],
 .ret (some (.call 26 [(.v 3), (.call 14 [(.v 0), (.v 2)]), (.call 14 [(.v 0), (.bi false .len [(.ix (.v 3) (.k (.int 1)))])])]))]
def d27 : Df := { x := "_law_plan", ps := ["m", "most"], N := ["m", "most", "size", "plan"], scope := defScope (top 29), body := defBody (top 29), cs := c27, gen := false }
def c28 : List CS := [
 .asg (.nm 1) (.bi false .tuple [(.lc false [2, 3] (.tp [(.nm 2), (.nm 3)]) (.of (.ix (.v 0) (.k (.int 1)))) [] (.tup [(.v 3), (.v 2)]))]),
 .ret (some (.tup [(.ix (.v 0) (.k (.int 0))), (.v 1), (.bi false .tuple [(.bi false .sorted [(.lc false [2, 3] (.tp [(.nm 2), (.nm 3)]) (.of (.ix (.v 0) (.k (.int 2)))) [] (.tup [(.v 3), (.v 2)]))])])]))]
def d28 : Df := { x := "_law_turned_plan", ps := ["plan"], N := ["plan", "rows", "a", "b"], scope := defScope (top 30), body := defBody (top 30), cs := c28, gen := false }
def c29 : List CS := [
 .asg (.nm 2) (.bi false .len [(.ix (.v 0) (.k (.int 1)))]),
 .ret (some (.lc false [3] (.nm 3) (.rng [(.neg (.v 2)), (.v 2)]) [(.cmp .eq (.ix (.call 15 [(.v 0), (.v 3)]) (.k (.int 0))) (.v 1))] (.v 3)))]
def d29 : Df := { x := "_law_begins", ps := ["plan", "point"], N := ["plan", "point", "count", "one"], scope := defScope (top 31), body := defBody (top 31), cs := c29, gen := false }
def c30 : List CS := [
 .ret (some (.ife (.cmp .eq (.v 0) (.lst false [])) (.k .non) (.ife (.cmp .eq (.bi false .len [(.v 0)]) (.k (.int 1))) (.ix (.v 0) (.k (.int 0))) (.k (.str "more")))))]
def d30 : Df := { x := "_law_first", ps := ["some"], N := ["some"], scope := defScope (top 32), body := defBody (top 32), cs := c30, gen := false }
def c31 : List CS := [
 .asg (.nm 2) (.tr false false [(.bi false .len [(.ix (.v 0) (.k (.int 1)))])]),
 .asg (.nm 3) (.tup [(.call 18 [(.v 0), (.v 1)]), (.call 19 [(.v 0), (.v 1)])]),
 .iff (.not (.call 13 [(.tup [(.call 1 [(.v 0), (.v 1)]), (.call 2 [(.v 0), (.v 1)])]), (.v 3)])) [
  .ret (some (.k (.bl false)))] [],
 .asg (.nm 4) (.call 30 [(.lc false [9] (.nm 9) (.of (.v 2)) [(.cmp .eq (.call 18 [(.v 0), (.v 9)]) (.v 1))] (.v 9))]),
 .asg (.nm 5) (.call 30 [(.lc false [9] (.nm 9) (.of (.v 2)) [(.cmp .eq (.call 19 [(.v 0), (.v 9)]) (.v 1))] (.v 9))]),
 .iff (.not (.call 13 [(.tup [(.call 3 [(.v 0), (.v 1)]), (.call 4 [(.v 0), (.v 1)])]), (.tup [(.v 4), (.v 5)])])) [
  .ret (some (.k (.bl false)))] [],
 .asg (.nm 6) (.call 30 [(.lc false [9] (.nm 9) (.of (.v 2)) [(.and (.cmp .ne (.v 9) (.v 1)) (.cmp .eq (.ix (.ix (.ix (.v 0) (.k (.int 1))) (.v 9)) (.k (.int 0))) (.ix (.ix (.ix (.v 0) (.k (.int 1))) (.v 1)) (.k (.int 0)))))] (.v 9))]),
 .asg (.nm 7) (.call 30 [(.lc false [9] (.nm 9) (.of (.v 2)) [(.and (.cmp .ne (.v 9) (.v 1)) (.cmp .eq (.ix (.ix (.ix (.v 0) (.k (.int 1))) (.v 9)) (.k (.int 1))) (.ix (.ix (.ix (.v 0) (.k (.int 1))) (.v 1)) (.k (.int 1)))))] (.v 9))]),
 .asg (.nm 8) (.ife (.cmp .is_ (.v 7) (.k .non)) (.k .non) (.bin .sub (.neg (.k (.int 1))) (.v 7))),
 .ret (some (.call 13 [(.tup [(.call 5 [(.v 0), (.v 1)]), (.call 5 [(.v 0), (.bin .sub (.neg (.k (.int 1))) (.v 1))])]), (.tup [(.v 6), (.v 8)])]))]
def d31 : Df := { x := "_law_arrow_told", ps := ["plan", "arrow"], N := ["plan", "arrow", "arrows", "due", "ahead", "nil_ahead", "begun", "ended", "against", "one"], scope := defScope (top 33), body := defBody (top 33), cs := c31, gen := false }
def c32 : List CS := [
 .iff (.not (.call 13 [(.call 0 [(.v 0), (.v 1)]), (.call 15 [(.v 0), (.v 1)])])) [
  .ret (some (.k (.bl false)))] [],
 .asg (.nm 2) (.call 17 [(.v 0), (.v 1)]),
 .iff (.not (.call 13 [(.call 7 [(.v 0), (.v 1)]), (.bi false .tuple [(.v 2)])])) [
  .ret (some (.k (.bl false)))] [],
 .asg (.nm 3) (.bi false .len [(.ix (.v 0) (.k (.int 1)))]),
 .fors (.nm 4) (.rng [(.neg (.v 3)), (.v 3)]) [
  .iff (.not (.call 13 [(.call 6 [(.v 0), (.v 1), (.v 4)]), (.cmp .isin (.v 4) (.v 2))])) [
   .ret (some (.k (.bl false)))] []],
 .ret (some (.k (.bl true)))]
def d32 : Df := { x := "_law_letter_told", ps := ["plan", "letter"], N := ["plan", "letter", "after", "count", "other"], scope := defScope (top 34), body := defBody (top 34), cs := c32, gen := false }
def c33 : List CS := [
 .asg (.nm 1) (.bi false .len [(.ix (.v 0) (.k (.int 1)))]),
 .fors (.nm 2) (.rng [(.neg (.v 1)), (.v 1)]) [
  .iff (.not (.call 32 [(.v 0), (.v 2)])) [
   .ret (some (.k (.bl false)))] []],
 .fors (.nm 3) (.rng [(.v 1)]) [
  .iff (.not (.call 31 [(.v 0), (.v 3)])) [
   .ret (some (.k (.bl false)))] []],
 .fors (.nm 4) (.rng [(.ix (.v 0) (.k (.int 0)))]) [
  .iff (.not (.call 13 [(.call 8 [(.v 0), (.v 4)]), (.bi false .tuple [(.call 29 [(.v 0), (.v 4)])])])) [
   .ret (some (.k (.bl false)))] []],
 .ret (some (.k (.bl true)))]
def d33 : Df := { x := "_law_plan_told", ps := ["plan"], N := ["plan", "count", "letter", "arrow", "point"], scope := defScope (top 35), body := defBody (top 35), cs := c33, gen := false }
def c34 : List CS := [
 .asg (.nm 1) (.call 9 [(.v 0)]),
 .iff (.or (.not (.call 13 [(.v 1), (.call 28 [(.v 0)])])) (.not (.call 13 [(.call 9 [(.v 1)]), (.v 0)]))) [
  .ret (some (.k (.bl false)))] [],
 .fors (.nm 2) (.rng [(.bi false .len [(.ix (.v 0) (.k (.int 1)))])]) [
  .iff (.not (.call 13 [(.call 1 [(.v 1), (.v 2)]), (.call 3 [(.v 0), (.v 2)])])) [
   .ret (some (.k (.bl false)))] [],
  .iff (.not (.call 13 [(.call 4 [(.v 1), (.v 2)]), (.call 2 [(.v 0), (.v 2)])])) [
   .ret (some (.k (.bl false)))] [],
  .par [3, 4] [(.call 1 [(.v 0), (.v 2)]), (.call 2 [(.v 0), (.v 2)])],
  .iff (.and (.cmp .isnot (.v 3) (.k .non)) (.not (.call 13 [(.call 3 [(.v 0), (.v 3)]), (.v 2)]))) [
   .ret (some (.k (.bl false)))] [],
  .iff (.and (.cmp .isnot (.v 4) (.k .non)) (.not (.call 13 [(.call 4 [(.v 0), (.v 4)]), (.v 2)]))) [
   .ret (some (.k (.bl false)))] []],
 .ret (some (.call 33 [(.v 1)]))]
def d34 : Df := { x := "_law_turned_told", ps := ["plan"], N := ["plan", "other", "arrow", "on", "nil"], scope := defScope (top 36), body := defBody (top 36), cs := c34, gen := false }
def c35 : List CS := [
 .asg (.nm 0) (.tup [(.k (.int 1)), (.tup [(.tup [(.k (.int 0)), (.k (.int 0))])]), (.tup [(.tup [(.k (.int 0)), (.k (.int 0))])])]),
 .asg (.nm 1) (.tup [(.k (.int 2)), (.tup [(.tup [(.k (.int 0)), (.k (.int 1))]), (.tup [(.k (.int 0)), (.k (.int 1))])]), (.tup [])]),
 .asg (.nm 2) (.tup [(.k (.int 2)), (.tup [(.tup [(.k (.int 0)), (.k (.int 1))]), (.tup [(.k (.int 1)), (.k (.int 0))])]), (.tup [(.tup [(.k (.int 0)), (.k (.int 1))]), (.tup [(.k (.int 1)), (.k (.int 0))])])]),
 .asg (.nm 3) (.tup [(.k (.int 3)), (.tup [(.tup [(.k (.int 0)), (.k (.int 1))]), (.tup [(.k (.int 1)), (.k (.int 2))])]), (.tup [])]),
 .asg (.nm 4) (.lst false [(.call 1 [(.v 0), (.k (.int 0))]), (.call 2 [(.v 0), (.k (.int 0))]), (.call 4 [(.v 0), (.k (.int 0))]), (.call 7 [(.v 0), (.k (.int 0))]), (.call 8 [(.v 0), (.k (.int 0))])]),
 .iff (.not (.call 13 [(.v 4), (.lst false [(.k .non), (.k (.int 0)), (.k (.int 0)), (.tup []), (.tup [(.neg (.k (.int 1))), (.k (.int 0))])])])) [
  .ret (some (.k (.bl false)))] [],
 .asg (.nm 4) (.lst false [(.call 5 [(.v 1), (.k (.int 0))]), (.call 5 [(.v 1), (.neg (.k (.int 1)))]), (.call 7 [(.v 1), (.k (.int 0))]), (.call 7 [(.v 1), (.neg (.k (.int 2)))]), (.call 0 [(.v 1), (.neg (.k (.int 1)))])]),
 .iff (.not (.call 13 [(.v 4), (.lst false [(.k (.int 1)), (.neg (.k (.int 2))), (.tup [(.neg (.k (.int 2)))]), (.tup [(.k (.int 0))]), (.tup [(.k (.int 1)), (.k (.int 0))])])])) [
  .ret (some (.k (.bl false)))] [],
 .asg (.nm 4) (.lst false [(.call 1 [(.v 2), (.k (.int 0))]), (.call 2 [(.v 2), (.k (.int 1))]), (.call 7 [(.v 2), (.k (.int 0))]), (.call 5 [(.v 2), (.k (.int 0))]), (.call 8 [(.v 2), (.k (.int 1))])]),
 .iff (.not (.call 13 [(.v 4), (.lst false [(.k .non), (.k (.int 0)), (.tup []), (.k .non), (.tup [(.neg (.k (.int 1))), (.k (.int 1))])])])) [
  .ret (some (.k (.bl false)))] [],
 .asg (.nm 4) (.lst false [(.call 1 [(.v 3), (.k (.int 0))]), (.call 3 [(.v 3), (.k (.int 1))]), (.call 7 [(.v 3), (.k (.int 0))]), (.call 7 [(.v 3), (.neg (.k (.int 2)))]), (.call 3 [(.v 3), (.k (.int 0))])]),
 .ret (some (.call 13 [(.v 4), (.lst false [(.k (.int 1)), (.k (.int 0)), (.tup [(.k (.int 1))]), (.tup [(.neg (.k (.int 1)))]), (.k .non)])]))]
def d35 : Df := { x := "_law_hands_right", ps := [], N := ["loop", "side", "ring", "line", "told"], scope := defScope (top 37), body := defBody (top 37), cs := c35, gen := false }
def c36 : List CS := [
 .iff (.not (.call 35 [])) [
  .ret (some (.k (.bl false)))] [],
 .fors (.nm 1) (.rng [(.bi false .max [(.k (.int 2)), (.bi false .min [(.bi false .len [(.v 0)]), (.k (.int 4))])])]) [
  .asg (.nm 2) (.call 10 [(.v 0), (.v 1)]),
  .asg (.nm 3) (.call 27 [(.v 2), (.k (.int 6))]),
  .iff (.or (.not (.call 33 [(.v 3)])) (.not (.call 34 [(.v 3)]))) [
   .ret (some (.k (.bl false)))] [],
  .par [4, 5] [(.call 14 [(.v 2), (.ix (.v 3) (.k (.int 0)))]), (.call 14 [(.v 2), (.bi false .len [(.ix (.v 3) (.k (.int 1)))])])],
  .iff (.or (.not (.call 33 [(.call 26 [(.v 3), (.v 4), (.v 5)])])) (.not (.call 33 [(.v 3)]))) [
   .ret (some (.k (.bl false)))] []],
 .ret (some (.k (.bl true)))]
def d36 : Df := { x := "law", ps := ["script"], N := ["script", "k", "m", "plan", "points", "arrows"], scope := defScope (top 38), body := defBody (top 38), cs := c36, gen := false }
def ds : List Df := [d0, d1, d2, d3, d4, d5, d6, d7, d8, d9, d10, d11, d12, d13, d14, d15, d16, d17, d18, d19, d20, d21, d22, d23, d24, d25, d26, d27, d28, d29, d30, d31, d32, d33, d34, d35, d36]
def tops : List Nat := [1, 2, 3, 4, 5, 6, 7, 8, 9, 10, 12, 13, 14, 15, 16, 17, 18, 19, 20, 21, 22, 23, 24, 25, 26, 27, 28, 29, 30, 31, 32, 33, 34, 35, 36, 37, 38]
def kcs : List (Nat × Nat × List Str × List Nat) := []
end K01
namespace K01
open PySem PySem.Spec PyProof.Rows L2 Ev
def pars : List Arguments := tops.map fun i => defArgs (top i)

theorem D0 : DfD kcs 0 d0 (defArgs (top 1)) := ⟨fun _ _ _ _ _ _ us hl => match us, hl with | [_, _], _ => rfl, fun n ks g hc => by
    have hm := List.contains_iff_mem.mp hc
    simp [kcs] at hm, ⟨rfl, rfl, rfl, by decide +kernel, rfl, by decide +kernel, by decide +kernel⟩⟩
theorem D1 : DfD kcs 1 d1 (defArgs (top 2)) := ⟨fun _ _ _ _ _ _ us hl => match us, hl with | [_, _], _ => rfl, fun n ks g hc => by
    have hm := List.contains_iff_mem.mp hc
    simp [kcs] at hm, ⟨rfl, rfl, rfl, by decide +kernel, rfl, by decide +kernel, by decide +kernel⟩⟩
theorem D2 : DfD kcs 2 d2 (defArgs (top 3)) := ⟨fun _ _ _ _ _ _ us hl => match us, hl with | [_, _], _ => rfl, fun n ks g hc => by
    have hm := List.contains_iff_mem.mp hc
    simp [kcs] at hm, ⟨rfl, rfl, rfl, by decide +kernel, rfl, by decide +kernel, by decide +kernel⟩⟩
theorem D3 : DfD kcs 3 d3 (defArgs (top 4)) := ⟨fun _ _ _ _ _ _ us hl => match us, hl with | [_, _], _ => rfl, fun n ks g hc => by
    have hm := List.contains_iff_mem.mp hc
    simp [kcs] at hm, ⟨rfl, rfl, rfl, by decide +kernel, rfl, by decide +kernel, by decide +kernel⟩⟩
theorem D4 : DfD kcs 4 d4 (defArgs (top 5)) := ⟨fun _ _ _ _ _ _ us hl => match us, hl with | [_, _], _ => rfl, fun n ks g hc => by
    have hm := List.contains_iff_mem.mp hc
    simp [kcs] at hm, ⟨rfl, rfl, rfl, by decide +kernel, rfl, by decide +kernel, by decide +kernel⟩⟩
theorem D5 : DfD kcs 5 d5 (defArgs (top 6)) := ⟨fun _ _ _ _ _ _ us hl => match us, hl with | [_, _], _ => rfl, fun n ks g hc => by
    have hm := List.contains_iff_mem.mp hc
    simp [kcs] at hm, ⟨rfl, rfl, rfl, by decide +kernel, rfl, by decide +kernel, by decide +kernel⟩⟩
theorem D6 : DfD kcs 6 d6 (defArgs (top 7)) := ⟨fun _ _ _ _ _ _ us hl => match us, hl with | [_, _, _], _ => rfl, fun n ks g hc => by
    have hm := List.contains_iff_mem.mp hc
    simp [kcs] at hm, ⟨rfl, rfl, rfl, by decide +kernel, rfl, by decide +kernel, by decide +kernel⟩⟩
theorem D7 : DfD kcs 7 d7 (defArgs (top 8)) := ⟨fun _ _ _ _ _ _ us hl => match us, hl with | [_, _], _ => rfl, fun n ks g hc => by
    have hm := List.contains_iff_mem.mp hc
    simp [kcs] at hm, ⟨rfl, rfl, rfl, by decide +kernel, rfl, by decide +kernel, by decide +kernel⟩⟩
theorem D8 : DfD kcs 8 d8 (defArgs (top 9)) := ⟨fun _ _ _ _ _ _ us hl => match us, hl with | [_, _], _ => rfl, fun n ks g hc => by
    have hm := List.contains_iff_mem.mp hc
    simp [kcs] at hm, ⟨rfl, rfl, rfl, by decide +kernel, rfl, by decide +kernel, by decide +kernel⟩⟩
theorem D9 : DfD kcs 9 d9 (defArgs (top 10)) := ⟨fun _ _ _ _ _ _ us hl => match us, hl with | [_], _ => rfl, fun n ks g hc => by
    have hm := List.contains_iff_mem.mp hc
    simp [kcs] at hm, ⟨rfl, rfl, rfl, by decide +kernel, rfl, by decide +kernel, by decide +kernel⟩⟩
theorem D10 : DfD kcs 10 d10 (defArgs (top 12)) := ⟨fun _ _ _ _ _ _ us hl => match us, hl with | [_, _], _ => rfl, fun n ks g hc => by
    have hm := List.contains_iff_mem.mp hc
    simp [kcs] at hm, ⟨rfl, rfl, rfl, by decide +kernel, rfl, by decide +kernel, by decide +kernel⟩⟩
theorem D11 : DfD kcs 11 d11 (defArgs (top 13)) := ⟨fun _ _ _ _ _ _ us hl => match us, hl with | [_, _], _ => rfl, fun n ks g hc => by
    have hm := List.contains_iff_mem.mp hc
    simp [kcs] at hm, ⟨rfl, rfl, rfl, by decide +kernel, rfl, by decide +kernel, by decide +kernel⟩⟩
theorem D12 : DfD kcs 12 d12 (defArgs (top 14)) := ⟨fun _ _ _ _ _ _ us hl => match us, hl with | [_, _], _ => rfl, fun n ks g hc => by
    have hm := List.contains_iff_mem.mp hc
    simp [kcs] at hm, ⟨rfl, rfl, rfl, by decide +kernel, rfl, by decide +kernel, by decide +kernel⟩⟩
theorem D13 : DfD kcs 13 d13 (defArgs (top 15)) := ⟨fun _ _ _ _ _ _ us hl => match us, hl with | [_, _], _ => rfl, fun n ks g hc => by
    have hm := List.contains_iff_mem.mp hc
    simp [kcs] at hm, ⟨rfl, rfl, rfl, by decide +kernel, rfl, by decide +kernel, by decide +kernel⟩⟩
theorem D14 : DfD kcs 14 d14 (defArgs (top 16)) := ⟨fun _ _ _ _ _ _ us hl => match us, hl with | [_, _], _ => rfl, fun n ks g hc => by
    have hm := List.contains_iff_mem.mp hc
    simp [kcs] at hm, ⟨rfl, rfl, rfl, by decide +kernel, rfl, by decide +kernel, by decide +kernel⟩⟩
theorem D15 : DfD kcs 15 d15 (defArgs (top 17)) := ⟨fun _ _ _ _ _ _ us hl => match us, hl with | [_, _], _ => rfl, fun n ks g hc => by
    have hm := List.contains_iff_mem.mp hc
    simp [kcs] at hm, ⟨rfl, rfl, rfl, by decide +kernel, rfl, by decide +kernel, by decide +kernel⟩⟩
theorem D16 : DfD kcs 16 d16 (defArgs (top 18)) := ⟨fun _ _ _ _ _ _ us hl => match us, hl with | [_, _, _], _ => rfl, fun n ks g hc => by
    have hm := List.contains_iff_mem.mp hc
    simp [kcs] at hm, ⟨rfl, rfl, rfl, by decide +kernel, rfl, by decide +kernel, by decide +kernel⟩⟩
theorem D17 : DfD kcs 17 d17 (defArgs (top 19)) := ⟨fun _ _ _ _ _ _ us hl => match us, hl with | [_, _], _ => rfl, fun n ks g hc => by
    have hm := List.contains_iff_mem.mp hc
    simp [kcs] at hm, ⟨rfl, rfl, rfl, by decide +kernel, rfl, by decide +kernel, by decide +kernel⟩⟩
theorem D18 : DfD kcs 18 d18 (defArgs (top 20)) := ⟨fun _ _ _ _ _ _ us hl => match us, hl with | [_, _], _ => rfl, fun n ks g hc => by
    have hm := List.contains_iff_mem.mp hc
    simp [kcs] at hm, ⟨rfl, rfl, rfl, by decide +kernel, rfl, by decide +kernel, by decide +kernel⟩⟩
theorem D19 : DfD kcs 19 d19 (defArgs (top 21)) := ⟨fun _ _ _ _ _ _ us hl => match us, hl with | [_, _], _ => rfl, fun n ks g hc => by
    have hm := List.contains_iff_mem.mp hc
    simp [kcs] at hm, ⟨rfl, rfl, rfl, by decide +kernel, rfl, by decide +kernel, by decide +kernel⟩⟩
theorem D20 : DfD kcs 20 d20 (defArgs (top 22)) := ⟨fun _ _ _ _ _ _ us hl => match us, hl with | [_, _], _ => rfl, fun n ks g hc => by
    have hm := List.contains_iff_mem.mp hc
    simp [kcs] at hm, ⟨rfl, rfl, rfl, by decide +kernel, rfl, by decide +kernel, by decide +kernel⟩⟩
theorem D21 : DfD kcs 21 d21 (defArgs (top 23)) := ⟨fun _ _ _ _ _ _ us hl => match us, hl with | [_], _ => rfl, fun n ks g hc => by
    have hm := List.contains_iff_mem.mp hc
    simp [kcs] at hm, ⟨rfl, rfl, rfl, by decide +kernel, rfl, by decide +kernel, by decide +kernel⟩⟩
theorem D22 : DfD kcs 22 d22 (defArgs (top 24)) := ⟨fun _ _ _ _ _ _ us hl => match us, hl with | [_], _ => rfl, fun n ks g hc => by
    have hm := List.contains_iff_mem.mp hc
    simp [kcs] at hm, ⟨rfl, rfl, rfl, by decide +kernel, rfl, by decide +kernel, by decide +kernel⟩⟩
theorem D23 : DfD kcs 23 d23 (defArgs (top 25)) := ⟨fun _ _ _ _ _ _ us hl => match us, hl with | [_, _, _], _ => rfl, fun n ks g hc => by
    have hm := List.contains_iff_mem.mp hc
    simp [kcs] at hm, ⟨rfl, rfl, rfl, by decide +kernel, rfl, by decide +kernel, by decide +kernel⟩⟩
theorem D24 : DfD kcs 24 d24 (defArgs (top 26)) := ⟨fun _ _ _ _ _ _ us hl => match us, hl with | [_, _, _], _ => rfl, fun n ks g hc => by
    have hm := List.contains_iff_mem.mp hc
    simp [kcs] at hm, ⟨rfl, rfl, rfl, by decide +kernel, rfl, by decide +kernel, by decide +kernel⟩⟩
theorem D25 : DfD kcs 25 d25 (defArgs (top 27)) := ⟨fun _ _ _ _ _ _ us hl => match us, hl with | [_, _], _ => rfl, fun n ks g hc => by
    have hm := List.contains_iff_mem.mp hc
    simp [kcs] at hm, ⟨rfl, rfl, rfl, by decide +kernel, rfl, by decide +kernel, by decide +kernel⟩⟩
theorem D26 : DfD kcs 26 d26 (defArgs (top 28)) := ⟨fun _ _ _ _ _ _ us hl => match us, hl with | [_, _, _], _ => rfl, fun n ks g hc => by
    have hm := List.contains_iff_mem.mp hc
    simp [kcs] at hm, ⟨rfl, rfl, rfl, by decide +kernel, rfl, by decide +kernel, by decide +kernel⟩⟩
theorem D27 : DfD kcs 27 d27 (defArgs (top 29)) := ⟨fun _ _ _ _ _ _ us hl => match us, hl with | [_, _], _ => rfl, fun n ks g hc => by
    have hm := List.contains_iff_mem.mp hc
    simp [kcs] at hm, ⟨rfl, rfl, rfl, by decide +kernel, rfl, by decide +kernel, by decide +kernel⟩⟩
theorem D28 : DfD kcs 28 d28 (defArgs (top 30)) := ⟨fun _ _ _ _ _ _ us hl => match us, hl with | [_], _ => rfl, fun n ks g hc => by
    have hm := List.contains_iff_mem.mp hc
    simp [kcs] at hm, ⟨rfl, rfl, rfl, by decide +kernel, rfl, by decide +kernel, by decide +kernel⟩⟩
theorem D29 : DfD kcs 29 d29 (defArgs (top 31)) := ⟨fun _ _ _ _ _ _ us hl => match us, hl with | [_, _], _ => rfl, fun n ks g hc => by
    have hm := List.contains_iff_mem.mp hc
    simp [kcs] at hm, ⟨rfl, rfl, rfl, by decide +kernel, rfl, by decide +kernel, by decide +kernel⟩⟩
theorem D30 : DfD kcs 30 d30 (defArgs (top 32)) := ⟨fun _ _ _ _ _ _ us hl => match us, hl with | [_], _ => rfl, fun n ks g hc => by
    have hm := List.contains_iff_mem.mp hc
    simp [kcs] at hm, ⟨rfl, rfl, rfl, by decide +kernel, rfl, by decide +kernel, by decide +kernel⟩⟩
theorem D31 : DfD kcs 31 d31 (defArgs (top 33)) := ⟨fun _ _ _ _ _ _ us hl => match us, hl with | [_, _], _ => rfl, fun n ks g hc => by
    have hm := List.contains_iff_mem.mp hc
    simp [kcs] at hm, ⟨rfl, rfl, rfl, by decide +kernel, rfl, by decide +kernel, by decide +kernel⟩⟩
theorem D32 : DfD kcs 32 d32 (defArgs (top 34)) := ⟨fun _ _ _ _ _ _ us hl => match us, hl with | [_, _], _ => rfl, fun n ks g hc => by
    have hm := List.contains_iff_mem.mp hc
    simp [kcs] at hm, ⟨rfl, rfl, rfl, by decide +kernel, rfl, by decide +kernel, by decide +kernel⟩⟩
theorem D33 : DfD kcs 33 d33 (defArgs (top 35)) := ⟨fun _ _ _ _ _ _ us hl => match us, hl with | [_], _ => rfl, fun n ks g hc => by
    have hm := List.contains_iff_mem.mp hc
    simp [kcs] at hm, ⟨rfl, rfl, rfl, by decide +kernel, rfl, by decide +kernel, by decide +kernel⟩⟩
theorem D34 : DfD kcs 34 d34 (defArgs (top 36)) := ⟨fun _ _ _ _ _ _ us hl => match us, hl with | [_], _ => rfl, fun n ks g hc => by
    have hm := List.contains_iff_mem.mp hc
    simp [kcs] at hm, ⟨rfl, rfl, rfl, by decide +kernel, rfl, by decide +kernel, by decide +kernel⟩⟩
theorem D35 : DfD kcs 35 d35 (defArgs (top 37)) := ⟨fun _ _ _ _ _ _ us hl => match us, hl with | [], _ => rfl, fun n ks g hc => by
    have hm := List.contains_iff_mem.mp hc
    simp [kcs] at hm, ⟨rfl, rfl, rfl, by decide +kernel, rfl, by decide +kernel, by decide +kernel⟩⟩
theorem D36 : DfD kcs 36 d36 (defArgs (top 38)) := ⟨fun _ _ _ _ _ _ us hl => match us, hl with | [_], _ => rfl, fun n ks g hc => by
    have hm := List.contains_iff_mem.mp hc
    simp [kcs] at hm, ⟨rfl, rfl, rfl, by decide +kernel, rfl, by decide +kernel, by decide +kernel⟩⟩
theorem hD : ∀ (f : Nat) (d : Df) (p : Arguments), ds[f]? = some d → pars[f]? = some p → DfD kcs f d p
  | 0, _, _, rfl, rfl => D0
  | 1, _, _, rfl, rfl => D1
  | 2, _, _, rfl, rfl => D2
  | 3, _, _, rfl, rfl => D3
  | 4, _, _, rfl, rfl => D4
  | 5, _, _, rfl, rfl => D5
  | 6, _, _, rfl, rfl => D6
  | 7, _, _, rfl, rfl => D7
  | 8, _, _, rfl, rfl => D8
  | 9, _, _, rfl, rfl => D9
  | 10, _, _, rfl, rfl => D10
  | 11, _, _, rfl, rfl => D11
  | 12, _, _, rfl, rfl => D12
  | 13, _, _, rfl, rfl => D13
  | 14, _, _, rfl, rfl => D14
  | 15, _, _, rfl, rfl => D15
  | 16, _, _, rfl, rfl => D16
  | 17, _, _, rfl, rfl => D17
  | 18, _, _, rfl, rfl => D18
  | 19, _, _, rfl, rfl => D19
  | 20, _, _, rfl, rfl => D20
  | 21, _, _, rfl, rfl => D21
  | 22, _, _, rfl, rfl => D22
  | 23, _, _, rfl, rfl => D23
  | 24, _, _, rfl, rfl => D24
  | 25, _, _, rfl, rfl => D25
  | 26, _, _, rfl, rfl => D26
  | 27, _, _, rfl, rfl => D27
  | 28, _, _, rfl, rfl => D28
  | 29, _, _, rfl, rfl => D29
  | 30, _, _, rfl, rfl => D30
  | 31, _, _, rfl, rfl => D31
  | 32, _, _, rfl, rfl => D32
  | 33, _, _, rfl, rfl => D33
  | 34, _, _, rfl, rfl => D34
  | 35, _, _, rfl, rfl => D35
  | 36, _, _, rfl, rfl => D36
  | n + 37, _, _, h, _ => by cases h
theorem hck : ds.all (Df.chk (pgOf ds kcs)) = true := by decide +kernel
abbrev tab : List Fd := Ev.tabOf ds
theorem okMay : Sp.OkMay tab 6 := ⟨0, rfl, rfl⟩
theorem okFol : Sp.OkFol tab 7 := ⟨8, 0, 6, rfl, rfl, okMay, rfl⟩
theorem okLM : Sp.OkLM tab 16 := ⟨15, rfl, rfl⟩
theorem okLA : Sp.OkLA tab 17 := ⟨16, okLM, rfl⟩
theorem okLN : Sp.OkLN tab 18 := ⟨17, okLA, rfl⟩
theorem okRA : Sp.OkRA tab 21 := ⟨18, okLN, rfl⟩
theorem okEd : Sp.OkEd tab 22 := ⟨21, 20, okRA, rfl, rfl⟩
theorem okWN : Sp.OkWN tab 23 := ⟨22, 11, okEd, rfl, rfl⟩
theorem okFP : Sp.OkFP tab 24 := ⟨23, 11, okWN, rfl, rfl⟩
theorem okKP : Sp.OkKP tab 25 := ⟨11, 23, rfl, okWN, rfl⟩
theorem okOf : Sp.OkOf tab 12 := ⟨11, rfl, rfl⟩
theorem okSh : Sp.OkSh tab 14 := ⟨12, okOf, rfl⟩
theorem okPl : Sp.OkPl tab 27 := ⟨26, 11, 25, 24, 14, rfl, rfl, okKP, okFP, okSh, rfl⟩
theorem okLB : Sp.OkLB tab 29 := ⟨15, rfl, rfl⟩
theorem okAr : Sp.OkAr tab 31 := ⟨30, 13, 18, 19, 5, 1, 2, 3, 4, rfl, rfl, okLN, rfl, rfl, rfl, rfl, rfl, rfl, rfl⟩
theorem okLe : Sp.OkLe tab 32 := ⟨17, 13, 0, 15, 7, 6, okLA, rfl, rfl, rfl, okFol, okMay, rfl⟩
theorem okPT : Sp.OkPT tab 33 := ⟨32, 31, 13, 8, 29, okLe, okAr, rfl, rfl, okLB, rfl⟩
theorem okTT : Sp.OkTT tab 34 := ⟨9, 33, 13, 1, 2, 28, 3, 4, rfl, okPT, rfl, rfl, rfl, rfl, rfl, rfl, rfl⟩
theorem hands : ∀ S, callF (Ev.tabOf ds) 11 35 [] S = .ok (.bl true) S := fun S => by kernel_rfl
theorem run_law (ns : List Int) (hn : ns.length ≤ 63) (hb : ∀ z ∈ ns, Builtin.Int.intBits z ≤ 1048576) : ∃ S', callF (Ev.tabOf ds) 12 36 [.ref 0] [.fz (ns.map D.int)] = .ok (.bl true) S' :=
  Sp.law01 (d := 0) (tab := tab) (hr := 35) (be := 10) (pl := 27) (sh := 14) (pt := 33) (tt := 34) (re := 26) hands rfl okPl okSh okPT okTT rfl rfl ns (by omega) hb
def looseN : List PySem.Str := (["ends_of", "next_of", "nil_of", "ahead_of", "nil_ahead_of", "mate_of", "may_follow", "followers", "from_point", "turned_plan", "_law_begun", "_law_draw", "_law_of", "_law_like", "_law_shuffled", "_law_ends", "_law_may", "_law_after", "_law_next", "_law_nil", "_law_without", "_law_round_arrow", "_law_ended", "_law_with_noughts", "_law_free_plan", "_law_known_plan", "_law_renamed", "_law_plan", "_law_turned_plan", "_law_begins"] : List PySem.Str) ++ (["_law_first", "_law_arrow_told", "_law_letter_told", "_law_plan_told", "_law_turned_told", "_law_hands_right"] : List PySem.Str)
abbrev R : PySem.W.OpenRow := PySem.W.OpenLaw.row PySem.Challenge.rw_stringrooms_k01_whole_letters_of_plans
abbrev hk : PySem.W.Hook := He.hookX 4 (faOf ds) (dfnOf ds pars) [] (tfOf ds) (fun _ => true)
def ob (s : PySem.W.SharedT) : He.AlX := He.obsX 4 (faOf ds) (dfnOf ds pars) [] (tfOf ds) (fun _ => true) (HandSHeadRun.getT s)
theorem ob_eq (s : PySem.W.SharedT) : ob s = hk.obs s.abs := He.obsX_eq (HandSHeadRun.getT_eq s)
theorem run (w : World) : HandSHeadRun.RunEq R (PySem.W.view R.prog [38]) hk ob 6000 looseN w := by
  intro os
  kernel_rfl
end K01
open PySem PySem.W PySem.Calls PyProof.Rows
set_option Elab.async false
set_option maxRecDepth 100000 in
set_option maxHeartbeats 0 in
theorem PySem.Challenge.cw_stringrooms_k01_whole_letters_of_plans_holds : PySem.Challenge.rw_stringrooms_k01_whole_letters_of_plans.Holds := by
  w_on; o_law
  refine HandSHeadRun.head_any (r := OpenLaw.row PySem.Challenge.rw_stringrooms_k01_whole_letters_of_plans) (q := view (OpenLaw.row PySem.Challenge.rw_stringrooms_k01_whole_letters_of_plans).prog [38]) (H := K01.hk) (ob := K01.ob) (M := 6000) (loose := K01.looseN) (d := HandSHeadRun.topDef (OpenLaw.row PySem.Challenge.rw_stringrooms_k01_whole_letters_of_plans).prog 38) (kwd := []) K01.ob_eq
    (by kernel_rfl) (fun s => by kernel_rfl) K01.run (by kernel_rfl) (by kernel_rfl) (by kernel_rfl) (by rfl) (by first | assumption | decide +kernel) (by decide +kernel) ⟨rfl, rfl, rfl, rfl, rfl, by decide +kernel⟩ ?hw ?hc
  case hw => w_witness2
  case hc =>
    refine Ev.walk_G (l := PySem.Challenge.rw_stringrooms_k01_whole_letters_of_plans) (n := 63) (N := 12) (i := 36) (ds := K01.ds) (pars := K01.pars) (kcs := K01.kcs) (dl := K01.d36) (x := "script") rfl (by decide) (by kernel_rfl) ⟨rfl, by decide, by decide⟩ rfl rfl (by kernel_rfl) (by kernel_rfl) K01.hD K01.hck ?F K01.run_law
    intro w mg h Y G
    obtain ⟨K, KX, c⟩ := Y
    exact ⟨K, _, _, Ev.headG_of (by kernel_rfl) KX G c⟩
