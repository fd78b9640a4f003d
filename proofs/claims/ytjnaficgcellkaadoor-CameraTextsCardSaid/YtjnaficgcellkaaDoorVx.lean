/- A function's walk as one computation: the text of a program is read over values with open parts, memory as a list of the call's own rows and of rows that were there before; what is left to show is a plain proposition. -/
import Derived.Handy
import Derived.OrdersHeld
import Derived.Maps.AppendAt
import Derived.Laws.OwnMore
set_option linter.unusedSimpArgs false
set_option linter.unusedVariables false
namespace Go.Proofs.YtjnaficgcellkaaDoor
open Go.RowKit

structure Ow where
  a : Option Addr
  n : Nat
  cap : Nat
  size : Nat
structure RowT where
  el : TypeId
  size : Nat
  n : Nat
  cells : List Value
def bk : Option Addr → Nat
  | some q => q.block
  | none => 0
def ofs : Option Addr → Nat
  | some q => q.off
  | none => 0
def AOK (a : Option Addr) (n : Nat) : Prop := (a = none → n = 0) ∧ (n ≠ 0 → ∀ q, a = some q → q.spot = none)
/-- Where a walk stands: the world that the library's variables are known of, the world at its start, and the blocks that were there and may be changed. -/
structure Bs extends World where
  w1 : World
  X : Nat → Prop
instance : Coe Bs World := ⟨Bs.toWorld⟩
/-- A thing in memory that is known by a predicate alone, and the blocks that it rests on. -/
structure Gh where
  rw : Bool
  dep : Nat → Prop
  ok : World → Prop
  lt : ∀ w : World, ok w → ∀ k, dep k → k < w.heap.size
  same : ∀ w w' : World, ok w → (∀ k, dep k → w'.heap[k]? = w.heap[k]?) → ok w'
/-- The same, only to be read. -/
def Gh.ro (g : Gh) : Gh := ⟨false, g.dep, g.ok, g.lt, g.same⟩
/-- It says nothing yet. -/
def GhNil (g : Gh) : Prop := ∀ w : World, g.ok w ∧ ∀ k, ¬ g.dep k
/-- What a cell holds by it. -/
def GhC (g : Gh) (a : Addr) (v : Value) : Prop := ∀ w : World, g.ok w → w.cell? a = some v
class GhB where
  g : Option Gh
instance ghB0 : GhB := ⟨none⟩
structure Ob where
  blk : Nat
  cells : List Value
  el : TypeId
  ow : Option Ow := none
  [gh : GhB]
structure Ex where
  blk : Nat
  get : Nat → Option Value
  P : World → Prop := fun _ => True
  hP : ∀ w w' : World, P w → Below w.heap.size w w' → P w' := by intros; trivial
structure LoopR : Type 1 where
  α : Type
  ps : α → List (Nat × Value)
  idx : List Nat
  ob : α → List Ob
  inv : α → Prop
  mu : α → Nat
  pre : List (TypeId × Nat)
inductive Hint : Type 1 where
  | nil
  | ob (i : Nat) (h : Hint)
  | obv (i : Nat) (v : Value) (h : Hint)
  | ex (i : Nat) (v : Value) (h : Hint)
  | lit (h : Hint)
  | split (h1 h2 : Hint)
  | known (b : Bool) (h : Hint)
  | spec (v : Value) (h : Hint)
  | inl (h : Hint)
  | draw (st1 : List Nat) (k0 : Option Nat) (st0 : List Nat) (h : Hint)
  | drawf (F st : List Nat) (h : Hint)
  | mk (ys : List Value) (h : Hint)
  | appe (i j : Nat) (h : Hint)
  | ck (h : Hint)
  | take (i : Nat) (h : Hint)
  | br (h1 h2 : Hint)
  | done (h : Hint)
  | rounds (n : Nat) (h : Hint)
  | sem (t : Sem Next) (h : Hint)
  | pl (h : Hint)
  | cut (ps : List (Nat × Value)) (h1 h2 : Hint)
  | nc (h : Hint)
  | no
  | ix (h : Hint)
  | ccut (v : Value) (h1 h2 : Hint)
  | spece (v : Value) (h : Hint)
  | specm (el : TypeId) (size n : Nat) (xs : List Value) (h : Hint)
  | specms (el : TypeId) (size n : Nat) (xs : List Value) (h : Hint)
  | specs (el : TypeId) (size n : Nat) (xs : List Value) (h1 h2 : Hint)
  | app (i j : Nat) (h : Hint)
  | appn (j : Nat) (h : Hint)
  | inv (l : LoopR) (hb : l.α → Hint)
  | invg (l : LoopR) (he : Hint) (hb : l.α → Hint)
  | specl (el : TypeId) (size n : Nat) (xs : List Value) (h : Hint)
  | lst (i k : Nat) (v : Value) (h : Hint)
  | sto (i k : Nat) (ys : List Value) (h : Hint)
  | specg (E0 : List Ex) (srcs : List Nat) (xss : List (List Value)) (rows : List RowT) (v : List (Option Addr × Nat) → List (Option Addr × Nat) → Value) (h : Hint)
  | perm (js : List Nat) (h : Hint)
  | apl (i j : Nat) (ys : List Value) (h : Hint)
  | apn (j : Nat) (ys : List Value) (h : Hint)
  | osf (g : List (Option Addr × Nat) → Hint)
  | osc (g : List (Option Addr × Nat) → Hint)
  | ghl (i : Nat) (v : Value) (h : Hint)
  | ghs (i : Nat) (g : Gh) (h : Hint)
  | gho (is : List Nat) (q : Ob) (h : Hint)
  | specc (E0 : List Ex) (rds : List (Option Addr × List Value)) (ghs : List Gh) (ins : List Ob) (α : Type) (inv : α → Prop) (outs : α → List Ob) (v : α → Value) (srcs gsrc js : List Nat) (hb : α → Hint)
  | specn (E0 : List Ex) (srcs : List Nat) (xss : List (List Value)) (ns : List Nat) (rows : List (Option Addr × Nat) → List RowT) (v : List (Option Addr × Nat) → List (Option Addr × Nat) → Value) (h : Hint)

structure SS where
  tmps : List Value
  objs : List Ob

def lget : List Value → Nat → Value
  | [], _ => undef
  | v :: _, 0 => v
  | _ :: l, n + 1 => lget l n
def lset : List Value → Nat → Value → List Value
  | [], _, _ => []
  | _ :: l, 0, v => v :: l
  | x :: l, n + 1, v => x :: lset l n v
def lgo {α : Type} : List α → Nat → Option α
  | [], _ => none
  | v :: _, 0 => some v
  | _ :: l, n + 1 => lgo l n
def oset : List Ob → Nat → Nat → Value → List Ob
  | [], _, _, _ => []
  | o :: l, 0, k, v => ⟨o.blk, lset o.cells k v, o.el, o.ow⟩ :: l
  | o :: l, n + 1, k, v => o :: oset l n k v
def lput (l : List Value) (d : Option Tmp) (v : Value) : List Value :=
  match d with
  | some t => lset l t v
  | none => l
def lev (l : List Value) : Operand → Value
  | .tmp t => lget l t
  | .const v => v
  | .global g => .pointer (some ⟨g, 0, none⟩)
  | .func f => .func (.func f) #[] #[]
def oneC : Value → Prop
  | .agg _ => False
  | .tuple _ => False
  | _ => True
def mem0 : List Nat → Nat → Bool
  | [], _ => false
  | x :: l, n => Nat.beq x n || mem0 l n
def app1 {α : Type} : List α → α → List α
  | [], x => [x]
  | y :: l, x => y :: app1 l x

theorem lget_eq (l : List Value) (n : Nat) : lget l n = l.getD n undef := by
  induction l generalizing n with
  | nil => simp [lget]
  | cons a l ih => cases n <;> simp [lget, ih]
theorem lset_eq (l : List Value) (n : Nat) (v : Value) : lset l n v = l.set n v := by
  induction l generalizing n with
  | nil => simp [lset]
  | cons a l ih => cases n <;> simp [lset, ih]
theorem lgo_eq {α : Type} (l : List α) (n : Nat) : lgo l n = l[n]? := by
  induction l generalizing n with
  | nil => simp [lgo]
  | cons a l ih => cases n <;> simp [lgo, ih]
theorem app1_eq {α : Type} (l : List α) (x : α) : app1 l x = l ++ [x] := by
  induction l with
  | nil => rfl
  | cons a l ih => simp [app1, ih]
theorem oset_eq (l : List Ob) (n k : Nat) (v : Value) : oset l n k v = l.modify n (fun o => ⟨o.blk, lset o.cells k v, o.el, o.ow⟩) := by
  induction l generalizing n with
  | nil => simp [oset]
  | cons a l ih => cases n <;> simp [oset, ih]
theorem mem0_iff {l : List Nat} {n : Nat} : mem0 l n = true ↔ n ∈ l := by
  induction l with
  | nil => simp [mem0]
  | cons a l ih => simp [mem0, ih]; constructor <;> (rintro (h | h) <;> simp [h])

/-! Values and lists are reckoned at once, not handed on unreckoned: each word is 'K' at its value. -/
def kV0 (v : Value) (K : Value → Prop) : Prop :=
  match v with
  | .bool b => K (.bool b)
  | .int k n => K (.int k n)
  | .float k b => K (.float k b)
  | .complex k a b => K (.complex k a b)
  | .string s => K (.string s)
  | .pointer a => K (.pointer a)
  | .slice a l c => K (.slice a l c)
  | .map r => K (.map r)
  | .chan r => K (.chan r)
  | .func fn x y => K (.func fn x y)
  | .nilFunc => K .nilFunc
  | .iface t v => K (.iface t v)
  | .nilIface => K .nilIface
  | .agg c => K (.agg c)
  | .tuple c => K (.tuple c)
def kL (f : Value → (Value → Prop) → Prop) : List Value → (List Value → Prop) → Prop
  | [], K => K []
  | v :: l, K => f v fun v' => kL f l fun l' => K (v' :: l')
def kId (v : Value) (K : Value → Prop) : Prop := K v
def kV1 (v : Value) (K : Value → Prop) : Prop :=
  kV0 v fun v' =>
    match v' with
    | .agg c => kL kV0 c.toList fun l => K (.agg l.toArray)
    | .func fn x y => kL kV0 x.toList fun l => kL kV0 y.toList fun m => K (.func fn l.toArray m.toArray)
    | w => K w
def kV (v : Value) (K : Value → Prop) : Prop :=
  kV1 v fun v' =>
    match v' with
    | .tuple c => kL kV1 c.toList fun l => K (.tuple l.toArray)
    | w => K w
def kSet : List Value → Nat → Value → (List Value → Prop) → Prop
  | [], _, _, K => K []
  | _ :: l, 0, v, K => K (v :: l)
  | x :: l, n + 1, v, K => kSet l n v fun l' => K (x :: l')
def kPut (l : List Value) (d : Option Tmp) (v : Value) (K : List Value → Prop) : Prop :=
  match d with
  | some t => kV v fun v' => kSet l t v' K
  | none => K l
def kOset : List Ob → Nat → Nat → Value → (List Ob → Prop) → Prop
  | [], _, _, _, K => K []
  | o :: l, 0, k, v, K => kSet o.cells k v fun c => K (⟨o.blk, c, o.el, o.ow⟩ :: l)
  | o :: l, n + 1, k, v, K => kOset l n k v fun l' => K (o :: l')
def kApp {α : Type} : List α → α → (List α → Prop) → Prop
  | [], x, K => K [x]
  | y :: l, x, K => kApp l x fun l' => K (y :: l')

theorem kId_eq (v : Value) (K : Value → Prop) : kId v K = K v := rfl
theorem kV0_eq (v : Value) (K : Value → Prop) : kV0 v K = K v := by cases v <;> rfl
theorem kL_eq {f : Value → (Value → Prop) → Prop} (hf : ∀ v K, f v K = K v) (l : List Value) (K : List Value → Prop) : kL f l K = K l := by
  induction l generalizing K with
  | nil => rfl
  | cons v l ih => simp [kL, hf, ih]
theorem kV1_eq (v : Value) (K : Value → Prop) : kV1 v K = K v := by
  unfold kV1
  rw [kV0_eq]
  cases v <;> simp [kL_eq kV0_eq]
theorem kV_eq (v : Value) (K : Value → Prop) : kV v K = K v := by
  unfold kV
  rw [kV1_eq]
  cases v <;> simp [kL_eq kV1_eq]
theorem kSet_eq (l : List Value) (n : Nat) (v : Value) (K : List Value → Prop) : kSet l n v K = K (lset l n v) := by
  induction l generalizing n K with
  | nil => simp [kSet, lset]
  | cons a l ih => cases n <;> simp [kSet, lset, ih]
theorem kPut_eq (l : List Value) (d : Option Tmp) (v : Value) (K : List Value → Prop) : kPut l d v K = K (lput l d v) := by
  cases d <;> simp [kPut, lput, kV_eq, kSet_eq]
theorem kOset_eq (l : List Ob) (n k : Nat) (v : Value) (K : List Ob → Prop) : kOset l n k v K = K (oset l n k v) := by
  induction l generalizing n K with
  | nil => simp [kOset, oset]
  | cons a l ih => cases n <;> simp [kOset, oset, ih, kSet_eq]
theorem kApp_eq {α : Type} (l : List α) (x : α) (K : List α → Prop) : kApp l x K = K (app1 l x) := by
  induction l generalizing K with
  | nil => rfl
  | cons a l ih => simp [kApp, app1, ih]

def sp0 (a : Addr) (p : Prop) : Prop := match a.spot with | none => p | some _ => False
theorem sp0_ok {a : Addr} {p : Prop} (h : sp0 a p) : a.spot = none ∧ p := by
  unfold sp0 at h
  split at h
  · rename_i e; exact ⟨e, h⟩
  · exact h.elim
def askOb (h : Hint) (a : Addr) (os : List Ob) (K : Nat → Ob → Hint → Prop) : Prop :=
  match h with
  | .ob i h' =>
    match lgo os i with
    | some o => (match o.ow with | none => sp0 a (a.block = o.blk ∧ K i o h') | some _ => False)
    | none => False
  | _ => False
def rowAt (o : Ob) (a : Addr) (p : Prop) : Prop :=
  match o.ow with
  | none => sp0 a (a.block = o.blk ∧ p)
  | some w => match w.size with | 0 => False | _ + 1 => (match w.a with | some q => sp0 a (a.block = q.block ∧ p) | none => False)
def listAt (o : Ob) (a : Addr) (k : Nat) (p : Prop) : Prop :=
  match o.ow with
  | some v => sp0 a (a.block = bk v.a ∧ a.off = ofs v.a + k ∧ p)
  | none => False
def askLoad (E : List Ex) (h : Hint) (a : Addr) (os : List Ob) (K : Value → Hint → Prop) : Prop :=
  match h with
  | .ob i h' =>
    match lgo os i with
    | some o => rowAt o a (match lgo o.cells a.off with | some v => K v h' | none => False)
    | none => False
  | .obv i v h' =>
    match lgo os i with
    | some o => rowAt o a (lgo o.cells a.off = some v ∧ K v h')
    | none => False
  | .lst i k v h' =>
    match lgo os i with
    | some o => listAt o a k (lgo o.cells k = some v ∧ K v h')
    | none => False
  | .ex i v h' =>
    match lgo E i with
    | some o => sp0 a (a.block = o.blk ∧ o.get a.off = some v ∧ K v h')
    | none => False
  | .ghl i v h' =>
    match lgo os i with
    | some o => (match o.gh.g with | some g => GhC g a v ∧ K v h' | none => False)
    | none => False
  | _ => False
def askBool (h : Hint) (b : Bool) (K : Bool → Hint → Prop) : Prop :=
  match h with
  | .lit h' => (match b with | true => K true h' | false => K false h')
  | .split h1 h2 => (b = true → (match h1 with | .no => False | h => K true h)) ∧ (b = false → (match h2 with | .no => False | h => K false h))
  | .known v h' => b = v ∧ (match v with | true => K true h' | false => K false h')
  | _ => False

def SpecP (P : Program) (f : FuncId) (args : Array Value) (v : Value) : Prop := ∀ w, Calls P f args w fun e w' => e = .returned v ∧ Below w.heap.size w w'
def SpecL (P : Program) (f : FuncId) (args : Array Value) (el : TypeId) (size n : Nat) (xs : List Value) : Prop :=
  ∀ w, Calls P f args w fun e w' => ∃ a cap, e = .returned (.slice a n cap) ∧ w'.ownsRow w.heap.size el size (.slice a n cap) n xs ∧ Below w.heap.size w w'
def ExtOK (E : List Ex) (w : World) : Prop := ∀ e ∈ E, (∀ off v, e.get off = some v → w.cell? ⟨e.blk, off, none⟩ = some v) ∧ e.P w
def SpecQ (P : Program) (E : List Ex) (f : FuncId) (args : Array Value) (v : Value) : Prop := ∀ w, ExtOK E w → Calls P f args w fun e w' => e = .returned v ∧ Below w.heap.size w w'
def SpecM (P : Program) (E : List Ex) (f : FuncId) (args : Array Value) (el : TypeId) (size n : Nat) (xs : List Value) : Prop :=
  ∀ w, ExtOK E w → Calls P f args w fun e w' => ∃ a cap, e = .returned (.slice a n cap) ∧ w'.ownsRow w.heap.size el size (.slice a n cap) n xs ∧ Below w.heap.size w w'
def Rd (w : World) (a : Option Addr) (xs : List Value) : Prop := ∀ k v, xs[k]? = some v → w.cell? ⟨bk a, ofs a + k, none⟩ = some v
def Ob.ok0 (base : Nat) (o : Ob) (w : World) : Prop :=
  match o.ow with
  | none => base ≤ o.blk ∧ w.heap[o.blk]? = some (.cells o.cells.toArray o.el (0, 0))
  | some v => match v.size with
    | 0 => Rd w v.a o.cells
    | _ + 1 => w.ownsRow base o.el v.size (.slice v.a v.n v.cap) v.n o.cells
def Ob.key (o : Ob) : Option Nat :=
  match o.ow with
  | none => some o.blk
  | some v => match v.size with
    | 0 => none
    | _ + 1 => v.a.map (·.block)
def Ob.dep0 (o : Ob) (k : Nat) : Prop :=
  match o.ow with
  | none => k = o.blk
  | some v => match v.size with
    | 0 => o.cells ≠ [] ∧ k = bk v.a
    | _ + 1 => v.a.map (·.block) = some k
def GhB.ok (g : GhB) (base : Nat) (w : World) : Prop :=
  match g.g with
  | none => True
  | some h => h.ok w ∧ (h.rw = true → ∀ k, h.dep k → base ≤ k)
def GhB.dep (g : GhB) (k : Nat) : Prop :=
  match g.g with
  | none => False
  | some h => h.dep k
def GhB.own (g : GhB) (k : Nat) : Prop :=
  match g.g with
  | none => False
  | some h => h.rw = true ∧ h.dep k
def Ob.ok (base : Nat) (o : Ob) (w : World) : Prop := o.ok0 base w ∧ o.gh.ok base w
def Ob.dep (o : Ob) (k : Nat) : Prop := o.dep0 k ∨ o.gh.dep k
def Ob.kp (o : Ob) (k : Nat) : Prop := o.key = some k ∨ o.gh.own k
def Chg (X : Nat → Prop) (w w' : World) : Prop := w.heap.size ≤ w'.heap.size ∧ ∀ k, k < w.heap.size → ¬ X k → w'.heap[k]? = w.heap[k]?
def obsOf : List RowT → List (Option Addr × Nat) → List Ob
  | r :: rs, p :: ads => ⟨0, r.cells, r.el, some ⟨p.1, r.n, p.2, r.size⟩⟩ :: obsOf rs ads
  | _, _ => []
structure OwnsL (base : Nat) (rows : List RowT) (ads : List (Option Addr × Nat)) (w : World) : Prop where
  len : ads.length = rows.length
  ok : ∀ (i : Nat) (o : Ob), (obsOf rows ads)[i]? = some o → o.ok base w ∧ (∀ k, o.dep k → base ≤ k) ∧ ∀ u, o.ow = some u → AOK u.a u.n ∧ u.n ≤ u.cap
  apart : ∀ (i j : Nat) (o p : Ob) (k : Nat), (obsOf rows ads)[i]? = some o → (obsOf rows ads)[j]? = some p → o.kp k → p.dep k → i = j
/-- A contract that may change rows of the caller's, and give what is known by predicates alone. -/
def SpecC (P : Program) (E : List Ex) (rds : List (Option Addr × List Value)) (ghs : List Gh) (ins : List Ob) (f : FuncId) (args : Array Value) (α : Type) (inv : α → Prop) (outs : α → List Ob) (v : α → Value) : Prop :=
  ∀ w0 w : World, Below w0.heap.size w0 w → ExtOK E w0 → (∀ a xs, (a, xs) ∈ rds → Rd w a xs) → (∀ g, g ∈ ghs → g.ok w) → (∀ o, o ∈ ins → o.ok w0.heap.size w) →
    (∀ (i j : Nat) (o p : Ob) (k : Nat), ins[i]? = some o → ins[j]? = some p → o.kp k → p.dep k → i = j) →
    (∀ o, o ∈ ins → ∀ k, o.kp k → (∀ a xs, (a, xs) ∈ rds → xs ≠ [] → k ≠ bk a) ∧ ∀ g, g ∈ ghs → ¬ g.dep k) →
    Calls P f args w fun e w' => ∃ x, inv x ∧ e = .returned (v x) ∧ Below w0.heap.size w0 w' ∧ Chg (fun k => ∃ o, o ∈ ins ∧ o.kp k) w w' ∧
      (∀ o, o ∈ outs x → o.ok w0.heap.size w' ∧ (∀ k, o.dep k → (∃ p, p ∈ ins ∧ p.kp k) ∨ w.heap.size ≤ k)) ∧
      (∀ (i j : Nat) (o p : Ob) (k : Nat), (outs x)[i]? = some o → (outs x)[j]? = some p → o.kp k → p.dep k → i = j)
def SpecG (P : Program) (E : List Ex) (rds : List (Option Addr × List Value)) (f : FuncId) (args : Array Value) (rows : List RowT) (v : List (Option Addr × Nat) → Value) : Prop :=
  ∀ w, ExtOK E w → (∀ a xs, (a, xs) ∈ rds → Rd w a xs) → Calls P f args w fun e w' => ∃ ads, e = .returned (v ads) ∧ OwnsL w.heap.size rows ads w' ∧ Below w.heap.size w w'
/-- A contract whose rows name where other rows of its own lie. -/
def SpecN (P : Program) (E : List Ex) (rds : List (Option Addr × List Value)) (f : FuncId) (args : Array Value) (ns : List Nat) (rows : List (Option Addr × Nat) → List RowT) (v : List (Option Addr × Nat) → Value) : Prop :=
  ∀ w, ExtOK E w → (∀ a xs, (a, xs) ∈ rds → Rd w a xs) → Calls P f args w fun e w' => ∃ ads, e = .returned (v ads) ∧ ads.length = ns.length ∧ (∀ (i n : Nat) (p : Option Addr × Nat), ns[i]? = some n → ads[i]? = some p → AOK p.1 n ∧ n ≤ p.2) ∧ OwnsL w.heap.size (rows ads) ads w' ∧ Below w.heap.size w w'
/-- What list can be read by it. -/
def GhR (g : Gh) (a : Option Addr) (xs : List Value) : Prop := ∀ w : World, g.ok w → Rd w a xs
def kRds : List Ob → List Nat → List (List Value) → (List (Option Addr × List Value) → List (Option Addr × Nat) → Prop) → Prop
  | os, i :: is, xs :: xss, K =>
    match lgo os i with
    | some o =>
      (match o.gh.g with
      | some g => (match xs with
        | .slice a _ _ :: ys => GhR g a ys ∧ kRds os is xss fun rds ads => K ((a, ys) :: rds) ((a, 0) :: ads)
        | _ => False)
      | none => match o.ow with
      | some u => o.cells = xs ∧ kRds os is xss fun rds ads => K ((u.a, xs) :: rds) ((u.a, u.cap) :: ads)
      | none => o.cells = xs ∧ kRds os is xss fun rds ads => K ((some ⟨o.blk, 0, none⟩, xs) :: rds) ((some ⟨o.blk, 0, none⟩, 0) :: ads))
    | none => xs = [] ∧ kRds os is xss fun rds ads => K ((none, xs) :: rds) ((none, 0) :: ads)
  | _, [], [], K => K [] []
  | _, _, _, _ => False
def kNew : List RowT → (List (Option Addr × Nat) → List Ob → Prop) → Prop
  | [], K => K [] []
  | r :: rs, K => ∀ (a : Option Addr) (cap : Nat), AOK a r.n → r.n ≤ cap → kNew rs fun ads obs => K ((a, cap) :: ads) (⟨0, r.cells, r.el, some ⟨a, r.n, cap, r.size⟩⟩ :: obs)
def kAppL {α : Type} : List α → List α → (List α → Prop) → Prop
  | [], l, K => K l
  | x :: r, l, K => kAppL r l fun l' => K (x :: l')
def kAds : List Nat → (List (Option Addr × Nat) → Prop) → Prop
  | [], K => K []
  | n :: ns, K => ∀ (a : Option Addr) (cap : Nat), AOK a n → n ≤ cap → kAds ns fun ads => K ((a, cap) :: ads)
def kObs : List RowT → List (Option Addr × Nat) → (List Ob → Prop) → Prop
  | r :: rs, p :: ads, K => kObs rs ads fun obs => K (⟨0, r.cells, r.el, some ⟨p.1, r.n, p.2, r.size⟩⟩ :: obs)
  | _, _, K => K []
theorem kObs_eq (rows : List RowT) (ads : List (Option Addr × Nat)) (K : List Ob → Prop) : kObs rows ads K = K (obsOf rows ads) := by
  induction rows generalizing ads K with
  | nil => simp [kObs, obsOf]
  | cons r rs ih => cases ads <;> simp [kObs, obsOf, ih]
theorem kAds_ok {ns : List Nat} {K : List (Option Addr × Nat) → Prop} (h : kAds ns K) {ads : List (Option Addr × Nat)} (hl : ads.length = ns.length) (ha : ∀ (i n : Nat) (p : Option Addr × Nat), ns[i]? = some n → ads[i]? = some p → AOK p.1 n ∧ n ≤ p.2) : K ads := by
  induction ns generalizing K ads with
  | nil =>
    cases ads with
    | nil => exact h
    | cons p l => simp at hl
  | cons n ns ih =>
    cases ads with
    | nil => simp at hl
    | cons p ads =>
      simp only [kAds] at h
      have h0 := ha 0 n p rfl rfl
      exact ih (h p.1 p.2 h0.1 h0.2) (by simpa using hl) fun i m q hm hq => ha (i + 1) m q (by simpa using hm) (by simpa using hq)
def obset : List Ob → Nat → Ob → List Ob
  | [], _, _ => []
  | _ :: l, 0, o => o :: l
  | p :: l, n + 1, o => p :: obset l n o
theorem obset_eq (l : List Ob) (n : Nat) (o : Ob) : obset l n o = l.set n o := by
  induction l generalizing n with
  | nil => simp [obset]
  | cons a l ih => cases n <;> simp [obset, ih]
def kObset : List Ob → Nat → Ob → (List Ob → Prop) → Prop
  | [], _, _, K => K []
  | _ :: l, 0, o, K => K (o :: l)
  | p :: l, n + 1, o, K => kObset l n o fun l' => K (p :: l')
theorem kObset_eq (l : List Ob) (n : Nat) (o : Ob) (K : List Ob → Prop) : kObset l n o K = K (obset l n o) := by
  induction l generalizing n K with
  | nil => simp [kObset, obset]
  | cons a l ih => cases n <;> simp [kObset, obset, ih]
def weakP0 (p o : Ob) : Prop :=
  match o.ow with
  | none => p.blk = o.blk ∧ p.cells = o.cells ∧ p.el = o.el ∧ p.ow = o.ow
  | some u => match u.size with
    | 0 => (match p.ow with | none => u.a = some ⟨p.blk, 0, none⟩ ∧ p.cells = o.cells | some x => x.a = u.a ∧ p.cells = o.cells)
    | _ + 1 => (match p.ow with | none => (match p.cells with | [] => p.el = o.el ∧ p.cells = [] ∧ o.cells = [] ∧ u.n = 0 ∧ u.cap = 0 ∧ u.a = some ⟨p.blk, 0, none⟩ | _ :: _ => p.el = o.el ∧ p.cells = o.cells ∧ o.cells.length = u.n * u.size ∧ u.cap = u.n ∧ u.n ≤ 1048576 ∧ u.a = some ⟨p.blk, 0, none⟩) | some x => p.blk = o.blk ∧ p.cells = o.cells ∧ p.el = o.el ∧ p.ow = o.ow)
def weakP (p o : Ob) : Prop :=
  match o.gh.g with
  | some g => (match p.gh.g with
    | some g' => g' = g ∧ weakP0 p o
    | none => weakP0 p o ∧ GhNil g)
  | none => weakP0 p o
def rowsAre (os : List Ob) : List Nat → List Ob → Prop
  | i :: is, o :: l => (match lgo os i with | some p => weakP p o | none => False) ∧ rowsAre os is l
  | [], [] => True
  | _, _ => False
def GhD (g : Gh) (a : Option Addr) (xs : List Value) : Prop := xs ≠ [] → g.dep (bk a)
def rdP (o : Ob) (a : Option Addr) (xs : List Value) : Prop :=
  match o.gh.g with
  | some g => GhR g a xs ∧ GhD g a xs
  | none => match o.ow with
    | some u => a = u.a ∧ o.cells = xs
    | none => a = some ⟨o.blk, 0, none⟩ ∧ o.cells = xs
def rdsAre (os : List Ob) : List Nat → List (Option Addr × List Value) → Prop
  | i :: is, r :: l => (match lgo os i with | some o => rdP o r.1 r.2 | none => r.2 = []) ∧ rdsAre os is l
  | [], [] => True
  | _, _ => False
def ghsAre (os : List Ob) : List Nat → List Gh → Prop
  | i :: is, g :: l => (match lgo os i with | some o => (match o.gh.g with | some g' => g'.ro = g.ro | none => False) | none => False) ∧ ghsAre os is l
  | [], [] => True
  | _, _ => False
def noneIn : List Nat → List Nat → Bool
  | [], _ => true
  | x :: l, m => !(mem0 m x) && noneIn l m
def nodupB : List Nat → Bool
  | [] => true
  | x :: l => !(mem0 l x) && nodupB l
def nilOb (p : TypeId × Nat) : Ob := ⟨0, [], p.1, some ⟨none, 0, 0, p.2⟩⟩
/-- Rows that were given away: nothing is known of them any more. -/
def goneOb (os : List Ob) (j : Nat) : Ob :=
  match lgo os j with
  | some o => (match o.ow with | some u => nilOb (o.el, u.size) | none => nilOb (o.el, 1))
  | none => nilOb (0, 1)
def kGone : List Ob → List Nat → (List Ob → Prop) → Prop
  | os, [], K => K os
  | os, j :: js, K => kObset os j (goneOb os j) fun os' => kGone os' js K
def gone : List Ob → List Nat → List Ob
  | os, [] => os
  | os, j :: js => gone (obset os j (goneOb os j)) js
theorem goneOb_nil (os : List Ob) (j : Nat) : ∃ p, goneOb os j = nilOb p := by
  unfold goneOb
  split
  · split
    · exact ⟨_, rfl⟩
    · exact ⟨_, rfl⟩
  · exact ⟨_, rfl⟩
theorem kGone_eq (os : List Ob) (js : List Nat) (K : List Ob → Prop) : kGone os js K = K (gone os js) := by
  induction js generalizing os with
  | nil => rfl
  | cons j js ih => simp [kGone, gone, kObset_eq, ih]
def obsAt (os : List Ob) : List Nat → Option (List Ob)
  | [] => some []
  | i :: is => (match lgo os i with | some o => (match obsAt os is with | some l => some (o :: l) | none => none) | none => none)
/-- Some rows together are one thing. -/
def AbsP (ps : List Ob) (q : Ob) : Prop :=
  ∀ (base : Nat) (w : World), (∀ o, o ∈ ps → o.ok base w) → (∀ (i j : Nat) (o p : Ob) (k : Nat), ps[i]? = some o → ps[j]? = some p → o.kp k → p.dep k → i = j) →
    q.ok base w ∧ (∀ k, q.dep k → ∃ o, o ∈ ps ∧ o.dep k) ∧ ∀ k, q.kp k → ∃ o, o ∈ ps ∧ o.kp k
def askSpec (P : Program) (st : List Nat) (E : List Ex) (h : Hint) (f : FuncId) (args : Array Value) (os : List Ob) (K : Value → List Ob → Hint → Prop) (I : Hint → Prop) (C : Value → Hint → Prop) : Prop :=
  match h with
  | .spec v h' => SpecP P f args v ∧ K v os h'
  | .spece v h' => SpecQ P E f args v ∧ K v os h'
  | .specl el size n xs h' => SpecL P f args el size n xs ∧ ∀ a cap, kApp os ⟨0, xs, el, some ⟨a, n, cap, size⟩⟩ fun os' => K (.slice a n cap) os' h'
  | .specm el size n xs h' => SpecM P E f args el size n xs ∧ ∀ a cap, kApp os ⟨0, xs, el, some ⟨a, n, cap, size⟩⟩ fun os' => K (.slice a n cap) os' h'
  | .specms el size n xs h' => SpecM P E f args el size n xs ∧
      (match n with
      | 0 => False
      | _ + 1 => ∀ g cap, kApp os ⟨0, xs, el, some ⟨some ⟨g, 0, none⟩, n, cap, size⟩⟩ fun os' => K (.slice (some ⟨g, 0, none⟩) n cap) os' h')
  | .specs el size n xs h1 h2 => SpecL P f args el size n xs ∧ (n = 0 → kApp os ⟨0, [], el, some ⟨none, 0, 0, size⟩⟩ fun os' => K (.slice none 0 0) os' h1) ∧
      ∀ g cap, kApp os ⟨0, xs, el, some ⟨some ⟨g, 0, none⟩, n, cap, size⟩⟩ fun os' => K (.slice (some ⟨g, 0, none⟩) n cap) os' h2
  | .specg E0 srcs xss rows v h' => kRds os srcs xss fun rds as0 => SpecG P E0 rds f args rows (v as0) ∧ (∀ e ∈ E0, e ∈ E) ∧
      kNew rows fun ads obs => kAppL os obs fun os' => K (v as0 ads) os' h'
  | .specn E0 srcs xss ns rows v h' => kRds os srcs xss fun rds as0 => SpecN P E0 rds f args ns rows (v as0) ∧ (∀ e ∈ E0, e ∈ E) ∧
      kAds ns fun ads => kObs (rows ads) ads fun obs => kAppL os obs fun os' => K (v as0 ads) os' h'
  | .specc E0 rds ghs ins α inv outs v srcs gsrc js hb => SpecC P E0 rds ghs ins f args α inv outs v ∧ (∀ e ∈ E0, e ∈ E) ∧ rowsAre os js ins ∧ rdsAre os srcs rds ∧ ghsAre os gsrc ghs ∧
      (match nodupB js && noneIn js st && noneIn js srcs && noneIn js gsrc with
      | true => ∀ x, inv x → kGone os js fun os1 => kAppL os1 (outs x) fun os' => K (v x) os' (hb x)
      | false => False)
  | .ccut v h1 h2 => C v h1 ∧ K v os h2
  | .inl h' => I h'
  | _ => False
def allOne : List Value → Bool
  | [] => true
  | v :: l => v.oneCell' && allOne l
theorem allOne_mem {l : List Value} (h : allOne l = true) : ∀ u ∈ l, u.oneCell' = true := by
  induction l with
  | nil => intro u hu; cases hu
  | cons v l ih =>
    simp only [allOne, Bool.and_eq_true] at h
    intro u hu
    cases hu with
    | head => exact h.1
    | tail _ hu => exact ih h.2 u hu
def lapp {α : Type} : List α → List α → List α
  | [], l => l
  | x :: r, l => x :: lapp r l
theorem lapp_eq {α : Type} (l r : List α) : lapp l r = l ++ r := by
  induction l with
  | nil => rfl
  | cons x l ih => simp [lapp, ih]
def elOf (P : Program) (t : TypeId) : Option (TypeId × Nat × Nat) :=
  match P.underlying t with
  | some (.slice e) =>
    (match P.info? e with
    | some i =>
      (match i.zero with
      | some z => (match Nat.beq z.cells.size i.size && Nat.ble 1 i.size with | true => some (e, i.size, i.bytes) | false => none)
      | none => none)
    | none => none)
  | _ => none
def newsAt (os : List Ob) (j : Nat) (x : Value) (size : Nat) (K : List Value → Nat → Prop) : Prop :=
  match x with
  | .slice (some p) m _ =>
    match lgo os j with
    | some o =>
      match o.ow with
      | none => sp0 p (p.block = o.blk ∧ (match Nat.beq p.off 0 && Nat.beq o.cells.length (m * size) && Nat.ble 1 m && allOne o.cells with | true => K o.cells m | false => False))
      | some _ => False
    | none => False
  | _ => False
def isNil0 : List Value → Bool
  | [] => true
  | _ => false
/-- What is appended to has room for what it holds: told where the hint asks. -/
def kCk (p : Prop) (h : Hint) (K : Hint → Prop) : Prop :=
  match h with
  | .ck h1 => p → K h1
  | h => K h
theorem kCk_ok {p : Prop} {h : Hint} {K : Hint → Prop} (hp : p) (h0 : kCk p h K) : ∃ h', K h' := by
  unfold kCk at h0
  split at h0
  · exact ⟨_, h0 hp⟩
  · exact ⟨_, h0⟩
def symApp (P : Program) (st : List Nat) (s x : Value) (t : TypeId) (os : List Ob) (h : Hint) (K : Value → List Ob → Hint → Prop) : Prop :=
  match elOf P t with
  | none => False
  | some (e, size, bytes) =>
    match h with
    | .app i j h' =>
      match lgo os i with
      | some o =>
        match o.ow, s with
        | some ow, .slice a n c =>
          match Nat.beq o.el e && Nat.beq ow.size size && !(mem0 st i) with
          | true => a = ow.a ∧ n = ow.n ∧ c = ow.cap ∧ newsAt os j x size fun news m => (n + m) * (bytes + 1) ≤ 140737488355328 ∧
              ∀ g cap : Nat, kCk (n + m ≤ cap) h' fun h' => kObset os i ⟨0, lapp o.cells news, e, some ⟨some ⟨g, 0, none⟩, n + m, cap, size⟩⟩ fun os' => K (.slice (some ⟨g, 0, none⟩) (n + m) cap) os' h'
          | false => False
        | _, _ => False
      | none => False
    | .appn j h' =>
      match s with
      | .slice none n c =>
        match Nat.beq n 0 && Nat.beq c 0 with
        | true => newsAt os j x size fun news m => m * (bytes + 1) ≤ 140737488355328 ∧
            ∀ g cap : Nat, kCk (m ≤ cap) h' fun h' => kApp os ⟨0, news, e, some ⟨some ⟨g, 0, none⟩, m, cap, size⟩⟩ fun os' => K (.slice (some ⟨g, 0, none⟩) m cap) os' h'
        | false => False
      | _ => False
    | .appe i j h' =>
      match lgo os i, s with
      | some o, .slice a n c =>
        match o.ow, Nat.beq o.el e && Nat.beq o.cells.length (n * size) && Nat.beq n c && Nat.ble n 1000000 && !(mem0 st i) with
        | none, true => a = some ⟨o.blk, 0, none⟩ ∧ newsAt os j x size fun news m => (n + m) * (bytes + 1) ≤ 140737488355328 ∧
            ∀ g cap : Nat, kCk (n + m ≤ cap) h' fun h' => kObset os i ⟨0, lapp o.cells news, e, some ⟨some ⟨g, 0, none⟩, n + m, cap, size⟩⟩ fun os' => K (.slice (some ⟨g, 0, none⟩) (n + m) cap) os' h'
        | _, _ => False
      | _, _ => False
    | .apl i j ys h' =>
      match lgo os i, lgo os j, s, x with
      | some o, some q, .slice a n c, .slice b m _ =>
        (match q.ow, mem0 st i with
        | some qw, false =>
          b = qw.a ∧ AOK b m ∧ q.cells.length = m * size ∧ (∀ u ∈ q.cells, u.oneCell' = true) ∧ (n + m) * (bytes + 1) ≤ 140737488355328 ∧ lapp o.cells q.cells = ys ∧
          (match o.ow with
          | some ow => (match Nat.beq o.el e && Nat.beq ow.size size with
            | true => a = ow.a ∧ n = ow.n ∧ c = ow.cap ∧ ∀ (a' : Option Addr) (cap : Nat), AOK a' (n + m) → kObset os i ⟨0, ys, e, some ⟨a', n + m, cap, size⟩⟩ fun os' => K (.slice a' (n + m) cap) os' h'
            | false => False)
          | none => (match Nat.beq o.el e && isNil0 o.cells && Nat.beq n 0 && Nat.beq c 0 with
            | true => a = some ⟨o.blk, 0, none⟩ ∧ ∀ (a' : Option Addr) (cap : Nat), AOK a' m → kObset os i ⟨0, ys, e, some ⟨a', m, cap, size⟩⟩ fun os' => K (.slice a' m cap) os' h'
            | false => False))
        | _, _ => False)
      | _, _, _, _ => False
    | .apn j ys h' =>
      match lgo os j, s, x with
      | some q, .slice none n c, .slice b m _ =>
        (match q.ow, Nat.beq n 0 && Nat.beq c 0 with
        | some qw, true =>
          b = qw.a ∧ AOK b m ∧ q.cells.length = m * size ∧ (∀ u ∈ q.cells, u.oneCell' = true) ∧ m * (bytes + 1) ≤ 140737488355328 ∧ q.cells = ys ∧
          ∀ (a' : Option Addr) (cap : Nat), AOK a' m → kApp os ⟨0, ys, e, some ⟨a', m, cap, size⟩⟩ fun os' => K (.slice a' m cap) os' h'
        | _, _ => False)
      | _, _, _ => False
    | _ => False
/-- A row that is known by a predicate alone. -/
def ghOb (el : TypeId) (g : Gh) : Ob := @Ob.mk 0 [] el (some ⟨none, 0, 0, 0⟩) ⟨some g⟩
def ghStoP (g : Gh) (a : Addr) (v : Value) (g' : Gh) : Prop :=
  g'.rw = true ∧ (∀ k, g'.dep k → g.dep k) ∧ g.dep a.block ∧ ∀ w : World, g.ok w → (∃ u, w.cell? a = some u) ∧ w.frozen? a = false ∧ g'.ok (w.setCell a v)
def askSto (st : List Nat) (h : Hint) (a : Addr) (v : Value) (os : List Ob) (K : List Ob → Hint → Prop) : Prop :=
  match h with
  | .ob i h' =>
    match lgo os i with
    | some o => (match o.ow with
      | none => sp0 a (a.block = o.blk ∧ oneC v ∧ (match Nat.ble (a.off + 1) o.cells.length && !(mem0 st i) with
        | true => kV0 v fun v' => kOset os i a.off v' fun os' => K os' h'
        | false => False))
      | some _ => False)
    | none => False
  | .sto i k ys h' =>
    match lgo os i with
    | some o => (match o.ow with
      | some u => (match u.size with
        | 0 => False
        | _ + 1 => sp0 a (a.block = bk u.a ∧ a.off = ofs u.a + k ∧ oneC v ∧ lset o.cells k v = ys ∧ k < o.cells.length ∧ (match mem0 st i with
          | true => False
          | false => kObset os i ⟨o.blk, ys, o.el, o.ow⟩ fun os' => K os' h')))
      | none => False)
    | none => False
  | .ghs i g' h' =>
    match lgo os i with
    | some o => (match o.gh.g with
      | some g => (match g.rw, mem0 st i with
        | true, false => ghStoP g a v g' ∧ oneC v ∧ kObset os i (ghOb o.el g') fun os' => K os' h'
        | _, _ => False)
      | none => False)
    | none => False
  | _ => False
def askPerm (h : Hint) (K : List Nat → Hint → Prop) : Prop :=
  match h with
  | .perm js h' => K js h'
  | _ => False
def askGho (h : Hint) (Y : List Nat → Ob → Hint → Prop) (N : Hint → Prop) : Prop :=
  match h with
  | .gho is q h' => Y is q h'
  | h' => N h'
structure Asks where
  ob : Hint → Addr → List Ob → (Nat → Ob → Hint → Prop) → Prop
  load : List Ex → Hint → Addr → List Ob → (Value → Hint → Prop) → Prop
  loadQ : List Ex → List Nat → Hint → Addr → List Ob → (Value → Hint → Prop) → Prop
  bool : Hint → Bool → (Bool → Hint → Prop) → Prop
  sem : Sem Next → Hint → (Sem Next → Hint → Prop) → Prop
  br : Hint → (Hint → Hint → Prop) → Prop
  reg : Hint → (Hint → Prop) → (Nat → Hint → Prop) → (Hint → Prop) → Prop
  draw : Hint → (List Nat → Option Nat → List Nat → Hint → Prop) → (List Nat → List Nat → Hint → Prop) → Prop
  loop : Hint → (Nat → Hint → Prop) → ((l : LoopR) → Hint → (l.α → Hint) → Prop) → Prop
  call : Program → List Nat → List Ex → Hint → FuncId → Array Value → List Ob → (Value → List Ob → Hint → Prop) → (Hint → Prop) → (Value → Hint → Prop) → Prop
  ix : Hint → Prop → (Hint → Prop) → (Hint → Prop) → Prop
  cut : Bool → Hint → Code → SS → (Hint → Prop) → (List (Nat × Value) → Hint → Hint → Prop) → Prop
  app : Program → List Nat → Value → Value → TypeId → List Ob → Hint → (Value → List Ob → Hint → Prop) → Prop
  sto : List Nat → Hint → Addr → Value → List Ob → (List Ob → Hint → Prop) → Prop
  perm : Hint → (List Nat → Hint → Prop) → Prop
  gho : Hint → List Ob → (List Nat → Ob → Hint → Prop) → (Hint → Prop) → Prop
  mks : Hint → TypeId → Nat → List Value → Int → Int → List Ob → (Value → List Ob → Hint → Prop) → (Hint → Prop) → Prop
def askLoadQ (E : List Ex) (st : List Nat) (h : Hint) (a : Addr) (os : List Ob) (K : Value → Hint → Prop) : Prop :=
  match h with
  | .ob i h' =>
    match lgo os i with
    | some o => rowAt o a (match mem0 st i with | true => (match lgo o.cells a.off with | some v => K v h' | none => False) | false => False)
    | none => False
  | .obv i v h' =>
    match lgo os i with
    | some o => rowAt o a (lgo o.cells a.off = some v ∧ (match mem0 st i with | true => K v h' | false => False))
    | none => False
  | .lst i k v h' =>
    match lgo os i with
    | some o => listAt o a k (lgo o.cells k = some v ∧ (match mem0 st i with | true => K v h' | false => False))
    | none => False
  | .ex i v h' =>
    match lgo E i with
    | some o => sp0 a (a.block = o.blk ∧ o.get a.off = some v ∧ K v h')
    | none => False
  | .ghl i v h' =>
    match lgo os i with
    | some o => (match o.gh.g with | some g => GhC g a v ∧ (match mem0 st i with | true => K v h' | false => False) | none => False)
    | none => False
  | _ => False
def askSem (t : Sem Next) (h : Hint) (K : Sem Next → Hint → Prop) : Prop :=
  match h with
  | .pl h' => K t h'
  | .sem u h' => t = u ∧ K u h'
  | _ => False
def askBr (h : Hint) (K : Hint → Hint → Prop) : Prop :=
  match h with
  | .br h1 h2 => K h1 h2
  | _ => False
def askReg (h : Hint) (D : Hint → Prop) (T : Nat → Hint → Prop) (A : Hint → Prop) : Prop :=
  match h with
  | .done h' => D h'
  | .take i h' => T i h'
  | .pl h' => A h'
  | _ => False
def askDraw (h : Hint) (K : List Nat → Option Nat → List Nat → Hint → Prop) (K2 : List Nat → List Nat → Hint → Prop) : Prop :=
  match h with
  | .draw st1 k0 st0 h' => K st1 k0 st0 h'
  | .drawf F st h' => K2 F st h'
  | _ => False
def askLoop (h : Hint) (U : Nat → Hint → Prop) (I : (l : LoopR) → Hint → (l.α → Hint) → Prop) : Prop :=
  match h with
  | .rounds k h' => U k h'
  | .inv l hb => I l .nil hb
  | .invg l he hb => I l he hb
  | _ => False
def askCut (b : Bool) (h : Hint) (_ : Code) (_ : SS) (N : Hint → Prop) (C : List (Nat × Value) → Hint → Hint → Prop) : Prop :=
  match b with
  | true => (match h with | .cut ps h1 h2 => C ps h1 h2 | .nc h' => N h' | h' => N h')
  | false => N h
def askIx (h : Hint) (p : Prop) (Y N : Hint → Prop) : Prop :=
  match h with
  | .ix h' => p ∧ Y h'
  | h' => N h'
/-- The cells of n elements that are alike. -/
def repC (n : Nat) : List Value → List Value
  | [v] => List.replicate n v
  | zs => (List.replicate n zs).flatten
def askMk (h : Hint) (e : TypeId) (bytes : Nat) (z : List Value) (l c : Int) (os : List Ob) (K : Value → List Ob → Hint → Prop) (N : Hint → Prop) : Prop :=
  match h with
  | .mk ys h' => (0 ≤ l ∧ l = c ∧ (bytes + 1 : Int) * l ≤ 281474976710656 ∧ repC l.toNat z = ys) ∧
      ∀ (a : Option Addr) (cap : Nat), AOK a l.toNat → kApp os ⟨0, ys, e, some ⟨a, l.toNat, cap, z.length⟩⟩ fun os' => K (.slice a l.toNat cap) os' h'
  | h' => N h'
/-! A hint may name where the rows lie: it is given over them. -/
def adO : List Ob → List (Option Addr × Nat)
  | [] => []
  | o :: l => (match o.ow with | none => (some ⟨o.blk, 0, none⟩, 0) | some w => (w.a, w.cap)) :: adO l
def nthO : List (Option Addr × Nat) → Nat → Option Addr × Nat
  | [], _ => (none, 0)
  | p :: _, 0 => p
  | _ :: l, n + 1 => nthO l n
def hO (h : Hint) (os : List Ob) : Hint :=
  match h with
  | .osf g => g (adO os)
  | h => h
def hC (h : Hint) (os : List Ob) : Hint :=
  match h with
  | .osc g => g (adO os)
  | h => h
def asksReal : Asks := ⟨askOb, fun E h a os K => askLoad E (hO h os) a os K, fun E st h a os K => askLoadQ E st (hO h os) a os K, askBool, askSem, askBr, askReg, askDraw, askLoop,
  fun P st E h f args os K I C => askSpec P st E (hO h os) f args os K I C, askIx, fun b h c s N C => askCut b (hC h s.objs) c s N C, fun P st s x t os h K => symApp P st s x t os (hO h os) K, fun st h a v os K => askSto st (hO h os) a v os K, askPerm, fun h os Y N => askGho (hO h os) Y N, askMk⟩
theorem ar_ob : asksReal.ob = askOb := rfl
theorem ar_load (E : List Ex) (h : Hint) (a : Addr) (os : List Ob) (K : Value → Hint → Prop) : asksReal.load E h a os K = askLoad E (hO h os) a os K := rfl
theorem ar_loadQ (E : List Ex) (st : List Nat) (h : Hint) (a : Addr) (os : List Ob) (K : Value → Hint → Prop) : asksReal.loadQ E st h a os K = askLoadQ E st (hO h os) a os K := rfl
theorem ar_bool : asksReal.bool = askBool := rfl
theorem ar_sem : asksReal.sem = askSem := rfl
theorem ar_br : asksReal.br = askBr := rfl
theorem ar_reg : asksReal.reg = askReg := rfl
theorem ar_draw : asksReal.draw = askDraw := rfl
theorem ar_loop : asksReal.loop = askLoop := rfl
theorem ar_call (P : Program) (st : List Nat) (E : List Ex) (h : Hint) (f : FuncId) (args : Array Value) (os : List Ob) (K : Value → List Ob → Hint → Prop) (I : Hint → Prop) (C : Value → Hint → Prop) : asksReal.call P st E h f args os K I C = askSpec P st E (hO h os) f args os K I C := rfl
theorem ar_gho (h : Hint) (os : List Ob) (Y : List Nat → Ob → Hint → Prop) (N : Hint → Prop) : asksReal.gho h os Y N = askGho (hO h os) Y N := rfl
theorem ar_ix : asksReal.ix = askIx := rfl
theorem ar_cut (b : Bool) (h : Hint) (c : Code) (s : SS) (N : Hint → Prop) (C : List (Nat × Value) → Hint → Hint → Prop) : asksReal.cut b h c s N C = askCut b (hC h s.objs) c s N C := rfl
theorem ar_app (P : Program) (st : List Nat) (s x : Value) (t : TypeId) (os : List Ob) (h : Hint) (K : Value → List Ob → Hint → Prop) : asksReal.app P st s x t os h K = symApp P st s x t os (hO h os) K := rfl
theorem ar_sto (st : List Nat) (h : Hint) (a : Addr) (v : Value) (os : List Ob) (K : List Ob → Hint → Prop) : asksReal.sto st h a v os K = askSto st (hO h os) a v os K := rfl
theorem ar_perm : asksReal.perm = askPerm := rfl
theorem ar_mk : asksReal.mks = askMk := rfl
def plainRow : Obj → Option (Array Value × TypeId)
  | .cells c e (0, 0) => some (c, e)
  | _ => none
theorem plainRow_eq {o : Obj} {c : Array Value} {e : TypeId} (h : plainRow o = some (c, e)) : o = .cells c e (0, 0) := by
  unfold plainRow at h
  split at h
  · simp at h; obtain ⟨rfl, rfl⟩ := h; rfl
  · cases h
def symSem {α : Type} (A : Asks) (P : Program) (E : List Ex) (st : List Nat) : Sem α → List Ob → Hint → (α → List Ob → Hint → Prop) → Prop
  | .pure x, os, h, K => K x os h
  | .load _ a k, os, h, K => A.load E h a os fun v h' => symSem A P E st (k v) os h' K
  | .store _ a v k, os, h, K => A.sto st h a v os fun os' h' => symSem A P E st k os' h' K
  | .new o k, os, h, K =>
    match plainRow o with
    | some (c, e) => kL kV0 c.toList fun l => ∀ b : Nat, kApp os ⟨b, l, e, none⟩ fun os' => symSem A P E st (k b) os' h K
    | none => False
  | .shape r k, os, h, K => A.ob h ⟨r, 0, none⟩ os fun _ o h' => symSem A P E st (k (some (o.el, o.cells.length))) os h' K
  | .frozen a k, os, h, K => A.ob h a os fun _ _ h' => symSem A P E st (k false) os h' K
  | .choose q k, os, h, K =>
    match q.forced with
    | true => symSem A P E st (k 0) os h K
    | false => ∀ t : Nat, symSem A P E st (k (q.cut t)) os h K
  | .program k, os, h, K => symSem A P E st (k P) os h K
  | .mark _ k, os, h, K => symSem A P E st k os h K
  | _, _, _, _ => False

theorem ownBlock_slice (a : Option Addr) (n c : Nat) : Value.ownBlock (.slice a n c) = a.map (·.block) := by cases a <;> rfl
theorem cell_lt {w : World} {a : Addr} {v : Value} (h : w.cell? a = some v) : a.block < w.heap.size := by
  unfold World.cell? at h
  cases hh : w.heap[a.block]? with
  | none => rw [hh] at h; cases h
  | some o => exact (Array.getElem?_eq_some_iff.1 hh).1
theorem Ob.key_dep0 {o : Ob} {k : Nat} (h : o.key = some k) : o.dep0 k := by
  unfold Ob.key at h
  unfold Ob.dep0
  split at h
  · simp only [Option.some.injEq] at h
    exact h.symm
  · split at h
    · cases h
    · exact h
theorem Ob.ok0.dlt {base : Nat} {o : Ob} {w : World} (h : o.ok0 base w) {k : Nat} (hk : o.dep0 k) : k < w.heap.size := by
  unfold Ob.ok0 at h
  unfold Ob.dep0 at hk
  split at h
  · rename_i e
    rw [e] at hk
    simp only at hk
    subst hk
    exact (Array.getElem?_eq_some_iff.1 h.2).1
  · rename_i v e
    rw [e] at hk
    simp only at hk
    split at h
    · rename_i e2
      rw [e2] at hk
      simp only at hk
      obtain ⟨hne, rfl⟩ := hk
      cases hx : o.cells with
      | nil => exact absurd hx hne
      | cons x xs =>
        rw [hx] at h
        exact cell_lt (h 0 x rfl)
    · rename_i s e2
      rw [e2] at hk
      simp only at hk
      exact (World.ownsRow.lt h k (by rw [ownBlock_slice]; exact hk)).2
theorem Ob.ok0.klt {base : Nat} {o : Ob} {w : World} (h : o.ok0 base w) {k : Nat} (hk : o.key = some k) : base ≤ k ∧ k < w.heap.size := by
  refine ⟨?_, h.dlt (Ob.key_dep0 hk)⟩
  unfold Ob.ok0 at h
  unfold Ob.key at hk
  split at h
  · rename_i e
    rw [e] at hk
    simp only [Option.some.injEq] at hk
    subst hk
    exact h.1
  · rename_i v e
    rw [e] at hk
    simp only at hk
    split at h
    · rename_i e2
      rw [e2] at hk
      cases hk
    · rename_i e2
      rw [e2] at hk
      exact (World.ownsRow.lt h k (by rw [ownBlock_slice]; exact hk)).1
theorem ownsRow_of_block {w w' : World} {base : Nat} {e : TypeId} {size : Nat} {v : Value} {n : Nat} {xs : List Value} (h : w.ownsRow base e size v n xs) (hb : ∀ k, v.ownBlock = some k → w'.heap[k]? = w.heap[k]?) : w'.ownsRow base e size v n xs := by
  refine ⟨h.1, ?_⟩
  rcases h.2 with h2 | ⟨g, cap, cur, rfl, h3, h4, h5⟩
  · exact Or.inl h2
  · exact Or.inr ⟨g, cap, cur, rfl, h3, by rw [hb g rfl]; exact h4, h5⟩
theorem ownsRow_base {w : World} {base base' : Nat} {e : TypeId} {size : Nat} {v : Value} {n : Nat} {xs : List Value} (h : w.ownsRow base e size v n xs) (hb : base' ≤ base) : w.ownsRow base' e size v n xs := by
  refine ⟨h.1, ?_⟩
  rcases h.2 with h2 | ⟨g, cap, cur, rfl, h3, h4⟩
  · exact Or.inl h2
  · exact Or.inr ⟨g, cap, cur, rfl, Nat.le_trans hb h3, h4⟩
theorem Ob.ok0.base {base base' : Nat} {o : Ob} {w : World} (h : o.ok0 base w) (hb : base' ≤ base) : o.ok0 base' w := by
  unfold Ob.ok0 at h ⊢
  split at h
  · exact ⟨Nat.le_trans hb h.1, h.2⟩
  · split at h
    · exact h
    · exact ownsRow_base h hb
theorem Ob.ok0.same {base : Nat} {o : Ob} {w w' : World} (h : o.ok0 base w) (hb : ∀ k, o.dep0 k → w'.heap[k]? = w.heap[k]?) : o.ok0 base w' := by
  unfold Ob.ok0 at h ⊢
  unfold Ob.dep0 at hb
  split at h
  · rename_i e
    rw [e] at hb
    exact ⟨h.1, by rw [hb _ rfl]; exact h.2⟩
  · rename_i u e
    rw [e] at hb
    simp only at hb
    split at h <;> (rename_i e2; rw [e2] at hb; simp only at hb)
    · intro k v hv
      have hne : o.cells ≠ [] := by intro e; rw [e] at hv; simp at hv
      rw [World.cell?_of_block (hb _ ⟨hne, rfl⟩)]
      exact h k v hv
    · exact ownsRow_of_block h fun k hk => hb k (by rw [ownBlock_slice] at hk; exact hk)
theorem Ob.ok0.cell {base : Nat} {o : Ob} {w : World} (h : o.ok0 base w) {a : Addr} {p : Prop} (hr : rowAt o a p) : p ∧ ∀ v, o.cells[a.off]? = some v → w.cell? a = some v := by
  unfold Ob.ok0 at h
  unfold rowAt at hr
  split at h
  · rename_i e
    rw [e] at hr
    obtain ⟨hs, hb, hp⟩ := sp0_ok hr
    refine ⟨hp, fun v hv => ?_⟩
    unfold World.cell?
    rw [hb, h.2]
    simp [hs, hv]
  · rename_i u e
    rw [e] at hr
    simp only at hr
    split at h <;> (rename_i e2; rw [e2] at hr; simp only at hr)
    · split at hr
      · rename_i q eq
        obtain ⟨hs, hb, hp⟩ := sp0_ok hr
        refine ⟨hp, fun v hv => ?_⟩
        have h2 := h.2
        rw [eq] at h2
        rcases h2 with ⟨hn, _⟩ | ⟨g, cap, cur, he, _⟩
        · cases hn
        · injection he with h1 _ _
          injection h1 with h1
          subst h1
          have hc := World.ownsRow.cells h (g := g) (by rw [eq]; rfl) a.off v hv
          have : a = (⟨g, 0, none⟩ : Addr).add a.off := by cases a; simp_all [Addr.add]
          rw [this]; exact hc
      · exact hr.elim
theorem own_rd {w : World} {base : Nat} {e : TypeId} {size n cap : Nat} {a : Option Addr} {xs : List Value} (h : w.ownsRow base e size (.slice a n cap) n xs) : Rd w a xs := by
  intro k v hv
  rcases h.2 with ⟨_, hn⟩ | ⟨g, cap', cur, he, _⟩
  · have : xs = [] := List.eq_nil_of_length_eq_zero (by rw [h.1, hn]; simp)
    rw [this] at hv
    simp at hv
  · injection he with h1 _ _
    have hc := World.ownsRow.cells h (g := g) (by rw [h1]; rfl) k v hv
    subst h1
    have : (⟨bk (some ⟨g, 0, none⟩), ofs (some ⟨g, 0, none⟩) + k, none⟩ : Addr) = (⟨g, 0, none⟩ : Addr).add k := by simp [bk, ofs, Addr.add]
    rw [this]; exact hc
theorem Ob.ok0.rd {base : Nat} {o : Ob} {w : World} (h : o.ok0 base w) {u : Ow} (hu : o.ow = some u) : Rd w u.a o.cells := by
  unfold Ob.ok0 at h
  rw [hu] at h
  simp only at h
  split at h
  · exact h
  · exact own_rd h
theorem Ob.ok0.rd0 {base : Nat} {o : Ob} {w : World} (h : o.ok0 base w) (hu : o.ow = none) : Rd w (some ⟨o.blk, 0, none⟩) o.cells := by
  unfold Ob.ok0 at h
  rw [hu] at h
  intro k v hv
  simp only [bk, ofs, Nat.zero_add]
  unfold World.cell?
  rw [h.2]
  simp [hv]
theorem Ob.ok0.cellL {base : Nat} {o : Ob} {w : World} (h : o.ok0 base w) {a : Addr} {k : Nat} {p : Prop} (hr : listAt o a k p) : p ∧ ∀ v, o.cells[k]? = some v → w.cell? a = some v := by
  unfold listAt at hr
  split at hr
  · rename_i u hu
    obtain ⟨hs, hb, ho, hp⟩ := sp0_ok hr
    refine ⟨hp, fun v hv => ?_⟩
    have := h.rd hu k v hv
    have e : a = ⟨bk u.a, ofs u.a + k, none⟩ := by cases a; simp_all
    rw [e]
    exact this
  · exact hr.elim

theorem GhB.ok.dlt {g : GhB} {base : Nat} {w : World} (h : g.ok base w) {k : Nat} (hk : g.dep k) : k < w.heap.size := by
  unfold GhB.ok at h
  unfold GhB.dep at hk
  split at h
  · rename_i e; rw [e] at hk; exact hk.elim
  · rename_i x e; rw [e] at hk; exact x.lt _ h.1 k hk
theorem GhB.own_dep {g : GhB} {k : Nat} (h : g.own k) : g.dep k := by
  unfold GhB.own at h
  unfold GhB.dep
  split at h
  · exact h.elim
  · exact h.2
theorem GhB.ok.klt {g : GhB} {base : Nat} {w : World} (h : g.ok base w) {k : Nat} (hk : g.own k) : base ≤ k := by
  unfold GhB.ok at h
  unfold GhB.own at hk
  split at h
  · rename_i e; rw [e] at hk; exact hk.elim
  · rename_i x e; rw [e] at hk; exact h.2 hk.1 k hk.2
theorem GhB.ok.base {g : GhB} {base base' : Nat} {w : World} (h : g.ok base w) (hb : base' ≤ base) : g.ok base' w := by
  unfold GhB.ok at h ⊢
  split at h
  · trivial
  · exact ⟨h.1, fun hr k hk => Nat.le_trans hb (h.2 hr k hk)⟩
theorem GhB.ok.same {g : GhB} {base : Nat} {w w' : World} (h : g.ok base w) (hb : ∀ k, g.dep k → w'.heap[k]? = w.heap[k]?) : g.ok base w' := by
  unfold GhB.ok at h ⊢
  unfold GhB.dep at hb
  split at h
  · trivial
  · rename_i x e; rw [e] at hb; exact ⟨x.same _ _ h.1 hb, h.2⟩
theorem Ob.key_dep {o : Ob} {k : Nat} (h : o.key = some k) : o.dep k := Or.inl (Ob.key_dep0 h)
theorem Ob.kp_dep {o : Ob} {k : Nat} (h : o.kp k) : o.dep k := h.imp Ob.key_dep0 GhB.own_dep
theorem Ob.ok.dlt {base : Nat} {o : Ob} {w : World} (h : o.ok base w) {k : Nat} (hk : o.dep k) : k < w.heap.size := by
  rcases hk with hk | hk
  · exact h.1.dlt hk
  · exact h.2.dlt hk
theorem Ob.ok.klt {base : Nat} {o : Ob} {w : World} (h : o.ok base w) {k : Nat} (hk : o.kp k) : base ≤ k ∧ k < w.heap.size := by
  refine ⟨?_, h.dlt (Ob.kp_dep hk)⟩
  rcases hk with hk | hk
  · exact (h.1.klt hk).1
  · exact h.2.klt hk
theorem Ob.ok.base {base base' : Nat} {o : Ob} {w : World} (h : o.ok base w) (hb : base' ≤ base) : o.ok base' w := ⟨h.1.base hb, h.2.base hb⟩
theorem Ob.ok.same {base : Nat} {o : Ob} {w w' : World} (h : o.ok base w) (hb : ∀ k, o.dep k → w'.heap[k]? = w.heap[k]?) : o.ok base w' :=
  ⟨h.1.same fun k hk => hb k (Or.inl hk), h.2.same fun k hk => hb k (Or.inr hk)⟩
theorem Ob.ok.cell {base : Nat} {o : Ob} {w : World} (h : o.ok base w) {a : Addr} {p : Prop} (hr : rowAt o a p) : p ∧ ∀ v, o.cells[a.off]? = some v → w.cell? a = some v := h.1.cell hr
theorem Ob.ok.rd {base : Nat} {o : Ob} {w : World} (h : o.ok base w) {u : Ow} (hu : o.ow = some u) : Rd w u.a o.cells := h.1.rd hu
theorem Ob.ok.rd0 {base : Nat} {o : Ob} {w : World} (h : o.ok base w) (hu : o.ow = none) : Rd w (some ⟨o.blk, 0, none⟩) o.cells := h.1.rd0 hu
theorem Ob.ok.cellL {base : Nat} {o : Ob} {w : World} (h : o.ok base w) {a : Addr} {k : Nat} {p : Prop} (hr : listAt o a k p) : p ∧ ∀ v, o.cells[k]? = some v → w.cell? a = some v := h.1.cellL hr
theorem Ob.ok.gh {base : Nat} {o : Ob} {w : World} (h : o.ok base w) {g : Gh} (hg : o.gh.g = some g) : g.ok w := by
  have := h.2
  unfold GhB.ok at this
  rw [hg] at this
  exact this.1
/-- A row without anything known by a predicate. -/
theorem Ob.dep_lit {b : Nat} {c : List Value} {e : TypeId} {o : Option Ow} {k : Nat} : (⟨b, c, e, o⟩ : Ob).dep k ↔ (⟨b, c, e, o⟩ : Ob).dep0 k := ⟨fun h => h.elim id fun h => h.elim, Or.inl⟩
theorem Ob.kp_lit {b : Nat} {c : List Value} {e : TypeId} {o : Option Ow} {k : Nat} : (⟨b, c, e, o⟩ : Ob).kp k ↔ (⟨b, c, e, o⟩ : Ob).key = some k := ⟨fun h => h.elim id fun h => h.elim, Or.inl⟩
theorem Ob.ok_lit {b : Nat} {c : List Value} {e : TypeId} {o : Option Ow} {base : Nat} {w : World} (h : (⟨b, c, e, o⟩ : Ob).ok0 base w) : (⟨b, c, e, o⟩ : Ob).ok base w := ⟨h, True.intro⟩
theorem Chg.refl (X : Nat → Prop) (w : World) : Chg X w w := ⟨Nat.le_refl _, fun _ _ _ => rfl⟩
theorem Chg.trans {X : Nat → Prop} {a b c : World} (h : Chg X a b) (k : Chg X b c) : Chg X a c := ⟨Nat.le_trans h.1 k.1, fun i hi hx => (k.2 i (Nat.lt_of_lt_of_le hi h.1) hx).trans (h.2 i hi hx)⟩
/-- What changes only in what may be changed, or in what is new. -/
theorem Chg.step {X : Nat → Prop} {a b c : World} (h : Chg X a b) (hs : b.heap.size ≤ c.heap.size) (hk : ∀ k, k < a.heap.size → ¬ X k → c.heap[k]? = b.heap[k]?) : Chg X a c := ⟨Nat.le_trans h.1 hs, fun k hl hx => (hk k hl hx).trans (h.2 k hl hx)⟩
structure MRep (w0 : Bs) (E : List Ex) (os : List Ob) (w : World) : Prop where
  below : Below w0.heap.size w0 w
  row : ∀ (i : Nat) (o : Ob), os[i]? = some o → o.ok w0.heap.size w
  apart : ∀ (i j : Nat) (o p : Ob) (k : Nat), os[i]? = some o → os[j]? = some p → o.kp k → p.dep k → i = j
  ext : ExtOK E w0
  chg : Chg w0.X w0.w1 w
  kf : ∀ (i : Nat) (o : Ob) (k : Nat), os[i]? = some o → o.kp k → w0.X k ∨ w0.w1.heap.size ≤ k

theorem MRep.drawn {w0 : Bs} {E : List Ex} {os : List Ob} {w : World} (h : MRep w0 E os w) (n : Nat) : MRep w0 E os { w with drawn := n } :=
  ⟨⟨h.below.os, h.below.tape, h.below.output, h.below.size, h.below.block⟩, fun i o ho => (h.row i o ho).same fun _ _ => rfl, h.apart, h.ext, h.chg, h.kf⟩
def Weak (o q : Ob) : Prop := (∀ base w, o.ok base w → q.ok base w ∧ ∀ k, q.dep k → o.dep k) ∧ ∀ k, q.kp k → o.kp k
theorem Weak.refl (o : Ob) : Weak o o := ⟨fun _ _ h => ⟨h, fun _ h => h⟩, fun _ h => h⟩
theorem MRep.remap {w0 : Bs} {E : List Ex} {os os2 : List Ob} {w : World} (h : MRep w0 E os w) (f : Nat → Nat) (hf : ∀ i j, i < os2.length → j < os2.length → f i = f j → i = j) (hw : ∀ (i : Nat) (q : Ob), os2[i]? = some q → ∃ o, os[f i]? = some o ∧ Weak o q) : MRep w0 E os2 w := by
  refine ⟨h.below, fun i q hq => ?_, fun i j p q k hp hq hk hd => ?_, h.ext, h.chg, fun i q k hq hk => ?_⟩
  rotate_right
  · obtain ⟨o, ho, hwk⟩ := hw i q hq
    exact h.kf _ o k ho (hwk.2 k hk)
  · obtain ⟨o, ho, hwk⟩ := hw i q hq
    exact (hwk.1 _ _ (h.row _ o ho)).1
  · obtain ⟨o, ho, hwk⟩ := hw i p hp
    obtain ⟨o', ho', hwk'⟩ := hw j q hq
    exact hf i j (List.getElem?_eq_some_iff.1 hp).1 (List.getElem?_eq_some_iff.1 hq).1 (h.apart _ _ _ _ k ho ho' (hwk.2 k hk) ((hwk'.1 _ _ (h.row _ o' ho')).2 k hd))
theorem MRep.pre {w0 : Bs} {E : List Ex} {os os' : List Ob} {w : World} (h : MRep w0 E os' w) (hs : ∀ i, i < os.length → os'[i]? = os[i]?) : MRep w0 E os w :=
  h.remap (fun i => i) (fun _ _ _ _ h => h) fun i q hq => ⟨q, by rw [hs i (List.getElem?_eq_some_iff.1 hq).1]; exact hq, Weak.refl _⟩
theorem MRep.plain {w0 : Bs} {E : List Ex} {os : List Ob} {w : World} (h : MRep w0 E os w) {i : Nat} {o : Ob} (ho : os[i]? = some o) (hw : o.ow = none) : w0.heap.size ≤ o.blk ∧ w.heap[o.blk]? = some (.cells o.cells.toArray o.el (0, 0)) := by
  have := (h.row i o ho).1
  unfold Ob.ok0 at this
  rw [hw] at this
  exact this
theorem MRep.cell {w0 : Bs} {E : List Ex} {os : List Ob} {w : World} (h : MRep w0 E os w) {i : Nat} {o : Ob} (ho : os[i]? = some o) (hw : o.ow = none) {a : Addr} (hb : a.block = o.blk) (hs : a.spot = none) : w.cell? a = o.cells[a.off]? := by
  have := (h.plain ho hw).2
  unfold World.cell?
  rw [hb, this]
  simp [hs]
theorem MRep.frz {w0 : Bs} {E : List Ex} {os : List Ob} {w : World} (h : MRep w0 E os w) {i : Nat} {o : Ob} (ho : os[i]? = some o) (hw : o.ow = none) {a : Addr} (hb : a.block = o.blk) : w.frozen? a = false := by
  have := (h.plain ho hw).2
  unfold World.frozen?
  rw [hb, this]
  simp
theorem MRep.shp {w0 : Bs} {E : List Ex} {os : List Ob} {w : World} (h : MRep w0 E os w) {i : Nat} {o : Ob} (ho : os[i]? = some o) (hw : o.ow = none) {r : Nat} (hb : r = o.blk) : w.shape? r = some (o.el, o.cells.length) := by
  have := (h.plain ho hw).2
  unfold World.shape?
  rw [hb, this]
  simp
theorem MRep.extc {w0 : Bs} {E : List Ex} {os : List Ob} {w : World} (h : MRep w0 E os w) {i : Nat} {o : Ex} (ho : E[i]? = some o) {a : Addr} {v : Value} (hb : a.block = o.blk) (hs : a.spot = none) (hv : o.get a.off = some v) : w.cell? a = some v := by
  have h1 := (h.ext o (List.mem_of_getElem? ho)).1 _ _ hv
  have h2 := cell_lt h1
  have e : a = ⟨o.blk, a.off, none⟩ := by cases a; simp_all
  rw [e, h.below.cell (p := ⟨o.blk, a.off, none⟩) h2]
  exact h1
theorem Chg.grown {X : Nat → Prop} {a w w' : World} (h : Chg X a w) {row : Option Nat} (hg : w.grownBy w' row) (hr : ∀ k, row = some k → X k ∨ a.heap.size ≤ k) : Chg X a w' :=
  h.step hg.size fun k hl hx => hg.block k (Nat.lt_of_lt_of_le hl h.1) fun e => by
    rcases hr k e.symm with h1 | h1
    · exact hx h1
    · omega
theorem MRep.grow {w0 : Bs} {E : List Ex} {os : List Ob} {w w' : World} (h : MRep w0 E os w) {i : Nat} {o o' : Ob} (ho : os[i]? = some o) (hg : w.grownBy w' o.key) (hk : o'.key = o.key ∨ o'.key = some w.heap.size) (hd : ∀ k, o'.dep k → o'.key = some k) (hok : o'.ok w0.heap.size w') : MRep w0 E (os.set i o') w' := by
  have hi : i < os.length := (List.getElem?_eq_some_iff.1 ho).1
  refine ⟨h.below.grown hg h.below.size fun k hk => ((h.row i o ho).klt (Or.inl hk)).1, ?_, ?_, h.ext, h.chg.grown hg fun k hk => h.kf i o k ho (Or.inl hk), ?_⟩
  rotate_right
  · intro j p k hp hk2
    rw [List.getElem?_set] at hp
    split at hp
    · simp [hi] at hp; subst hp
      have e := hd k (Ob.kp_dep hk2)
      rcases hk with hk | hk
      · exact h.kf i o k ho (Or.inl (by rw [← hk]; exact e))
      · rw [hk] at e
        simp only [Option.some.injEq] at e
        exact Or.inr (by rw [← e]; exact h.chg.1)
    · exact h.kf j p k hp hk2
  · intro j p hp
    rw [List.getElem?_set] at hp
    split at hp
    · simp [hi] at hp; subst hp; exact hok
    · rename_i hij
      exact (h.row j p hp).same fun k hpk => hg.block k ((h.row j p hp).dlt hpk) fun e => hij (h.apart i j o p k ho hp (Or.inl e.symm) hpk)
  · intro j l p q c hp hq e1 e2
    rw [List.getElem?_set] at hp hq
    have other : ∀ (j : Nat) (q : Ob), ¬ i = j → os[j]? = some q → o'.kp c → q.dep c → False := by
      intro j q hij hq e1 e2
      have e1 := hd c (Ob.kp_dep e1)
      rcases hk with hk | hk
      · exact hij (h.apart i j o q c ho hq (Or.inl (by rw [← hk]; exact e1)) e2)
      · have := (h.row j q hq).dlt e2
        rw [hk] at e1
        simp at e1
        omega
    have other2 : ∀ (j : Nat) (q : Ob), ¬ i = j → os[j]? = some q → q.kp c → o'.dep c → False := by
      intro j q hij hq e1 e2
      exact other j q hij hq (Or.inl (hd c e2)) (Ob.kp_dep e1)
    split at hp <;> split at hq
    · omega
    · rename_i h1 h2
      simp [hi] at hp; subst hp
      exact (other l q h2 hq e1 e2).elim
    · rename_i h1 h2
      simp [hi] at hq; subst hq
      exact (other2 j p h1 hp e1 e2).elim
    · exact h.apart j l p q c hp hq e1 e2
theorem grown_set (w : World) (a : Addr) (v : Value) : w.grownBy (w.setCell a v) (some a.block) :=
  ⟨rfl, rfl, rfl, by simp [World.setCell], fun k _ hne => Below.heap_setCell _ _ _ _ (fun e => hne (by rw [e]))⟩
theorem MRep.put {w0 : Bs} {E : List Ex} {os : List Ob} {w : World} (h : MRep w0 E os w) {i : Nat} {o : Ob} (ho : os[i]? = some o) (hw : o.ow = none) {a : Addr} (v : Value) (hb : a.block = o.blk) (hs : a.spot = none) : MRep w0 E (oset os i a.off v) (w.setCell a v) := by
  have hr := h.plain ho hw
  have hk : o.key = some o.blk := by unfold Ob.key; rw [hw]
  have e : oset os i a.off v = os.set i ⟨o.blk, lset o.cells a.off v, o.el, o.ow⟩ := by
    rw [oset_eq]
    apply List.ext_getElem?
    intro j
    rw [List.getElem?_modify, List.getElem?_set]
    by_cases hij : i = j
    · subst hij
      have hlt := (List.getElem?_eq_some_iff.1 ho).1
      have ho2 : os[i] = o := by simpa [hlt] using ho
      simp [hlt, ho2]
    · simp [hij]
  rw [e]
  have hk' : Ob.key ⟨o.blk, lset o.cells a.off v, o.el, o.ow⟩ = some o.blk := by unfold Ob.key; simp only [hw]
  refine h.grow ho (by rw [hk, ← hb]; exact grown_set w a v) (Or.inl (by rw [hk, hk'])) (fun k hd => ?_) ?_
  · rw [hk']
    have hd := Ob.dep_lit.1 hd
    unfold Ob.dep0 at hd
    simp only [hw] at hd
    rw [hd]
  · refine Ob.ok_lit ?_
    unfold Ob.ok0
    simp only [hw]
    refine ⟨hr.1, ?_⟩
    simp only [World.setCell, Array.getElem?_modify, hb, if_true]
    rw [hr.2]
    simp [hs, lset_eq]
theorem MRep.putL {w0 : Bs} {E : List Ex} {os : List Ob} {w : World} (h : MRep w0 E os w) {i : Nat} {o : Ob} (ho : os[i]? = some o) {u : Ow} (hw : o.ow = some u) {s : Nat} (hsz : u.size = s + 1) {a : Addr} {k : Nat} (v : Value) (hb : a.block = bk u.a) (hoff : a.off = ofs u.a + k) (hs : a.spot = none) (hlt : k < o.cells.length) :
    MRep w0 E (os.set i ⟨o.blk, lset o.cells k v, o.el, o.ow⟩) (w.setCell a v) ∧ w.cell? a = some (o.cells[k]) ∧ w.frozen? a = false := by
  have hr := (h.row i o ho).1
  have hrd := hr.rd hw k o.cells[k] (by simp)
  unfold Ob.ok0 at hr
  rw [hw] at hr
  simp only [hsz] at hr
  have hea : a = ⟨bk u.a, ofs u.a + k, none⟩ := by cases a; simp_all
  rcases hr.2 with ⟨h1, hn⟩ | ⟨g, cap, cur, he, _⟩
  · have := hr.1
    rw [hn] at this
    simp at this
    rw [this] at hlt
    simp at hlt
  · injection he with h1 _ h3
    have hea2 : a = ⟨g, k, none⟩ := by rw [hea, h1]; simp [bk, ofs]
    have hr2 := hr
    rw [h1] at hr2
    obtain ⟨h5, h6⟩ := World.ownsRow.stored hr2 k v
    have hk : o.key = some g := by unfold Ob.key; rw [hw]; simp only [hsz, h1]; rfl
    have hk' : Ob.key ⟨o.blk, lset o.cells k v, o.el, o.ow⟩ = some g := by unfold Ob.key; simp only [hw, hsz, h1]; rfl
    refine ⟨?_, by rw [hea]; exact hrd, by rw [hea2]; exact World.ownsRow.frozenAt hr2 k⟩
    refine h.grow ho (by rw [hk, hea2]; exact h6) (Or.inl (by rw [hk, hk'])) (fun c hd => ?_) ?_
    · rw [hk']
      have hd := Ob.dep_lit.1 hd
      unfold Ob.dep0 at hd
      simp only [hw, hsz, h1] at hd
      exact hd
    · refine Ob.ok_lit ?_
      unfold Ob.ok0
      simp only [hw, hsz]
      rw [h1, hea2, lset_eq]
      exact h5
/-- A thing known by a predicate takes the place of another one, over the same blocks. -/
theorem MRep.turn {w0 : Bs} {E : List Ex} {os : List Ob} {w w' : World} (h : MRep w0 E os w) {i : Nat} {o o' : Ob} (ho : os[i]? = some o) (hsz : w.heap.size ≤ w'.heap.size) (hos : w'.os = w.os ∧ w'.tape = w.tape ∧ w'.output = w.output) (hg : ∀ k, k < w.heap.size → ¬ o.kp k → w'.heap[k]? = w.heap[k]?)
    (hk : ∀ k, o'.kp k → o.kp k) (hd : ∀ k, o'.dep k → o.kp k ∨ o.dep k) (hok : o'.ok w0.heap.size w') : MRep w0 E (os.set i o') w' := by
  have hi : i < os.length := (List.getElem?_eq_some_iff.1 ho).1
  have hd2 : ∀ k, o'.dep k → o.dep k := fun k hk2 => (hd k hk2).elim Ob.kp_dep id
  refine ⟨⟨hos.1.trans h.below.os, hos.2.1.trans h.below.tape, hos.2.2.trans h.below.output, Nat.le_trans h.below.size hsz, fun k hl => (hg k (Nat.lt_of_lt_of_le hl h.below.size) fun hk2 => ?_).trans (h.below.block k hl)⟩, ?_, ?_, h.ext, h.chg.step hsz fun k hl hx => hg k (Nat.lt_of_lt_of_le hl h.chg.1) fun hk2 => ?_, ?_⟩
  · have := ((h.row i o ho).klt hk2).1
    omega
  · intro j p hp
    rw [List.getElem?_set] at hp
    split at hp
    · simp [hi] at hp; subst hp; exact hok
    · rename_i hij
      exact (h.row j p hp).same fun k hpk => hg k ((h.row j p hp).dlt hpk) fun e => hij (h.apart i j o p k ho hp e hpk)
  · intro j l p q c hp hq e1 e2
    rw [List.getElem?_set] at hp hq
    split at hp <;> split at hq
    · omega
    · rename_i h1 h2
      simp [hi] at hp; subst hp
      exact absurd (h.apart i l o q c ho hq (hk c e1) e2) h2
    · rename_i h1 h2
      simp [hi] at hq; subst hq
      exact absurd (h.apart j i p o c hp ho e1 (hd2 c e2)) fun e => h1 e.symm
    · exact h.apart j l p q c hp hq e1 e2
  · rcases h.kf i o k ho hk2 with h1 | h1
    · exact hx h1
    · omega
  · intro j p k hp hk2
    rw [List.getElem?_set] at hp
    split at hp
    · simp [hi] at hp; subst hp; exact h.kf i o k ho (hk k hk2)
    · exact h.kf j p k hp hk2
theorem MRep.putG {w0 : Bs} {E : List Ex} {os : List Ob} {w : World} (h : MRep w0 E os w) {i : Nat} {o : Ob} (ho : os[i]? = some o) {g g' : Gh} (hg : o.gh.g = some g) (hrw : g.rw = true) {a : Addr} {v : Value} (hs : ghStoP g a v g') : MRep w0 E (os.set i (ghOb o.el g')) (w.setCell a v) := by
  obtain ⟨h1, h2, h3, h4⟩ := hs
  have hok := h.row i o ho
  have hgh := hok.2
  unfold GhB.ok at hgh
  rw [hg] at hgh
  have ha : ∀ k, ¬ (o.kp k) → k ≠ a.block := fun k hk e => hk (Or.inr (by unfold GhB.own; rw [hg]; exact ⟨hrw, by rw [e]; exact h3⟩))
  have hwd : ∀ k, g'.dep k → o.kp k := fun k hk => Or.inr (by unfold GhB.own; rw [hg]; exact ⟨hrw, h2 k hk⟩)
  refine h.turn ho (by simp [World.setCell]) ⟨rfl, rfl, rfl⟩ (fun k _ hk => Below.heap_setCell _ _ _ _ (ha k hk)) (fun k hk => ?_) (fun k hk => ?_) ⟨?_, ?_⟩
  · rcases hk with hk | hk
    · cases hk
    · exact hwd k hk.2
  · rcases hk with hk | hk
    · exact absurd rfl hk.1
    · exact Or.inl (hwd k hk)
  · intro k u hu
    simp [ghOb] at hu
  · exact ⟨(h4 w hgh.1).2.2, fun _ k hk => hgh.2 hrw k (h2 k hk)⟩
theorem heap_push_lt (w : World) (o : Obj) (k : Nat) (h : k < w.heap.size) : (w.heap.push o)[k]? = w.heap[k]? := by
  rw [Array.getElem?_push, if_neg (by omega)]
theorem MRep.addL {w0 : Bs} {E : List Ex} {os : List Ob} {w w' : World} (h : MRep w0 E os w) (obs : List Ob) (hb : Below w.heap.size w w') (hok : ∀ (i : Nat) (o : Ob), obs[i]? = some o → o.ok w0.heap.size w' ∧ ∀ k, o.dep k → w.heap.size ≤ k)
    (hap : ∀ (i j : Nat) (o p : Ob) (k : Nat), obs[i]? = some o → obs[j]? = some p → o.kp k → p.dep k → i = j) : MRep w0 E (os ++ obs) w' := by
  refine ⟨h.below.trans (hb.mono h.below.size), ?_, ?_, h.ext, h.chg.step hb.size fun k hl _ => hb.block k (Nat.lt_of_lt_of_le hl h.chg.1), ?_⟩
  rotate_right
  · intro i p k hp hk
    rw [List.getElem?_append] at hp
    split at hp
    · exact h.kf i p k hp hk
    · exact Or.inr (Nat.le_trans h.chg.1 ((hok _ p hp).2 k (Ob.kp_dep hk)))
  · intro i p hp
    rw [List.getElem?_append] at hp
    split at hp
    · exact (h.row i p hp).same fun k hk => hb.block k ((h.row i p hp).dlt hk)
    · exact (hok _ p hp).1
  · intro i j p q c hp hq e1 e2
    rw [List.getElem?_append] at hp hq
    split at hp <;> split at hq
    · exact h.apart i j p q c hp hq e1 e2
    · have := ((h.row i p hp).klt e1).2
      have := (hok _ q hq).2 c e2
      omega
    · have := (h.row j q hq).dlt e2
      have := (hok _ p hp).2 c (Ob.kp_dep e1)
      omega
    · have := hap _ _ p q c hp hq e1 e2
      omega
theorem MRep.add {w0 : Bs} {E : List Ex} {os : List Ob} {w w' : World} (h : MRep w0 E os w) (o : Ob) (hb : Below w.heap.size w w') (hk : ∀ k, o.dep k → w.heap.size ≤ k) (hok : o.ok w0.heap.size w') : MRep w0 E (app1 os o) w' := by
  rw [app1_eq]
  refine h.addL [o] hb (fun i p hp => ?_) fun i j p q k hp hq _ _ => ?_
  · cases i with
    | zero => simp at hp; subst hp; exact ⟨hok, hk⟩
    | succ n => simp at hp
  · cases i with
    | zero => cases j with
      | zero => rfl
      | succ n => simp at hq
    | succ n => simp at hp
theorem MRep.new {w0 : Bs} {E : List Ex} {os : List Ob} {w : World} (h : MRep w0 E os w) (c : Array Value) (e : TypeId) : MRep w0 E (app1 os ⟨w.heap.size, c.toList, e, none⟩) { w with heap := w.heap.push (.cells c e (0, 0)) } := by
  refine h.add _ (Below.alloc (Below.refl _ w) (Nat.le_refl _) (.cells c e (0, 0))) (fun k hk => by have hk := Ob.dep_lit.1 hk; simp [Ob.dep0] at hk; omega) (Ob.ok_lit ?_)
  unfold Ob.ok0
  exact ⟨h.below.size, by simp⟩

theorem symSem_run {α : Type} {P : Program} {E : List Ex} {st : List Nat} {w0 : Bs} (t : Sem α) :
    ∀ {os : List Ob} {h : Hint} {K : α → List Ob → Hint → Prop} {w : World}, symSem asksReal P E st t os h K → MRep w0 E os w →
      ∃ x w' os' h', t.run P w = .ok x w' ∧ MRep w0 E os' w' ∧ (∀ i ∈ st, i < os.length → os'[i]? = os[i]?) ∧ os.length ≤ os'.length ∧ K x os' h' := by
  induction t with
  | pure x => exact fun hs hm => ⟨x, _, _, _, rfl, hm, fun _ _ _ => rfl, Nat.le_refl _, hs⟩
  | load m a k ih =>
    intro os h K w hs hm
    simp only [symSem, ar_load] at hs
    generalize hO h os = h at hs
    simp only [askLoad] at hs
    split at hs
    · split at hs
      · rename_i o ho
        rw [lgo_eq] at ho
        obtain ⟨hs, hc⟩ := (hm.row _ o ho).cell hs
        split at hs
        · rename_i v hv
          rw [lgo_eq] at hv
          obtain ⟨x, w', os', h', hr, h1⟩ := ih v hs hm
          exact ⟨x, w', os', h', by simp only [Sem.run, hc v hv]; exact hr, h1⟩
        · exact hs.elim
      · exact hs.elim
    · split at hs
      · rename_i o ho
        rw [lgo_eq] at ho
        obtain ⟨⟨hv, hs⟩, hc⟩ := (hm.row _ o ho).cell hs
        rw [lgo_eq] at hv
        obtain ⟨x, w', os', h', hr, h1⟩ := ih _ hs hm
        exact ⟨x, w', os', h', by simp only [Sem.run, hc _ hv]; exact hr, h1⟩
      · exact hs.elim
    · split at hs
      · rename_i o ho
        rw [lgo_eq] at ho
        obtain ⟨⟨hv, hs⟩, hc⟩ := (hm.row _ o ho).cellL hs
        rw [lgo_eq] at hv
        obtain ⟨x, w', os', h', hr, h1⟩ := ih _ hs hm
        exact ⟨x, w', os', h', by simp only [Sem.run, hc _ hv]; exact hr, h1⟩
      · exact hs.elim
    · split at hs
      · rename_i o ho
        rw [lgo_eq] at ho
        obtain ⟨hsp, hb, hv, hs⟩ := sp0_ok hs
        obtain ⟨x, w', os', h', hr, h1⟩ := ih _ hs hm
        exact ⟨x, w', os', h', by simp only [Sem.run, hm.extc ho hb hsp hv]; exact hr, h1⟩
      · exact hs.elim
    · split at hs
      · rename_i o ho
        rw [lgo_eq] at ho
        split at hs
        · rename_i g hg
          obtain ⟨hc, hs⟩ := hs
          obtain ⟨x, w', os', h', hr, h1⟩ := ih _ hs hm
          exact ⟨x, w', os', h', by simp only [Sem.run, hc _ ((hm.row _ o ho).gh hg)]; exact hr, h1⟩
        · exact hs.elim
      · exact hs.elim
    · exact hs.elim
  | store m a v k ih =>
    intro os h K w hs hm
    simp only [symSem, ar_sto] at hs
    generalize hO h os = h at hs
    simp only [askSto] at hs
    split at hs
    · split at hs
      · rename_i i hh _ o ho
        rw [lgo_eq] at ho
        split at hs
        · rename_i hw
          obtain ⟨hsp, hb, h1, hs⟩ := sp0_ok hs
          split at hs
          · rename_i hc
            rw [kV0_eq, kOset_eq] at hs
            simp only [Bool.and_eq_true, Bool.not_eq_true'] at hc
            obtain ⟨hc1, hc2⟩ := hc
            have hlt : a.off < o.cells.length := by have := Nat.le_of_ble_eq_true hc1; omega
            obtain ⟨x, w', os', h', hr, hm', hst, hl, hk⟩ := ih hs (hm.put ho hw v hb hsp)
            have hcell : w.cell? a = some (o.cells[a.off]) := by rw [hm.cell ho hw hb hsp]; simp [hlt]
            refine ⟨x, w', os', h', ?_, hm', ?_, ?_, hk⟩
            · cases v <;> first | exact h1.elim | (simp only [Sem.run, hcell, hm.frz ho hw hb]; exact hr)
            · intro j hj hjl
              rw [hst j hj (by rw [oset_eq]; simpa using hjl), oset_eq, List.getElem?_modify]
              have hne : i ≠ j := fun e => by
                subst e
                rw [(mem0_iff (l := st) (n := i)).2 hj] at hc2
                cases hc2
              simp [hne]
            · rw [oset_eq] at hl; simpa using hl
          · exact hs.elim
        · exact hs.elim
      · exact hs.elim
    · split at hs
      · rename_i i kk ys hh _ o ho
        rw [lgo_eq] at ho
        split at hs
        · rename_i u hw
          split at hs
          · exact hs.elim
          · rename_i s hsz
            obtain ⟨hsp, hb, hoff, h1, hys, hlt, hs⟩ := sp0_ok hs
            split at hs
            · exact hs.elim
            · rename_i hms
              rw [kObset_eq, obset_eq] at hs
              obtain ⟨hput, hcell, hfz⟩ := hm.putL ho hw hsz v hb hoff hsp hlt
              rw [hys] at hput
              obtain ⟨x, w', os', h', hr, hm', hst, hl, hk⟩ := ih hs hput
              refine ⟨x, w', os', h', ?_, hm', ?_, ?_, hk⟩
              · cases v <;> first | exact h1.elim | (simp only [Sem.run, hcell, hfz]; exact hr)
              · intro j hj hjl
                have hne : i ≠ j := fun e => by
                  subst e
                  rw [(mem0_iff (l := st) (n := i)).2 hj] at hms
                  cases hms
                rw [hst j hj (by simpa using hjl), List.getElem?_set]
                simp [hne]
              · simpa using hl
        · exact hs.elim
      · exact hs.elim
    · split at hs
      · rename_i i g' hh _ o ho
        rw [lgo_eq] at ho
        split at hs
        · rename_i g hg
          split at hs
          · rename_i hrw hms
            obtain ⟨hgs, h1, hs⟩ := hs
            rw [kObset_eq, obset_eq] at hs
            obtain ⟨⟨u, hcell⟩, hfz, _⟩ := hgs.2.2.2 w ((hm.row _ o ho).gh hg)
            obtain ⟨x, w', os', h', hr, hm', hst, hl, hk⟩ := ih hs (hm.putG ho hg hrw hgs)
            refine ⟨x, w', os', h', ?_, hm', ?_, ?_, hk⟩
            · cases v <;> first | exact h1.elim | (simp only [Sem.run, hcell, hfz]; exact hr)
            · intro j hj hjl
              have hne : i ≠ j := fun e => by
                subst e
                rw [(mem0_iff (l := st) (n := i)).2 hj] at hms
                cases hms
              rw [hst j hj (by simpa using hjl), List.getElem?_set]
              simp [hne]
            · simpa using hl
          · exact hs.elim
        · exact hs.elim
      · exact hs.elim
    · exact hs.elim
  | new o k ih =>
    intro os h K w hs hm
    simp only [symSem] at hs
    split at hs
    · rename_i c e he
      obtain rfl := plainRow_eq he
      rw [kL_eq kV0_eq] at hs
      simp only [kApp_eq] at hs
      obtain ⟨x, w', os', h', hr, hm', hst, hl, hk⟩ := ih _ (hs w.heap.size) (hm.new c e)
      rw [app1_eq] at hst hl
      refine ⟨x, w', os', h', by simp only [Sem.run]; exact hr, hm', fun i hi hlt => ?_, by simp at hl; omega, hk⟩
      rw [hst i hi (by simp; omega), List.getElem?_append_left hlt]
    · exact hs.elim
  | shape r k ih =>
    intro os h K w hs hm
    simp only [symSem, ar_ob, askOb] at hs
    split at hs
    · split at hs
      · rename_i i hh _ o ho
        rw [lgo_eq] at ho
        split at hs
        · rename_i hw
          obtain ⟨hsp, hb, hs⟩ := sp0_ok hs
          obtain ⟨x, w', os', h', hr, h1⟩ := ih _ hs hm
          exact ⟨x, w', os', h', by simp only [Sem.run, hm.shp ho hw hb]; exact hr, h1⟩
        · exact hs.elim
      · exact hs.elim
    · exact hs.elim
  | freeze a n k ih => intro os h K w hs hm; simp [symSem] at hs
  | frozen a k ih =>
    intro os h K w hs hm
    simp only [symSem, ar_ob, askOb] at hs
    split at hs
    · split at hs
      · rename_i i hh _ o ho
        rw [lgo_eq] at ho
        split at hs
        · rename_i hw
          obtain ⟨hsp, hb, hs⟩ := sp0_ok hs
          obtain ⟨x, w', os', h', hr, h1⟩ := ih _ hs hm
          exact ⟨x, w', os', h', by simp only [Sem.run, hm.frz ho hw hb]; exact hr, h1⟩
        · exact hs.elim
      · exact hs.elim
    · exact hs.elim
  | getObj r k ih => intro os h K w hs hm; simp [symSem] at hs
  | setObj r o k ih => intro os h K w hs hm; simp [symSem] at hs
  | choose q k ih =>
    intro os h K w hs hm
    simp only [symSem] at hs
    split at hs
    · rename_i hq
      obtain ⟨x, w', os', h', hr, h1⟩ := ih _ hs hm
      exact ⟨x, w', os', h', by simp only [Sem.run, hq, if_true]; exact hr, h1⟩
    · rename_i hq
      obtain ⟨x, w', os', h', hr, h1⟩ := ih _ (hs (w.tape w.drawn q)) (hm.drawn (w.drawn + 1))
      exact ⟨x, w', os', h', by simp only [Sem.run, hq]; exact hr, h1⟩
  | sys c k ih => intro os h K w hs hm; simp [symSem] at hs
  | program k ih =>
    intro os h K w hs hm
    obtain ⟨x, w', os', h', hr, h1⟩ := ih _ hs hm
    exact ⟨x, w', os', h', by simp only [Sem.run]; exact hr, h1⟩
  | mark m k ih =>
    intro os h K w hs hm
    obtain ⟨x, w', os', h', hr, h1⟩ := ih hs hm
    exact ⟨x, w', os', h', by simp only [Sem.run]; exact hr, h1⟩
  | halt x => intro os h K w hs hm; simp [symSem] at hs
end Go.Proofs.YtjnaficgcellkaaDoor
