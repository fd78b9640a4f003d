/- A function's walk as one computation: the text of a program is read over values with open parts, memory as a list of the call's own rows and of rows that were there before; what is left to show is a plain proposition. -/
import Derived.Handy
import Derived.OrdersHeld
import Derived.Maps.AppendAt
import Derived.Laws.OwnMore
set_option linter.unusedSimpArgs false
set_option linter.unusedVariables false
namespace Go.Proofs.Ytkakhaedipjodaa
open Go.RowKit

/-- A list that the call owns and may append to: its slice. -/
structure Ow where
  a : Option Addr
  n : Nat
  cap : Nat
  size : Nat
/-- A row of the call's own. -/
structure Ob where
  blk : Nat
  cells : List Value
  el : TypeId
  ow : Option Ow := none
/-- A row that was there before the call: what its cells hold. -/
structure Ex where
  blk : Nat
  get : Nat → Option Value
/-- A loop by what holds at each round's head: slots, rows that turn, what is known, a measure; lists that are empty at its entry. -/
structure LoopR : Type 1 where
  α : Type
  ps : α → List (Nat × Value)
  idx : List Nat
  ob : α → List Ob
  inv : α → Prop
  mu : α → Nat
  pre : List (TypeId × Nat)
/-- What the walk cannot reckon by itself: which row an address lies in, which way a test goes, what a callee gives, which operation comes first. -/
inductive Hint : Type 1 where
  | nil
  | ob (i : Nat) (h : Hint)
  | obv (i : Nat) (v : Value) (h : Hint)
  | ex (i : Nat) (v : Value) (h : Hint)
  | lit (h : Hint)
  | split (h1 h2 : Hint)
  | known (b : Bool) (h : Hint)
  | spec (v : Value) (h : Hint)
  | inl (h : Hint)
  | draw (st : List Nat) (h : Hint)
  | take (i : Nat) (h : Hint)
  | br (h1 h2 : Hint)
  | done (h : Hint)
  | rounds (n : Nat) (h : Hint)
  | sem (t : Sem Next) (h : Hint)
  | pl (h : Hint)
  | cut (ps : List (Nat × Value)) (h1 h2 : Hint)
  | nc (h : Hint)
  | no
  | ix (h : Hint)
  | ccut (v : Value) (h1 h2 : Hint)
  | spece (v : Value) (h : Hint)
  | specm (el : TypeId) (size n : Nat) (xs : List Value) (h : Hint)
  | specms (el : TypeId) (size n : Nat) (xs : List Value) (h : Hint)
  | specs (el : TypeId) (size n : Nat) (xs : List Value) (h1 h2 : Hint)
  | app (i j : Nat) (h : Hint)
  | appn (j : Nat) (h : Hint)
  | inv (l : LoopR) (hb : l.α → Hint)
  | specl (el : TypeId) (size n : Nat) (xs : List Value) (h : Hint)

structure SS where
  tmps : List Value
  objs : List Ob

def lget : List Value → Nat → Value
  | [], _ => undef
  | v :: _, 0 => v
  | _ :: l, n + 1 => lget l n
def lset : List Value → Nat → Value → List Value
  | [], _, _ => []
  | _ :: l, 0, v => v :: l
  | x :: l, n + 1, v => x :: lset l n v
def lgo {α : Type} : List α → Nat → Option α
  | [], _ => none
  | v :: _, 0 => some v
  | _ :: l, n + 1 => lgo l n
def oset : List Ob → Nat → Nat → Value → List Ob
  | [], _, _, _ => []
  | o :: l, 0, k, v => ⟨o.blk, lset o.cells k v, o.el, o.ow⟩ :: l
  | o :: l, n + 1, k, v => o :: oset l n k v
def lput (l : List Value) (d : Option Tmp) (v : Value) : List Value :=
  match d with
  | some t => lset l t v
  | none => l
def lev (l : List Value) : Operand → Value
  | .tmp t => lget l t
  | .const v => v
  | .global g => .pointer (some ⟨g, 0, none⟩)
  | .func f => .func (.func f) #[] #[]
def oneC : Value → Prop
  | .agg _ => False
  | .tuple _ => False
  | _ => True
def mem0 : List Nat → Nat → Bool
  | [], _ => false
  | x :: l, n => Nat.beq x n || mem0 l n
def app1 {α : Type} : List α → α → List α
  | [], x => [x]
  | y :: l, x => y :: app1 l x

theorem lget_eq (l : List Value) (n : Nat) : lget l n = l.getD n undef := by
  induction l generalizing n with
  | nil => simp [lget]
  | cons a l ih => cases n <;> simp [lget, ih]
theorem lset_eq (l : List Value) (n : Nat) (v : Value) : lset l n v = l.set n v := by
  induction l generalizing n with
  | nil => simp [lset]
  | cons a l ih => cases n <;> simp [lset, ih]
theorem lgo_eq {α : Type} (l : List α) (n : Nat) : lgo l n = l[n]? := by
  induction l generalizing n with
  | nil => simp [lgo]
  | cons a l ih => cases n <;> simp [lgo, ih]
theorem app1_eq {α : Type} (l : List α) (x : α) : app1 l x = l ++ [x] := by
  induction l with
  | nil => rfl
  | cons a l ih => simp [app1, ih]
theorem oset_eq (l : List Ob) (n k : Nat) (v : Value) : oset l n k v = l.modify n (fun o => ⟨o.blk, lset o.cells k v, o.el, o.ow⟩) := by
  induction l generalizing n with
  | nil => simp [oset]
  | cons a l ih => cases n <;> simp [oset, ih]
theorem mem0_iff {l : List Nat} {n : Nat} : mem0 l n = true ↔ n ∈ l := by
  induction l with
  | nil => simp [mem0]
  | cons a l ih => simp [mem0, ih]; constructor <;> (rintro (h | h) <;> simp [h])

/-! Values and lists are reckoned at once, not handed on unreckoned: each word is 'K' at its value. -/
def kV0 (v : Value) (K : Value → Prop) : Prop :=
  match v with
  | .bool b => K (.bool b)
  | .int k n => K (.int k n)
  | .float k b => K (.float k b)
  | .complex k a b => K (.complex k a b)
  | .string s => K (.string s)
  | .pointer a => K (.pointer a)
  | .slice a l c => K (.slice a l c)
  | .map r => K (.map r)
  | .chan r => K (.chan r)
  | .func fn x y => K (.func fn x y)
  | .nilFunc => K .nilFunc
  | .iface t v => K (.iface t v)
  | .nilIface => K .nilIface
  | .agg c => K (.agg c)
  | .tuple c => K (.tuple c)
def kL (f : Value → (Value → Prop) → Prop) : List Value → (List Value → Prop) → Prop
  | [], K => K []
  | v :: l, K => f v fun v' => kL f l fun l' => K (v' :: l')
def kId (v : Value) (K : Value → Prop) : Prop := K v
def kV1 (v : Value) (K : Value → Prop) : Prop :=
  kV0 v fun v' =>
    match v' with
    | .agg c => kL kV0 c.toList fun l => K (.agg l.toArray)
    | .func fn x y => kL kV0 x.toList fun l => kL kV0 y.toList fun m => K (.func fn l.toArray m.toArray)
    | w => K w
def kV (v : Value) (K : Value → Prop) : Prop :=
  kV1 v fun v' =>
    match v' with
    | .tuple c => kL kV1 c.toList fun l => K (.tuple l.toArray)
    | w => K w
def kSet : List Value → Nat → Value → (List Value → Prop) → Prop
  | [], _, _, K => K []
  | _ :: l, 0, v, K => K (v :: l)
  | x :: l, n + 1, v, K => kSet l n v fun l' => K (x :: l')
def kPut (l : List Value) (d : Option Tmp) (v : Value) (K : List Value → Prop) : Prop :=
  match d with
  | some t => kV v fun v' => kSet l t v' K
  | none => K l
def kOset : List Ob → Nat → Nat → Value → (List Ob → Prop) → Prop
  | [], _, _, _, K => K []
  | o :: l, 0, k, v, K => kSet o.cells k v fun c => K (⟨o.blk, c, o.el, o.ow⟩ :: l)
  | o :: l, n + 1, k, v, K => kOset l n k v fun l' => K (o :: l')
def kApp {α : Type} : List α → α → (List α → Prop) → Prop
  | [], x, K => K [x]
  | y :: l, x, K => kApp l x fun l' => K (y :: l')

theorem kId_eq (v : Value) (K : Value → Prop) : kId v K = K v := rfl
theorem kV0_eq (v : Value) (K : Value → Prop) : kV0 v K = K v := by cases v <;> rfl
theorem kL_eq {f : Value → (Value → Prop) → Prop} (hf : ∀ v K, f v K = K v) (l : List Value) (K : List Value → Prop) : kL f l K = K l := by
  induction l generalizing K with
  | nil => rfl
  | cons v l ih => simp [kL, hf, ih]
theorem kV1_eq (v : Value) (K : Value → Prop) : kV1 v K = K v := by
  unfold kV1
  rw [kV0_eq]
  cases v <;> simp [kL_eq kV0_eq]
theorem kV_eq (v : Value) (K : Value → Prop) : kV v K = K v := by
  unfold kV
  rw [kV1_eq]
  cases v <;> simp [kL_eq kV1_eq]
theorem kSet_eq (l : List Value) (n : Nat) (v : Value) (K : List Value → Prop) : kSet l n v K = K (lset l n v) := by
  induction l generalizing n K with
  | nil => simp [kSet, lset]
  | cons a l ih => cases n <;> simp [kSet, lset, ih]
theorem kPut_eq (l : List Value) (d : Option Tmp) (v : Value) (K : List Value → Prop) : kPut l d v K = K (lput l d v) := by
  cases d <;> simp [kPut, lput, kV_eq, kSet_eq]
theorem kOset_eq (l : List Ob) (n k : Nat) (v : Value) (K : List Ob → Prop) : kOset l n k v K = K (oset l n k v) := by
  induction l generalizing n K with
  | nil => simp [kOset, oset]
  | cons a l ih => cases n <;> simp [kOset, oset, ih, kSet_eq]
theorem kApp_eq {α : Type} (l : List α) (x : α) (K : List α → Prop) : kApp l x K = K (app1 l x) := by
  induction l generalizing K with
  | nil => rfl
  | cons a l ih => simp [kApp, app1, ih]

/-- A plain address (none into a stand-in). -/
def sp0 (a : Addr) (p : Prop) : Prop := match a.spot with | none => p | some _ => False
theorem sp0_ok {a : Addr} {p : Prop} (h : sp0 a p) : a.spot = none ∧ p := by
  unfold sp0 at h
  split at h
  · rename_i e; exact ⟨e, h⟩
  · exact h.elim
/-- The address lies in the call's own row i: what is then to be shown. -/
def askOb (h : Hint) (a : Addr) (os : List Ob) (K : Nat → Ob → Hint → Prop) : Prop :=
  match h with
  | .ob i h' =>
    match lgo os i with
    | some o => (match o.ow with | none => sp0 a (a.block = o.blk ∧ K i o h') | some _ => False)
    | none => False
  | _ => False
/-- An address in a row: in a plain one, in a list's. -/
def rowAt (o : Ob) (a : Addr) (p : Prop) : Prop :=
  match o.ow with
  | none => sp0 a (a.block = o.blk ∧ p)
  | some w => match w.a with | some q => sp0 a (a.block = q.block ∧ p) | none => False
/-- What is read at an address. -/
def askLoad (E : List Ex) (h : Hint) (a : Addr) (os : List Ob) (K : Value → Hint → Prop) : Prop :=
  match h with
  | .ob i h' =>
    match lgo os i with
    | some o => rowAt o a (match lgo o.cells a.off with | some v => K v h' | none => False)
    | none => False
  | .obv i v h' =>
    match lgo os i with
    | some o => rowAt o a (lgo o.cells a.off = some v ∧ K v h')
    | none => False
  | .ex i v h' =>
    match lgo E i with
    | some o => sp0 a (a.block = o.blk ∧ o.get a.off = some v ∧ K v h')
    | none => False
  | _ => False
def askBool (h : Hint) (b : Bool) (K : Bool → Hint → Prop) : Prop :=
  match h with
  | .lit h' => (match b with | true => K true h' | false => K false h')
  | .split h1 h2 => (b = true → (match h1 with | .no => False | h => K true h)) ∧ (b = false → (match h2 with | .no => False | h => K false h))
  | .known v h' => b = v ∧ (match v with | true => K true h' | false => K false h')
  | _ => False

def SpecP (P : Program) (f : FuncId) (args : Array Value) (v : Value) : Prop := ∀ w, Calls P f args w fun e w' => e = .returned v ∧ Below w.heap.size w w'
/-- A callee that gives a list of its own. -/
def SpecL (P : Program) (f : FuncId) (args : Array Value) (el : TypeId) (size n : Nat) (xs : List Value) : Prop :=
  ∀ w, Calls P f args w fun e w' => ∃ a cap, e = .returned (.slice a n cap) ∧ w'.ownsRow w.heap.size el size (.slice a n cap) n xs ∧ Below w.heap.size w w'
/-- The rows that were there hold what is known of them. -/
def ExtOK (E : List Ex) (w : World) : Prop := ∀ e ∈ E, ∀ off v, e.get off = some v → w.cell? ⟨e.blk, off, none⟩ = some v
def SpecQ (P : Program) (E : List Ex) (f : FuncId) (args : Array Value) (v : Value) : Prop := ∀ w, ExtOK E w → Calls P f args w fun e w' => e = .returned v ∧ Below w.heap.size w w'
def SpecM (P : Program) (E : List Ex) (f : FuncId) (args : Array Value) (el : TypeId) (size n : Nat) (xs : List Value) : Prop :=
  ∀ w, ExtOK E w → Calls P f args w fun e w' => ∃ a cap, e = .returned (.slice a n cap) ∧ w'.ownsRow w.heap.size el size (.slice a n cap) n xs ∧ Below w.heap.size w w'
/-- What is known of a callee: a value and nothing turned; a list of its own. -/
def askSpec (P : Program) (E : List Ex) (h : Hint) (f : FuncId) (args : Array Value) (os : List Ob) (K : Value → List Ob → Hint → Prop) (I : Hint → Prop) (C : Value → Hint → Prop) : Prop :=
  match h with
  | .spec v h' => SpecP P f args v ∧ K v os h'
  | .spece v h' => SpecQ P E f args v ∧ K v os h'
  | .specl el size n xs h' => SpecL P f args el size n xs ∧ ∀ a cap, kApp os ⟨0, xs, el, some ⟨a, n, cap, size⟩⟩ fun os' => K (.slice a n cap) os' h'
  | .specm el size n xs h' => SpecM P E f args el size n xs ∧ ∀ a cap, kApp os ⟨0, xs, el, some ⟨a, n, cap, size⟩⟩ fun os' => K (.slice a n cap) os' h'
  | .specms el size n xs h' => SpecM P E f args el size n xs ∧
      (match n with
      | 0 => False
      | _ + 1 => ∀ g cap, kApp os ⟨0, xs, el, some ⟨some ⟨g, 0, none⟩, n, cap, size⟩⟩ fun os' => K (.slice (some ⟨g, 0, none⟩) n cap) os' h')
  | .specs el size n xs h1 h2 => SpecL P f args el size n xs ∧ (n = 0 → kApp os ⟨0, [], el, some ⟨none, 0, 0, size⟩⟩ fun os' => K (.slice none 0 0) os' h1) ∧
      ∀ g cap, kApp os ⟨0, xs, el, some ⟨some ⟨g, 0, none⟩, n, cap, size⟩⟩ fun os' => K (.slice (some ⟨g, 0, none⟩) n cap) os' h2
  | .ccut v h1 h2 => C v h1 ∧ K v os h2
  | .inl h' => I h'
  | _ => False
def allOne : List Value → Bool
  | [] => true
  | v :: l => v.oneCell' && allOne l
theorem allOne_mem {l : List Value} (h : allOne l = true) : ∀ u ∈ l, u.oneCell' = true := by
  induction l with
  | nil => intro u hu; cases hu
  | cons v l ih =>
    simp only [allOne, Bool.and_eq_true] at h
    intro u hu
    cases hu with
    | head => exact h.1
    | tail _ hu => exact ih h.2 u hu
def obset : List Ob → Nat → Ob → List Ob
  | [], _, _ => []
  | _ :: l, 0, o => o :: l
  | p :: l, n + 1, o => p :: obset l n o
theorem obset_eq (l : List Ob) (n : Nat) (o : Ob) : obset l n o = l.set n o := by
  induction l generalizing n with
  | nil => simp [obset]
  | cons a l ih => cases n <;> simp [obset, ih]
def kObset : List Ob → Nat → Ob → (List Ob → Prop) → Prop
  | [], _, _, K => K []
  | _ :: l, 0, o, K => K (o :: l)
  | p :: l, n + 1, o, K => kObset l n o fun l' => K (p :: l')
theorem kObset_eq (l : List Ob) (n : Nat) (o : Ob) (K : List Ob → Prop) : kObset l n o K = K (obset l n o) := by
  induction l generalizing n K with
  | nil => simp [kObset, obset]
  | cons a l ih => cases n <;> simp [kObset, obset, ih]
def lapp {α : Type} : List α → List α → List α
  | [], l => l
  | x :: r, l => x :: lapp r l
theorem lapp_eq {α : Type} (l r : List α) : lapp l r = l ++ r := by
  induction l with
  | nil => rfl
  | cons x l ih => simp [lapp, ih]
/-- What the types say of a list's elements: type, cells, bytes. -/
def elOf (P : Program) (t : TypeId) : Option (TypeId × Nat × Nat) :=
  match P.underlying t with
  | some (.slice e) =>
    (match P.info? e with
    | some i =>
      (match i.zero with
      | some z => (match Nat.beq z.cells.size i.size && Nat.ble 1 i.size with | true => some (e, i.size, i.bytes) | false => none)
      | none => none)
    | none => none)
  | _ => none
/-- The one that is appended: a row of just these cells. -/
def newsAt (os : List Ob) (j : Nat) (x : Value) (size : Nat) (K : List Value → Nat → Prop) : Prop :=
  match x with
  | .slice (some p) m _ =>
    match lgo os j with
    | some o =>
      match o.ow with
      | none => sp0 p (p.block = o.blk ∧ (match Nat.beq p.off 0 && Nat.beq o.cells.length (m * size) && Nat.ble 1 m && allOne o.cells with | true => K o.cells m | false => False))
      | some _ => False
    | none => False
  | _ => False
def symApp (P : Program) (st : List Nat) (s x : Value) (t : TypeId) (os : List Ob) (h : Hint) (K : Value → List Ob → Hint → Prop) : Prop :=
  match elOf P t with
  | none => False
  | some (e, size, bytes) =>
    match h with
    | .app i j h' =>
      match lgo os i with
      | some o =>
        match o.ow, s with
        | some ow, .slice a n c =>
          match Nat.beq o.el e && Nat.beq ow.size size && !(mem0 st i) with
          | true => a = ow.a ∧ n = ow.n ∧ c = ow.cap ∧ newsAt os j x size fun news m => (n + m) * (bytes + 1) ≤ 140737488355328 ∧
              ∀ g cap : Nat, kObset os i ⟨0, lapp o.cells news, e, some ⟨some ⟨g, 0, none⟩, n + m, cap, size⟩⟩ fun os' => K (.slice (some ⟨g, 0, none⟩) (n + m) cap) os' h'
          | false => False
        | _, _ => False
      | none => False
    | .appn j h' =>
      match s with
      | .slice none n c =>
        match Nat.beq n 0 && Nat.beq c 0 with
        | true => newsAt os j x size fun news m => m * (bytes + 1) ≤ 140737488355328 ∧
            ∀ g cap : Nat, kApp os ⟨0, news, e, some ⟨some ⟨g, 0, none⟩, m, cap, size⟩⟩ fun os' => K (.slice (some ⟨g, 0, none⟩) m cap) os' h'
        | false => False
      | _ => False
    | _ => False
/-- Whom the walk asks. -/
structure Asks where
  ob : Hint → Addr → List Ob → (Nat → Ob → Hint → Prop) → Prop
  load : List Ex → Hint → Addr → List Ob → (Value → Hint → Prop) → Prop
  loadQ : List Ex → List Nat → Hint → Addr → List Ob → (Value → Hint → Prop) → Prop
  bool : Hint → Bool → (Bool → Hint → Prop) → Prop
  sem : Sem Next → Hint → (Sem Next → Hint → Prop) → Prop
  br : Hint → (Hint → Hint → Prop) → Prop
  reg : Hint → (Hint → Prop) → (Nat → Hint → Prop) → (Hint → Prop) → Prop
  draw : Hint → (List Nat → Hint → Prop) → Prop
  loop : Hint → (Nat → Hint → Prop) → ((l : LoopR) → (l.α → Hint) → Prop) → Prop
  call : Program → List Ex → Hint → FuncId → Array Value → List Ob → (Value → List Ob → Hint → Prop) → (Hint → Prop) → (Value → Hint → Prop) → Prop
  ix : Hint → Prop → (Hint → Prop) → (Hint → Prop) → Prop
  cut : Bool → Hint → Code → SS → (Hint → Prop) → (List (Nat × Value) → Hint → Hint → Prop) → Prop
  app : Program → List Nat → Value → Value → TypeId → List Ob → Hint → (Value → List Ob → Hint → Prop) → Prop
def askLoadQ (E : List Ex) (st : List Nat) (h : Hint) (a : Addr) (os : List Ob) (K : Value → Hint → Prop) : Prop :=
  match h with
  | .ob i h' =>
    match lgo os i with
    | some o => rowAt o a (match mem0 st i with | true => (match lgo o.cells a.off with | some v => K v h' | none => False) | false => False)
    | none => False
  | .obv i v h' =>
    match lgo os i with
    | some o => rowAt o a (lgo o.cells a.off = some v ∧ (match mem0 st i with | true => K v h' | false => False))
    | none => False
  | .ex i v h' =>
    match lgo E i with
    | some o => sp0 a (a.block = o.blk ∧ o.get a.off = some v ∧ K v h')
    | none => False
  | _ => False
def askSem (t : Sem Next) (h : Hint) (K : Sem Next → Hint → Prop) : Prop :=
  match h with
  | .pl h' => K t h'
  | .sem u h' => t = u ∧ K u h'
  | _ => False
def askBr (h : Hint) (K : Hint → Hint → Prop) : Prop :=
  match h with
  | .br h1 h2 => K h1 h2
  | _ => False
def askReg (h : Hint) (D : Hint → Prop) (T : Nat → Hint → Prop) (A : Hint → Prop) : Prop :=
  match h with
  | .done h' => D h'
  | .take i h' => T i h'
  | .pl h' => A h'
  | _ => False
def askDraw (h : Hint) (K : List Nat → Hint → Prop) : Prop :=
  match h with
  | .draw st h' => K st h'
  | _ => False
def askLoop (h : Hint) (U : Nat → Hint → Prop) (I : (l : LoopR) → (l.α → Hint) → Prop) : Prop :=
  match h with
  | .rounds k h' => U k h'
  | .inv l hb => I l hb
  | _ => False
def askCut (b : Bool) (h : Hint) (_ : Code) (_ : SS) (N : Hint → Prop) (C : List (Nat × Value) → Hint → Hint → Prop) : Prop :=
  match b with
  | true => (match h with | .cut ps h1 h2 => C ps h1 h2 | .nc h' => N h' | h' => N h')
  | false => N h
/-- An index that is open: it lies within. -/
def askIx (h : Hint) (p : Prop) (Y N : Hint → Prop) : Prop :=
  match h with
  | .ix h' => p ∧ Y h'
  | h' => N h'
def asksReal : Asks := ⟨askOb, askLoad, askLoadQ, askBool, askSem, askBr, askReg, askDraw, askLoop, askSpec, askIx, askCut, symApp⟩
theorem ar_ob : asksReal.ob = askOb := rfl
theorem ar_load : asksReal.load = askLoad := rfl
theorem ar_loadQ : asksReal.loadQ = askLoadQ := rfl
theorem ar_bool : asksReal.bool = askBool := rfl
theorem ar_sem : asksReal.sem = askSem := rfl
theorem ar_br : asksReal.br = askBr := rfl
theorem ar_reg : asksReal.reg = askReg := rfl
theorem ar_draw : asksReal.draw = askDraw := rfl
theorem ar_loop : asksReal.loop = askLoop := rfl
theorem ar_call : asksReal.call = askSpec := rfl
theorem ar_ix : asksReal.ix = askIx := rfl
theorem ar_cut : asksReal.cut = askCut := rfl
theorem ar_app : asksReal.app = symApp := rfl
def plainRow : Obj → Option (Array Value × TypeId)
  | .cells c e (0, 0) => some (c, e)
  | _ => none
theorem plainRow_eq {o : Obj} {c : Array Value} {e : TypeId} (h : plainRow o = some (c, e)) : o = .cells c e (0, 0) := by
  unfold plainRow at h
  split at h
  · simp at h; obtain ⟨rfl, rfl⟩ := h; rfl
  · cases h
/-- One operation's own steps. 'st': the rows that it may not write. -/
def symSem {α : Type} (A : Asks) (P : Program) (E : List Ex) (st : List Nat) : Sem α → List Ob → Hint → (α → List Ob → Hint → Prop) → Prop
  | .pure x, os, h, K => K x os h
  | .load _ a k, os, h, K => A.load E h a os fun v h' => symSem A P E st (k v) os h' K
  | .store _ a v k, os, h, K => A.ob h a os fun i o h' =>
      oneC v ∧ (match Nat.ble (a.off + 1) o.cells.length && !(mem0 st i) with
        | true => kV0 v fun v' => kOset os i a.off v' fun os' => symSem A P E st k os' h' K
        | false => False)
  | .new o k, os, h, K =>
    match plainRow o with
    | some (c, e) => kL kV0 c.toList fun l => ∀ b : Nat, kApp os ⟨b, l, e, none⟩ fun os' => symSem A P E st (k b) os' h K
    | none => False
  | .shape r k, os, h, K => A.ob h ⟨r, 0, none⟩ os fun _ o h' => symSem A P E st (k (some (o.el, o.cells.length))) os h' K
  | .frozen a k, os, h, K => A.ob h a os fun _ _ h' => symSem A P E st (k false) os h' K
  | .choose q k, os, h, K =>
    match q.forced with
    | true => symSem A P E st (k 0) os h K
    | false => ∀ t : Nat, symSem A P E st (k (q.cut t)) os h K
  | .program k, os, h, K => symSem A P E st (k P) os h K
  | .mark _ k, os, h, K => symSem A P E st k os h K
  | _, _, _, _ => False

/-- A row stands in memory. -/
def Ob.ok (base : Nat) (o : Ob) (w : World) : Prop :=
  match o.ow with
  | none => base ≤ o.blk ∧ w.heap[o.blk]? = some (.cells o.cells.toArray o.el (0, 0))
  | some v => w.ownsRow base o.el v.size (.slice v.a v.n v.cap) v.n o.cells
def Ob.key (o : Ob) : Option Nat :=
  match o.ow with
  | none => some o.blk
  | some v => v.a.map (·.block)
theorem ownBlock_slice (a : Option Addr) (n c : Nat) : Value.ownBlock (.slice a n c) = a.map (·.block) := by cases a <;> rfl
theorem Ob.ok.lt {base : Nat} {o : Ob} {w : World} (h : o.ok base w) {k : Nat} (hk : o.key = some k) : base ≤ k ∧ k < w.heap.size := by
  unfold Ob.ok at h
  unfold Ob.key at hk
  split at h
  · rename_i e
    rw [e] at hk
    simp only [Option.some.injEq] at hk
    subst hk
    exact ⟨h.1, (Array.getElem?_eq_some_iff.1 h.2).1⟩
  · rename_i v e
    rw [e] at hk
    exact World.ownsRow.lt h k (by rw [ownBlock_slice]; exact hk)
theorem ownsRow_of_block {w w' : World} {base : Nat} {e : TypeId} {size : Nat} {v : Value} {n : Nat} {xs : List Value} (h : w.ownsRow base e size v n xs) (hb : ∀ k, v.ownBlock = some k → w'.heap[k]? = w.heap[k]?) : w'.ownsRow base e size v n xs := by
  refine ⟨h.1, ?_⟩
  rcases h.2 with h2 | ⟨g, cap, cur, rfl, h3, h4, h5⟩
  · exact Or.inl h2
  · exact Or.inr ⟨g, cap, cur, rfl, h3, by rw [hb g rfl]; exact h4, h5⟩
theorem Ob.ok.same {base : Nat} {o : Ob} {w w' : World} (h : o.ok base w) (hb : ∀ k, o.key = some k → w'.heap[k]? = w.heap[k]?) : o.ok base w' := by
  unfold Ob.ok at h ⊢
  unfold Ob.key at hb
  split at h
  · rename_i e
    rw [e] at hb
    exact ⟨h.1, by rw [hb _ rfl]; exact h.2⟩
  · rename_i v e
    rw [e] at hb
    exact ownsRow_of_block h fun k hk => hb k (by rw [ownBlock_slice] at hk; exact hk)
theorem Ob.ok.cell {base : Nat} {o : Ob} {w : World} (h : o.ok base w) {a : Addr} {p : Prop} (hr : rowAt o a p) : p ∧ ∀ v, o.cells[a.off]? = some v → w.cell? a = some v := by
  unfold Ob.ok at h
  unfold rowAt at hr
  split at h
  · rename_i e
    rw [e] at hr
    obtain ⟨hs, hb, hp⟩ := sp0_ok hr
    refine ⟨hp, fun v hv => ?_⟩
    unfold World.cell?
    rw [hb, h.2]
    simp [hs, hv]
  · rename_i u e
    rw [e] at hr
    simp only at hr
    split at hr
    · rename_i q eq
      obtain ⟨hs, hb, hp⟩ := sp0_ok hr
      refine ⟨hp, fun v hv => ?_⟩
      have h2 := h.2
      rw [eq] at h2
      rcases h2 with ⟨hn, _⟩ | ⟨g, cap, cur, he, _⟩
      · cases hn
      · injection he with h1 _ _
        injection h1 with h1
        subst h1
        have hc := World.ownsRow.cells h (g := g) (by rw [eq]; rfl) a.off v hv
        have : a = (⟨g, 0, none⟩ : Addr).add a.off := by cases a; simp_all [Addr.add]
        rw [this]; exact hc
    · exact hr.elim

/-- Own rows stand in memory; of what was there before nothing has turned. -/
structure MRep (w0 : World) (E : List Ex) (os : List Ob) (w : World) : Prop where
  below : Below w0.heap.size w0 w
  row : ∀ (i : Nat) (o : Ob), os[i]? = some o → o.ok w0.heap.size w
  apart : ∀ (i j : Nat) (o p : Ob) (k : Nat), os[i]? = some o → os[j]? = some p → o.key = some k → p.key = some k → i = j
  ext : ∀ e ∈ E, ∀ off v, e.get off = some v → w0.cell? ⟨e.blk, off, none⟩ = some v

theorem MRep.drawn {w0 : World} {E : List Ex} {os : List Ob} {w : World} (h : MRep w0 E os w) (n : Nat) : MRep w0 E os { w with drawn := n } :=
  ⟨⟨h.below.os, h.below.tape, h.below.output, h.below.size, h.below.block⟩, fun i o ho => (h.row i o ho).same fun _ _ => rfl, h.apart, h.ext⟩
theorem MRep.pre {w0 : World} {E : List Ex} {os os' : List Ob} {w : World} (h : MRep w0 E os' w) (hs : ∀ i, i < os.length → os'[i]? = os[i]?) : MRep w0 E os w := by
  have key : ∀ (i : Nat) (o : Ob), os[i]? = some o → os'[i]? = some o := fun i o ho => by rw [hs i (List.getElem?_eq_some_iff.1 ho).1]; exact ho
  exact ⟨h.below, fun i o ho => h.row i o (key i o ho), fun i j o p k ho hp => h.apart i j o p k (key i o ho) (key j p hp), h.ext⟩
theorem MRep.plain {w0 : World} {E : List Ex} {os : List Ob} {w : World} (h : MRep w0 E os w) {i : Nat} {o : Ob} (ho : os[i]? = some o) (hw : o.ow = none) : w0.heap.size ≤ o.blk ∧ w.heap[o.blk]? = some (.cells o.cells.toArray o.el (0, 0)) := by
  have := h.row i o ho
  unfold Ob.ok at this
  rw [hw] at this
  exact this
theorem MRep.cell {w0 : World} {E : List Ex} {os : List Ob} {w : World} (h : MRep w0 E os w) {i : Nat} {o : Ob} (ho : os[i]? = some o) (hw : o.ow = none) {a : Addr} (hb : a.block = o.blk) (hs : a.spot = none) : w.cell? a = o.cells[a.off]? := by
  have := (h.plain ho hw).2
  unfold World.cell?
  rw [hb, this]
  simp [hs]
theorem MRep.frz {w0 : World} {E : List Ex} {os : List Ob} {w : World} (h : MRep w0 E os w) {i : Nat} {o : Ob} (ho : os[i]? = some o) (hw : o.ow = none) {a : Addr} (hb : a.block = o.blk) : w.frozen? a = false := by
  have := (h.plain ho hw).2
  unfold World.frozen?
  rw [hb, this]
  simp
theorem MRep.shp {w0 : World} {E : List Ex} {os : List Ob} {w : World} (h : MRep w0 E os w) {i : Nat} {o : Ob} (ho : os[i]? = some o) (hw : o.ow = none) {r : Nat} (hb : r = o.blk) : w.shape? r = some (o.el, o.cells.length) := by
  have := (h.plain ho hw).2
  unfold World.shape?
  rw [hb, this]
  simp
theorem cell_lt {w : World} {a : Addr} {v : Value} (h : w.cell? a = some v) : a.block < w.heap.size := by
  unfold World.cell? at h
  cases hh : w.heap[a.block]? with
  | none => rw [hh] at h; cases h
  | some o => exact (Array.getElem?_eq_some_iff.1 hh).1
theorem MRep.extc {w0 : World} {E : List Ex} {os : List Ob} {w : World} (h : MRep w0 E os w) {i : Nat} {o : Ex} (ho : E[i]? = some o) {a : Addr} {v : Value} (hb : a.block = o.blk) (hs : a.spot = none) (hv : o.get a.off = some v) : w.cell? a = some v := by
  have h1 := h.ext o (List.mem_of_getElem? ho) _ _ hv
  have h2 := cell_lt h1
  have e : a = ⟨o.blk, a.off, none⟩ := by cases a; simp_all
  rw [e, h.below.cell (p := ⟨o.blk, a.off, none⟩) h2]
  exact h1
theorem MRep.put {w0 : World} {E : List Ex} {os : List Ob} {w : World} (h : MRep w0 E os w) {i : Nat} {o : Ob} (ho : os[i]? = some o) (hw : o.ow = none) {a : Addr} (v : Value) (hb : a.block = o.blk) (hs : a.spot = none) : MRep w0 E (oset os i a.off v) (w.setCell a v) := by
  have hr := h.plain ho hw
  have hk : o.key = some o.blk := by unfold Ob.key; rw [hw]
  refine ⟨h.below.setCell (by rw [hb]; exact hr.1) v, ?_, ?_, h.ext⟩
  · intro j p hp
    rw [oset_eq, List.getElem?_modify] at hp
    by_cases hij : i = j
    · subst hij
      rw [ho] at hp
      simp at hp
      subst hp
      unfold Ob.ok
      simp only [hw]
      refine ⟨hr.1, ?_⟩
      simp only [World.setCell, Array.getElem?_modify, hb, if_true]
      rw [hr.2]
      simp [hs, lset_eq]
    · simp [hij] at hp
      refine (h.row j p hp).same fun k hpk => ?_
      exact Below.heap_setCell _ _ _ _ (fun e => hij (h.apart i j o p k ho hp (by rw [hk, ← hb, e]) hpk))
  · intro j k p q c hp hq e1 e2
    rw [oset_eq, List.getElem?_modify] at hp hq
    obtain ⟨p', hp', ep⟩ : ∃ p', os[j]? = some p' ∧ p'.key = p.key := by
      cases hh : os[j]? with
      | none => rw [hh] at hp; simp at hp
      | some p' => rw [hh] at hp; simp at hp; refine ⟨p', rfl, ?_⟩; split at hp <;> (subst hp; rfl)
    obtain ⟨q', hq', eq⟩ : ∃ p', os[k]? = some p' ∧ p'.key = q.key := by
      cases hh : os[k]? with
      | none => rw [hh] at hq; simp at hq
      | some p' => rw [hh] at hq; simp at hq; refine ⟨p', rfl, ?_⟩; split at hq <;> (subst hq; rfl)
    exact h.apart j k p' q' c hp' hq' (by rw [ep, e1]) (by rw [eq, e2])
theorem heap_push_lt (w : World) (o : Obj) (k : Nat) (h : k < w.heap.size) : (w.heap.push o)[k]? = w.heap[k]? := by
  rw [Array.getElem?_push, if_neg (by omega)]
theorem MRep.add {w0 : World} {E : List Ex} {os : List Ob} {w w' : World} (h : MRep w0 E os w) (o : Ob) (hb : Below w.heap.size w w') (hk : ∀ k, o.key = some k → w.heap.size ≤ k) (hok : o.ok w0.heap.size w') : MRep w0 E (app1 os o) w' := by
  have hlt : ∀ (i : Nat) (o : Ob) (k : Nat), os[i]? = some o → o.key = some k → k < w.heap.size := fun i o k ho hk => ((h.row i o ho).lt hk).2
  refine ⟨h.below.trans (hb.mono h.below.size), ?_, ?_, h.ext⟩
  · intro i p hp
    rw [app1_eq, List.getElem?_append] at hp
    split at hp
    · exact (h.row i p hp).same fun k hk => hb.block k (hlt i p k hp hk)
    · rename_i hi
      cases hk : i - os.length with
      | zero => rw [hk] at hp; simp at hp; subst hp; exact hok
      | succ n => rw [hk] at hp; simp at hp
  · intro i j p q c hp hq e1 e2
    rw [app1_eq, List.getElem?_append] at hp hq
    split at hp <;> split at hq
    · exact h.apart i j p q c hp hq e1 e2
    · exfalso
      cases hkk : j - os.length with
      | zero => rw [hkk] at hq; simp at hq; subst hq; have := hlt i p c hp e1; have := hk c e2; omega
      | succ n => rw [hkk] at hq; simp at hq
    · exfalso
      cases hkk : i - os.length with
      | zero => rw [hkk] at hp; simp at hp; subst hp; have := hlt j q c hq e2; have := hk c e1; omega
      | succ n => rw [hkk] at hp; simp at hp
    · cases hkk : i - os.length with
      | zero =>
        cases hl : j - os.length with
        | zero => omega
        | succ n => rw [hl] at hq; simp at hq
      | succ n => rw [hkk] at hp; simp at hp
theorem MRep.new {w0 : World} {E : List Ex} {os : List Ob} {w : World} (h : MRep w0 E os w) (c : Array Value) (e : TypeId) : MRep w0 E (app1 os ⟨w.heap.size, c.toList, e, none⟩) { w with heap := w.heap.push (.cells c e (0, 0)) } := by
  refine h.add _ (Below.alloc (Below.refl _ w) (Nat.le_refl _) (.cells c e (0, 0))) (fun k hk => by simp [Ob.key] at hk; omega) ?_
  unfold Ob.ok
  exact ⟨h.below.size, by simp⟩
/-- A list's row is replaced by what append makes of it. -/
theorem MRep.grow {w0 : World} {E : List Ex} {os : List Ob} {w w' : World} (h : MRep w0 E os w) {i : Nat} {o o' : Ob} (ho : os[i]? = some o) (hg : w.grownBy w' o.key) (hk : o'.key = o.key ∨ o'.key = some w.heap.size) (hok : o'.ok w0.heap.size w') : MRep w0 E (os.set i o') w' := by
  have hi : i < os.length := (List.getElem?_eq_some_iff.1 ho).1
  have hlt : ∀ (i : Nat) (o : Ob) (k : Nat), os[i]? = some o → o.key = some k → k < w.heap.size := fun i o k ho hk => ((h.row i o ho).lt hk).2
  refine ⟨h.below.grown hg h.below.size fun k hk => ((h.row i o ho).lt hk).1, ?_, ?_, h.ext⟩
  · intro j p hp
    rw [List.getElem?_set] at hp
    split at hp
    · simp [hi] at hp; subst hp; exact hok
    · rename_i hij
      exact (h.row j p hp).same fun k hpk => hg.block k (hlt j p k hp hpk) fun e => hij (h.apart i j o p k ho hp e.symm hpk)
  · intro j l p q c hp hq e1 e2
    rw [List.getElem?_set] at hp hq
    have other : ∀ (j : Nat) (q : Ob), ¬ i = j → os[j]? = some q → o'.key = some c → q.key = some c → False := by
      intro j q hij hq e1 e2
      rcases hk with hk | hk
      · exact hij (h.apart i j o q c ho hq (by rw [← hk]; exact e1) e2)
      · have := hlt j q c hq e2
        rw [hk] at e1
        simp at e1
        omega
    split at hp <;> split at hq
    · omega
    · rename_i h1 h2
      simp [hi] at hp; subst hp
      exact (other l q h2 hq e1 e2).elim
    · rename_i h1 h2
      simp [hi] at hq; subst hq
      exact (other j p h1 hp e2 e1).elim
    · exact h.apart j l p q c hp hq e1 e2

theorem symSem_run {α : Type} {P : Program} {E : List Ex} {st : List Nat} {w0 : World} (t : Sem α) :
    ∀ {os : List Ob} {h : Hint} {K : α → List Ob → Hint → Prop} {w : World}, symSem asksReal P E st t os h K → MRep w0 E os w →
      ∃ x w' os' h', t.run P w = .ok x w' ∧ MRep w0 E os' w' ∧ (∀ i ∈ st, i < os.length → os'[i]? = os[i]?) ∧ os.length ≤ os'.length ∧ K x os' h' := by
  induction t with
  | pure x => exact fun hs hm => ⟨x, _, _, _, rfl, hm, fun _ _ _ => rfl, Nat.le_refl _, hs⟩
  | load m a k ih =>
    intro os h K w hs hm
    simp only [symSem, ar_load, askLoad] at hs
    split at hs
    · split at hs
      · rename_i o ho
        rw [lgo_eq] at ho
        obtain ⟨hs, hc⟩ := (hm.row _ o ho).cell hs
        split at hs
        · rename_i v hv
          rw [lgo_eq] at hv
          obtain ⟨x, w', os', h', hr, h1⟩ := ih v hs hm
          exact ⟨x, w', os', h', by simp only [Sem.run, hc v hv]; exact hr, h1⟩
        · exact hs.elim
      · exact hs.elim
    · split at hs
      · rename_i o ho
        rw [lgo_eq] at ho
        obtain ⟨⟨hv, hs⟩, hc⟩ := (hm.row _ o ho).cell hs
        rw [lgo_eq] at hv
        obtain ⟨x, w', os', h', hr, h1⟩ := ih _ hs hm
        exact ⟨x, w', os', h', by simp only [Sem.run, hc _ hv]; exact hr, h1⟩
      · exact hs.elim
    · split at hs
      · rename_i o ho
        rw [lgo_eq] at ho
        obtain ⟨hsp, hb, hv, hs⟩ := sp0_ok hs
        obtain ⟨x, w', os', h', hr, h1⟩ := ih _ hs hm
        exact ⟨x, w', os', h', by simp only [Sem.run, hm.extc ho hb hsp hv]; exact hr, h1⟩
      · exact hs.elim
    · exact hs.elim
  | store m a v k ih =>
    intro os h K w hs hm
    simp only [symSem, ar_ob, askOb] at hs
    split at hs
    · split at hs
      · rename_i i hh _ o ho
        rw [lgo_eq] at ho
        split at hs
        · rename_i hw
          obtain ⟨hsp, hb, h1, hs⟩ := sp0_ok hs
          split at hs
          · rename_i hc
            rw [kV0_eq, kOset_eq] at hs
            simp only [Bool.and_eq_true, Bool.not_eq_true'] at hc
            obtain ⟨hc1, hc2⟩ := hc
            have hlt : a.off < o.cells.length := by have := Nat.le_of_ble_eq_true hc1; omega
            obtain ⟨x, w', os', h', hr, hm', hst, hl, hk⟩ := ih hs (hm.put ho hw v hb hsp)
            have hcell : w.cell? a = some (o.cells[a.off]) := by rw [hm.cell ho hw hb hsp]; simp [hlt]
            refine ⟨x, w', os', h', ?_, hm', ?_, ?_, hk⟩
            · cases v <;> first | exact h1.elim | (simp only [Sem.run, hcell, hm.frz ho hw hb]; exact hr)
            · intro j hj hjl
              rw [hst j hj (by rw [oset_eq]; simpa using hjl), oset_eq, List.getElem?_modify]
              have hne : i ≠ j := fun e => by
                subst e
                rw [(mem0_iff (l := st) (n := i)).2 hj] at hc2
                cases hc2
              simp [hne]
            · rw [oset_eq] at hl; simpa using hl
          · exact hs.elim
        · exact hs.elim
      · exact hs.elim
    · exact hs.elim
  | new o k ih =>
    intro os h K w hs hm
    simp only [symSem] at hs
    split at hs
    · rename_i c e he
      obtain rfl := plainRow_eq he
      rw [kL_eq kV0_eq] at hs
      simp only [kApp_eq] at hs
      obtain ⟨x, w', os', h', hr, hm', hst, hl, hk⟩ := ih _ (hs w.heap.size) (hm.new c e)
      rw [app1_eq] at hst hl
      refine ⟨x, w', os', h', by simp only [Sem.run]; exact hr, hm', fun i hi hlt => ?_, by simp at hl; omega, hk⟩
      rw [hst i hi (by simp; omega), List.getElem?_append_left hlt]
    · exact hs.elim
  | shape r k ih =>
    intro os h K w hs hm
    simp only [symSem, ar_ob, askOb] at hs
    split at hs
    · split at hs
      · rename_i i hh _ o ho
        rw [lgo_eq] at ho
        split at hs
        · rename_i hw
          obtain ⟨hsp, hb, hs⟩ := sp0_ok hs
          obtain ⟨x, w', os', h', hr, h1⟩ := ih _ hs hm
          exact ⟨x, w', os', h', by simp only [Sem.run, hm.shp ho hw hb]; exact hr, h1⟩
        · exact hs.elim
      · exact hs.elim
    · exact hs.elim
  | freeze a n k ih => intro os h K w hs hm; simp [symSem] at hs
  | frozen a k ih =>
    intro os h K w hs hm
    simp only [symSem, ar_ob, askOb] at hs
    split at hs
    · split at hs
      · rename_i i hh _ o ho
        rw [lgo_eq] at ho
        split at hs
        · rename_i hw
          obtain ⟨hsp, hb, hs⟩ := sp0_ok hs
          obtain ⟨x, w', os', h', hr, h1⟩ := ih _ hs hm
          exact ⟨x, w', os', h', by simp only [Sem.run, hm.frz ho hw hb]; exact hr, h1⟩
        · exact hs.elim
      · exact hs.elim
    · exact hs.elim
  | getObj r k ih => intro os h K w hs hm; simp [symSem] at hs
  | setObj r o k ih => intro os h K w hs hm; simp [symSem] at hs
  | choose q k ih =>
    intro os h K w hs hm
    simp only [symSem] at hs
    split at hs
    · rename_i hq
      obtain ⟨x, w', os', h', hr, h1⟩ := ih _ hs hm
      exact ⟨x, w', os', h', by simp only [Sem.run, hq, if_true]; exact hr, h1⟩
    · rename_i hq
      obtain ⟨x, w', os', h', hr, h1⟩ := ih _ (hs (w.tape w.drawn q)) (hm.drawn (w.drawn + 1))
      exact ⟨x, w', os', h', by simp only [Sem.run, hq]; exact hr, h1⟩
  | sys c k ih => intro os h K w hs hm; simp [symSem] at hs
  | program k ih =>
    intro os h K w hs hm
    obtain ⟨x, w', os', h', hr, h1⟩ := ih _ hs hm
    exact ⟨x, w', os', h', by simp only [Sem.run]; exact hr, h1⟩
  | mark m k ih =>
    intro os h K w hs hm
    obtain ⟨x, w', os', h', hr, h1⟩ := ih hs hm
    exact ⟨x, w', os', h', by simp only [Sem.run]; exact hr, h1⟩
  | halt x => intro os h K w hs hm; simp [symSem] at hs
end Go.Proofs.Ytkakhaedipjodaa
