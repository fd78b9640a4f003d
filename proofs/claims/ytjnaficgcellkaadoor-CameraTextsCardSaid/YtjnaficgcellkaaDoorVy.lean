/- The walk as a computation, the rest: operations, regions in whatever order, calls, branches, loops; and that it is sound. -/
import Derived.Test.YtjnaficgcellkaaDoorVx
import Derived.Laws.StructEq
import Derived.ChangeKeysEq
import Derived.Lib.SliceRun
set_option linter.unusedSimpArgs false
set_option linter.unusedVariables false
namespace Go.Proofs.YtjnaficgcellkaaDoor
open Go.RowKit

abbrev KS := SS → Hint → Prop
abbrev CallF := FuncId → Array Value → List Ob → Hint → (Value → List Ob → Hint → Prop) → Prop

def rng : Nat → List Nat
  | 0 => []
  | n + 1 => n :: rng n
theorem rng_iff {n i : Nat} : i ∈ rng n ↔ i < n := by
  induction n with
  | zero => simp [rng]
  | succ n ih => simp [rng, ih]; omega
def callSpec (A : Asks) (P : Program) (E : List Ex) : CallF := fun f args os h K => A.call P (rng os.length) E h f args os K (fun _ => False) (fun _ _ => False)

def opFin (call : CallF) (s : SS) (dst : Option Tmp) (K : KS) : Next → List Ob → Hint → Prop
  | .value v, os, h => kPut s.tmps dst v fun l => K ⟨l, os⟩ h
  | .skip, os, h => kPut s.tmps dst undef fun l => K ⟨l, os⟩ h
  | .enter f args, os, h => kL kV0 args.toList fun as' => call f as'.toArray os h fun v os' h' => kPut s.tmps dst v fun l => K ⟨l, os'⟩ h'
  | _, _, _ => False
def selV (t : Bool) (a b : Value) : Value := match t with | true => a | false => b
def pickOf (o : Oper) (s : SS) : Option (Operand × Bool × Value × Value) :=
  match o.op with
  | .pick c a b => (match lev s.tmps c with | .bool t => some (c, t, lev s.tmps a, lev s.tmps b) | _ => none)
  | _ => none
theorem pickOf_eq {o : Oper} {s : SS} {c : Operand} {t : Bool} {a b : Value} (h : pickOf o s = some (c, t, a, b)) : execOp (lev s.tmps) o = Sem.pure (.value (selV t a b)) ∧ lev s.tmps c = .bool t := by
  obtain ⟨dst, op, ty, pos, after, guard⟩ := o
  unfold pickOf at h
  cases op <;> simp only at h <;> try cases h
  rename_i c x y
  split at h
  · rename_i u e
    simp only [Option.some.injEq, Prod.mk.injEq] at h
    obtain ⟨rfl, rfl, rfl, rfl⟩ := h
    refine ⟨?_, e⟩
    simp only [execOp, e]
    cases u <;> rfl
  · cases h
def kLit (l : List Value) (c : Operand) (b : Bool) (K : List Value → Prop) : Prop :=
  match c with
  | .tmp t => kSet l t (.bool b) K
  | _ => K l
theorem lset_self {l : List Value} {t : Nat} {v : Value} (h : lget l t = v) (hv : v ≠ undef) : lset l t v = l := by
  rw [lget_eq] at h
  rw [lset_eq]
  apply List.ext_getElem?
  intro i
  rw [List.getElem?_set]
  split
  · rename_i e
    subst e
    split
    · rename_i hl
      rw [List.getD_eq_getElem?_getD] at h
      simp [hl] at h
      simp [hl, h]
    · rename_i hl
      simp at hl
      simp [hl]
  · rfl
theorem kLit_eq {l : List Value} {c : Operand} {b : Bool} (h : lev l c = .bool b) (K : List Value → Prop) : kLit l c b K = K l := by
  cases c <;> simp only [kLit]
  rw [kSet_eq, lset_self h (by intro e; cases e)]

def asksSem : Op → Bool
  | .binOp op _ _ _ _ => (match op with | .quo => true | .rem => true | .shl => true | .shr => true | .eql => true | .neq => true | _ => false)
  | .indexAddr .. => true
  | .index .. => true
  | .slice .. => true
  | .makeSlice .. => true
  | .lookup .. => true
  | .typeAssert .. => true
  | .convert .. => true
  | .call c => (match c.callee with | .builtin _ => true | _ => false)
  | _ => false
def appOf (o : Oper) : Option (Operand × Operand × TypeId) :=
  match o.op with
  | .call ⟨.builtin .append, args, tys⟩ =>
    (match args.toList, tys.toList with
    | [s, x], [t, u] => (match Nat.beq t u with | true => some (s, x, t) | false => none)
    | _, _ => none)
  | _ => none
theorem appOf_eq {o : Oper} {s x : Operand} {t : TypeId} (h : appOf o = some (s, x, t)) : o.op = .call ⟨.builtin .append, #[s, x], #[t, t]⟩ := by
  unfold appOf at h
  split at h
  · rename_i args tys e
    split at h
    · rename_i s' x' t' u' e1 e2
      split at h
      · rename_i e3
        have := Nat.eq_of_beq_eq_true e3
        subst this
        simp only [Option.some.injEq, Prod.mk.injEq] at h
        obtain ⟨rfl, rfl, rfl⟩ := h
        rw [e]
        have h1 : args = #[s', x'] := by rw [← e1]
        have h2 : tys = #[t', t'] := by rw [← e2]
        rw [h1, h2]
      · cases h
    · cases h
  · cases h
theorem owns_form {w : World} {base : Nat} {e : TypeId} {size n : Nat} {v : Value} {xs : List Value} (h : w.ownsRow base e size v n xs) : ∃ a cap, v = .slice a n cap ∧ AOK a n ∧ n ≤ cap := by
  rcases h.2 with ⟨rfl, rfl⟩ | ⟨g, cap, cur, rfl, _, _, hc, _⟩
  · exact ⟨none, 0, rfl, ⟨(fun _ => rfl), (fun _ q hq => by cases hq)⟩, Nat.le_refl _⟩
  · exact ⟨some ⟨g, 0, none⟩, cap, rfl, ⟨(fun e => by cases e), (fun _ q hq => by injection hq with hq; subst hq; rfl)⟩, hc⟩
theorem run_append_any {P : Program} {w : World} {base : Nat} {t ty e : TypeId} {i : TypeInfo} {z : Value} {size bytes : Nat} (ht : P.underlying t = some (.slice e)) (hi : P.info? e = some i) (hz : i.zero = some z)
    (hsz : i.size = size) (hby : i.bytes = bytes) (hzs : z.cells.size = size) (hpos : 0 < size) {v : Value} {n : Nat} {xs : List Value} (hown : w.ownsRow base e size v n xs)
    {b : Option Addr} {m c : Nat} {news : List Value} (hb : AOK b m) (hl : news.length = m * size) (hrd : Rd w b news) (h1 : ∀ u ∈ news, u.oneCell' = true) (h63 : n + m ≤ maxLen) (hbytes : (n + m) * bytes ≤ 140737488355328) (hbase : base ≤ w.heap.size) :
    ∃ v' w', (Builtin.append_ #[t, t] ty #[v, .slice b m c]).run P w = .ok v' w' ∧ w'.ownsRow base e size v' (n + m) (xs ++ news) ∧ w.grownBy w' v.ownBlock ∧ (v'.ownBlock = v.ownBlock ∨ v'.ownBlock = some w.heap.size) := by
  cases b with
  | none =>
    have hm := hb.1 rfl
    subst hm
    have : news = [] := List.eq_nil_of_length_eq_zero (by rw [hl]; simp)
    subst this
    have hr : (Builtin.append_ #[t, t] ty #[v, .slice none 0 c]).run P w = .ok v w := by
      rcases hown.2 with ⟨rfl, rfl⟩ | ⟨g, cap, cur, rfl, _, _, hnc, _⟩
      · simp [Builtin.append_, run_underlying ht, sizeOf, typeInfo, hi, Builtin.lenOf, Builtin.firstCells]
      · simp [Builtin.append_, run_underlying ht, sizeOf, typeInfo, hi, Builtin.lenOf, Builtin.firstCells, hnc, storeCells]
    refine ⟨v, w, hr, by rw [Nat.add_zero, List.append_nil]; exact hown, ⟨rfl, rfl, rfl, Nat.le_refl _, fun _ _ _ => rfl⟩, Or.inl rfl⟩
  | some a =>
    obtain ⟨v', w', hr, h2, h3, _, h5⟩ := run_append_own_at (P := P) w base t ty e i z size bytes ht hi hz hsz hby hzs hpos v n xs hown a m c news hl (fun j u hu => by
      have := hrd j u hu
      have hm : m ≠ 0 := by
        intro e
        rw [e] at hl
        have : news = [] := List.eq_nil_of_length_eq_zero (by rw [hl]; simp)
        rw [this] at hu
        simp at hu
      have hs := hb.2 hm a rfl
      have e : a.add j = ⟨bk (some a), ofs (some a) + j, none⟩ := by
        obtain ⟨bb, oo, ss⟩ := a
        simp only at hs
        subst hs
        unfold Addr.add
        split <;> simp_all [bk, ofs]
      rw [e]; exact this) h1 h63 hbytes hbase
    exact ⟨v', w', hr, h2, h3, h5⟩
theorem MRep.growN {w0 : Bs} {E : List Ex} {os : List Ob} {w w' : World} (h : MRep w0 E os w) {i : Nat} {o o' : Ob} (ho : os[i]? = some o) (hg : w.grownBy w' o.key) (hd : ∀ k, ¬ o'.dep k) (hok : o'.ok w0.heap.size w') : MRep w0 E (os.set i o') w' := by
  have hi : i < os.length := (List.getElem?_eq_some_iff.1 ho).1
  refine ⟨h.below.grown hg h.below.size fun k hk => ((h.row i o ho).klt (Or.inl hk)).1, ?_, ?_, h.ext, h.chg.grown hg fun k hk => h.kf i o k ho (Or.inl hk), ?_⟩
  rotate_right
  · intro j p k hp hk2
    rw [List.getElem?_set] at hp
    split at hp
    · simp [hi] at hp; subst hp; exact absurd (Ob.kp_dep hk2) (hd k)
    · exact h.kf j p k hp hk2
  · intro j p hp
    rw [List.getElem?_set] at hp
    split at hp
    · simp [hi] at hp; subst hp; exact hok
    · rename_i hij
      exact (h.row j p hp).same fun k hpk => hg.block k ((h.row j p hp).dlt hpk) fun e => hij (h.apart i j o p k ho hp (Or.inl e.symm) hpk)
  · intro j l p q c hp hq e1 e2
    rw [List.getElem?_set] at hp hq
    split at hp <;> split at hq
    · omega
    · simp [hi] at hp; subst hp; exact absurd (Ob.kp_dep e1) (hd c)
    · simp [hi] at hq; subst hq; exact absurd e2 (hd c)
    · exact h.apart j l p q c hp hq e1 e2
theorem owns_cap {w : World} {base : Nat} {e : TypeId} {size n n' c : Nat} {a : Option Addr} {xs : List Value} (h : w.ownsRow base e size (.slice a n c) n' xs) : n' ≤ c := by
  obtain ⟨a', c', e', _, hc⟩ := owns_form h
  injection e' with _ _ e3
  rw [e3]
  exact hc
theorem symApp_run {P : Program} {E : List Ex} {st : List Nat} {w0 : Bs} {w : World} {sv xv : Value} {t ty : TypeId} {os : List Ob} {h : Hint} {K : Value → List Ob → Hint → Prop}
    (hs : symApp P st sv xv t os h K) (hm : MRep w0 E os w) :
    ∃ v w' os' h', (Builtin.append_ #[t, t] ty #[sv, xv]).run P w = .ok v w' ∧ MRep w0 E os' w' ∧ (∀ i ∈ st, i < os.length → os'[i]? = os[i]?) ∧ os.length ≤ os'.length ∧ K v os' h' := by
  unfold symApp at hs
  split at hs
  · exact hs.elim
  rename_i e size bytes he
  obtain ⟨i, z, ht, hi, hz, hsz, hby, hzs, hpos⟩ : ∃ i z, P.underlying t = some (.slice e) ∧ P.info? e = some i ∧ i.zero = some z ∧ i.size = size ∧ i.bytes = bytes ∧ z.cells.size = size ∧ 0 < size := by
    unfold elOf at he
    split at he
    · rename_i e' h1
      split at he
      · rename_i i h2
        split at he
        · rename_i z h3
          split at he
          · rename_i h4
            simp only [Option.some.injEq, Prod.mk.injEq] at he
            obtain ⟨rfl, rfl, rfl⟩ := he
            simp only [Bool.and_eq_true] at h4
            exact ⟨i, z, h1, h2, h3, rfl, rfl, Nat.eq_of_beq_eq_true h4.1, Nat.le_of_ble_eq_true h4.2⟩
          · cases he
        · cases he
      · cases he
    · cases he
  have news : ∀ {j : Nat} {K' : List Value → Nat → Prop}, newsAt os j xv size K' → ∃ p m c news, xv = .slice (some p) m c ∧ news.length = m * size ∧ (∀ k u, news[k]? = some u → w.cell? (p.add k) = some u) ∧ (∀ u ∈ news, u.oneCell' = true) ∧ 0 < m ∧ K' news m := by
    intro j K' hn
    unfold newsAt at hn
    split at hn
    · rename_i p m c
      split at hn
      · rename_i o ho
        rw [lgo_eq] at ho
        split at hn
        · rename_i hw
          obtain ⟨hsp, hb, hn⟩ := sp0_ok hn
          split at hn
          · rename_i hc
            simp only [Bool.and_eq_true] at hc
            refine ⟨p, m, c, o.cells, rfl, Nat.eq_of_beq_eq_true hc.1.1.2, ?_, allOne_mem hc.2, Nat.le_of_ble_eq_true hc.1.2, hn⟩
            intro k u hu
            have h0 := Nat.eq_of_beq_eq_true hc.1.1.1
            have e1 : p.add k = ⟨o.blk, k, none⟩ := by cases p; simp_all [Addr.add]
            rw [e1, hm.cell ho hw rfl rfl]
            exact hu
          · exact hn.elim
        · exact hn.elim
      · exact hn.elim
    · exact hn.elim
  have hbase := hm.below.size
  have fresh : ∀ {g : Nat} {cap n : Nat} {xs : List Value} {v' : Value} {w' : World}, w'.ownsRow w0.heap.size e size v' n xs → 0 < n → ∃ g cap, v' = .slice (some ⟨g, 0, none⟩) n cap := by
    intro _ _ n xs v' w' ho hn
    rcases ho.2 with ⟨_, h0⟩ | ⟨g, cap, cur, h1, _⟩
    · omega
    · exact ⟨g, cap, h1⟩
  split at hs
  · rename_i i' j h'
    split at hs
    · rename_i o ho
      rw [lgo_eq] at ho
      split at hs
      · rename_i ow a n c how
        split at hs
        · rename_i hc
          simp only [Bool.and_eq_true, Bool.not_eq_true'] at hc
          obtain ⟨rfl, rfl, rfl, hs⟩ := hs
          obtain ⟨p, m, c, nw, rfl, hl, hcell, h1, hm0, hbd, hk⟩ := news hs
          obtain ⟨s1, hsz1⟩ : ∃ s, size = s + 1 := ⟨size - 1, by omega⟩
          have hsz2 : ow.size = s1 + 1 := by rw [Nat.eq_of_beq_eq_true hc.1.2, hsz1]
          have hok := (hm.row _ o ho).1
          unfold Ob.ok0 at hok
          rw [how] at hok
          simp only [hsz2] at hok
          rw [Nat.eq_of_beq_eq_true hc.1.1, ← hsz1] at hok
          have hbytes : (ow.n + m) * bytes ≤ 140737488355328 := Nat.le_trans (Nat.mul_le_mul_left _ (Nat.le_succ _)) hbd
          have h63 : ow.n + m ≤ maxLen := by
            have : (ow.n + m) * 1 ≤ (ow.n + m) * (bytes + 1) := Nat.mul_le_mul_left _ (by omega)
            unfold maxLen; omega
          obtain ⟨v', w', hr, h2, h3, h4, h5⟩ := run_append_own_at (P := P) w w0.heap.size t ty e i z size bytes ht hi hz hsz hby hzs hpos _ _ _ hok p m c nw hl hcell h1 h63 hbytes hbase
          obtain ⟨g, cap, rfl⟩ := fresh (g := 0) (cap := 0) h2 (by omega)
          obtain ⟨h'', hk'⟩ := kCk_ok (owns_cap h2) (hk g cap)
          rw [kObset_eq, obset_eq] at hk'
          have hi' : i' < os.length := (List.getElem?_eq_some_iff.1 ho).1
          have hkey : o.key = ow.a.map (·.block) := by unfold Ob.key; rw [how]; simp only [hsz2]
          refine ⟨_, w', _, h'', hr, hm.grow ho (by rw [hkey, ← ownBlock_slice ow.a ow.n ow.cap]; exact h3) ?_ (fun k hd => by have hd := Ob.dep_lit.1 hd; unfold Ob.dep0 at hd; unfold Ob.key; simp only [hsz1] at hd ⊢; exact hd) ?_, ?_, ?_, hk'⟩
          · rw [hkey, ← ownBlock_slice ow.a ow.n ow.cap]
            unfold Ob.key
            simp only [hsz1]
            exact h5
          · refine Ob.ok_lit ?_
            unfold Ob.ok0
            simp only [hsz1]
            rw [lapp_eq, ← hsz1]
            exact h2
          · intro k hk2 hkl
            have : i' ≠ k := fun e => by
              subst e
              have := (mem0_iff (l := st) (n := i')).2 hk2
              rw [this] at hc
              exact absurd hc.2 (by simp)
            rw [List.getElem?_set]
            simp [this]
          · simp
        · exact hs.elim
      · exact hs.elim
    · exact hs.elim
  · rename_i j h'
    split at hs
    · rename_i n c
      split at hs
      · rename_i hc
        simp only [Bool.and_eq_true] at hc
        have e1 := Nat.eq_of_beq_eq_true hc.1
        have e2 := Nat.eq_of_beq_eq_true hc.2
        subst e1
        subst e2
        obtain ⟨p, m, c, nw, rfl, hl, hcell, h1, hm0, hbd, hk⟩ := news hs
        have hbytes : (0 + m) * bytes ≤ 140737488355328 := by rw [Nat.zero_add]; exact Nat.le_trans (Nat.mul_le_mul_left _ (Nat.le_succ _)) hbd
        have h63 : 0 + m ≤ maxLen := by
          have : m * 1 ≤ m * (bytes + 1) := Nat.mul_le_mul_left _ (by omega)
          unfold maxLen; omega
        obtain ⟨v', w', hr, h2, h3, h4, h5⟩ := run_append_own_at (P := P) w w0.heap.size t ty e i z size bytes ht hi hz hsz hby hzs hpos _ 0 _ (World.ownsRow_nil w w0.heap.size e size) p m c nw hl hcell h1 h63 hbytes hbase
        rw [Nat.zero_add] at h2
        obtain ⟨g, cap, rfl⟩ := fresh (g := 0) (cap := 0) h2 hm0
        obtain ⟨h'', hk'⟩ := kCk_ok (owns_cap h2) (hk g cap)
        rw [kApp_eq] at hk'
        have hg : g = w.heap.size := by
          rcases h5 with h5 | h5
          · cases h5
          · simpa [Value.ownBlock] using h5
        obtain ⟨s1, hsz1⟩ : ∃ s, size = s + 1 := ⟨size - 1, by omega⟩
        refine ⟨_, w', _, h'', hr, hm.add _ ?_ ?_ ?_, ?_, ?_, hk'⟩
        · exact ⟨h3.os, h3.tape, h3.output, h3.size, fun k hk => h3.block k hk (by intro e; cases e)⟩
        · intro k hk
          have hk := Ob.dep_lit.1 hk; simp [Ob.dep0, hsz1] at hk
          omega
        · refine Ob.ok_lit ?_
          unfold Ob.ok0
          simp only [hsz1]
          rw [List.nil_append, hsz1] at h2
          exact h2
        · intro k hk2 hkl
          rw [app1_eq, List.getElem?_append_left hkl]
        · rw [app1_eq]; simp
      · exact hs.elim
    · exact hs.elim
  · rename_i i' j h'
    split at hs
    · rename_i o a n c ho
      rw [lgo_eq] at ho
      split at hs
      · rename_i how hc
        simp only [Bool.and_eq_true, Bool.not_eq_true'] at hc
        obtain ⟨⟨⟨⟨h1', h2'⟩, h3'⟩, h4'⟩, hmem⟩ := hc
        obtain ⟨rfl, hs⟩ := hs
        obtain ⟨p, m, c', nw, rfl, hl, hcell, h1, hm0, hbd, hk⟩ := news hs
        have e2 := Nat.eq_of_beq_eq_true h2'
        have e3 := Nat.eq_of_beq_eq_true h3'
        have e4 := Nat.le_of_ble_eq_true h4'
        subst e3
        have hok := hm.row _ o ho
        have hown : w.ownsRow w0.heap.size e size (.slice (some ⟨o.blk, 0, none⟩) n n) n o.cells := by
          replace hok := hok.1
          unfold Ob.ok0 at hok
          rw [how] at hok
          simp only at hok
          rw [Nat.eq_of_beq_eq_true h1'] at hok
          exact ⟨e2, Or.inr ⟨o.blk, n, o.cells.toArray, rfl, hok.1, hok.2, Nat.le_refl _, by unfold maxLen; omega, by simpa using e2, by simp [← e2]⟩⟩
        have hbytes : (n + m) * bytes ≤ 140737488355328 := Nat.le_trans (Nat.mul_le_mul_left _ (Nat.le_succ _)) hbd
        have h63 : n + m ≤ maxLen := by
          have : (n + m) * 1 ≤ (n + m) * (bytes + 1) := Nat.mul_le_mul_left _ (by omega)
          unfold maxLen; omega
        obtain ⟨v', w', hr, h2, h3, h4, h5⟩ := run_append_own_at (P := P) w w0.heap.size t ty e i z size bytes ht hi hz hsz hby hzs hpos _ n _ hown p m c' nw hl hcell h1 h63 hbytes hbase
        obtain ⟨g, cap, rfl⟩ := fresh (g := 0) (cap := 0) h2 (by omega)
        obtain ⟨h'', hk'⟩ := kCk_ok (owns_cap h2) (hk g cap)
        rw [kObset_eq, obset_eq, lapp_eq] at hk'
        have hi' : i' < os.length := (List.getElem?_eq_some_iff.1 ho).1
        obtain ⟨s1, hsz1⟩ : ∃ s, size = s + 1 := ⟨size - 1, by omega⟩
        have hkey : o.key = some o.blk := by unfold Ob.key; rw [how]
        refine ⟨_, w', _, h'', hr, hm.grow ho (by rw [hkey]; exact h3) ?_ (fun k hd => by have hd := Ob.dep_lit.1 hd; unfold Ob.dep0 at hd; unfold Ob.key; simp only [hsz1] at hd ⊢; exact hd) ?_, ?_, ?_, hk'⟩
        · rw [hkey]
          unfold Ob.key
          simp only [hsz1]
          rcases h5 with h5 | h5
          · left; simpa [Value.ownBlock] using h5
          · right; simpa [Value.ownBlock] using h5
        · refine Ob.ok_lit ?_
          unfold Ob.ok0
          simp only [hsz1]
          rw [← hsz1]
          exact h2
        · intro k hk2 hkl
          have : i' ≠ k := fun e => by
            subst e
            rw [(mem0_iff (l := st) (n := i')).2 hk2] at hmem
            cases hmem
          rw [List.getElem?_set]
          simp [this]
        · simp
      · exact hs.elim
    · exact hs.elim
  · rename_i i' j ys h'
    split at hs
    · rename_i o q a n c b m c' ho hq
      rw [lgo_eq] at ho hq
      split at hs
      · rename_i qw hqw hmem
        obtain ⟨rfl, haok, hlen, hone, hbd, hys, hs⟩ := hs
        rw [lapp_eq] at hys
        have hrd := (hm.row _ q hq).rd hqw
        obtain ⟨s1, hsz1⟩ : ∃ s, size = s + 1 := ⟨size - 1, by omega⟩
        have hbytes : (n + m) * bytes ≤ 140737488355328 := Nat.le_trans (Nat.mul_le_mul_left _ (Nat.le_succ _)) hbd
        have h63 : n + m ≤ maxLen := by
          have : (n + m) * 1 ≤ (n + m) * (bytes + 1) := Nat.mul_le_mul_left _ (by omega)
          unfold maxLen; omega
        have hi' : i' < os.length := (List.getElem?_eq_some_iff.1 ho).1
        have hne : ∀ k ∈ st, i' ≠ k := fun k hk e => by
          subst e
          rw [mem0_iff.2 hk] at hmem
          cases hmem
        -- a row of one's own, whatever its form
        have own : w.ownsRow w0.heap.size e size (.slice a n c) n o.cells → (∀ g, Value.ownBlock (.slice a n c) = some g → o.key = some g) →
            (∀ (a' : Option Addr) (cap : Nat), AOK a' (n + m) → kObset os i' ⟨0, ys, e, some ⟨a', n + m, cap, size⟩⟩ fun os' => K (.slice a' (n + m) cap) os' h') →
            ∃ v w' os' h', (Builtin.append_ #[t, t] ty #[.slice a n c, .slice qw.a m c']).run P w = .ok v w' ∧ MRep w0 E os' w' ∧ (∀ i ∈ st, i < os.length → os'[i]? = os[i]?) ∧ os.length ≤ os'.length ∧ K v os' h' := by
          intro hown hkey hk
          obtain ⟨v', w', hr, h2, h3, h5⟩ := run_append_any (P := P) (w := w) (base := w0.heap.size) (ty := ty) ht hi hz hsz hby hzs hpos hown haok hlen hrd hone h63 hbytes hbase
          obtain ⟨a', cap, rfl, ha', _⟩ := owns_form h2
          have hk' := hk a' cap ha'
          rw [kObset_eq, obset_eq] at hk'
          have hkn : o.key = Value.ownBlock (.slice a n c) ∨ Value.ownBlock (.slice a n c) = none := by
            cases hb : Value.ownBlock (.slice a n c) with
            | none => exact Or.inr rfl
            | some g => exact Or.inl (by rw [hkey g hb])
          have hg3 : w.grownBy w' o.key := by
            rcases hkn with e1 | e1
            · rw [e1]; exact h3
            · rw [e1] at h3
              exact ⟨h3.os, h3.tape, h3.output, h3.size, fun k hk _ => h3.block k hk (by intro e; cases e)⟩
          have hk5 : ∀ g, Value.ownBlock (.slice a' (n + m) cap) = some g → o.key = some g ∨ g = w.heap.size := by
            intro g hg
            rcases h5 with h5 | h5
            · rw [h5] at hg; exact Or.inl (hkey g hg)
            · rw [h5] at hg; simp at hg; exact Or.inr hg.symm
          rw [← hys] at hk' 
          cases hbl : a' with
          | none =>
            rw [hbl] at hk' h2
            refine ⟨_, w', _, h', by rw [hr, hbl], hm.growN ho hg3 ?_ ?_, fun k hk hl => ?_, by simp, hk'⟩
            · intro k hd; have hd := Ob.dep_lit.1 hd; unfold Ob.dep0 at hd; simp only [hsz1] at hd; cases hd
            · refine Ob.ok_lit ?_
              unfold Ob.ok0
              simp only [hsz1]
              rw [← hsz1]
              exact h2
            · rw [List.getElem?_set]; simp [hne k hk]
          | some ad =>
            rw [hbl] at hk' h2 hk5
            refine ⟨_, w', _, h', by rw [hr, hbl], hm.grow ho hg3 ?_ ?_ ?_, fun k hk hl => ?_, by simp, hk'⟩
            · have hk6 : Ob.key ⟨0, o.cells ++ q.cells, e, some ⟨some ad, n + m, cap, size⟩⟩ = some ad.block := by unfold Ob.key; simp only [hsz1]; rfl
              rw [hk6]
              rcases hk5 ad.block rfl with e1 | e1
              · exact Or.inl e1.symm
              · exact Or.inr (by rw [e1])
            · intro k hd; have hd := Ob.dep_lit.1 hd; unfold Ob.dep0 at hd; unfold Ob.key; simp only [hsz1] at hd ⊢; exact hd
            · refine Ob.ok_lit ?_
              unfold Ob.ok0
              simp only [hsz1]
              rw [← hsz1]
              exact h2
            · rw [List.getElem?_set]; simp [hne k hk]
        split at hs
        · rename_i ow how
          split at hs
          · rename_i hc
            simp only [Bool.and_eq_true] at hc
            obtain ⟨rfl, rfl, rfl, hk⟩ := hs
            have hsz2 : ow.size = s1 + 1 := by rw [Nat.eq_of_beq_eq_true hc.2, hsz1]
            refine own ?_ ?_ hk
            · have hok := hm.row _ o ho
              replace hok := hok.1
              unfold Ob.ok0 at hok
              rw [how] at hok
              simp only [hsz2] at hok
              rw [Nat.eq_of_beq_eq_true hc.1, ← hsz1] at hok
              exact hok
            · intro g hg
              unfold Ob.key
              rw [how]
              simp only [hsz2]
              rw [ownBlock_slice] at hg
              exact hg
          · exact hs.elim
        · rename_i how
          split at hs
          · rename_i hc
            simp only [Bool.and_eq_true] at hc
            obtain ⟨⟨⟨h1, h2⟩, h3⟩, h4⟩ := hc
            have e3 := Nat.eq_of_beq_eq_true h3
            have e4 := Nat.eq_of_beq_eq_true h4
            subst e3
            subst e4
            obtain ⟨rfl, hk⟩ := hs
            have hcells : o.cells = [] := by
              cases hcc : o.cells with
              | nil => rfl
              | cons x l => rw [hcc] at h2; cases h2
            have hpl := hm.plain ho how
            refine own ?_ ?_ ?_
            · rw [hcells] at hpl ⊢
              rw [Nat.eq_of_beq_eq_true h1] at hpl
              exact ⟨by simp, Or.inr ⟨o.blk, 0, #[], rfl, hpl.1, hpl.2, Nat.le_refl _, Nat.zero_le _, by simp, by simp⟩⟩
            · intro g hg
              unfold Ob.key
              rw [how]
              exact hg
            · intro a' cap ha
              rw [Nat.zero_add] at ha ⊢
              exact hk a' cap ha
          · exact hs.elim
      · exact hs.elim
    · exact hs.elim
  · rename_i j ys h'
    split at hs
    · rename_i q n c b m c' hq
      rw [lgo_eq] at hq
      split at hs
      · rename_i qw hqw hc
        simp only [Bool.and_eq_true] at hc
        have e3 := Nat.eq_of_beq_eq_true hc.1
        have e4 := Nat.eq_of_beq_eq_true hc.2
        subst e3
        subst e4
        obtain ⟨rfl, haok, hlen, hone, hbd, hys, hk⟩ := hs
        have hrd := (hm.row _ q hq).rd hqw
        obtain ⟨s1, hsz1⟩ : ∃ s, size = s + 1 := ⟨size - 1, by omega⟩
        have hbytes : (0 + m) * bytes ≤ 140737488355328 := by rw [Nat.zero_add]; exact Nat.le_trans (Nat.mul_le_mul_left _ (Nat.le_succ _)) hbd
        have h63 : 0 + m ≤ maxLen := by
          have : m * 1 ≤ m * (bytes + 1) := Nat.mul_le_mul_left _ (by omega)
          unfold maxLen; omega
        obtain ⟨v', w', hr, h2, h3, h5⟩ := run_append_any (P := P) (w := w) (base := w0.heap.size) (ty := ty) ht hi hz hsz hby hzs hpos (World.ownsRow_nil w w0.heap.size e size) haok hlen hrd hone h63 hbytes hbase
        rw [Nat.zero_add, List.nil_append] at h2
        obtain ⟨a', cap, rfl, ha', _⟩ := owns_form h2
        have hk' := hk a' cap ha'
        rw [kApp_eq] at hk'
        refine ⟨_, w', _, h', hr, hm.add _ ?_ ?_ ?_, fun k hk2 hkl => ?_, ?_, hk'⟩
        · exact ⟨h3.os, h3.tape, h3.output, h3.size, fun k hk => h3.block k hk (by intro e; cases e)⟩
        · intro k hk
          have hk := Ob.dep_lit.1 hk; simp only [Ob.dep0, hsz1] at hk
          rcases h5 with h5 | h5
          · rw [ownBlock_slice, hk] at h5; cases h5
          · rw [ownBlock_slice, hk] at h5; simp at h5; omega
        · refine Ob.ok_lit ?_
          unfold Ob.ok0
          simp only [hsz1]
          rw [← hys, ← hsz1]
          exact h2
        · rw [app1_eq, List.getElem?_append_left hkl]
        · rw [app1_eq]; simp
      · exact hs.elim
    · exact hs.elim
  · exact hs.elim

def flatEq (P : Program) : List Field → List Value → List Value → Option Bool
  | [], _, _ => some true
  | f :: fs, xs, ys =>
    match f.name == "_", P.plainKey f.type with
    | false, true =>
      match lgo xs f.offset, lgo ys f.offset, P.underlying f.type with
      | some (.int k a), some (.int k' b), some (.int _) =>
        (match decide (k = k') with | true => (match flatEq P fs xs ys with | some r => some (and (a == b) r) | none => none) | false => none)
      | some (.bool a), some (.bool b), some .bool => (match flatEq P fs xs ys with | some r => some (and (a == b) r) | none => none)
      | some (.string a), some (.string b), some .string => (match flatEq P fs xs ys with | some r => some (and (a == b) r) | none => none)
      | _, _, _ => none
    | _, _ => none
theorem eqFields_flat {P : Program} (w : World) (d : Nat) {xs ys : Array Value} : ∀ {fs : List Field} {r : Bool}, flatEq P fs xs.toList ys.toList = some r → (Op.eqFields (d + 1) xs ys fs).run P w = .ok r w := by
  intro fs
  induction fs with
  | nil => intro r h; simp [flatEq] at h; subst h; simp [Op.eqFields]
  | cons f fs ih =>
    intro r h
    unfold flatEq at h
    split at h
    · rename_i hn hp
      have hn' : f.name ≠ "_" := by simpa using hn
      have step : ∀ {u v : Value} {c : Bool} {r' : Bool}, lgo xs.toList f.offset = some u → lgo ys.toList f.offset = some v → (Op.equalIn (d + 1) f.type u v).run P w = .ok c w → flatEq P fs xs.toList ys.toList = some r' → (Op.eqFields (d + 1) xs ys (f :: fs)).run P w = .ok (and c r') w := by
        intro u v c r' hu hv hc hr
        rw [lgo_eq] at hu hv
        have p1 := run_part_plain (P := P) w hp (xs := xs) (by simpa using hu)
        have p2 := run_part_plain (P := P) w hp (xs := ys) (by simpa using hv)
        simp only [Op.eqFields, hn', ne_eq, not_false_eq_true, if_true, Sem.run_bind, p1, p2, hc, Result.andThen_ok]
        cases c with
        | true => simp; exact ih hr
        | false => simp
      split at h
      · rename_i k a k' b k0 h1 h2 h3
        split at h
        · rename_i hk
          have hk := of_decide_eq_true hk
          subst hk
          split at h
          · rename_i r' hr
            simp only [Option.some.injEq] at h
            subst h
            exact step h1 h2 (run_equalIn_int w d f.type k k0 a b h3) hr
          · cases h
        · cases h
      · rename_i a b h1 h2 h3
        split at h
        · rename_i r' hr
          simp only [Option.some.injEq] at h
          subst h
          exact step h1 h2 (run_equalIn_bool' w d f.type a b h3) hr
        · cases h
      · rename_i a b h1 h2 h3
        split at h
        · rename_i r' hr
          simp only [Option.some.injEq] at h
          subst h
          rw [beq_toListBytes]
          exact step h1 h2 (run_equalIn_string w d f.type a b h3) hr
        · cases h
      · cases h
    · cases h
def flatEq2 (P : Program) : List Field → List Value → List Value → Option Bool
  | [], _, _ => some true
  | f :: fs, xs, ys =>
    match f.name == "_", P.plainKey f.type with
    | false, true =>
      match lgo xs f.offset, lgo ys f.offset, P.underlying f.type with
      | some (.int k a), some (.int k' b), some (.int _) =>
        (match decide (k = k') with | true => (match flatEq2 P fs xs ys with | some r => some (and (a == b) r) | none => none) | false => none)
      | some (.bool a), some (.bool b), some .bool => (match flatEq2 P fs xs ys with | some r => some (and (a == b) r) | none => none)
      | some (.string a), some (.string b), some .string => (match flatEq2 P fs xs ys with | some r => some (and (a == b) r) | none => none)
      | _, _, _ => none
    | false, false =>
      match P.underlying f.type, P.stoodInHeld f.type, P.info? f.type with
      | some (.struct gs), false, some _ =>
        (match flatEq P gs.toList ((xs.drop f.offset).take (P.cellsOf f.type)) ((ys.drop f.offset).take (P.cellsOf f.type)) with
        | some a => (match flatEq2 P fs xs ys with | some r => some (and a r) | none => none)
        | none => none)
      | _, _, _ => none
    | _, _ => none
theorem eqFields_flat2 {P : Program} (w : World) (d : Nat) {xs ys : Array Value} : ∀ {fs : List Field} {r : Bool}, flatEq2 P fs xs.toList ys.toList = some r → (Op.eqFields (d + 2) xs ys fs).run P w = .ok r w := by
  intro fs
  induction fs with
  | nil => intro r h; simp [flatEq2] at h; subst h; simp [Op.eqFields]
  | cons f fs ih =>
    intro r h
    unfold flatEq2 at h
    split at h
    · rename_i hn hp
      have hn' : f.name ≠ "_" := by simpa using hn
      have step : ∀ {u v : Value} {c : Bool} {r' : Bool}, lgo xs.toList f.offset = some u → lgo ys.toList f.offset = some v → (Op.equalIn (d + 2) f.type u v).run P w = .ok c w → flatEq2 P fs xs.toList ys.toList = some r' → (Op.eqFields (d + 2) xs ys (f :: fs)).run P w = .ok (and c r') w := by
        intro u v c r' hu hv hc hr
        rw [lgo_eq] at hu hv
        have p1 := run_part_plain (P := P) w hp (xs := xs) (by simpa using hu)
        have p2 := run_part_plain (P := P) w hp (xs := ys) (by simpa using hv)
        simp only [Op.eqFields, hn', ne_eq, not_false_eq_true, if_true, Sem.run_bind, p1, p2, hc, Result.andThen_ok]
        cases c with
        | true => simp; exact ih hr
        | false => simp
      split at h
      · rename_i k a k' b k0 h1 h2 h3
        split at h
        · rename_i hk
          have hk := of_decide_eq_true hk
          subst hk
          split at h
          · rename_i r' hr
            simp only [Option.some.injEq] at h
            subst h
            exact step h1 h2 (run_equalIn_int w (d + 1) f.type k k0 a b h3) hr
          · cases h
        · cases h
      · rename_i a b h1 h2 h3
        split at h
        · rename_i r' hr
          simp only [Option.some.injEq] at h
          subst h
          exact step h1 h2 (run_equalIn_bool' w (d + 1) f.type a b h3) hr
        · cases h
      · rename_i a b h1 h2 h3
        split at h
        · rename_i r' hr
          simp only [Option.some.injEq] at h
          subst h
          rw [beq_toListBytes]
          exact step h1 h2 (run_equalIn_string w (d + 1) f.type a b h3) hr
        · cases h
      · cases h
    · rename_i hn hp
      have hn' : f.name ≠ "_" := by simpa using hn
      split at h
      · rename_i gs i0 hu hs hi
        split at h
        · rename_i a ha
          split at h
          · rename_i r' hr
            simp only [Option.some.injEq] at h
            subst h
            have e1 : (xs.extract f.offset (f.offset + P.cellsOf f.type)).toList = (xs.toList.drop f.offset).take (P.cellsOf f.type) := by
              rw [Array.toList_extract]
              simp [List.extract]
            have e2 : (ys.extract f.offset (f.offset + P.cellsOf f.type)).toList = (ys.toList.drop f.offset).take (P.cellsOf f.type) := by
              rw [Array.toList_extract]
              simp [List.extract]
            have p1 : (part f.type xs f.offset).run P w = .ok (.agg (xs.extract f.offset (f.offset + P.cellsOf f.type))) w := by
              simp [part, isAgg, run_underlying hu, run_sizeOf w hi]
            have p2 : (part f.type ys f.offset).run P w = .ok (.agg (ys.extract f.offset (f.offset + P.cellsOf f.type))) w := by
              simp [part, isAgg, run_underlying hu, run_sizeOf w hi]
            have ef : P.fieldsOf f.type = gs := by unfold Program.fieldsOf; rw [hu]
            have hc : (Op.equalIn (d + 2) f.type (.agg (xs.extract f.offset (f.offset + P.cellsOf f.type))) (.agg (ys.extract f.offset (f.offset + P.cellsOf f.type)))).run P w = .ok a w := by
              rw [run_equalIn_struct w (d + 1) f.type _ _ (by rw [ef]; exact hu) hs, ef]
              rw [← e1, ← e2] at ha
              exact eqFields_flat w d ha
            simp only [Op.eqFields, hn', ne_eq, not_false_eq_true, if_true, Sem.run_bind, p1, p2, hc, Result.andThen_ok]
            cases a with
            | true => simp; exact ih hr
            | false => simp
          · cases h
        · cases h
      · cases h
    · cases h
def eqVals (P : Program) (t : TypeId) (x y : Value) : Option Bool :=
  match x, y with
  | .agg xs, .agg ys =>
    (match P.underlying t with
    | some (.struct fs) => (match P.stoodInHeld t, P.eqGuardType P.depth t with | false, false => (match flatEq P fs.toList xs.toList ys.toList with | some r => some r | none => flatEq2 P fs.toList xs.toList ys.toList) | _, _ => none)
    | _ => none)
  | _, _ => none
theorem eqVals_ok {P : Program} (w : World) {t : TypeId} {x y : Value} {r : Bool} (h : eqVals P t x y = some r) : ∃ xs ys, x = .agg xs ∧ y = .agg ys ∧ P.eqGuardType P.depth t = false ∧ (Op.equalIn 10000 t (.agg xs) (.agg ys)).run P w = .ok r w := by
  unfold eqVals at h
  split at h
  · rename_i xs ys
    split at h
    · rename_i fs hf
      split at h
      · rename_i h1 h2
        have e : P.fieldsOf t = fs := by unfold Program.fieldsOf; rw [hf]
        refine ⟨xs, ys, rfl, rfl, h2, ?_⟩
        rw [show (10000 : Nat) = 9999 + 1 from rfl, run_equalIn_struct w 9999 t xs ys (by rw [e]; exact hf) h1, e]
        split at h
        · rename_i r0 h0
          simp only [Option.some.injEq] at h
          subst h
          exact eqFields_flat w 9998 h0
        · exact eqFields_flat2 w 9997 h
      · cases h
    · cases h
  · cases h
def eqNil (P : Program) (t : TypeId) (x y : Value) : Option Bool :=
  match x, y, P.underlying t with
  | .slice a _ _, .slice none _ _, some (.slice _) => some a.isNone
  | _, _, _ => none
theorem eqNil_ok {P : Program} (w : World) {t : TypeId} {x y : Value} {r : Bool} (op : BinOp) (xo yo : Operand) (h : eqNil P t x y = some r) : (eqGuard op t xo yo x y).run P w = .ok () w ∧ (binOp .eql t x y).run P w = .ok (.bool r) w ∧ (binOp .neq t x y).run P w = .ok (.bool (!r)) w := by
  unfold eqNil at h
  split at h
  · rename_i a n c n' c' e hu
    simp only [Option.some.injEq] at h
    subst h
    refine ⟨?_, ?_, ?_⟩
    · unfold eqGuard
      cases op <;> simp
    · simp only [binOp]
      simp [Op.equal, Op.maxDepth, Lib.run_equalIn_slice_nil w 9999 t e a n c n' c' hu]
    · simp only [binOp]
      simp [Op.equal, Op.maxDepth, Lib.run_equalIn_slice_nil w 9999 t e a n c n' c' hu]
  · cases h
def eqOf (P : Program) (o : Oper) (s : SS) : Option Bool :=
  match o.op with
  | .binOp .eql t x y _ => (match eqVals P t (lev s.tmps x) (lev s.tmps y) with | some b => some b | none => eqNil P t (lev s.tmps x) (lev s.tmps y))
  | .binOp .neq t x y _ => (match eqVals P t (lev s.tmps x) (lev s.tmps y) with | some b => some (!b) | none => (match eqNil P t (lev s.tmps x) (lev s.tmps y) with | some b => some (!b) | none => none))
  | _ => none
theorem eqOf_ok {P : Program} {o : Oper} {s : SS} {b : Bool} (h : eqOf P o s = some b) (w : World) : (execOp (lev s.tmps) o).run P w = .ok (.value (.bool b)) w := by
  obtain ⟨dst, op, ty, pos, after, guard⟩ := o
  unfold eqOf at h
  simp only at h
  split at h
  · rename_i t x y u
    split at h
    · rename_i b' hb
      simp only [Option.some.injEq] at h
      subst h
      obtain ⟨xs, ys, e1, e2, h1, h2⟩ := eqVals_ok w hb
      simp only [execOp, e1, e2, Sem.run_bind, run_eqGuard_agg w _ t x y xs ys h1, Result.andThen_ok, run_eql_struct, h2, Sem.run_pure]
    · obtain ⟨h1, h2, _⟩ := eqNil_ok w .eql x y h
      simp only [execOp, Sem.run_bind, h1, Result.andThen_ok, h2, Sem.run_pure]
  · rename_i t x y u
    split at h
    · rename_i b' hb
      simp only [Option.some.injEq] at h
      subst h
      obtain ⟨xs, ys, e1, e2, h1, h2⟩ := eqVals_ok w hb
      simp only [execOp, e1, e2, Sem.run_bind, run_eqGuard_agg w _ t x y xs ys h1, Result.andThen_ok, run_neq_struct, h2, Sem.run_pure]
    · split at h
      · rename_i b' hb
        simp only [Option.some.injEq] at h
        subst h
        obtain ⟨h1, _, h2⟩ := eqNil_ok w .neq x y hb
        simp only [execOp, Sem.run_bind, h1, Result.andThen_ok, h2, Sem.run_pure]
      · cases h
  · cases h

def chI (b : ByteArray) (n : Nat) : Int := ((b[n]?.getD 0).toNat : Int)
/-- Two strings joined. -/
def catB (a b : ByteArray) : ByteArray := a ++ b
def ixOf (P : Program) (o : Oper) (s : SS) : Option (Prop × Value) :=
  match o.op with
  | .indexAddr t x y =>
    (match lev s.tmps x, lev s.tmps y with
    | .slice a n _, .int _ i =>
      (match P.underlying t with
      | some (.slice e) => (match P.info? e with | some inf => some (((0 ≤ i ∧ i < n) ∧ AOK a n), .pointer (some ⟨bk a, ofs a + i.toNat * inf.size, none⟩)) | none => none)
      | _ => none)
    | _, _ => none)
  | .slice t x lo hi none =>
    (match lev s.tmps x, P.underlying t with
    | .slice a n c, some (.slice e) =>
      (match lo, hi, P.info? e with
      | none, some y, some _ => (match lev s.tmps y with | .int _ h => some ((0 ≤ h ∧ h ≤ c), .slice a h.toNat c) | _ => none)
      | some y, none, some inf => (match lev s.tmps y with | .int _ l => some (((0 ≤ l ∧ l < n) ∧ n ≤ c ∧ AOK a n), .slice (some ⟨bk a, ofs a + l.toNat * inf.size, none⟩) (n - l.toNat) (c - l.toNat)) | _ => none)
      | _, _, _ => none)
    | .string b, some .string =>
      (match lo, hi with
      | none, some y => (match lev s.tmps y with | .int _ h => some ((0 ≤ h ∧ h ≤ b.size), .string (b.extract 0 h.toNat)) | _ => none)
      | some y, none => (match lev s.tmps y with | .int _ l => some ((0 ≤ l ∧ l ≤ b.size), .string (b.extract l.toNat b.size)) | _ => none)
      | some y, some z => (match lev s.tmps y, lev s.tmps z with | .int _ l, .int _ h => some ((0 ≤ l ∧ l ≤ h ∧ h ≤ b.size), .string (b.extract l.toNat h.toNat)) | _, _ => none)
      | none, none => none)
    | _, _ => none)
  | .index t x y =>
    (match lev s.tmps x, lev s.tmps y, P.underlying t with
    | .string b, .int _ i, some .string => some ((0 ≤ i ∧ i < b.size), .int .u8 (chI b i.toNat))
    | _, _, _ => none)
  | .binOp .add _ x y _ =>
    (match lev s.tmps x, lev s.tmps y with
    | .string a, .string b => some (a.size + b.size ≤ 9223372036854775807, .string (catB a b))
    | _, _ => none)
  | .binOp .rem _ x y _ =>
    (match lev s.tmps x, lev s.tmps y with
    | .int k a, .int k' b => (if k = k' then some (b ≠ 0, .int k (a.tmod b)) else none)
    | _, _ => none)
  | .binOp .quo _ x y _ =>
    (match lev s.tmps x, lev s.tmps y with
    | .int k a, .int k' b => (if k = k' then some (b ≠ 0, .int k (k.wrap (a.tdiv b))) else none)
    | _, _ => none)
  | _ => none
theorem ixOf_ok {P : Program} {o : Oper} {s : SS} {p : Prop} {v : Value} (h : ixOf P o s = some (p, v)) (hi : p) (w : World) : (execOp (lev s.tmps) o).run P w = .ok (.value v) w := by
  obtain ⟨dst, op, ty, pos, after, guard⟩ := o
  unfold ixOf at h
  simp only at h
  split at h
  · rename_i t x y
    split at h
    · rename_i a n' c k i' e1 e2
      split at h
      · rename_i e hu
        split at h
        · rename_i inf hinf
          simp only [Option.some.injEq, Prod.mk.injEq] at h
          obtain ⟨rfl, rfl⟩ := h
          obtain ⟨hi, ha⟩ := hi
          cases a with
          | none =>
            have := ha.1 rfl
            omega
          | some q =>
            have hq := ha.2 (by omega) q rfl
            obtain ⟨b, off, sp⟩ := q
            simp only at hq
            subst hq
            simp [execOp, e1, e2, Instr.indexAt, asIntOf, Sem.run_bind, run_underlying hu, sizeOf, typeInfo, hinf, hi, Addr.add, bk, ofs]
        · cases h
      · cases h
    · cases h
  · rename_i t x lo hi'
    split at h
    · rename_i a n c e e1 hu
      split at h
      · rename_i y inf hinf
        split at h
        · rename_i k m e2
          simp only [Option.some.injEq, Prod.mk.injEq] at h
          obtain ⟨rfl, rfl⟩ := h
          have e3 : Option.map (fun x : Addr => x.add 0) a = a := by cases a <;> simp [Addr.add]
          simp [execOp, e1, e2, Instr.sliceAt, Instr.slice, Instr.sliceBounds, Instr.sliceBound, asIntOf, Sem.run_bind, run_underlying hu, sizeOf, typeInfo, hinf, hi, e3]
        · cases h
      · rename_i y inf hinf
        split at h
        · rename_i k m e2
          simp only [Option.some.injEq, Prod.mk.injEq] at h
          obtain ⟨rfl, rfl⟩ := h
          obtain ⟨⟨h0, h1⟩, h2, ha⟩ := hi
          cases a with
          | none =>
            have := ha.1 rfl
            omega
          | some q =>
            have hq := ha.2 (by omega) q rfl
            obtain ⟨b, off, sp⟩ := q
            simp only at hq
            subst hq
            have hm : ¬ c = m.toNat := by omega
            have h3 : m ≤ (n : Int) := by omega
            simp [execOp, e1, e2, Instr.sliceAt, Instr.slice, Instr.sliceBounds, Instr.sliceBound, asIntOf, Sem.run_bind, run_underlying hu, sizeOf, typeInfo, hinf, h0, h3, hm, Addr.add, bk, ofs]
        · cases h
      · cases h
    · rename_i b e1 hu
      split at h
      · rename_i y
        split at h
        · rename_i k m e2
          simp only [Option.some.injEq, Prod.mk.injEq] at h
          obtain ⟨rfl, rfl⟩ := h
          simp [execOp, e1, e2, Instr.sliceAt, Instr.slice, Instr.sliceBounds, Instr.sliceBound, asIntOf, Sem.run_bind, run_underlying hu, hi]
        · cases h
      · rename_i y
        split at h
        · rename_i k m e2
          simp only [Option.some.injEq, Prod.mk.injEq] at h
          obtain ⟨rfl, rfl⟩ := h
          simp [execOp, e1, e2, Instr.sliceAt, Instr.slice, Instr.sliceBounds, Instr.sliceBound, asIntOf, Sem.run_bind, run_underlying hu, hi]
        · cases h
      · rename_i y z
        split at h
        · rename_i k m k' m' e2 e3
          simp only [Option.some.injEq, Prod.mk.injEq] at h
          obtain ⟨rfl, rfl⟩ := h
          obtain ⟨h0, h1, h2⟩ := hi
          have a1 : 0 ≤ m' ∧ m' ≤ (b.size : Int) := ⟨by omega, h2⟩
          have a2 : 0 ≤ m ∧ m ≤ (m'.toNat : Int) := ⟨h0, by omega⟩
          have a3 : ¬ max m' 0 < m := by omega
          simp [execOp, e1, e2, e3, Instr.sliceAt, Instr.slice, Instr.sliceBounds, Instr.sliceBound, asIntOf, Sem.run_bind, run_underlying hu, a1.1, a1.2, a2.1, a3]
        · cases h
      · cases h
    · cases h
  · rename_i t x y
    split at h
    · rename_i b k i e1 e2 hu
      simp only [Option.some.injEq, Prod.mk.injEq] at h
      obtain ⟨rfl, rfl⟩ := h
      have hn : i.toNat < b.size := by omega
      simp [execOp, e1, e2, Instr.index, asIntOf, Sem.run_bind, run_underlying hu, hi.1, chI, hn]
    · cases h
  · rename_i t x y r
    split at h
    · rename_i a b e1 e2
      simp only [Option.some.injEq, Prod.mk.injEq] at h
      obtain ⟨rfl, rfl⟩ := h
      have hn : ¬ (((a.size + b.size : Nat) : Int) > IntKind.i64.max) := by
        have : IntKind.i64.max = 9223372036854775807 := by decide
        rw [this]
        omega
      simp only [execOp, e1, e2, binOp, Op.stringOp, eqGuard, Sem.run_bind]
      rw [if_neg hn]
      simp [catB]
    · cases h
  · rename_i t x y r
    split at h
    · rename_i k a k' b e1 e2
      split at h
      · rename_i hk
        subst hk
        simp only [Option.some.injEq, Prod.mk.injEq] at h
        obtain ⟨rfl, rfl⟩ := h
        simp [execOp, e1, e2, binOp, Op.intDiv, eqGuard, Sem.run_bind, hi]
      · cases h
    · cases h
  · rename_i t x y r
    split at h
    · rename_i k a k' b e1 e2
      split at h
      · rename_i hk
        subst hk
        simp only [Option.some.injEq, Prod.mk.injEq] at h
        obtain ⟨rfl, rfl⟩ := h
        simp [execOp, e1, e2, binOp, Op.intDiv, eqGuard, Sem.run_bind, hi]
      · cases h
    · cases h
  · cases h

def mkOf (P : Program) (o : Oper) (s : SS) : Option (TypeId × Nat × List Value × Int × Int) :=
  match o.op with
  | .makeSlice t x y =>
    (match lev s.tmps x, lev s.tmps y with
    | .int _ l, .int _ c => (match P.underlying t with
      | some (.slice e) => (match P.info? e with
        | some i => (match i.zero with
          | some z => (match z.cells.toList with
            | v :: vs => (match Nat.beq i.size (v :: vs).length with | true => some (e, i.bytes, v :: vs, l, c) | false => none)
            | _ => none)
          | none => none)
        | none => none)
      | _ => none)
    | _, _ => none)
  | _ => none
theorem made_rep (v : Value) (n : Nat) : (madeCells #[v] n).toList = List.replicate n v := by
  unfold madeCells
  apply List.ext_getElem
  · simp
  · intro i h1 h2
    simp [Nat.mod_one]
theorem repC_flat (n : Nat) (zs : List Value) : repC n zs = (List.replicate n zs).flatten := by
  unfold repC
  split
  · rename_i v
    induction n with
    | zero => rfl
    | succ n ih => rw [List.replicate_succ, List.replicate_succ, List.flatten_cons, ← ih]; rfl
  · rfl
theorem flat_get {zs : List Value} : ∀ {n i : Nat}, i < n * zs.length → (List.replicate n zs).flatten[i]? = zs[i % zs.length]? := by
  intro n
  induction n with
  | zero => intro i h; omega
  | succ n ih =>
    intro i h
    rw [List.replicate_succ, List.flatten_cons]
    by_cases hi : i < zs.length
    · rw [List.getElem?_append_left hi, Nat.mod_eq_of_lt hi]
    · have hh : i - zs.length < n * zs.length := by rw [Nat.succ_mul] at h; omega
      rw [List.getElem?_append_right (by omega), ih hh, Nat.mod_eq_sub_mod (a := i) (by omega)]
theorem made_rep2 (z : Array Value) (zs : List Value) (hz : z.toList = zs) (n : Nat) : (madeCells z (n * zs.length)).toList = repC n zs := by
  subst hz
  rw [repC_flat]
  apply List.ext_getElem?
  intro i
  by_cases hi : i < n * z.toList.length
  · have h0 : 0 < z.size := by
      have : 0 < z.toList.length := by
        rcases Nat.eq_zero_or_pos z.toList.length with h | h
        · rw [h] at hi; omega
        · exact h
      simpa using this
    rw [flat_get hi]
    have hm := Nat.mod_lt i h0
    have hi2 : i < n * z.size := by simpa using hi
    simp [madeCells, hi2, hm]
  · have h2 : (madeCells z (n * z.toList.length)).toList.length ≤ i := by rw [Array.length_toList, size_madeCells]; omega
    rw [List.getElem?_eq_none h2, List.getElem?_eq_none (by simp at hi ⊢; omega)]
theorem mkOf_run {P : Program} {o : Oper} {s : SS} {e : TypeId} {bytes : Nat} {v : List Value} {l c : Int} (h : mkOf P o s = some (e, bytes, v, l, c)) (h0 : 0 ≤ l) (hlc : l = c) (hb : (bytes + 1 : Int) * l ≤ 281474976710656) (w : World) (base : Nat) (hbase : base ≤ w.heap.size) :
    ∃ w', (execOp (lev s.tmps) o).run P w = .ok (.value (.slice (some ⟨w.heap.size, 0, none⟩) l.toNat l.toNat)) w' ∧ w'.ownsRow base e v.length (.slice (some ⟨w.heap.size, 0, none⟩) l.toNat l.toNat) l.toNat (repC l.toNat v) ∧ w.grownBy w' none := by
  obtain ⟨dst, op, ty, pos, after, guard⟩ := o
  unfold mkOf at h
  cases op <;> simp only at h <;> try cases h
  rename_i t x y
  split at h
  · rename_i k l' k' c' e1 e2
    split at h
    · rename_i e' hu
      split at h
      · rename_i i hi
        split at h
        · rename_i z hz
          split at h
          · rename_i v' vs' hv
            split at h
            · rename_i hs
              simp only [Option.some.injEq, Prod.mk.injEq] at h
              obtain ⟨rfl, rfl, rfl, rfl, rfl⟩ := h
              subst hlc
              obtain ⟨n, rfl⟩ : ∃ n : Nat, l' = (n : Int) := ⟨l'.toNat, by omega⟩
              simp only [Int.toNat_natCast]
              have hb2 : (i.bytes + 1) * n ≤ 281474976710656 := by
                have e : (((i.bytes + 1) * n : Nat) : Int) = ((i.bytes : Int) + 1) * (n : Int) := by rw [Int.natCast_mul]; rfl
                exact Int.ofNat_le.1 (by rw [e]; exact hb)
              have hb3 : i.bytes * n ≤ 281474976710656 := Nat.le_trans (Nat.mul_le_mul_right _ (Nat.le_succ _)) hb2
              have h63 : n ≤ maxLen := by
                have : 1 * n ≤ (i.bytes + 1) * n := Nat.mul_le_mul_right _ (by omega)
                unfold maxLen; omega
              obtain ⟨w', h1, h2, h3⟩ := run_make_full (P := P) w base t e' i z (v' :: vs').length hu hi hz (Nat.eq_of_beq_eq_true hs) k k' n hb3 h63 hbase
              rw [made_rep2 _ _ hv] at h2
              exact ⟨w', by simp only [execOp, e1, e2, Sem.run_bind, h1, Result.andThen_ok, Sem.run_pure], h2, h3⟩
            · cases h
          · cases h
        · cases h
      · cases h
    · cases h
  · cases h
def symOp (A : Asks) (P : Program) (E : List Ex) (st : List Nat) (call : CallF) (o : Oper) (s : SS) (h : Hint) (K : KS) : Prop :=
  match pickOf o s with
  | some (c, t, a, b) => A.bool h t fun t' h' => kLit s.tmps c t' fun l0 => kPut l0 o.dst (selV t' a b) fun l => K ⟨l, s.objs⟩ h'
  | none =>
    match appOf o with
    | some (x, y, t) => A.app P st (lev s.tmps x) (lev s.tmps y) t s.objs h fun v os' h' => kPut s.tmps o.dst v fun l => K ⟨l, os'⟩ h'
    | none =>
      match eqOf P o s with
      | some b => kPut s.tmps o.dst (.bool b) fun l => K ⟨l, s.objs⟩ h
      | none =>
        match ixOf P o s with
        | some (p, v) => A.ix h p (fun h' => kPut s.tmps o.dst v fun l => K ⟨l, s.objs⟩ h') (fun h => A.sem (execOp (lev s.tmps) o) h fun t h' => symSem A P E st t s.objs h' (opFin call s o.dst K))
        | none =>
          match mkOf P o s with
          | some (e, bytes, z, l, c) => A.mks h e bytes z l c s.objs (fun v os' h' => kPut s.tmps o.dst v fun l => K ⟨l, os'⟩ h') (fun h => A.sem (execOp (lev s.tmps) o) h fun t h' => symSem A P E st t s.objs h' (opFin call s o.dst K))
          | none =>
          match asksSem o.op with
          | true => A.sem (execOp (lev s.tmps) o) h fun t h' => symSem A P E st t s.objs h' (opFin call s o.dst K)
          | false => symSem A P E st (execOp (lev s.tmps) o) s.objs h (opFin call s o.dst K)

def beqB : Bool → Bool → Bool
  | true, b => b
  | false, true => false
  | false, false => true
theorem beqB_eq (b c : Bool) : (some b == some c) = beqB b c := by cases b <;> cases c <;> rfl
def guardS (A : Asks) (ops : List Oper) (o : Oper) (s : SS) (h : Hint) (K : Bool → SS → Hint → Prop) : Prop :=
  match o.guard with
  | none => K true s h
  | some (j, want) =>
    match lgo ops j with
    | none => K false s h
    | some g =>
      match g.dst with
      | none => K false s h
      | some t =>
        match lget s.tmps t with
        | .bool b => A.bool h b fun b' h' => kSet s.tmps t (.bool b') fun l => K (beqB b' want) ⟨l, s.objs⟩ h'
        | .tuple _ => K false s h
        | _ => False

def opG (A : Asks) (P : Program) (E : List Ex) (st : List Nat) (call : CallF) (ops : List Oper) (o : Oper) (s : SS) (h : Hint) (K : KS) : Prop :=
  guardS A ops o s h fun b s h' =>
    match b with
    | true => symOp A P E st call o s h' K
    | false => kPut s.tmps o.dst undef fun l => K ⟨l, s.objs⟩ h'

def opsS (A : Asks) (P : Program) (E : List Ex) (st : List Nat) (call : CallF) (ops : List Oper) : List Oper → SS → Hint → KS → Prop
  | [], s, h, K => K s h
  | o :: rest, s, h, K => opG A P E st call ops o s h fun s' h' => opsS A P E st call ops rest s' h' K

def symQ (A : Asks) (P : Program) (E : List Ex) (st : List Nat) : Sem Next → List Ob → Hint → (Value → Hint → Prop) → Prop
  | .pure x, os, h, K => match x with | .value v => K v h | _ => False
  | .load _ a k, os, h, K => A.loadQ E st h a os fun v h' => symQ A P E st (k v) os h' K
  | .program k, os, h, K => symQ A P E st (k P) os h K
  | .mark _ k, os, h, K => symQ A P E st k os h K
  | _, _, _, _ => False

def symQ1 (A : Asks) (P : Program) (E : List Ex) (st : List Nat) (o : Oper) (s : SS) (h : Hint) (K : Value → SS → Hint → Prop) : Prop :=
  match pickOf o s with
  | some (c, t, a, b) => A.bool h t fun t' h' => kLit s.tmps c t' fun l0 => K (selV t' a b) ⟨l0, s.objs⟩ h'
  | none =>
    match eqOf P o s with
    | some b => K (.bool b) s h
    | none =>
      match ixOf P o s with
      | some (p, v) => A.ix h p (fun h' => K v s h') (fun h => A.sem (execOp (lev s.tmps) o) h fun t h' => symQ A P E st t s.objs h' fun v h2 => K v s h2)
      | none =>
        match asksSem o.op with
        | true => A.sem (execOp (lev s.tmps) o) h fun t h' => symQ A P E st t s.objs h' fun v h2 => K v s h2
        | false => symQ A P E st (execOp (lev s.tmps) o) s.objs h fun v h2 => K v s h2

def allS (A : Asks) (f : Nat → Hint → Prop) : List Nat → Hint → Prop
  | [], _ => True
  | i :: rest, h => A.br h fun h1 h2 => f i h1 ∧ allS A f rest h2
def isNil {α : Type} : List α → Bool
  | [] => true
  | _ => false

/-! A region in whatever order, some of whose operations write, late: a row that is written only behind a certain operation (k0) may be read first by all that this one waits for. -/
def ph1 (k0 : Option Nat) (listed : Array Bool) : Bool :=
  match k0 with
  | none => true
  | some k => !(listed.getD k true)
theorem ph1_set {k0 : Option Nat} {listed : Array Bool} {i : Nat} (h : k0 ≠ some i) : ph1 k0 (listed.setIfInBounds i true) = ph1 k0 listed := by
  cases k0 with
  | none => rfl
  | some k => simp only [ph1]; rw [getD_set_ne true (fun e => h (by rw [e]))]
def wpH2 (P : Program) (ops : Array Oper) (Q : Exit → Act → World → Prop) (S1 S0 : World → Prop) (k0 : Option Nat) : Nat → Array Bool → Act → World → Prop
  | 0, listed, a, w => Region.ready .any ops listed = [] ∧ Q .normal a w
  | n + 1, listed, a, w =>
    (Region.ready .any ops listed = [] → Q .normal a w) ∧
    ∀ i ∈ Region.ready .any ops listed, wpOp P ops Q i (fun a' w' => (S0 w' ∧ (ph1 k0 (listed.setIfInBounds i true) = true → S1 w')) ∧ wpH2 P ops Q S1 S0 k0 n (listed.setIfInBounds i true) a' w') a w
theorem wpH2_any {P : Program} {ops : Array Oper} {Q : Exit → Act → World → Prop} {S1 S0 : World → Prop} {k0 : Option Nat} (n : Nat) : ∀ (listed : Array Bool) (a : Act) (w : World), wpH2 P ops Q S1 S0 k0 n listed a w → wpAny P .any ops Q n listed a w := by
  induction n with
  | zero => exact fun _ _ _ h => h
  | succ n ih => exact fun listed a w h => ⟨h.1, fun i hi => wpOp_mono (fun a' w' h' => ih _ a' w' h'.2) (h.2 i hi)⟩
theorem wpH2_done {P : Program} {ops : Array Oper} {Q : Exit → Act → World → Prop} {S1 S0 : World → Prop} {k0 : Option Nat} {listed : Array Bool} {a : Act} {w : World} (hr : Region.ready .any ops listed = []) (h : Q .normal a w) (n : Nat) : wpH2 P ops Q S1 S0 k0 n listed a w := by
  cases n with
  | zero => exact ⟨hr, h⟩
  | succ n => exact ⟨fun _ => h, fun i hi => by rw [hr] at hi; cases hi⟩
theorem wpH2_core {P : Program} {ops : Array Oper} {Q : Exit → Act → World → Prop} {S1 S0 S : World → Prop} {k0 : Option Nat} {R : Array Bool → Prop} {i : Nat} {oi : Oper} {v : Value} (hi : ops[i]? = some oi) (hsel : Region.noSelect ops = true) (hQ : ∀ c a w, Q (.panic c) (a.put oi.dst v) w → Q (.panic c) a w) (hk : k0 ≠ some i)
    (hR : ∀ listed j, R listed → listed.getD i true = false → j ∈ Region.ready .any ops listed → j ≠ i → R (listed.setIfInBounds j true)) (hS : ∀ listed w, R listed → S0 w → (ph1 k0 listed = true → S1 w) → S w) (n : Nat) :
    ∀ (listed : Array Bool) (a : Act) (w : World), R listed → (∀ (j : Nat) (oj : Oper), ops[j]? = some oj → j ≠ i → listed.getD j true = false → (∀ e ∈ oj.after, Region.binds .any e = true → e.on ≠ i) → oi.apart ops oj = true) →
      i ∈ Region.ready .any ops listed → YieldsIf P ops S oi v a → S w → S0 w → (ph1 k0 listed = true → S1 w) → wpH2 P ops Q S1 S0 k0 n (listed.setIfInBounds i true) (a.put oi.dst v) w → wpH2 P ops Q S1 S0 k0 (n + 1) listed a w := by
  have here : ∀ {n : Nat} {listed : Array Bool} {a : Act} {w : World}, YieldsIf P ops S oi v a → S w → S0 w → (ph1 k0 listed = true → S1 w) → wpH2 P ops Q S1 S0 k0 n (listed.setIfInBounds i true) (a.put oi.dst v) w →
      wpOp P ops Q i (fun a' w' => (S0 w' ∧ (ph1 k0 (listed.setIfInBounds i true) = true → S1 w')) ∧ wpH2 P ops Q S1 S0 k0 n (listed.setIfInBounds i true) a' w') a w :=
    fun hy hs h0 h1 h => hy.wpOp hi hs ⟨⟨h0, by rw [ph1_set hk]; exact h1⟩, h⟩
  induction n with
  | zero =>
    intro listed a w _ _ hr hy hs h0 h1 h
    refine ⟨(fun e => by rw [e] at hr; cases hr), fun j hj => ?_⟩
    by_cases e : j = i
    · subst e; exact here hy hs h0 h1 h
    · have := ready_mono hj e
      rw [h.1] at this
      cases this
  | succ n ih =>
    intro listed a w hRl hfree hr hy hs h0 h1 h
    refine ⟨(fun e => by rw [e] at hr; cases hr), fun j hj => ?_⟩
    by_cases e : j = i
    · subst e; exact here hy hs h0 h1 h
    · have hstep := h.2 j (ready_mono hj e)
      have hun := (mem_ready.1 hr).1
      obtain ⟨hjun, oj, hoj, hall⟩ := mem_ready.1 hj
      have hno : ∀ e ∈ oj.after, Region.binds .any e = true → e.on ≠ i := by
        intro ed hed hb heq
        have ha := hall ed hed hb
        rw [heq] at ha
        by_cases hlt : i < listed.size
        · simp [hlt] at hun ha; rw [hun] at ha; cases ha
        · simp [Array.getElem?_eq_none (Nat.le_of_not_lt hlt)] at ha
      have hmove := wpOp_putIf hoj (hfree j oj hoj e hjun hno) (fun cs b => Region.noSelect_spec hsel i oi cs b hi) (fun cs b => Region.noSelect_spec hsel j oj cs b hoj) hQ hy hstep
      have hR2 := hR listed j hRl hun hj e
      refine wpOp_mono ?_ hmove
      rintro a' w' ⟨hy', ⟨hs0, hs1⟩, hrest⟩
      rw [Array.setIfInBounds_comm _ _ (Ne.symm e)] at hs1 hrest
      rw [ph1_set hk] at hs1
      refine ⟨⟨hs0, hs1⟩, ih (listed.setIfInBounds j true) a' w' hR2 ?_ (ready_mono hr (Ne.symm e)) hy' (hS _ _ hR2 hs0 hs1) hs0 hs1 hrest⟩
      intro k ok hok hki hkun hkno
      refine hfree k ok hok hki ?_ hkno
      by_cases hjk : j = k
      · subst hjk; exact hjun
      · rwa [getD_set_ne true hjk] at hkun
def waitsB (opl : List Oper) (k0 : Option Nat) (i : Nat) : Bool :=
  match k0 with
  | none => true
  | some k => (match lgo opl k with | some o => o.after.toList.any (fun e => Region.binds .any e && Nat.beq e.on i) | none => false)
def notK (k0 : Option Nat) (i : Nat) : Bool :=
  match k0 with
  | none => true
  | some k => !(Nat.beq k i)
theorem notK_ne {k0 : Option Nat} {i : Nat} (h : notK k0 i = true) : k0 ≠ some i := by
  rintro rfl
  simp [notK] at h
theorem wpH2_take0 {P : Program} {ops : Array Oper} {Q : Exit → Act → World → Prop} {S1 S0 : World → Prop} {k0 : Option Nat} {i : Nat} {oi : Oper} {v : Value} {n : Nat} {listed : Array Bool} {a : Act} {w : World} (hi : ops[i]? = some oi) (hsel : Region.noSelect ops = true) (hf : Region.free .any ops listed i = true) (hr : i ∈ Region.ready .any ops listed)
    (hQ : ∀ c a w, Q (.panic c) (a.put oi.dst v) w → Q (.panic c) a w) (hk : notK k0 i = true) (hy : YieldsIf P ops S0 oi v a) (h0 : S0 w) (h1 : ph1 k0 listed = true → S1 w) (h : wpH2 P ops Q S1 S0 k0 n (listed.setIfInBounds i true) (a.put oi.dst v) w) : wpH2 P ops Q S1 S0 k0 (n + 1) listed a w :=
  wpH2_core (R := fun _ => True) hi hsel hQ (notK_ne hk) (fun _ _ _ _ _ _ => trivial) (fun _ _ _ h0 _ => h0) n listed a w trivial (Region.free_spec hi hf) hr hy h0 h0 h1 h
theorem wpH2_take1 {P : Program} {ops : Array Oper} {Q : Exit → Act → World → Prop} {S1 S0 : World → Prop} {k0 : Option Nat} {i : Nat} {oi : Oper} {v : Value} {n : Nat} {listed : Array Bool} {a : Act} {w : World} (hi : ops[i]? = some oi) (hsel : Region.noSelect ops = true) (hf : Region.free .any ops listed i = true) (hr : i ∈ Region.ready .any ops listed)
    (hQ : ∀ c a w, Q (.panic c) (a.put oi.dst v) w → Q (.panic c) a w) (hk : notK k0 i = true) (hph : ph1 k0 listed = true) (hwt : waitsB ops.toList k0 i = true) (hy : YieldsIf P ops S1 oi v a) (h0 : S0 w) (h1 : S1 w) (h : wpH2 P ops Q S1 S0 k0 n (listed.setIfInBounds i true) (a.put oi.dst v) w) : wpH2 P ops Q S1 S0 k0 (n + 1) listed a w := by
  refine wpH2_core (R := fun l => ph1 k0 l = true) hi hsel hQ (notK_ne hk) (fun l j hl hun hj hji => ?_) (fun l w hl _ h => h hl) n listed a w hph (Region.free_spec hi hf) hr hy h1 h0 (fun _ => h1) h
  rw [ph1_set]
  · exact hl
  · rintro rfl
    unfold waitsB at hwt
    simp only at hwt
    split at hwt
    · rename_i o ho
      rw [lgo_eq] at ho
      obtain ⟨_, oj, hoj, hall⟩ := mem_ready.1 hj
      have : oj = o := by
        have e : ops[j]? = some o := by simpa using ho
        rw [hoj] at e
        exact Option.some.inj e
      subst this
      rw [List.any_eq_true] at hwt
      obtain ⟨ed, hed, hb⟩ := hwt
      rw [Bool.and_eq_true] at hb
      have ha := hall ed (by simpa using hed) hb.1
      rw [Nat.eq_of_beq_eq_true hb.2] at ha
      by_cases hlt : i < l.size
      · simp [hlt] at hun ha; rw [hun] at ha; cases ha
      · simp [Array.getElem?_eq_none (Nat.le_of_not_lt hlt)] at ha
    · cases hwt
theorem wp_region_H2 {P : Program} {ops : Array Oper} {Q : Exit → Act → World → Prop} {S1 S0 : World → Prop} {k0 : Option Nat} {id : Nat} {a : Act} {w : World} (hm : P.follows .mixedOrders = true)
    (h : wpH2 P ops Q S1 S0 k0 ops.size (Array.replicate ops.size false) a { w with drawn := w.drawn + 1 }) : (Code.region id ops true).wp P Q a w :=
  wp_region_any hm (wpH2_any _ _ _ _ h)

/-! What may come up now, and what has come up, in words that are quickly reckoned. -/
def getB : List Bool → Nat → Bool → Bool
  | [], _, d => d
  | b :: _, 0, _ => b
  | _ :: l, n + 1, d => getB l n d
def aftB (listed : List Bool) : List Edge → Bool
  | [] => true
  | e :: l =>
    match e.ground with
    | .textOnly _ => aftB listed l
    | .gcOnly _ => aftB listed l
    | _ => (match getB listed e.on false with | true => aftB listed l | false => false)
def rdyB (l0 : List Bool) : List Oper → List Bool → Nat → List Nat
  | [], _, _ => []
  | _ :: _, [], _ => []
  | o :: os, b :: bs, n =>
    match b with
    | true => rdyB l0 os bs (n + 1)
    | false => (match aftB l0 o.after.toList with | true => n :: rdyB l0 os bs (n + 1) | false => rdyB l0 os bs (n + 1))
def rdyL (ops : Array Oper) (listed : Array Bool) : List Nat := rdyB listed.toList ops.toList listed.toList 0
def kSetB : List Bool → Nat → (List Bool → Prop) → Prop
  | [], _, K => K []
  | _ :: l, 0, K => K (true :: l)
  | b :: l, n + 1, K => kSetB l n fun l' => K (b :: l')
def kLst (listed : Array Bool) (i : Nat) (K : Array Bool → Prop) : Prop := kSetB listed.toList i fun l => K l.toArray
theorem getB_eq (l : List Bool) (n : Nat) (d : Bool) : getB l n d = l.getD n d := by
  induction l generalizing n with
  | nil => simp [getB]
  | cons b l ih => cases n <;> simp [getB, ih]
theorem aftB_eq (l0 : List Bool) (es : List Edge) : aftB l0 es = es.all fun e => !Region.binds .any e || l0.getD e.on false := by
  induction es with
  | nil => rfl
  | cons e es ih =>
    simp only [aftB, List.all_cons, getB_eq]
    have hb : Region.binds .any e = (match e.ground with | .textOnly _ => false | .gcOnly _ => false | _ => true) := by
      unfold Region.binds
      cases e.ground <;> rfl
    rw [hb, ← ih]
    cases e.ground <;> simp only [Bool.not_true, Bool.not_false, Bool.false_or, Bool.true_or, Bool.true_and] <;> (cases l0.getD e.on false <;> rfl)
theorem rdyB_eq (l0 : List Bool) (os : List Oper) : ∀ (bs : List Bool) (n : Nat), rdyB l0 os bs n = (List.range' n os.length).filter fun i => !bs.getD (i - n) true && ((os[i - n]?).map fun o => aftB l0 o.after.toList).getD false := by
  induction os with
  | nil => intro bs n; cases bs <;> rfl
  | cons o os ih =>
    intro bs n
    have shift : ∀ (b : Bool) (bs : List Bool), (List.range' (n + 1) os.length).filter (fun i => !(b :: bs).getD (i - n) true && (((o :: os)[i - n]?).map fun o => aftB l0 o.after.toList).getD false) = (List.range' (n + 1) os.length).filter fun i => !bs.getD (i - (n + 1)) true && ((os[i - (n + 1)]?).map fun o => aftB l0 o.after.toList).getD false := by
      intro b bs
      apply List.filter_congr
      intro i hi
      rw [List.mem_range'_1] at hi
      obtain ⟨k, hk⟩ : ∃ k, i - n = k + 1 := ⟨i - n - 1, by omega⟩
      have hk2 : i - (n + 1) = k := by omega
      rw [hk, hk2]
      simp
    cases bs with
    | nil =>
      symm
      simp only [rdyB]
      rw [List.filter_eq_nil_iff]
      intro i _
      simp
    | cons b bs =>
      rw [List.length_cons, List.range'_succ, List.filter_cons, shift]
      rw [← ih bs (n + 1)]
      simp only [rdyB, Nat.sub_self, List.getD_cons_zero, List.getElem?_cons_zero, Option.map_some, Option.getD_some]
      cases b with
      | true => simp
      | false => cases h : aftB l0 o.after.toList <;> simp
theorem rdyL_eq (ops : Array Oper) (listed : Array Bool) : rdyL ops listed = Region.ready .any ops listed := by
  unfold rdyL Region.ready
  rw [rdyB_eq, List.range_eq_range', Array.length_toList]
  apply List.filter_congr
  intro i _
  simp only [Nat.sub_zero]
  have h1 : listed.toList.getD i true = listed.getD i true := by simp [Array.getD_eq_getD_getElem?]
  rw [h1, Array.getElem?_toList]
  cases ops[i]? with
  | none => rfl
  | some o =>
    simp only [Option.map_some, Option.getD_some]
    rw [aftB_eq]
    congr 1
    rw [← Array.all_toList]
    congr 1
    funext e
    have : listed.toList.getD e.on false = listed.getD e.on false := by simp [Array.getD_eq_getD_getElem?]
    rw [this]
theorem kSetB_eq (l : List Bool) (i : Nat) (K : List Bool → Prop) : kSetB l i K = K (l.set i true) := by
  induction l generalizing i K with
  | nil => simp [kSetB]
  | cons b l ih => cases i <;> simp [kSetB, ih]
theorem kLst_eq (listed : Array Bool) (i : Nat) (K : Array Bool → Prop) : kLst listed i K = K (listed.setIfInBounds i true) := by
  unfold kLst
  rw [kSetB_eq]
  congr 1
  apply Array.toList_inj.1
  simp
def okTake (opl : List Oper) (k0 : Option Nat) (listed : Array Bool) (i : Nat) : Bool := ph1 k0 listed && waitsB opl k0 i
def curS (k0 : Option Nat) (listed : Array Bool) (st1 st0 : List Nat) : List Nat := match ph1 k0 listed with | true => st1 | false => st0
def takeS (opl : List Oper) (k0 : Option Nat) (listed : Array Bool) (i : Nat) (st1 st0 : List Nat) : List Nat := match okTake opl k0 listed i with | true => st1 | false => st0
def regS (A : Asks) (P : Program) (E : List Ex) (st1 : List Nat) (k0 : Option Nat) (st0 : List Nat) (call : List Nat → CallF) (opl : List Oper) (ops : Array Oper) : Nat → Array Bool → SS → Hint → KS → Prop
  | 0, listed, s, h, K => (match isNil (rdyL ops listed) with | true => K s h | false => False)
  | n + 1, listed, s, h, K => A.reg h
      (fun h' => match isNil (rdyL ops listed) with | true => K s h' | false => False)
      (fun i h' =>
        match lgo opl i with
        | none => False
        | some o =>
          match Region.noSelect ops && Region.free .any ops listed i && mem0 (rdyL ops listed) i && notK k0 i with
          | false => False
          | true => guardS A opl o s h' fun b s h2 =>
            match b with
            | true => symQ1 A P E (takeS opl k0 listed i st1 st0) o s h2 fun v s h3 => kPut s.tmps o.dst v fun l => kLst listed i fun li => regS A P E st1 k0 st0 call opl ops n li ⟨l, s.objs⟩ h3 K
            | false => kPut s.tmps o.dst undef fun l => kLst listed i fun li => regS A P E st1 k0 st0 call opl ops n li ⟨l, s.objs⟩ h2 K)
      (fun h' => (match isNil (rdyL ops listed) with | true => False | false => True) ∧
        allS A (fun i h2 =>
          match lgo opl i with
          | none => False
          | some o => opG A P E (curS k0 listed st1 st0) (call (curS k0 listed st1 st0)) opl o s h2 fun s' h3 => kLst listed i fun li => regS A P E st1 k0 st0 call opl ops n li s' h3 K) (rdyL ops listed) h')

def allLt : List Nat → Nat → Bool
  | [], _ => true
  | x :: l, n => Nat.ble (x + 1) n && allLt l n
theorem allLt_mem {l : List Nat} {n : Nat} (h : allLt l n = true) : ∀ i ∈ l, i < n := by
  induction l with
  | nil => intro i hi; cases hi
  | cons x l ih =>
    simp only [allLt, Bool.and_eq_true] at h
    intro i hi
    cases hi with
    | head => have := Nat.le_of_ble_eq_true h.1; omega
    | tail _ hi => exact ih h.2 i hi
def allMem : List Nat → List Nat → Bool
  | [], _ => true
  | x :: l, m => mem0 m x && allMem l m
theorem allMem_mem {l m : List Nat} (h : allMem l m = true) : ∀ i ∈ l, i ∈ m := by
  induction l with
  | nil => intro i hi; cases hi
  | cons x l ih =>
    simp only [allMem, Bool.and_eq_true] at h
    intro i hi
    cases hi with
    | head => exact mem0_iff.1 h.1
    | tail _ hi => exact ih h.2 i hi
def repU : Nat → List Value
  | 0 => []
  | n + 1 => undef :: repU n

def resS (A : Asks) (P : Program) (E : List Ex) (fn : Func) (s : SS) (h : Hint) (K : Value → List Ob → Hint → Prop) : Prop :=
  match fn.results.toList with
  | [] => K (.tuple #[]) s.objs h
  | [.tmp t] => K (lget s.tmps t) s.objs h
  | [.tmp t, .tmp u] => K (.tuple #[lget s.tmps t, lget s.tmps u]) s.objs h
  | [.tmp t, .tmp u, .tmp v] => K (.tuple #[lget s.tmps t, lget s.tmps u, lget s.tmps v]) s.objs h
  | [.tmp t, .tmp u, .tmp v, .tmp x] => K (.tuple #[lget s.tmps t, lget s.tmps u, lget s.tmps v, lget s.tmps x]) s.objs h
  | [.cell a t] => symQ A P E (rng s.objs.length) (Sem.bind (Sem.bind (asAddr (lget s.tmps a)) (fun x => loadVar t x)) (fun v => Sem.pure (Next.value v))) s.objs h fun v h' => kV v fun v' => K v' s.objs h'
  | [.cell a t, .tmp u] => symQ A P E (rng s.objs.length) (Sem.bind (Sem.bind (asAddr (lget s.tmps a)) (fun x => loadVar t x)) (fun v => Sem.pure (Next.value v))) s.objs h fun v h' => kV v fun v' => K (.tuple #[v', lget s.tmps u]) s.objs h'
  | [.cell a t, .tmp u, .tmp x] => symQ A P E (rng s.objs.length) (Sem.bind (Sem.bind (asAddr (lget s.tmps a)) (fun x => loadVar t x)) (fun v => Sem.pure (Next.value v))) s.objs h fun v h' => kV v fun v' => K (.tuple #[v', lget s.tmps u, lget s.tmps x]) s.objs h'
  | [.tmp y, .cell a t, .tmp u, .tmp x] => symQ A P E (rng s.objs.length) (Sem.bind (Sem.bind (asAddr (lget s.tmps a)) (fun x => loadVar t x)) (fun v => Sem.pure (Next.value v))) s.objs h fun v h' => kV v fun v' => K (.tuple #[lget s.tmps y, v', lget s.tmps u, lget s.tmps x]) s.objs h'
  | [.cell a t, .cell b u] => symQ A P E (rng s.objs.length) (Sem.bind (Sem.bind (asAddr (lget s.tmps a)) (fun x => loadVar t x)) (fun v => Sem.pure (Next.value v))) s.objs h fun v h' =>
      symQ A P E (rng s.objs.length) (Sem.bind (Sem.bind (asAddr (lget s.tmps b)) (fun x => loadVar u x)) (fun v => Sem.pure (Next.value v))) s.objs h' fun v2 h2 => kV v fun v' => kV v2 fun v2' => K (.tuple #[v', v2']) s.objs h2
  | _ => False

def inlS (A : Asks) (P : Program) (E : List Ex) (rec : Code → SS → Hint → (Exit → SS → Hint → Prop) → Prop) (f : FuncId) (args : Array Value) (os : List Ob) (h : Hint) (K : Value → List Ob → Hint → Prop) : Prop :=
  match P.funcs[f]? with
  | none => False
  | some fn =>
    match fn.body with
    | none => False
    | some c => kL kId (lapp args.toList (repU (fn.ntmps - args.size))) fun l => rec c ⟨l, os⟩ h fun e s h2 =>
      match e with
      | .normal => resS A P E fn s h2 K
      | .ret => resS A P E fn s h2 K
      | _ => False
def callFull (A : Asks) (P : Program) (E : List Ex) (rec : List Nat → Code → SS → Hint → (Exit → SS → Hint → Prop) → Prop) (st : List Nat) : CallF := fun f args os h K =>
  A.call P st E h f args os K (fun h' => inlS A P E (rec st) f args os h' K) (fun v h' => inlS A P E (rec (rng os.length)) f args os h' fun v' _ _ => v' = v)

def roundS (body : SS → Hint → (Exit → SS → Hint → Prop) → Prop) (Q : Exit → SS → Hint → Prop) : Nat → SS → Hint → Prop
  | 0, _, _ => False
  | n + 1, s, h => body s h fun e s' h' =>
    match e with
    | .normal => roundS body Q n s' h'
    | e => Q e s' h'

def dsts : List Oper → List Nat
  | [] => []
  | o :: l => match o.dst with | some t => t :: dsts l | none => dsts l
def wrs : Code → List Nat
  | .region _ ops _ => dsts ops.toList
  | .seq a b => lapp (wrs a) (wrs b)
  | .cond _ a b => lapp (wrs a) (wrs b)
  | .block _ c => wrs c
  | .loop c => wrs c
  | .scope c => wrs c
  | _ => []
def jset (junk : Nat → Value) : List Nat → List Value → List Value
  | [], l => l
  | t :: r, l => jset junk r (lset l t (junk t))
def kJset (junk : Nat → Value) : List Nat → List Value → (List Value → Prop) → Prop
  | [], l, K => K l
  | t :: r, l, K => kSet l t (junk t) fun l' => kJset junk r l' K
theorem kJset_eq (junk : Nat → Value) (r : List Nat) (l : List Value) (K : List Value → Prop) : kJset junk r l K = K (jset junk r l) := by
  induction r generalizing l with
  | nil => rfl
  | cons t r ih => simp [kJset, jset, kSet_eq, ih]
def pset : List (Nat × Value) → List Value → List Value
  | [], l => l
  | (t, v) :: r, l => pset r (lset l t v)
def kPset : List (Nat × Value) → List Value → (List Value → Prop) → Prop
  | [], l, K => K l
  | (t, v) :: r, l, K => kSet l t v fun l' => kPset r l' K
theorem kPset_eq (r : List (Nat × Value)) (l : List Value) (K : List Value → Prop) : kPset r l K = K (pset r l) := by
  induction r generalizing l with
  | nil => rfl
  | cons t r ih => obtain ⟨t, v⟩ := t; simp [kPset, pset, kSet_eq, ih]
def isUndef : Value → Bool
  | .tuple _ => true
  | _ => false
def agreeS : List (Nat × Value) → List Value → Prop → Prop
  | [], _, p => p
  | (t, v) :: r, l, p => lget l t = v ∧ (match isUndef v with | true => False | false => agreeS r l p)
theorem agreeS_ok {r : List (Nat × Value)} {l : List Value} {p : Prop} (h : agreeS r l p) : p ∧ ∀ t v, (t, v) ∈ r → lget l t = v ∧ v ≠ undef := by
  induction r with
  | nil => exact ⟨h, fun t v hm => by cases hm⟩
  | cons x r ih =>
    obtain ⟨t, v⟩ := x
    simp only [agreeS] at h
    obtain ⟨h1, h2⟩ := h
    split at h2
    · exact h2.elim
    · rename_i e
      obtain ⟨hp, h3⟩ := ih h2
      refine ⟨hp, fun t' v' hm => ?_⟩
      cases hm with
      | head => exact ⟨h1, fun e' => by rw [e'] at e; cases e⟩
      | tail _ hm => exact h3 t' v' hm
def Off (W : List Nat) (l l' : List Value) : Prop := l'.length = l.length ∧ ∀ t, t ∉ W → lget l' t = lget l t
theorem Off.refl (W : List Nat) (l : List Value) : Off W l l := ⟨rfl, fun _ _ => rfl⟩
theorem Off.trans {W : List Nat} {a b c : List Value} (h : Off W a b) (k : Off W b c) : Off W a c := ⟨k.1.trans h.1, fun t ht => (k.2 t ht).trans (h.2 t ht)⟩
theorem Off.mono {W W' : List Nat} {a b : List Value} (h : Off W a b) (hw : ∀ t ∈ W, t ∈ W') : Off W' a b := ⟨h.1, fun t ht => h.2 t fun hm => ht (hw t hm)⟩
theorem lset_length (l : List Value) (t : Nat) (v : Value) : (lset l t v).length = l.length := by rw [lset_eq]; simp
theorem lget_lset (l : List Value) (t u : Nat) (v : Value) : lget (lset l t v) u = if t = u ∧ u < l.length then v else lget l u := by
  rw [lset_eq, lget_eq, lget_eq, List.getD_eq_getElem?_getD, List.getD_eq_getElem?_getD, List.getElem?_set]
  split
  · rename_i e
    subst e
    by_cases hl : t < l.length <;> simp [hl]
  · rename_i e
    simp [e]
theorem Off.put {W : List Nat} {l : List Value} {d : Option Tmp} {v : Value} (h : ∀ t, d = some t → t ∈ W) : Off W l (lput l d v) := by
  cases d with
  | none => exact Off.refl _ _
  | some t =>
    refine ⟨lset_length _ _ _, fun u hu => ?_⟩
    simp only [lput]
    rw [lget_lset, if_neg]
    rintro ⟨rfl, _⟩
    exact hu (h _ rfl)
theorem jset_length (junk : Nat → Value) (r : List Nat) (l : List Value) : (jset junk r l).length = l.length := by
  induction r generalizing l with
  | nil => rfl
  | cons t r ih => simp [jset, ih, lset_length]
theorem pset_length (r : List (Nat × Value)) (l : List Value) : (pset r l).length = l.length := by
  induction r generalizing l with
  | nil => rfl
  | cons t r ih => obtain ⟨t, v⟩ := t; simp [pset, ih, lset_length]
theorem list_ext_lget {l l' : List Value} (hl : l.length = l'.length) (h : ∀ t, lget l t = lget l' t) : l = l' := by
  apply List.ext_getElem hl
  intro i h1 h2
  have := h i
  rw [lget_eq, lget_eq, List.getD_eq_getElem?_getD, List.getD_eq_getElem?_getD] at this
  simpa [h1, h2] using this
theorem jset_self {junk : Nat → Value} (r : List Nat) {l l' : List Value} (hj : ∀ t, junk t = lget l' t) (ho : Off r l l') : jset junk r l = l' := by
  have key : ∀ (r : List Nat) (l : List Value), l'.length = l.length → ∀ t, lget (jset junk r l) t = lget l' t ∨ (t ∉ r ∧ lget (jset junk r l) t = lget l t) := by
    intro r
    induction r with
    | nil => intro l _ t; exact Or.inr ⟨by simp, rfl⟩
    | cons u r ih =>
      intro l hl t
      simp only [jset]
      rcases ih (lset l u (junk u)) (by rw [lset_length]; exact hl) t with h | ⟨h1, h2⟩
      · exact Or.inl h
      · rw [lget_lset] at h2
        split at h2
        · rename_i e
          left
          rw [h2, e.1, hj]
        · rename_i e
          by_cases hu : u = t
          · subst hu
            left
            have hge : l.length ≤ u := Nat.le_of_not_lt fun h => e ⟨rfl, h⟩
            rw [h2, lget_eq, lget_eq, List.getD_eq_getElem?_getD, List.getD_eq_getElem?_getD, List.getElem?_eq_none hge, List.getElem?_eq_none (by omega)]
          · exact Or.inr ⟨by simp; exact ⟨fun e => hu e.symm, h1⟩, h2⟩
  refine list_ext_lget (by rw [jset_length]; exact ho.1.symm) fun t => ?_
  rcases key r l ho.1 t with h | ⟨h1, h2⟩
  · exact h
  · rw [h2, ho.2 t h1]
theorem pset_self {r : List (Nat × Value)} {l : List Value} (h : ∀ t v, (t, v) ∈ r → lget l t = v ∧ v ≠ undef) : pset r l = l := by
  induction r with
  | nil => rfl
  | cons x r ih =>
    obtain ⟨t, v⟩ := x
    have h1 := h t v (List.mem_cons_self ..)
    simp only [pset]
    rw [lset_self h1.1 h1.2]
    exact ih fun t v hm => h t v (List.mem_cons_of_mem _ hm)

theorem own_empty {w : World} {base : Nat} {o : Ob} (hok : o.ok0 base w) (ho : o.ow = none) (hc : o.cells = []) (e : TypeId) (he : o.el = e) (size : Nat) : w.ownsRow base e size (.slice (some ⟨o.blk, 0, none⟩) 0 0) 0 [] := by
  unfold Ob.ok0 at hok
  rw [ho] at hok
  simp only at hok
  rw [hc, he] at hok
  exact ⟨by simp, Or.inr ⟨o.blk, 0, #[], rfl, hok.1, hok.2, Nat.le_refl _, Nat.zero_le _, by simp, by simp⟩⟩
def Weak0 (o q : Ob) : Prop := (∀ base w, o.ok0 base w → q.ok0 base w ∧ ∀ k, q.dep0 k → o.dep0 k) ∧ ∀ k, q.key = some k → o.key = some k
theorem weakP0_ok {p o : Ob} (h : weakP0 p o) : Weak0 p o := by
  unfold weakP0 at h
  have same : p.blk = o.blk ∧ p.cells = o.cells ∧ p.el = o.el ∧ p.ow = o.ow → Weak0 p o := by
    rintro ⟨e1, e2, e3, e4⟩
    obtain ⟨b, c, e, u⟩ := p
    obtain ⟨b', c', e', u'⟩ := o
    simp only at e1 e2 e3 e4
    subst e1 e2 e3 e4
    exact ⟨fun _ _ h => ⟨h, fun _ h => h⟩, fun _ h => h⟩
  split at h
  · exact same h
  · rename_i u hu
    split at h
    · rename_i hs
      refine ⟨fun base w hok => ⟨?_, fun k hk => ?_⟩, fun k hk => ?_⟩
      · unfold Ob.ok0
        rw [hu]
        simp only [hs]
        split at h
        · rename_i hp
          rw [h.1, ← h.2]
          exact hok.rd0 hp
        · rename_i x hp
          rw [← h.1, ← h.2]
          exact hok.rd hp
      · unfold Ob.dep0 at hk
        rw [hu] at hk
        simp only [hs] at hk
        obtain ⟨hne, rfl⟩ := hk
        split at h
        · rename_i hp
          unfold Ob.dep0
          rw [hp, h.1]
          rfl
        · rename_i x hp
          unfold Ob.ok0 at hok
          unfold Ob.dep0
          rw [hp] at hok ⊢
          simp only at hok ⊢
          rw [← h.2] at hne
          split at hok
          · exact ⟨hne, by rw [h.1]⟩
          · rcases hok.2 with ⟨_, hn⟩ | ⟨g, cap, cur, he, _⟩
            · exact absurd (List.eq_nil_of_length_eq_zero (by rw [hok.1, hn]; simp)) hne
            · injection he with h1 _ _
              rw [← h.1, h1]
              rfl
      · unfold Ob.key at hk
        rw [hu] at hk
        simp only [hs] at hk
        cases hk
    · rename_i sz hs
      split at h
      · rename_i hp
        split at h
        · rename_i hcs
          obtain ⟨e1, e2, e3, e4, e5, e6⟩ := h
          refine ⟨fun base w hok => ⟨?_, fun k hk => ?_⟩, fun k hk => ?_⟩
          · have := own_empty hok hp e2 o.el e1 u.size
            unfold Ob.ok0
            rw [hu]
            simp only [hs]
            rw [e3, e4, e5, e6, ← hs]
            exact this
          · unfold Ob.dep0 at hk ⊢
            rw [hu] at hk
            rw [hp]
            simp only [hs, e6] at hk ⊢
            simpa using hk.symm
          · unfold Ob.key at hk ⊢
            rw [hu] at hk
            rw [hp]
            simp only [hs, e6] at hk ⊢
            simpa using hk
        · obtain ⟨e1, e2, e3, e4, e5, e6⟩ := h
          refine ⟨fun base w hok => ⟨?_, fun k hk => ?_⟩, fun k hk => ?_⟩
          · unfold Ob.ok0 at hok ⊢
            rw [hp] at hok
            rw [hu]
            simp only [hs] at hok ⊢
            refine ⟨by rw [e3, hs], Or.inr ⟨p.blk, u.cap, o.cells.toArray, by rw [e6], hok.1, ?_, by rw [e4]; exact Nat.le_refl _, by rw [e4]; unfold maxLen; omega, by rw [e4, ← hs, ← e3]; simp, ?_⟩⟩
            · rw [← e2, ← e1]; exact hok.2
            · rw [← hs, ← e3]; simp
          · unfold Ob.dep0 at hk ⊢
            rw [hu] at hk
            rw [hp]
            simp only [hs, e6] at hk ⊢
            simpa using hk.symm
          · unfold Ob.key at hk ⊢
            rw [hu] at hk
            rw [hp]
            simp only [hs, e6] at hk ⊢
            simpa using hk
      · exact same h
theorem weakP_ok {p o : Ob} (h : weakP p o) : Weak p o := by
  unfold weakP at h
  split at h
  · rename_i g hg
    split at h
    · rename_i g' hg'
      obtain ⟨rfl, h⟩ := h
      have h0 := weakP0_ok h
      refine ⟨fun base w hok => ⟨⟨(h0.1 base w hok.1).1, ?_⟩, fun k hk => ?_⟩, fun k hk => ?_⟩
      · have := hok.2
        unfold GhB.ok at this ⊢
        rw [hg'] at this
        rw [hg]
        exact this
      · rcases hk with hk | hk
        · exact Or.inl ((h0.1 base w hok.1).2 k hk)
        · right
          unfold GhB.dep at hk ⊢
          rw [hg] at hk
          rw [hg']
          exact hk
      · rcases hk with hk | hk
        · exact Or.inl (h0.2 k hk)
        · right
          unfold GhB.own at hk ⊢
          rw [hg] at hk
          rw [hg']
          exact hk
    · obtain ⟨h, hn⟩ := h
      have h0 := weakP0_ok h
      refine ⟨fun base w hok => ⟨⟨(h0.1 base w hok.1).1, ?_⟩, fun k hk => ?_⟩, fun k hk => ?_⟩
      · unfold GhB.ok
        rw [hg]
        exact ⟨(hn w).1, fun _ k hk => absurd hk ((hn w).2 k)⟩
      · rcases hk with hk | hk
        · exact Or.inl ((h0.1 base w hok.1).2 k hk)
        · unfold GhB.dep at hk
          rw [hg] at hk
          exact absurd hk ((hn w).2 k)
      · rcases hk with hk | hk
        · exact Or.inl (h0.2 k hk)
        · unfold GhB.own at hk
          rw [hg] at hk
          exact absurd hk.2 ((hn default).2 k)
  · rename_i hg
    have h0 := weakP0_ok h
    refine ⟨fun base w hok => ⟨⟨(h0.1 base w hok.1).1, ?_⟩, fun k hk => ?_⟩, fun k hk => ?_⟩
    · unfold GhB.ok
      rw [hg]
      trivial
    · rcases hk with hk | hk
      · exact Or.inl ((h0.1 base w hok.1).2 k hk)
      · unfold GhB.dep at hk
        rw [hg] at hk
        exact hk.elim
    · rcases hk with hk | hk
      · exact Or.inl (h0.2 k hk)
      · unfold GhB.own at hk
        rw [hg] at hk
        exact hk.elim
def rowsSet : List Ob → List Nat → List Ob → List Ob
  | os, i :: is, o :: l => rowsSet (obset os i o) is l
  | os, _, _ => os
def kRows : List Ob → List Nat → List Ob → (List Ob → Prop) → Prop
  | os, i :: is, o :: l, K => kObset os i o fun os' => kRows os' is l K
  | os, _, _, K => K os
theorem kRows_eq (os : List Ob) (is : List Nat) (l : List Ob) (K : List Ob → Prop) : kRows os is l K = K (rowsSet os is l) := by
  induction is generalizing os l with
  | nil => cases l <;> rfl
  | cons i is ih => cases l <;> simp [kRows, rowsSet, kObset_eq, ih]
theorem rowsSet_length (os : List Ob) (is : List Nat) (l : List Ob) : (rowsSet os is l).length = os.length := by
  induction is generalizing os l with
  | nil => cases l <;> rfl
  | cons i is ih => cases l <;> simp [rowsSet, ih, obset_eq]
theorem rowsSet_off (os : List Ob) (is : List Nat) (l : List Ob) {j : Nat} (hj : j ∉ is) : (rowsSet os is l)[j]? = os[j]? := by
  induction is generalizing os l with
  | nil => cases l <;> rfl
  | cons i is ih =>
    simp at hj
    cases l with
    | nil => rfl
    | cons o l =>
      simp only [rowsSet]
      rw [ih _ _ hj.2, obset_eq, List.getElem?_set, if_neg (fun e => hj.1 e.symm)]
theorem rowsSet_at {os : List Ob} : ∀ {is : List Nat} {l : List Ob} {k i : Nat} {o : Ob}, is.Nodup → is[k]? = some i → l[k]? = some o → i < os.length → (rowsSet os is l)[i]? = some o := by
  intro is
  induction is generalizing os with
  | nil => intro l k i o _ h; simp at h
  | cons x is ih =>
    intro l k i o hnd hk hl hi
    cases l with
    | nil => simp at hl
    | cons p l =>
      simp only [rowsSet]
      rw [List.nodup_cons] at hnd
      cases k with
      | zero =>
        simp at hk hl
        subst hk
        subst hl
        rw [rowsSet_off _ _ _ hnd.1, obset_eq, List.getElem?_set]
        simp [hi]
      | succ k => exact ih hnd.2 (by simpa using hk) (by simpa using hl) (by rw [obset_eq]; simpa using hi)
theorem rowsAre_at {os : List Ob} : ∀ {js : List Nat} {l : List Ob}, rowsAre os js l → js.length = l.length ∧ ∀ (k j : Nat) (o : Ob), js[k]? = some j → l[k]? = some o → ∃ p, os[j]? = some p ∧ Weak p o := by
  intro js
  induction js with
  | nil => intro l h; cases l with
    | nil => exact ⟨rfl, fun k j o hk => by simp at hk⟩
    | cons o l => exact h.elim
  | cons x js ih =>
    intro l h
    cases l with
    | nil => exact h.elim
    | cons o l =>
      simp only [rowsAre] at h
      obtain ⟨h1, h2⟩ := h
      obtain ⟨h3, h4⟩ := ih h2
      refine ⟨by simp [h3], fun k j q hk hq => ?_⟩
      cases k with
      | zero =>
        simp at hk hq
        subst hk
        subst hq
        split at h1
        · rename_i p hp
          rw [lgo_eq] at hp
          exact ⟨p, hp, weakP_ok h1⟩
        · exact h1.elim
      | succ k => exact h4 k j q (by simpa using hk) (by simpa using hq)
theorem nodupB_ok {l : List Nat} (h : nodupB l = true) : l.Nodup := by
  induction l with
  | nil => exact List.nodup_nil
  | cons x l ih =>
    simp only [nodupB, Bool.and_eq_true, Bool.not_eq_true'] at h
    rw [List.nodup_cons]
    exact ⟨fun hm => by rw [mem0_iff.2 hm] at h; exact absurd h.1 (by simp), ih h.2⟩
def jsIn : List Nat → List Nat → Nat → Bool
  | [], _, _ => true
  | j :: js, idx, n => (mem0 idx j || Nat.ble n j) && jsIn js idx n
theorem jsIn_ok {js idx : List Nat} {n : Nat} (h : jsIn js idx n = true) : ∀ j ∈ js, j ∈ idx ∨ n ≤ j := by
  induction js with
  | nil => intro j hj; cases hj
  | cons x js ih =>
    simp only [jsIn, Bool.and_eq_true, Bool.or_eq_true] at h
    intro j hj
    cases hj with
    | head => exact h.1.imp mem0_iff.1 Nat.le_of_ble_eq_true
    | tail _ hj => exact ih h.2 j hj
theorem MRep.again {w0 : Bs} {E : List Ex} {os s1 : List Ob} {w : World} {idx js : List Nat} {l : List Ob} (h : MRep w0 E s1 w) (hnd : idx.Nodup) (hjs : js.Nodup) (hin : ∀ j ∈ js, j ∈ idx ∨ os.length ≤ j) (hlt : ∀ i ∈ idx, i < os.length) (hlen : js.length = idx.length) (hr : rowsAre s1 js l) (hoff : ∀ j, j < os.length → j ∉ idx → s1[j]? = os[j]?) : MRep w0 E (rowsSet os idx l) w := by
  obtain ⟨hl, hat⟩ := rowsAre_at hr
  let f : Nat → Nat := fun i => if i ∈ idx then js.getD (idx.idxOf i) 0 else i
  have hpos : ∀ i, i ∈ idx → ∃ k, k < idx.length ∧ idx[k]? = some i ∧ idx.idxOf i = k := fun i hi => ⟨idx.idxOf i, List.idxOf_lt_length_iff.2 hi, by rw [List.getElem?_eq_getElem (List.idxOf_lt_length_iff.2 hi)]; simp, rfl⟩
  have fin : ∀ i, i ∈ idx → ∃ k, k < js.length ∧ idx[k]? = some i ∧ js[k]? = some (f i) := by
    intro i hi
    obtain ⟨k, hk, hki, hidx⟩ := hpos i hi
    refine ⟨k, by omega, hki, ?_⟩
    simp only [f, hi, if_true, hidx]
    have : k < js.length := by omega
    simp [this]
  refine h.remap f ?_ ?_
  · intro i j hi hj he
    rw [rowsSet_length] at hi hj
    by_cases h1 : i ∈ idx <;> by_cases h2 : j ∈ idx
    · obtain ⟨k, hk, hki, hkf⟩ := fin i h1
      obtain ⟨k', hk', hki', hkf'⟩ := fin j h2
      rw [he, ← hkf'] at hkf
      have : k = k' := (List.getElem?_inj hk hjs).1 hkf
      subst this
      rw [hki] at hki'
      exact Option.some.inj hki'
    · obtain ⟨k, hk, hki, hkf⟩ := fin i h1
      have e2 : f j = j := by simp [f, h2]
      have hm : f i ∈ js := List.mem_of_getElem? hkf
      rw [he, e2] at hm
      rcases hin j hm with h3 | h3
      · exact absurd h3 h2
      · omega
    · obtain ⟨k, hk, hki, hkf⟩ := fin j h2
      have e2 : f i = i := by simp [f, h1]
      have hm : f j ∈ js := List.mem_of_getElem? hkf
      rw [← he, e2] at hm
      rcases hin i hm with h3 | h3
      · exact absurd h3 h1
      · omega
    · simpa [f, h1, h2] using he
  · intro i q hq
    have hi : i < os.length := by have := (List.getElem?_eq_some_iff.1 hq).1; rwa [rowsSet_length] at this
    by_cases h1 : i ∈ idx
    · obtain ⟨k, hk, hki, hkf⟩ := fin i h1
      have hkl : k < l.length := by omega
      have hlk : l[k]? = some l[k] := by simp
      rw [rowsSet_at hnd hki hlk hi] at hq
      injection hq with hq
      obtain ⟨p, hp, hw⟩ := hat k (f i) l[k] hkf hlk
      exact ⟨p, hp, by rw [← hq]; exact hw⟩
    · have e2 : f i = i := by simp [f, h1]
      rw [rowsSet_off _ _ _ h1] at hq
      exact ⟨q, by rw [e2, hoff i hi h1]; exact hq, Weak.refl _⟩
def lminus : List Nat → List Nat → List Nat
  | [], _ => []
  | x :: l, m => match mem0 m x with | true => lminus l m | false => x :: lminus l m
theorem mem_minus {l m : List Nat} {i : Nat} : i ∈ lminus l m ↔ i ∈ l ∧ i ∉ m := by
  induction l with
  | nil => simp [lminus]
  | cons x l ih =>
    simp only [lminus]
    split
    · rename_i e
      have := mem0_iff.1 e
      rw [ih]
      constructor
      · rintro ⟨h1, h2⟩; exact ⟨List.mem_cons_of_mem _ h1, h2⟩
      · rintro ⟨h1, h2⟩
        cases h1 with
        | head => exact absurd this h2
        | tail _ h1 => exact ⟨h1, h2⟩
    · rename_i e
      have hx : x ∉ m := fun h => by rw [mem0_iff.2 h] at e; cases e
      rw [List.mem_cons, ih]
      constructor
      · rintro (rfl | ⟨h1, h2⟩)
        · exact ⟨List.mem_cons_self .., hx⟩
        · exact ⟨List.mem_cons_of_mem _ h1, h2⟩
      · rintro ⟨h1, h2⟩
        cases h1 with
        | head => exact Or.inl rfl
        | tail _ h1 => exact Or.inr ⟨h1, h2⟩
def kNil : List Ob → List (TypeId × Nat) → (List Ob → Prop) → Prop
  | os, [], K => K os
  | os, p :: l, K => kApp os (nilOb p) fun os' => kNil os' l K
def addNil : List Ob → List (TypeId × Nat) → List Ob
  | os, [] => os
  | os, p :: l => addNil (app1 os (nilOb p)) l
theorem kNil_eq (os : List Ob) (l : List (TypeId × Nat)) (K : List Ob → Prop) : kNil os l K = K (addNil os l) := by
  induction l generalizing os with
  | nil => rfl
  | cons p l ih => simp [kNil, addNil, kApp_eq, ih]
abbrev RecF := List Nat → Code → SS → Hint → (Exit → SS → Hint → Prop) → Prop
def backE (l : LoopR) (x : l.α) (n : Nat) (s' : SS) (js : List Nat) : Prop :=
  match nodupB js && jsIn js l.idx n && Nat.beq js.length l.idx.length with
  | true => ∃ y, l.inv y ∧ l.mu y < l.mu x ∧ agreeS (l.ps y) s'.tmps (rowsAre s'.objs js (l.ob y))
  | false => False
/-- Some rows are taken together to one thing. -/
def ghoS (A : Asks) (chk : List Nat → Bool) : Nat → List Ob → Hint → (List Ob → Hint → Prop) → Prop
  | 0, os, h, K => K os h
  | n + 1, os, h, K => A.gho h os (fun is q h' => match nodupB is && chk is with
      | true => (match obsAt os is with
        | some ps => AbsP ps q ∧ kGone os is fun os1 => kApp os1 q fun os2 => ghoS A chk n os2 h' K
        | none => False)
      | false => False) (fun h' => K os h')
def loopI (A : Asks) (rec : RecF) (st : List Nat) (body : Code) (s : SS) (Q : Exit → SS → Hint → Prop) (l : LoopR) (he : Hint) (hb : l.α → Hint) : Prop :=
  kNil s.objs l.pre fun os0 => ghoS A (fun is => noneIn is st) 4 os0 he fun os _ =>
  (∃ x, l.inv x ∧ agreeS (l.ps x) s.tmps (rowsAre os l.idx (l.ob x))) ∧
  (match allMem st (lminus (rng os.length) l.idx) && nodupB l.idx && allLt l.idx os.length with
  | true => ∀ x, l.inv x → ∀ junk : Nat → Value, kJset junk (wrs body) s.tmps fun t => kPset (l.ps x) t fun t' => kRows os l.idx (l.ob x) fun os' =>
    rec (lminus (rng os.length) l.idx) body ⟨t', os'⟩ (hb x) fun e s' h2 =>
      match e with
      | .normal => ghoS A (fun is => jsIn is l.idx os.length) 4 s'.objs h2 fun os2 h3 => A.perm h3 fun js _ => backE l x os.length ⟨s'.tmps, os2⟩ js
      | e => Q e s' h2
  | false => False)

def unrollL : LoopR := ⟨Unit, fun _ => [], [], fun _ => [], fun _ => True, fun _ => 0, []⟩
def cutable : Code → Bool
  | .region .. => true
  | .cond .. => true
  | _ => false
def allocSem (P : Program) : Sem Next → Option (Array Value × TypeId × (Nat → Sem Next))
  | .program k => allocSem P (k P)
  | .mark _ k => allocSem P k
  | .new o k => (match plainRow o with | some (c, e) => some (c, e, k) | none => none)
  | _ => none
def valSem (P : Program) : Sem Next → Option Value
  | .pure x => (match x with | .value v => some v | _ => none)
  | .program k => valSem P (k P)
  | .mark _ k => valSem P k
  | _ => none
def wantB (opl : List Oper) (o : Oper) (s : SS) : Option Bool :=
  match o.guard with
  | none => some true
  | some (j, want) =>
    match lgo opl j with
    | none => some false
    | some g =>
      match g.dst with
      | none => some false
      | some t =>
        match lget s.tmps t with
        | .bool b => (match b with | true => some (beqB true want) | false => some (beqB false want))
        | .tuple _ => some false
        | _ => none
def callSem (P : Program) : Sem Next → Option (FuncId × Array Value)
  | .pure x => (match x with | .enter f args => some (f, args) | _ => none)
  | .program k => callSem P (k P)
  | .mark _ k => callSem P k
  | _ => none
def floatQ (P : Program) (opl : List Oper) (s : SS) (f : Nat) : Prop :=
  match lgo opl f with
  | none => False
  | some o =>
    match wantB opl o s with
    | some true => (match allocSem P (execOp (lev s.tmps) o) with
      | some (c, e, k) => ∀ b : Nat, (match valSem P (k b) with | some _ => True | none => False)
      | none => False)
    | some false => True
    | none => False
def floatsOK (P : Program) (opl : List Oper) (rd : List Nat) (s : SS) : List Nat → Prop
  | [] => True
  | f :: l => (match mem0 rd f with | true => floatQ P opl s f | false => True) ∧ floatsOK P opl rd s l
def setAll : List Nat → Array Bool → Array Bool
  | [], l => l
  | f :: r, l => setAll r (l.setIfInBounds f true)
def allOr (F G : List Nat) : List Nat → Bool
  | [] => true
  | j :: l => (mem0 F j || mem0 G j) && allOr F G l
def mains (F : List Nat) (l : List Nat) : List Nat := lminus l F
def allB (p : Nat → Bool) : List Nat → Bool
  | [] => true
  | x :: l => p x && allB p l
def freeB (ops : Array Oper) (f : Nat) : Bool :=
  match ops[f]? with
  | none => false
  | some o => (List.range ops.size).all fun j => j == f || match ops[j]? with
      | some oj => oj.after.any (fun e => Region.binds .any e && e.on == f) || o.after.any (fun e => Region.binds .any e && e.on == j) || o.apart ops oj
      | none => true
def freeF (ops : Array Oper) (opl : List Oper) (F : List Nat) : Bool :=
  Region.noSelect ops && allB (fun f => freeB ops f && (match lgo opl f with | some o => o.after.toList.all (fun e => !(Region.binds .any e) || !(mem0 F e.on)) | none => false)) F
def opFinV (s : SS) (dst : Option Tmp) (K : KS) : Next → List Ob → Hint → Prop
  | .value v, os, h => kPut s.tmps dst v fun l => K ⟨l, os⟩ h
  | .skip, os, h => kPut s.tmps dst undef fun l => K ⟨l, os⟩ h
  | _, _, _ => False
def callM (A : Asks) (P : Program) (E : List Ex) (st : List Nat) (o : Oper) (s : SS) (h : Hint) (K : KS) : Prop :=
  match appOf o with
  | some (x, y, t) => A.app P st (lev s.tmps x) (lev s.tmps y) t s.objs h fun v os' h' => kPut s.tmps o.dst v fun l => K ⟨l, os'⟩ h'
  | none =>
  match callSem P (execOp (lev s.tmps) o) with
  | some (f, args) => kL kV0 args.toList fun as' => callSpec A P E f as'.toArray s.objs h fun v os' h' => kPut s.tmps o.dst v fun l => K ⟨l, os'⟩ h'
  | none =>
    match asksSem o.op with
    | true => A.sem (execOp (lev s.tmps) o) h fun t h' => symSem A P E st t s.objs h' (opFinV s o.dst K)
    | false => symSem A P E st (execOp (lev s.tmps) o) s.objs h (opFinV s o.dst K)
/-- Of what floats, what may come now. -/
def nowF (F R : List Nat) : List Nat := lminus F (lminus F R)
theorem mem_now {F R : List Nat} {i : Nat} (h1 : i ∈ F) (h2 : i ∈ R) : i ∈ nowF F R := mem_minus.2 ⟨h1, fun hm => (mem_minus.1 hm).2 h2⟩
theorem now_mem {F R : List Nat} {i : Nat} (h : i ∈ nowF F R) : i ∈ F := (mem_minus.1 h).1
def regF (A : Asks) (P : Program) (E : List Ex) (st : List Nat) (F : List Nat) (opl : List Oper) (ops : Array Oper) : Nat → Array Bool → SS → Hint → KS → Prop
  | 0, listed, s, h, K => (match isNil (rdyL ops listed) with | true => K s h | false => False)
  | n + 1, listed, s, h, K => A.reg h
      (fun h' => match isNil (rdyL ops listed) with | true => K s h' | false => False)
      (fun i h' =>
        match lgo opl i with
        | none => False
        | some o =>
          match mem0 (rdyL ops listed) i with
          | false => False
          | true =>
            match mem0 F i with
            | true =>
              (match allOr F [] (rdyL ops (setAll (lminus (nowF F (rdyL ops listed)) [i]) listed)) with
              | false => False
              | true => floatsOK P opl (rdyL ops listed) s F ∧
                (match wantB opl o s with
                | some true => (match allocSem P (execOp (lev s.tmps) o) with
                  | some (c, e, k) => kL kV0 c.toList fun cl => ∀ b : Nat, (match valSem P (k b) with
                    | some v => kPut s.tmps o.dst v fun l => kApp s.objs ⟨b, cl, e, none⟩ fun os' => kLst listed i fun li => regF A P E st F opl ops n li ⟨l, os'⟩ h' K
                    | none => False)
                  | none => False)
                | some false => kPut s.tmps o.dst undef fun l => kLst listed i fun li => regF A P E st F opl ops n li ⟨l, s.objs⟩ h' K
                | none => False))
            | false =>
              (match Region.free .any ops listed i with
              | false => False
              | true => guardS A opl o s h' fun b s h2 =>
                match b with
                | true => symQ1 A P E st o s h2 fun v s h3 => kPut s.tmps o.dst v fun l => kLst listed i fun li => regF A P E st F opl ops n li ⟨l, s.objs⟩ h3 K
                | false => kPut s.tmps o.dst undef fun l => kLst listed i fun li => regF A P E st F opl ops n li ⟨l, s.objs⟩ h2 K))
      (fun h' => (match isNil (mains F (rdyL ops listed)) with | true => False | false => (match allOr F (rdyL ops listed) (rdyL ops (setAll (nowF F (rdyL ops listed)) listed)) with | true => floatsOK P opl (rdyL ops listed) s F | false => False)) ∧
        allS A (fun i h2 =>
          match lgo opl i with
          | none => False
          | some o => guardS A opl o s h2 fun b s h3 =>
            match b with
            | true => callM A P E st o s h3 fun s' h4 => kLst listed i fun li => regF A P E st F opl ops n li s' h4 K
            | false => kPut s.tmps o.dst undef fun l => kLst listed i fun li => regF A P E st F opl ops n li ⟨l, s.objs⟩ h3 K) (mains F (rdyL ops listed)) h')

def wpN (A : Asks) (P : Program) (E : List Ex) (rec : RecF) (st : List Nat) (c : Code) (s : SS) (h : Hint) (Q : Exit → SS → Hint → Prop) : Prop :=
  match c with
  | .skip => Q .normal s h
  | .label _ => Q .normal s h
  | .seq x y => rec st x s h fun e s' h' =>
    match e with
    | .normal => rec st y s' h' Q
    | e => Q e s' h'
  | .cond c x y =>
    match lev s.tmps c with
    | .bool b => A.bool h b fun b' h' => kLit s.tmps c b' fun l => (match b' with | true => rec st x ⟨l, s.objs⟩ h' Q | false => rec st y ⟨l, s.objs⟩ h' Q)
    | _ => False
  | .block id c => rec st c s h fun e s' h' =>
    match e with
    | .exit id' => (match Nat.beq id' id with | true => Q .normal s' h' | false => Q (.exit id') s' h')
    | e => Q e s' h'
  | .exit id => Q (.exit id) s h
  | .ret => Q .ret s h
  | .region _ ops false => opsS A P E st (callFull A P E rec st) ops.toList ops.toList s h fun s' h' => Q .normal s' h'
  | .region _ ops true =>
    A.draw h (fun st1 k0 st0 h' => (match P.follows .mixedOrders && allLt st1 s.objs.length && allMem st st0 && allMem st0 st1 with | true => regS A P E st1 k0 st0 (callFull A P E rec) ops.toList ops ops.size (Array.replicate ops.size false) s h' fun s' h2 => Q .normal s' h2 | false => False))
      (fun F st1 h' => (match P.follows .mixedOrders && allLt st1 s.objs.length && allMem st st1 && freeF ops ops.toList F with | true => regF A P E st1 F ops.toList ops ops.size (Array.replicate ops.size false) s h' fun s' h2 => Q .normal s' h2 | false => False))
  | .loop body =>
    A.loop h (fun k h' => roundS (rec st body) Q k s h') (fun l he hb => loopI A rec st body s Q l he hb)
  | _ => False
def wpC (A : Asks) (P : Program) (E : List Ex) : Nat → RecF
  | 0, _, _, _, _, _ => False
  | n + 1, st, c, s, h, Q =>
    A.cut (cutable c) h c s (fun h => wpN A P E (wpC A P E n) st c s h Q) (fun ps h1 h2 =>
      wpC A P E n (rng s.objs.length) c s h1 (fun e s' _ => match e with | .normal => agreeS ps s'.tmps True | _ => False) ∧
      ∀ junk : Nat → Value, kJset junk (wrs c) s.tmps fun l => kPset ps l fun l' => Q .normal ⟨l', s.objs⟩ h2)

structure Rep (w0 : Bs) (E : List Ex) (s : SS) (a : Act) (w : World) : Prop where
  tmps : a.tmps = s.tmps.toArray
  defers : a.defers = []
  mem : MRep w0 E s.objs w

def Sat (w0 : Bs) (E : List Ex) (Q : Exit → SS → Hint → Prop) : Exit → Act → World → Prop
  | .panic _, _, _ => False
  | .outgrown, _, _ => False
  | e, a, w => ∃ s h, Rep w0 E s a w ∧ Q e s h

theorem Rep.eval {w0 : Bs} {E : List Ex} {s : SS} {a : Act} {w : World} (h : Rep w0 E s a w) : a.eval = lev s.tmps := by
  funext x
  cases x <;> simp [Act.eval, lev, lget_eq, h.tmps]
theorem Rep.put {w0 : Bs} {E : List Ex} {s : SS} {a : Act} {w w' : World} (h : Rep w0 E s a w) {os : List Ob} (hm : MRep w0 E os w') (d : Option Tmp) (v : Value) : Rep w0 E ⟨lput s.tmps d v, os⟩ (a.put d v) w' := by
  cases d with
  | none => exact ⟨h.tmps, h.defers, hm⟩
  | some t => exact ⟨by simp [Act.put, lput, lset_eq, h.tmps], h.defers, hm⟩

def Stay (st : List Nat) (os os' : List Ob) : Prop := (∀ i ∈ st, i < os.length → os'[i]? = os[i]?) ∧ os.length ≤ os'.length
theorem Stay.refl (st : List Nat) (os : List Ob) : Stay st os os := ⟨fun _ _ _ => rfl, Nat.le_refl _⟩
theorem Stay.trans {st : List Nat} {a b c : List Ob} (h : Stay st a b) (k : Stay st b c) : Stay st a c :=
  ⟨fun i hi hl => by rw [k.1 i hi (Nat.lt_of_lt_of_le hl h.2), h.1 i hi hl], Nat.le_trans h.2 k.2⟩
theorem Stay.sub {st st' : List Nat} {a b : List Ob} (h : Stay st a b) (hs : ∀ i ∈ st', i ∈ st) : Stay st' a b := ⟨fun i hi hl => h.1 i (hs i hi) hl, h.2⟩

def CallOK (P : Program) (w0 : Bs) (E : List Ex) (st : List Nat) (call : CallF) : Prop :=
  ∀ f args os h K w, call f args os h K → MRep w0 E os w →
    Calls P f args w fun e w' => ∃ v os' h', e = .returned v ∧ MRep w0 E os' w' ∧ Stay st os os' ∧ K v os' h'

theorem MRep.below_of {w0 : Bs} {E : List Ex} {os : List Ob} {w w' : World} (h : MRep w0 E os w) (hb : Below w.heap.size w w') : MRep w0 E os w' :=
  ⟨h.below.trans (hb.mono h.below.size), fun i o ho => (h.row i o ho).same fun k hk => hb.block k ((h.row i o ho).dlt hk), h.apart, h.ext, h.chg.step hb.size fun k hl _ => hb.block k (Nat.lt_of_lt_of_le hl h.chg.1), h.kf⟩
theorem kRds_ok {w0 : Bs} {E : List Ex} {os : List Ob} {w : World} (hm : MRep w0 E os w) : ∀ {is : List Nat} {xss : List (List Value)} {K : List (Option Addr × List Value) → List (Option Addr × Nat) → Prop}, kRds os is xss K → ∃ rds ads, K rds ads ∧ ∀ a xs, (a, xs) ∈ rds → Rd w a xs := by
  intro is
  induction is with
  | nil => intro xss K h; cases xss with
    | nil => exact ⟨[], [], h, fun a xs hm => by cases hm⟩
    | cons x l => exact h.elim
  | cons i is ih =>
    intro xss K h
    cases xss with
    | nil => exact h.elim
    | cons xs xss =>
      simp only [kRds] at h
      split at h
      · rename_i o ho
        rw [lgo_eq] at ho
        split at h
        · rename_i g hg
          split at h
          · obtain ⟨he, h⟩ := h
            obtain ⟨rds, ads, hk, hr⟩ := ih h
            refine ⟨_, _, hk, fun a ys hm' => ?_⟩
            cases hm' with
            | head => exact he _ ((hm.row _ o ho).gh hg)
            | tail _ h => exact hr a ys h
          · exact h.elim
        · split at h
          · rename_i u hu
            obtain ⟨he, h⟩ := h
            obtain ⟨rds, ads, hk, hr⟩ := ih h
            refine ⟨_, _, hk, fun a ys hm' => ?_⟩
            cases hm' with
            | head => rw [← he]; exact (hm.row _ o ho).rd hu
            | tail _ h => exact hr a ys h
          · rename_i hu
            obtain ⟨he, h⟩ := h
            obtain ⟨rds, ads, hk, hr⟩ := ih h
            refine ⟨_, _, hk, fun a ys hm' => ?_⟩
            cases hm' with
            | head => rw [← he]; exact (hm.row _ o ho).rd0 hu
            | tail _ h => exact hr a ys h
      · obtain ⟨he, h⟩ := h
        obtain ⟨rds, ads, hk, hr⟩ := ih h
        refine ⟨_, _, hk, fun a ys hm' => ?_⟩
        cases hm' with
        | head => rw [he]; intro k v hv; simp at hv
        | tail _ h => exact hr a ys h
theorem kNew_ok : ∀ {rows : List RowT} {K : List (Option Addr × Nat) → List Ob → Prop} {ads : List (Option Addr × Nat)}, kNew rows K → ads.length = rows.length → (∀ (i : Nat) (o : Ob), (obsOf rows ads)[i]? = some o → ∀ u, o.ow = some u → AOK u.a u.n ∧ u.n ≤ u.cap) → K ads (obsOf rows ads) := by
  intro rows
  induction rows with
  | nil => intro K ads h hl _; cases ads with
    | nil => exact h
    | cons x l => simp at hl
  | cons r rs ih =>
    intro K ads h hl ha
    cases ads with
    | nil => simp at hl
    | cons p ads =>
      simp only [kNew] at h
      have h0 := ha 0 _ rfl _ rfl
      exact ih (h p.1 p.2 h0.1 h0.2) (by simpa using hl) fun i o ho => ha (i + 1) o (by simpa [obsOf] using ho)
theorem kAppL_eq {α : Type} (r l : List α) (K : List α → Prop) : kAppL r l K = K (r ++ l) := by
  induction r generalizing K with
  | nil => rfl
  | cons x r ih => simp [kAppL, ih]

theorem MRep.extOK {w0 : Bs} {E : List Ex} {os : List Ob} {w : World} (h : MRep w0 E os w) : ExtOK E w := by
  intro e he
  refine ⟨fun off v hv => ?_, e.hP _ _ (h.ext e he).2 h.below⟩
  have h1 := (h.ext e he).1 off v hv
  rw [h.below.cell (p := ⟨e.blk, off, none⟩) (cell_lt h1)]
  exact h1
theorem MRep.spec_list {w0 : Bs} {E : List Ex} {os : List Ob} {w w' : World} (hm : MRep w0 E os w) {el : TypeId} {size n : Nat} {xs : List Value} {a : Option Addr} {cap : Nat} (ho : w'.ownsRow w.heap.size el size (.slice a n cap) n xs) (hb : Below w.heap.size w w') : MRep w0 E (app1 os ⟨0, xs, el, some ⟨a, n, cap, size⟩⟩) w' := by
  have hrd : Rd w' a xs := own_rd ho
  have hlt : ∀ k, a.map (·.block) = some k → w.heap.size ≤ k := fun k hk => (World.ownsRow.lt ho k (by rw [ownBlock_slice]; exact hk)).1
  refine hm.add ⟨0, xs, el, some ⟨a, n, cap, size⟩⟩ hb ?_ ?_
  · intro k hk
    have hk := Ob.dep_lit.1 hk
    unfold Ob.dep0 at hk
    simp only at hk
    split at hk
    · obtain ⟨hne, rfl⟩ := hk
      cases a with
      | none =>
        exfalso
        rcases ho.2 with ⟨_, hn⟩ | ⟨g, cap', cur, he, _⟩
        · exact hne (List.eq_nil_of_length_eq_zero (by have h0 := ho.1; rw [hn] at h0; simpa using h0))
        · injection he with h1 _ _
          cases h1
      | some q => exact hlt q.block rfl
    · exact hlt k hk
  · refine Ob.ok_lit ?_
    unfold Ob.ok0
    simp only
    split
    · exact hrd
    · exact ownsRow_base ho hm.below.size
theorem Stay.app1 (st : List Nat) (os : List Ob) (o : Ob) : Stay st os (app1 os o) := ⟨fun i _ hl => by rw [app1_eq, List.getElem?_append_left hl], by rw [app1_eq]; simp⟩
theorem gone_length (os : List Ob) (js : List Nat) : (gone os js).length = os.length := by
  induction js generalizing os with
  | nil => rfl
  | cons j js ih => simp [gone, ih, obset_eq]
theorem gone_off {js : List Nat} {i : Nat} (h : i ∉ js) : ∀ {os : List Ob}, (gone os js)[i]? = os[i]? := by
  induction js with
  | nil => intro os; rfl
  | cons j js ih =>
    intro os
    simp only [List.mem_cons, not_or] at h
    simp only [gone]
    rw [ih h.2, obset_eq, List.getElem?_set, if_neg (fun e => h.1 e.symm)]
theorem gone_cases {os : List Ob} {js : List Nat} {i : Nat} {o : Ob} (h : (gone os js)[i]? = some o) : (i ∉ js ∧ os[i]? = some o) ∨ ∃ p, o = nilOb p := by
  induction js generalizing os with
  | nil => exact Or.inl ⟨by simp, h⟩
  | cons j js ih =>
    simp only [gone] at h
    rcases ih h with ⟨h1, h2⟩ | h1
    · rw [obset_eq, List.getElem?_set] at h2
      split at h2
      · split at h2
        · simp at h2; obtain ⟨p, hp⟩ := goneOb_nil os j; exact Or.inr ⟨p, by rw [← h2, hp]⟩
        · cases h2
      · rename_i e
        exact Or.inl ⟨by simp only [List.mem_cons, not_or]; exact ⟨fun e' => e e'.symm, h1⟩, h2⟩
    · exact Or.inr h1
theorem nilOb_ok (p : TypeId × Nat) (base : Nat) (w : World) : (nilOb p).ok base w := by
  refine ⟨?_, True.intro⟩
  unfold Ob.ok0 nilOb
  simp only
  split
  · intro k v hv; simp at hv
  · exact World.ownsRow_nil w _ _ _
theorem nilOb_dep {p : TypeId × Nat} {k : Nat} (h : (nilOb p).dep k) : False := by
  rcases h with h | h
  · unfold Ob.dep0 nilOb at h
    simp only at h
    split at h
    · exact absurd rfl h.1
    · cases h
  · exact h
theorem obsAt_spec {os : List Ob} : ∀ {is : List Nat} {ps : List Ob}, obsAt os is = some ps → ∀ (m : Nat) (o : Ob), ps[m]? = some o ↔ ∃ i, is[m]? = some i ∧ os[i]? = some o ∧ m < is.length := by
  intro is
  induction is with
  | nil => intro ps h; simp [obsAt] at h; subst h; intro m o; simp
  | cons i is ih =>
    intro ps h
    simp only [obsAt] at h
    split at h
    · rename_i o ho
      rw [lgo_eq] at ho
      split at h
      · rename_i l hl
        simp only [Option.some.injEq] at h
        subst h
        intro m p
        cases m with
        | zero =>
          simp only [List.getElem?_cons_zero, Option.some.injEq]
          constructor
          · rintro rfl; exact ⟨i, rfl, ho, by simp⟩
          · rintro ⟨j, rfl, h2, _⟩; rw [ho] at h2; exact Option.some.inj h2
        | succ m =>
          simp only [List.getElem?_cons_succ]
          rw [ih hl m p]
          constructor
          · rintro ⟨j, h1, h2, h3⟩; exact ⟨j, h1, h2, by simpa using h3⟩
          · rintro ⟨j, h1, h2, h3⟩; exact ⟨j, h1, h2, by simpa using h3⟩
      · cases h
    · cases h
theorem MRep.absorb {w0 : Bs} {E : List Ex} {os : List Ob} {w : World} (h : MRep w0 E os w) {is : List Nat} (hnd : is.Nodup) {ps : List Ob} (hps : obsAt os is = some ps) {q : Ob} (hq : AbsP ps q) : MRep w0 E (gone os is ++ [q]) w := by
  have hsp := obsAt_spec hps
  have hmem : ∀ o, o ∈ ps → ∃ (i m : Nat), is[m]? = some i ∧ ps[m]? = some o ∧ os[i]? = some o := by
    intro o ho
    obtain ⟨m, hm⟩ := List.mem_iff_getElem?.1 ho
    obtain ⟨i, h1, h2, _⟩ := (hsp m o).1 hm
    exact ⟨i, m, h1, hm, h2⟩
  obtain ⟨q1, q2, q3⟩ := hq w0.heap.size w (fun o ho => by obtain ⟨i, m, _, _, h3⟩ := hmem o ho; exact h.row i o h3) (fun i j o p k hi hj hk hd => by
    obtain ⟨i', h1, h2, h3⟩ := (hsp i o).1 hi
    obtain ⟨j', h4, h5, _⟩ := (hsp j p).1 hj
    have e := h.apart i' j' o p k h2 h5 hk hd
    subst e
    exact (List.getElem?_inj h3 hnd).1 (by rw [h1, h4]))
  have hl := gone_length os is
  have cs : ∀ {i : Nat} {o : Ob}, (gone os is ++ [q])[i]? = some o → (i < os.length ∧ i ∉ is ∧ os[i]? = some o) ∨ (∃ p, o = nilOb p) ∨ (i = os.length ∧ o = q) := by
    intro i o ho
    rw [List.getElem?_append] at ho
    split at ho
    · rename_i hi
      rcases gone_cases ho with ⟨h1, h2⟩ | h1
      · exact Or.inl ⟨by omega, h1, h2⟩
      · exact Or.inr (Or.inl h1)
    · rename_i hi
      cases e : i - (gone os is).length with
      | zero => rw [e] at ho; simp at ho; exact Or.inr (Or.inr ⟨by omega, ho.symm⟩)
      | succ n => rw [e] at ho; simp at ho
  refine ⟨h.below, fun i o ho => ?_, fun i j o p k hi hj hk hd => ?_, h.ext, h.chg, fun i o k ho hk => ?_⟩
  · rcases cs ho with ⟨_, _, h1⟩ | ⟨p, rfl⟩ | ⟨_, rfl⟩
    · exact h.row i o h1
    · exact nilOb_ok _ _ _
    · exact q1
  · rcases cs hi with ⟨a1, a2, a3⟩ | ⟨p0, rfl⟩ | ⟨a1, rfl⟩
    · rcases cs hj with ⟨b1, b2, b3⟩ | ⟨p0, rfl⟩ | ⟨b1, rfl⟩
      · exact h.apart i j o p k a3 b3 hk hd
      · exact (nilOb_dep hd).elim
      · obtain ⟨o', ho', hd'⟩ := q2 k hd
        obtain ⟨i', m, h1, _, h3⟩ := hmem o' ho'
        have e := h.apart i i' o o' k a3 h3 hk hd'
        subst e
        exact absurd (List.mem_of_getElem? h1) a2
    · exact (nilOb_dep (Ob.kp_dep hk)).elim
    · rcases cs hj with ⟨b1, b2, b3⟩ | ⟨p0, rfl⟩ | ⟨b1, rfl⟩
      · obtain ⟨o', ho', hk'⟩ := q3 k hk
        obtain ⟨i', m, h1, _, h3⟩ := hmem o' ho'
        have e := h.apart i' j o' p k h3 b3 hk' hd
        subst e
        exact absurd (List.mem_of_getElem? h1) b2
      · exact (nilOb_dep hd).elim
      · omega
  · rcases cs ho with ⟨_, _, h1⟩ | ⟨p, rfl⟩ | ⟨_, rfl⟩
    · exact h.kf i o k h1 hk
    · exact (nilOb_dep (Ob.kp_dep hk)).elim
    · obtain ⟨o', ho', hk'⟩ := q3 k hk
      obtain ⟨i', m, _, _, h3⟩ := hmem o' ho'
      exact h.kf i' o' k h3 hk'
theorem noneIn_ok {l m : List Nat} (h : noneIn l m = true) : ∀ i, i ∈ l → i ∉ m := by
  induction l with
  | nil => intro i hi; cases hi
  | cons x l ih =>
    simp only [noneIn, Bool.and_eq_true, Bool.not_eq_true'] at h
    intro i hi
    cases hi with
    | head => exact fun hm => by rw [mem0_iff.2 hm] at h; exact absurd h.1 (by simp)
    | tail _ hi => exact ih h.2 i hi
theorem rdsAre_at {os : List Ob} : ∀ {is : List Nat} {l : List (Option Addr × List Value)}, rdsAre os is l → ∀ a xs, (a, xs) ∈ l → (∃ i o, i ∈ is ∧ os[i]? = some o ∧ rdP o a xs) ∨ xs = [] := by
  intro is
  induction is with
  | nil => intro l h; cases l with
    | nil => intro a xs hm; cases hm
    | cons x l => exact h.elim
  | cons i is ih =>
    intro l h
    cases l with
    | nil => exact h.elim
    | cons r l =>
      obtain ⟨h1, h2⟩ := h
      intro a xs hm
      cases hm with
      | head =>
        split at h1
        · rename_i o ho
          rw [lgo_eq] at ho
          exact Or.inl ⟨i, o, List.mem_cons_self .., ho, h1⟩
        · exact Or.inr h1
      | tail _ hm =>
        rcases ih h2 a xs hm with ⟨j, o, hj, ho, hr⟩ | h3
        · exact Or.inl ⟨j, o, List.mem_cons_of_mem _ hj, ho, hr⟩
        · exact Or.inr h3
theorem Gh.ro_eq {g g' : Gh} (h : g'.ro = g.ro) : g'.ok = g.ok ∧ g'.dep = g.dep := by
  unfold Gh.ro at h
  injection h with _ h1 h2
  exact ⟨h2, h1⟩
theorem ghsAre_at {os : List Ob} : ∀ {is : List Nat} {l : List Gh}, ghsAre os is l → ∀ g, g ∈ l → ∃ i o g', i ∈ is ∧ os[i]? = some o ∧ o.gh.g = some g' ∧ g'.ok = g.ok ∧ g'.dep = g.dep := by
  intro is
  induction is with
  | nil => intro l h; cases l with
    | nil => intro g hm; cases hm
    | cons x l => exact h.elim
  | cons i is ih =>
    intro l h
    cases l with
    | nil => exact h.elim
    | cons r l =>
      obtain ⟨h1, h2⟩ := h
      intro g hm
      cases hm with
      | head =>
        split at h1
        · rename_i o ho
          rw [lgo_eq] at ho
          split at h1
          · rename_i g' hg
            exact ⟨i, o, g', List.mem_cons_self .., ho, hg, Gh.ro_eq h1⟩
          · exact h1.elim
        · exact h1.elim
      | tail _ hm =>
        obtain ⟨j, o, g', hj, ho, hr⟩ := ih h2 g hm
        exact ⟨j, o, g', List.mem_cons_of_mem _ hj, ho, hr⟩
theorem rdP_ok {o : Ob} {a : Option Addr} {xs : List Value} (h : rdP o a xs) {base : Nat} {w : World} (hok : o.ok base w) : Rd w a xs ∧ (xs ≠ [] → o.dep (bk a)) := by
  unfold rdP at h
  split at h
  · rename_i g hg
    exact ⟨h.1 w (hok.gh hg), fun hne => Or.inr (by unfold GhB.dep; rw [hg]; exact h.2 hne)⟩
  · split at h
    · rename_i u hu
      obtain ⟨rfl, rfl⟩ := h
      refine ⟨hok.rd hu, fun hne => Or.inl ?_⟩
      unfold Ob.dep0
      rw [hu]
      simp only
      split
      · exact ⟨hne, trivial⟩
      · rename_i s hs
        have := hok.1
        unfold Ob.ok0 at this
        rw [hu] at this
        simp only [hs] at this
        rcases this.2 with ⟨_, hn⟩ | ⟨g, cap, cur, he, _⟩
        · exact absurd (List.eq_nil_of_length_eq_zero (by rw [this.1, hn]; simp)) hne
        · injection he with h1 _ _
          rw [h1]
          rfl
    · rename_i hu
      obtain ⟨rfl, rfl⟩ := h
      refine ⟨hok.rd0 hu, fun _ => Or.inl ?_⟩
      unfold Ob.dep0
      rw [hu]
      rfl
/-- Rows are given to a callee, which gives others in their place. -/
theorem MRep.swapped {w0 : Bs} {E : List Ex} {os : List Ob} {w w' : World} (h : MRep w0 E os w) {js : List Nat} {ins outs : List Ob} (hr : ∀ o, o ∈ ins → ∃ j p, j ∈ js ∧ os[j]? = some p ∧ Weak p o) (hb : Below w0.heap.size w0 w') (hc : Chg (fun k => ∃ o, o ∈ ins ∧ o.kp k) w w')
    (ho : ∀ o, o ∈ outs → o.ok w0.heap.size w' ∧ (∀ k, o.dep k → (∃ p, p ∈ ins ∧ p.kp k) ∨ w.heap.size ≤ k)) (ha : ∀ (i j : Nat) (o p : Ob) (k : Nat), outs[i]? = some o → outs[j]? = some p → o.kp k → p.dep k → i = j) : MRep w0 E (gone os js ++ outs) w' := by
  have hl := gone_length os js
  have key : ∀ k, (∃ o, o ∈ ins ∧ o.kp k) → ∃ j p, j ∈ js ∧ os[j]? = some p ∧ p.kp k := by
    rintro k ⟨o, hm, hk⟩
    obtain ⟨j, p, h1, h2, h3⟩ := hr o hm
    exact ⟨j, p, h1, h2, h3.2 k hk⟩
  have cs : ∀ {i : Nat} {o : Ob}, (gone os js ++ outs)[i]? = some o → (i < os.length ∧ i ∉ js ∧ os[i]? = some o) ∨ (∃ p, o = nilOb p) ∨ (os.length ≤ i ∧ outs[i - os.length]? = some o) := by
    intro i o ho
    rw [List.getElem?_append] at ho
    split at ho
    · rename_i hi
      rcases gone_cases ho with ⟨h1, h2⟩ | h1
      · exact Or.inl ⟨by omega, h1, h2⟩
      · exact Or.inr (Or.inl h1)
    · rename_i hi
      rw [hl] at ho hi
      exact Or.inr (Or.inr ⟨by omega, ho⟩)
  refine ⟨hb, fun i o hi => ?_, fun i j o p k hi hj hk hd => ?_, h.ext, h.chg.step hc.1 fun k hl hx => hc.2 k (Nat.lt_of_lt_of_le hl h.chg.1) fun hk => ?_, fun i o k hi hk => ?_⟩
  · rcases cs hi with ⟨a1, a2, a3⟩ | ⟨p0, rfl⟩ | ⟨_, a3⟩
    · refine (h.row i o a3).same fun k hd => hc.2 k ((h.row i o a3).dlt hd) fun hk => ?_
      obtain ⟨j, p, h1, h2, h3⟩ := key k hk
      have e := h.apart j i p o k h2 a3 h3 hd
      subst e
      exact a2 h1
    · exact nilOb_ok _ _ _
    · exact (ho o (List.mem_of_getElem? a3)).1
  · rcases cs hi with ⟨a1, a2, a3⟩ | ⟨p0, rfl⟩ | ⟨a1, a3⟩
    · rcases cs hj with ⟨b1, b2, b3⟩ | ⟨p0, rfl⟩ | ⟨b1, b3⟩
      · exact h.apart i j o p k a3 b3 hk hd
      · exact (nilOb_dep hd).elim
      · rcases (ho p (List.mem_of_getElem? b3)).2 k hd with h1 | h1
        · obtain ⟨j', p', h1, h2, h3⟩ := key k h1
          have e := h.apart j' i p' o k h2 a3 h3 (Ob.kp_dep hk)
          subst e
          exact absurd h1 a2
        · have := ((h.row i o a3).klt hk).2
          omega
    · exact (nilOb_dep (Ob.kp_dep hk)).elim
    · rcases cs hj with ⟨b1, b2, b3⟩ | ⟨p0, rfl⟩ | ⟨b1, b3⟩
      · rcases (ho o (List.mem_of_getElem? a3)).2 k (Ob.kp_dep hk) with h1 | h1
        · obtain ⟨j', p', h1, h2, h3⟩ := key k h1
          have e := h.apart j' j p' p k h2 b3 h3 hd
          subst e
          exact absurd h1 b2
        · have := (h.row j p b3).dlt hd
          omega
      · exact (nilOb_dep hd).elim
      · have := ha _ _ o p k a3 b3 hk hd
        omega
  · obtain ⟨j, p, _, h2, h3⟩ := key k hk
    rcases h.kf j p k h2 h3 with h4 | h4
    · exact hx h4
    · omega
  · rcases cs hi with ⟨a1, a2, a3⟩ | ⟨p0, rfl⟩ | ⟨a1, a3⟩
    · exact h.kf i o k a3 hk
    · exact (nilOb_dep (Ob.kp_dep hk)).elim
    · rcases (ho o (List.mem_of_getElem? a3)).2 k (Ob.kp_dep hk) with h1 | h1
      · obtain ⟨j, p, _, h2, h3⟩ := key k h1
        exact h.kf j p k h2 h3
      · exact Or.inr (Nat.le_trans h.chg.1 h1)
theorem specC_run {P : Program} {w0 : Bs} {E E0 : List Ex} {os : List Ob} {w : World} (hm : MRep w0 E os w) {f : FuncId} {args : Array Value} {rds : List (Option Addr × List Value)} {ghs : List Gh} {ins : List Ob} {α : Type} {inv : α → Prop} {outs : α → List Ob} {v : α → Value} {srcs gsrc js : List Nat}
    (hs : SpecC P E0 rds ghs ins f args α inv outs v) (he : ∀ e ∈ E0, e ∈ E) (hr : rowsAre os js ins) (hrd : rdsAre os srcs rds) (hg : ghsAre os gsrc ghs) (hnd : js.Nodup) (h1 : ∀ i, i ∈ js → i ∉ srcs) (h2 : ∀ i, i ∈ js → i ∉ gsrc) :
    Calls P f args w fun e w' => ∃ x, inv x ∧ e = .returned (v x) ∧ MRep w0 E (gone os js ++ outs x) w' := by
  obtain ⟨hl, hat⟩ := rowsAre_at hr
  have hins : ∀ (m : Nat) (o : Ob), ins[m]? = some o → ∃ j p, js[m]? = some j ∧ os[j]? = some p ∧ Weak p o := by
    intro m o ho
    have hlt := (List.getElem?_eq_some_iff.1 ho).1
    have hj : js[m]? = some js[m] := by simp
    obtain ⟨p, hp, hw⟩ := hat m js[m] o hj ho
    exact ⟨_, p, hj, hp, hw⟩
  have hin2 : ∀ o, o ∈ ins → ∃ j p, j ∈ js ∧ os[j]? = some p ∧ Weak p o := by
    intro o ho
    obtain ⟨m, hm'⟩ := List.mem_iff_getElem?.1 ho
    obtain ⟨j, p, a1, a2, a3⟩ := hins m o hm'
    exact ⟨j, p, List.mem_of_getElem? a1, a2, a3⟩
  refine (hs w0 w hm.below (fun e h => hm.ext e (he e h)) (fun a xs hx => ?_) (fun g hx => ?_) (fun o ho => ?_) (fun i j o p k hi hj hk hd => ?_) (fun o ho k hk => ⟨fun a xs hx hne hka => ?_, fun g hx hd => ?_⟩)).mono ?_
  · rcases rdsAre_at hrd a xs hx with ⟨i, o, _, ho, hp⟩ | rfl
    · exact (rdP_ok hp (hm.row i o ho)).1
    · intro k v hv; simp at hv
  · obtain ⟨i, o, g', _, ho, hp, e, _⟩ := ghsAre_at hg g hx
    rw [← e]
    exact (hm.row i o ho).gh hp
  · obtain ⟨j, p, _, a2, a3⟩ := hin2 o ho
    exact (a3.1 _ _ (hm.row j p a2)).1
  · obtain ⟨i', o', a1, a2, a3⟩ := hins i o hi
    obtain ⟨j', p', b1, b2, b3⟩ := hins j p hj
    have e := hm.apart i' j' o' p' k a2 b2 (a3.2 k hk) ((b3.1 _ _ (hm.row j' p' b2)).2 k hd)
    subst e
    exact (List.getElem?_inj (List.getElem?_eq_some_iff.1 a1).1 hnd).1 (by rw [a1, b1])
  · obtain ⟨j, p, a1, a2, a3⟩ := hin2 o ho
    rcases rdsAre_at hrd a xs hx with ⟨i, o', b1, b2, b3⟩ | rfl
    · have hd := (rdP_ok b3 (hm.row i o' b2)).2 hne
      rw [← hka] at hd
      have e := hm.apart j i p o' k a2 b2 (a3.2 k hk) hd
      subst e
      exact h1 _ a1 b1
    · exact hne rfl
  · obtain ⟨j, p, a1, a2, a3⟩ := hin2 o ho
    obtain ⟨i, o', g', b1, b2, b3, _, b4⟩ := ghsAre_at hg g hx
    have e := hm.apart j i p o' k a2 b2 (a3.2 k hk) (Or.inr (by unfold GhB.dep; rw [b3]; show g'.dep k; rw [b4]; exact hd))
    subst e
    exact h2 _ a1 b1
  · rintro e w' ⟨x, hx, hv, hb, hc, ho, ha⟩
    exact ⟨x, hx, hv, hm.swapped hin2 hb hc ho ha⟩
theorem askSpec_ok {P : Program} {w0 : Bs} {E : List Ex} {st : List Nat} {f : FuncId} {args : Array Value} {os : List Ob} {h : Hint} {K : Value → List Ob → Hint → Prop} {I : Hint → Prop} {C : Value → Hint → Prop} {w : World} (hc : asksReal.call P st E h f args os K I C) (hm : MRep w0 E os w)
    (hI : ∀ h', I h' → Calls P f args w fun e w' => ∃ v os' h', e = .returned v ∧ MRep w0 E os' w' ∧ Stay st os os' ∧ K v os' h')
    (hC : ∀ v h', C v h' → Calls P f args w fun e w' => e = .returned v ∧ MRep w0 E os w') :
    Calls P f args w fun e w' => ∃ v os' h', e = .returned v ∧ MRep w0 E os' w' ∧ Stay st os os' ∧ K v os' h' := by
  simp only [ar_call] at hc
  generalize hO h os = h at hc
  simp only [askSpec] at hc
  split at hc
  · rename_i v h'
    exact (hc.1 w).mono fun e w' ⟨he, hb⟩ => ⟨v, os, h', he, hm.below_of hb, Stay.refl _ _, hc.2⟩
  · rename_i v h'
    exact (hc.1 w hm.extOK).mono fun e w' ⟨he, hb⟩ => ⟨v, os, h', he, hm.below_of hb, Stay.refl _ _, hc.2⟩
  · rename_i el size n xs h'
    refine (hc.1 w).mono fun e w' ⟨a, cap, he, ho, hb⟩ => ?_
    have hk := hc.2 a cap
    rw [kApp_eq] at hk
    exact ⟨_, _, h', he, hm.spec_list ho hb, Stay.app1 _ _ _, hk⟩
  · rename_i el size n xs h'
    refine (hc.1 w hm.extOK).mono fun e w' ⟨a, cap, he, ho, hb⟩ => ?_
    have hk := hc.2 a cap
    rw [kApp_eq] at hk
    exact ⟨_, _, h', he, hm.spec_list ho hb, Stay.app1 _ _ _, hk⟩
  · rename_i el size n xs h'
    obtain ⟨hs, hk⟩ := hc
    cases n with
    | zero => exact hk.elim
    | succ k =>
      refine (hs w hm.extOK).mono fun e w' ⟨a, cap, he, ho, hb⟩ => ?_
      rcases ho.2 with ⟨_, e2⟩ | ⟨g, cap', cur, e1, e2, _⟩
      · omega
      · injection e1 with e3 e4 e5
        subst e3
        have hk := hk g cap
        rw [kApp_eq] at hk
        exact ⟨_, _, h', he, hm.spec_list ho hb, Stay.app1 _ _ _, hk⟩
  · rename_i el size n xs h1 h2
    obtain ⟨hs, hk1, hk2⟩ := hc
    refine (hs w).mono fun e w' ⟨a, cap, he, ho, hb⟩ => ?_
    rcases ho.2 with ⟨e1, e2⟩ | ⟨g, cap', cur, e1, e2⟩
    · injection e1 with e3 e4 e5
      subst e3 e4 e5
      have hx : xs = [] := List.eq_nil_of_length_eq_zero (by have := ho.1; simpa using this)
      subst hx
      have hk := hk1 rfl
      rw [kApp_eq] at hk
      exact ⟨_, _, h1, he, hm.spec_list ho hb, Stay.app1 _ _ _, hk⟩
    · injection e1 with e3 e4 e5
      subst e3
      have hk := hk2 g cap
      rw [kApp_eq] at hk
      exact ⟨_, _, h2, he, hm.spec_list ho hb, Stay.app1 _ _ _, hk⟩
  · rename_i E0 srcs xss rows v h'
    obtain ⟨rds, ads0, ⟨hs, he, hk⟩, hrd⟩ := kRds_ok hm hc
    refine (hs w (fun e h => hm.extOK e (he e h)) hrd).mono fun e w' ⟨ads, hv, ho, hb⟩ => ?_
    have hk := kNew_ok hk ho.len fun i o hi u hu => (ho.ok i o hi).2.2 u hu
    rw [kAppL_eq] at hk
    refine ⟨_, _, h', hv, hm.addL _ hb (fun i o hi => ⟨(ho.ok i o hi).1.base hm.below.size, (ho.ok i o hi).2.1⟩) ho.apart, ⟨fun i _ hl => by rw [List.getElem?_append_left hl], by simp⟩, hk⟩
  · rename_i E0 srcs xss ns rows v h'
    obtain ⟨rds, ads0, ⟨hs, he, hk⟩, hrd⟩ := kRds_ok hm hc
    refine (hs w (fun e h => hm.extOK e (he e h)) hrd).mono fun e w' ⟨ads, hv, hl0, ha, ho, hb⟩ => ?_
    have hk := kAds_ok hk hl0 ha
    rw [kObs_eq, kAppL_eq] at hk
    refine ⟨_, _, h', hv, hm.addL _ hb (fun i o hi => ⟨(ho.ok i o hi).1.base hm.below.size, (ho.ok i o hi).2.1⟩) ho.apart, ⟨fun i _ hl => by rw [List.getElem?_append_left hl], by simp⟩, hk⟩
  · rename_i E0 rds ghs ins α inv outs v srcs gsrc js hb
    obtain ⟨hs, he, hr, hrd, hg, hc⟩ := hc
    split at hc
    · rename_i hb2
      simp only [Bool.and_eq_true] at hb2
      obtain ⟨⟨⟨c1, c2⟩, c3⟩, c4⟩ := hb2
      refine (specC_run hm hs he hr hrd hg (nodupB_ok c1) (noneIn_ok c3) (noneIn_ok c4)).mono ?_
      rintro e w' ⟨x, hx, rfl, hm'⟩
      have hk := hc x hx
      rw [kGone_eq, kAppL_eq] at hk
      refine ⟨_, _, _, rfl, hm', ⟨fun i hi hl => ?_, by simp [gone_length]⟩, hk⟩
      rw [List.getElem?_append_left (by rw [gone_length]; exact hl), gone_off fun hj => noneIn_ok c2 i hj hi]
    · exact hc.elim
  · rename_i v h1 h2
    exact (hC v h1 hc.1).mono fun e w' ⟨he, hm'⟩ => ⟨v, os, h2, he, hm', Stay.refl _ _, hc.2⟩
  · exact hI _ hc
  · exact hc.elim
theorem callSpec_ok (P : Program) (w0 : Bs) (E : List Ex) (st : List Nat) : CallOK P w0 E st (callSpec asksReal P E) :=
  fun f args os h K w hc hm => (askSpec_ok (st := rng os.length) hc hm (fun _ h => h.elim) (fun _ _ h => h.elim)).mono fun _ _ ⟨v, os', h', e, hm', hst, hk⟩ => ⟨v, os', h', e, hm', ⟨fun i _ hl => hst.1 i (rng_iff.2 hl) hl, hst.2⟩, hk⟩

def OpOK (w0 : Bs) (E : List Ex) (st : List Nat) (s : SS) (d : Option Tmp) (K : KS) (a' : Act) (w' : World) : Prop :=
  ∃ s' h', Rep w0 E s' a' w' ∧ Stay st s.objs s'.objs ∧ (∃ v, s'.tmps = lput s.tmps d v) ∧ K s' h'

theorem symSem_op {P : Program} {w0 : Bs} {E : List Ex} {st : List Nat} {call : CallF} (hok : CallOK P w0 E st call) {o : Oper} {s : SS} {h : Hint} {K : KS} {a : Act} {w : World} {Q : Exit → Act → World → Prop} {t : Sem Next}
    (ht : execOp (lev s.tmps) o = t) (hs : symSem asksReal P E st t s.objs h (opFin call s o.dst K)) (hr : Rep w0 E s a w) :
    o.wp P a w (OpOK w0 E st s o.dst K) Q := by
  obtain ⟨x, w', os', h', hrun, hm, hst, hl, hf⟩ := symSem_run _ hs hr.mem
  unfold Oper.wp
  rw [hr.eval, ht, hrun]
  cases x <;> simp only [opFin, kPut_eq, kL_eq kV0_eq] at hf <;> try exact hf.elim
  · exact ⟨_, h', hr.put hm _ _, ⟨hst, hl⟩, ⟨_, rfl⟩, hf⟩
  · exact ⟨_, h', hr.put hm _ _, ⟨hst, hl⟩, ⟨_, rfl⟩, hf⟩
  · rename_i f args
    refine (hok f args os' h' _ w' hf hm).mono ?_
    rintro e w2 ⟨v, os2, h2, rfl, hm2, hst2, hk⟩
    exact ⟨_, h2, hr.put hm2 _ _, Stay.trans ⟨hst, hl⟩ hst2, ⟨_, rfl⟩, hk⟩

theorem askBool_ok {h : Hint} {b : Bool} {K : Bool → Hint → Prop} (hk : asksReal.bool h b K) : ∃ h', K b h' := by
  rw [ar_bool] at hk
  unfold askBool at hk
  split at hk
  · split at hk
    · exact ⟨_, hk⟩
    · exact ⟨_, hk⟩
  · cases b
    · have hk := hk.2 rfl
      split at hk
      · exact hk.elim
      · exact ⟨_, hk⟩
    · have hk := hk.1 rfl
      split at hk
      · exact hk.elim
      · exact ⟨_, hk⟩
  · obtain ⟨rfl, hk⟩ := hk
    split at hk
    · exact ⟨_, hk⟩
    · exact ⟨_, hk⟩
  · exact hk.elim
theorem askSem_ok {t : Sem Next} {h : Hint} {K : Sem Next → Hint → Prop} (hs : asksReal.sem t h K) : ∃ h', K t h' := by
  rw [ar_sem] at hs
  unfold askSem at hs
  split at hs
  · exact ⟨_, hs⟩
  · obtain ⟨rfl, hs⟩ := hs; exact ⟨_, hs⟩
  · exact hs.elim
theorem symOp_ok {P : Program} {w0 : Bs} {E : List Ex} {st : List Nat} {call : CallF} (hok : CallOK P w0 E st call) {o : Oper} {s : SS} {h : Hint} {K : KS} {a : Act} {w : World} {Q : Exit → Act → World → Prop}
    (hs : symOp asksReal P E st call o s h K) (hr : Rep w0 E s a w) :
    o.wp P a w (OpOK w0 E st s o.dst K) Q := by
  unfold symOp at hs
  split at hs
  · rename_i c t x y e
    obtain ⟨h', hs⟩ := askBool_ok hs
    obtain ⟨e1, e2⟩ := pickOf_eq e
    rw [kLit_eq e2, kPut_eq] at hs
    unfold Oper.wp
    rw [hr.eval, e1]
    exact ⟨_, h', hr.put hr.mem _ _, Stay.refl _ _, ⟨_, rfl⟩, hs⟩
  · split at hs
    · rename_i x y t e
      have e1 := appOf_eq e
      rw [ar_app] at hs
      obtain ⟨v, w', os', h', hrun, hm, hst, hl, hk⟩ := symApp_run (ty := o.type) hs hr.mem
      rw [kPut_eq] at hk
      unfold Oper.wp
      rw [hr.eval]
      have : (execOp (lev s.tmps) o).run P w = .ok (.value v) w' := by
        unfold execOp
        simp only [e1, resolve, invoke, builtin, Sem.run_bind, Sem.run_pure, Result.andThen_ok, List.map_toArray, List.map_cons, List.map_nil, hrun]
      rw [this]
      exact ⟨_, h', hr.put hm _ _, ⟨hst, hl⟩, ⟨_, rfl⟩, hk⟩
    · split at hs
      · rename_i b e
        rw [kPut_eq] at hs
        unfold Oper.wp
        rw [hr.eval, eqOf_ok e]
        exact ⟨_, h, hr.put hr.mem _ _, Stay.refl _ _, ⟨_, rfl⟩, hs⟩
      · split at hs
        · rename_i p v e
          rw [ar_ix] at hs
          unfold askIx at hs
          split at hs
          · obtain ⟨hi, hs⟩ := hs
            rw [kPut_eq] at hs
            unfold Oper.wp
            rw [hr.eval, ixOf_ok e hi]
            exact ⟨_, _, hr.put hr.mem _ _, Stay.refl _ _, ⟨_, rfl⟩, hs⟩
          · obtain ⟨h', hs⟩ := askSem_ok hs
            exact symSem_op hok rfl hs hr
        · split at hs
          · rename_i e bytes z l c hmk
            rw [ar_mk] at hs
            unfold askMk at hs
            split at hs
            · obtain ⟨⟨h0, hlc, hb, hys⟩, hs⟩ := hs
              obtain ⟨w', hrun, hown, hg⟩ := mkOf_run hmk h0 hlc hb w w.heap.size (Nat.le_refl _)
              have hs := hs (some ⟨w.heap.size, 0, none⟩) l.toNat ⟨(fun e => by cases e), (fun _ q hq => by injection hq with hq; subst hq; rfl)⟩
              rw [kApp_eq, kPut_eq] at hs
              rw [hys] at hown
              unfold Oper.wp
              rw [hr.eval, hrun]
              exact ⟨_, _, hr.put (hr.mem.spec_list hown ⟨hg.os, hg.tape, hg.output, hg.size, fun k hk => hg.block k hk (by intro e; cases e)⟩) _ _, Stay.app1 _ _ _, ⟨_, rfl⟩, hs⟩
            · obtain ⟨h', hs⟩ := askSem_ok hs
              exact symSem_op hok rfl hs hr
          · split at hs
            · obtain ⟨h', hs⟩ := askSem_ok hs
              exact symSem_op hok rfl hs hr
            · exact symSem_op hok rfl hs hr

theorem guardS_ok {ops : Array Oper} {o : Oper} {s : SS} {h : Hint} {K : Bool → SS → Hint → Prop} {a : Act} (hg : guardS asksReal ops.toList o s h K) (ha : a.tmps = s.tmps.toArray) :
    ∃ h', K (Region.wanted o (yielded ops a.tmps)) s h' := by
  unfold guardS at hg
  unfold Region.wanted
  split at hg
  · rename_i e; rw [e]; exact ⟨_, hg⟩
  · rename_i j want e
    rw [e]
    rw [lgo_eq] at hg
    simp only
    split at hg
    · rename_i e1
      have : yielded ops a.tmps j = none := by unfold yielded; simp at e1; simp [e1]
      exact ⟨h, by rw [this]; exact hg⟩
    · rename_i g e1
      have e1' : ops[j]? = some g := by simpa using e1
      split at hg
      · rename_i e2
        have : yielded ops a.tmps j = none := by unfold yielded; simp [e1', e2]
        exact ⟨h, by rw [this]; exact hg⟩
      · rename_i t e2
        have hy : yielded ops a.tmps j = (match (lget s.tmps t) with | .bool b => some b | _ => none) := by
          unfold yielded
          rw [e1', ha, lget_eq]
          simp only [Option.bind_some, e2]
          rw [List.getElem?_toArray, List.getD_eq_getElem?_getD]
          cases s.tmps[t]? with
          | none => rfl
          | some v => cases v <;> rfl
        split at hg
        · rename_i b e3
          rw [e3] at hy
          simp only at hy
          rw [hy]
          rw [beqB_eq]
          obtain ⟨h', hg⟩ := askBool_ok hg
          rw [kSet_eq, lset_self e3 (by intro e; cases e)] at hg
          exact ⟨h', hg⟩
        · rename_i e3
          rw [e3] at hy
          simp only at hy
          rw [hy]
          exact ⟨_, hg⟩
        · exact hg.elim

theorem opG_ok {P : Program} {w0 : Bs} {E : List Ex} {st : List Nat} {call : CallF} (hok : CallOK P w0 E st call) {ops : Array Oper} {i : Nat} {o : Oper} (ho : ops[i]? = some o) {s : SS} {h : Hint} {K : KS} {a : Act} {w : World} {Q : Exit → Act → World → Prop}
    (hs : opG asksReal P E st call ops.toList o s h K) (hr : Rep w0 E s a w) :
    wpOp P ops Q i (OpOK w0 E st s o.dst K) a w := by
  unfold opG at hs
  obtain ⟨h', hs⟩ := guardS_ok hs hr.tmps
  unfold wpOp
  rw [ho]
  simp only
  split at hs
  · rename_i e
    rw [e]
    exact Or.inl (symOp_ok hok hs hr)
  · rename_i e
    rw [e]
    rw [kPut_eq] at hs
    simp only [Bool.false_eq_true, if_false]
    exact ⟨_, h', hr.put hr.mem _ _, Stay.refl _ _, ⟨_, rfl⟩, hs⟩

def QQ (W st : List Nat) (s : SS) (Q : Exit → SS → Hint → Prop) : Exit → SS → Hint → Prop := fun e s' h' => Q e s' h' ∧ Off W s.tmps s'.tmps ∧ Stay st s.objs s'.objs

theorem dsts_mem {l : List Oper} {o : Oper} (h : o ∈ l) {t : Tmp} (ht : o.dst = some t) : t ∈ dsts l := by
  induction l with
  | nil => cases h
  | cons x l ih =>
    simp only [dsts]
    cases h with
    | head => rw [ht]; exact List.mem_cons_self ..
    | tail _ h =>
      split
      · exact List.mem_cons_of_mem _ (ih h)
      · exact ih h

theorem opsS_ok {P : Program} {w0 : Bs} {E : List Ex} {st : List Nat} {call : CallF} (hok : CallOK P w0 E st call) {ops : Array Oper} {Q : Exit → SS → Hint → Prop} {s0 : SS} (l : List Oper) :
    ∀ (k : Nat) (s : SS) (h : Hint) (a : Act) (w : World), ops.toList.drop k = l → opsS asksReal P E st call ops.toList l s h (fun s' h' => Q .normal s' h') → Rep w0 E s a w →
      Off (dsts ops.toList) s0.tmps s.tmps → Stay st s0.objs s.objs →
      wpOps P ops (Sat w0 E (QQ (dsts ops.toList) st s0 Q)) (List.range' k l.length) a w := by
  induction l with
  | nil => intro k s h a w _ hs hr h1 h2; exact ⟨s, h, hr, hs, h1, h2⟩
  | cons o l ih =>
    intro k s h a w hd hs hr h1 h2
    have ho : ops[k]? = some o := by
      have : (ops.toList.drop k)[0]? = some o := by rw [hd]; rfl
      simpa using this
    have hmem : o ∈ ops.toList := List.mem_of_getElem? (by simpa using ho)
    rw [List.length_cons, List.range'_succ, wpOps_cons]
    refine wpOp_mono ?_ (opG_ok hok ho hs hr)
    rintro a' w' ⟨s', h', hr', hst, ⟨v, hv⟩, hk⟩
    exact ih (k + 1) s' h' a' w' (by rw [← List.drop_drop, hd]; rfl) hk hr' (h1.trans (by rw [hv]; exact Off.put fun t ht => dsts_mem hmem ht)) (h2.trans hst)

def QS (w0 : Bs) (st : List Nat) (os : List Ob) (w : World) : Prop :=
  Below w0.heap.size w0 w ∧ ∀ i ∈ st, ∀ o, os[i]? = some o → o.ok w0.heap.size w

theorem extQ {w0 : Bs} {E : List Ex} (he : ExtOK E w0) {w : World} (hB : Below w0.heap.size w0 w) {i : Nat} {o : Ex} (ho : E[i]? = some o) {a : Addr} {v : Value} (hb : a.block = o.blk) (hs : a.spot = none) (hv : o.get a.off = some v) : w.cell? a = some v := by
  have h1 := (he o (List.mem_of_getElem? ho)).1 _ _ hv
  have h2 := cell_lt h1
  have e : a = ⟨o.blk, a.off, none⟩ := by cases a; simp_all
  rw [e, hB.cell (p := ⟨o.blk, a.off, none⟩) h2]
  exact h1

theorem symQ_run {P : Program} {E : List Ex} {st : List Nat} {w0 : Bs} {w1 : World} {os0 : List Ob} (he : ExtOK E w0) (t : Sem Next) :
    ∀ {os : List Ob} {h : Hint} {K : Value → Hint → Prop}, (∀ i ∈ st, os[i]? = os0[i]?) → QS w0 st os0 w1 → symQ asksReal P E st t os h K →
      ∃ v h', K v h' ∧ ∀ w, QS w0 st os0 w → t.run P w = .ok (.value v) w := by
  induction t with
  | pure x =>
    intro os h K hst _ hs
    cases x <;> first | exact ⟨_, _, hs, fun _ _ => rfl⟩ | exact False.elim hs
  | load m a k ih =>
    intro os h K hst hw1 hs
    unfold symQ at hs
    simp only [ar_loadQ] at hs
    generalize hO h os = h at hs
    simp only [askLoadQ] at hs
    split at hs
    · split at hs
      · rename_i i hh _ o ho
        rw [lgo_eq] at ho
        by_cases hmem : i ∈ st
        · have hok : ∀ w, QS w0 st os0 w → o.ok w0.heap.size w := fun w hq => hq.2 i hmem o (by rw [← hst i hmem]; exact ho)
          have hc := fun w hq => (hok w hq).cell hs
          have hs := (hc w1 hw1).1
          rw [mem0_iff.2 hmem] at hs
          simp only at hs
          split at hs
          · rename_i v hv
            rw [lgo_eq] at hv
            obtain ⟨u, h', hk, hr⟩ := ih v hst hw1 hs
            refine ⟨u, h', hk, fun w hq => ?_⟩
            simp only [Sem.run, (hc w hq).2 v hv]
            exact hr w hq
          · exact hs.elim
        · exfalso
          have e : mem0 st i = false := by
            cases e : mem0 st i with
            | false => rfl
            | true => exact absurd (mem0_iff.1 e) hmem
          rw [e] at hs
          unfold rowAt at hs
          split at hs
          · exact (sp0_ok hs).2.2
          · split at hs
            · exact hs
            · split at hs
              · exact (sp0_ok hs).2.2
              · exact hs
      · exact hs.elim
    · split at hs
      · rename_i i v hh _ o ho
        rw [lgo_eq] at ho
        by_cases hmem : i ∈ st
        · have hok : ∀ w, QS w0 st os0 w → o.ok w0.heap.size w := fun w hq => hq.2 i hmem o (by rw [← hst i hmem]; exact ho)
          have hc := fun w hq => (hok w hq).cell hs
          obtain ⟨hv, hs⟩ := (hc w1 hw1).1
          rw [mem0_iff.2 hmem] at hs
          simp only at hs
          rw [lgo_eq] at hv
          obtain ⟨u, h', hk, hr⟩ := ih _ hst hw1 hs
          refine ⟨u, h', hk, fun w hq => ?_⟩
          simp only [Sem.run, (hc w hq).2 _ hv]
          exact hr w hq
        · exfalso
          have e : mem0 st i = false := by
            cases e : mem0 st i with
            | false => rfl
            | true => exact absurd (mem0_iff.1 e) hmem
          rw [e] at hs
          unfold rowAt at hs
          split at hs
          · exact (sp0_ok hs).2.2.2
          · split at hs
            · exact hs
            · split at hs
              · exact (sp0_ok hs).2.2.2
              · exact hs
      · exact hs.elim
    · split at hs
      · rename_i i kk v hh _ o ho
        rw [lgo_eq] at ho
        by_cases hmem : i ∈ st
        · have hok : ∀ w, QS w0 st os0 w → o.ok w0.heap.size w := fun w hq => hq.2 i hmem o (by rw [← hst i hmem]; exact ho)
          have hc := fun w hq => (hok w hq).cellL hs
          obtain ⟨hv, hs⟩ := (hc w1 hw1).1
          rw [mem0_iff.2 hmem] at hs
          simp only at hs
          rw [lgo_eq] at hv
          obtain ⟨u, h', hk, hr⟩ := ih _ hst hw1 hs
          refine ⟨u, h', hk, fun w hq => ?_⟩
          simp only [Sem.run, (hc w hq).2 _ hv]
          exact hr w hq
        · exfalso
          have e : mem0 st i = false := by
            cases e : mem0 st i with
            | false => rfl
            | true => exact absurd (mem0_iff.1 e) hmem
          rw [e] at hs
          unfold listAt at hs
          split at hs
          · exact (sp0_ok hs).2.2.2.2
          · exact hs
      · exact hs.elim
    · split at hs
      · rename_i i v hh _ o ho
        rw [lgo_eq] at ho
        obtain ⟨hsp, hb, hv, hs⟩ := sp0_ok hs
        obtain ⟨u, h', hk, hr⟩ := ih _ hst hw1 hs
        refine ⟨u, h', hk, fun w hq => ?_⟩
        simp only [Sem.run, extQ he hq.1 ho hb hsp hv]
        exact hr w hq
      · exact hs.elim
    · split at hs
      · rename_i i v hh _ o ho
        rw [lgo_eq] at ho
        split at hs
        · rename_i g hg
          obtain ⟨hc, hs⟩ := hs
          split at hs
          · rename_i hmem
            obtain ⟨u, h', hk, hr⟩ := ih _ hst hw1 hs
            refine ⟨u, h', hk, fun w hq => ?_⟩
            have hmem := mem0_iff.1 hmem
            simp only [Sem.run, hc w ((hq.2 _ hmem o (by rw [← hst _ hmem]; exact ho)).gh hg)]
            exact hr w hq
          · exact hs.elim
        · exact hs.elim
      · exact hs.elim
    · exact hs.elim
  | program k ih =>
    intro os h K hst hw1 hs
    obtain ⟨u, h', hk, hr⟩ := ih _ hst hw1 hs
    exact ⟨u, h', hk, fun w hq => by simp only [Sem.run]; exact hr w hq⟩
  | mark m k ih =>
    intro os h K hst hw1 hs
    obtain ⟨u, h', hk, hr⟩ := ih hst hw1 hs
    exact ⟨u, h', hk, fun w hq => by simp only [Sem.run]; exact hr w hq⟩
  | _ => intro os h K hst _ hs; exact False.elim hs

theorem allS_mem {f : Nat → Hint → Prop} {l : List Nat} {h : Hint} (ha : allS asksReal f l h) : ∀ i ∈ l, ∃ h', f i h' := by
  induction l generalizing h with
  | nil => intro i hi; cases hi
  | cons x l ih =>
    simp only [allS, ar_br, askBr] at ha
    split at ha
    · intro i hi
      cases hi with
      | head => exact ⟨_, ha.1⟩
      | tail _ hi => exact ih ha.2 i hi
    · exact ha.elim
theorem isNil_eq {α : Type} {l : List α} (h : isNil l = true) : l = [] := by cases l <;> first | rfl | cases h
theorem isNil_ne {α : Type} {l : List α} (h : isNil l = false) : l ≠ [] := by rintro rfl; cases h

theorem regS_ok {P : Program} {w0 : Bs} {E : List Ex} {st1 st0 : List Nat} {k0 : Option Nat} {call : List Nat → CallF} (hok : ∀ st, CallOK P w0 E st (call st)) {ops : Array Oper} {s0 : SS} {Q : Exit → SS → Hint → Prop} (he : ExtOK E w0) (hst1 : ∀ i ∈ st1, i < s0.objs.length) (hsub : ∀ i ∈ st0, i ∈ st1) :
    ∀ (n : Nat) (listed : Array Bool) (s : SS) (h : Hint) (a : Act) (w : World), regS asksReal P E st1 k0 st0 call ops.toList ops n listed s h (fun s' h' => Q .normal s' h') → Rep w0 E s a w →
      Off (dsts ops.toList) s0.tmps s.tmps → Stay st0 s0.objs s.objs → (ph1 k0 listed = true → Stay st1 s0.objs s.objs) → wpH2 P ops (Sat w0 E (QQ (dsts ops.toList) st0 s0 Q)) (QS w0 st1 s0.objs) (QS w0 st0 s0.objs) k0 n listed a w := by
  intro n
  have hst0 : ∀ i ∈ st0, i < s0.objs.length := fun i hi => hst1 i (hsub i hi)
  have hq : ∀ (st : List Nat), (∀ i ∈ st, i < s0.objs.length) → ∀ (s : SS) (a : Act) (w : World), Rep w0 E s a w → Stay st s0.objs s.objs → QS w0 st s0.objs w := fun st hst s a w hr hs =>
    ⟨hr.mem.below, fun i hi o ho => hr.mem.row i o (by rw [hs.1 i hi (hst i hi)]; exact ho)⟩
  induction n with
  | zero =>
    intro listed s h a w hs hr hoff hstay hstay1
    simp only [regS, rdyL_eq] at hs
    split at hs
    · rename_i e
      exact ⟨isNil_eq e, s, h, hr, hs, hoff, hstay⟩
    · exact hs.elim
  | succ n ih =>
    intro listed s h a w hs hr hoff hstay hstay1
    have q0 := hq st0 hst0 s a w hr hstay
    have q1 : ph1 k0 listed = true → QS w0 st1 s0.objs w := fun e => hq st1 hst1 s a w hr (hstay1 e)
    unfold regS at hs
    simp only [ar_reg, askReg, rdyL_eq, kLst_eq] at hs
    split at hs
    · split at hs
      · rename_i e
        exact wpH2_done (isNil_eq e) ⟨s, _, hr, hs, hoff, hstay⟩ _
      · exact hs.elim
    · split at hs
      · exact hs.elim
      · rename_i i h' _ o ho
        rw [lgo_eq] at ho
        have ho' : ops[i]? = some o := by simpa using ho
        have hmem : o ∈ ops.toList := List.mem_of_getElem? ho
        have hput : ∀ v, Off (dsts ops.toList) s0.tmps (lput s.tmps o.dst v) := fun v => hoff.trans (Off.put fun t ht => dsts_mem hmem ht)
        split at hs
        · exact hs.elim
        · rename_i e
          simp only [Bool.and_eq_true] at e
          obtain ⟨⟨⟨e1, e2⟩, e3⟩, e4⟩ := e
          have e3 := mem0_iff.1 e3
          have hph : ∀ {p : Prop}, (ph1 k0 listed = true → p) → ph1 k0 (listed.setIfInBounds i true) = true → p := fun h e => h (by rwa [ph1_set (notK_ne e4)] at e)
          obtain ⟨h2, hs⟩ := guardS_ok hs hr.tmps
          split at hs
          · rename_i hw
            have key : ∀ (st : List Nat), (∀ i ∈ st, s.objs[i]? = s0.objs[i]?) → QS w0 st s0.objs w → symQ1 asksReal P E st o s h2 (fun v s h3 => kPut s.tmps o.dst v fun l => regS asksReal P E st1 k0 st0 call ops.toList ops n (listed.setIfInBounds i true) ⟨l, s.objs⟩ h3 fun s' h' => Q .normal s' h') →
                ∃ v h3, regS asksReal P E st1 k0 st0 call ops.toList ops n (listed.setIfInBounds i true) ⟨lput s.tmps o.dst v, s.objs⟩ h3 (fun s' h' => Q .normal s' h') ∧ ∀ w, QS w0 st s0.objs w → (execOp (lev s.tmps) o).run P w = .ok (.value v) w := by
              intro st hst hqs hs
              unfold symQ1 at hs
              split at hs
              · rename_i c t x y e
                obtain ⟨h3, hs⟩ := askBool_ok hs
                obtain ⟨e1, e2⟩ := pickOf_eq e
                rw [kLit_eq e2, kPut_eq] at hs
                exact ⟨_, h3, hs, fun w _ => by rw [e1]; rfl⟩
              · have key2 : ∀ h, symQ asksReal P E st (execOp (lev s.tmps) o) s.objs h (fun v h3 => kPut s.tmps o.dst v fun l => regS asksReal P E st1 k0 st0 call ops.toList ops n (listed.setIfInBounds i true) ⟨l, s.objs⟩ h3 fun s' h' => Q .normal s' h') → ∃ v h3, regS asksReal P E st1 k0 st0 call ops.toList ops n (listed.setIfInBounds i true) ⟨lput s.tmps o.dst v, s.objs⟩ h3 (fun s' h' => Q .normal s' h') ∧ ∀ w, QS w0 st s0.objs w → (execOp (lev s.tmps) o).run P w = .ok (.value v) w := by
                  intro h hs
                  obtain ⟨v, h3, hk, hrun⟩ := symQ_run he _ hst hqs hs
                  rw [kPut_eq] at hk
                  exact ⟨v, h3, hk, hrun⟩
                split at hs
                · rename_i b e
                  rw [kPut_eq] at hs
                  exact ⟨_, _, hs, fun w _ => eqOf_ok e w⟩
                · split at hs
                  · rename_i p v e
                    rw [ar_ix] at hs
                    unfold askIx at hs
                    split at hs
                    · obtain ⟨hi, hs⟩ := hs
                      simp only [kPut_eq] at hs
                      exact ⟨_, _, hs, fun w _ => ixOf_ok e hi w⟩
                    · obtain ⟨h3, hs⟩ := askSem_ok hs
                      exact key2 _ hs
                  · split at hs
                    · obtain ⟨h3, hs⟩ := askSem_ok hs
                      exact key2 _ hs
                    · exact key2 _ hs
            cases htk : okTake ops.toList k0 listed i with
            | true =>
              have hts : takeS ops.toList k0 listed i st1 st0 = st1 := by unfold takeS; rw [htk]
              rw [hts] at hs
              unfold okTake at htk
              simp only [Bool.and_eq_true] at htk
              have hst := hstay1 htk.1
              obtain ⟨v, h3, hk, hrun⟩ := key st1 (fun i hi => hst.1 i hi (hst1 i hi)) (q1 htk.1) hs
              exact wpH2_take1 (v := v) ho' e1 e2 e3 (fun _ _ _ h => h) e4 htk.1 htk.2 (Or.inl ⟨hw, fun w hq => by rw [hr.eval]; exact hrun w hq⟩) q0 (q1 htk.1) (ih _ _ h3 _ _ hk (hr.put hr.mem _ _) (hput _) hstay (hph hstay1))
            | false =>
              have hts : takeS ops.toList k0 listed i st1 st0 = st0 := by unfold takeS; rw [htk]
              rw [hts] at hs
              obtain ⟨v, h3, hk, hrun⟩ := key st0 (fun i hi => hstay.1 i hi (hst0 i hi)) q0 hs
              exact wpH2_take0 (v := v) ho' e1 e2 e3 (fun _ _ _ h => h) e4 (Or.inl ⟨hw, fun w hq => by rw [hr.eval]; exact hrun w hq⟩) q0 q1 (ih _ _ h3 _ _ hk (hr.put hr.mem _ _) (hput _) hstay (hph hstay1))
          · rename_i hw
            rw [kPut_eq] at hs
            exact wpH2_take0 (v := undef) ho' e1 e2 e3 (fun _ _ _ h => h) e4 (Or.inr ⟨hw, rfl⟩) q0 q1 (ih _ _ h2 _ _ hs (hr.put hr.mem _ _) (hput _) hstay (hph hstay1))
    · obtain ⟨h1, hs⟩ := hs
      split at h1
      · exact h1.elim
      · rename_i e
        refine ⟨fun e0 => absurd e0 (isNil_ne e), fun i hi => ?_⟩
        obtain ⟨h2, hs⟩ := allS_mem hs i hi
        split at hs
        · exact hs.elim
        · rename_i o ho
          rw [lgo_eq] at ho
          have ho' : ops[i]? = some o := by simpa using ho
          have hmem : o ∈ ops.toList := List.mem_of_getElem? ho
          refine wpOp_mono ?_ (opG_ok (hok _) ho' hs hr)
          rintro a' w' ⟨s', h', hr', hst', ⟨v, hv⟩, hk⟩
          have hback : ph1 k0 (listed.setIfInBounds i true) = true → ph1 k0 listed = true := by
            intro e
            cases k0 with
            | none => rfl
            | some k =>
              by_cases hik : i = k
              · subst hik
                have := (mem_ready.1 hi).1
                simp only [ph1, this, Bool.not_false]
              · rwa [ph1_set (fun e => hik (Option.some.inj e).symm)] at e
          have hstay2 : Stay st0 s0.objs s'.objs := by
            unfold curS at hst'
            split at hst'
            · exact hstay.trans (hst'.sub hsub)
            · exact hstay.trans hst'
          have hstay3 : ph1 k0 (listed.setIfInBounds i true) = true → Stay st1 s0.objs s'.objs := by
            intro e
            have e := hback e
            unfold curS at hst'
            rw [e] at hst'
            exact (hstay1 e).trans hst'
          exact ⟨⟨hq st0 hst0 s' a' w' hr' hstay2, fun e => hq st1 hst1 s' a' w' hr' (hstay3 e)⟩, ih _ _ _ _ _ hk hr' (hoff.trans (by rw [hv]; exact Off.put fun t ht => dsts_mem hmem ht)) hstay2 hstay3⟩
    · exact hs.elim

theorem MRep.perm {w0 : Bs} {E : List Ex} {w : World} {l l' : List Ob} (hp : l.Perm l') : ∀ pre : List Ob, MRep w0 E (pre ++ l) w → MRep w0 E (pre ++ l') w := by
  induction hp with
  | nil => exact fun _ h => h
  | cons x _ ih =>
    intro pre h
    have := ih (pre ++ [x]) (by simpa using h)
    simpa using this
  | swap x y l =>
    intro pre h
    refine h.remap (fun i => if i = pre.length then pre.length + 1 else if i = pre.length + 1 then pre.length else i) ?_ ?_
    · intro i j _ _ he
      split at he <;> split at he <;> (try split at he) <;> (try split at he) <;> omega
    · intro i q hq
      refine ⟨q, ?_, Weak.refl _⟩
      rw [List.getElem?_append] at hq ⊢
      split
      · rename_i e
        subst e
        simp at hq ⊢
        exact hq
      · split
        · rename_i e1 e
          subst e
          simp at hq ⊢
          exact hq
        · rename_i e1 e2
          split at hq
          · rename_i h1
            rw [if_pos h1]
            exact hq
          · rename_i h1
            rw [if_neg h1]
            obtain ⟨k, hk⟩ : ∃ k, i - pre.length = k + 2 := ⟨i - pre.length - 2, by omega⟩
            rw [hk] at hq ⊢
            simpa using hq
  | trans _ _ ih1 ih2 => exact fun pre h => ih2 pre (ih1 pre h)
theorem MRep.perm0 {w0 : Bs} {E : List Ex} {w : World} {l l' : List Ob} (hp : l.Perm l') (h : MRep w0 E l w) : MRep w0 E l' w := MRep.perm hp [] h

theorem filter_lt {α : Type} {p q : α → Bool} {l : List α} (hpq : ∀ x ∈ l, q x = true → p x = true) {x0 : α} (h0 : x0 ∈ l) (hp : p x0 = true) (hq : q x0 = false) : (l.filter q).length < (l.filter p).length := by
  induction l with
  | nil => cases h0
  | cons x l ih =>
    have le : ∀ l : List α, (∀ x ∈ l, q x = true → p x = true) → (l.filter q).length ≤ (l.filter p).length := by
      intro l
      induction l with
      | nil => exact fun _ => Nat.le_refl _
      | cons x l ih =>
        intro h
        have h1 := ih fun y hy => h y (List.mem_cons_of_mem _ hy)
        have h2 := h x (List.mem_cons_self ..)
        rw [List.filter_cons, List.filter_cons]
        cases hqx : q x with
        | true => simp [h2 hqx]; exact h1
        | false => cases hpx : p x <;> simp <;> omega
    have h1 := le l fun y hy => hpq y (List.mem_cons_of_mem _ hy)
    rw [List.filter_cons, List.filter_cons]
    cases h0 with
    | head => simp [hp, hq]; omega
    | tail _ h0 =>
      have h2 := ih (fun y hy => hpq y (List.mem_cons_of_mem _ hy)) h0
      have h3 := hpq x (List.mem_cons_self ..)
      cases hqx : q x with
      | true => simp [h3 hqx]; exact h2
      | false => cases hpx : p x <;> simp <;> omega
def cntF (ops : Array Oper) (listed : Array Bool) : Nat := ((List.range ops.size).filter fun i => !listed.getD i true).length
theorem ready_lt {ops : Array Oper} {listed : Array Bool} {i : Nat} (h : i ∈ Region.ready .any ops listed) : i < ops.size := by
  obtain ⟨_, o, ho, _⟩ := mem_ready.1 h
  exact (Array.getElem?_eq_some_iff.1 ho).1
theorem un_lt {listed : Array Bool} {i : Nat} (h : listed.getD i true = false) : i < listed.size := by
  rcases Nat.lt_or_ge i listed.size with h' | h'
  · exact h'
  · simp [Array.getElem?_eq_none h'] at h
theorem set_self {listed : Array Bool} {i : Nat} (h : i < listed.size) (d : Bool) : (listed.setIfInBounds i true).getD i d = true := by simp [h]
theorem set_un {listed : Array Bool} {i j : Nat} (h : (listed.setIfInBounds i true).getD j true = false) : listed.getD j true = false ∧ i ≠ j := by
  by_cases e : i = j
  · subst e
    by_cases hl : i < listed.size
    · rw [set_self hl] at h; cases h
    · simp [hl] at h
  · rw [getD_set_ne true e] at h; exact ⟨h, e⟩
theorem cnt_set {ops : Array Oper} {listed : Array Bool} {i : Nat} (hr : i ∈ Region.ready .any ops listed) : cntF ops (listed.setIfInBounds i true) < cntF ops listed := by
  have hun := (mem_ready.1 hr).1
  refine filter_lt (x0 := i) (fun j hj h => ?_) (List.mem_range.2 (ready_lt hr)) (by simp only [hun, Bool.not_false]) (by rw [set_self (un_lt hun)]; rfl)
  simp only [Bool.not_eq_true'] at h ⊢
  exact (set_un h).1
def WpI (P : Program) (ops : Array Oper) (Q : Exit → Act → World → Prop) (S : World → Prop) (listed : Array Bool) (a : Act) (w : World) : Prop :=
  ∀ n, cntF ops listed ≤ n → wpAnyH P .any ops Q S n listed a w
theorem ready_cnt {ops : Array Oper} {listed : Array Bool} {i : Nat} (hr : i ∈ Region.ready .any ops listed) : 0 < cntF ops listed := Nat.lt_of_le_of_lt (Nat.zero_le _) (cnt_set hr)
theorem WpI.mk {P : Program} {ops : Array Oper} {Q : Exit → Act → World → Prop} {S : World → Prop} {listed : Array Bool} {a : Act} {w : World} (h0 : Region.ready .any ops listed = [] → Q .normal a w)
    (h : ∀ i ∈ Region.ready .any ops listed, wpOp P ops Q i (fun a' w' => S w' ∧ WpI P ops Q S (listed.setIfInBounds i true) a' w') a w) : WpI P ops Q S listed a w := by
  intro n hn
  cases n with
  | zero =>
    have : Region.ready .any ops listed = [] := by
      cases hr : Region.ready .any ops listed with
      | nil => rfl
      | cons x l =>
        have := ready_cnt (ops := ops) (listed := listed) (i := x) (by rw [hr]; exact List.mem_cons_self ..)
        omega
    exact ⟨this, h0 this⟩
  | succ n => exact ⟨h0, fun i hi => wpOp_mono (fun a' w' h' => ⟨h'.1, h'.2 n (by have := cnt_set hi; omega)⟩) (h i hi)⟩
theorem WpI.take {P : Program} {ops : Array Oper} {Q : Exit → Act → World → Prop} {S : World → Prop} {listed : Array Bool} {a : Act} {w : World} {i : Nat} {oi : Oper} {v : Value} (hi : ops[i]? = some oi) (hsel : Region.noSelect ops = true)
    (hQ : ∀ c a w, Q (.panic c) (a.put oi.dst v) w → Q (.panic c) a w) (hfree : Region.free .any ops listed i = true) (hr : i ∈ Region.ready .any ops listed) (hy : YieldsIf P ops S oi v a) (hS : S w)
    (h : WpI P ops Q S (listed.setIfInBounds i true) (a.put oi.dst v) w) : WpI P ops Q S listed a w := by
  intro n hn
  have := cnt_set hr
  obtain ⟨m, rfl⟩ : ∃ m, n = m + 1 := ⟨n - 1, by omega⟩
  exact wpAnyH_first hi (Region.noSelect_spec hsel) hQ m listed a w (Region.free_spec hi hfree) hr hy hS (h m (by omega))

theorem valSem_run {P : Program} (w : World) (t : Sem Next) : ∀ {v : Value}, valSem P t = some v → t.run P w = .ok (.value v) w := by
  induction t with
  | pure x => intro v h; cases x <;> simp [valSem] at h; subst h; rfl
  | program k ih => intro v h; simp only [Sem.run]; exact ih P h
  | mark m k ih => intro v h; simp only [Sem.run]; exact ih h
  | _ => intro v h; simp [valSem] at h
theorem allocSem_run {P : Program} (w : World) (t : Sem Next) : ∀ {c : Array Value} {e : TypeId} {k : Nat → Sem Next} {v : Value}, allocSem P t = some (c, e, k) → valSem P (k w.heap.size) = some v →
    t.run P w = .ok (.value v) { w with heap := w.heap.push (.cells c e (0, 0)) } := by
  induction t with
  | program k ih => intro c e k' v h hv; simp only [Sem.run]; exact ih P h hv
  | mark m k ih => intro c e k' v h hv; simp only [Sem.run]; exact ih h hv
  | new o k ih =>
    intro c e k' v h hv
    simp only [allocSem] at h
    split at h
    · rename_i c' e' he
      simp only [Option.some.injEq, Prod.mk.injEq] at h
      obtain ⟨rfl, rfl, rfl⟩ := h
      obtain rfl := plainRow_eq he
      simp only [Sem.run]
      exact valSem_run _ _ hv
    · cases h
  | _ => intro c e k' v h; simp [allocSem] at h
theorem wantB_ok {ops : Array Oper} {o : Oper} {s : SS} {b : Bool} {a : Act} (h : wantB ops.toList o s = some b) (ha : a.tmps = s.tmps.toArray) : Region.wanted o (yielded ops a.tmps) = b := by
  have key : guardS asksReal ops.toList o s (.lit .nil) (fun x _ _ => x = b) := by
    unfold wantB at h
    unfold guardS
    cases hg : o.guard with
    | none => simp only [hg] at h ⊢; exact Option.some.inj h
    | some x =>
      obtain ⟨j, want⟩ := x
      simp only [hg] at h ⊢
      cases hl : lgo ops.toList j with
      | none => simp only [hl] at h ⊢; exact Option.some.inj h
      | some g =>
        simp only [hl] at h ⊢
        cases hd : g.dst with
        | none => simp only [hd] at h ⊢; exact Option.some.inj h
        | some t =>
          simp only [hd] at h ⊢
          cases hv : lget s.tmps t <;> simp only [hv] at h ⊢ <;> try (cases h; done)
          · rename_i c
            simp only [ar_bool, askBool]
            cases c <;> simp only at h ⊢ <;> (rw [kSet_eq]; exact Option.some.inj h)
          · exact Option.some.inj h
  obtain ⟨_, h⟩ := guardS_ok key ha
  exact h

theorem callSem_run {P : Program} (w : World) (t : Sem Next) : ∀ {f : FuncId} {args : Array Value}, callSem P t = some (f, args) → t.run P w = .ok (.enter f args) w := by
  induction t with
  | pure x => intro f args h; cases x <;> simp [callSem] at h; obtain ⟨rfl, rfl⟩ := h; rfl
  | program k ih => intro f args h; simp only [Sem.run]; exact ih P h
  | mark m k ih => intro f args h; simp only [Sem.run]; exact ih h
  | _ => intro f args h; simp [callSem] at h
theorem apl {os : List Ob} {i : Nat} {o : Ob} (h : os[i]? = some o) (ps : List Ob) : (os ++ ps)[i]? = some o := by rw [List.getElem?_append_left (List.getElem?_eq_some_iff.1 h).1]; exact h
theorem oset_app {os ps : List Ob} {i k : Nat} {v : Value} (h : i < os.length) : oset (os ++ ps) i k v = oset os i k v ++ ps := by
  induction os generalizing i with
  | nil => simp at h
  | cons o os ih =>
    cases i with
    | zero => rfl
    | succ i =>
      simp only [List.cons_append, oset]
      rw [ih (by simpa using h)]
theorem MRep.fr {w0 : Bs} {E : List Ex} {os ps new : List Ob} {w : World} (h : MRep w0 E ((os ++ ps) ++ new) w) : MRep w0 E ((os ++ new) ++ ps) w := by
  rw [List.append_assoc] at h ⊢
  exact MRep.perm List.perm_append_comm os h
theorem lgo_ext {os : List Ob} {i : Nat} {o : Ob} (ps : List Ob) (h : lgo os i = some o) : lgo (os ++ ps) i = some o := by
  rw [lgo_eq] at h ⊢
  exact apl h ps
theorem newsAt_ext {os : List Ob} (ps : List Ob) {j : Nat} {x : Value} {size : Nat} {K K' : List Value → Nat → Prop} (hk : ∀ a b, K a b → K' a b) (h : newsAt os j x size K) : newsAt (os ++ ps) j x size K' := by
  unfold newsAt at h ⊢
  cases x <;> try exact h.elim
  rename_i a m c
  cases a with
  | none => exact h.elim
  | some p =>
    simp only at h ⊢
    cases ho : lgo os j with
    | none => rw [ho] at h; exact h.elim
    | some o =>
      rw [ho] at h
      rw [lgo_ext ps ho]
      simp only at h ⊢
      cases hw : o.ow with
      | some u => rw [hw] at h; exact h.elim
      | none =>
        rw [hw] at h
        simp only at h ⊢
        unfold sp0 at h ⊢
        cases hs : p.spot with
        | some q => rw [hs] at h; exact h.elim
        | none =>
          rw [hs] at h
          simp only at h ⊢
          refine ⟨h.1, ?_⟩
          have h2 := h.2
          split at h2
          · rename_i hc
            try rw [hc]
            exact hk _ _ h2
          · exact h2.elim
theorem kCk_mono {p : Prop} {h : Hint} {K K' : Hint → Prop} (hk : ∀ h, K h → K' h) (h0 : kCk p h K) : kCk p h K' := by
  unfold kCk at h0 ⊢
  cases h <;> first | exact hk _ h0 | exact fun q => hk _ (h0 q)
def extK (os ps : List Ob) (K : Value → List Ob → Hint → Prop) : Value → List Ob → Hint → Prop :=
  fun v os'' h' => ∃ os', (os'' = os' ++ ps ∧ os'.length = os.length ∨ ∃ X, os' = os ++ [X] ∧ os'' = (os ++ ps) ++ [X]) ∧ K v os' h'
theorem kObset_ext {os ps : List Ob} {i : Nat} {o q : Ob} {v : Value} {h' : Hint} {K : Value → List Ob → Hint → Prop} (ho : lgo os i = some q) (h : kObset os i o fun os' => K v os' h') : kObset (os ++ ps) i o fun os' => extK os ps K v os' h' := by
  rw [kObset_eq] at h ⊢
  rw [lgo_eq] at ho
  have hi := (List.getElem?_eq_some_iff.1 ho).1
  refine ⟨_, Or.inl ⟨?_, ?_⟩, h⟩
  · rw [obset_eq, obset_eq, List.set_append_left _ _ hi]
  · rw [obset_eq, List.length_set]
theorem kApp_ext {os ps : List Ob} {o : Ob} {v : Value} {h' : Hint} {K : Value → List Ob → Hint → Prop} (h : kApp os o fun os' => K v os' h') : kApp (os ++ ps) o fun os' => extK os ps K v os' h' := by
  rw [kApp_eq, app1_eq] at h ⊢
  exact ⟨_, Or.inr ⟨o, rfl, rfl⟩, h⟩
theorem symApp_ext {P : Program} {st : List Nat} {sv xv : Value} {t : TypeId} {os : List Ob} (ps : List Ob) {h : Hint} {K : Value → List Ob → Hint → Prop} (hs : symApp P st sv xv t os h K) : symApp P st sv xv t (os ++ ps) h (extK os ps K) := by
  unfold symApp at hs ⊢
  cases he : elOf P t with
  | none => rw [he] at hs; exact hs.elim
  | some q =>
    rw [he] at hs
    obtain ⟨e, size, bytes⟩ := q
    try simp only at hs ⊢
    cases h <;> try exact hs.elim
    case app i j h' =>
      try simp only at hs ⊢
      cases ho : lgo os i with
      | none => rw [ho] at hs; exact hs.elim
      | some o =>
        rw [ho] at hs
        rw [lgo_ext ps ho]
        try simp only at hs ⊢
        split at hs
        · rename_i ow a n c hw
          try rw [hw]
          try simp only at hs ⊢
          split at hs
          · rename_i hc
            try rw [hc]
            obtain ⟨h1, h2, h3, h4⟩ := hs
            exact ⟨h1, h2, h3, newsAt_ext ps (fun _ _ hk => ⟨hk.1, fun g cap => kCk_mono (fun _ hh => kObset_ext ho hh) (hk.2 g cap)⟩) h4⟩
          · exact hs.elim
        · exact hs.elim
    case appn j h' =>
      try simp only at hs ⊢
      split at hs
      · split at hs
        · rename_i hc
          try simp only [hc] at hs ⊢
          exact newsAt_ext ps (fun _ _ hk => ⟨hk.1, fun g cap => kCk_mono (fun _ hh => kApp_ext hh) (hk.2 g cap)⟩) hs
        · exact hs.elim
      · exact hs.elim
    case appe i j h' =>
      try simp only at hs ⊢
      cases ho : lgo os i with
      | none => rw [ho] at hs; simp only at hs
      | some o =>
        rw [ho] at hs
        rw [lgo_ext ps ho]
        cases sv <;> try exact hs.elim
        try simp only at hs ⊢
        split at hs
        · rename_i hw hc
          try rw [hw, hc]
          exact ⟨hs.1, newsAt_ext ps (fun _ _ hk => ⟨hk.1, fun g cap => kCk_mono (fun _ hh => kObset_ext ho hh) (hk.2 g cap)⟩) hs.2⟩
        · exact hs.elim
    case apl i j ys h' =>
      try simp only at hs ⊢
      cases ho : lgo os i with
      | none => rw [ho] at hs; simp only at hs
      | some o =>
        cases hj : lgo os j with
        | none => rw [ho, hj] at hs; simp only at hs
        | some q =>
          rw [ho, hj] at hs
          rw [lgo_ext ps ho, lgo_ext ps hj]
          cases sv <;> try exact hs.elim
          cases xv <;> try exact hs.elim
          try simp only at hs ⊢
          split at hs
          · rename_i qw hw hst
            try rw [hw, hst]
            try simp only at hs ⊢
            obtain ⟨h1, h2, h3, h4, h5, h6, hs⟩ := hs
            refine ⟨h1, h2, h3, h4, h5, h6, ?_⟩
            split at hs
            · rename_i ow how
              try rw [how]
              try simp only at hs ⊢
              split at hs
              · rename_i hc
                try rw [hc]
                exact ⟨hs.1, hs.2.1, hs.2.2.1, fun a' cap hA => kObset_ext ho (hs.2.2.2 a' cap hA)⟩
              · exact hs.elim
            · rename_i how
              try rw [how]
              try simp only at hs ⊢
              split at hs
              · rename_i hc
                try rw [hc]
                exact ⟨hs.1, fun a' cap hA => kObset_ext ho (hs.2 a' cap hA)⟩
              · exact hs.elim
          · exact hs.elim
    case apn j ys h' =>
      try simp only at hs ⊢
      cases hj : lgo os j with
      | none => rw [hj] at hs; simp only at hs
      | some q =>
        rw [hj] at hs
        rw [lgo_ext ps hj]
        split at hs
        · rename_i hq
          obtain rfl := Option.some.inj hq
          try simp only at hs ⊢
          split at hs
          · rename_i qw hw hc
            try rw [hw, hc]
            obtain ⟨h1, h2, h3, h4, h5, h6, hs⟩ := hs
            exact ⟨h1, h2, h3, h4, h5, h6, fun a' cap hA => kApp_ext (hs a' cap hA)⟩
          · exact hs.elim
        · exact hs.elim
theorem symAppF_run {P : Program} {E : List Ex} {st : List Nat} {w0 : Bs} {w : World} {sv xv : Value} {t ty : TypeId} {os : List Ob} (ps : List Ob) {h : Hint} {K : Value → List Ob → Hint → Prop}
    (hs : symApp P st sv xv t os h K) (hm : MRep w0 E (os ++ ps) w) :
    ∃ v w' os' h', (Builtin.append_ #[t, t] ty #[sv, xv]).run P w = .ok v w' ∧ MRep w0 E (os' ++ ps) w' ∧ (∀ i ∈ st, i < os.length → os'[i]? = os[i]?) ∧ os.length ≤ os'.length ∧ K v os' h' := by
  obtain ⟨v, w', os2, h', hr, hm2, hst, hl, os', hx, hk⟩ := symApp_run (ty := ty) (symApp_ext ps hs) hm
  refine ⟨v, w', os', h', hr, ?_, fun i hi hlt => ?_, ?_, hk⟩
  · rcases hx with ⟨rfl, _⟩ | ⟨X, rfl, rfl⟩
    · exact hm2
    · exact MRep.fr hm2
  · have h2 := hst i hi (by rw [List.length_append]; omega)
    rcases hx with ⟨rfl, hl'⟩ | ⟨X, rfl, rfl⟩
    · rw [List.getElem?_append_left (by omega), List.getElem?_append_left hlt] at h2
      exact h2
    · rw [List.getElem?_append_left hlt]
  · rcases hx with ⟨_, hl'⟩ | ⟨X, rfl, _⟩
    · omega
    · simp
theorem symSemF_run {α : Type} {P : Program} {E : List Ex} {st : List Nat} {w0 : Bs} (ps : List Ob) (t : Sem α) :
    ∀ {os : List Ob} {h : Hint} {K : α → List Ob → Hint → Prop} {w : World}, symSem asksReal P E st t os h K → MRep w0 E (os ++ ps) w →
      ∃ x w' os' h', t.run P w = .ok x w' ∧ MRep w0 E (os' ++ ps) w' ∧ (∀ i ∈ st, i < os.length → os'[i]? = os[i]?) ∧ os.length ≤ os'.length ∧ K x os' h' := by
  induction t with
  | pure x => exact fun hs hm => ⟨x, _, _, _, rfl, hm, fun _ _ _ => rfl, Nat.le_refl _, hs⟩
  | load m a k ih =>
    intro os h K w hs hm
    simp only [symSem, ar_load] at hs
    generalize hO h os = h at hs
    simp only [askLoad] at hs
    split at hs
    · split at hs
      · rename_i o ho
        rw [lgo_eq] at ho
        obtain ⟨hs, hc⟩ := (hm.row _ o (apl ho ps)).cell hs
        split at hs
        · rename_i v hv
          rw [lgo_eq] at hv
          obtain ⟨x, w', os', h', hr, h1⟩ := ih v hs hm
          exact ⟨x, w', os', h', by simp only [Sem.run, hc v hv]; exact hr, h1⟩
        · exact hs.elim
      · exact hs.elim
    · split at hs
      · rename_i o ho
        rw [lgo_eq] at ho
        obtain ⟨⟨hv, hs⟩, hc⟩ := (hm.row _ o (apl ho ps)).cell hs
        rw [lgo_eq] at hv
        obtain ⟨x, w', os', h', hr, h1⟩ := ih _ hs hm
        exact ⟨x, w', os', h', by simp only [Sem.run, hc _ hv]; exact hr, h1⟩
      · exact hs.elim
    · split at hs
      · rename_i o ho
        rw [lgo_eq] at ho
        obtain ⟨⟨hv, hs⟩, hc⟩ := (hm.row _ o (apl ho ps)).cellL hs
        rw [lgo_eq] at hv
        obtain ⟨x, w', os', h', hr, h1⟩ := ih _ hs hm
        exact ⟨x, w', os', h', by simp only [Sem.run, hc _ hv]; exact hr, h1⟩
      · exact hs.elim
    · split at hs
      · rename_i o ho
        rw [lgo_eq] at ho
        obtain ⟨hsp, hb, hv, hs⟩ := sp0_ok hs
        obtain ⟨x, w', os', h', hr, h1⟩ := ih _ hs hm
        exact ⟨x, w', os', h', by simp only [Sem.run, hm.extc ho hb hsp hv]; exact hr, h1⟩
      · exact hs.elim
    · split at hs
      · rename_i o ho
        rw [lgo_eq] at ho
        split at hs
        · rename_i g hg
          obtain ⟨hc, hs⟩ := hs
          obtain ⟨x, w', os', h', hr, h1⟩ := ih _ hs hm
          exact ⟨x, w', os', h', by simp only [Sem.run, hc _ ((hm.row _ o (apl ho ps)).gh hg)]; exact hr, h1⟩
        · exact hs.elim
      · exact hs.elim
    · exact hs.elim
  | store m a v k ih =>
    intro os h K w hs hm
    simp only [symSem, ar_sto] at hs
    generalize hO h os = h at hs
    simp only [askSto] at hs
    split at hs
    · split at hs
      · rename_i i hh _ o ho
        rw [lgo_eq] at ho
        split at hs
        · rename_i hw
          obtain ⟨hsp, hb, h1, hs⟩ := sp0_ok hs
          split at hs
          · rename_i hc
            rw [kV0_eq, kOset_eq] at hs
            simp only [Bool.and_eq_true, Bool.not_eq_true'] at hc
            obtain ⟨hc1, hc2⟩ := hc
            have hlt : a.off < o.cells.length := by have := Nat.le_of_ble_eq_true hc1; omega
            obtain ⟨x, w', os', h', hr, hm', hst, hl, hk⟩ := ih hs (by rw [← oset_app (List.getElem?_eq_some_iff.1 ho).1]; exact hm.put (apl ho ps) hw v hb hsp)
            have hcell : w.cell? a = some (o.cells[a.off]) := by rw [hm.cell (apl ho ps) hw hb hsp]; simp [hlt]
            refine ⟨x, w', os', h', ?_, hm', ?_, ?_, hk⟩
            · cases v <;> first | exact h1.elim | (simp only [Sem.run, hcell, hm.frz (apl ho ps) hw hb]; exact hr)
            · intro j hj hjl
              rw [hst j hj (by rw [oset_eq]; simpa using hjl), oset_eq, List.getElem?_modify]
              have hne : i ≠ j := fun e => by
                subst e
                rw [(mem0_iff (l := st) (n := i)).2 hj] at hc2
                cases hc2
              simp [hne]
            · rw [oset_eq] at hl; simpa using hl
          · exact hs.elim
        · exact hs.elim
      · exact hs.elim
    · split at hs
      · rename_i i kk ys hh _ o ho
        rw [lgo_eq] at ho
        split at hs
        · rename_i u hw
          split at hs
          · exact hs.elim
          · rename_i s hsz
            obtain ⟨hsp, hb, hoff, h1, hys, hlt, hs⟩ := sp0_ok hs
            split at hs
            · exact hs.elim
            · rename_i hms
              rw [kObset_eq, obset_eq] at hs
              obtain ⟨hput, hcell, hfz⟩ := hm.putL (apl ho ps) hw hsz v hb hoff hsp hlt
              rw [List.set_append, if_pos (List.getElem?_eq_some_iff.1 ho).1] at hput
              rw [hys] at hput
              obtain ⟨x, w', os', h', hr, hm', hst, hl, hk⟩ := ih hs hput
              refine ⟨x, w', os', h', ?_, hm', ?_, ?_, hk⟩
              · cases v <;> first | exact h1.elim | (simp only [Sem.run, hcell, hfz]; exact hr)
              · intro j hj hjl
                have hne : i ≠ j := fun e => by
                  subst e
                  rw [(mem0_iff (l := st) (n := i)).2 hj] at hms
                  cases hms
                rw [hst j hj (by simpa using hjl), List.getElem?_set]
                simp [hne]
              · simpa using hl
        · exact hs.elim
      · exact hs.elim
    · split at hs
      · rename_i i g' hh _ o ho
        rw [lgo_eq] at ho
        split at hs
        · rename_i g hg
          split at hs
          · rename_i hrw hms
            obtain ⟨hgs, h1, hs⟩ := hs
            rw [kObset_eq, obset_eq] at hs
            obtain ⟨⟨u, hcell⟩, hfz, _⟩ := hgs.2.2.2 w ((hm.row _ o (apl ho ps)).gh hg)
            have hput := hm.putG (apl ho ps) hg hrw hgs
            rw [List.set_append, if_pos (List.getElem?_eq_some_iff.1 ho).1] at hput
            obtain ⟨x, w', os', h', hr, hm', hst, hl, hk⟩ := ih hs hput
            refine ⟨x, w', os', h', ?_, hm', ?_, ?_, hk⟩
            · cases v <;> first | exact h1.elim | (simp only [Sem.run, hcell, hfz]; exact hr)
            · intro j hj hjl
              have hne : i ≠ j := fun e => by
                subst e
                rw [(mem0_iff (l := st) (n := i)).2 hj] at hms
                cases hms
              rw [hst j hj (by simpa using hjl), List.getElem?_set]
              simp [hne]
            · simpa using hl
          · exact hs.elim
        · exact hs.elim
      · exact hs.elim
    · exact hs.elim
  | new o k ih =>
    intro os h K w hs hm
    simp only [symSem] at hs
    split at hs
    · rename_i c e he
      obtain rfl := plainRow_eq he
      rw [kL_eq kV0_eq] at hs
      simp only [kApp_eq] at hs
      obtain ⟨x, w', os', h', hr, hm', hst, hl, hk⟩ := ih _ (hs w.heap.size) (by have := hm.new c e; rw [app1_eq] at this ⊢; exact this.fr)
      rw [app1_eq] at hst hl
      refine ⟨x, w', os', h', by simp only [Sem.run]; exact hr, hm', fun i hi hlt => ?_, by simp at hl; omega, hk⟩
      rw [hst i hi (by simp; omega), List.getElem?_append_left hlt]
    · exact hs.elim
  | shape r k ih =>
    intro os h K w hs hm
    simp only [symSem, ar_ob, askOb] at hs
    split at hs
    · split at hs
      · rename_i i hh _ o ho
        rw [lgo_eq] at ho
        split at hs
        · rename_i hw
          obtain ⟨hsp, hb, hs⟩ := sp0_ok hs
          obtain ⟨x, w', os', h', hr, h1⟩ := ih _ hs hm
          exact ⟨x, w', os', h', by simp only [Sem.run, hm.shp (apl ho ps) hw hb]; exact hr, h1⟩
        · exact hs.elim
      · exact hs.elim
    · exact hs.elim
  | freeze a n k ih => intro os h K w hs hm; simp [symSem] at hs
  | frozen a k ih =>
    intro os h K w hs hm
    simp only [symSem, ar_ob, askOb] at hs
    split at hs
    · split at hs
      · rename_i i hh _ o ho
        rw [lgo_eq] at ho
        split at hs
        · rename_i hw
          obtain ⟨hsp, hb, hs⟩ := sp0_ok hs
          obtain ⟨x, w', os', h', hr, h1⟩ := ih _ hs hm
          exact ⟨x, w', os', h', by simp only [Sem.run, hm.frz (apl ho ps) hw hb]; exact hr, h1⟩
        · exact hs.elim
      · exact hs.elim
    · exact hs.elim
  | getObj r k ih => intro os h K w hs hm; simp [symSem] at hs
  | setObj r o k ih => intro os h K w hs hm; simp [symSem] at hs
  | choose q k ih =>
    intro os h K w hs hm
    simp only [symSem] at hs
    split at hs
    · rename_i hq
      obtain ⟨x, w', os', h', hr, h1⟩ := ih _ hs hm
      exact ⟨x, w', os', h', by simp only [Sem.run, hq, if_true]; exact hr, h1⟩
    · rename_i hq
      obtain ⟨x, w', os', h', hr, h1⟩ := ih _ (hs (w.tape w.drawn q)) (hm.drawn (w.drawn + 1))
      exact ⟨x, w', os', h', by simp only [Sem.run, hq]; exact hr, h1⟩
  | sys c k ih => intro os h K w hs hm; simp [symSem] at hs
  | program k ih =>
    intro os h K w hs hm
    obtain ⟨x, w', os', h', hr, h1⟩ := ih _ hs hm
    exact ⟨x, w', os', h', by simp only [Sem.run]; exact hr, h1⟩
  | mark m k ih =>
    intro os h K w hs hm
    obtain ⟨x, w', os', h', hr, h1⟩ := ih hs hm
    exact ⟨x, w', os', h', by simp only [Sem.run]; exact hr, h1⟩
  | halt x => intro os h K w hs hm; simp [symSem] at hs
theorem MRep.left {w0 : Bs} {E : List Ex} {os ps : List Ob} {w : World} (h : MRep w0 E (os ++ ps) w) : MRep w0 E os w :=
  h.pre fun i hi => by rw [List.getElem?_append_left hi]
theorem callSpecF_ok {P : Program} {w0 : Bs} {E : List Ex} {f : FuncId} {args : Array Value} {os ps : List Ob} {h : Hint} {K : Value → List Ob → Hint → Prop} {w : World} (hc : callSpec asksReal P E f args os h K) (hm : MRep w0 E (os ++ ps) w) :
    Calls P f args w fun e w' => ∃ v new h', e = .returned v ∧ MRep w0 E ((os ++ new) ++ ps) w' ∧ K v (os ++ new) h' := by
  unfold callSpec at hc
  simp only [ar_call] at hc
  generalize hO h os = h at hc
  simp only [askSpec] at hc
  have z : os ++ [] = os := List.append_nil os
  have one : ∀ {el : TypeId} {size n : Nat} {xs : List Value} {a : Option Addr} {cap : Nat} {w' : World}, w'.ownsRow w.heap.size el size (.slice a n cap) n xs → Below w.heap.size w w' → MRep w0 E ((os ++ [⟨0, xs, el, some ⟨a, n, cap, size⟩⟩]) ++ ps) w' := by
    intro el size n xs a cap w' ho hb
    have := hm.spec_list ho hb
    rw [app1_eq] at this
    exact this.fr
  split at hc
  · rename_i v h'
    exact (hc.1 w).mono fun e w' ⟨he, hb⟩ => ⟨v, [], h', he, by rw [z]; exact hm.below_of hb, by rw [z]; exact hc.2⟩
  · rename_i v h'
    exact (hc.1 w hm.extOK).mono fun e w' ⟨he, hb⟩ => ⟨v, [], h', he, by rw [z]; exact hm.below_of hb, by rw [z]; exact hc.2⟩
  · rename_i el size n xs h'
    refine (hc.1 w).mono fun e w' ⟨a, cap, he, ho, hb⟩ => ?_
    have hk := hc.2 a cap
    rw [kApp_eq, app1_eq] at hk
    exact ⟨_, _, h', he, one ho hb, hk⟩
  · rename_i el size n xs h'
    refine (hc.1 w hm.extOK).mono fun e w' ⟨a, cap, he, ho, hb⟩ => ?_
    have hk := hc.2 a cap
    rw [kApp_eq, app1_eq] at hk
    exact ⟨_, _, h', he, one ho hb, hk⟩
  · rename_i el size n xs h'
    obtain ⟨hs, hk⟩ := hc
    cases n with
    | zero => exact hk.elim
    | succ k =>
      refine (hs w hm.extOK).mono fun e w' ⟨a, cap, he, ho, hb⟩ => ?_
      rcases ho.2 with ⟨_, e2⟩ | ⟨g, cap', cur, e1, e2, _⟩
      · omega
      · injection e1 with e3 e4 e5
        subst e3
        have hk := hk g cap
        rw [kApp_eq, app1_eq] at hk
        exact ⟨_, _, h', he, one ho hb, hk⟩
  · rename_i el size n xs h1 h2
    obtain ⟨hs, hk1, hk2⟩ := hc
    refine (hs w).mono fun e w' ⟨a, cap, he, ho, hb⟩ => ?_
    rcases ho.2 with ⟨e1, e2⟩ | ⟨g, cap', cur, e1, e2⟩
    · injection e1 with e3 e4 e5
      subst e3 e4 e5
      have hx : xs = [] := List.eq_nil_of_length_eq_zero (by have := ho.1; simpa using this)
      subst hx
      have hk := hk1 rfl
      rw [kApp_eq, app1_eq] at hk
      exact ⟨_, _, h1, he, one ho hb, hk⟩
    · injection e1 with e3 e4 e5
      subst e3
      have hk := hk2 g cap
      rw [kApp_eq, app1_eq] at hk
      exact ⟨_, _, h2, he, one ho hb, hk⟩
  · rename_i E0 srcs xss rows v h'
    obtain ⟨rds, ads0, ⟨hs, he, hk⟩, hrd⟩ := kRds_ok hm.left hc
    refine (hs w (fun e h => hm.extOK e (he e h)) hrd).mono fun e w' ⟨ads, hv, ho, hb⟩ => ?_
    have hk := kNew_ok hk ho.len fun i o hi u hu => (ho.ok i o hi).2.2 u hu
    rw [kAppL_eq] at hk
    exact ⟨_, _, h', hv, (hm.addL _ hb (fun i o hi => ⟨(ho.ok i o hi).1.base hm.below.size, (ho.ok i o hi).2.1⟩) ho.apart).fr, hk⟩
  · rename_i E0 srcs xss ns rows v h'
    obtain ⟨rds, ads0, ⟨hs, he, hk⟩, hrd⟩ := kRds_ok hm.left hc
    refine (hs w (fun e h => hm.extOK e (he e h)) hrd).mono fun e w' ⟨ads, hv, hl0, ha, ho, hb⟩ => ?_
    have hk := kAds_ok hk hl0 ha
    rw [kObs_eq, kAppL_eq] at hk
    exact ⟨_, _, h', hv, (hm.addL _ hb (fun i o hi => ⟨(ho.ok i o hi).1.base hm.below.size, (ho.ok i o hi).2.1⟩) ho.apart).fr, hk⟩
  · rename_i E0 rds ghs ins α inv outs v srcs gsrc js hb
    obtain ⟨hs, he, hr, hrd, hg, hc⟩ := hc
    split at hc
    · rename_i hb2
      simp only [Bool.and_eq_true] at hb2
      obtain ⟨⟨⟨c1, c2⟩, c3⟩, c4⟩ := hb2
      have hjs : js = [] := by
        cases js with
        | nil => rfl
        | cons j js =>
          exfalso
          cases ins with
          | nil => exact hr.elim
          | cons o ins =>
            have h1 := hr.1
            split at h1
            · rename_i p hp
              rw [lgo_eq] at hp
              exact noneIn_ok c2 j (List.mem_cons_self ..) (rng_iff.2 (List.getElem?_eq_some_iff.1 hp).1)
            · exact h1
      subst hjs
      cases ins with
      | cons o ins => exact hr.elim
      | nil =>
        refine (hs w0 w hm.below (fun e h => hm.ext e (he e h)) (fun a xs hx => ?_) (fun g hx => ?_) (fun o ho => by cases ho) (fun i j o p k hi => by simp at hi) (fun o ho => by cases ho)).mono ?_
        · rcases rdsAre_at hrd a xs hx with ⟨i, o, _, ho, hp⟩ | rfl
          · exact (rdP_ok hp (hm.left.row i o ho)).1
          · intro k v hv; simp at hv
        · obtain ⟨i, o, g', _, ho, hp, e, _⟩ := ghsAre_at hg g hx
          rw [← e]
          exact (hm.left.row i o ho).gh hp
        · rintro e w' ⟨x, hx, hv, hb, hc2, ho, ha⟩
          have hk := hc x hx
          rw [kGone_eq, kAppL_eq] at hk
          exact ⟨_, outs x, _, hv, (hm.swapped (js := []) (ins := []) (fun o ho => by cases ho) hb hc2 ho ha).fr, hk⟩
    · exact hc.elim
  · exact hc.1.elim
  · exact hc.elim
  · exact hc.elim

structure Pd where
  i : Nat
  o : Oper
  v : Value
  rs : List Ob
def putP : List Pd → Act → Act
  | [], a => a
  | p :: l, a => putP l (a.put p.o.dst p.v)
def rowsP : List Pd → List Ob
  | [] => []
  | p :: l => p.rs ++ rowsP l
def setP : List Pd → Array Bool → Array Bool
  | [], l => l
  | p :: r, l => setP r (l.setIfInBounds p.i true)
def PdOK (P : Program) (ops : Array Oper) (a : Act) (p : Pd) : Prop :=
  (Region.wanted p.o (yielded ops a.tmps) = false ∧ p.v = undef ∧ p.rs = []) ∨
  (Region.wanted p.o (yielded ops a.tmps) = true ∧ ∃ c e k b, allocSem P (execOp a.eval p.o) = some (c, e, k) ∧ valSem P (k b) = some p.v ∧ p.rs = [⟨b, c.toList, e, none⟩])
theorem putP_append (l r : List Pd) (a : Act) : putP (l ++ r) a = putP r (putP l a) := by
  induction l generalizing a with
  | nil => rfl
  | cons p l ih => simp [putP, ih]
theorem rowsP_append (l r : List Pd) : rowsP (l ++ r) = rowsP l ++ rowsP r := by
  induction l with
  | nil => rfl
  | cons p l ih => simp [rowsP, ih]
theorem setP_append (l r : List Pd) (x : Array Bool) : setP (l ++ r) x = setP r (setP l x) := by
  induction l generalizing x with
  | nil => rfl
  | cons p l ih => simp [setP, ih]
theorem putP_comm {pd : List Pd} {d : Option Tmp} (v : Value) (h : ∀ p ∈ pd, ∀ t, p.o.dst = some t → d ≠ some t) (a : Act) : putP pd (a.put d v) = (putP pd a).put d v := by
  induction pd generalizing a with
  | nil => rfl
  | cons p l ih =>
    simp only [putP]
    rw [← ih (fun q hq => h q (List.mem_cons_of_mem _ hq))]
    congr 1
    refine Act.put_comm a v p.v fun t ht e => ?_
    exact h p (List.mem_cons_self ..) t e ht
theorem putP_exec {ops : Array Oper} {pd : List Pd} {o : Oper} (hs : ∀ cs b, o.op ≠ .select cs b) (h : ∀ p ∈ pd, ∀ t, p.o.dst = some t → t ∉ o.looksAt ops) (a : Act) :
    execOp (putP pd a).eval o = execOp a.eval o ∧ Region.wanted o (yielded ops (putP pd a).tmps) = Region.wanted o (yielded ops a.tmps) := by
  induction pd generalizing a with
  | nil => exact ⟨rfl, rfl⟩
  | cons p l ih =>
    simp only [putP]
    obtain ⟨h1, h2⟩ := ih (fun q hq => h q (List.mem_cons_of_mem _ hq)) (a.put p.o.dst p.v)
    exact ⟨h1.trans (execOp_put o hs a p.o.dst p.v (h p (List.mem_cons_self ..))), h2.trans (wanted_put o a p.o.dst p.v (h p (List.mem_cons_self ..)))⟩
theorem set_set (l : Array Bool) (i j : Nat) : (l.setIfInBounds i true).setIfInBounds j true = (l.setIfInBounds j true).setIfInBounds i true := by
  by_cases e : i = j
  · subst e; rfl
  · exact Array.setIfInBounds_comm _ _ e
theorem setP_set (pd : List Pd) (l : Array Bool) (i : Nat) : setP pd (l.setIfInBounds i true) = (setP pd l).setIfInBounds i true := by
  induction pd generalizing l with
  | nil => rfl
  | cons p r ih => simp only [setP]; rw [← ih, set_set]
theorem setP_un {pd : List Pd} {l : Array Bool} {j : Nat} : (setP pd l).getD j true = false → l.getD j true = false ∧ ∀ p ∈ pd, p.i ≠ j := by
  induction pd generalizing l with
  | nil => exact fun h => ⟨h, fun p hp => by cases hp⟩
  | cons p r ih =>
    intro h
    obtain ⟨h1, h2⟩ := ih h
    obtain ⟨h3, h4⟩ := set_un h1
    refine ⟨h3, fun q hq => ?_⟩
    cases hq with
    | head => exact h4
    | tail _ hq => exact h2 q hq
theorem setP_un' {pd : List Pd} {l : Array Bool} {j : Nat} (h : l.getD j true = false) (hp : ∀ p ∈ pd, p.i ≠ j) : (setP pd l).getD j true = false := by
  induction pd generalizing l with
  | nil => exact h
  | cons p r ih => exact ih (by rw [getD_set_ne true (hp p (List.mem_cons_self ..))]; exact h) fun q hq => hp q (List.mem_cons_of_mem _ hq)
theorem setP_mono {pd : List Pd} {l : Array Bool} {j : Nat} (h : l.getD j false = true) : (setP pd l).getD j false = true := by
  induction pd generalizing l with
  | nil => exact h
  | cons p r ih => exact ih (getD_set_true h)
theorem setP_on {pd : List Pd} {l : Array Bool} {j : Nat} (h : (setP pd l).getD j false = true) : l.getD j false = true ∨ ∃ p ∈ pd, p.i = j := by
  induction pd generalizing l with
  | nil => exact Or.inl h
  | cons p r ih =>
    rcases ih h with h1 | ⟨q, hq, e⟩
    · by_cases e : p.i = j
      · exact Or.inr ⟨p, List.mem_cons_self .., e⟩
      · rw [getD_set_ne false e] at h1; exact Or.inl h1
    · exact Or.inr ⟨q, List.mem_cons_of_mem _ hq, e⟩
theorem setAll_un {F : List Nat} {l : Array Bool} {j : Nat} (h : l.getD j true = false) (hj : j ∉ F) : (setAll F l).getD j true = false := by
  induction F generalizing l with
  | nil => exact h
  | cons f r ih =>
    simp only [List.mem_cons, not_or] at hj
    exact ih (by rw [getD_set_ne true (fun e => hj.1 e.symm)]; exact h) hj.2
theorem setAll_mono {F : List Nat} {l : Array Bool} {j : Nat} (h : l.getD j false = true) : (setAll F l).getD j false = true := by
  induction F generalizing l with
  | nil => exact h
  | cons f r ih => exact ih (getD_set_true h)
theorem setAll_on {F : List Nat} {l : Array Bool} {j : Nat} (hj : j ∈ F) (hl : j < l.size) : (setAll F l).getD j false = true := by
  induction F generalizing l with
  | nil => cases hj
  | cons f r ih =>
    by_cases e : j = f
    · subst e; show (setAll r (l.setIfInBounds _ true)).getD _ false = true; exact setAll_mono (set_self hl false)
    · cases hj with
      | head => exact absurd rfl e
      | tail _ hj => exact ih hj (by simpa using hl)
theorem ready_all {ops : Array Oper} {F : List Nat} {pd : List Pd} {l : Array Bool} {j : Nat} (hj : j ∈ Region.ready .any ops (setP pd l)) (hF : ∀ p ∈ pd, p.i ∈ F ∧ p.i < l.size) (hjF : j ∉ F) : j ∈ Region.ready .any ops (setAll F l) := by
  obtain ⟨h1, o, ho, hall⟩ := mem_ready.1 hj
  refine mem_ready.2 ⟨setAll_un (setP_un h1).1 hjF, o, ho, fun e he hb => ?_⟩
  rcases setP_on (hall e he hb) with h2 | ⟨p, hp, e2⟩
  · exact setAll_mono h2
  · rw [← e2]; exact setAll_on (hF p hp).1 (hF p hp).2
theorem allB_mem {p : Nat → Bool} {l : List Nat} (h : allB p l = true) : ∀ x ∈ l, p x = true := by
  induction l with
  | nil => intro x hx; cases hx
  | cons y l ih =>
    simp only [allB, Bool.and_eq_true] at h
    intro x hx
    cases hx with
    | head => exact h.1
    | tail _ hx => exact ih h.2 x hx
theorem allOr_mem {F G l : List Nat} (h : allOr F G l = true) : ∀ j ∈ l, j ∈ F ∨ j ∈ G := by
  induction l with
  | nil => intro j hj; cases hj
  | cons x l ih =>
    simp only [allOr, Bool.and_eq_true, Bool.or_eq_true] at h
    intro j hj
    cases hj with
    | head => exact h.1.imp mem0_iff.1 mem0_iff.1
    | tail _ hj => exact ih h.2 j hj
theorem floatsOK_mem {P : Program} {opl : List Oper} {rd : List Nat} {s : SS} {F : List Nat} (h : floatsOK P opl rd s F) : ∀ f ∈ F, f ∈ rd → floatQ P opl s f := by
  induction F with
  | nil => intro f hf; cases hf
  | cons x l ih =>
    simp only [floatsOK] at h
    intro f hf hr
    cases hf with
    | head => have := h.1; rw [mem0_iff.2 hr] at this; exact this
    | tail _ hf => exact ih h.2 f hf hr
structure FreeF (ops : Array Oper) (F : List Nat) : Prop where
  sel : Region.noSelect ops = true
  apart : ∀ f ∈ F, ∀ (o : Oper), ops[f]? = some o → ∀ (j : Nat) (oj : Oper), ops[j]? = some oj → j ≠ f → (∀ e ∈ oj.after, Region.binds .any e = true → e.on ≠ f) → (∀ e ∈ o.after, Region.binds .any e = true → e.on ≠ j) → o.apart ops oj = true
  own : ∀ f ∈ F, ∀ (o : Oper), ops[f]? = some o → ∀ e ∈ o.after, Region.binds .any e = true → e.on ∉ F
theorem freeF_ok {ops : Array Oper} {F : List Nat} (h : freeF ops ops.toList F = true) : FreeF ops F := by
  unfold freeF at h
  simp only [Bool.and_eq_true] at h
  refine ⟨h.1, fun f hf o ho j oj hoj hne hno hno2 => ?_, fun f hf o ho e he hb => ?_⟩
  · have h2 := allB_mem h.2 f hf
    simp only [Bool.and_eq_true] at h2
    have h3 := h2.1
    unfold freeB at h3
    simp only [ho, List.all_eq_true, List.mem_range] at h3
    have h1 := h3 j (Array.getElem?_eq_some_iff.1 hoj).1
    simp only [hoj, Bool.or_eq_true, beq_iff_eq, hne, false_or] at h1
    rcases h1 with (h1 | h1) | h1
    · obtain ⟨e, he, hb⟩ := Array.any_eq_true'.1 h1
      simp only [Bool.and_eq_true, beq_iff_eq] at hb
      exact absurd hb.2 (hno e he hb.1)
    · obtain ⟨e, he, hb⟩ := Array.any_eq_true'.1 h1
      simp only [Bool.and_eq_true, beq_iff_eq] at hb
      exact absurd hb.2 (hno2 e he hb.1)
    · exact h1
  · have h2 := allB_mem h.2 f hf
    simp only [Bool.and_eq_true] at h2
    have h3 := h2.2
    have : lgo ops.toList f = some o := by rw [lgo_eq]; simpa using ho
    rw [this] at h3
    simp only [List.all_eq_true] at h3
    have h4 := h3 e (by simpa using he)
    simp only [hb, Bool.not_true, Bool.false_or, Bool.not_eq_true'] at h4
    intro hm
    rw [mem0_iff.2 hm] at h4
    cases h4

structure Sim (P : Program) (w0 : Bs) (E : List Ex) (ops : Array Oper) (F st : List Nat) (s0 : SS) (listedS : Array Bool) (s : SS) (pd : List Pd) (listed : Array Bool) (aS a : Act) (w : World) : Prop where
  tmps : aS.tmps = s.tmps.toArray
  defers : aS.defers = []
  act : a = putP pd aS
  lst : listed = setP pd listedS
  size : listedS.size = ops.size
  mem : MRep w0 E (s.objs ++ rowsP pd) w
  pds : ∀ p ∈ pd, p.i ∈ F ∧ ops[p.i]? = some p.o ∧ p.i ∈ Region.ready .any ops listedS ∧ PdOK P ops aS p
  nd : (pd.map (·.i)).Nodup
  off : Off (dsts ops.toList) s0.tmps s.tmps
  stay : Stay st s0.objs s.objs
section
variable {P : Program} {w0 : Bs} {E : List Ex} {ops : Array Oper} {F st : List Nat} {s0 s : SS} {listedS listed : Array Bool} {pd : List Pd} {aS a : Act} {w : World}
theorem Sim.apart (h : Sim P w0 E ops F st s0 listedS s pd listed aS a w) (hF : FreeF ops F) {p : Pd} (hp : p ∈ pd) {j : Nat} {oj : Oper} (hj : j ∈ Region.ready .any ops listedS) (hoj : ops[j]? = some oj) (hne : j ≠ p.i) :
    (∀ d, p.o.dst = some d → d ∉ oj.looksAt ops) ∧ (∀ d, p.o.dst = some d → oj.dst ≠ some d) ∧ (∀ d, oj.dst = some d → d ∉ p.o.looksAt ops) := by
  obtain ⟨h1, h2, h3, _⟩ := h.pds p hp
  have both : ∀ {x y : Nat} {o : Oper}, x ∈ Region.ready .any ops listedS → y ∈ Region.ready .any ops listedS → ops[x]? = some o → ∀ e ∈ o.after, Region.binds .any e = true → e.on ≠ y := by
    intro x y o hx hy ho e he hb heq
    obtain ⟨_, o', ho', hall⟩ := mem_ready.1 hx
    rw [ho] at ho'
    injection ho' with ho'
    subst ho'
    have h4 := hall e he hb
    have h5 := (mem_ready.1 hy).1
    rw [heq] at h4
    have := un_lt h5
    simp [this] at h4 h5
    rw [h4] at h5
    cases h5
  exact Oper.apart_spec (hF.apart _ h1 _ h2 j oj hoj hne (both hj h3 hoj) (both h3 hj h2))
theorem Sim.eval (h : Sim P w0 E ops F st s0 listedS s pd listed aS a w) : aS.eval = lev s.tmps := by
  funext x
  cases x <;> simp [Act.eval, lev, lget_eq, h.tmps]
theorem Sim.exec (h : Sim P w0 E ops F st s0 listedS s pd listed aS a w) (hF : FreeF ops F) {j : Nat} {oj : Oper} (hj : j ∈ Region.ready .any ops listedS) (hoj : ops[j]? = some oj) (hne : ∀ p ∈ pd, p.i ≠ j) :
    execOp a.eval oj = execOp (lev s.tmps) oj ∧ Region.wanted oj (yielded ops a.tmps) = Region.wanted oj (yielded ops aS.tmps) := by
  rw [h.act, ← h.eval]
  exact putP_exec (fun cs b => Region.noSelect_spec hF.sel j oj cs b hoj) (fun p hp => (h.apart hF hp hj hoj fun e => hne p hp e.symm).1) aS
theorem Sim.qs (h : Sim P w0 E ops F st s0 listedS s pd listed aS a w) (hst : ∀ i ∈ st, i < s0.objs.length) : QS w0 st s0.objs w :=
  ⟨h.mem.below, fun i hi o ho => h.mem.row i o (by rw [List.getElem?_append_left (Nat.lt_of_lt_of_le (hst i hi) h.stay.2), h.stay.1 i hi (hst i hi)]; exact ho)⟩
theorem PdOK.put {p : Pd} {a : Act} (h : PdOK P ops a p) (hs : ∀ cs b, p.o.op ≠ .select cs b) {d : Option Tmp} {v : Value} (hd : ∀ t, d = some t → t ∉ p.o.looksAt ops) : PdOK P ops (a.put d v) p := by
  unfold PdOK at h ⊢
  rw [wanted_put p.o a d v hd, execOp_put p.o hs a d v hd]
  exact h
theorem Sim.rdy (h : Sim P w0 E ops F st s0 listedS s pd listed aS a w) {j : Nat} (hj : j ∈ Region.ready .any ops listedS) (hne : ∀ p ∈ pd, p.i ≠ j) : j ∈ Region.ready .any ops listed := by
  rw [h.lst]
  obtain ⟨h1, o, ho, hall⟩ := mem_ready.1 hj
  exact mem_ready.2 ⟨setP_un' h1 hne, o, ho, fun e he hb => setP_mono (hall e he hb)⟩
theorem Sim.step (h : Sim P w0 E ops F st s0 listedS s pd listed aS a w) (hF : FreeF ops F) {j : Nat} {oj : Oper} (hj : j ∈ Region.ready .any ops listedS) (hoj : ops[j]? = some oj) (hne : ∀ p ∈ pd, p.i ≠ j) {v : Value} {os : List Ob} {w' : World}
    (hm : MRep w0 E (os ++ rowsP pd) w') (hst : Stay st s.objs os) : Sim P w0 E ops F st s0 (listedS.setIfInBounds j true) ⟨lput s.tmps oj.dst v, os⟩ pd (listed.setIfInBounds j true) (aS.put oj.dst v) (a.put oj.dst v) w' := by
  have hap := fun p hp => h.apart hF (p := p) hp hj hoj fun e => hne p hp e.symm
  refine ⟨?_, ?_, ?_, ?_, ?_, hm, ?_, h.nd, ?_, h.stay.trans hst⟩
  · cases hd : oj.dst <;> simp [Act.put, lput, lset_eq, h.tmps]
  · cases hd : oj.dst <;> simp [Act.put, h.defers]
  · rw [h.act, putP_comm v fun p hp t ht => (hap p hp).2.1 t ht]
  · rw [h.lst, setP_set]
  · simp [h.size]
  · intro p hp
    obtain ⟨h1, h2, h3, h4⟩ := h.pds p hp
    exact ⟨h1, h2, ready_mono h3 (hne p hp), h4.put (fun cs b => Region.noSelect_spec hF.sel p.i p.o cs b h2) (hap p hp).2.2⟩
  · exact h.off.trans (Off.put fun t ht => dsts_mem (List.mem_of_getElem? (by simpa using hoj)) ht)
theorem Sim.early (h : Sim P w0 E ops F st s0 listedS s pd listed aS a w) {f : Nat} {o : Oper} (hf : f ∈ F) (hj : f ∈ Region.ready .any ops listedS) (ho : ops[f]? = some o) (hne : ∀ p ∈ pd, p.i ≠ f) {v : Value} {rs : List Ob} {w' : World}
    (hm : MRep w0 E (s.objs ++ rowsP pd ++ rs) w') (hp : PdOK P ops aS ⟨f, o, v, rs⟩) : Sim P w0 E ops F st s0 listedS s (pd ++ [⟨f, o, v, rs⟩]) (listed.setIfInBounds f true) aS (a.put o.dst v) w' := by
  refine ⟨h.tmps, h.defers, ?_, ?_, h.size, ?_, ?_, ?_, h.off, h.stay⟩
  · rw [putP_append, h.act]; rfl
  · rw [setP_append, h.lst]; rfl
  · rw [rowsP_append, ← List.append_assoc]; simpa [rowsP] using hm
  · intro q hq
    rw [List.mem_append] at hq
    rcases hq with hq | hq
    · exact h.pds q hq
    · simp at hq; subst hq; exact ⟨hf, ho, hj, hp⟩
  · rw [List.map_append, List.nodup_append]
    refine ⟨h.nd, by simp, fun x hx y hy => ?_⟩
    simp at hy
    subst hy
    obtain ⟨p, hp, rfl⟩ := List.mem_map.1 hx
    exact hne p hp
theorem Sim.absorb {l1 l2 : List Pd} {p : Pd} (h : Sim P w0 E ops F st s0 listedS s (l1 ++ p :: l2) listed aS a w) (hF : FreeF ops F) :
    Sim P w0 E ops F st s0 (listedS.setIfInBounds p.i true) ⟨lput s.tmps p.o.dst p.v, s.objs ++ p.rs⟩ (l1 ++ l2) listed (aS.put p.o.dst p.v) a w := by
  have hp : p ∈ l1 ++ p :: l2 := by simp
  obtain ⟨h1, h2, h3, h4⟩ := h.pds p hp
  have hnd := h.nd
  rw [List.map_append, List.map_cons, List.nodup_append, List.nodup_cons] at hnd
  obtain ⟨n1, ⟨n2, n3⟩, n4⟩ := hnd
  have hne : ∀ q ∈ l1 ++ l2, q.i ≠ p.i := by
    intro q hq
    rw [List.mem_append] at hq
    rcases hq with hq | hq
    · exact n4 _ (List.mem_map.2 ⟨q, hq, rfl⟩) _ (List.mem_cons_self ..)
    · intro e; exact n2 (by rw [← e]; exact List.mem_map.2 ⟨q, hq, rfl⟩)
  have hsub : ∀ q ∈ l1 ++ l2, q ∈ l1 ++ p :: l2 := by
    intro q hq
    rw [List.mem_append] at hq ⊢
    exact hq.imp id (List.mem_cons_of_mem _)
  have hap := fun q hq => h.apart hF (p := q) (hsub q hq) h3 h2 fun e => hne q hq e.symm
  refine ⟨?_, ?_, ?_, ?_, ?_, ?_, ?_, ?_, ?_, h.stay.trans ⟨fun i _ hl => List.getElem?_append_left hl, by simp⟩⟩
  · cases hd : p.o.dst <;> simp [Act.put, lput, lset_eq, h.tmps]
  · cases hd : p.o.dst <;> simp [Act.put, h.defers]
  · rw [h.act, putP_append, putP_append]
    simp only [putP]
    rw [putP_comm p.v fun q hq t ht => (hap q (List.mem_append_left _ hq)).2.1 t ht]
  · rw [h.lst, setP_append, setP_append]
    simp only [setP, setP_set]
  · simp [h.size]
  · have hm := h.mem
    rw [rowsP_append] at hm ⊢
    simp only [rowsP] at hm
    rw [List.append_assoc]
    refine MRep.perm ?_ s.objs hm
    rw [← List.append_assoc, ← List.append_assoc]
    exact List.Perm.append_right _ List.perm_append_comm
  · intro q hq
    obtain ⟨q1, q2, q3, q4⟩ := h.pds q (hsub q hq)
    exact ⟨q1, q2, ready_mono q3 (hne q hq), q4.put (fun cs b => Region.noSelect_spec hF.sel q.i q.o cs b q2) (hap q hq).2.2⟩
  · rw [List.map_append, List.nodup_append]
    exact ⟨n1, n3, fun x hx y hy => n4 x hx y (List.mem_cons_of_mem _ hy)⟩
  · exact h.off.trans (Off.put fun t ht => dsts_mem (List.mem_of_getElem? (by simpa using h2)) ht)
end

theorem regF_ok {P : Program} {w0 : Bs} {E : List Ex} {st F : List Nat} {ops : Array Oper} {s0 : SS} {Q : Exit → SS → Hint → Prop} (he : ExtOK E w0) (hst : ∀ i ∈ st, i < s0.objs.length) (hF : FreeF ops F) :
    ∀ (n : Nat) (listedS : Array Bool) (s : SS) (h : Hint), regF asksReal P E st F ops.toList ops n listedS s h (fun s' h' => Q .normal s' h') →
      ∀ (m : Nat) (pd : List Pd) (listed : Array Bool) (aS a : Act) (w : World), cntF ops listed ≤ m → Sim P w0 E ops F st s0 listedS s pd listed aS a w →
        WpI P ops (Sat w0 E (QQ (dsts ops.toList) st s0 Q)) (QS w0 st s0.objs) listed a w := by
  intro n
  -- nothing is left
  have done : ∀ (listedS : Array Bool) (s : SS) (h : Hint), Region.ready .any ops listedS = [] → Q .normal s h → ∀ (pd : List Pd) (listed : Array Bool) (aS a : Act) (w : World), Sim P w0 E ops F st s0 listedS s pd listed aS a w →
      WpI P ops (Sat w0 E (QQ (dsts ops.toList) st s0 Q)) (QS w0 st s0.objs) listed a w := by
    intro listedS s h hr hq pd listed aS a w hs
    have hpd : pd = [] := by
      cases pd with
      | nil => rfl
      | cons p l =>
        have := (hs.pds p (List.mem_cons_self ..)).2.2.1
        rw [hr] at this
        cases this
    subst hpd
    have e1 : listed = listedS := hs.lst
    have e2 : a = aS := hs.act
    subst e1
    subst e2
    refine WpI.mk (fun _ => ⟨s, h, ⟨hs.tmps, hs.defers, by simpa [rowsP] using hs.mem⟩, hq, hs.off, hs.stay⟩) fun i hi => ?_
    rw [hr] at hi
    cases hi
  induction n with
  | zero =>
    intro listedS s h hs m pd listed aS a w _ hsim
    simp only [regF, rdyL_eq] at hs
    split at hs
    · rename_i e
      exact done _ _ _ (isNil_eq e) hs _ _ _ _ _ hsim
    · exact hs.elim
  | succ n ih =>
    intro listedS s h hs m
    induction m using Nat.strongRecOn with
    | _ m ihm =>
    intro pd listed aS a w hcnt hsim
    have hq0 := hsim.qs hst
    -- a row comes ahead of its turn
    have early : floatsOK P ops.toList (Region.ready .any ops listedS) s F → ∀ f ∈ Region.ready .any ops listed, f ∈ F →
        wpOp P ops (Sat w0 E (QQ (dsts ops.toList) st s0 Q)) f (fun a' w' => QS w0 st s0.objs w' ∧ WpI P ops (Sat w0 E (QQ (dsts ops.toList) st s0 Q)) (QS w0 st s0.objs) (listed.setIfInBounds f true) a' w') a w := by
      intro hfl f hf hfF
      obtain ⟨hun, o, ho, hall⟩ := mem_ready.1 hf
      rw [hsim.lst] at hun
      obtain ⟨hunS, hne⟩ := setP_un hun
      have hfS : f ∈ Region.ready .any ops listedS := by
        refine mem_ready.2 ⟨hunS, o, ho, fun e hee hb => ?_⟩
        have := hall e hee hb
        rw [hsim.lst] at this
        rcases setP_on this with h1 | ⟨p, hp, e1⟩
        · exact h1
        · exact absurd (by rw [← e1]; exact (hsim.pds p hp).1) (hF.own f hfF o ho e hee hb)
      have hlt := cnt_set hf
      obtain ⟨hex, hwt⟩ := hsim.exec hF hfS ho hne
      have hfq := floatsOK_mem hfl f hfF hfS
      unfold floatQ at hfq
      have ho' : lgo ops.toList f = some o := by rw [lgo_eq]; simpa using ho
      rw [ho'] at hfq
      simp only at hfq
      unfold wpOp
      rw [ho]
      simp only
      split at hfq
      · rename_i hw
        have hw := wantB_ok hw hsim.tmps
        rw [hwt, hw, if_pos rfl]
        split at hfq
        · rename_i c e k hal
          have hv := hfq w.heap.size
          split at hv
          · rename_i v hval
            refine Or.inl ?_
            unfold Oper.wp
            rw [hex, allocSem_run w _ hal hval]
            have hm := hsim.mem.new c e
            rw [app1_eq] at hm
            have hs2 := hsim.early hfF hfS ho hne (v := v) hm (Or.inr ⟨hw, c, e, k, w.heap.size, by rw [hsim.eval]; exact hal, hval, rfl⟩)
            exact ⟨hs2.qs hst, ihm _ (by omega) _ _ _ _ _ (Nat.le_refl _) hs2⟩
          · exact hv.elim
        · exact hfq.elim
      · rename_i hw
        have hw := wantB_ok hw hsim.tmps
        rw [hwt, hw, if_neg (by simp)]
        have hs2 := hsim.early hfF hfS ho hne (v := undef) (rs := []) (w' := w) (by rw [List.append_nil]; exact hsim.mem) (Or.inl ⟨hw, rfl, rfl⟩)
        exact ⟨hs2.qs hst, ihm _ (by omega) _ _ _ _ _ (Nat.le_refl _) hs2⟩
      · exact hfq.elim
    have hpF : ∀ p ∈ pd, p.i ∈ F ∧ p.i < listedS.size := fun p hp => ⟨(hsim.pds p hp).1, un_lt (mem_ready.1 (hsim.pds p hp).2.2.1).1⟩
    unfold regF at hs
    simp only [ar_reg, askReg, rdyL_eq, kLst_eq] at hs
    split at hs
    · split at hs
      · rename_i e
        exact done _ _ _ (isNil_eq e) hs _ _ _ _ _ hsim
      · exact hs.elim
    · split at hs
      · exact hs.elim
      rename_i i h' _ o ho
      rw [lgo_eq] at ho
      have ho' : ops[i]? = some o := by simpa using ho
      split at hs
      · exact hs.elim
      rename_i hrd
      have hrd := mem0_iff.1 hrd
      split at hs
      · -- a row has its turn
        rename_i hiF
        have hiF := mem0_iff.1 hiF
        split at hs
        · exact hs.elim
        rename_i hgate
        obtain ⟨hfl, hs⟩ := hs
        by_cases hin : ∃ p ∈ pd, p.i = i
        · obtain ⟨p, hp, rfl⟩ := hin
          obtain ⟨l1, l2, rfl⟩ := List.append_of_mem hp
          obtain ⟨p1, p2, p3, p4⟩ := hsim.pds p hp
          rw [ho'] at p2
          injection p2 with p2
          subst p2
          have hs2 := hsim.absorb hF
          split at hs
          · rename_i hw
            have hw := wantB_ok hw hsim.tmps
            split at hs
            · rename_i c e k hal
              rw [kL_eq kV0_eq] at hs
              rcases p4 with ⟨q1, _⟩ | ⟨q1, c', e', k', b, q2, q3, q4⟩
              · rw [hw] at q1; cases q1
              · rw [hsim.eval, hal] at q2
                simp only [Option.some.injEq, Prod.mk.injEq] at q2
                obtain ⟨rfl, rfl, rfl⟩ := q2
                have hs := hs b
                rw [q3] at hs
                simp only [kPut_eq, kApp_eq, app1_eq] at hs
                rw [q4] at hs2
                exact ih _ _ _ hs _ _ _ _ _ _ hcnt hs2
            · exact hs.elim
          · rename_i hw
            have hw := wantB_ok hw hsim.tmps
            rw [kPut_eq] at hs
            rcases p4 with ⟨_, q2, q3⟩ | ⟨q1, _⟩
            · rw [q2, q3, List.append_nil] at hs2
              exact ih _ _ _ hs _ _ _ _ _ _ hcnt hs2
            · rw [hw] at q1; cases q1
          · exact hs.elim
        · have hne : ∀ p ∈ pd, p.i ≠ i := fun p hp e => hin ⟨p, hp, e⟩
          have hrl := hsim.rdy hrd hne
          refine WpI.mk (fun e => by rw [e] at hrl; cases hrl) fun j hj => ?_
          by_cases hji : j = i
          · subst hji
            obtain ⟨hex, hwt⟩ := hsim.exec hF hrd ho' hne
            unfold wpOp
            rw [ho']
            simp only
            split at hs
            · rename_i hw
              have hw := wantB_ok hw hsim.tmps
              rw [hwt, hw, if_pos rfl]
              split at hs
              · rename_i c e k hal
                rw [kL_eq kV0_eq] at hs
                have hs := hs w.heap.size
                split at hs
                · rename_i v hval
                  simp only [kPut_eq, kApp_eq, app1_eq] at hs
                  refine Or.inl ?_
                  unfold Oper.wp
                  rw [hex, allocSem_run w _ hal hval]
                  have hm := hsim.mem.new c e
                  rw [app1_eq] at hm
                  have hs2 := hsim.step hF hrd ho' hne (v := v) hm.fr ⟨fun i _ hl => List.getElem?_append_left hl, by simp⟩
                  exact ⟨hs2.qs hst, ih _ _ _ hs _ _ _ _ _ _ (Nat.le_refl _) hs2⟩
                · exact hs.elim
              · exact hs.elim
            · rename_i hw
              have hw := wantB_ok hw hsim.tmps
              rw [hwt, hw, if_neg (by simp)]
              rw [kPut_eq] at hs
              have hs2 := hsim.step hF hrd ho' hne (v := undef) hsim.mem (Stay.refl _ _)
              exact ⟨hs2.qs hst, ih _ _ _ hs _ _ _ _ _ _ (Nat.le_refl _) hs2⟩
            · exact hs.elim
          · by_cases hjF : j ∈ F
            · exact early hfl j hj hjF
            · exfalso
              rw [hsim.lst] at hj
              have := ready_all (F := lminus (nowF F (Region.ready .any ops listedS)) [i]) hj (fun p hp => ⟨mem_minus.2 ⟨mem_now (hpF p hp).1 (hsim.pds p hp).2.2.1, by simp; exact hne p hp⟩, (hpF p hp).2⟩) (fun hm => hjF (now_mem (mem_minus.1 hm).1))
              rcases allOr_mem hgate j this with h1 | h1
              · exact hjF h1
              · cases h1
      · -- an operation that only reads
        rename_i hiF
        have hiF : i ∉ F := fun hm => by rw [mem0_iff.2 hm] at hiF; cases hiF
        have hne : ∀ p ∈ pd, p.i ≠ i := fun p hp e => hiF (by rw [← e]; exact (hpF p hp).1)
        split at hs
        · exact hs.elim
        rename_i hfree
        obtain ⟨h2, hs⟩ := guardS_ok hs hsim.tmps
        obtain ⟨hex, hwt⟩ := hsim.exec hF hrd ho' hne
        have hrl := hsim.rdy hrd hne
        have fin : ∀ {v : Value} {h3 : Hint}, YieldsIf P ops (QS w0 st s0.objs) o v a → regF asksReal P E st F ops.toList ops n (listedS.setIfInBounds i true) ⟨lput s.tmps o.dst v, s.objs⟩ h3 (fun s' h' => Q .normal s' h') →
            WpI P ops (Sat w0 E (QQ (dsts ops.toList) st s0 Q)) (QS w0 st s0.objs) listed a w := by
          intro v h3 hy hk
          have hs2 := hsim.step hF hrd ho' hne (v := v) hsim.mem (Stay.refl _ _)
          have hW := ih _ _ _ hk _ _ _ _ _ _ (Nat.le_refl _) hs2
          intro n2 hn2
          have hlt := cnt_set hrl
          obtain ⟨m2, rfl⟩ : ∃ m2, n2 = m2 + 1 := ⟨n2 - 1, by omega⟩
          refine wpAnyH_first ho' (Region.noSelect_spec hF.sel) (fun _ _ _ h => h) m2 listed a w (fun j oj hoj hji hun hno => Region.free_spec ho' hfree j oj hoj hji (by rw [hsim.lst] at hun; exact (setP_un hun).1) hno) hrl hy hq0 (hW m2 (by omega))
        split at hs
        · rename_i hw
          have hob : ∀ i ∈ st, s.objs[i]? = s0.objs[i]? := fun i hi => hsim.stay.1 i hi (hst i hi)
          unfold symQ1 at hs
          split at hs
          · rename_i c t x y e
            obtain ⟨h3, hs⟩ := askBool_ok hs
            obtain ⟨e1, e2⟩ := pickOf_eq e
            rw [kLit_eq e2, kPut_eq] at hs
            exact fin (Or.inl ⟨by rw [hwt]; exact hw, fun w _ => by rw [hex, e1]; rfl⟩) hs
          · have key2 : ∀ h, symQ asksReal P E st (execOp (lev s.tmps) o) s.objs h (fun v h3 => kPut s.tmps o.dst v fun l => regF asksReal P E st F ops.toList ops n (listedS.setIfInBounds i true) ⟨l, s.objs⟩ h3 fun s' h' => Q .normal s' h') →
                WpI P ops (Sat w0 E (QQ (dsts ops.toList) st s0 Q)) (QS w0 st s0.objs) listed a w := by
              intro h hs
              obtain ⟨v, h3, hk, hrun⟩ := symQ_run he _ hob hq0 hs
              rw [kPut_eq] at hk
              exact fin (Or.inl ⟨by rw [hwt]; exact hw, fun w hq => by rw [hex]; exact hrun w hq⟩) hk
            split at hs
            · rename_i b e
              rw [kPut_eq] at hs
              exact fin (Or.inl ⟨by rw [hwt]; exact hw, fun w _ => by rw [hex]; exact eqOf_ok e w⟩) hs
            · split at hs
              · rename_i p v e
                rw [ar_ix] at hs
                unfold askIx at hs
                split at hs
                · obtain ⟨hi, hs⟩ := hs
                  simp only [kPut_eq] at hs
                  exact fin (Or.inl ⟨by rw [hwt]; exact hw, fun w _ => by rw [hex]; exact ixOf_ok e hi w⟩) hs
                · obtain ⟨h3, hs⟩ := askSem_ok hs
                  exact key2 _ hs
              · split at hs
                · obtain ⟨h3, hs⟩ := askSem_ok hs
                  exact key2 _ hs
                · exact key2 _ hs
        · rename_i hw
          rw [kPut_eq] at hs
          exact fin (Or.inr ⟨by rw [hwt]; exact hw, rfl⟩) hs
    · obtain ⟨h1, hs⟩ := hs
      split at h1
      · exact h1.elim
      rename_i hnil
      split at h1
      · rename_i hgate
        obtain ⟨x, hx⟩ := List.exists_mem_of_ne_nil _ (isNil_ne hnil)
        have hx := mem_minus.1 hx
        have hxl := hsim.rdy hx.1 fun p hp e => hx.2 (by rw [← e]; exact (hpF p hp).1)
        refine WpI.mk (fun e => by rw [e] at hxl; cases hxl) fun j hj => ?_
        by_cases hjF : j ∈ F
        · exact early h1 j hj hjF
        have hjS : j ∈ Region.ready .any ops listedS := by
          rw [hsim.lst] at hj
          have := ready_all hj (fun p hp => ⟨mem_now (hpF p hp).1 (hsim.pds p hp).2.2.1, (hpF p hp).2⟩) (fun hm => hjF (now_mem hm))
          exact (allOr_mem hgate j this).resolve_left hjF
        have hne : ∀ p ∈ pd, p.i ≠ j := fun p hp e => hjF (by rw [← e]; exact (hpF p hp).1)
        obtain ⟨h2, hs⟩ := allS_mem hs j (mem_minus.2 ⟨hjS, hjF⟩)
        split at hs
        · exact hs.elim
        rename_i o ho
        rw [lgo_eq] at ho
        have ho' : ops[j]? = some o := by simpa using ho
        obtain ⟨h3, hs⟩ := guardS_ok hs hsim.tmps
        obtain ⟨hex, hwt⟩ := hsim.exec hF hjS ho' hne
        unfold wpOp
        rw [ho']
        simp only
        split at hs
        · rename_i hw
          rw [hwt, hw, if_pos rfl]
          have own : ∀ {t : Sem Next} {h : Hint}, execOp (lev s.tmps) o = t → symSem asksReal P E st t s.objs h (opFinV s o.dst fun s' h4 => regF asksReal P E st F ops.toList ops n (listedS.setIfInBounds j true) s' h4 fun s' h' => Q .normal s' h') →
              o.wp P a w (fun a' w' => QS w0 st s0.objs w' ∧ WpI P ops (Sat w0 E (QQ (dsts ops.toList) st s0 Q)) (QS w0 st s0.objs) (listed.setIfInBounds j true) a' w') (Sat w0 E (QQ (dsts ops.toList) st s0 Q)) := by
            intro t h ht hs
            obtain ⟨x, w', os', h', hrun, hm, hst3, hl, hf⟩ := symSemF_run (rowsP pd) _ hs hsim.mem
            unfold Oper.wp
            rw [hex, ht, hrun]
            cases x <;> simp only [opFinV, kPut_eq] at hf <;> try exact hf.elim
            · rename_i v
              have hs2 := hsim.step hF hjS ho' hne (v := v) hm ⟨hst3, hl⟩
              exact ⟨hs2.qs hst, ih _ _ _ hf _ _ _ _ _ _ (Nat.le_refl _) hs2⟩
            · have hs2 := hsim.step hF hjS ho' hne (v := undef) hm ⟨hst3, hl⟩
              exact ⟨hs2.qs hst, ih _ _ _ hf _ _ _ _ _ _ (Nat.le_refl _) hs2⟩
          unfold callM at hs
          split at hs
          · rename_i x y t hap
            have e1 := appOf_eq hap
            rw [ar_app] at hs
            obtain ⟨v, w', os', h', hrun, hm, hst3, hl, hk⟩ := symAppF_run (ty := o.type) (rowsP pd) hs hsim.mem
            rw [kPut_eq] at hk
            have hx : (execOp (lev s.tmps) o).run P w = .ok (.value v) w' := by
              unfold execOp
              simp only [e1, resolve, invoke, builtin, Sem.run_bind, Sem.run_pure, Result.andThen_ok, List.map_toArray, List.map_cons, List.map_nil, hrun]
            refine Or.inl ?_
            unfold Oper.wp
            rw [hex, hx]
            have hs2 := hsim.step hF hjS ho' hne (v := v) hm ⟨hst3, hl⟩
            exact ⟨hs2.qs hst, ih _ _ _ hk _ _ _ _ _ _ (Nat.le_refl _) hs2⟩
          · split at hs
            · rename_i f args hca
              rw [kL_eq kV0_eq] at hs
              refine Or.inl ?_
              unfold Oper.wp
              rw [hex, callSem_run w _ hca]
              refine (callSpecF_ok hs hsim.mem).mono ?_
              rintro e w' ⟨v, new, h4, rfl, hm, hk⟩
              rw [kPut_eq] at hk
              have hs2 := hsim.step hF hjS ho' hne (v := v) hm ⟨fun i _ hl => List.getElem?_append_left hl, by simp⟩
              exact ⟨hs2.qs hst, ih _ _ _ hk _ _ _ _ _ _ (Nat.le_refl _) hs2⟩
            · split at hs
              · obtain ⟨h4, hs⟩ := askSem_ok hs
                exact Or.inl (own rfl hs)
              · exact Or.inl (own rfl hs)
        · rename_i hw
          rw [hwt, hw, if_neg (by simp)]
          rw [kPut_eq] at hs
          have hs2 := hsim.step hF hjS ho' hne (v := undef) hsim.mem (Stay.refl _ _)
          exact ⟨hq0, ih _ _ _ hs _ _ _ _ _ _ (Nat.le_refl _) hs2⟩
      · exact h1.elim
    · exact hs.elim
theorem results_any {P : Program} {w0 : Bs} {E : List Ex} {fn : Func} {s : SS} {h : Hint} {K : Value → List Ob → Hint → Prop} {w : World} (hs : resS asksReal P E fn s h K) (hm : MRep w0 E s.objs w) :
    ∃ v h', (results fn s.tmps.toArray).run P w = .ok v w ∧ K v s.objs h' := by
  unfold resS at hs
  have e : ∀ l, fn.results.toList = l → fn.results = l.toArray := fun l h => by rw [← h]
  split at hs
  · rename_i e1
    exact ⟨_, _, by simp [results, e _ e1], hs⟩
  · rename_i e1
    exact ⟨_, _, by simp [results, e _ e1, lget_eq], hs⟩
  · rename_i e1
    exact ⟨_, _, by simp [results, e _ e1, lget_eq], hs⟩
  · rename_i e1
    exact ⟨_, _, by simp [results, e _ e1, lget_eq], hs⟩
  · rename_i e1
    exact ⟨_, _, by simp [results, e _ e1, lget_eq], hs⟩
  · rename_i a t e1
    have hq : QS w0 (rng s.objs.length) s.objs w := ⟨hm.below, fun i _ o ho => hm.row i o ho⟩
    obtain ⟨v, h', hk, hrun⟩ := symQ_run (os0 := s.objs) hm.ext _ (fun _ _ => rfl) hq hs
    rw [kV_eq] at hk
    have h1 := hrun w hq
    refine ⟨v, h', ?_, hk⟩
    rw [Sem.run_bind'] at h1
    have e2 : (results fn s.tmps.toArray).run P w = (Sem.bind (asAddr (lget s.tmps a)) (fun x => loadVar t x)).run P w := by
      simp [results, e _ e1, lget_eq]
      exact (Sem.run_bind' _ _ _ _).symm
    rw [e2]
    generalize (Sem.bind (asAddr (lget s.tmps a)) (fun x => loadVar t x)).run P w = r at *
    cases r with
    | ok u w' => simp [Sem.run] at h1; obtain ⟨rfl, rfl⟩ := h1; rfl
    | halt x w' => simp at h1
  · rename_i a t u e1
    have hq : QS w0 (rng s.objs.length) s.objs w := ⟨hm.below, fun i _ o ho => hm.row i o ho⟩
    obtain ⟨v, h', hk, hrun⟩ := symQ_run (os0 := s.objs) hm.ext _ (fun _ _ => rfl) hq hs
    rw [kV_eq] at hk
    have h1 := hrun w hq
    refine ⟨_, h', ?_, hk⟩
    rw [Sem.run_bind'] at h1
    have e2 : (results fn s.tmps.toArray).run P w = ((Sem.bind (asAddr (lget s.tmps a)) (fun x => loadVar t x)).run P w).andThen fun v w' => .ok (.tuple #[v, lget s.tmps u]) w' := by
      rw [Sem.run_bind']
      simp [results, e _ e1, lget_eq]
      generalize (asAddr (s.tmps[a]?.getD undef)).run P w = q
      cases q with
      | ok x w1 => rfl
      | halt x w1 => rfl
    rw [e2]
    generalize (Sem.bind (asAddr (lget s.tmps a)) (fun x => loadVar t x)).run P w = r at *
    cases r with
    | ok u w' => simp [Sem.run] at h1; obtain ⟨rfl, rfl⟩ := h1; rfl
    | halt x w' => simp at h1
  · rename_i a t u x e1
    have hq : QS w0 (rng s.objs.length) s.objs w := ⟨hm.below, fun i _ o ho => hm.row i o ho⟩
    obtain ⟨v, h', hk, hrun⟩ := symQ_run (os0 := s.objs) hm.ext _ (fun _ _ => rfl) hq hs
    rw [kV_eq] at hk
    have h1 := hrun w hq
    refine ⟨_, h', ?_, hk⟩
    rw [Sem.run_bind'] at h1
    have e2 : (results fn s.tmps.toArray).run P w = ((Sem.bind (asAddr (lget s.tmps a)) (fun x => loadVar t x)).run P w).andThen fun v w' => .ok (.tuple #[v, lget s.tmps u, lget s.tmps x]) w' := by
      rw [Sem.run_bind']
      simp [results, e _ e1, lget_eq]
      generalize (asAddr (s.tmps[a]?.getD undef)).run P w = q
      cases q with
      | ok x0 w1 => rfl
      | halt x0 w1 => rfl
    rw [e2]
    generalize (Sem.bind (asAddr (lget s.tmps a)) (fun x => loadVar t x)).run P w = r at *
    cases r with
    | ok u0 w' => simp [Sem.run] at h1; obtain ⟨rfl, rfl⟩ := h1; rfl
    | halt x0 w' => simp at h1
  · rename_i y a t u x e1
    have hq : QS w0 (rng s.objs.length) s.objs w := ⟨hm.below, fun i _ o ho => hm.row i o ho⟩
    obtain ⟨v, h', hk, hrun⟩ := symQ_run (os0 := s.objs) hm.ext _ (fun _ _ => rfl) hq hs
    rw [kV_eq] at hk
    have h1 := hrun w hq
    refine ⟨_, h', ?_, hk⟩
    rw [Sem.run_bind'] at h1
    have e2 : (results fn s.tmps.toArray).run P w = ((Sem.bind (asAddr (lget s.tmps a)) (fun x => loadVar t x)).run P w).andThen fun v w' => .ok (.tuple #[lget s.tmps y, v, lget s.tmps u, lget s.tmps x]) w' := by
      rw [Sem.run_bind']
      simp [results, e _ e1, lget_eq]
      generalize (asAddr (s.tmps[a]?.getD undef)).run P w = q
      cases q with
      | ok x0 w1 => rfl
      | halt x0 w1 => rfl
    rw [e2]
    generalize (Sem.bind (asAddr (lget s.tmps a)) (fun x => loadVar t x)).run P w = r at *
    cases r with
    | ok u0 w' => simp [Sem.run] at h1; obtain ⟨rfl, rfl⟩ := h1; rfl
    | halt x0 w' => simp at h1
  · rename_i a t b u e1
    have hq : QS w0 (rng s.objs.length) s.objs w := ⟨hm.below, fun i _ o ho => hm.row i o ho⟩
    obtain ⟨v, h', hk, hrun⟩ := symQ_run (os0 := s.objs) hm.ext _ (fun _ _ => rfl) hq hs
    obtain ⟨v2, h2, hk2, hrun2⟩ := symQ_run (os0 := s.objs) hm.ext _ (fun _ _ => rfl) hq hk
    rw [kV_eq, kV_eq] at hk2
    have g1 := hrun w hq
    have g2 := hrun2 w hq
    refine ⟨_, h2, ?_, hk2⟩
    rw [Sem.run_bind'] at g1 g2
    have e2 : (results fn s.tmps.toArray).run P w = ((Sem.bind (asAddr (lget s.tmps a)) (fun x => loadVar t x)).run P w).andThen fun v w' => ((Sem.bind (asAddr (lget s.tmps b)) (fun x => loadVar u x)).run P w').andThen fun v2 w'' => .ok (.tuple #[v, v2]) w'' := by
      have asc : ∀ {α β γ : Type} (r : Result α) (f : α → World → Result β) (g : β → World → Result γ), (r.andThen f).andThen g = r.andThen fun x w' => (f x w').andThen g := by
        intro α β γ r f g
        cases r <;> rfl
      simp only [Sem.run_bind']
      simp [results, e _ e1, lget_eq, Sem.run_bind']
      simp only [asc]
    rw [e2]
    generalize (Sem.bind (asAddr (lget s.tmps a)) (fun x => loadVar t x)).run P w = r at *
    cases r with
    | ok x w' =>
      simp [Sem.run] at g1
      obtain ⟨rfl, rfl⟩ := g1
      show ((Sem.bind (asAddr (lget s.tmps b)) (fun x => loadVar u x)).run P _).andThen _ = _
      generalize (Sem.bind (asAddr (lget s.tmps b)) (fun x => loadVar u x)).run P _ = r2 at *
      cases r2 with
      | ok y w2 => simp [Sem.run] at g2; obtain ⟨rfl, rfl⟩ := g2; rfl
      | halt y w2 => simp at g2
    | halt x w' => simp at g1
  · exact hs.elim

theorem repU_eq (n : Nat) : repU n = List.replicate n undef := by
  induction n with
  | zero => rfl
  | succ n ih => simp [repU, ih, List.replicate_succ]

def RecOK (P : Program) (w0 : Bs) (E : List Ex) (st : List Nat) (rec : Code → SS → Hint → (Exit → SS → Hint → Prop) → Prop) : Prop :=
  ∀ c s h Q a w, rec c s h Q → Rep w0 E s a w → c.wp P (Sat w0 E (QQ (wrs c) st s Q)) a w

theorem call_body {P : Program} {w0 : Bs} {E : List Ex} {st : List Nat} {rec : Code → SS → Hint → (Exit → SS → Hint → Prop) → Prop} (hrec : RecOK P w0 E st rec) {f : FuncId} {fn : Func} {c : Code} {args : Array Value} {os : List Ob} {h : Hint} {w : World} {K : Value → List Ob → Hint → Prop}
    (hf : P.funcs[f]? = some fn) (hb : fn.body = some c) (hm : MRep w0 E os w)
    (hs : rec c ⟨lapp args.toList (repU (fn.ntmps - args.size)), os⟩ h fun e s h2 => match e with | .normal => resS asksReal P E fn s h2 K | .ret => resS asksReal P E fn s h2 K | _ => False) :
    Calls P f args w fun e w' => ∃ v os' h', e = .returned v ∧ MRep w0 E os' w' ∧ Stay st os os' ∧ K v os' h' := by
  refine calls_of_wp hf hb (Code.wp_mono ?_ (hrec c _ h _ _ w hs ⟨by simp [lapp_eq, repU_eq], rfl, hm⟩))
  intro e a w' hq
  cases e <;> simp only [Sat] at hq <;> try exact hq.elim
  · obtain ⟨s, h, hr, hq, _, hst⟩ := hq
    obtain ⟨v, h', hrun, hk⟩ := results_any hq hr.mem
    exact ⟨hr.defers, v, by rw [hr.tmps]; exact hrun, v, s.objs, h', rfl, hr.mem, hst, hk⟩
  · obtain ⟨s, h, hr, hq, _⟩ := hq; exact hq.elim
  · obtain ⟨s, h, hr, hq, _⟩ := hq; exact hq.elim
  · obtain ⟨s, h, hr, hq, _, hst⟩ := hq
    obtain ⟨v, h', hrun, hk⟩ := results_any hq hr.mem
    exact ⟨hr.defers, v, by rw [hr.tmps]; exact hrun, v, s.objs, h', rfl, hr.mem, hst, hk⟩

theorem inlS_ok {P : Program} {w0 : Bs} {E : List Ex} {st : List Nat} {rec : Code → SS → Hint → (Exit → SS → Hint → Prop) → Prop} (hrec : RecOK P w0 E st rec) {f : FuncId} {args : Array Value} {os : List Ob} {h : Hint} {w : World} {K : Value → List Ob → Hint → Prop} (hc : inlS asksReal P E rec f args os h K) (hm : MRep w0 E os w) :
    Calls P f args w fun e w' => ∃ v os' h', e = .returned v ∧ MRep w0 E os' w' ∧ Stay st os os' ∧ K v os' h' := by
  unfold inlS at hc
  split at hc
  · exact hc.elim
  · rename_i fn hf
    split at hc
    · exact hc.elim
    · rename_i c hb
      rw [kL_eq kId_eq] at hc
      exact call_body hrec hf hb hm hc
theorem callFull_ok {P : Program} {w0 : Bs} {E : List Ex} {rec : List Nat → Code → SS → Hint → (Exit → SS → Hint → Prop) → Prop} (hrec : ∀ st, RecOK P w0 E st (rec st)) (st : List Nat) : CallOK P w0 E st (callFull asksReal P E rec st) := by
  intro f args os h K w hc hm
  refine askSpec_ok hc hm (fun h' hc => inlS_ok (hrec st) hc hm) fun v h' hc => ?_
  refine (inlS_ok (hrec (rng os.length)) hc hm).mono ?_
  rintro e w' ⟨v', os', h2, rfl, hm', hst, rfl⟩
  exact ⟨rfl, hm'.pre fun i hi => hst.1 i (rng_iff.2 hi) hi⟩

theorem qq_then {w0 : Bs} {E : List Ex} {W W' st : List Nat} {s s' : SS} {Q : Exit → SS → Hint → Prop} {e : Exit} {a : Act} {w : World} (ho : Off W s.tmps s'.tmps) (hs : Stay st s.objs s'.objs) (hw : ∀ t ∈ W', t ∈ W) (h : Sat w0 E (QQ W' st s' Q) e a w) : Sat w0 E (QQ W st s Q) e a w := by
  cases e <;> simp only [Sat] at h ⊢ <;> try exact h.elim
  all_goals
    obtain ⟨s2, h2, hr, hq, h3, h4⟩ := h
    exact ⟨s2, h2, hr, hq, ho.trans (h3.mono hw), hs.trans h4⟩
theorem qq_mono {w0 : Bs} {E : List Ex} {W W' st : List Nat} {s : SS} {Q : Exit → SS → Hint → Prop} {e : Exit} {a : Act} {w : World} (hw : ∀ t ∈ W', t ∈ W) (h : Sat w0 E (QQ W' st s Q) e a w) : Sat w0 E (QQ W st s Q) e a w :=
  qq_then (Off.refl _ _) (Stay.refl _ _) hw h

theorem roundS_ok {P : Program} {w0 : Bs} {E : List Ex} {st : List Nat} {rec : Code → SS → Hint → (Exit → SS → Hint → Prop) → Prop} (hrec : RecOK P w0 E st rec) {body : Code} {Q : Exit → SS → Hint → Prop} {s0 : SS} :
    ∀ (n : Nat) (s : SS) (h : Hint) (a : Act) (w : World), roundS (rec body) Q n s h → Rep w0 E s a w → Off (wrs body) s0.tmps s.tmps → Stay st s0.objs s.objs → Code.rounds P body (Sat w0 E (QQ (wrs body) st s0 Q)) n a w := by
  intro n
  induction n with
  | zero => intro s h a w hs _; exact hs.elim
  | succ n ih =>
    intro s h a w hs hr h1 h2
    refine Code.wp_mono ?_ (hrec body s h _ a w hs hr)
    intro e a' w' hq
    cases e <;> simp only [Sat, Exit.then] at hq ⊢
    case normal =>
      obtain ⟨s', h', hr', hq, h3, h4⟩ := hq
      exact ih s' h' a' w' hq hr' (h1.trans h3) (h2.trans h4)
    all_goals first
      | exact hq.elim
      | (obtain ⟨s', h', hr', hq, h3, h4⟩ := hq; exact ⟨s', h', hr', hq, h1.trans h3, h2.trans h4⟩)

theorem least_of {α : Type} (p : α → Prop) (mu : α → Nat) : ∃ m, (∀ x, p x → m ≤ mu x) ∧ ((∃ x, p x) → ∃ x, p x ∧ mu x = m) := by
  by_cases h : ∃ x, p x
  · have key : ∀ n x, p x → mu x = n → ∃ m, (∀ x, p x → m ≤ mu x) ∧ ∃ x, p x ∧ mu x = m := by
      intro n
      induction n using Nat.strongRecOn with
      | _ n ih =>
        intro x hx hn
        by_cases h2 : ∃ y, p y ∧ mu y < n
        · obtain ⟨y, hy, hlt⟩ := h2
          exact ih _ hlt y hy rfl
        · exact ⟨n, fun y hy => Nat.le_of_not_lt (fun hlt => h2 ⟨y, hy, hlt⟩), x, hx, hn⟩
    obtain ⟨x, hx⟩ := h
    obtain ⟨m, h1, h2⟩ := key _ x hx rfl
    exact ⟨m, h1, fun _ => h2⟩
  · exact ⟨0, fun x hx => (h ⟨x, hx⟩).elim, fun hx => (h hx).elim⟩
theorem mem_lapp {α : Type} {l r : List α} {x : α} : x ∈ lapp l r ↔ x ∈ l ∨ x ∈ r := by rw [lapp_eq, List.mem_append]
theorem MRep.nils {w0 : Bs} {E : List Ex} {w : World} (l : List (TypeId × Nat)) : ∀ {os : List Ob}, MRep w0 E os w → MRep w0 E (addNil os l) w ∧ (∀ i, i < os.length → (addNil os l)[i]? = os[i]?) ∧ os.length ≤ (addNil os l).length := by
  induction l with
  | nil => exact fun h => ⟨h, fun _ _ => rfl, Nat.le_refl _⟩
  | cons p l ih =>
    intro os h
    have h1 : MRep w0 E (app1 os (nilOb p)) w := h.add (nilOb p) (Below.refl _ _) (fun k hk => (nilOb_dep hk).elim) (nilOb_ok _ _ _)
    obtain ⟨h2, h3, h4⟩ := ih h1
    rw [app1_eq] at h3 h4
    refine ⟨h2, fun i hi => ?_, by simp at h4; simp only [addNil]; rw [app1_eq]; omega⟩
    simp only [addNil]
    rw [app1_eq, h3 i (by simp; omega), List.getElem?_append_left hi]
theorem ghoS_ok {w0 : Bs} {E : List Ex} {w : World} {chk : List Nat → Bool} {n : Nat} : ∀ {os : List Ob} {h : Hint} {K : List Ob → Hint → Prop}, ghoS asksReal chk n os h K → MRep w0 E os w →
    ∃ os' h', MRep w0 E os' w ∧ K os' h' ∧ os.length ≤ os'.length ∧ ∀ i, i < os.length → (∀ is, chk is = true → i ∉ is) → os'[i]? = os[i]? := by
  induction n with
  | zero => exact fun h hm => ⟨_, _, hm, h, Nat.le_refl _, fun _ _ _ => rfl⟩
  | succ n ih =>
    intro os h K hs hm
    simp only [ghoS, ar_gho] at hs
    unfold askGho at hs
    split at hs
    · rename_i is q h' _
      split at hs
      · rename_i hc
        simp only [Bool.and_eq_true] at hc
        split at hs
        · rename_i ps hps
          obtain ⟨hq, hs⟩ := hs
          rw [kGone_eq, kApp_eq, app1_eq] at hs
          obtain ⟨os', h', h1, h2, h3, h4⟩ := ih hs (hm.absorb (nodupB_ok hc.1) hps hq)
          have hl := gone_length os is
          refine ⟨os', h', h1, h2, by simp at h3; omega, fun i hi hn => ?_⟩
          rw [h4 i (by simp; omega) hn, List.getElem?_append_left (by omega), gone_off (hn is hc.2)]
        · exact hs.elim
      · exact hs.elim
    · exact ⟨_, _, hm, hs, Nat.le_refl _, fun _ _ _ => rfl⟩
theorem loopI_ok {P : Program} {w0 : Bs} {E : List Ex} {rec : RecF} (ih : ∀ st, RecOK P w0 E st (rec st)) (st : List Nat) {body : Code} {s : SS} {Q : Exit → SS → Hint → Prop} {l : LoopR} {he : Hint} {hb : l.α → Hint} {a : Act} {w : World}
    (hs : loopI asksReal rec st body s Q l he hb) (hr : Rep w0 E s a w) : (Code.loop body).wp P (Sat w0 E (QQ (wrs body) st s Q)) a w := by
  unfold loopI at hs
  rw [kNil_eq] at hs
  obtain ⟨hm0, hpre0, hlen0⟩ := MRep.nils l.pre hr.mem
  generalize addNil s.objs l.pre = os0 at *
  obtain ⟨os, _, hm0, hs, hlen1, hpre1⟩ := ghoS_ok hs hm0
  have hlen : s.objs.length ≤ os.length := Nat.le_trans hlen0 hlen1
  have hpre : ∀ i, i ∈ st → i < s.objs.length → os[i]? = s.objs[i]? := fun i hi hl => by
    rw [hpre1 i (Nat.lt_of_lt_of_le hl hlen0) fun is hc him => noneIn_ok hc i him hi, hpre0 i hl]
  obtain ⟨⟨x0, hx0, ha0⟩, hs⟩ := hs
  split at hs
  · rename_i hc
    simp only [Bool.and_eq_true] at hc
    obtain ⟨⟨hst, hnd⟩, hlt⟩ := hc
    have hst := allMem_mem hst
    have hnd := nodupB_ok hnd
    have hlt := allLt_mem hlt
    let I : l.α → Act → World → Prop := fun x a w => l.inv x ∧ ∃ t : List Value, Rep w0 E ⟨t, rowsSet os l.idx (l.ob x)⟩ a w ∧ Off (wrs body) s.tmps t ∧ (∀ u v, (u, v) ∈ l.ps x → lget t u = v ∧ v ≠ undef)
    have hmin : ∀ a w, ∃ m, (∀ x, I x a w → m ≤ l.mu x) ∧ ((∃ x, I x a w) → ∃ x, I x a w ∧ l.mu x = m) :=
      fun a w => least_of (fun x => I x a w) l.mu
    have hi0 : I x0 a w := by
      obtain ⟨hrw, hps⟩ := agreeS_ok ha0
      refine ⟨hx0, s.tmps, ⟨hr.tmps, hr.defers, ?_⟩, Off.refl _ _, hps⟩
      exact hm0.again hnd hnd (fun j hj => Or.inl hj) hlt rfl hrw fun _ _ _ => rfl
    refine wp_loop (I := fun a w => ∃ x, I x a w) (μ := fun a w => Classical.choose (hmin a w)) ⟨x0, hi0⟩ ?_
    intro a w hI
    obtain ⟨x, ⟨hx, t1, hr1, ho1, hps⟩, hm⟩ := (Classical.choose_spec (hmin a w)).2 hI
    have hb1 := hs x hx (fun t => lget t1 t)
    rw [kJset_eq, kPset_eq, kRows_eq, jset_self (wrs body) (fun _ => rfl) ho1, pset_self hps] at hb1
    have hl2 := rowsSet_length os l.idx (l.ob x)
    have hstay : Stay st s.objs (rowsSet os l.idx (l.ob x)) := by
      refine ⟨fun i hi hlt => ?_, by rw [hl2]; exact hlen⟩
      have h3 := mem_minus.1 (hst i hi)
      rw [rowsSet_off _ _ _ h3.2, hpre i hi hlt]
    refine Code.wp_mono ?_ (ih _ _ _ _ _ a w hb1 hr1)
    intro e a' w' hq
    cases e <;> simp only [Sat, Exit.then] at hq ⊢
    case normal =>
      obtain ⟨s', h', hr', hq, h3, h4⟩ := hq
      obtain ⟨os2, h'', hm2, hq, hlen2, hoff2⟩ := ghoS_ok hq hr'.mem
      simp only [ar_perm, askPerm] at hq
      split at hq
      · rename_i js h5
        unfold backE at hq
        split at hq
        · rename_i hc
          simp only [Bool.and_eq_true] at hc
          obtain ⟨y, hy, hlt2, hag'⟩ := hq
          obtain ⟨hrw, hps'⟩ := agreeS_ok hag'
          have hI' : I y a' w' := by
            refine ⟨hy, s'.tmps, ⟨hr'.tmps, hr'.defers, ?_⟩, ho1.trans h3, hps'⟩
            refine hm2.again hnd (nodupB_ok hc.1.1) (jsIn_ok hc.1.2) hlt (Nat.eq_of_beq_eq_true hc.2) hrw fun j hj hji => ?_
            have h6 := h4.2
            rw [hl2] at h6
            rw [hoff2 j (Nat.lt_of_lt_of_le hj h6) fun is hc him => (jsIn_ok hc j him).elim hji (fun h => by omega)]
            have := h4.1 j (mem_minus.2 ⟨rng_iff.2 hj, hji⟩) (by rw [hl2]; exact hj)
            rw [this, rowsSet_off _ _ _ hji]
          refine ⟨⟨y, hI'⟩, ?_⟩
          have := (Classical.choose_spec (hmin a' w')).1 y hI'
          rw [← hm]
          exact Nat.lt_of_le_of_lt this hlt2
        · exact hq.elim
      · exact hq.elim
    all_goals first
      | exact hq.elim
      | (obtain ⟨s', h', hr', hq, h3, h4⟩ := hq; exact ⟨s', h', hr', hq, ho1.trans h3, hstay.trans (h4.sub hst)⟩)
  · exact hs.elim
theorem wpN_ok {P : Program} {w0 : Bs} {E : List Ex} {rec : RecF} (ih : ∀ st, RecOK P w0 E st (rec st)) (st : List Nat) : RecOK P w0 E st (wpN asksReal P E rec st) := by
  intro c s h Q a w hs hr
  have hsound := callFull_ok (P := P) (w0 := w0) (E := E) ih st
  have fin : ∀ {e : Exit} {h : Hint}, Q e s h → (match e with | .panic _ => False | .outgrown => False | _ => True) → Sat w0 E (QQ (wrs c) st s Q) e a w := by
    intro e h hq he
    cases e <;> first | exact he.elim | exact ⟨s, h, hr, hq, Off.refl _ _, Stay.refl _ _⟩
  unfold wpN at hs
  split at hs
  · exact wp_skip (fin hs trivial)
  · exact wp_label (fin hs trivial)
  · rename_i x y
    refine wp_seq (Code.wp_mono ?_ (ih st _ s h _ a w hs hr))
    intro e a' w' hq
    cases e <;> simp only [Sat, Exit.then] at hq ⊢
    case normal =>
      obtain ⟨s', h', hr', hq, h3, h4⟩ := hq
      exact Code.wp_mono (fun e a w h => qq_then (h3.mono fun t ht => mem_lapp.2 (Or.inl ht)) h4 (fun t ht => mem_lapp.2 (Or.inr ht)) h) (ih st _ s' h' Q a' w' hq hr')
    all_goals first
      | exact hq.elim
      | (obtain ⟨s', h', hr', hq, h3, h4⟩ := hq; exact ⟨s', h', hr', hq, h3.mono fun t ht => mem_lapp.2 (Or.inl ht), h4⟩)
  · rename_i cd x y
    split at hs
    · rename_i b e
      obtain ⟨h', hs⟩ := askBool_ok hs
      rw [kLit_eq e] at hs
      refine wp_cond (t := b) (by rw [hr.eval]; exact e) ?_
      split at hs
      · exact Code.wp_mono (fun e a w h => qq_mono (fun t ht => mem_lapp.2 (Or.inl ht)) h) (ih st _ s h' Q a w hs hr)
      · exact Code.wp_mono (fun e a w h => qq_mono (fun t ht => mem_lapp.2 (Or.inr ht)) h) (ih st _ s h' Q a w hs hr)
    · exact hs.elim
  · refine wp_block (Code.wp_mono ?_ (ih st _ s h _ a w hs hr))
    intro e a' w' hq
    cases e <;> simp only [Sat, Exit.inBlock] at hq ⊢ <;> try exact hq
    rename_i id _ id'
    obtain ⟨s', h', hr', hq, h3, h4⟩ := hq
    simp only at hq
    cases e : Nat.beq id' id with
    | true =>
      rw [e] at hq
      rw [if_pos (Nat.eq_of_beq_eq_true e)]
      exact ⟨s', h', hr', hq, h3, h4⟩
    | false =>
      rw [e] at hq
      rw [if_neg (fun e' => by subst e'; simp at e)]
      exact ⟨s', h', hr', hq, h3, h4⟩
  · exact wp_exit (fin hs trivial)
  · exact wp_ret (fin hs trivial)
  · rename_i id ops
    refine wp_region ?_
    have := opsS_ok hsound (ops := ops) (Q := Q) (s0 := s) ops.toList 0 s h a w rfl hs hr (Off.refl _ _) (Stay.refl _ _)
    rwa [List.range_eq_range', ← Array.length_toList]
  · rename_i id ops
    simp only [ar_draw, askDraw] at hs
    split at hs
    · split at hs
      · rename_i st1 k0 st0 h' _ e
        simp only [Bool.and_eq_true] at e
        obtain ⟨⟨⟨e1, e2⟩, e3⟩, e4⟩ := e
        have hlt := allLt_mem e2
        have hsub := allMem_mem e3
        refine Code.wp_mono (Q := Sat w0 E (QQ (dsts ops.toList) st0 s Q)) ?_ (wp_region_H2 e1 (regS_ok (s0 := s) (fun st => callFull_ok ih st) hr.mem.ext hlt (allMem_mem e4) _ _ _ _ _ _ hs ⟨hr.tmps, hr.defers, hr.mem.drawn _⟩ (Off.refl _ _) (Stay.refl _ _) (fun _ => Stay.refl _ _)))
        intro e a' w' hq
        cases e <;> simp only [Sat] at hq ⊢ <;> try exact hq
        all_goals (obtain ⟨s', h', hr', hq, h3, h4⟩ := hq; exact ⟨s', h', hr', hq, h3, h4.sub hsub⟩)
      · exact hs.elim
    · split at hs
      · rename_i F st1 h' _ e
        simp only [Bool.and_eq_true] at e
        obtain ⟨⟨⟨e1, e2⟩, e3⟩, e4⟩ := e
        refine Code.wp_mono (Q := Sat w0 E (QQ (dsts ops.toList) st1 s Q)) ?_ (wp_region_any e1 (wpAny_of_held _ _ _ _ (regF_ok (s0 := s) hr.mem.ext (allLt_mem e2) (freeF_ok e4) _ _ _ _ hs _ [] _ a a _ (Nat.le_refl _) ⟨hr.tmps, hr.defers, rfl, rfl, by simp, by rw [show s.objs ++ rowsP [] = s.objs from List.append_nil _]; exact hr.mem.drawn _, (fun p hp => by cases hp), by simp, Off.refl _ _, Stay.refl _ _⟩ ops.size (Nat.le_trans (List.length_filter_le _ _) (by simp)))))
        intro e a' w' hq
        cases e <;> simp only [Sat] at hq ⊢ <;> try exact hq
        all_goals (obtain ⟨s', h', hr', hq, h3, h4⟩ := hq; exact ⟨s', h', hr', hq, h3, h4.sub (allMem_mem e3)⟩)
      · exact hs.elim
    · exact hs.elim
  · rename_i body
    simp only [ar_loop, askLoop] at hs
    split at hs
    · rename_i k h'
      exact wp_loop_rounds k (roundS_ok (ih st) k s h' a w hs hr (Off.refl _ _) (Stay.refl _ _))
    · rename_i l hb
      exact loopI_ok ih st hs hr
    · rename_i l he hb
      exact loopI_ok ih st hs hr
    · exact hs.elim
  · exact hs.elim
theorem wpC_ok {P : Program} {w0 : Bs} {E : List Ex} : ∀ (n : Nat) (st : List Nat), RecOK P w0 E st (wpC asksReal P E n st) := by
  intro n
  induction n with
  | zero => intro st c s h Q a w hs _; exact hs.elim
  | succ n ih =>
    intro st c s h Q a w hs hr
    unfold wpC at hs
    simp only [ar_cut] at hs
    generalize hC h s.objs = h at hs
    simp only [askCut] at hs
    split at hs
    · split at hs
      · rename_i ps h1 h2
        obtain ⟨ha, hb⟩ := hs
        refine Code.wp_mono ?_ (ih (rng s.objs.length) c s h1 _ a w ha hr)
        intro e a' w' hq
        cases e <;> simp only [Sat] at hq ⊢ <;> try exact hq
        case normal =>
          obtain ⟨s', h', hr', hq, h3, h4⟩ := hq
          have hq := agreeS_ok hq
          have := hb (fun t => lget s'.tmps t)
          rw [kJset_eq, kPset_eq, jset_self (wrs c) (fun _ => rfl) h3, pset_self hq.2] at this
          exact ⟨⟨s'.tmps, s.objs⟩, h2, ⟨hr'.tmps, hr'.defers, hr'.mem.pre fun i hi => h4.1 i (rng_iff.2 hi) hi⟩, this, h3, Stay.refl _ _⟩
        all_goals (obtain ⟨s', h', hr', hq, h3, h4⟩ := hq; exact hq.elim)
      · exact wpN_ok ih st _ _ _ _ _ _ hs hr
      · exact wpN_ok ih st _ _ _ _ _ _ hs hr
    · exact wpN_ok ih st _ _ _ _ _ _ hs hr

def wpFA (A : Asks) (P : Program) (E : List Ex) (n : Nat) (f : FuncId) (args : List Value) (h : Hint) (R : Value → List Ob → Prop) : Prop :=
  match P.funcs[f]? with
  | none => False
  | some fn =>
    match fn.body with
    | none => False
    | some c => kL kId (lapp args (repU (fn.ntmps - args.length))) fun l => wpC A P E n [] c ⟨l, []⟩ h fun e s h2 =>
      match e with
      | .normal => resS A P E fn s h2 fun v os _ => R v os
      | .ret => resS A P E fn s h2 fun v os _ => R v os
      | _ => False

abbrev wpF (P : Program) (E : List Ex) (n : Nat) (f : FuncId) (args : List Value) (h : Hint) (R : Value → List Ob → Prop) : Prop := wpFA asksReal P E n f args h R

/-- A walk's start where nothing of the caller's may be changed. -/
def bs0 (w : World) : Bs := { toWorld := w, w1 := w, X := fun _ => False }
theorem calls_of_wpF {P : Program} {E : List Ex} {n : Nat} {f : FuncId} {args : List Value} {h : Hint} {R : Value → List Ob → Prop} {w : World} (hE : ExtOK E w)
    (hs : wpF P E n f args h R) : Calls P f args.toArray w fun e w' => ∃ v os, e = .returned v ∧ MRep (bs0 w) E os w' ∧ R v os := by
  unfold wpF wpFA at hs
  split at hs
  · exact hs.elim
  · rename_i fn hf
    split at hs
    · exact hs.elim
    · rename_i c hb
      rw [kL_eq kId_eq] at hs
      refine (call_body (wpC_ok (P := P) (w0 := bs0 w) (E := E) n []) (args := args.toArray) (os := []) (h := h) (K := fun v os _ => R v os) hf hb ⟨Below.refl _ _, fun i o ho => by simp at ho, fun i j o p k ho => by simp at ho, hE, Chg.refl _ _, fun i o k ho => by simp at ho⟩ ?_).mono ?_
      · simpa using hs
      · rintro e w' ⟨v, os, _, h1, h2, _, h3⟩
        exact ⟨v, os, h1, h2, h3⟩
theorem calls_val {P : Program} {n : Nat} {f : FuncId} {args : List Value} {h : Hint} {v : Value} {w : World} (hs : wpF P [] n f args h fun u _ => u = v) :
    Calls P f args.toArray w fun e w' => e = .returned v ∧ Below w.heap.size w w' :=
  (calls_of_wpF (fun e he => by cases he) hs).mono fun e w' ⟨u, os, h1, h2, h3⟩ => ⟨by rw [h1, h3], h2.below⟩
theorem ok_own {base el size n cap : Nat} {a : Option Addr} {xs : List Value} {w : World} (hz : 0 < size) (h : Ob.ok base (Ob.mk 0 xs el (some ⟨a, n, cap, size⟩)) w) : w.ownsRow base el size (.slice a n cap) n xs := by
  cases size with
  | zero => omega
  | succ s => exact h.1
theorem calls_list (i : Nat) {P : Program} {n m : Nat} {f : FuncId} {args : List Value} {h : Hint} {el : TypeId} {size : Nat} {xs : List Value} {w : World} (hz : 0 < size := by decide) (hs : wpF P [] n f args h fun u os => ∃ (a : Option Addr) (cap : Nat), lgo os i = some (Ob.mk 0 xs el (some ⟨a, m, cap, size⟩)) ∧ u = .slice a m cap) :
    Calls P f args.toArray w fun e w' => ∃ a cap, e = .returned (.slice a m cap) ∧ w'.ownsRow w.heap.size el size (.slice a m cap) m xs ∧ Below w.heap.size w w' :=
  (calls_of_wpF (fun e he => by cases he) hs).mono fun e w' ⟨u, os, h1, h2, a, cap, h3, h4⟩ => ⟨a, cap, by rw [h1, h4], (ok_own hz (h2.row i _ (by rw [← lgo_eq]; exact h3))), h2.below⟩
theorem calls_valE {P : Program} {E : List Ex} {n : Nat} {f : FuncId} {args : List Value} {h : Hint} {v : Value} {w : World} (hE : ExtOK E w) (hs : wpF P E n f args h fun u _ => u = v) :
    Calls P f args.toArray w fun e w' => e = .returned v ∧ Below w.heap.size w w' :=
  (calls_of_wpF hE hs).mono fun e w' ⟨u, os, h1, h2, h3⟩ => ⟨by rw [h1, h3], h2.below⟩
theorem calls_listE (i : Nat) {P : Program} {E : List Ex} {n m : Nat} {f : FuncId} {args : List Value} {h : Hint} {el : TypeId} {size : Nat} {xs : List Value} {w : World} (hE : ExtOK E w) (hz : 0 < size := by decide) (hs : wpF P E n f args h fun u os => ∃ (a : Option Addr) (cap : Nat), lgo os i = some (Ob.mk 0 xs el (some ⟨a, m, cap, size⟩)) ∧ u = .slice a m cap) :
    Calls P f args.toArray w fun e w' => ∃ a cap, e = .returned (.slice a m cap) ∧ w'.ownsRow w.heap.size el size (.slice a m cap) m xs ∧ Below w.heap.size w w' :=
  (calls_of_wpF hE hs).mono fun e w' ⟨u, os, h1, h2, a, cap, h3, h4⟩ => ⟨a, cap, by rw [h1, h4], (ok_own hz (h2.row i _ (by rw [← lgo_eq]; exact h3))), h2.below⟩
def firstOwn : List Ob → Option Ob
  | [] => none
  | o :: l => (match o.ow with | some _ => some o | none => firstOwn l)
theorem firstOwn_mem {os : List Ob} {o : Ob} (h : firstOwn os = some o) : ∃ i : Nat, os[i]? = some o := by
  induction os with
  | nil => cases h
  | cons p l ih =>
    simp only [firstOwn] at h
    split at h
    · simp only [Option.some.injEq] at h; subst h; exact ⟨0, rfl⟩
    · obtain ⟨i, hi⟩ := ih h; exact ⟨i + 1, by simpa using hi⟩
def LisR (el : TypeId) (size n : Nat) (xs : List Value) (u : Value) (os : List Ob) : Prop :=
  match firstOwn os with
  | some o => o.el = el ∧ o.cells = xs ∧ (match o.ow with | some w => w.size = size ∧ w.n = n ∧ u = .slice w.a w.n w.cap | none => False)
  | none => u = .slice none 0 0 ∧ n = 0 ∧ xs = []
theorem calls_lisR {P : Program} {E : List Ex} {n m : Nat} {f : FuncId} {args : List Value} {h : Hint} {el : TypeId} {size : Nat} {xs : List Value} {w : World} (hE : ExtOK E w) (hz : 0 < size := by decide) (hs : wpF P E n f args h (LisR el size m xs)) :
    Calls P f args.toArray w fun e w' => ∃ a cap, e = .returned (.slice a m cap) ∧ w'.ownsRow w.heap.size el size (.slice a m cap) m xs ∧ Below w.heap.size w w' := by
  refine (calls_of_wpF hE hs).mono ?_
  rintro e w' ⟨u, os, h1, h2, h3⟩
  unfold LisR at h3
  split at h3
  · rename_i o ho
    obtain ⟨e1, e2, h3⟩ := h3
    split at h3
    · rename_i v hv
      obtain ⟨e3, e4, e5⟩ := h3
      obtain ⟨i, hi⟩ := firstOwn_mem ho
      have hok := h2.row i o hi
      replace hok := hok.1
      unfold Ob.ok0 at hok
      rw [hv] at hok
      simp only at hok
      rw [e1, e2, e3, e4] at hok
      rw [e4] at e5
      exact ⟨v.a, v.cap, by rw [h1, e5], (by cases size with | zero => omega | succ s => exact hok), h2.below⟩
    · exact h3.elim
  · obtain ⟨rfl, rfl, rfl⟩ := h3
    exact ⟨none, 0, h1, World.ownsRow_nil w' _ _ _, h2.below⟩
def kRo : List (Option Addr × List Value) → (List Ob → Prop) → Prop
  | [], K => K []
  | r :: l, K => kRo l fun os => K (⟨0, r.2, 0, some ⟨r.1, 0, 0, 0⟩⟩ :: os)
def roRows : List (Option Addr × List Value) → List Ob
  | [] => []
  | r :: l => ⟨0, r.2, 0, some ⟨r.1, 0, 0, 0⟩⟩ :: roRows l
theorem kRo_eq (l : List (Option Addr × List Value)) (K : List Ob → Prop) : kRo l K = K (roRows l) := by
  induction l generalizing K with
  | nil => rfl
  | cons r l ih => simp [kRo, roRows, ih]
theorem roRows_at {l : List (Option Addr × List Value)} {i : Nat} {o : Ob} (h : (roRows l)[i]? = some o) : ∃ a xs, (a, xs) ∈ l ∧ o = ⟨0, xs, 0, some ⟨a, 0, 0, 0⟩⟩ := by
  induction l generalizing i with
  | nil => simp [roRows] at h
  | cons r l ih =>
    cases i with
    | zero => simp [roRows] at h; exact ⟨r.1, r.2, List.mem_cons_self .., h.symm⟩
    | succ i =>
      obtain ⟨a, xs, hm, ho⟩ := ih (i := i) (by simpa [roRows] using h)
      exact ⟨a, xs, List.mem_cons_of_mem _ hm, ho⟩
def wpGA (A : Asks) (P : Program) (E : List Ex) (rds : List (Option Addr × List Value)) (n : Nat) (f : FuncId) (args : List Value) (h : Hint) (R : Value → List Ob → Hint → Prop) : Prop :=
  match P.funcs[f]? with
  | none => False
  | some fn =>
    match fn.body with
    | none => False
    | some c => kRo rds fun os => kL kId (lapp args (repU (fn.ntmps - args.length))) fun l => wpC A P E n [] c ⟨l, os⟩ h fun e s h2 =>
      match e with
      | .normal => resS A P E fn s h2 R
      | .ret => resS A P E fn s h2 R
      | _ => False
def gRows : List Ob → List Nat → List RowT → (List (Option Addr × Nat) → Prop) → Prop
  | _, [], [], K => K []
  | os, j :: js, r :: rs, K =>
    match lgo os j with
    | some o => (match o.ow with
      | some x => (match x.size with
        | 0 => False
        | _ + 1 => o.el = r.el ∧ x.size = r.size ∧ x.n = r.n ∧ o.cells = r.cells ∧ gRows os js rs fun ads => K ((x.a, x.cap) :: ads))
      | none => o.el = r.el ∧ o.cells = r.cells ∧ (o.cells.length = r.n * r.size ∧ r.n ≤ maxLen ∧ 1 ≤ r.size) ∧ gRows os js rs fun ads => K ((some ⟨o.blk, 0, none⟩, r.n) :: ads))
    | none => r.n = 0 ∧ r.cells = [] ∧ 1 ≤ r.size ∧ gRows os js rs fun ads => K ((none, 0) :: ads)
  | _, _, _, _ => False
def gR (rows : List RowT) (v : List (Option Addr × Nat) → Value) (u : Value) (os : List Ob) (js : List Nat) : Prop :=
  match nodupB js with
  | true => gRows os js rows fun ads => u = v ads
  | false => False
def growR (A : Asks) (rows : List RowT) (v : List (Option Addr × Nat) → Value) (u : Value) (os : List Ob) (h : Hint) : Prop := A.perm h fun js _ => gR rows v u os js
abbrev wpG (P : Program) (E : List Ex) (rds : List (Option Addr × List Value)) (n : Nat) (f : FuncId) (args : List Value) (h : Hint) (rows : List RowT) (v : List (Option Addr × Nat) → Value) : Prop := wpGA asksReal P E rds n f args h (growR asksReal rows v)

theorem calls_of_wpG {P : Program} {E : List Ex} {rds : List (Option Addr × List Value)} {n : Nat} {f : FuncId} {args : List Value} {h : Hint} {R : Value → List Ob → Hint → Prop} {w : World} (hE : ExtOK E w) (hrd : ∀ a xs, (a, xs) ∈ rds → Rd w a xs)
    (hs : wpGA asksReal P E rds n f args h R) : Calls P f args.toArray w fun e w' => ∃ v os h', e = .returned v ∧ MRep (bs0 w) E os w' ∧ R v os h' := by
  unfold wpGA at hs
  split at hs
  · exact hs.elim
  · rename_i fn hf
    split at hs
    · exact hs.elim
    · rename_i c hb
      rw [kRo_eq, kL_eq kId_eq] at hs
      refine (call_body (wpC_ok (P := P) (w0 := bs0 w) (E := E) n []) (args := args.toArray) (os := roRows rds) (h := h) (K := R) hf hb ⟨Below.refl _ _, fun i o ho => ?_, fun i j o p k ho hp hk hd => ?_, hE, Chg.refl _ _, fun i o k ho hk => ?_⟩ ?_).mono ?_
      · obtain ⟨a, xs, hm, rfl⟩ := roRows_at ho
        exact ⟨hrd a xs hm, True.intro⟩
      · obtain ⟨a, xs, hm, rfl⟩ := roRows_at ho
        cases Ob.kp_lit.1 hk
      · obtain ⟨a, xs, hm, rfl⟩ := roRows_at ho
        cases Ob.kp_lit.1 hk
      · simpa using hs
      · rintro e w' ⟨v, os, h', h1, h2, _, h3⟩
        exact ⟨v, os, h', h1, h2, h3⟩
theorem gRows_ok {w0 : Bs} {E : List Ex} {os : List Ob} {w : World} (hm : MRep w0 E os w) : ∀ {rows : List RowT} {js : List Nat} {K : List (Option Addr × Nat) → Prop}, gRows os js rows K →
    ∃ ads, K ads ∧ ads.length = rows.length ∧ ∀ (i : Nat) (q : Ob), (obsOf rows ads)[i]? = some q → (q.ok w0.heap.size w ∧ ∀ u, q.ow = some u → AOK u.a u.n ∧ u.n ≤ u.cap) ∧ ((∀ k, ¬ q.dep k) ∨ ∃ j o, js[i]? = some j ∧ os[j]? = some o ∧ ∀ k, q.dep k → o.dep k ∧ o.key = some k) := by
  intro rows
  induction rows with
  | nil =>
    intro js K h
    cases js with
    | nil => exact ⟨[], h, rfl, fun i q hq => by simp [obsOf] at hq⟩
    | cons j js => exact h.elim
  | cons r rs ih =>
    intro js K h
    cases js with
    | nil => exact h.elim
    | cons j js =>
      simp only [gRows] at h
      have step : ∀ (p : Option Addr × Nat) (ads : List (Option Addr × Nat)), ads.length = rs.length →
          (∀ (i : Nat) (q : Ob), (obsOf rs ads)[i]? = some q → (q.ok w0.heap.size w ∧ ∀ u, q.ow = some u → AOK u.a u.n ∧ u.n ≤ u.cap) ∧ ((∀ k, ¬ q.dep k) ∨ ∃ j o, js[i]? = some j ∧ os[j]? = some o ∧ ∀ k, q.dep k → o.dep k ∧ o.key = some k)) →
          (let q : Ob := ⟨0, r.cells, r.el, some ⟨p.1, r.n, p.2, r.size⟩⟩; (q.ok w0.heap.size w ∧ AOK p.1 r.n ∧ r.n ≤ p.2) ∧ ((∀ k, ¬ q.dep k) ∨ ∃ o, os[j]? = some o ∧ ∀ k, q.dep k → o.dep k ∧ o.key = some k)) →
          (p :: ads).length = (r :: rs).length ∧ ∀ (i : Nat) (q : Ob), (obsOf (r :: rs) (p :: ads))[i]? = some q → (q.ok w0.heap.size w ∧ ∀ u, q.ow = some u → AOK u.a u.n ∧ u.n ≤ u.cap) ∧ ((∀ k, ¬ q.dep k) ∨ ∃ j' o, (j :: js)[i]? = some j' ∧ os[j']? = some o ∧ ∀ k, q.dep k → o.dep k ∧ o.key = some k) := by
        intro p ads hl hq h0
        refine ⟨by simp [hl], fun i q hi => ?_⟩
        cases i with
        | zero =>
          simp [obsOf] at hi
          subst hi
          obtain ⟨⟨h1, h2⟩, h3⟩ := h0
          refine ⟨⟨h1, fun u hu => ?_⟩, h3.imp id fun ⟨o, ho, hk⟩ => ⟨j, o, rfl, ho, hk⟩⟩
          simp only [Option.some.injEq] at hu
          subst hu
          exact h2
        | succ i =>
          obtain ⟨h1, h2⟩ := hq i q (by simpa [obsOf] using hi)
          exact ⟨h1, h2.imp id fun ⟨j', o, hj, ho, hk⟩ => ⟨j', o, by simpa using hj, ho, hk⟩⟩
      split at h
      · rename_i o ho
        rw [lgo_eq] at ho
        split at h
        · rename_i x hx
          split at h
          · exact h.elim
          · rename_i s hs
            obtain ⟨e1, e2, e3, e4, h⟩ := h
            obtain ⟨ads, hk, hl, hq⟩ := ih h
            refine ⟨_, hk, step _ ads hl hq ⟨⟨?_, ?_⟩, Or.inr ⟨o, ho, ?_⟩⟩⟩
            · have hok := (hm.row _ o ho).1
              refine Ob.ok_lit ?_
              unfold Ob.ok0 at hok ⊢
              rw [hx] at hok
              simp only [hs] at hok
              have hs2 : r.size = s + 1 := by rw [← e2, hs]
              simp only [hs2]
              rw [e1, e3, e4] at hok
              exact hok
            · have hok := hm.row _ o ho
              replace hok := hok.1
              unfold Ob.ok0 at hok
              rw [hx] at hok
              simp only [hs] at hok
              obtain ⟨a', cap', ha, haok, hcap⟩ := owns_form hok
              injection ha with h1 _ h3
              rw [← e3, h1, h3]
              exact ⟨haok, hcap⟩
            · intro k hd
              have hs2 : r.size = s + 1 := by rw [← e2, hs]
              have hd := Ob.dep_lit.1 hd
              unfold Ob.dep0 at hd
              simp only [hs2] at hd
              have hk : o.key = some k := by
                unfold Ob.key
                rw [hx]
                simp only [hs]
                exact hd
              exact ⟨Ob.key_dep hk, hk⟩
        · rename_i hx
          obtain ⟨e1, e4, ⟨e5, e6, e7⟩, h⟩ := h
          obtain ⟨ads, hk, hl, hq⟩ := ih h
          obtain ⟨s, hs⟩ : ∃ s, r.size = s + 1 := ⟨r.size - 1, by omega⟩
          have hpl := hm.plain ho hx
          refine ⟨_, hk, step _ ads hl hq ⟨⟨?_, ?_⟩, Or.inr ⟨o, ho, ?_⟩⟩⟩
          · refine Ob.ok_lit ?_
            unfold Ob.ok0
            simp only [hs]
            refine ⟨by rw [← e4, e5, hs], Or.inr ⟨o.blk, r.n, o.cells.toArray, rfl, hpl.1, by rw [← e1]; exact hpl.2, Nat.le_refl _, e6, by simp [e5, hs], ?_⟩⟩
            rw [← e4]
            exact List.take_of_length_le (by simp [e5, hs])
          · exact ⟨⟨(fun e => by cases e), (fun _ q hq => by injection hq with hq; subst hq; rfl)⟩, Nat.le_refl _⟩
          · intro k hd
            have hd := Ob.dep_lit.1 hd
            unfold Ob.dep0 at hd
            simp only [hs] at hd
            simp at hd
            have hk : o.key = some k := by
              unfold Ob.key
              rw [hx]
              simp [hd]
            exact ⟨Ob.key_dep hk, hk⟩
      · obtain ⟨e1, e2, e3, h⟩ := h
        obtain ⟨ads, hk, hl, hq⟩ := ih h
        obtain ⟨s, hs⟩ : ∃ s, r.size = s + 1 := ⟨r.size - 1, by omega⟩
        refine ⟨_, hk, step _ ads hl hq ⟨⟨?_, ?_⟩, Or.inl fun k hd => ?_⟩⟩
        · refine Ob.ok_lit ?_
          unfold Ob.ok0
          simp only [hs, e1, e2]
          exact World.ownsRow_nil w _ _ _
        · exact ⟨⟨(fun _ => e1), (fun _ q hq => by cases hq)⟩, by rw [e1]; exact Nat.zero_le _⟩
        · have hd := Ob.dep_lit.1 hd
          unfold Ob.dep0 at hd
          simp only [hs] at hd
          cases hd
theorem specG_of {P : Program} {E : List Ex} {rds : List (Option Addr × List Value)} {n : Nat} {f : FuncId} {args : List Value} {h : Hint} {rows : List RowT} {v : List (Option Addr × Nat) → Value} (hs : wpG P E rds n f args h rows v) : SpecG P E rds f args.toArray rows v := by
  intro w hE hrd
  refine (calls_of_wpG hE hrd hs).mono ?_
  rintro e w' ⟨u, os, h', he, hm, hR⟩
  unfold growR at hR
  simp only [ar_perm, askPerm] at hR
  split at hR
  · rename_i js h2
    unfold gR at hR
    split at hR
    · rename_i hnd
      have hnd := nodupB_ok hnd
      obtain ⟨ads, hu, hl, hq⟩ := gRows_ok hm hR
      refine ⟨ads, by rw [he, hu], ⟨hl, fun i o hi => ?_, fun i j o p k hi hj hk hd => ?_⟩, hm.below⟩
      · obtain ⟨⟨h1, h2⟩, h3⟩ := hq i o hi
        refine ⟨h1, fun k hd => ?_, h2⟩
        rcases h3 with h3 | ⟨j, o', hj, ho', h3⟩
        · exact absurd hd (h3 k)
        · exact ((hm.row _ o' ho').klt (Or.inl (h3 k hd).2)).1
      · rcases (hq i o hi).2 with h3 | ⟨j1, o1, hj1, ho1, h3⟩
        · exact absurd (Ob.kp_dep hk) (h3 k)
        · rcases (hq j p hj).2 with h4 | ⟨j2, o2, hj2, ho2, h4⟩
          · exact absurd hd (h4 k)
          · have e := hm.apart j1 j2 o1 o2 k ho1 ho2 (Or.inl (h3 k (Ob.kp_dep hk)).2) (h4 k hd).1
            subst e
            have hlt : i < js.length := (List.getElem?_eq_some_iff.1 hj1).1
            exact (List.getElem?_inj hlt hnd).1 (by rw [hj1, hj2])
    · exact hR.elim
  · exact hR.elim
theorem SpecG.toQ {P : Program} {E : List Ex} {f : FuncId} {args : Array Value} {v : Value} (h : SpecG P E [] f args [] fun _ => v) : SpecQ P E f args v := by
  intro w hE
  exact (h w hE (fun a xs hm => by cases hm)).mono fun e w' ⟨_, he, _, hb⟩ => ⟨he, hb⟩
theorem ext_nil (w : World) : ExtOK [] w := fun e he => by cases he
/-! Contracts that may change rows of the caller's. -/
def ghRows : List Gh → List Ob
  | [] => []
  | g :: l => ghOb 0 g.ro :: ghRows l
theorem ghRows_at {l : List Gh} {i : Nat} {o : Ob} (h : (ghRows l)[i]? = some o) : ∃ g, g ∈ l ∧ o = ghOb 0 g.ro := by
  induction l generalizing i with
  | nil => simp [ghRows] at h
  | cons g l ih =>
    cases i with
    | zero => simp [ghRows] at h; exact ⟨g, List.mem_cons_self .., h.symm⟩
    | succ i =>
      obtain ⟨g', hm, ho⟩ := ih (i := i) (by simpa [ghRows] using h)
      exact ⟨g', List.mem_cons_of_mem _ hm, ho⟩
def wpHA (A : Asks) (P : Program) (E : List Ex) (rds : List (Option Addr × List Value)) (ghs : List Gh) (ins : List Ob) (n : Nat) (f : FuncId) (args : List Value) (h : Hint) (R : Value → List Ob → Hint → Prop) : Prop :=
  match P.funcs[f]? with
  | none => False
  | some fn =>
    match fn.body with
    | none => False
    | some c => kRo rds fun os1 => kAppL os1 (lapp (ghRows ghs) ins) fun os => kL kId (lapp args (repU (fn.ntmps - args.length))) fun l => wpC A P E n [] c ⟨l, os⟩ h fun e s h2 =>
      match e with
      | .normal => resS A P E fn s h2 R
      | .ret => resS A P E fn s h2 R
      | _ => False
def ownQ (o : Ob) : Prop :=
  match o.gh.g with
  | some g => g.rw = true ∧ ownQ0 o
  | none => ownQ0 o
where ownQ0 (o : Ob) : Prop :=
  match o.ow with
  | none => True
  | some u => (match u.size with | 0 => o.cells = [] | _ + 1 => True)
def ownsQ : List Ob → Prop
  | [] => True
  | o :: l => ownQ o ∧ ownsQ l
theorem ownQ_at {o : Ob} (h : ownQ o) {k : Nat} (hd : o.dep k) : o.kp k := by
  have h0 : ownQ.ownQ0 o → o.dep0 k → o.key = some k := by
    intro h1 h2
    unfold ownQ.ownQ0 at h1
    unfold Ob.dep0 at h2
    unfold Ob.key
    split at h1
    · rename_i e; rw [e] at h2 ⊢; simp only at h2 ⊢; rw [h2]
    · rename_i u e
      rw [e] at h2 ⊢
      simp only at h2 ⊢
      split at h1
      · rename_i e2
        rw [e2] at h2
        simp only at h2
        exact absurd h1 h2.1
      · rename_i e2
        rw [e2] at h2 ⊢
        simp only at h2 ⊢
        exact h2
  unfold ownQ at h
  split at h
  · rename_i g hg
    rcases hd with hd | hd
    · exact Or.inl (h0 h.2 hd)
    · right
      unfold GhB.dep at hd
      unfold GhB.own
      rw [hg] at hd ⊢
      exact ⟨h.1, hd⟩
  · rename_i hg
    rcases hd with hd | hd
    · exact Or.inl (h0 h hd)
    · unfold GhB.dep at hd
      rw [hg] at hd
      exact hd.elim
theorem ownsQ_at {l : List Ob} (h : ownsQ l) : ∀ o, o ∈ l → ∀ k, o.dep k → o.kp k := by
  induction l with
  | nil => intro o ho; cases ho
  | cons p l ih =>
    intro o ho k hd
    cases ho with
    | head => exact ownQ_at h.1 hd
    | tail _ ho => exact ih h.2 o ho k hd
theorem roRows_length (l : List (Option Addr × List Value)) : (roRows l).length = l.length := by
  induction l with
  | nil => rfl
  | cons r l ih => simp [roRows, ih]
theorem ghRows_length (l : List Gh) : (ghRows l).length = l.length := by
  induction l with
  | nil => rfl
  | cons r l ih => simp [ghRows, ih]
def gC {α : Type} (inv : α → Prop) (outs : α → List Ob) (v : α → Value) (u : Value) (os : List Ob) (js : List Nat) : Prop :=
  match nodupB js with
  | true => ∃ x, inv x ∧ u = v x ∧ ownsQ (outs x) ∧ rowsAre os js (outs x)
  | false => False
def growC (A : Asks) {α : Type} (inv : α → Prop) (outs : α → List Ob) (v : α → Value) (u : Value) (os : List Ob) (h : Hint) : Prop := ghoS A (fun _ => true) 4 os h fun os2 h2 => A.perm h2 fun js _ => gC inv outs v u os2 js
abbrev wpH (P : Program) (E : List Ex) (rds : List (Option Addr × List Value)) (ghs : List Gh) (ins : List Ob) (n : Nat) (f : FuncId) (args : List Value) (h : Hint) (α : Type) (inv : α → Prop) (outs : α → List Ob) (v : α → Value) : Prop := wpHA asksReal P E rds ghs ins n f args h (growC asksReal inv outs v)
theorem specC_of {P : Program} {E : List Ex} {rds : List (Option Addr × List Value)} {ghs : List Gh} {ins : List Ob} {n : Nat} {f : FuncId} {args : List Value} {h : Hint} {α : Type} {inv : α → Prop} {outs : α → List Ob} {v : α → Value} (hs : wpH P E rds ghs ins n f args h α inv outs v) :
    SpecC P E rds ghs ins f args.toArray α inv outs v := by
  intro w0 w hb hE hrd hgs hin hap hsep
  unfold wpH wpHA at hs
  split at hs
  · exact hs.elim
  · rename_i fn hf
    split at hs
    · exact hs.elim
    · rename_i c hbd
      rw [kRo_eq, kAppL_eq, kL_eq kId_eq, lapp_eq] at hs
      have cs : ∀ {i : Nat} {o : Ob}, (roRows rds ++ (ghRows ghs ++ ins))[i]? = some o → (∃ a xs, (a, xs) ∈ rds ∧ o = ⟨0, xs, 0, some ⟨a, 0, 0, 0⟩⟩) ∨ (∃ g, g ∈ ghs ∧ o = ghOb 0 g.ro) ∨ (rds.length + ghs.length ≤ i ∧ ins[i - rds.length - ghs.length]? = some o) := by
        intro i o ho
        have l1 := roRows_length rds
        have l2 := ghRows_length ghs
        rw [List.getElem?_append] at ho
        split at ho
        · exact Or.inl (roRows_at ho)
        · rw [List.getElem?_append] at ho
          split at ho
          · exact Or.inr (Or.inl (ghRows_at ho))
          · exact Or.inr (Or.inr ⟨by omega, by rw [l1, l2] at ho; exact ho⟩)
      have nk : ∀ {a : Option Addr} {xs : List Value} {k : Nat}, ¬ Ob.kp ⟨0, xs, 0, some ⟨a, 0, 0, 0⟩⟩ k := fun h => by cases Ob.kp_lit.1 h
      have ng : ∀ {g : Gh} {k : Nat}, ¬ Ob.kp (ghOb 0 g.ro) k := fun h => by
        rcases h with h | h
        · cases h
        · cases h.1
      refine (call_body (wpC_ok (P := P) (w0 := { toWorld := w0, w1 := w, X := fun k => ∃ o, o ∈ ins ∧ o.kp k }) (E := E) n []) (args := args.toArray) (os := roRows rds ++ (ghRows ghs ++ ins)) (h := h) (K := growC asksReal inv outs v) hf hbd ⟨hb, fun i o ho => ?_, fun i j o p k ho hp hk hd => ?_, hE, Chg.refl _ _, fun i o k ho hk => ?_⟩ ?_).mono ?_
      · rcases cs ho with ⟨a, xs, hm, rfl⟩ | ⟨g, hm, rfl⟩ | ⟨_, hm⟩
        · exact ⟨hrd a xs hm, True.intro⟩
        · exact ⟨fun k v hv => by simp [ghOb] at hv, hgs g hm, fun h => by cases h⟩
        · exact hin o (List.mem_of_getElem? hm)
      · rcases cs ho with ⟨a, xs, hm, rfl⟩ | ⟨g, hm, rfl⟩ | ⟨l1, hm⟩
        · exact (nk hk).elim
        · exact (ng hk).elim
        · rcases cs hp with ⟨a, xs, hm2, rfl⟩ | ⟨g, hm2, rfl⟩ | ⟨l2, hm2⟩
          · have hd := Ob.dep_lit.1 hd
            exact absurd hd.2 (((hsep o (List.mem_of_getElem? hm) k hk).1 a xs hm2) hd.1)
          · rcases hd with hd | hd
            · exact absurd rfl hd.1
            · exact absurd hd ((hsep o (List.mem_of_getElem? hm) k hk).2 g hm2)
          · have := hap _ _ o p k hm hm2 hk hd
            omega
      · rcases cs ho with ⟨a, xs, hm, rfl⟩ | ⟨g, hm, rfl⟩ | ⟨_, hm⟩
        · exact (nk hk).elim
        · exact (ng hk).elim
        · exact Or.inl ⟨o, List.mem_of_getElem? hm, hk⟩
      · simp only [lapp_eq] at hs ⊢
        simpa using hs
      · rintro e w' ⟨u, os, h', he, hm, _, hR⟩
        obtain ⟨os2, h2, hm2, hR, _⟩ := ghoS_ok hR hm
        simp only [ar_perm, askPerm] at hR
        split at hR
        · rename_i js h3
          unfold gC at hR
          split at hR
          · rename_i hnd
            have hnd := nodupB_ok hnd
            obtain ⟨x, hx, rfl, how, hra⟩ := hR
            obtain ⟨hl, hat⟩ := rowsAre_at hra
            have hw : ∀ (m : Nat) (o : Ob), (outs x)[m]? = some o → ∃ j p, js[m]? = some j ∧ os2[j]? = some p ∧ Weak p o := by
              intro m o ho
              have hlt := (List.getElem?_eq_some_iff.1 ho).1
              have hj : js[m]? = some js[m] := by simp
              obtain ⟨p, hp, hw⟩ := hat m js[m] o hj ho
              exact ⟨_, p, hj, hp, hw⟩
            refine ⟨x, hx, he, hm2.below, hm2.chg, fun o ho => ?_, fun i j o p k hi hj hk hd => ?_⟩
            · obtain ⟨m, hm'⟩ := List.mem_iff_getElem?.1 ho
              obtain ⟨j, p, h1, h2, h3⟩ := hw m o hm'
              exact ⟨(h3.1 _ _ (hm2.row j p h2)).1, fun k hk => hm2.kf j p k h2 (h3.2 k (ownsQ_at how o ho k hk))⟩
            · obtain ⟨i', o', a1, a2, a3⟩ := hw i o hi
              obtain ⟨j', p', b1, b2, b3⟩ := hw j p hj
              have e := hm2.apart i' j' o' p' k a2 b2 (a3.2 k hk) ((b3.1 _ _ (hm2.row j' p' b2)).2 k hd)
              subst e
              exact (List.getElem?_inj (List.getElem?_eq_some_iff.1 a1).1 hnd).1 (by rw [a1, b1])
          · exact hR.elim
        · exact hR.elim
end Go.Proofs.YtjnaficgcellkaaDoor
