/- Words of api.Innings; copies of lists (slices.Clone) and of states (fresh.Innings, the reference's Clone). -/
import Derived.Test.YtjdldofgkhibnaaGreatDoorVz
import Derived.KernelRfl
import Derived.Test.YtjdldofgkhibnaaGreatDoorProg
set_option linter.unusedSimpArgs false
set_option linter.unusedVariables false
set_option maxRecDepth 100000
namespace Go.Proofs.YtjdldofgkhibnaaGreatDoor
open Go.RowKit


def nthA : List (Option Addr × Nat) → Nat → Option Addr × Nat
  | [], _ => (none, 0)
  | p :: _, 0 => p
  | _ :: l, n + 1 => nthA l n
def cU (l : List Int) : List Value := l.map (Value.int .u8)
def cI (l : List Int) : List Value := l.map (Value.int .i64)
def cB (l : List Bool) : List Value := l.map Value.bool
def cU_rd (l : List Int) (m _ : Nat) : Value := .int .u8 (l.getD m 0)
def cI_rd (l : List Int) (m _ : Nat) : Value := .int .i64 (l.getD m 0)
def cB_rd (l : List Bool) (m _ : Nat) : Value := .bool (l.getD m false)
def cU_st (l : List Int) (m _ : Nat) (v : Value) : List Value := match v with | .int _ n => cU (l.set m n) | _ => []
def cI_st (l : List Int) (m _ : Nat) (v : Value) : List Value := match v with | .int _ n => cI (l.set m n) | _ => []
def cB_st (l : List Bool) (m _ : Nat) (v : Value) : List Value := match v with | .bool b => cB (l.set m b) | _ => []
def cI_dec : List Value → List Int
  | .int _ n :: l => n :: cI_dec l
  | _ => []
def cU_dec : List Value → List Int
  | .int _ n :: l => n :: cU_dec l
  | _ => []
def cB_dec : List Value → List Bool
  | .bool n :: l => n :: cB_dec l
  | _ => []
theorem cU_len (l : List Int) : (cU l).length = l.length * 1 := by simp [cU]
theorem cI_len (l : List Int) : (cI l).length = l.length * 1 := by simp [cI]
theorem cB_len (l : List Bool) : (cB l).length = l.length * 1 := by simp [cB]
theorem cU_one (l : List Int) : ∀ u ∈ cU l, u.oneCell' = true := by simp [cU]; intros; rfl
theorem cI_one (l : List Int) : ∀ u ∈ cI l, u.oneCell' = true := by simp [cI]; intros; rfl
theorem cB_one (l : List Bool) : ∀ u ∈ cB l, u.oneCell' = true := by
  intro u hu
  obtain ⟨x, _, rfl⟩ := List.mem_map.1 hu
  rfl
theorem cU_get {l : List Int} {k : Nat} (h : k < l.length) : lgo (cU l) (k * 1) = some (.int .u8 (l.getD k 0)) := by rw [lgo_eq]; simp [cU, h]
theorem cI_get {l : List Int} {k : Nat} (h : k < l.length) : lgo (cI l) (k * 1) = some (.int .i64 (l.getD k 0)) := by rw [lgo_eq]; simp [cI, h]
theorem cB_get {l : List Bool} {k : Nat} (h : k < l.length) : lgo (cB l) (k * 1) = some (.bool (l.getD k false)) := by rw [lgo_eq]; simp [cB, h]
theorem cU_set (l : List Int) (k : Nat) (n : Int) : lset (cU l) (k * 1) (.int .u8 n) = cU (l.set k n) := by rw [lset_eq]; simp [cU, List.map_set]
theorem cI_set (l : List Int) (k : Nat) (n : Int) : lset (cI l) (k * 1) (.int .i64 n) = cI (l.set k n) := by rw [lset_eq]; simp [cI, List.map_set]
theorem cB_set (l : List Bool) (k : Nat) (n : Bool) : lset (cB l) (k * 1) (.bool n) = cB (l.set k n) := by rw [lset_eq]; simp [cB, List.map_set]
theorem cI_app (l : List Int) (n : Int) : lapp (cI l) [.int .i64 n] = cI (l ++ [n]) := by rw [lapp_eq]; simp [cI]
/-- The state of an innings, plain. -/
structure Inn where
  sd : Int
  tg : Int
  ov : Int
  rn : Int
  wk : Int
  e1 : Int
  e2 : Int
  e3 : Int
  e4 : Int
  e5 : Int
  cm : Int
  io : Int
  st : Int
  ot : Int
  bts : List Int
  bw : Int
  bws : List Int
  bfs : List Int
  fr : Bool
  bwd : List Int
  fh : Bool
  ba : Int
  kp : Int
  ou : Int
  sbs : List Bool
  r1 : Int
  r2 : Int
  en : Int
/-- Where its lists lie, and their capacities. -/
structure Adr where
  a1 : Option Addr
  a2 : Option Addr
  a3 : Option Addr
  a4 : Option Addr
  a5 : Option Addr
  c1 : Nat
  c2 : Nat
  c3 : Nat
  c4 : Nat
  c5 : Nat
def adA (ads : List (Option Addr × Nat)) : Adr := ⟨(nthA ads 0).1, (nthA ads 1).1, (nthA ads 2).1, (nthA ads 3).1, (nthA ads 4).1, (nthA ads 0).2, (nthA ads 1).2, (nthA ads 2).2, (nthA ads 3).2, (nthA ads 4).2⟩
def inV (s : Inn) (A : Adr) : Value := .agg #[.int .i64 s.sd, .int .i64 s.tg, .int .i64 s.ov, .int .i64 s.rn, .int .i64 s.wk, .int .i64 s.e1, .int .i64 s.e2, .int .i64 s.e3, .int .i64 s.e4, .int .i64 s.e5, .int .i64 s.cm, .int .i64 s.io, .int .i64 s.st, .int .i64 s.ot,
  .slice A.a1 s.bts.length A.c1, .int .i64 s.bw, .slice A.a2 s.bws.length A.c2, .slice A.a3 s.bfs.length A.c3, .bool s.fr, .slice A.a4 s.bwd.length A.c4, .bool s.fh, .int .i64 s.ba, .int .i64 s.kp, .int .i64 s.ou, .slice A.a5 s.sbs.length A.c5, .int .i64 s.r1, .int .i64 s.r2, .int .u8 s.en]
def rdI (s : Inn) (A : Adr) : List (Option Addr × List Value) := [(A.a1, cU s.bts), (A.a2, cI s.bws), (A.a3, cI s.bfs), (A.a4, cI s.bwd), (A.a5, cB s.sbs)]
/-- The lists lie well, and are no great ones. -/
structure OkI (s : Inn) (A : Adr) : Prop where
  k1 : AOK A.a1 s.bts.length
  k2 : AOK A.a2 s.bws.length
  k3 : AOK A.a3 s.bfs.length
  k4 : AOK A.a4 s.bwd.length
  k5 : AOK A.a5 s.sbs.length
  l1 : s.bts.length ≤ 1000000
  l2 : s.bws.length ≤ 1000000
  l3 : s.bfs.length ≤ 1000000
  l4 : s.bwd.length ≤ 1000000
  l5 : s.sbs.length ≤ 1000000

end Go.Proofs.YtjdldofgkhibnaaGreatDoor
