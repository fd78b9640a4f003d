/- What the library's variables hold, kept by whatever leaves old memory alone; FormatInt and Cut by their contracts. -/
import Derived.Test.YtjnaficgcellkaaDoorStr
import Derived.Test.YtjnaficgcellkaaDoorShelf
import Derived.Lib.ItoaLen
import Derived.Lib.SmallJoins
import Derived.Lib.ConvBytes
set_option linter.unusedSimpArgs false
set_option linter.unusedVariables false
namespace Go.Proofs.YtjnaficgcellkaaDoor
open Go.RowKit

structure Env (w : World) : Prop where
  pow : Lib.TabIs Tryd.prog w "internal/strconv.uint64pow10" .u64 Lib.pow10Tab
  max : ∃ m, w.cell? ⟨2, 0, none⟩ = some (.int .i64 m)
  syn : ∃ te pe, w.var? Tryd.prog "strconv.ErrSyntax" = some #[.iface te pe]
  rng : ∃ te pe, w.var? Tryd.prog "strconv.ErrRange" = some #[.iface te pe]

theorem block_of_cell {w : World} {b o : Nat} {v : Value} (h : w.cell? ⟨b, o, none⟩ = some v) : b < w.heap.size := by
  rcases Nat.lt_or_ge b w.heap.size with hlt | hge
  · exact hlt
  · exfalso
    have : w.heap[b]? = none := by simp [hge]
    simp [World.cell?, this] at h
theorem cell_stays {w w' : World} {b o : Nat} {v : Value} (h : w.cell? ⟨b, o, none⟩ = some v) (hb : Below w.heap.size w w') : w'.cell? ⟨b, o, none⟩ = some v := by
  rw [hb.cell (p := ⟨b, o, none⟩) (block_of_cell h)]; exact h
theorem Env.stays {w w' : World} (h : Env w) (hb : Below w.heap.size w w') : Env w' where
  pow := Joins.var_stays (show Tryd.prog.globalNamed "internal/strconv.uint64pow10" = some 3 by kernel_rfl) h.pow hb (Nat.le_refl _)
  max := h.max.imp fun m hm => cell_stays hm hb
  syn := h.syn.imp fun t1 h1 => h1.imp fun p1 h1 => Joins.var_stays (show Tryd.prog.globalNamed "strconv.ErrSyntax" = some 4 by kernel_rfl) h1 hb (Nat.le_refl _)
  rng := h.rng.imp fun t2 h2 => h2.imp fun p2 h2 => Joins.var_stays (show Tryd.prog.globalNamed "strconv.ErrRange" = some 5 by kernel_rfl) h2 hb (Nat.le_refl _)

theorem below_sort (w : World) (k : Nat) (os : Array Obj) : Below w.heap.size w («Sort».grow (w.drewN k) os) :=
  ⟨rfl, rfl, rfl, by simp, fun b hb => Sort.heap_grow_old (w.drewN k) os hb⟩
theorem fmt_any (n : Int) (w : World) (hn : I64 n) (h : Env w) :
    Calls Tryd.prog 47 #[.int .i64 n, .int .i64 10] w fun e w' => e = .returned (S (Lib.itoa n)) ∧ Below w.heap.size w w' := by
  refine (Tryd.strconv_FormatInt_10 n hn.1 hn.2 w h.pow).mono ?_
  rintro e w' ⟨rfl, k, os, rfl⟩
  exact ⟨rfl, below_sort w k os⟩
theorem fmt_small (n : Int) (w : World) (h0 : 0 ≤ n) (h1 : n < 100) :
    Calls Tryd.prog 47 #[.int .i64 n, .int .i64 10] w fun e w' => e = .returned (S (Lib.itoa n)) ∧ Below w.heap.size w w' := by
  obtain ⟨i, rfl⟩ : ∃ i : Nat, n = (i : Int) := ⟨n.toNat, by omega⟩
  refine (Tryd.strconv_FormatInt_10_small i (by omega) w).mono ?_
  rintro e w' ⟨rfl, rfl⟩
  rw [Lib.itoa_nonneg]
  exact ⟨rfl, Below.refl _ _⟩
theorem below_drewN (w : World) (n : Nat) : Below w.heap.size w (w.drewN n) := ⟨rfl, rfl, rfl, Nat.le_refl _, fun _ _ => rfl⟩
theorem cut_any (l p : List UInt8) (w : World) (hl : l.length < 4294967281) (h : Env w) :
    Calls Tryd.prog 35 #[S l, S p] w fun e w' => e = .returned (.tuple #[S (Lib.cut l p).1, S (Lib.cut l p).2.1, .bool (Lib.cut l p).2.2]) ∧ Below w.heap.size w w' := by
  obtain ⟨m, hm⟩ := h.max
  have hc := Tryd.strings_Cut (str l) (str p) m w (by rw [str_size]; exact hl) hm
  rw [str_list, str_list] at hc
  refine hc.mono ?_
  rintro e w' ⟨rfl, k, rfl⟩
  exact ⟨rfl, below_drewN w k⟩
theorem bytesWorld_below (w : World) (e : TypeId) (s : ByteArray) : Below w.heap.size w (Lib.bytesWorld w e s) := by
  refine ⟨rfl, rfl, rfl, ?_, fun b hb => Lib.bytesWorld_at_old w e s b hb⟩
  rw [Lib.bytesWorld_size]; omega
theorem parse_ok (l : List UInt8) (v : Int) (w : World) (hl : l.length ≤ 281474976710656) (h : Lib.parseIntB 64 l = .ok v) :
    Calls Tryd.prog 52 #[S l, .int .i64 10, .int .i64 64] w fun e w' => e = .returned (.tuple #[.int .i64 v, .nilIface]) ∧ Below w.heap.size w w' := by
  have hc := Tryd.strconv_ParseInt_10_at64_ok (str l) (by rw [str_size]; omega) v (by rw [str_list]; exact h) w
  refine hc.mono ?_
  rintro e w' ⟨rfl, h⟩
  refine ⟨rfl, ?_⟩
  rcases h with rfl | ⟨t, rfl⟩
  · exact Below.refl _ _
  · exact bytesWorld_below _ _ _
theorem parse_range (l : List UInt8) (w : World) (hl : l.length ≤ 281474976710656) (h : Lib.parseIntB 64 l = .range) (henv : Env w) :
    Calls Tryd.prog 52 #[S l, .int .i64 10, .int .i64 64] w fun e w' => ∃ N, e = .returned (.tuple #[.int .i64 (Lib.intSat 64 l), .iface 105 (.pointer (some ⟨N, 0, none⟩))]) ∧ Below w.heap.size w w' := by
  obtain ⟨te, pe, hv⟩ := henv.rng
  have hc := Tryd.strconv_ParseInt_10_at64_range_var (str l) (by rw [str_size]; exact hl) (by rw [str_list]; exact h) te pe w hv
  rw [str_list] at hc
  refine hc.mono ?_
  rintro e w' ⟨N, rfl, _, _, hb⟩
  exact ⟨N, rfl, hb⟩
theorem parse_syn (l : List UInt8) (w : World) (hl : l.length ≤ 281474976710656) (h : Lib.parseIntB 64 l = Lib.parseIntB 64 []) (henv : Env w) :
    Calls Tryd.prog 52 #[S l, .int .i64 10, .int .i64 64] w fun e w' => ∃ N, e = .returned (.tuple #[.int .i64 0, .iface 105 (.pointer (some ⟨N, 0, none⟩))]) ∧ Below w.heap.size w w' := by
  obtain ⟨te, pe, hv⟩ := henv.syn
  have hc := Tryd.strconv_ParseInt_10_at64_syntax_var (str l) (by rw [str_size]; exact hl) (by rw [str_list]; exact h) te pe w hv
  refine hc.mono ?_
  rintro e w' ⟨N, rfl, _, _, hb⟩
  exact ⟨N, rfl, hb⟩
end Go.Proofs.YtjnaficgcellkaaDoor
