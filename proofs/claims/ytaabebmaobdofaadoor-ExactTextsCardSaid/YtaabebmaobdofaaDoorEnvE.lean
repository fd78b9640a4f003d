/- What the library's variables hold, kept by whatever leaves old memory alone; Cut and ParseInt by their contracts (seat of the ratios). -/
import Derived.Test.YtaabebmaobdofaaDoorRatN
import Derived.Test.YtaabebmaobdofaaDoorNumB
import Derived.Lib.SmallJoins
import Derived.Lib.ConvBytes
import Derived.Lib.ParseIntBTie
import Derived.Lib.QuietBelow
set_option linter.unusedSimpArgs false
set_option linter.unusedVariables false
namespace Go.Proofs.YtaabebmaobdofaaDoor
open Go.RowKit

theorem str_of (s : ByteArray) : str s.data.toList = s := by simp [str]
theorem str_toList (l : List UInt8) : (str l).toList = l := by rw [ByteArray.toList_eq, str_list]
theorem str_get (l : List UInt8) (k : Nat) (h : k < (str l).size) (h' : k < l.length) : (str l)[k]'h = l[k]'h' := by
  show (str l).data[k]'h = l[k]'h'
  simp [str]
theorem str_inj {a b : List UInt8} (h : str a = str b) : a = b := by
  have := congrArg (fun x : ByteArray => x.data.toList) h
  simpa [str] using this
theorem pow_stays {w w' : World} (h : Pow w) (hb : Below w.heap.size w w') : Pow w' :=
  Joins.var_stays (show Tryd.prog.globalNamed "internal/strconv.uint64pow10" = some 0 by kernel_rfl) h hb (Nat.le_refl _)

structure Env (w : World) : Prop where
  pow : Lib.TabIs Tryd.prog w "internal/strconv.uint64pow10" .u64 Lib.pow10Tab
  max : ∃ m, w.cell? ⟨1, 0, none⟩ = some (.int .i64 m)
  syn : ∃ te pe, w.var? Tryd.prog "strconv.ErrSyntax" = some #[.iface te pe]
  rng : ∃ te pe, w.var? Tryd.prog "strconv.ErrRange" = some #[.iface te pe]

theorem block_of_cell {w : World} {b o : Nat} {v : Value} (h : w.cell? ⟨b, o, none⟩ = some v) : b < w.heap.size := by
  rcases Nat.lt_or_ge b w.heap.size with hlt | hge
  · exact hlt
  · exfalso
    have : w.heap[b]? = none := by simp [hge]
    simp [World.cell?, this] at h
theorem cell_stays {w w' : World} {b o : Nat} {v : Value} (h : w.cell? ⟨b, o, none⟩ = some v) (hb : Below w.heap.size w w') : w'.cell? ⟨b, o, none⟩ = some v := by
  rw [hb.cell (p := ⟨b, o, none⟩) (block_of_cell h)]; exact h
theorem Env.stays {w w' : World} (h : Env w) (hb : Below w.heap.size w w') : Env w' := by
  obtain ⟨m, hm⟩ := h.max
  obtain ⟨t1, p1, h1⟩ := h.syn
  obtain ⟨t2, p2, h2⟩ := h.rng
  exact ⟨Joins.var_stays (show Tryd.prog.globalNamed "internal/strconv.uint64pow10" = some 0 by kernel_rfl) h.pow hb (Nat.le_refl _), ⟨m, cell_stays hm hb⟩,
    ⟨t1, p1, Joins.var_stays (show Tryd.prog.globalNamed "strconv.ErrSyntax" = some 2 by kernel_rfl) h1 hb (Nat.le_refl _)⟩,
    ⟨t2, p2, Joins.var_stays (show Tryd.prog.globalNamed "strconv.ErrRange" = some 3 by kernel_rfl) h2 hb (Nat.le_refl _)⟩⟩

theorem below_drewN (w : World) (n : Nat) : Below w.heap.size w (w.drewN n) := ⟨rfl, rfl, rfl, Nat.le_refl _, fun _ _ => rfl⟩
theorem cut_any (l p : List UInt8) (w : World) (hl : l.length < 4294967281) (h : Env w) :
    Calls Tryd.prog 55 #[S l, S p] w fun e w' => e = .returned (.tuple #[S (Lib.cut l p).1, S (Lib.cut l p).2.1, .bool (Lib.cut l p).2.2]) ∧ Below w.heap.size w w' := by
  obtain ⟨m, hm⟩ := h.max
  have hc := Tryd.strings_Cut (str l) (str p) m w (by rw [str_size]; exact hl) hm
  rw [str_list, str_list] at hc
  refine hc.mono ?_
  rintro e w' ⟨rfl, k, rfl⟩
  exact ⟨rfl, below_drewN w k⟩
theorem bytesWorld_below (w : World) (e : TypeId) (s : ByteArray) : Below w.heap.size w (Lib.bytesWorld w e s) := by
  refine ⟨rfl, rfl, rfl, ?_, fun b hb => Lib.bytesWorld_at_old w e s b hb⟩
  rw [Lib.bytesWorld_size]; omega
theorem parse_ok (l : List UInt8) (v : Int) (w : World) (hl : l.length ≤ 281474976710656) (h : Lib.parseIntB 64 l = .ok v) :
    Calls Tryd.prog 56 #[S l, .int .i64 10, .int .i64 64] w fun e w' => e = .returned (.tuple #[.int .i64 v, .nilIface]) ∧ Below w.heap.size w w' := by
  have hc := Tryd.strconv_ParseInt_10_at64_ok (str l) (by rw [str_size]; omega) v (by rw [str_list]; exact h) w
  refine hc.mono ?_
  rintro e w' ⟨rfl, h⟩
  refine ⟨rfl, ?_⟩
  rcases h with rfl | ⟨t, rfl⟩
  · exact Below.refl _ _
  · exact bytesWorld_below _ _ _
theorem parse_range (l : List UInt8) (w : World) (hl : l.length ≤ 281474976710656) (h : Lib.parseIntB 64 l = .range) (henv : Env w) :
    Calls Tryd.prog 56 #[S l, .int .i64 10, .int .i64 64] w fun e w' => ∃ N, e = .returned (.tuple #[.int .i64 (Lib.intSat 64 l), .iface 83 (.pointer (some ⟨N, 0, none⟩))]) ∧ Below w.heap.size w w' := by
  obtain ⟨te, pe, hv⟩ := henv.rng
  have hc := Tryd.strconv_ParseInt_10_at64_range_var (str l) (by rw [str_size]; exact hl) (by rw [str_list]; exact h) te pe w hv
  rw [str_list] at hc
  refine hc.mono ?_
  rintro e w' ⟨N, rfl, _, _, hb⟩
  exact ⟨N, rfl, hb⟩
theorem parse_syn (l : List UInt8) (w : World) (hl : l.length ≤ 281474976710656) (h : Lib.parseIntB 64 l = Lib.parseIntB 64 []) (henv : Env w) :
    Calls Tryd.prog 56 #[S l, .int .i64 10, .int .i64 64] w fun e w' => ∃ N, e = .returned (.tuple #[.int .i64 0, .iface 83 (.pointer (some ⟨N, 0, none⟩))]) ∧ Below w.heap.size w w' := by
  obtain ⟨te, pe, hv⟩ := henv.syn
  have hc := Tryd.strconv_ParseInt_10_at64_syntax_var (str l) (by rw [str_size]; exact hl) (by rw [str_list]; exact h) te pe w hv
  refine hc.mono ?_
  rintro e w' ⟨N, rfl, _, _, hb⟩
  exact ⟨N, rfl, hb⟩
/-- Any failure of ParseInt. -/
theorem parse_bad (l : List UInt8) (w : World) (hl : l.length ≤ 281474976710656) (h : ∀ v, Lib.parseIntB 64 l ≠ .ok v) (henv : Env w) :
    ∃ v : Int, Calls Tryd.prog 56 #[S l, .int .i64 10, .int .i64 64] w fun e w' => ∃ N, e = .returned (.tuple #[.int .i64 v, .iface 83 (.pointer (some ⟨N, 0, none⟩))]) ∧ Below w.heap.size w w' := by
  cases hp : Lib.parseIntB 64 l with
  | ok v => exact absurd hp (h v)
  | range => exact ⟨_, parse_range l w hl hp henv⟩
  | _ => exact ⟨_, parse_syn l w hl hp henv⟩
theorem ok_i64 {l : List UInt8} {v : Int} (h : Lib.parseIntB 64 l = .ok v) : I64 v := by
  have := Lib.parseIntB_bounds h
  have hq : (2 : Nat) ^ (64 - 1) = 9223372036854775808 := by decide
  rw [hq] at this
  unfold I64; omega
end Go.Proofs.YtaabebmaobdofaaDoor
