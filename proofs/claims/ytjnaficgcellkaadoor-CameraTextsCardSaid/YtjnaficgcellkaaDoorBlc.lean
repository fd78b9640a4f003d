/- A strings.Builder in the walker's words: WriteString turns the builder's own two rows alone, String reads them (contracts that change rows of the caller's). -/
import Derived.Test.YtjnaficgcellkaaDoorBld
import Derived.Test.YtjnaficgcellkaaDoorVz
import Derived.Test.YtjnaficgcellkaaDoorVf
import Derived.Test.YtjnaficgcellkaaDoorCma
import Derived.Lib.Join
set_option linter.unusedSimpArgs false
set_option linter.unusedVariables false
set_option maxRecDepth 100000
namespace Go.Proofs.YtjnaficgcellkaaDoor
open Go.RowKit

/-- Where a string's bytes come to lie: in the list's old block, or in a new one. -/
theorem app_str_key {P : Program} (w : World) (base : Nat) (t u ty e : TypeId) (i : TypeInfo) (ht : P.underlying t = some (.slice e)) (hu : P.underlying u = some .string) (hi : P.info? e = some i) (hz : i.zero = some (.int .u8 0))
    (hsize : i.size = 1) (hby : i.bytes = 1) (v : Value) (n : Nat) (xs : List Value) (hown : w.ownsRow base e 1 v n xs) (s : ByteArray)
    (hbytes : n + s.size ≤ 140737488355328) {v' : Value} {w' : World} (hr : (Builtin.append_ #[t, u] ty #[v, .string s]).run P w = .ok v' w') :
    ∀ k, v'.ownBlock = some k → v.ownBlock = some k ∨ k = w.heap.size := by
  intro k hk
  have hxl : xs.length = n := by simpa using hown.1
  have new : v'.ownBlock = some w.heap.size → v.ownBlock = some k ∨ k = w.heap.size := fun h => by rw [h] at hk; injection hk with hk; exact Or.inr hk.symm
  rcases hown.2 with ⟨rfl, rfl⟩ | ⟨g, cap, cur, rfl, hbg, hg, hnc, hcm, hcs, htake⟩
  · by_cases hm : s.size = 0
    · exfalso
      have hf := Lib.run_firstCells_string (P := P) w 1 s
      rw [hm] at hf
      simp [Builtin.append_, run_underlying ht, run_underlying hu, sizeOf, typeInfo, hi, hsize, Builtin.lenOf, hm, hf] at hr
      rw [← hr.1] at hk
      simp [Value.ownBlock] at hk
    · have h2 := run_append_nil_string (P := P) w t u ty e i (.int .u8 0) ht hu hi hz s (by omega) (by omega) (by rw [hby]; omega)
      rw [h2] at hr
      injection hr with h3 _
      exact new (by rw [← h3]; rfl)
  · by_cases hroom : n + s.size ≤ cap
    · have hcs' : cur.size = cap := by simpa using hcs
      have h2 := Lib.run_append_room_string (P := P) w t u ty e i ht hu hi hsize g n cap cur hg s hroom (by omega)
      rw [h2] at hr
      injection hr with h3 _
      rw [← h3] at hk
      exact Or.inl hk
    · have holds : ∀ j u, xs[j]? = some u → w.cell? ((⟨g, 0, none⟩ : Addr).add j) = some u := hown.cells (g := g) rfl
      have h2 := Lib.run_append_grow_string (P := P) w t u ty e i (.int .u8 0) ht hu hi hz ⟨g, 0, none⟩ n cap xs (by rw [hsize]; simpa using hxl) holds s (by omega) (by omega) (by rw [hby]; exact growslice_fits (by omega) (by omega))
      rw [h2] at hr
      injection hr with h3 _
      exact new (by rw [← h3]; rfl)
theorem wpList_app_str {P : Program} {w : World} {ops : Array Oper} {rest : List Oper} {o : Oper} {a : Act} {Q : Exit → Act → World → Prop} (hgd : o.guard = none) (sl x : Operand) (t u : TypeId)
    (ho : o.op = .call { callee := .builtin .append, args := #[sl, x], argTypes := #[t, u] })
    (base : Nat) (e : TypeId) (i : TypeInfo) (ht : P.underlying t = some (.slice e)) (hu : P.underlying u = some .string) (hi : P.info? e = some i) (hz : i.zero = some (.int .u8 0))
    (hsize : i.size = 1) (hby : i.bytes = 1) (v : Value) (n : Nat) (xs : List Value) (hs : a.eval sl = v) (hown : w.ownsRow base e 1 v n xs) (s : ByteArray) (hx : a.eval x = .string s)
    (hbytes : n + s.size ≤ 140737488355328) (hbase : base ≤ w.heap.size)
    (h : ∀ v' w', w'.ownsRow base e 1 v' (n + s.size) (xs ++ Lib.strCells s) → w.grownBy w' v.ownBlock → (∀ k, v'.ownBlock = some k → v.ownBlock = some k ∨ k = w.heap.size) → wpList P ops Q rest (a.put o.dst v') w') : wpList P ops Q (o :: rest) a w := by
  refine wpList_plain hgd fun K hK => ?_
  obtain ⟨v', w', hr, h2, h3, _⟩ := Lib.run_append_own_string (P := P) w base t u o.type e i ht hu hi hz hsize hby v n xs hown s (by unfold maxLen; omega) hbytes hbase
  have h5 := app_str_key w base t u o.type e i ht hu hi hz hsize hby v n xs hown s hbytes hr
  unfold Oper.wp execOp
  simp only [ho, resolve, invoke, builtin, Sem.run_bind, Sem.run_pure, Result.andThen_ok, List.map_toArray, List.map_cons, List.map_nil, hs, hx, hr]
  exact hK _ _ (h v' w' h2 h3 h5)
theorem chg_trans {X : Nat → Prop} {w1 w2 w3 : World} (h : Chg X w1 w2) (h2 : Chg X w2 w3) : Chg X w1 w3 :=
  ⟨Nat.le_trans h.1 h2.1, fun k hk hx => (h2.2 k (Nat.lt_of_lt_of_le hk h.1) hx).trans (h.2 k hk hx)⟩
theorem chg_refl (X : Nat → Prop) (w : World) : Chg X w w := ⟨Nat.le_refl _, fun _ _ _ => rfl⟩
theorem chg_set {X : Nat → Prop} {w1 w2 : World} (h : Chg X w1 w2) {p : Addr} (hp : X p.block) (v : Value) : Chg X w1 (w2.setCell p v) := by
  refine ⟨by rw [World.size_setCell]; exact h.1, fun k hk hx => ?_⟩
  rw [← h.2 k hk hx]
  have hne : ¬ p.block = k := fun e => hx (e ▸ hp)
  simp [World.setCell, Array.getElem?_modify, hne]
set_option maxHeartbeats 2000000 in
theorem check_x (B b : Nat) (p0 v : Value) (bs : List Value) (w : World) (hB : B ≤ b) (hp : p0 = .pointer none ∨ p0 = .pointer (some ⟨b, 0, none⟩)) (hb : w.heap[b]? = some (.cells #[p0, v] 50 (0, 0))) (hown : w.ownsRow B 5 1 v bs.length bs) (hne : v.ownBlock ≠ some b) :
    Calls Tryd.prog 40 #[.pointer (some ⟨b, 0, none⟩)] w fun e w' => e = .returned (.tuple #[]) ∧ w'.heap[b]? = some (.cells #[.pointer (some ⟨b, 0, none⟩), v] 50 (0, 0)) ∧ w'.ownsRow B 5 1 v bs.length bs ∧ Below B w w' ∧ Chg (fun k => k = b) w w' := by
  have hat : Lib.BuilderAt 50 5 B b p0 bs w := ⟨hB, v, hb, hown, hne⟩
  rcases hp with rfl | rfl
  · refine (check_fresh b w hat.cell0 hat.shape hat.frozen0).mono ?_
    rintro e w' ⟨rfl, rfl⟩
    obtain ⟨_, v', hb', hown', _⟩ := hat.used (.pointer (some ⟨b, 0, none⟩))
    have hv : v' = v := by
      have e1 : (w.setCell ⟨b, 0, none⟩ (.pointer (some ⟨b, 0, none⟩))).heap[b]? = some (.cells #[.pointer (some ⟨b, 0, none⟩), v] 50 (0, 0)) := by
        simp [World.setCell, Array.getElem?_modify, hb]
      rw [e1] at hb'
      simp at hb'
      exact hb'.symm
    rw [hv] at hb' hown'
    exact ⟨rfl, hb', hown', (Below.refl B w).setCell (p := ⟨b, 0, none⟩) hB _, chg_set (chg_refl (fun k => k = b) w) (p := ⟨b, 0, none⟩) rfl _⟩
  · refine (check_used b w hat.cell0).mono ?_
    rintro e w' ⟨rfl, rfl⟩
    exact ⟨rfl, hb, hown, Below.refl B _, chg_refl _ _⟩
set_option maxHeartbeats 4000000 in
theorem wstr_x (B b : Nat) (p0 : Value) (a : Option Addr) (n c : Nat) (bs : List Value) (s : ByteArray) (w : World) (hB : B ≤ b) (hp : p0 = .pointer none ∨ p0 = .pointer (some ⟨b, 0, none⟩)) (hb : w.heap[b]? = some (.cells #[p0, .slice a n c] 50 (0, 0)))
    (hn : bs.length = n) (hown0 : w.ownsRow B 5 1 (.slice a n c) n bs) (hne0 : Value.ownBlock (.slice a n c) ≠ some b) (hlen : n + s.size ≤ 140737488355328) (hBw : B ≤ w.heap.size) :
    Calls Tryd.prog 31 #[.pointer (some ⟨b, 0, none⟩), .string s] w fun e w' => ∃ a' c', e = .returned (.tuple #[.int .i64 s.size, .nilIface]) ∧
      w'.heap[b]? = some (.cells #[.pointer (some ⟨b, 0, none⟩), .slice a' (n + s.size) c'] 50 (0, 0)) ∧ w'.ownsRow B 5 1 (.slice a' (n + s.size) c') (n + s.size) (bs ++ Lib.strCells s) ∧ Below B w w' ∧
      Chg (fun k => k = b ∨ Value.ownBlock (.slice a n c) = some k) w w' ∧ (∀ k, Value.ownBlock (.slice a' (n + s.size) c') = some k → (Value.ownBlock (.slice a n c) = some k ∨ w.heap.size ≤ k) ∧ k ≠ b) := by
  subst hn
  obtain ⟨i0, qi, qz0, qz1, qz2⟩ := info_parts infoB
  go_enter Tryd.func31, Tryd.ntmps31
  go_wp2_with fail
  refine (check_x B b p0 (.slice a bs.length c) bs _ hB hp hb hown0 hne0).mono ?_
  rintro e w1 ⟨rfl, hbk, hown, hb1, hch⟩
  have hlt0 := heap_lt hb
  have hz := hb1.size
  have hz2 := hch.1
  have hlt := heap_lt hbk
  have c0 : w1.cell? ⟨b, 0, none⟩ = some (.pointer (some ⟨b, 0, none⟩)) := by rw [Lib.cell_of_heap hbk]; rfl
  have c1 : w1.cell? ⟨b, 1, none⟩ = some (.slice a bs.length c) := by rw [Lib.cell_of_heap hbk]; rfl
  have HK := Lib.hid hbk
  have HO := Lib.hid hown
  have HN := Lib.hid hne0
  have HC := Lib.hid hch
  have HB0 := Lib.hid hb
  have HO0 := Lib.hid hown0
  have HP := Lib.hid hp
  clear hbk hown hne0 hch hb hown0 hp
  go_wp2_with (at_builtin; (refine wpList_app_str rfl _ _ 48 9 rfl B 5 i0 Tryd.underlying48 Tryd.underlying9 qi qz0 qz1 qz2 _ _ _ rfl HO.out s rfl (by omega) (by omega) ?_))
  intro v' w2 hown' hgrow hkey
  have hb2 : w2.heap[b]? = some (.cells #[.pointer (some ⟨b, 0, none⟩), .slice a bs.length c] 50 (0, 0)) := by
    rw [hgrow.block b hlt (fun e => HN.out e.symm)]
    exact HK.out
  have d0 : w2.cell? ⟨b, 0, none⟩ = some (.pointer (some ⟨b, 0, none⟩)) := by rw [Lib.cell_of_heap hb2]; rfl
  have d1 : w2.cell? ⟨b, 1, none⟩ = some (.slice a bs.length c) := by rw [Lib.cell_of_heap hb2]; rfl
  have f1 : w2.frozen? ⟨b, 1, none⟩ = false := Lib.frozen_of_heap hb2 1
  obtain ⟨ao, cap, rfl, hao, _⟩ := owns_form hown'
  have HB2 := Lib.hid hb2
  have HO' := Lib.hid hown'
  have HG := Lib.hid hgrow
  have HY := Lib.hid hkey
  clear hb2 hown' hgrow hkey
  go_wp2
  go_ret2
  have hk2 : ∀ k, Value.ownBlock (.slice ao (bs.length + s.size) cap) = some k → (Value.ownBlock (.slice a bs.length c) = some k ∨ w.heap.size ≤ k) ∧ k ≠ b := by
    intro k hk
    have h5 := HY.out k hk
    have hks := (HO0.out.lt k)
    refine ⟨?_, ?_⟩
    · rcases h5 with h5 | h5
      · exact Or.inl h5
      · exact Or.inr (by omega)
    · rcases h5 with h5 | h5
      · intro e; exact HN.out (by rw [h5, e])
      · omega
  refine ⟨ao, cap, rfl, ?_, ?_, ?_, ?_, hk2⟩
  · have hb2 := HB2.out
    simp [World.setCell, Array.getElem?_modify, hb2]
  · have h6 := HO'.out
    have hn2 : Value.ownBlock (.slice ao (bs.length + s.size) cap) ≠ some b := fun e => (hk2 b e).2 rfl
    exact h6.kept (row := some b) ⟨rfl, rfl, rfl, by simp [World.setCell], fun k _ hk => Below.heap_setCell _ _ _ _ (fun e => hk (by simp [e]))⟩ (Or.inr hn2)
  · exact (hb1.grown HG.out (by omega) (fun k hk => (HO.out.lt k hk).1)).setCell (p := ⟨b, 1, none⟩) hB _
  · refine chg_set (X := fun k => k = b ∨ Value.ownBlock (.slice a bs.length c) = some k) ?_ (p := ⟨b, 1, none⟩) (Or.inl rfl) _
    exact chg_trans ⟨HC.out.1, fun k hk hx => HC.out.2 k hk (fun e => hx (Or.inl e))⟩ ⟨HG.out.size, fun k hk hx => HG.out.block k hk (fun e => hx (Or.inr e.symm))⟩
theorem chg_drew (X : Nat → Prop) (w : World) : Chg X w w.drew := ⟨Nat.le_refl _, fun _ _ _ => rfl⟩
theorem freeze_chg {X : Nat → Prop} {w1 w2 : World} (h : Chg X w1 w2) {p : Addr} (hp : X p.block) (n : Nat) : Chg X w1 (w2.freeze p n) := by
  unfold World.freeze
  split
  · exact h
  · refine ⟨by simpa using h.1, fun k hk hx => ?_⟩
    rw [← h.2 k hk hx]
    have hne : ¬ p.block = k := fun e => hx (e ▸ hp)
    simp [Array.getElem?_modify, hne]
set_option maxHeartbeats 4000000 in
theorem bstr_x (B b : Nat) (p0 : Value) (g cap : Nat) (l : List UInt8) (h0 : l ≠ []) (w : World) (hb : w.heap[b]? = some (.cells #[p0, .slice (some ⟨g, 0, none⟩) l.length cap] 50 (0, 0)))
    (hown : w.ownsRow B 5 1 (.slice (some ⟨g, 0, none⟩) l.length cap) l.length (Lib.byteCells l)) :
    Calls Tryd.prog 33 #[.pointer (some ⟨b, 0, none⟩)] w fun e w' => e = .returned (.string ⟨l.toArray⟩) ∧ Below B w w' ∧ Chg (fun k => k = g) w w' := by
  have hl0 : l.length ≠ 0 := by simpa using h0
  obtain ⟨cur, hbg, hg, hnc, hcm, hcs, htake⟩ : ∃ cur, B ≤ g ∧ w.heap[g]? = some (.cells cur 5 (0, 0)) ∧ l.length ≤ cap ∧ cap ≤ maxLen ∧ cur.size = cap * 1 ∧ cur.toList.take (l.length * 1) = Lib.byteCells l := by
    rcases hown.2 with ⟨_, hz⟩ | ⟨g', cap', cur, hv, r⟩
    · exact absurd hz hl0
    · injection hv with h1 h2 h3
      injection h1 with h1
      injection h1 with h1
      subst h1 h3
      exact ⟨cur, r⟩
  have c1 : w.drew.cell? ⟨b, 1, none⟩ = some (.slice (some ⟨g, 0, none⟩) l.length cap) := by
    have : w.drew.heap[b]? = some (.cells #[p0, .slice (some ⟨g, 0, none⟩) l.length cap] 50 (0, 0)) := hb
    rw [Lib.cell_of_heap this]; rfl
  have hSD : (Builtin.unsafeSliceData_ #[48] 69 #[.slice (some ⟨g, 0, none⟩) l.length cap]).run Tryd.prog w.drew = .ok (.pointer (some ⟨g, 0, none⟩)) w.drew :=
    Lib.run_unsafeSliceData_row _ _ _ _ _ _ (by omega)
  have hUS : (Builtin.unsafeString_ #[69, 3] 9 #[.pointer (some ⟨g, 0, none⟩), .int .i64 l.length]).run Tryd.prog w.drew = .ok (.string ⟨l.toArray⟩) (w.drew.freeze ⟨g, 0, none⟩ l.length) := by
    refine Lib.run_unsafeString_row w.drew 69 3 9 5 Tryd.underlying69 (by kernel_rfl) g cur.size (by have hg' : w.drew.heap[g]? = some (.cells cur 5 (0, 0)) := hg; simp [World.shape?, hg']) l h0 (by omega) (by unfold maxLen at hcm; omega) ?_
    intro j x hx
    have := hown.cells (g := g) rfl j (.int .u8 x.toNat) (by simp [Lib.byteCells, hx])
    exact this
  have mixed : Tryd.prog.follows Departure.mixedOrders = true := by kernel_rfl
  go_enter Tryd.func33, Tryd.ntmps33
  go_wp2
  go_region_o
  all_goals (go_wp2; go_ret; exact ⟨rfl, Lib.below_freeze (Below.drew (Below.refl B w)) (p := ⟨g, 0, none⟩) hbg _, freeze_chg (X := fun k => k = g) (chg_drew _ w) (p := ⟨g, 0, none⟩) rfl _⟩)
set_option maxHeartbeats 4000000 in
theorem bstr_0 (B b : Nat) (p0 : Value) (w : World) (hb : w.heap[b]? = some (.cells #[p0, .slice none 0 0] 50 (0, 0))) :
    Calls Tryd.prog 33 #[.pointer (some ⟨b, 0, none⟩)] w fun e w' => e = .returned (.string ⟨#[]⟩) ∧ Below B w w' ∧ Chg (fun _ => False) w w' := by
  have c1 : w.drew.cell? ⟨b, 1, none⟩ = some (.slice none 0 0) := by
    have : w.drew.heap[b]? = some (.cells #[p0, .slice none 0 0] 50 (0, 0)) := hb
    rw [Lib.cell_of_heap this]; rfl
  have hSD : (Builtin.unsafeSliceData_ #[48] 69 #[.slice none 0 0]).run Tryd.prog w.drew = .ok (.pointer none) w.drew := rfl
  have hUS : (Builtin.unsafeString_ #[69, 3] 9 #[.pointer none, .int .i64 0]).run Tryd.prog w.drew = .ok (.string .empty) w.drew := Lib.run_unsafeString_none w.drew _ _ _ none
  have mixed : Tryd.prog.follows Departure.mixedOrders = true := by kernel_rfl
  go_enter Tryd.func33, Tryd.ntmps33
  go_wp2
  go_region_o
  all_goals (go_wp2; go_ret; exact ⟨rfl, Below.drew (Below.refl B w), chg_drew _ w⟩)
/-! In the walker's words. -/
def bC (s : ByteArray) : List Value := Lib.strCells s
theorem bC_len (s : ByteArray) : (bC s).length = s.size := Lib.strCells_length s
theorem bC_app (s t : ByteArray) : bC s ++ bC t = bC (catB s t) := by
  show Lib.byteCells s.data.toList ++ Lib.byteCells t.data.toList = Lib.byteCells (catB s t).data.toList
  rw [← Lib.byteCells_append]
  rfl
structure BW where
  a : Option Addr
  c : Nat
def bOb (b : Nat) (p : Value) (a : Option Addr) (n c : Nat) : Ob := ⟨b, [p, .slice a n c], 50, none⟩
def bRw (s : ByteArray) (a : Option Addr) (n c : Nat) : Ob := ⟨0, bC s, 5, some ⟨a, n, c, 1⟩⟩
theorem bOb_ok {b : Nat} {p : Value} {a : Option Addr} {n c base : Nat} {w : World} (h : (bOb b p a n c).ok base w) : base ≤ b ∧ w.heap[b]? = some (.cells #[p, .slice a n c] 50 (0, 0)) := h.1
theorem bRw_ok {s : ByteArray} {a : Option Addr} {n c base : Nat} {w : World} (h : (bRw s a n c).ok base w) : w.ownsRow base 5 1 (.slice a n c) n (bC s) := h.1
theorem wst_c (b : Nat) (p0 : Value) (a : Option Addr) (c : Nat) (s t : ByteArray) (hp : p0 = .pointer none ∨ p0 = .pointer (some ⟨b, 0, none⟩)) (hlen : s.size + t.size ≤ 140737488355328) :
    SpecC Tryd.prog [] [] [] [⟨b, [p0, .slice a s.size c], 50, none⟩, ⟨0, bC s, 5, some ⟨a, s.size, c, 1⟩⟩] 31 #[.pointer (some ⟨b, 0, none⟩), .string t] BW (fun x => AOK x.a (s.size + t.size) ∧ s.size + t.size ≤ x.c)
      (fun x => [⟨b, [.pointer (some ⟨b, 0, none⟩), .slice x.a (s.size + t.size) x.c], 50, none⟩, ⟨0, bC (catB s t), 5, some ⟨x.a, s.size + t.size, x.c, 1⟩⟩]) (fun _ => .tuple #[.int .i64 t.size, .nilIface]) := by
  intro w0 w hb hE hrd hgs hin hap hsep
  have h1 := bOb_ok (hin (bOb b p0 a s.size c) (List.mem_cons_self ..))
  have h2 := bRw_ok (hin (bRw s a s.size c) (List.mem_cons_of_mem _ (List.mem_cons_self ..)))
  have hkb : ∀ k, (bOb b p0 a s.size c).kp k ↔ k = b := fun k => by unfold bOb; rw [Ob.kp_lit]; unfold Ob.key; simp; exact eq_comm
  have hkr : ∀ k, (bRw s a s.size c).kp k ↔ Value.ownBlock (.slice a s.size c) = some k := fun k => by unfold bRw; rw [Ob.kp_lit]; unfold Ob.key; cases a <;> simp [Value.ownBlock]
  have hdr : ∀ k, (bRw s a s.size c).dep k ↔ Value.ownBlock (.slice a s.size c) = some k := fun k => by unfold bRw; rw [Ob.dep_lit]; unfold Ob.dep0; cases a <;> simp [Value.ownBlock]
  have hne : Value.ownBlock (.slice a s.size c) ≠ some b := fun e => by
    have := hap 0 1 (bOb b p0 a s.size c) (bRw s a s.size c) b rfl rfl ((hkb b).2 rfl) ((hdr b).2 e)
    omega
  refine (wstr_x w0.heap.size b p0 a s.size c (bC s) t w h1.1 hp h1.2 (bC_len s) h2 hne hlen hb.size).mono ?_
  rintro e w' ⟨a', c', he, g1, g2, g3, g4, g5⟩
  have hf := owns_form g2
  obtain ⟨a2, c2, e2, k1, k2⟩ := hf
  injection e2 with e3 e4 e5
  subst e3 e5
  refine ⟨⟨a', c'⟩, ⟨k1, k2⟩, he, hb.trans (g3.mono (Nat.le_refl _)), ⟨g4.1, fun k hk hx => g4.2 k hk ?_⟩, ?_, ?_⟩
  · rintro (h | h)
    · exact hx ⟨_, List.mem_cons_self .., (hkb k).2 h⟩
    · exact hx ⟨_, List.mem_cons_of_mem _ (List.mem_cons_self ..), (hkr k).2 h⟩
  · intro o ho
    rcases List.mem_cons.1 ho with rfl | ho
    · refine ⟨Ob.ok_lit ⟨h1.1, g1⟩, fun k hk => Or.inl ⟨_, List.mem_cons_self .., (hkb k).2 ?_⟩⟩
      have hk := Ob.dep_lit.1 hk
      exact hk
    · rw [List.mem_singleton] at ho
      subst ho
      refine ⟨Ob.ok_lit (by rw [show bC s ++ Lib.strCells t = bC (catB s t) from bC_app s t] at g2; exact g2), fun k hk => ?_⟩
      have hk := Ob.dep_lit.1 hk
      have hk2 : Value.ownBlock (.slice a' (s.size + t.size) c') = some k := by
        unfold Ob.dep0 at hk
        cases a' <;> simp [Value.ownBlock] at hk ⊢
        exact hk
      rcases (g5 k hk2).1 with h | h
      · exact Or.inl ⟨_, List.mem_cons_of_mem _ (List.mem_cons_self ..), (hkr k).2 h⟩
      · exact Or.inr h
  · intro i j o p k hi hj hk hd
    have hnb : ∀ k, Value.ownBlock (.slice a' (s.size + t.size) c') = some k → k ≠ b := fun k hk => (g5 k hk).2
    match i, j with
    | 0, 0 => rfl
    | 1, 1 => rfl
    | 0, 1 =>
      injection hi with hi
      injection hj with hj
      subst hi hj
      exfalso
      have hd := Ob.dep_lit.1 hd
      have hk2 : Value.ownBlock (.slice a' (s.size + t.size) c') = some k := by
        unfold Ob.dep0 at hd
        cases a' <;> simp [Value.ownBlock] at hd ⊢
        exact hd
      have hk := Ob.kp_lit.1 hk
      have hkk : k = b := by unfold Ob.key at hk; simp at hk; exact hk.symm
      exact hnb k hk2 hkk
    | 1, 0 =>
      injection hi with hi
      injection hj with hj
      subst hi hj
      exfalso
      have hd := Ob.dep_lit.1 hd
      have hkk : k = b := hd
      have hk2 : Value.ownBlock (.slice a' (s.size + t.size) c') = some k := by
        have hk := Ob.kp_lit.1 hk
        unfold Ob.key at hk
        cases a' <;> simp [Value.ownBlock] at hk ⊢
        exact hk
      exact hnb k hk2 hkk
    | i + 2, _ => simp at hi
    | _, j + 2 => simp at hj
theorem str_eta (s : ByteArray) : (⟨s.data.toList.toArray⟩ : ByteArray) = s := by cases s; rfl
/-- String of a builder that holds something, and of one that was never written. -/
theorem bst_c (b : Nat) (p0 : Value) (a : Option Addr) (c : Nat) (s : ByteArray) (h0 : s.size ≠ 0) :
    SpecC Tryd.prog [] [] [] [⟨b, [p0, .slice a s.size c], 50, none⟩, ⟨0, bC s, 5, some ⟨a, s.size, c, 1⟩⟩] 33 #[.pointer (some ⟨b, 0, none⟩)] Un (fun x => x = Un.un) (fun _ => []) (fun _ => .string s) := by
  intro w0 w hb hE hrd hgs hin hap hsep
  have h1 := bOb_ok (hin (bOb b p0 a s.size c) (List.mem_cons_self ..))
  have h2 := bRw_ok (hin (bRw s a s.size c) (List.mem_cons_of_mem _ (List.mem_cons_self ..)))
  have hl : s.data.toList.length = s.size := Array.length_toList
  have h0' : s.data.toList ≠ [] := fun e => h0 (by rw [← hl, e]; rfl)
  obtain ⟨g, cap, e⟩ : ∃ g cap, Value.slice a s.size c = .slice (some ⟨g, 0, none⟩) s.size cap := by
    rcases h2.2 with ⟨_, hz⟩ | ⟨g, cap, cur, hv, _⟩
    · exact absurd hz h0
    · exact ⟨g, cap, hv⟩
  injection e with e1 _ e3
  subst e1 e3
  have hkr : (bRw s (some ⟨g, 0, none⟩) s.size c).kp g := by unfold bRw; rw [Ob.kp_lit]; rfl
  have hh := bstr_x w0.heap.size b p0 g c s.data.toList h0' w (by rw [hl]; exact h1.2) (by rw [hl]; exact h2)
  refine hh.mono ?_
  rintro e w' ⟨he, g3, g4⟩
  rw [str_eta] at he
  exact ⟨Un.un, rfl, he, hb.trans (g3.mono (Nat.le_refl _)), ⟨g4.1, fun k hk hx => g4.2 k hk fun e => hx ⟨_, List.mem_cons_of_mem _ (List.mem_cons_self ..), by rw [e]; exact hkr⟩⟩, (fun o h => by cases h), (fun i j o p k h => by simp at h)⟩
theorem bs0_c (b : Nat) (p0 : Value) :
    SpecC Tryd.prog [] [] [] [⟨b, [p0, .slice none 0 0], 50, none⟩] 33 #[.pointer (some ⟨b, 0, none⟩)] Un (fun x => x = Un.un) (fun _ => []) (fun _ => .string ⟨#[]⟩) := by
  intro w0 w hb hE hrd hgs hin hap hsep
  have h1 := bOb_ok (hin (bOb b p0 none 0 0) (List.mem_cons_self ..))
  refine (bstr_0 w0.heap.size b p0 w h1.2).mono ?_
  rintro e w' ⟨he, g3, g4⟩
  exact ⟨Un.un, rfl, he, hb.trans (g3.mono (Nat.le_refl _)), ⟨g4.1, fun k hk hx => g4.2 k hk fun e => e⟩, (fun o h => by cases h), (fun i j o p k h => by simp at h)⟩

/-- The powers of ten hold what their text lays; so do the limits. -/
def powP (w : World) : Prop := Lib.TabIs Tryd.prog w "internal/strconv.uint64pow10" .u64 Lib.pow10Tab
theorem powP_stays {w w' : World} (h : powP w) (hb : Below w.heap.size w w') : powP w' := Joins.var_stays (show Tryd.prog.globalNamed "internal/strconv.uint64pow10" = some 3 by kernel_rfl) h hb (Nat.le_refl _)
def pO : Ex := ⟨0, fun _ => none, powP, fun _ _ h hb => powP_stays h hb⟩
def kE : List Ex := pO :: wE
theorem ownsL_nil (b : Nat) (w : World) : OwnsL b [] [] w := ⟨rfl, fun i o h => by simp [obsOf] at h, fun i j o p k h => by simp [obsOf] at h⟩
/-- The decimal of a number. -/
def dcS (n : Int) : ByteArray := str (Lib.itoa n)
set_option maxHeartbeats 1000000 in
theorem dec_pow (n : Int) (w : World) (hn : I64 n) (h : powP w) :
    Calls Tryd.prog 41 #[.int .i64 n] w fun e w' => e = .returned (S (Lib.itoa n)) ∧ Below w.heap.size w w' := by
  have HF : Hid (∀ w', powP w' → Calls Tryd.prog 47 #[.int .i64 n, .int .i64 10] w' fun e w'' => e = .returned (S (Lib.itoa n)) ∧ Below w'.heap.size w' w'') := Lib.hid (fun w' h => by
    refine (Tryd.strconv_FormatInt_10 n hn.1 hn.2 w' h).mono ?_
    rintro e w'' ⟨rfl, k, os, rfl⟩
    exact ⟨rfl, below_sort w' k os⟩)
  go_enter Tryd.func41, Tryd.ntmps41
  go_wp2_with (go_at_call 47; ((with_reducible refine (HF.out _ h).mono ?_); rintro e w1 ⟨rfl, hb1⟩); have hz1 := hb1.size; (try simp only [World.size_alloc, World.size_setCell, World.size_drew, size_drewN'] at hz1))
  go_ret
  exact ⟨rfl, by (repeat' (first | (with_reducible exact Below.refl _ _) | (with_reducible refine Below.setCell ?_ ?_ _) | (with_reducible refine Below.alloc ?_ ?_ _) | (with_reducible refine Below.drew ?_) | (with_reducible refine belowN ?_ _) | (with_reducible refine below_step ?_ ?_ (by with_reducible assumption)) | go_size))⟩
theorem dcp_sp (n : Int) (hn : I64 n) : SpecG Tryd.prog kE [] 41 #[.int .i64 n] [] (fun _ => .string (dcS n)) := by
  intro w hE _
  exact (dec_pow n w hn (hE pO (List.mem_cons_self ..)).2).mono fun e w' ⟨he, hb⟩ => ⟨[], he, ownsL_nil _ _, hb⟩
theorem dc_size {n : Int} (h : -1000000000 ≤ n ∧ n ≤ 1000000000) : (dcS n).size ≤ 21 := by
  unfold dcS
  rw [str_size]
  exact Lib.itoa_length_le n (by omega) (by omega)
/-- Strings with blanks between. -/
def jnB (l : List ByteArray) : ByteArray := str (Lib.join (l.map fun s => s.data.toList) [32])
theorem jon_gen (A : Option Addr) (c : Nat) (l : List ByteArray) (hn : l ≠ []) (hA : AOK A l.length) (hc : l.length ≤ c) (hl : l.length ≤ 1000) (hs : (Lib.join (l.map fun s => s.data.toList) [32]).length ≤ 1000000) :
    SpecG Tryd.prog [] [(A, l.map Value.string)] 42 #[.slice A l.length c, .string ⟨#[32]⟩] [] (fun _ => .string (jnB l)) := by
  intro w hE hrd
  have hR : Rd w A (l.map Value.string) := hrd _ _ (List.mem_cons_self ..)
  have hp : l.length ≠ 0 := fun e => hn (List.eq_nil_of_length_eq_zero e)
  cases A with
  | none => exact absurd (hA.1 rfl) hp
  | some q =>
    have hq := hA.2 hp q rfl
    obtain ⟨g, o, s⟩ := q
    simp only at hq
    subst hq
    have at0 : ∀ j x, l[j]? = some x → w.cell? ⟨g, o + j, none⟩ = some (.string x) := by
      intro j x hx
      have h1 := hR j (.string x) (by rw [List.getElem?_map, hx]; rfl)
      rw [← h1]
      simp [bk, ofs]
    have hlt : g < w.heap.size := by
      have h0 : l[0]? = some (l[0]'(by omega)) := List.getElem?_eq_getElem _
      exact block_of_cell (at0 0 _ h0)
    have hj := Tryd.strings_Join g o c l ⟨#[32]⟩ w at0 hlt (by omega) (by omega) (by exact Nat.le_trans hs (by omega))
    exact hj.mono fun e w' ⟨he, hb⟩ => ⟨[], he, ownsL_nil _ _, hb⟩
def noOw : Option Ow := none
theorem wst_n (b : Nat) (p0 : Value) (a : Option Addr) (n c : Nat) (s t : ByteArray) (hn : s.size = n) (hp : p0 = .pointer none ∨ p0 = .pointer (some ⟨b, 0, none⟩)) (hlen : n + t.size ≤ 140737488355328) :
    SpecC Tryd.prog [] [] [] [⟨b, [p0, .slice a n c], 50, noOw⟩, ⟨0, bC s, 5, some ⟨a, n, c, 1⟩⟩] 31 #[.pointer (some ⟨b, 0, none⟩), .string t] BW (fun x => AOK x.a (n + t.size) ∧ n + t.size ≤ x.c)
      (fun x => [⟨b, [.pointer (some ⟨b, 0, none⟩), .slice x.a (n + t.size) x.c], 50, noOw⟩, ⟨0, bC (catB s t), 5, some ⟨x.a, n + t.size, x.c, 1⟩⟩]) (fun _ => .tuple #[.int .i64 t.size, .nilIface]) := by
  subst hn
  exact wst_c b p0 a c s t hp hlen
theorem bst_n (b : Nat) (p0 : Value) (a : Option Addr) (n c : Nat) (s : ByteArray) (hn : s.size = n) (h0 : n ≠ 0) :
    SpecC Tryd.prog [] [] [] [⟨b, [p0, .slice a n c], 50, noOw⟩, ⟨0, bC s, 5, some ⟨a, n, c, 1⟩⟩] 33 #[.pointer (some ⟨b, 0, none⟩)] Un (fun x => x = Un.un) (fun _ => []) (fun _ => .string s) := by
  subst hn
  exact bst_c b p0 a c s h0
theorem jn_len5 (a b c d e : ByteArray) : (Lib.join ([a, b, c, d, e].map fun s : ByteArray => s.data.toList) [32]).length = a.size + b.size + c.size + d.size + e.size + 4 := by
  simp [Lib.join_cons, Lib.joinTail]; omega
def j5 (a b c d e : ByteArray) : ByteArray := jnB [a, b, c, d, e]
theorem jo5_sp (A : Option Addr) (k : Nat) (a b c d e : ByteArray) (hA : AOK A 5) (hc : 5 ≤ k) (ha : a.size ≤ 21) (hb : b.size ≤ 21) (hcc : c.size ≤ 21) (hd : d.size ≤ 21) (he : e.size ≤ 21) :
    SpecG Tryd.prog [] [(A, [.string a, .string b, .string c, .string d, .string e])] 42 #[.slice A 5 k, .string ⟨#[32]⟩] [] (fun _ => .string (j5 a b c d e)) :=
  jon_gen A k [a, b, c, d, e] (by simp) hA hc (by simp) (by rw [jn_len5]; omega)
theorem j5_size (a b c d e : ByteArray) : (j5 a b c d e).size = a.size + b.size + c.size + d.size + e.size + 4 := by
  unfold j5 jnB
  rw [str_size, jn_len5]
theorem bs0_n (b : Nat) (p0 : Value) :
    SpecC Tryd.prog [] [] [] [⟨b, [p0, .slice none 0 0], 50, noOw⟩] 33 #[.pointer (some ⟨b, 0, none⟩)] Un (fun x => x = Un.un) (fun _ => []) (fun _ => .string ⟨#[]⟩) := bs0_c b p0
/-- The line of an observation. -/
def lnB (s : Sn) : ByteArray := catB (j5 (dcS s.t) (dcS s.x) (dcS s.y) (dcS s.z) (dcS s.e)) ⟨#[10]⟩
/-- The lines of the first ones. -/
def txB (l : List Sn) : Nat → ByteArray
  | 0 => ⟨#[]⟩
  | k + 1 => catB (txB l k) (lnB (gSn l k))
end Go.Proofs.YtjnaficgcellkaaDoor
