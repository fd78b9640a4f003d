/- Layer 5 (rules): the text of any rules: words, program. -/
import Derived.Test.YtjdldofgkhibnaaGreatDoorVz
import Derived.KernelRfl
import Derived.Test.YtjdldofgkhibnaaGreatDoorProg
import Derived.Test.YtjdldofgkhibnaaGreatDoorVf
import Derived.Test.YtjdldofgkhibnaaGreatDoorBrg
import Derived.Test.YtjdldofgkhibnaaGreatDoorRda
import Derived.Test.YtjdldofgkhibnaaGreatDoorRub
import Derived.Test.YtjdldofgkhibnaaGreatDoorRubr
import Derived.Test.YtjdldofgkhibnaaGreatDoorSqw
set_option linter.unusedSimpArgs false
set_option linter.unusedVariables false
set_option maxRecDepth 100000
namespace Go.Proofs.YtjdldofgkhibnaaGreatDoor
open Go.RowKit


def noOw : Option Ow := none
/-- The cells of the fields of words; of lines. -/
def cFw (l : List ByteArray) : List Value := l.flatMap fun b => [.string b, .int .i64 0, .bool false]
def cLn (L : List LnA) : List Value := L.flatMap lnP
def frW (L : List LnA) : List FR := L.map fun l => ⟨l.a, l.fs.length, l.c, cFw l.fs⟩
theorem cFw_len (l : List ByteArray) : (cFw l).length = l.length * 3 := by
  induction l with
  | nil => rfl
  | cons p l ih => simp only [cFw, List.flatMap_cons, List.length_append] at *; rw [ih]; simp; omega
theorem cLn_len (L : List LnA) : (cLn L).length = L.length * 2 := by
  induction L with
  | nil => rfl
  | cons p l ih => simp only [cLn, List.flatMap_cons, List.length_append] at *; rw [ih]; simp [lnP]; omega
theorem cFw_app (l : List ByteArray) (b : ByteArray) : lapp (cFw l) [.string b, .int .i64 0, .bool false] = cFw (l ++ [b]) := by
  rw [lapp_eq]; unfold cFw; rw [List.flatMap_append]; rfl
theorem cLn_app (L : List LnA) {a : Option Addr} {n c : Nat} {fs : List ByteArray} (h : n = fs.length) : lapp (cLn L) [.int .i64 0, .slice a n c] = cLn (L ++ [⟨a, c, fs⟩]) := by
  rw [lapp_eq, h]; unfold cLn; rw [List.flatMap_append]; rfl
theorem frW_app (L : List LnA) {a : Option Addr} {n c : Nat} {fs : List ByteArray} {xs : List Value} (h : n = fs.length) (hx : xs = cFw fs) : frW L ++ [⟨a, n, c, xs⟩] = frW (L ++ [⟨a, c, fs⟩]) := by
  rw [h, hx]; simp [frW]
theorem fmW (e z : Nat) (L : List LnA) {a : Option Addr} {n c : Nat} {fs : List ByteArray} {xs : List Value} (h : n = fs.length) (hx : xs = cFw fs) : famG e z true (frW L ++ [⟨a, n, c, xs⟩]) = famG e z true (frW (L ++ [⟨a, c, fs⟩])) := by rw [frW_app L h hx]
/-- A plain row joins a family. -/
theorem famG_joinP {el : TypeId} {size : Nat} (hs : 0 < size) (e : TypeId) (L : List FR) (b n : Nat) (xs : List Value) (hx : xs.length = n * size) (h0 : xs ≠ []) (hn : n ≤ 1048576) : AbsP [ghOb e (famG el size true L), ⟨b, xs, el, none⟩] (ghOb e (famG el size true (L ++ [⟨some ⟨b, 0, none⟩, n, n, xs⟩]))) := by
  have hw0 : weakP0 (⟨b, xs, el, none⟩ : Ob) ⟨0, xs, el, some ⟨some ⟨b, 0, none⟩, n, n, size⟩⟩ := by
    unfold weakP0
    cases size with
    | zero => omega
    | succ k =>
      cases xs with
      | nil => exact absurd rfl h0
      | cons y ys => exact ⟨rfl, rfl, hx, rfl, hn, rfl⟩
  have hw : Weak (⟨b, xs, el, none⟩ : Ob) ⟨0, xs, el, some ⟨some ⟨b, 0, none⟩, n, n, size⟩⟩ := weakP_ok hw0
  intro base w hok hap
  have h1 := famG_join1 (el := el) hs e L (some ⟨b, 0, none⟩) n n xs base w
  have hp := hok _ (List.mem_cons_of_mem _ (List.mem_cons_self ..))
  have hd := hw.1 base w hp
  have kp2 : ∀ k, Ob.kp (⟨0, xs, el, some ⟨some ⟨b, 0, none⟩, n, n, size⟩⟩ : Ob) k → Ob.kp (⟨b, xs, el, none⟩ : Ob) k := hw.2
  obtain ⟨r1, r2, r3⟩ := h1 (fun o ho => by
    rcases List.mem_cons.1 ho with rfl | ho
    · exact hok _ (List.mem_cons_self ..)
    · rw [List.mem_singleton] at ho
      subst ho
      exact hd.1) (fun i j o p k hi hj hk hdp => by
    have key : ∀ (m : Nat) (q : Ob), ([ghOb e (famG el size true L), ⟨0, xs, el, some ⟨some ⟨b, 0, none⟩, n, n, size⟩⟩] : List Ob)[m]? = some q → (m = 0 ∧ q = ghOb e (famG el size true L)) ∨ (m = 1 ∧ q = ⟨0, xs, el, some ⟨some ⟨b, 0, none⟩, n, n, size⟩⟩) := by
      intro m q h
      match m with
      | 0 => left; simp at h; exact ⟨rfl, h.symm⟩
      | 1 => right; simp at h; exact ⟨rfl, h.symm⟩
      | m + 2 => simp at h
    rcases key i o hi with ⟨rfl, rfl⟩ | ⟨rfl, rfl⟩ <;> rcases key j p hj with ⟨rfl, rfl⟩ | ⟨rfl, rfl⟩
    · rfl
    · exact hap 0 1 _ _ k rfl rfl hk (hd.2 k hdp)
    · exact hap 1 0 _ _ k rfl rfl (kp2 k hk) hdp
    · rfl)
  refine ⟨r1, fun k hk => ?_, fun k hk => ?_⟩
  · obtain ⟨o, ho, h⟩ := r2 k hk
    rcases List.mem_cons.1 ho with rfl | ho
    · exact ⟨_, List.mem_cons_self .., h⟩
    · rw [List.mem_singleton] at ho
      subst ho
      exact ⟨_, List.mem_cons_of_mem _ (List.mem_cons_self ..), hd.2 k h⟩
  · obtain ⟨o, ho, h⟩ := r3 k hk
    rcases List.mem_cons.1 ho with rfl | ho
    · exact ⟨_, List.mem_cons_self .., h⟩
    · rw [List.mem_singleton] at ho
      subst ho
      exact ⟨_, List.mem_cons_of_mem _ (List.mem_cons_self ..), kp2 k h⟩
theorem famG_new {el : TypeId} {size : Nat} (e : TypeId) {p : Ob} {r : FR} (h : AbsP [ghOb e (famG el size true []), p] (ghOb e (famG el size true ([] ++ [r])))) : AbsP [p] (ghOb e (famG el size true [r])) := by
  intro base w hok hap
  have hn := famG_nil el size true w
  have key : ∀ (m : Nat) (q : Ob), ([ghOb e (famG el size true []), p] : List Ob)[m]? = some q → (m = 0 ∧ q = ghOb e (famG el size true [])) ∨ (m = 1 ∧ q = p) := by
    intro m q h
    match m with
    | 0 => left; simp at h; exact ⟨rfl, h.symm⟩
    | 1 => right; simp at h; exact ⟨rfl, h.symm⟩
    | m + 2 => simp at h
  obtain ⟨r1, r2, r3⟩ := h base w (fun o ho => by
    rcases List.mem_cons.1 ho with rfl | ho
    · exact ghOb_ok.2 ⟨hn.1, fun _ k hk => absurd hk (hn.2 k)⟩
    · exact hok o ho) (fun i j o q k hi hj hk hd => by
    rcases key i o hi with ⟨rfl, rfl⟩ | ⟨rfl, rfl⟩ <;> rcases key j q hj with ⟨rfl, rfl⟩ | ⟨rfl, rfl⟩
    · rfl
    · exact absurd (ghOb_kp.1 hk).2 (hn.2 k)
    · exact absurd (ghOb_dep.1 hd) (hn.2 k)
    · rfl)
  refine ⟨r1, fun k hk => ?_, fun k hk => ?_⟩
  · obtain ⟨o, ho, h⟩ := r2 k hk
    rcases List.mem_cons.1 ho with rfl | ho
    · exact absurd (ghOb_dep.1 h) (hn.2 k)
    · exact ⟨o, ho, h⟩
  · obtain ⟨o, ho, h⟩ := r3 k hk
    rcases List.mem_cons.1 ho with rfl | ho
    · exact absurd (ghOb_kp.1 h).2 (hn.2 k)
    · exact ⟨o, ho, h⟩
theorem lnL_of {L : List LnA} {W : List (List ByteArray)} (h : L.map (·.fs) = W) : lnL L = W.map fun ws => ⟨0, ws.map fB⟩ := by subst h; unfold lnL; rw [List.map_map]; rfl
structure WS where
  i : Nat
  b : Nat
  a : Option Addr
  c : Nat
def lI (l : List ByteArray) (x : WS) : Prop := x.i ≤ l.length ∧ AOK x.a x.i
@[reducible] def nxW {l : List ByteArray} {x : WS} (_ : lI l x) (a : Option Addr) (c : Nat) : WS := ⟨x.i + 1, x.b, a, c⟩
theorem wl_app {l : List ByteArray} {i : Nat} (h : i < l.length) : lapp (cFw (l.take i)) [.string (gS l i), .int .i64 0, .bool false] = cFw (l.take (i + 1)) := by
  rw [cFw_app, List.take_add_one, List.getElem?_eq_getElem h, gS, List.getD_eq_getElem?_getD, List.getElem?_eq_getElem h]; rfl
theorem aokz : AOK none 0 := ⟨fun _ => rfl, fun h => absurd rfl h⟩
theorem aokp (b n : Nat) : AOK (some ⟨b, 0, none⟩) n := ⟨fun h => (by cases h), fun _ q h => (by cases h; rfl)⟩
@[reducible] def wLp (l : List ByteArray) : LoopR := ⟨WS, fun x => [(8, .int .i64 x.i), (3, .pointer (some ⟨x.b, 0, none⟩))], [2, 3], fun x => [⟨x.b, [.int .i64 0, .slice x.a x.i x.c], 43, none⟩, ⟨0, cFw (l.take x.i), 68, some ⟨x.a, x.i, x.c, 3⟩⟩], lI l, fun x => l.length - x.i, [(68, 3)]⟩

def fwt (f : Fld) : Nat := f.text.length + 4
def fsz (fs : List Fld) : Nat := (fs.map fwt).sum
theorem wrF_wt (f : Fld) : (wrF f).length ≤ 2 * f.text.length + 2 := by
  unfold wrF
  split
  · omega
  · have := dbl_length f.text; simp; omega
theorem wrJ_wt (fs : List Fld) : (wrJ fs).length ≤ 2 * fsz fs := by
  cases fs with
  | nil => simp [wrJ]
  | cons f r =>
    have h1 : ∀ r : List Fld, (r.flatMap fun g => 32 :: wrF g).length ≤ 2 * fsz r := by
      intro r
      induction r with
      | nil => simp
      | cons g r ih =>
        have := wrF_wt g
        rw [List.flatMap_cons, List.length_append, List.length_cons]
        unfold fsz at ih ⊢
        rw [List.map_cons, List.sum_cons]
        unfold fwt at ih ⊢
        omega
    have h2 := h1 r
    have h3 := wrF_wt f
    rw [wrJ, List.length_append]
    unfold fsz at h2 ⊢
    rw [List.map_cons, List.sum_cons]
    unfold fwt at h2 ⊢
    omega

theorem li_e {l : List ByteArray} {x : WS} (h : lI l x) (hf : decide ((x.i : Int) < (l.length : Int)) = false) : x.i = l.length := by
  have hf := of_decide_eq_false hf
  have := h.1
  omega
theorem li_s {l : List ByteArray} {x : WS} (h : lI l x) (hf : decide ((x.i : Int) < (l.length : Int)) = true) (b c : Nat) : lI l (nxW h (some ⟨b, 0, none⟩) c) ∧ l.length - (x.i + 1) < l.length - x.i ∧ x.i < l.length := by
  have hf := of_decide_eq_true hf
  exact ⟨⟨by show x.i + 1 ≤ _; omega, aokp _ _⟩, by omega, by omega⟩
theorem wr_k {i : Nat} (h : i ≤ 1000000) : IntKind.i64.wrap ((i : Int) + 1) = (i : Int) + 1 := IntWalk.i64_in _ (by omega)
theorem wr_k2 {i : Nat} (h : i ≤ 1000000) : Value.int IntKind.i64 (IntKind.i64.wrap ((i : Int) + 1)) = Value.int IntKind.i64 ((i + 1 : Nat) : Int) := by rw [wr_k h]; rfl


theorem slL {a a' : Option Addr} {n n' c c' : Nat} (h1 : a = a') (h2 : n = n') (h3 : c = c') : Value.slice a n c = Value.slice a' n' c' := by rw [h1, h2, h3]
theorem owL {a a' : Option Addr} {n n' c c' s : Nat} (h1 : a = a') (h2 : n = n') (h3 : c = c') : some (Ow.mk a n c s) = some (Ow.mk a' n' c' s) := by rw [h1, h2, h3]
theorem fsz_le (ws : List ByteArray) (h : ∀ w ∈ ws, w.size ≤ 20) : fsz (ws.map fB) ≤ 24 * ws.length := by
  induction ws with
  | nil => simp [fsz]
  | cons w ws ih =>
    have h1 := ih fun x hx => h x (List.mem_cons_of_mem _ hx)
    have h2 := h w (List.mem_cons_self ..)
    have h3 : w.data.toList.length = w.size := Array.length_toList
    unfold fsz at h1 ⊢
    rw [List.map_cons, List.map_cons, List.sum_cons, List.length_cons]
    show w.data.toList.length + 4 + _ ≤ _
    omega

def aB (a b c d : UInt8) : ByteArray := ⟨#[a, b, c, d]⟩
def ansS (b : Bool) : ByteArray := if b = true then ⟨#[89, 69, 83]⟩ else ⟨#[78, 79]⟩
def rlP (p : Ph) : List ByteArray := [⟨#[80, 79, 87, 69, 82]⟩, itS p.pf, itS p.pt, itS p.po]
def rlW (r : Rul) : List (List ByteArray) := [[⟨#[82, 85, 76, 69, 83]⟩, r.nm], [⟨#[83, 73, 68, 69]⟩, itS r.q1], [⟨#[73, 78, 78, 73, 78, 71, 83]⟩, itS r.q2], [⟨#[79, 86, 69, 82, 83]⟩, itS r.q3], [⟨#[66, 65, 76, 76, 83]⟩, itS r.q4], [⟨#[81, 85, 79, 84, 65]⟩, itS r.q5], [⟨#[82, 85, 78, 83]⟩, itS r.q6, itS r.q7], [⟨#[70, 82, 69, 69, 72, 73, 84]⟩, ansS r.fh], [⟨#[78, 69, 87, 66, 65, 76, 76]⟩, itS r.q8], [⟨#[70, 79, 76, 76, 79, 87, 79, 78]⟩, itS r.q9], [⟨#[82, 69, 86, 73, 69, 87, 83]⟩, itS r.qa], [⟨#[79, 85, 84, 83, 73, 68, 69]⟩, itS r.qo]]
def rlLs (r : Rul) (k : Nat) : List (List ByteArray) := rlW r ++ (r.pw.take k).map rlP
def txR (r : Rul) : ByteArray := str (wrA ((rlLs r r.pw.length).map fun ws => ⟨0, ws.map fB⟩))
def txE (r : Rul) : ByteArray := if rck r = 0 then txR r else ⟨#[]⟩
structure TS where
  i : Nat
  a : Option Addr
  c : Nat
  L : List LnA
def tI (r : Rul) (x : TS) : Prop := x.i ≤ r.pw.length ∧ x.L.map (·.fs) = rlLs r x.i ∧ AOK x.a x.L.length ∧ ∀ l, l ∈ x.L → AOK l.a l.fs.length
theorem rk_in {r : Rul} (h : (rck r != 0) = false) : inr r = true ∧ r.pw.length ≤ 8 ∧ pwE r.q3 0 r.pw = 0 := by
  have h : rck r = 0 := by simpa using h
  unfold rck at h
  split at h
  · cases h
  · split at h
    · cases h
    · rename_i h2
      split at h
      · cases h
      · split at h
        · cases h
        · split at h
          · cases h
          · exact ⟨by simpa using h2, by omega, h⟩
theorem pwE_b {ov : Int} (ho : ov ≤ 1000) : ∀ {b : Int} {l : List Ph}, pwE ov b l = 0 → ∀ p ∈ l, (0 ≤ p.pf ∧ p.pf ≤ 1000) ∧ (0 ≤ p.pt ∧ p.pt ≤ 1000) ∧ (0 ≤ p.po ∧ p.po ≤ 1000) := by
  intro b l h
  induction l generalizing b with
  | nil => intro p hp; cases hp
  | cons q l ih =>
    unfold pwE at h
    split at h
    · cases h
    · split at h
      · cases h
      · intro p hp
        rcases List.mem_cons.1 hp with rfl | hp
        · omega
        · exact ih h p hp
theorem rk_b {r : Rul} (h : (rck r != 0) = false) : (0 ≤ r.q1 ∧ r.q1 ≤ 1000) ∧ (0 ≤ r.q2 ∧ r.q2 ≤ 1000) ∧ (0 ≤ r.q3 ∧ r.q3 ≤ 1000) ∧ (0 ≤ r.q4 ∧ r.q4 ≤ 1000) ∧ (0 ≤ r.q5 ∧ r.q5 ≤ 1000) ∧ (0 ≤ r.q6 ∧ r.q6 ≤ 1000) ∧ (0 ≤ r.q7 ∧ r.q7 ≤ 1000) ∧ (0 ≤ r.q8 ∧ r.q8 ≤ 1000) ∧ (0 ≤ r.q9 ∧ r.q9 ≤ 1000) ∧ (0 ≤ r.qa ∧ r.qa ≤ 1000) ∧ (0 ≤ r.qo ∧ r.qo ≤ 1000) := by
  have h1 := (rk_in h).1
  unfold inr at h1
  simp only [decide_eq_true_eq] at h1
  omega
theorem rk_p {r : Rul} (h : (rck r != 0) = false) (i : Nat) : (0 ≤ (r.pw.getD i ⟨0, 0, 0⟩).pf ∧ (r.pw.getD i ⟨0, 0, 0⟩).pf ≤ 1000) ∧ (0 ≤ (r.pw.getD i ⟨0, 0, 0⟩).pt ∧ (r.pw.getD i ⟨0, 0, 0⟩).pt ≤ 1000) ∧ (0 ≤ (r.pw.getD i ⟨0, 0, 0⟩).po ∧ (r.pw.getD i ⟨0, 0, 0⟩).po ≤ 1000) := by
  have h1 := pwE_b (by have := (rk_b h).2.2.1; omega) (rk_in h).2.2
  rw [List.getD_eq_getElem?_getD]
  cases e : r.pw[i]? with
  | none => exact ⟨by decide, by decide, by decide⟩
  | some p => exact h1 p (List.mem_of_getElem? e)
theorem i64_s {n : Int} (h : 0 ≤ n ∧ n ≤ 1000) : I64 n := ⟨by omega, by omega⟩

def vw_h (a : Option Addr) (c : Nat) (l : List ByteArray) : Hint := .pl (.inv (wLp l) fun x0 ↦ .split (.ix (.lst (0 : Nat) (Int.toNat (↑(WS.i x0) : Int) * (1 : Nat)) (Value.string (gS l (Int.toNat (↑(WS.i x0) : Int)))) (.ob 2 (.app (3 : Nat) (4 : Nat) (.ob 2 (.perm [2, 3] .nil)))))) (ho 2 2 (ho 1 4 (.perm [3] .nil))))
theorem vw_x (a : Option Addr) (c : Nat) (l : List ByteArray) : wpG Tryz.prog [] ([(a, cS l)]) 400 15 [.slice a l.length c] (vw_h a c l) ([⟨68, 3, l.length, cFw l⟩]) (fun ads => .agg #[.int .i64 0, .slice (nthA ads 0).1 l.length (nthA ads 0).2]) = (∀ (b b_1 : Nat), (∃ x, lI l x /\ Value.int .i64 0 = Value.int .i64 (↑(WS.i x) : Int) /\ Value.pointer (some (Addr.mk b_1 (0 : Nat) none)) = Value.pointer (some (Addr.mk (WS.b x) (0 : Nat) none)) /\ (b_1 = WS.b x /\ [Value.int .i64 0, .slice none (0 : Nat) (0 : Nat)] = [Value.int .i64 0, .slice (WS.a
 x) (WS.i x) (WS.c x)] /\ (43 : Nat) = (43 : Nat) /\ noOw = noOw) /\ ((0 : Nat) = (0 : Nat) /\ [] = cFw (List.take (WS.i x) l) /\ (68 : Nat) = (68 : Nat) /\ some (Ow.mk none (0 : Nat) (0 : Nat) (3 : Nat)) = some (Ow.mk (WS.a x) (WS.i x) (WS.c x) (3 : Nat))) /\ True) /\ ∀ (x0 : WS), lI l x0 -> ∀ (junk
 : Nat -> Value), (decide ((↑(WS.i x0) : Int) < (↑(List.length l) : Int)) = true -> (((0 : Int) ≤ (↑(WS.i x0) : Int) /\ (↑(WS.i x0) : Int) < (↑(List.length l) : Int)) /\ AOK a (List.length l)) /\ bk a = bk a /\ ofs a + Int.toNat (↑(WS.i x0) : Int) * (1 : Nat) = ofs a + Int.toNat (↑(WS.i x0) : Int) *
 (1 : Nat) /\ lgo (cS l) (Int.toNat (↑(WS.i x0) : Int) * (1 : Nat)) = some (Value.string (gS l (Int.toNat (↑(WS.i x0) : Int)))) /\ WS.b x0 = WS.b x0 /\ ∀ (b : Nat), WS.a x0 = WS.a x0 /\ WS.i x0 = WS.i x0 /\ WS.c x0 = WS.c x0 /\ b = b /\ (WS.i x0 + (1 : Nat)) * (33 : Nat) ≤ (140737488355328 : Nat) /\
 ∀ (g cap : Nat), WS.b x0 = WS.b x0 /\ True /\ ∃ y, lI l y /\ List.length l - WS.i y < List.length l - WS.i x0 /\ Value.int .i64 (IntKind.i64.wrap ((↑(WS.i x0) : Int) + (1 : Int))) = Value.int .i64 (↑(WS.i y) : Int) /\ Value.pointer (some (Addr.mk (WS.b x0) (0 : Nat) none)) = Value.pointer (some
 (Addr.mk (WS.b y) (0 : Nat) none)) /\ (WS.b x0 = WS.b y /\ [Value.int .i64 0, .slice (some (Addr.mk g (0 : Nat) none)) (WS.i x0 + (1 : Nat)) cap] = [Value.int .i64 0, .slice (WS.a y) (WS.i y) (WS.c y)] /\ (43 : Nat) = (43 : Nat) /\ noOw = noOw) /\ ((0 : Nat) = (0 : Nat) /\ lapp (cFw (List.take (WS.i
 x0) l)) [Value.string (gS l (Int.toNat (↑(WS.i x0) : Int))), .int .i64 0, .bool false] = cFw (List.take (WS.i y) l) /\ (68 : Nat) = (68 : Nat) /\ some (Ow.mk (some (Addr.mk g (0 : Nat) none)) (WS.i x0 + (1 : Nat)) cap (3 : Nat)) = some (Ow.mk (WS.a y) (WS.i y) (WS.c y) (3 : Nat))) /\ True) /\
 (decide ((↑(WS.i x0) : Int) < (↑(List.length l) : Int)) = false -> WS.b x0 = WS.b x0 /\ WS.b x0 = WS.b x0 /\ b = b /\ True /\ b = b /\ True /\ b = b /\ b = b /\ (68 : Nat) = (68 : Nat) /\ (3 : Nat) = (3 : Nat) /\ WS.i x0 = List.length l /\ cFw (List.take (WS.i x0) l) = cFw l /\ Value.agg (Array.mk
 [.int .i64 0, .slice (WS.a x0) (WS.i x0) (WS.c x0)]) = Value.agg (Array.mk [.int .i64 0, .slice (WS.a x0) (List.length l) (WS.c x0)]))) := by kernel_rfl
set_option maxHeartbeats 4000000 in
theorem vw_sp (a : Option Addr) (c : Nat) (l : List ByteArray) (hA : AOK a l.length) (hl : l.length ≤ 1000) : SpecG Tryz.prog [] ([(a, cS l)]) 15 #[.slice a l.length c] ([⟨68, 3, l.length, cFw l⟩]) (fun ads => .agg #[.int .i64 0, .slice (nthA ads 0).1 l.length (nthA ads 0).2]) := by
  refine specG_of (h := vw_h a c l) (?_ : wpG Tryz.prog [] ([(a, cS l)]) 400 15 [.slice a l.length c] (vw_h a c l) ([⟨68, 3, l.length, cFw l⟩]) (fun ads => .agg #[.int .i64 0, .slice (nthA ads 0).1 l.length (nthA ads 0).2]))
  rw [vw_x]
  (repeat' (first | with_reducible exact rfl | exact trivial | with_reducible assumption | exact cU_len _ | exact cI_len _ | exact cB_len _ | exact cU_one _ | exact cI_one _ | exact cB_one _ | exact (fun _ h => h) | exact (fun _ h => (List.not_mem_nil h).elim) | exact cS_len _ | exact cS_one _ | (with_reducible refine e1_in ?_) | (with_reducible refine e2_in ?_) | (with_reducible refine lx_in (Nat.le_of_ble_eq_true rfl) ?_) | (with_reducible refine rqx_rf ?_) | (with_reducible refine rqx_in ?_ ?_ ?_) | (with_reducible apply And.intro) | (with_reducible intro _)))
  all_goals (try (exact ⟨⟨0, _, none, 0⟩, ⟨Nat.zero_le _, aokz⟩, rfl, rfl, ⟨rfl, rfl, rfl, rfl⟩, ⟨rfl, rfl, rfl, rfl⟩, trivial⟩))
  all_goals (try (have hx := ‹lI l _›; have hs := (li_s hx ‹_› 0 0).2.2; have hx1 := hx.1; first | exact ⟨nxW hx _ _, (li_s hx ‹_› _ _).1, (li_s hx ‹_› 0 0).2.1, wr_k2 (by omega), rfl, ⟨rfl, rfl, rfl, rfl⟩, ⟨rfl, wl_app hs, rfl, rfl⟩, trivial⟩ | omega | (simp only [Int.toNat_natCast]; first | omega | (refine cS_get ?_; omega))))
  all_goals (try (first | exact li_e ‹lI l _› ‹_› | (rw [li_e ‹lI l _› ‹_›, List.take_length]; done) | (rw [li_e ‹lI l _› ‹_›]; done)))
  
def vn1_h (x : ByteArray) (a : Option Addr) (c : Nat) (n : Int) : Hint := .specg [] [2] [cS [x]] [RowT.mk (68 : TypeId) (3 : Nat) (List.length [x]) (cFw [x])] (fun ads0 ads ↦ Value.agg #[Value.int .i64 0, .slice (Prod.fst (nthA ads (0 : Nat))) (List.length [x]) (Prod.snd (nthA ads (0 : Nat)))]) (ho 4 2 (.pl (.rounds 64 (.lit (.ix (.lst (0 : Nat) (0 : Nat) (Value.int .i64
 n) (.drawf [5] [0, 1, 2] (.take 0 (.take 2 (.pl (.br (.ob 4 (.pl (.br (.specg rE [] [] [] (fun ads0 x ↦ Value.string (itS n)) (.take 4 (.take 5 (.pl (.br (.app (3 : Nat) (5 : Nat) (.take 7 (.pl (.br (.ob 4 (.lit (ho 4 2 (ho 1 4 (.perm [3] .nil))))) .nil)))) .nil))))) .nil))) (.br (.specg rE [] [] []
 (fun ads0 x ↦ Value.string (itS n)) (.take 4 (.pl (.br (.ob 4 (.take 5 (.pl (.br (.app (3 : Nat) (5 : Nat) (.take 7 (.pl (.br (.ob 4 (.lit (ho 4 2 (ho 1 4 (.perm [3] .nil))))) .nil)))) .nil)))) .nil)))) .nil))))))))))))
theorem vn1_x (x : ByteArray) (a : Option Addr) (c : Nat) (n : Int) : wpG Tryz.prog rE ([(a, [.int .i64 n])]) 400 16 [.string x, .slice a 1 c] (vn1_h x a c n) ([⟨68, 3, 2, cFw [x, itS n]⟩]) (fun ads => .agg #[.int .i64 0, .slice (nthA ads 0).1 2 (nthA ads 0).2]) = (∀ (b b_1 : Nat), [Value.string x] = cS [x] /\ (SpecG Tryz.prog [] [(some (Addr.mk b_1 (0 : Nat) none), cS [x])] (15 : FuncId) #[Value.slice (some (Addr.mk b_1 (0 : Nat) none)) (List.length [x]) (1 : Nat)] [RowT.mk (68 : TypeId) (3 : Nat) (List.length [x]) (cFw [x])] fun ads ↦ Value.agg #[Value.int
 .i64 0, .slice (Prod.fst (nthA ads (0 : Nat))) (List.length [x]) (Prod.snd (nthA ads (0 : Nat)))]) /\ (∀ (e : Ex), e ∈ [] -> e ∈ rE) /\ ∀ (a_1 : Option Addr) (cap : Nat), AOK a_1 (List.length [x]) -> List.length [x] ≤ cap -> ∀ (b_2 : Nat), b_2 = b_2 /\ True /\ b_2 = b_2 /\ True /\ (((0 : Int) ≤ (0 :
 Int) /\ (0 : Int) < (1 : Int)) /\ AOK a (1 : Nat)) /\ bk a = bk a /\ ofs a + (0 : Nat) = ofs a + (0 : Nat) /\ some (Value.int .i64 n) = some (Value.int .i64 n) /\ (True /\ True) /\ (b_2 = b_2 /\ (True /\ True) /\ ((SpecG Tryz.prog rE [] (34 : FuncId) #[Value.int .i64 n] [] fun x ↦ Value.string (itS
 n)) /\ (∀ (e : Ex), e ∈ rE -> e ∈ rE) /\ ((∀ (b : Nat), True) /\ True) /\ ∀ (b_3 : Nat), (True /\ True) /\ (a_1 = a_1 /\ List.length [x] = List.length [x] /\ cap = cap /\ b_3 = b_3 /\ (List.length [x] + (1 : Nat)) * (33 : Nat) ≤ (140737488355328 : Nat) /\ ∀ (g cap : Nat), (True /\ True) /\ (b_2 =
 b_2 /\ True /\ b_2 = b_2 /\ b_2 = b_2 /\ b = b /\ True /\ b = b /\ True /\ b = b /\ b = b /\ (68 : Nat) = (68 : Nat) /\ (3 : Nat) = (3 : Nat) /\ List.length [x] + (1 : Nat) = (2 : Nat) /\ lapp (cFw [x]) [Value.string (itS n), .int .i64 0, .bool false] = cFw [x, itS n] /\ Value.agg (Array.mk [.int
 .i64 0, .slice (some (Addr.mk g (0 : Nat) none)) (List.length [x] + (1 : Nat)) cap]) = Value.agg (Array.mk [.int .i64 0, .slice (some (Addr.mk g (0 : Nat) none)) (2 : Nat) cap])) /\ True) /\ True) /\ True) /\ ((SpecG Tryz.prog rE [] (34 : FuncId) #[Value.int .i64 n] [] fun x ↦ Value.string (itS n))
 /\ (∀ (e : Ex), e ∈ rE -> e ∈ rE) /\ ((∀ (b : Nat), True) /\ True) /\ (b_2 = b_2 /\ ((∀ (b : Nat), True) /\ True) /\ ∀ (b_3 : Nat), (True /\ True) /\ (a_1 = a_1 /\ List.length [x] = List.length [x] /\ cap = cap /\ b_3 = b_3 /\ (List.length [x] + (1 : Nat)) * (33 : Nat) ≤ (140737488355328 : Nat) /\ ∀
 (g cap : Nat), (True /\ True) /\ (b_2 = b_2 /\ True /\ b_2 = b_2 /\ b_2 = b_2 /\ b = b /\ True /\ b = b /\ True /\ b = b /\ b = b /\ (68 : Nat) = (68 : Nat) /\ (3 : Nat) = (3 : Nat) /\ List.length [x] + (1 : Nat) = (2 : Nat) /\ lapp (cFw [x]) [Value.string (itS n), .int .i64 0, .bool false] = cFw
 [x, itS n] /\ Value.agg (Array.mk [.int .i64 0, .slice (some (Addr.mk g (0 : Nat) none)) (List.length [x] + (1 : Nat)) cap]) = Value.agg (Array.mk [.int .i64 0, .slice (some (Addr.mk g (0 : Nat) none)) (2 : Nat) cap])) /\ True) /\ True) /\ True) /\ True) := by kernel_rfl
set_option maxHeartbeats 4000000 in
theorem vn1_sp (x : ByteArray) (a : Option Addr) (c : Nat) (n : Int) (hA : AOK a 1) (hn : I64 n) : SpecG Tryz.prog rE ([(a, [.int .i64 n])]) 16 #[.string x, .slice a 1 c] ([⟨68, 3, 2, cFw [x, itS n]⟩]) (fun ads => .agg #[.int .i64 0, .slice (nthA ads 0).1 2 (nthA ads 0).2]) := by
  refine specG_of (h := vn1_h x a c n) (?_ : wpG Tryz.prog rE ([(a, [.int .i64 n])]) 400 16 [.string x, .slice a 1 c] (vn1_h x a c n) ([⟨68, 3, 2, cFw [x, itS n]⟩]) (fun ads => .agg #[.int .i64 0, .slice (nthA ads 0).1 2 (nthA ads 0).2]))
  rw [vn1_x]
  (repeat' (first | with_reducible exact rfl | exact trivial | with_reducible assumption | exact vw_sp _ _ [_] (aokp _ _) (Nat.le_of_ble_eq_true rfl) | exact dec_sp _ (by assumption) | exact cU_len _ | exact cI_len _ | exact cB_len _ | exact cU_one _ | exact cI_one _ | exact cB_one _ | exact (fun _ h => h) | exact (fun _ h => (List.not_mem_nil h).elim) | (with_reducible refine e1_in ?_) | (with_reducible refine e2_in ?_) | (with_reducible refine lx_in (Nat.le_of_ble_eq_true rfl) ?_) | (with_reducible refine rqx_rf ?_) | (with_reducible refine rqx_in ?_ ?_ ?_) | (with_reducible apply And.intro) | (with_reducible intro _)))
  all_goals (first | exact Nat.le_of_ble_eq_true rfl | exact aokp _ _ | decide | omega | exact rfl | trace_state)
def vn2_h (x : ByteArray) (a : Option Addr) (c : Nat) (n m : Int) : Hint := .specg [] [2] [cS [x]] [RowT.mk (68 : TypeId) (3 : Nat) (List.length [x]) (cFw [x])] (fun ads0 ads ↦ Value.agg #[Value.int .i64 0, .slice (Prod.fst (nthA ads (0 : Nat))) (List.length [x]) (Prod.snd (nthA ads (0 : Nat)))]) (ho 4 2 (.pl (.rounds 64 (.lit (.ix (.lst (0 : Nat) (0 : Nat) (Value.int .i64
 n) (.drawf [5] [0, 1, 2] (.take 0 (.take 2 (.pl (.br (.ob 4 (.pl (.br (.specg rE [] [] [] (fun ads0 x ↦ Value.string (itS n)) (.take 4 (.take 5 (.pl (.br (.app (3 : Nat) (5 : Nat) (.take 7 (.pl (.br (.ob 4 (.lit (.ix (.lst (0 : Nat) (1 : Nat) (Value.int .i64 m) (.drawf [5] [0, 1, 2, 5] (.take 0
 (.take 2 (.pl (.br (.ob 4 (.pl (.br (.specg rE [] [] [] (fun ads0 x ↦ Value.string (itS m)) (.take 4 (.take 5 (.pl (.br (.app (3 : Nat) (6 : Nat) (.take 7 (.pl (.br (.ob 4 (.lit (ho 4 2 (ho 1 4 (.perm [3] .nil))))) .nil)))) .nil))))) .nil))) (.br (.specg rE [] [] [] (fun ads0 x ↦ Value.string (itS
 m)) (.take 4 (.pl (.br (.ob 4 (.take 5 (.pl (.br (.app (3 : Nat) (6 : Nat) (.take 7 (.pl (.br (.ob 4 (.lit (ho 4 2 (ho 1 4 (.perm [3] .nil))))) .nil)))) .nil)))) .nil)))) .nil)))))))))) .nil)))) .nil))))) .nil))) (.br (.specg rE [] [] [] (fun ads0 x ↦ Value.string (itS n)) (.take 4 (.pl (.br (.ob 4
 (.take 5 (.pl (.br (.app (3 : Nat) (5 : Nat) (.take 7 (.pl (.br (.ob 4 (.lit (.ix (.lst (0 : Nat) (1 : Nat) (Value.int .i64 m) (.drawf [5] [0, 1, 2, 5] (.take 0 (.take 2 (.pl (.br (.ob 4 (.pl (.br (.specg rE [] [] [] (fun ads0 x ↦ Value.string (itS m)) (.take 4 (.take 5 (.pl (.br (.app (3 : Nat) (6
 : Nat) (.take 7 (.pl (.br (.ob 4 (.lit (ho 4 2 (ho 1 4 (.perm [3] .nil))))) .nil)))) .nil))))) .nil))) (.br (.specg rE [] [] [] (fun ads0 x ↦ Value.string (itS m)) (.take 4 (.pl (.br (.ob 4 (.take 5 (.pl (.br (.app (3 : Nat) (6 : Nat) (.take 7 (.pl (.br (.ob 4 (.lit (ho 4 2 (ho 1 4 (.perm [3]
 .nil))))) .nil)))) .nil)))) .nil)))) .nil)))))))))) .nil)))) .nil)))) .nil)))) .nil))))))))))))
theorem vn2_x (x : ByteArray) (a : Option Addr) (c : Nat) (n m : Int) : wpG Tryz.prog rE ([(a, [.int .i64 n, .int .i64 m])]) 400 16 [.string x, .slice a 2 c] (vn2_h x a c n m) ([⟨68, 3, 3, cFw [x, itS n, itS m]⟩]) (fun ads => .agg #[.int .i64 0, .slice (nthA ads 0).1 3 (nthA ads 0).2]) = (∀ (b b_1 : Nat), [Value.string x] = cS [x] /\ (SpecG Tryz.prog [] [(some (Addr.mk b_1 (0 : Nat) none), cS [x])] (15 : FuncId) #[Value.slice (some (Addr.mk b_1 (0 : Nat) none)) (List.length [x]) (1 : Nat)] [RowT.mk (68 : TypeId) (3 : Nat) (List.length [x]) (cFw [x])] fun ads ↦ Value.agg #[Value.int
 .i64 0, .slice (Prod.fst (nthA ads (0 : Nat))) (List.length [x]) (Prod.snd (nthA ads (0 : Nat)))]) /\ (∀ (e : Ex), e ∈ [] -> e ∈ rE) /\ ∀ (a_1 : Option Addr) (cap : Nat), AOK a_1 (List.length [x]) -> List.length [x] ≤ cap -> ∀ (b_2 : Nat), b_2 = b_2 /\ True /\ b_2 = b_2 /\ True /\ (((0 : Int) ≤ (0 :
 Int) /\ (0 : Int) < (2 : Int)) /\ AOK a (2 : Nat)) /\ bk a = bk a /\ ofs a + (0 : Nat) = ofs a + (0 : Nat) /\ some (Value.int .i64 n) = some (Value.int .i64 n) /\ (True /\ True) /\ (b_2 = b_2 /\ (True /\ True) /\ ((SpecG Tryz.prog rE [] (34 : FuncId) #[Value.int .i64 n] [] fun x ↦ Value.string (itS
 n)) /\ (∀ (e : Ex), e ∈ rE -> e ∈ rE) /\ ((∀ (b : Nat), True) /\ True) /\ ∀ (b_3 : Nat), (True /\ True) /\ (a_1 = a_1 /\ List.length [x] = List.length [x] /\ cap = cap /\ b_3 = b_3 /\ (List.length [x] + (1 : Nat)) * (33 : Nat) ≤ (140737488355328 : Nat) /\ ∀ (g cap : Nat), (True /\ True) /\ (b_2 =
 b_2 /\ True /\ (((0 : Int) ≤ (1 : Int) /\ (1 : Int) < (2 : Int)) /\ AOK a (2 : Nat)) /\ bk a = bk a /\ ofs a + (1 : Nat) = ofs a + (1 : Nat) /\ some (Value.int .i64 m) = some (Value.int .i64 m) /\ (True /\ True) /\ (b_2 = b_2 /\ (True /\ True) /\ ((SpecG Tryz.prog rE [] (34 : FuncId) #[Value.int .i64
 m] [] fun x ↦ Value.string (itS m)) /\ (∀ (e : Ex), e ∈ rE -> e ∈ rE) /\ ((∀ (b : Nat), True) /\ True) /\ ∀ (b_4 : Nat), (True /\ True) /\ (some (Addr.mk g (0 : Nat) none) = some (Addr.mk g (0 : Nat) none) /\ List.length [x] + (1 : Nat) = List.length [x] + (1 : Nat) /\ cap = cap /\ b_4 = b_4 /\
 (List.length [x] + (1 : Nat) + (1 : Nat)) * (33 : Nat) ≤ (140737488355328 : Nat) /\ ∀ (g cap : Nat), (True /\ True) /\ (b_2 = b_2 /\ True /\ b_2 = b_2 /\ b_2 = b_2 /\ b = b /\ True /\ b = b /\ True /\ b = b /\ b = b /\ (68 : Nat) = (68 : Nat) /\ (3 : Nat) = (3 : Nat) /\ List.length [x] + (1 : Nat) +
 (1 : Nat) = (3 : Nat) /\ lapp (lapp (cFw [x]) [Value.string (itS n), .int .i64 0, .bool false]) [Value.string (itS m), .int .i64 0, .bool false] = cFw [x, itS n, itS m] /\ Value.agg (Array.mk [.int .i64 0, .slice (some (Addr.mk g (0 : Nat) none)) (List.length [x] + (1 : Nat) + (1 : Nat)) cap]) =
 Value.agg (Array.mk [.int .i64 0, .slice (some (Addr.mk g (0 : Nat) none)) (3 : Nat) cap])) /\ True) /\ True) /\ True) /\ ((SpecG Tryz.prog rE [] (34 : FuncId) #[Value.int .i64 m] [] fun x ↦ Value.string (itS m)) /\ (∀ (e : Ex), e ∈ rE -> e ∈ rE) /\ ((∀ (b : Nat), True) /\ True) /\ (b_2 = b_2 /\ ((∀
 (b : Nat), True) /\ True) /\ ∀ (b_4 : Nat), (True /\ True) /\ (some (Addr.mk g (0 : Nat) none) = some (Addr.mk g (0 : Nat) none) /\ List.length [x] + (1 : Nat) = List.length [x] + (1 : Nat) /\ cap = cap /\ b_4 = b_4 /\ (List.length [x] + (1 : Nat) + (1 : Nat)) * (33 : Nat) ≤ (140737488355328 : Nat)
 /\ ∀ (g cap : Nat), (True /\ True) /\ (b_2 = b_2 /\ True /\ b_2 = b_2 /\ b_2 = b_2 /\ b = b /\ True /\ b = b /\ True /\ b = b /\ b = b /\ (68 : Nat) = (68 : Nat) /\ (3 : Nat) = (3 : Nat) /\ List.length [x] + (1 : Nat) + (1 : Nat) = (3 : Nat) /\ lapp (lapp (cFw [x]) [Value.string (itS n), .int .i64
 0, .bool false]) [Value.string (itS m), .int .i64 0, .bool false] = cFw [x, itS n, itS m] /\ Value.agg (Array.mk [.int .i64 0, .slice (some (Addr.mk g (0 : Nat) none)) (List.length [x] + (1 : Nat) + (1 : Nat)) cap]) = Value.agg (Array.mk [.int .i64 0, .slice (some (Addr.mk g (0 : Nat) none)) (3 :
 Nat) cap])) /\ True) /\ True) /\ True) /\ True) /\ True) /\ True) /\ True) /\ ((SpecG Tryz.prog rE [] (34 : FuncId) #[Value.int .i64 n] [] fun x ↦ Value.string (itS n)) /\ (∀ (e : Ex), e ∈ rE -> e ∈ rE) /\ ((∀ (b : Nat), True) /\ True) /\ (b_2 = b_2 /\ ((∀ (b : Nat), True) /\ True) /\ ∀ (b_3 : Nat),
 (True /\ True) /\ (a_1 = a_1 /\ List.length [x] = List.length [x] /\ cap = cap /\ b_3 = b_3 /\ (List.length [x] + (1 : Nat)) * (33 : Nat) ≤ (140737488355328 : Nat) /\ ∀ (g cap : Nat), (True /\ True) /\ (b_2 = b_2 /\ True /\ (((0 : Int) ≤ (1 : Int) /\ (1 : Int) < (2 : Int)) /\ AOK a (2 : Nat)) /\ bk
 a = bk a /\ ofs a + (1 : Nat) = ofs a + (1 : Nat) /\ some (Value.int .i64 m) = some (Value.int .i64 m) /\ (True /\ True) /\ (b_2 = b_2 /\ (True /\ True) /\ ((SpecG Tryz.prog rE [] (34 : FuncId) #[Value.int .i64 m] [] fun x ↦ Value.string (itS m)) /\ (∀ (e : Ex), e ∈ rE -> e ∈ rE) /\ ((∀ (b : Nat),
 True) /\ True) /\ ∀ (b_4 : Nat), (True /\ True) /\ (some (Addr.mk g (0 : Nat) none) = some (Addr.mk g (0 : Nat) none) /\ List.length [x] + (1 : Nat) = List.length [x] + (1 : Nat) /\ cap = cap /\ b_4 = b_4 /\ (List.length [x] + (1 : Nat) + (1 : Nat)) * (33 : Nat) ≤ (140737488355328 : Nat) /\ ∀ (g cap
 : Nat), (True /\ True) /\ (b_2 = b_2 /\ True /\ b_2 = b_2 /\ b_2 = b_2 /\ b = b /\ True /\ b = b /\ True /\ b = b /\ b = b /\ (68 : Nat) = (68 : Nat) /\ (3 : Nat) = (3 : Nat) /\ List.length [x] + (1 : Nat) + (1 : Nat) = (3 : Nat) /\ lapp (lapp (cFw [x]) [Value.string (itS n), .int .i64 0, .bool
 false]) [Value.string (itS m), .int .i64 0, .bool false] = cFw [x, itS n, itS m] /\ Value.agg (Array.mk [.int .i64 0, .slice (some (Addr.mk g (0 : Nat) none)) (List.length [x] + (1 : Nat) + (1 : Nat)) cap]) = Value.agg (Array.mk [.int .i64 0, .slice (some (Addr.mk g (0 : Nat) none)) (3 : Nat) cap]))
 /\ True) /\ True) /\ True) /\ ((SpecG Tryz.prog rE [] (34 : FuncId) #[Value.int .i64 m] [] fun x ↦ Value.string (itS m)) /\ (∀ (e : Ex), e ∈ rE -> e ∈ rE) /\ ((∀ (b : Nat), True) /\ True) /\ (b_2 = b_2 /\ ((∀ (b : Nat), True) /\ True) /\ ∀ (b_4 : Nat), (True /\ True) /\ (some (Addr.mk g (0 : Nat)
 none) = some (Addr.mk g (0 : Nat) none) /\ List.length [x] + (1 : Nat) = List.length [x] + (1 : Nat) /\ cap = cap /\ b_4 = b_4 /\ (List.length [x] + (1 : Nat) + (1 : Nat)) * (33 : Nat) ≤ (140737488355328 : Nat) /\ ∀ (g cap : Nat), (True /\ True) /\ (b_2 = b_2 /\ True /\ b_2 = b_2 /\ b_2 = b_2 /\ b =
 b /\ True /\ b = b /\ True /\ b = b /\ b = b /\ (68 : Nat) = (68 : Nat) /\ (3 : Nat) = (3 : Nat) /\ List.length [x] + (1 : Nat) + (1 : Nat) = (3 : Nat) /\ lapp (lapp (cFw [x]) [Value.string (itS n), .int .i64 0, .bool false]) [Value.string (itS m), .int .i64 0, .bool false] = cFw [x, itS n, itS m]
 /\ Value.agg (Array.mk [.int .i64 0, .slice (some (Addr.mk g (0 : Nat) none)) (List.length [x] + (1 : Nat) + (1 : Nat)) cap]) = Value.agg (Array.mk [.int .i64 0, .slice (some (Addr.mk g (0 : Nat) none)) (3 : Nat) cap])) /\ True) /\ True) /\ True) /\ True) /\ True) /\ True) /\ True) /\ True) := by kernel_rfl
set_option maxHeartbeats 4000000 in
theorem vn2_sp (x : ByteArray) (a : Option Addr) (c : Nat) (n m : Int) (hA : AOK a 2) (hn : I64 n) (hm : I64 m) : SpecG Tryz.prog rE ([(a, [.int .i64 n, .int .i64 m])]) 16 #[.string x, .slice a 2 c] ([⟨68, 3, 3, cFw [x, itS n, itS m]⟩]) (fun ads => .agg #[.int .i64 0, .slice (nthA ads 0).1 3 (nthA ads 0).2]) := by
  refine specG_of (h := vn2_h x a c n m) (?_ : wpG Tryz.prog rE ([(a, [.int .i64 n, .int .i64 m])]) 400 16 [.string x, .slice a 2 c] (vn2_h x a c n m) ([⟨68, 3, 3, cFw [x, itS n, itS m]⟩]) (fun ads => .agg #[.int .i64 0, .slice (nthA ads 0).1 3 (nthA ads 0).2]))
  rw [vn2_x]
  (repeat' (first | with_reducible exact rfl | exact trivial | with_reducible assumption | exact vw_sp _ _ [_] (aokp _ _) (Nat.le_of_ble_eq_true rfl) | exact dec_sp _ (by assumption) | exact cU_len _ | exact cI_len _ | exact cB_len _ | exact cU_one _ | exact cI_one _ | exact cB_one _ | exact (fun _ h => h) | exact (fun _ h => (List.not_mem_nil h).elim) | (with_reducible refine e1_in ?_) | (with_reducible refine e2_in ?_) | (with_reducible refine lx_in (Nat.le_of_ble_eq_true rfl) ?_) | (with_reducible refine rqx_rf ?_) | (with_reducible refine rqx_in ?_ ?_ ?_) | (with_reducible apply And.intro) | (with_reducible intro _)))
  all_goals (first | exact Nat.le_of_ble_eq_true rfl | exact aokp _ _ | decide | omega | exact rfl | trace_state)
def vn3_h (x : ByteArray) (a : Option Addr) (c : Nat) (n m l : Int) : Hint := .specg [] [2] [cS [x]] [RowT.mk (68 : TypeId) (3 : Nat) (List.length [x]) (cFw [x])] (fun ads0 ads ↦ Value.agg #[Value.int .i64 0, .slice (Prod.fst (nthA ads (0 : Nat))) (List.length [x]) (Prod.snd (nthA ads (0 : Nat)))]) (ho 4 2 (.pl (.rounds 64 (.lit (.ix (.lst (0 : Nat) (0 : Nat) (Value.int .i64
 n) (.drawf [5] [0, 1, 2] (.take 0 (.take 2 (.pl (.br (.ob 4 (.pl (.br (.specg rE [] [] [] (fun ads0 x ↦ Value.string (itS n)) (.take 4 (.take 5 (.pl (.br (.app (3 : Nat) (5 : Nat) (.take 7 (.pl (.br (.ob 4 (.lit (.ix (.lst (0 : Nat) (1 : Nat) (Value.int .i64 m) (.drawf [5] [0, 1, 2, 5] (.take 0
 (.take 2 (.pl (.br (.ob 4 (.pl (.br (.specg rE [] [] [] (fun ads0 x ↦ Value.string (itS m)) (.take 4 (.take 5 (.pl (.br (.app (3 : Nat) (6 : Nat) (.take 7 (.pl (.br (.ob 4 (.lit (.ix (.lst (0 : Nat) (2 : Nat) (Value.int .i64 l) (.drawf [5] [0, 1, 2, 5, 6] (.take 0 (.take 2 (.pl (.br (.ob 4 (.pl (.br
 (.specg rE [] [] [] (fun ads0 x ↦ Value.string (itS l)) (.take 4 (.take 5 (.pl (.br (.app (3 : Nat) (7 : Nat) (.take 7 (.pl (.br (.ob 4 (.lit (ho 4 2 (ho 1 4 (.perm [3] .nil))))) .nil)))) .nil))))) .nil))) (.br (.specg rE [] [] [] (fun ads0 x ↦ Value.string (itS l)) (.take 4 (.pl (.br (.ob 4 (.take
 5 (.pl (.br (.app (3 : Nat) (7 : Nat) (.take 7 (.pl (.br (.ob 4 (.lit (ho 4 2 (ho 1 4 (.perm [3] .nil))))) .nil)))) .nil)))) .nil)))) .nil)))))))))) .nil)))) .nil))))) .nil))) (.br (.specg rE [] [] [] (fun ads0 x ↦ Value.string (itS m)) (.take 4 (.pl (.br (.ob 4 (.take 5 (.pl (.br (.app (3 : Nat) (6
 : Nat) (.take 7 (.pl (.br (.ob 4 (.lit (.ix (.lst (0 : Nat) (2 : Nat) (Value.int .i64 l) (.drawf [5] [0, 1, 2, 5, 6] (.take 0 (.take 2 (.pl (.br (.ob 4 (.pl (.br (.specg rE [] [] [] (fun ads0 x ↦ Value.string (itS l)) (.take 4 (.take 5 (.pl (.br (.app (3 : Nat) (7 : Nat) (.take 7 (.pl (.br (.ob 4
 (.lit (ho 4 2 (ho 1 4 (.perm [3] .nil))))) .nil)))) .nil))))) .nil))) (.br (.specg rE [] [] [] (fun ads0 x ↦ Value.string (itS l)) (.take 4 (.pl (.br (.ob 4 (.take 5 (.pl (.br (.app (3 : Nat) (7 : Nat) (.take 7 (.pl (.br (.ob 4 (.lit (ho 4 2 (ho 1 4 (.perm [3] .nil))))) .nil)))) .nil)))) .nil))))
 .nil)))))))))) .nil)))) .nil)))) .nil)))) .nil)))))))))) .nil)))) .nil))))) .nil))) (.br (.specg rE [] [] [] (fun ads0 x ↦ Value.string (itS n)) (.take 4 (.pl (.br (.ob 4 (.take 5 (.pl (.br (.app (3 : Nat) (5 : Nat) (.take 7 (.pl (.br (.ob 4 (.lit (.ix (.lst (0 : Nat) (1 : Nat) (Value.int .i64 m)
 (.drawf [5] [0, 1, 2, 5] (.take 0 (.take 2 (.pl (.br (.ob 4 (.pl (.br (.specg rE [] [] [] (fun ads0 x ↦ Value.string (itS m)) (.take 4 (.take 5 (.pl (.br (.app (3 : Nat) (6 : Nat) (.take 7 (.pl (.br (.ob 4 (.lit (.ix (.lst (0 : Nat) (2 : Nat) (Value.int .i64 l) (.drawf [5] [0, 1, 2, 5, 6] (.take 0
 (.take 2 (.pl (.br (.ob 4 (.pl (.br (.specg rE [] [] [] (fun ads0 x ↦ Value.string (itS l)) (.take 4 (.take 5 (.pl (.br (.app (3 : Nat) (7 : Nat) (.take 7 (.pl (.br (.ob 4 (.lit (ho 4 2 (ho 1 4 (.perm [3] .nil))))) .nil)))) .nil))))) .nil))) (.br (.specg rE [] [] [] (fun ads0 x ↦ Value.string (itS
 l)) (.take 4 (.pl (.br (.ob 4 (.take 5 (.pl (.br (.app (3 : Nat) (7 : Nat) (.take 7 (.pl (.br (.ob 4 (.lit (ho 4 2 (ho 1 4 (.perm [3] .nil))))) .nil)))) .nil)))) .nil)))) .nil)))))))))) .nil)))) .nil))))) .nil))) (.br (.specg rE [] [] [] (fun ads0 x ↦ Value.string (itS m)) (.take 4 (.pl (.br (.ob 4
 (.take 5 (.pl (.br (.app (3 : Nat) (6 : Nat) (.take 7 (.pl (.br (.ob 4 (.lit (.ix (.lst (0 : Nat) (2 : Nat) (Value.int .i64 l) (.drawf [5] [0, 1, 2, 5, 6] (.take 0 (.take 2 (.pl (.br (.ob 4 (.pl (.br (.specg rE [] [] [] (fun ads0 x ↦ Value.string (itS l)) (.take 4 (.take 5 (.pl (.br (.app (3 : Nat)
 (7 : Nat) (.take 7 (.pl (.br (.ob 4 (.lit (ho 4 2 (ho 1 4 (.perm [3] .nil))))) .nil)))) .nil))))) .nil))) (.br (.specg rE [] [] [] (fun ads0 x ↦ Value.string (itS l)) (.take 4 (.pl (.br (.ob 4 (.take 5 (.pl (.br (.app (3 : Nat) (7 : Nat) (.take 7 (.pl (.br (.ob 4 (.lit (ho 4 2 (ho 1 4 (.perm [3]
 .nil))))) .nil)))) .nil)))) .nil)))) .nil)))))))))) .nil)))) .nil)))) .nil)))) .nil)))))))))) .nil)))) .nil)))) .nil)))) .nil))))))))))))
theorem vn3_x (x : ByteArray) (a : Option Addr) (c : Nat) (n m l : Int) : wpG Tryz.prog rE ([(a, [.int .i64 n, .int .i64 m, .int .i64 l])]) 400 16 [.string x, .slice a 3 c] (vn3_h x a c n m l) ([⟨68, 3, 4, cFw [x, itS n, itS m, itS l]⟩]) (fun ads => .agg #[.int .i64 0, .slice (nthA ads 0).1 4 (nthA ads 0).2]) = (∀ (b b_1 : Nat), [Value.string x] = cS [x] /\ (SpecG Tryz.prog [] [(some (Addr.mk b_1 (0 : Nat) none), cS [x])] (15 : FuncId) #[Value.slice (some (Addr.mk b_1 (0 : Nat) none)) (List.length [x]) (1 : Nat)] [RowT.mk (68 : TypeId) (3 : Nat) (List.length [x]) (cFw [x])] fun ads ↦ Value.agg #[Value.int
 .i64 0, .slice (Prod.fst (nthA ads (0 : Nat))) (List.length [x]) (Prod.snd (nthA ads (0 : Nat)))]) /\ (∀ (e : Ex), e ∈ [] -> e ∈ rE) /\ ∀ (a_1 : Option Addr) (cap : Nat), AOK a_1 (List.length [x]) -> List.length [x] ≤ cap -> ∀ (b_2 : Nat), b_2 = b_2 /\ True /\ b_2 = b_2 /\ True /\ (((0 : Int) ≤ (0 :
 Int) /\ (0 : Int) < (3 : Int)) /\ AOK a (3 : Nat)) /\ bk a = bk a /\ ofs a + (0 : Nat) = ofs a + (0 : Nat) /\ some (Value.int .i64 n) = some (Value.int .i64 n) /\ (True /\ True) /\ (b_2 = b_2 /\ (True /\ True) /\ ((SpecG Tryz.prog rE [] (34 : FuncId) #[Value.int .i64 n] [] fun x ↦ Value.string (itS
 n)) /\ (∀ (e : Ex), e ∈ rE -> e ∈ rE) /\ ((∀ (b : Nat), True) /\ True) /\ ∀ (b_3 : Nat), (True /\ True) /\ (a_1 = a_1 /\ List.length [x] = List.length [x] /\ cap = cap /\ b_3 = b_3 /\ (List.length [x] + (1 : Nat)) * (33 : Nat) ≤ (140737488355328 : Nat) /\ ∀ (g cap : Nat), (True /\ True) /\ (b_2 =
 b_2 /\ True /\ (((0 : Int) ≤ (1 : Int) /\ (1 : Int) < (3 : Int)) /\ AOK a (3 : Nat)) /\ bk a = bk a /\ ofs a + (1 : Nat) = ofs a + (1 : Nat) /\ some (Value.int .i64 m) = some (Value.int .i64 m) /\ (True /\ True) /\ (b_2 = b_2 /\ (True /\ True) /\ ((SpecG Tryz.prog rE [] (34 : FuncId) #[Value.int .i64
 m] [] fun x ↦ Value.string (itS m)) /\ (∀ (e : Ex), e ∈ rE -> e ∈ rE) /\ ((∀ (b : Nat), True) /\ True) /\ ∀ (b_4 : Nat), (True /\ True) /\ (some (Addr.mk g (0 : Nat) none) = some (Addr.mk g (0 : Nat) none) /\ List.length [x] + (1 : Nat) = List.length [x] + (1 : Nat) /\ cap = cap /\ b_4 = b_4 /\
 (List.length [x] + (1 : Nat) + (1 : Nat)) * (33 : Nat) ≤ (140737488355328 : Nat) /\ ∀ (g cap : Nat), (True /\ True) /\ (b_2 = b_2 /\ True /\ (((0 : Int) ≤ (2 : Int) /\ (2 : Int) < (3 : Int)) /\ AOK a (3 : Nat)) /\ bk a = bk a /\ ofs a + (2 : Nat) = ofs a + (2 : Nat) /\ some (Value.int .i64 l) = some
 (Value.int .i64 l) /\ (True /\ True) /\ (b_2 = b_2 /\ (True /\ True) /\ ((SpecG Tryz.prog rE [] (34 : FuncId) #[Value.int .i64 l] [] fun x ↦ Value.string (itS l)) /\ (∀ (e : Ex), e ∈ rE -> e ∈ rE) /\ ((∀ (b : Nat), True) /\ True) /\ ∀ (b_5 : Nat), (True /\ True) /\ (some (Addr.mk g (0 : Nat) none) =
 some (Addr.mk g (0 : Nat) none) /\ List.length [x] + (1 : Nat) + (1 : Nat) = List.length [x] + (1 : Nat) + (1 : Nat) /\ cap = cap /\ b_5 = b_5 /\ (List.length [x] + (1 : Nat) + (1 : Nat) + (1 : Nat)) * (33 : Nat) ≤ (140737488355328 : Nat) /\ ∀ (g cap : Nat), (True /\ True) /\ (b_2 = b_2 /\ True /\
 b_2 = b_2 /\ b_2 = b_2 /\ b = b /\ True /\ b = b /\ True /\ b = b /\ b = b /\ (68 : Nat) = (68 : Nat) /\ (3 : Nat) = (3 : Nat) /\ List.length [x] + (1 : Nat) + (1 : Nat) + (1 : Nat) = (4 : Nat) /\ lapp (lapp (lapp (cFw [x]) [Value.string (itS n), .int .i64 0, .bool false]) [Value.string (itS m),
 .int .i64 0, .bool false]) [Value.string (itS l), .int .i64 0, .bool false] = cFw [x, itS n, itS m, itS l] /\ Value.agg (Array.mk [.int .i64 0, .slice (some (Addr.mk g (0 : Nat) none)) (List.length [x] + (1 : Nat) + (1 : Nat) + (1 : Nat)) cap]) = Value.agg (Array.mk [.int .i64 0, .slice (some
 (Addr.mk g (0 : Nat) none)) (4 : Nat) cap])) /\ True) /\ True) /\ True) /\ ((SpecG Tryz.prog rE [] (34 : FuncId) #[Value.int .i64 l] [] fun x ↦ Value.string (itS l)) /\ (∀ (e : Ex), e ∈ rE -> e ∈ rE) /\ ((∀ (b : Nat), True) /\ True) /\ (b_2 = b_2 /\ ((∀ (b : Nat), True) /\ True) /\ ∀ (b_5 : Nat),
 (True /\ True) /\ (some (Addr.mk g (0 : Nat) none) = some (Addr.mk g (0 : Nat) none) /\ List.length [x] + (1 : Nat) + (1 : Nat) = List.length [x] + (1 : Nat) + (1 : Nat) /\ cap = cap /\ b_5 = b_5 /\ (List.length [x] + (1 : Nat) + (1 : Nat) + (1 : Nat)) * (33 : Nat) ≤ (140737488355328 : Nat) /\ ∀ (g
 cap : Nat), (True /\ True) /\ (b_2 = b_2 /\ True /\ b_2 = b_2 /\ b_2 = b_2 /\ b = b /\ True /\ b = b /\ True /\ b = b /\ b = b /\ (68 : Nat) = (68 : Nat) /\ (3 : Nat) = (3 : Nat) /\ List.length [x] + (1 : Nat) + (1 : Nat) + (1 : Nat) = (4 : Nat) /\ lapp (lapp (lapp (cFw [x]) [Value.string (itS n),
 .int .i64 0, .bool false]) [Value.string (itS m), .int .i64 0, .bool false]) [Value.string (itS l), .int .i64 0, .bool false] = cFw [x, itS n, itS m, itS l] /\ Value.agg (Array.mk [.int .i64 0, .slice (some (Addr.mk g (0 : Nat) none)) (List.length [x] + (1 : Nat) + (1 : Nat) + (1 : Nat)) cap]) =
 Value.agg (Array.mk [.int .i64 0, .slice (some (Addr.mk g (0 : Nat) none)) (4 : Nat) cap])) /\ True) /\ True) /\ True) /\ True) /\ True) /\ True) /\ True) /\ ((SpecG Tryz.prog rE [] (34 : FuncId) #[Value.int .i64 m] [] fun x ↦ Value.string (itS m)) /\ (∀ (e : Ex), e ∈ rE -> e ∈ rE) /\ ((∀ (b : Nat),
 True) /\ True) /\ (b_2 = b_2 /\ ((∀ (b : Nat), True) /\ True) /\ ∀ (b_4 : Nat), (True /\ True) /\ (some (Addr.mk g (0 : Nat) none) = some (Addr.mk g (0 : Nat) none) /\ List.length [x] + (1 : Nat) = List.length [x] + (1 : Nat) /\ cap = cap /\ b_4 = b_4 /\ (List.length [x] + (1 : Nat) + (1 : Nat)) *
 (33 : Nat) ≤ (140737488355328 : Nat) /\ ∀ (g cap : Nat), (True /\ True) /\ (b_2 = b_2 /\ True /\ (((0 : Int) ≤ (2 : Int) /\ (2 : Int) < (3 : Int)) /\ AOK a (3 : Nat)) /\ bk a = bk a /\ ofs a + (2 : Nat) = ofs a + (2 : Nat) /\ some (Value.int .i64 l) = some (Value.int .i64 l) /\ (True /\ True) /\
 (b_2 = b_2 /\ (True /\ True) /\ ((SpecG Tryz.prog rE [] (34 : FuncId) #[Value.int .i64 l] [] fun x ↦ Value.string (itS l)) /\ (∀ (e : Ex), e ∈ rE -> e ∈ rE) /\ ((∀ (b : Nat), True) /\ True) /\ ∀ (b_5 : Nat), (True /\ True) /\ (some (Addr.mk g (0 : Nat) none) = some (Addr.mk g (0 : Nat) none) /\
 List.length [x] + (1 : Nat) + (1 : Nat) = List.length [x] + (1 : Nat) + (1 : Nat) /\ cap = cap /\ b_5 = b_5 /\ (List.length [x] + (1 : Nat) + (1 : Nat) + (1 : Nat)) * (33 : Nat) ≤ (140737488355328 : Nat) /\ ∀ (g cap : Nat), (True /\ True) /\ (b_2 = b_2 /\ True /\ b_2 = b_2 /\ b_2 = b_2 /\ b = b /\
 True /\ b = b /\ True /\ b = b /\ b = b /\ (68 : Nat) = (68 : Nat) /\ (3 : Nat) = (3 : Nat) /\ List.length [x] + (1 : Nat) + (1 : Nat) + (1 : Nat) = (4 : Nat) /\ lapp (lapp (lapp (cFw [x]) [Value.string (itS n), .int .i64 0, .bool false]) [Value.string (itS m), .int .i64 0, .bool false])
 [Value.string (itS l), .int .i64 0, .bool false] = cFw [x, itS n, itS m, itS l] /\ Value.agg (Array.mk [.int .i64 0, .slice (some (Addr.mk g (0 : Nat) none)) (List.length [x] + (1 : Nat) + (1 : Nat) + (1 : Nat)) cap]) = Value.agg (Array.mk [.int .i64 0, .slice (some (Addr.mk g (0 : Nat) none)) (4 :
 Nat) cap])) /\ True) /\ True) /\ True) /\ ((SpecG Tryz.prog rE [] (34 : FuncId) #[Value.int .i64 l] [] fun x ↦ Value.string (itS l)) /\ (∀ (e : Ex), e ∈ rE -> e ∈ rE) /\ ((∀ (b : Nat), True) /\ True) /\ (b_2 = b_2 /\ ((∀ (b : Nat), True) /\ True) /\ ∀ (b_5 : Nat), (True /\ True) /\ (some (Addr.mk g
 (0 : Nat) none) = some (Addr.mk g (0 : Nat) none) /\ List.length [x] + (1 : Nat) + (1 : Nat) = List.length [x] + (1 : Nat) + (1 : Nat) /\ cap = cap /\ b_5 = b_5 /\ (List.length [x] + (1 : Nat) + (1 : Nat) + (1 : Nat)) * (33 : Nat) ≤ (140737488355328 : Nat) /\ ∀ (g cap : Nat), (True /\ True) /\ (b_2
 = b_2 /\ True /\ b_2 = b_2 /\ b_2 = b_2 /\ b = b /\ True /\ b = b /\ True /\ b = b /\ b = b /\ (68 : Nat) = (68 : Nat) /\ (3 : Nat) = (3 : Nat) /\ List.length [x] + (1 : Nat) + (1 : Nat) + (1 : Nat) = (4 : Nat) /\ lapp (lapp (lapp (cFw [x]) [Value.string (itS n), .int .i64 0, .bool false])
 [Value.string (itS m), .int .i64 0, .bool false]) [Value.string (itS l), .int .i64 0, .bool false] = cFw [x, itS n, itS m, itS l] /\ Value.agg (Array.mk [.int .i64 0, .slice (some (Addr.mk g (0 : Nat) none)) (List.length [x] + (1 : Nat) + (1 : Nat) + (1 : Nat)) cap]) = Value.agg (Array.mk [.int .i64
 0, .slice (some (Addr.mk g (0 : Nat) none)) (4 : Nat) cap])) /\ True) /\ True) /\ True) /\ True) /\ True) /\ True) /\ True) /\ True) /\ True) /\ True) /\ True) /\ ((SpecG Tryz.prog rE [] (34 : FuncId) #[Value.int .i64 n] [] fun x ↦ Value.string (itS n)) /\ (∀ (e : Ex), e ∈ rE -> e ∈ rE) /\ ((∀ (b :
 Nat), True) /\ True) /\ (b_2 = b_2 /\ ((∀ (b : Nat), True) /\ True) /\ ∀ (b_3 : Nat), (True /\ True) /\ (a_1 = a_1 /\ List.length [x] = List.length [x] /\ cap = cap /\ b_3 = b_3 /\ (List.length [x] + (1 : Nat)) * (33 : Nat) ≤ (140737488355328 : Nat) /\ ∀ (g cap : Nat), (True /\ True) /\ (b_2 = b_2
 /\ True /\ (((0 : Int) ≤ (1 : Int) /\ (1 : Int) < (3 : Int)) /\ AOK a (3 : Nat)) /\ bk a = bk a /\ ofs a + (1 : Nat) = ofs a + (1 : Nat) /\ some (Value.int .i64 m) = some (Value.int .i64 m) /\ (True /\ True) /\ (b_2 = b_2 /\ (True /\ True) /\ ((SpecG Tryz.prog rE [] (34 : FuncId) #[Value.int .i64 m]
 [] fun x ↦ Value.string (itS m)) /\ (∀ (e : Ex), e ∈ rE -> e ∈ rE) /\ ((∀ (b : Nat), True) /\ True) /\ ∀ (b_4 : Nat), (True /\ True) /\ (some (Addr.mk g (0 : Nat) none) = some (Addr.mk g (0 : Nat) none) /\ List.length [x] + (1 : Nat) = List.length [x] + (1 : Nat) /\ cap = cap /\ b_4 = b_4 /\
 (List.length [x] + (1 : Nat) + (1 : Nat)) * (33 : Nat) ≤ (140737488355328 : Nat) /\ ∀ (g cap : Nat), (True /\ True) /\ (b_2 = b_2 /\ True /\ (((0 : Int) ≤ (2 : Int) /\ (2 : Int) < (3 : Int)) /\ AOK a (3 : Nat)) /\ bk a = bk a /\ ofs a + (2 : Nat) = ofs a + (2 : Nat) /\ some (Value.int .i64 l) = some
 (Value.int .i64 l) /\ (True /\ True) /\ (b_2 = b_2 /\ (True /\ True) /\ ((SpecG Tryz.prog rE [] (34 : FuncId) #[Value.int .i64 l] [] fun x ↦ Value.string (itS l)) /\ (∀ (e : Ex), e ∈ rE -> e ∈ rE) /\ ((∀ (b : Nat), True) /\ True) /\ ∀ (b_5 : Nat), (True /\ True) /\ (some (Addr.mk g (0 : Nat) none) =
 some (Addr.mk g (0 : Nat) none) /\ List.length [x] + (1 : Nat) + (1 : Nat) = List.length [x] + (1 : Nat) + (1 : Nat) /\ cap = cap /\ b_5 = b_5 /\ (List.length [x] + (1 : Nat) + (1 : Nat) + (1 : Nat)) * (33 : Nat) ≤ (140737488355328 : Nat) /\ ∀ (g cap : Nat), (True /\ True) /\ (b_2 = b_2 /\ True /\
 b_2 = b_2 /\ b_2 = b_2 /\ b = b /\ True /\ b = b /\ True /\ b = b /\ b = b /\ (68 : Nat) = (68 : Nat) /\ (3 : Nat) = (3 : Nat) /\ List.length [x] + (1 : Nat) + (1 : Nat) + (1 : Nat) = (4 : Nat) /\ lapp (lapp (lapp (cFw [x]) [Value.string (itS n), .int .i64 0, .bool false]) [Value.string (itS m),
 .int .i64 0, .bool false]) [Value.string (itS l), .int .i64 0, .bool false] = cFw [x, itS n, itS m, itS l] /\ Value.agg (Array.mk [.int .i64 0, .slice (some (Addr.mk g (0 : Nat) none)) (List.length [x] + (1 : Nat) + (1 : Nat) + (1 : Nat)) cap]) = Value.agg (Array.mk [.int .i64 0, .slice (some
 (Addr.mk g (0 : Nat) none)) (4 : Nat) cap])) /\ True) /\ True) /\ True) /\ ((SpecG Tryz.prog rE [] (34 : FuncId) #[Value.int .i64 l] [] fun x ↦ Value.string (itS l)) /\ (∀ (e : Ex), e ∈ rE -> e ∈ rE) /\ ((∀ (b : Nat), True) /\ True) /\ (b_2 = b_2 /\ ((∀ (b : Nat), True) /\ True) /\ ∀ (b_5 : Nat),
 (True /\ True) /\ (some (Addr.mk g (0 : Nat) none) = some (Addr.mk g (0 : Nat) none) /\ List.length [x] + (1 : Nat) + (1 : Nat) = List.length [x] + (1 : Nat) + (1 : Nat) /\ cap = cap /\ b_5 = b_5 /\ (List.length [x] + (1 : Nat) + (1 : Nat) + (1 : Nat)) * (33 : Nat) ≤ (140737488355328 : Nat) /\ ∀ (g
 cap : Nat), (True /\ True) /\ (b_2 = b_2 /\ True /\ b_2 = b_2 /\ b_2 = b_2 /\ b = b /\ True /\ b = b /\ True /\ b = b /\ b = b /\ (68 : Nat) = (68 : Nat) /\ (3 : Nat) = (3 : Nat) /\ List.length [x] + (1 : Nat) + (1 : Nat) + (1 : Nat) = (4 : Nat) /\ lapp (lapp (lapp (cFw [x]) [Value.string (itS n),
 .int .i64 0, .bool false]) [Value.string (itS m), .int .i64 0, .bool false]) [Value.string (itS l), .int .i64 0, .bool false] = cFw [x, itS n, itS m, itS l] /\ Value.agg (Array.mk [.int .i64 0, .slice (some (Addr.mk g (0 : Nat) none)) (List.length [x] + (1 : Nat) + (1 : Nat) + (1 : Nat)) cap]) =
 Value.agg (Array.mk [.int .i64 0, .slice (some (Addr.mk g (0 : Nat) none)) (4 : Nat) cap])) /\ True) /\ True) /\ True) /\ True) /\ True) /\ True) /\ True) /\ ((SpecG Tryz.prog rE [] (34 : FuncId) #[Value.int .i64 m] [] fun x ↦ Value.string (itS m)) /\ (∀ (e : Ex), e ∈ rE -> e ∈ rE) /\ ((∀ (b : Nat),
 True) /\ True) /\ (b_2 = b_2 /\ ((∀ (b : Nat), True) /\ True) /\ ∀ (b_4 : Nat), (True /\ True) /\ (some (Addr.mk g (0 : Nat) none) = some (Addr.mk g (0 : Nat) none) /\ List.length [x] + (1 : Nat) = List.length [x] + (1 : Nat) /\ cap = cap /\ b_4 = b_4 /\ (List.length [x] + (1 : Nat) + (1 : Nat)) *
 (33 : Nat) ≤ (140737488355328 : Nat) /\ ∀ (g cap : Nat), (True /\ True) /\ (b_2 = b_2 /\ True /\ (((0 : Int) ≤ (2 : Int) /\ (2 : Int) < (3 : Int)) /\ AOK a (3 : Nat)) /\ bk a = bk a /\ ofs a + (2 : Nat) = ofs a + (2 : Nat) /\ some (Value.int .i64 l) = some (Value.int .i64 l) /\ (True /\ True) /\
 (b_2 = b_2 /\ (True /\ True) /\ ((SpecG Tryz.prog rE [] (34 : FuncId) #[Value.int .i64 l] [] fun x ↦ Value.string (itS l)) /\ (∀ (e : Ex), e ∈ rE -> e ∈ rE) /\ ((∀ (b : Nat), True) /\ True) /\ ∀ (b_5 : Nat), (True /\ True) /\ (some (Addr.mk g (0 : Nat) none) = some (Addr.mk g (0 : Nat) none) /\
 List.length [x] + (1 : Nat) + (1 : Nat) = List.length [x] + (1 : Nat) + (1 : Nat) /\ cap = cap /\ b_5 = b_5 /\ (List.length [x] + (1 : Nat) + (1 : Nat) + (1 : Nat)) * (33 : Nat) ≤ (140737488355328 : Nat) /\ ∀ (g cap : Nat), (True /\ True) /\ (b_2 = b_2 /\ True /\ b_2 = b_2 /\ b_2 = b_2 /\ b = b /\
 True /\ b = b /\ True /\ b = b /\ b = b /\ (68 : Nat) = (68 : Nat) /\ (3 : Nat) = (3 : Nat) /\ List.length [x] + (1 : Nat) + (1 : Nat) + (1 : Nat) = (4 : Nat) /\ lapp (lapp (lapp (cFw [x]) [Value.string (itS n), .int .i64 0, .bool false]) [Value.string (itS m), .int .i64 0, .bool false])
 [Value.string (itS l), .int .i64 0, .bool false] = cFw [x, itS n, itS m, itS l] /\ Value.agg (Array.mk [.int .i64 0, .slice (some (Addr.mk g (0 : Nat) none)) (List.length [x] + (1 : Nat) + (1 : Nat) + (1 : Nat)) cap]) = Value.agg (Array.mk [.int .i64 0, .slice (some (Addr.mk g (0 : Nat) none)) (4 :
 Nat) cap])) /\ True) /\ True) /\ True) /\ ((SpecG Tryz.prog rE [] (34 : FuncId) #[Value.int .i64 l] [] fun x ↦ Value.string (itS l)) /\ (∀ (e : Ex), e ∈ rE -> e ∈ rE) /\ ((∀ (b : Nat), True) /\ True) /\ (b_2 = b_2 /\ ((∀ (b : Nat), True) /\ True) /\ ∀ (b_5 : Nat), (True /\ True) /\ (some (Addr.mk g
 (0 : Nat) none) = some (Addr.mk g (0 : Nat) none) /\ List.length [x] + (1 : Nat) + (1 : Nat) = List.length [x] + (1 : Nat) + (1 : Nat) /\ cap = cap /\ b_5 = b_5 /\ (List.length [x] + (1 : Nat) + (1 : Nat) + (1 : Nat)) * (33 : Nat) ≤ (140737488355328 : Nat) /\ ∀ (g cap : Nat), (True /\ True) /\ (b_2
 = b_2 /\ True /\ b_2 = b_2 /\ b_2 = b_2 /\ b = b /\ True /\ b = b /\ True /\ b = b /\ b = b /\ (68 : Nat) = (68 : Nat) /\ (3 : Nat) = (3 : Nat) /\ List.length [x] + (1 : Nat) + (1 : Nat) + (1 : Nat) = (4 : Nat) /\ lapp (lapp (lapp (cFw [x]) [Value.string (itS n), .int .i64 0, .bool false])
 [Value.string (itS m), .int .i64 0, .bool false]) [Value.string (itS l), .int .i64 0, .bool false] = cFw [x, itS n, itS m, itS l] /\ Value.agg (Array.mk [.int .i64 0, .slice (some (Addr.mk g (0 : Nat) none)) (List.length [x] + (1 : Nat) + (1 : Nat) + (1 : Nat)) cap]) = Value.agg (Array.mk [.int .i64
 0, .slice (some (Addr.mk g (0 : Nat) none)) (4 : Nat) cap])) /\ True) /\ True) /\ True) /\ True) /\ True) /\ True) /\ True) /\ True) /\ True) /\ True) /\ True) /\ True) := by kernel_rfl
set_option maxHeartbeats 4000000 in
theorem vn3_sp (x : ByteArray) (a : Option Addr) (c : Nat) (n m l : Int) (hA : AOK a 3) (hn : I64 n) (hm : I64 m) (hl : I64 l) : SpecG Tryz.prog rE ([(a, [.int .i64 n, .int .i64 m, .int .i64 l])]) 16 #[.string x, .slice a 3 c] ([⟨68, 3, 4, cFw [x, itS n, itS m, itS l]⟩]) (fun ads => .agg #[.int .i64 0, .slice (nthA ads 0).1 4 (nthA ads 0).2]) := by
  refine specG_of (h := vn3_h x a c n m l) (?_ : wpG Tryz.prog rE ([(a, [.int .i64 n, .int .i64 m, .int .i64 l])]) 400 16 [.string x, .slice a 3 c] (vn3_h x a c n m l) ([⟨68, 3, 4, cFw [x, itS n, itS m, itS l]⟩]) (fun ads => .agg #[.int .i64 0, .slice (nthA ads 0).1 4 (nthA ads 0).2]))
  rw [vn3_x]
  (repeat' (first | with_reducible exact rfl | exact trivial | with_reducible assumption | exact vw_sp _ _ [_] (aokp _ _) (Nat.le_of_ble_eq_true rfl) | exact dec_sp _ (by assumption) | exact cU_len _ | exact cI_len _ | exact cB_len _ | exact cU_one _ | exact cI_one _ | exact cB_one _ | exact (fun _ h => h) | exact (fun _ h => (List.not_mem_nil h).elim) | (with_reducible refine e1_in ?_) | (with_reducible refine e2_in ?_) | (with_reducible refine lx_in (Nat.le_of_ble_eq_true rfl) ?_) | (with_reducible refine rqx_rf ?_) | (with_reducible refine rqx_in ?_ ?_ ?_) | (with_reducible apply And.intro) | (with_reducible intro _)))
  all_goals (first | exact Nat.le_of_ble_eq_true rfl | exact aokp _ _ | decide | omega | exact rfl | trace_state)
def van_h (b : Bool) : Hint := .split (.inl (.ix (.ob 0 (.perm [] .nil)))) (.inl (.ix (.ob 0 (.perm [] .nil))))
theorem van_x (b : Bool) : wpG Tryz.prog [] ([]) 400 17 [.bool b] (van_h b) ([]) (fun _ => .string (ansS b)) = ((b = true -> ∀ (b_1 : Nat), (((0 : Int) ≤ (0 : Int) /\ (0 : Int) < (2 : Int)) /\ AOK (some (Addr.mk b_1 (0 : Nat) none)) (2 : Nat)) /\ b_1 = b_1 /\ Value.string (ByteArray.mk (Array.mk [(89 : UInt8), (69 : UInt8), (83 : UInt8)])) = Value.string (if b = true then ByteArray.mk (Array.mk [(89 : UInt8),
 (69 : UInt8), (83 : UInt8)]) else ByteArray.mk (Array.mk [(78 : UInt8), (79 : UInt8)]))) /\ (b = false -> ∀ (b_1 : Nat), (((0 : Int) ≤ (1 : Int) /\ (1 : Int) < (2 : Int)) /\ AOK (some (Addr.mk b_1 (0 : Nat) none)) (2 : Nat)) /\ b_1 = b_1 /\ Value.string (ByteArray.mk (Array.mk [(78 : UInt8), (79 :
 UInt8)])) = Value.string (if b = true then ByteArray.mk (Array.mk [(89 : UInt8), (69 : UInt8), (83 : UInt8)]) else ByteArray.mk (Array.mk [(78 : UInt8), (79 : UInt8)])))) := by kernel_rfl
set_option maxHeartbeats 4000000 in
theorem van_sp (b : Bool)  : SpecG Tryz.prog [] ([]) 17 #[.bool b] ([]) (fun _ => .string (ansS b)) := by
  refine specG_of (h := van_h b) (?_ : wpG Tryz.prog [] ([]) 400 17 [.bool b] (van_h b) ([]) (fun _ => .string (ansS b)))
  rw [van_x]
  (repeat' (first | with_reducible exact rfl | exact trivial | with_reducible assumption | exact cU_len _ | exact cI_len _ | exact cB_len _ | exact cU_one _ | exact cI_one _ | exact cB_one _ | exact (fun _ h => h) | exact (fun _ h => (List.not_mem_nil h).elim) | (with_reducible refine e1_in ?_) | (with_reducible refine e2_in ?_) | (with_reducible refine lx_in (Nat.le_of_ble_eq_true rfl) ?_) | (with_reducible refine rqx_rf ?_) | (with_reducible refine rqx_in ?_ ?_ ?_) | (with_reducible apply And.intro) | (with_reducible intro _)))
  all_goals (first | exact aokp _ _ | decide | (simp_all [ansS]; done) | trace_state)

theorem extOK_up {E : List Ex} {w0 w : World} (h : ExtOK E w0) (hb : Below w0.heap.size w0 w) : ExtOK E w := MRep.extOK (w0 := bs0 w0) (os := []) ⟨hb, (fun i o ho => by simp at ho), (fun i j o p k ho => by simp at ho), h, ⟨hb.size, fun k hk _ => hb.block k hk⟩, (fun i o k ho => by simp at ho)⟩
theorem wr_c (A : Option Addr) (c : Nat) (L : List LnA) (hA : AOK A L.length) (hl : ∀ l, l ∈ L → AOK l.a l.fs.length) (hf : Fine (lnL L)) : SpecC Tryz.prog rE [(A, cLn L)] [famG 68 3 false (frW L)] [] 18 #[.slice A L.length c] Un (fun x => x = Un.un) (fun _ => []) (fun _ => .string (wtS L)) := by
  intro w0 w hb hE hrd hgs hin hap hsep
  have hg := hgs _ (List.mem_singleton.2 rfl)
  have hL : RdL w (.slice A L.length c) (lnL L) := rdL_of hA (hrd _ _ (List.mem_singleton.2 rfl)) fun l hm => ⟨hl l hm, by
    obtain ⟨m, hm2⟩ := List.mem_iff_getElem?.1 hm
    exact famG_at (m := m) (r := ⟨l.a, l.fs.length, l.c, cFw l.fs⟩) (by rw [frW, List.getElem?_map, hm2]; rfl) hg⟩
  refine (write_any (lnL L) _ w hL hf (rE_env (extOK_up hE hb))).mono fun e w' ⟨he, hb2⟩ => ?_
  exact ⟨Un.un, rfl, he, hb.trans (hb2.mono hb.size), ⟨hb2.size, fun k hk _ => hb2.block k hk⟩, (fun o h => by cases h), (fun i j o p k h => by simp at h)⟩

theorem famG_drop {el : TypeId} {size : Nat} (e : TypeId) {ps : List Ob} {q : Ob} (h : AbsP (ghOb e (famG el size true []) :: ps) q) : AbsP ps q := by
  intro base w hok hap
  have hn := famG_nil el size true w
  obtain ⟨r1, r2, r3⟩ := h base w (fun o ho => by
    rcases List.mem_cons.1 ho with rfl | ho
    · exact ghOb_ok.2 ⟨hn.1, fun _ k hk => absurd hk (hn.2 k)⟩
    · exact hok o ho) (fun i j o p k hi hj hk hd => by
    match i, j, hi, hj with
    | 0, 0, _, _ => rfl
    | 0, j + 1, hi, _ => simp at hi; subst hi; exact absurd (ghOb_kp.1 hk).2 (hn.2 k)
    | i + 1, 0, _, hj => simp at hj; subst hj; exact absurd (ghOb_dep.1 hd) (hn.2 k)
    | i + 1, j + 1, hi, hj => have := hap i j o p k (by simpa using hi) (by simpa using hj) hk hd; omega)
  refine ⟨r1, fun k hk => ?_, fun k hk => ?_⟩
  · obtain ⟨o, ho, h⟩ := r2 k hk
    rcases List.mem_cons.1 ho with rfl | ho
    · exact absurd (ghOb_dep.1 h) (hn.2 k)
    · exact ⟨o, ho, h⟩
  · obtain ⟨o, ho, h⟩ := r3 k hk
    rcases List.mem_cons.1 ho with rfl | ho
    · exact absurd (ghOb_kp.1 h).2 (hn.2 k)
    · exact ⟨o, ho, h⟩
theorem rlLs_len (r : Rul) (k : Nat) (h : k ≤ r.pw.length) : (rlLs r k).length = k + 12 := by unfold rlLs; rw [List.length_append, List.length_map, List.length_take]; show 12 + _ = _; omega
theorem rlLs_s (r : Rul) (k : Nat) (h : k < r.pw.length) : rlLs r (k + 1) = rlLs r k ++ [rlP (r.pw.getD k ⟨0, 0, 0⟩)] := by
  unfold rlLs
  rw [List.take_add_one, List.getElem?_eq_getElem h, List.map_append, ← List.append_assoc, List.getD_eq_getElem?_getD, List.getElem?_eq_getElem h]
  rfl
theorem tI_len {r : Rul} {x : TS} (h : tI r x) : x.L.length = x.i + 12 := by
  have := congrArg List.length h.2.1
  rw [List.length_map, rlLs_len r _ h.1] at this
  exact this
theorem tI_b {r : Rul} {x : TS} (h : tI r x) (hk : (rck r != 0) = false) : x.L.length ≤ 20 ∧ x.i ≤ 8 := by have := tI_len h; have := h.1; have := (rk_in hk).2.1; omega
theorem tI_0 (r : Rul) (a : Option Addr) (c : Nat) (L : List LnA) (hA : AOK a L.length) (h : L.map (·.fs) = rlW r) (hl : ∀ l, l ∈ L → AOK l.a l.fs.length) : tI r ⟨0, a, c, L⟩ :=
  ⟨Nat.zero_le _, by rw [h]; unfold rlLs; simp, hA, hl⟩
@[reducible] def nxT {r : Rul} {x : TS} (_ : tI r x) (A : Option Addr) (C : Nat) (a : Option Addr) (c : Nat) (ws : List ByteArray) : TS := ⟨x.i + 1, A, C, x.L ++ [⟨a, c, ws⟩]⟩
theorem tI_s {r : Rul} {x : TS} (h : tI r x) (hf : decide ((x.i : Int) < (r.pw.length : Int)) = true) {ws : List ByteArray} (hw : ws = rlP (r.pw.getD x.i ⟨0, 0, 0⟩)) (b C : Nat) {a : Option Addr} {c : Nat} (ha : AOK a ws.length) : tI r (nxT h (some ⟨b, 0, none⟩) C a c ws) := by
  have hf := of_decide_eq_true hf
  refine ⟨by show x.i + 1 ≤ _; omega, ?_, aokp _ _, fun l hm => ?_⟩
  · show (x.L ++ [LnA.mk a c ws]).map (·.fs) = _
    rw [List.map_append, h.2.1, rlLs_s r x.i (by omega), hw]; rfl
  · rcases List.mem_append.1 hm with hm | hm
    · exact h.2.2.2 l hm
    · rw [List.mem_singleton] at hm; subst hm; exact ha
theorem tI_mu {r : Rul} {x : TS} (hf : decide ((x.i : Int) < (r.pw.length : Int)) = true) : r.pw.length - (x.i + 1) < r.pw.length - x.i := by
  have hf := of_decide_eq_true hf
  omega
theorem itS_sz {n : Int} (h : 0 ≤ n ∧ n ≤ 1000) : (itS n).size ≤ 30 := by
  have := Lib.itoa_length_le n (by omega) (by omega)
  unfold itS
  rw [str_size]
  omega
theorem rlLs_sz {r : Rul} {k : Nat} (hk : (rck r != 0) = false) (hn : r.nm.size ≤ 20) : ∀ ws ∈ rlLs r k, ws.length ≤ 4 ∧ ∀ w ∈ ws, w.size ≤ 30 := by
  obtain ⟨b1, b2, b3, b4, b5, b6, b7, b8, b9, ba, bo⟩ := rk_b hk
  have hp := pwE_b (by omega) (rk_in hk).2.2
  have ha : (ansS r.fh).size ≤ 30 := by unfold ansS; split <;> decide
  intro ws hw
  unfold rlLs at hw
  rcases List.mem_append.1 hw with hw | hw
  · simp only [rlW, List.mem_cons, List.not_mem_nil, or_false] at hw
    rcases hw with rfl | rfl | rfl | rfl | rfl | rfl | rfl | rfl | rfl | rfl | rfl | rfl <;> refine ⟨Nat.le_of_ble_eq_true rfl, fun w hw => ?_⟩ <;> simp only [List.mem_cons, List.not_mem_nil, or_false] at hw
    case inr.inr.inr.inr.inr.inr.inl => rcases hw with rfl | rfl | rfl <;> first | decide | exact itS_sz ‹_›
    all_goals rcases hw with rfl | rfl <;> first | decide | exact itS_sz ‹_› | exact ha | omega
  · obtain ⟨p, hp2, rfl⟩ := List.mem_map.1 hw
    obtain ⟨q1, q2, q3⟩ := hp p (List.mem_of_mem_take hp2)
    refine ⟨Nat.le_refl _, fun w hw => ?_⟩
    simp only [rlP, List.mem_cons, List.not_mem_nil, or_false] at hw
    rcases hw with rfl | rfl | rfl | rfl <;> first | decide | exact itS_sz ‹_›
theorem fsz_l3 (ws : List ByteArray) (h : ∀ w ∈ ws, w.size ≤ 30) : fsz (ws.map fB) ≤ 34 * ws.length := by
  induction ws with
  | nil => simp [fsz]
  | cons w ws ih =>
    have h1 := ih fun x hx => h x (List.mem_cons_of_mem _ hx)
    have h2 := h w (List.mem_cons_self ..)
    have h3 : w.data.toList.length = w.size := Array.length_toList
    unfold fsz at h1 ⊢
    rw [List.map_cons, List.map_cons, List.sum_cons, List.length_cons]
    show w.data.toList.length + 4 + _ ≤ _
    omega
theorem wrA_l3 : ∀ (W : List (List ByteArray)), (∀ ws ∈ W, ws.length ≤ 4 ∧ ∀ w ∈ ws, w.size ≤ 30) → (wrA (W.map fun ws => ⟨0, ws.map fB⟩)).length ≤ 300 * W.length := by
  intro W h
  induction W with
  | nil => simp [wrA]
  | cons ws W ih =>
    have h1 := ih fun x hx => h x (List.mem_cons_of_mem _ hx)
    have h2 := h ws (List.mem_cons_self ..)
    have h3 := fsz_l3 ws h2.2
    have h4 := wrJ_wt (ws.map fB)
    unfold wrA at h1 ⊢
    rw [List.map_cons, List.flatMap_cons, List.length_append, List.length_cons]
    have hl : (wrL ⟨0, ws.map fB⟩).length ≤ (wrJ (ws.map fB)).length + 1 := by unfold wrL; rw [List.length_append]; split <;> simp
    omega
theorem tI_fine {r : Rul} {x : TS} (h : tI r x) (hk : (rck r != 0) = false) (hn : r.nm.size ≤ 20) : Fine (lnL x.L) := by
  have hb := tI_b h hk
  have hz := rlLs_sz (k := x.i) hk hn
  have hA := wrA_l3 _ hz
  rw [lnL_of h.2.1]
  rw [rlLs_len r _ h.1] at hA
  refine ⟨by rw [List.length_map, rlLs_len r _ h.1]; omega, by omega, fun y hy => ?_, fun y hy f hf => ?_⟩
  · obtain ⟨ws, hw, rfl⟩ := List.mem_map.1 hy
    show (ws.map fB).length ≤ _
    rw [List.length_map]
    have := (hz ws hw).1
    omega
  · obtain ⟨ws, hw, rfl⟩ := List.mem_map.1 hy
    obtain ⟨w, hw2, rfl⟩ := List.mem_map.1 hf
    have := (hz ws hw).2 w hw2
    show w.data.toList.length < _
    have h3 : w.data.toList.length = w.size := Array.length_toList
    omega
theorem tx_no {r : Rul} (h : (rck r != 0) = true) : (⟨#[]⟩ : ByteArray) = txE r := by unfold txE; rw [if_neg (by simpa using h)]
theorem tx_ok {r : Rul} (h : (rck r != 0) = false) {x : TS} (hx : tI r x) (hf : decide ((x.i : Int) < (r.pw.length : Int)) = false) : Value.tuple #[.string (wtS x.L), .int .i64 0] = Value.tuple #[.string (txE r), .int .i64 (rck r)] := by
  have hf := of_decide_eq_false hf
  have h0 : rck r = 0 := by simpa using h
  have e : x.i = r.pw.length := by have := hx.1; omega
  unfold txE wtS txR
  rw [if_pos h0, h0, lnL_of hx.2.1, e]
@[reducible] def pLp (r : Rul) : LoopR := ⟨TS, fun x => [(68, .int .i64 x.i), (5, .slice x.a x.L.length x.c)], [26, 27], fun x => [⟨0, cLn x.L, 43, some ⟨x.a, x.L.length, x.c, 2⟩⟩, ghOb 0 (famG 68 3 true (frW x.L))], tI r, fun x => r.pw.length - x.i, []⟩

def rtx_h (r : Rul) (B : RAd) : Hint := ho 1 14 (.specg [] [0] [cP r.pw] [] (fun ads0 x ↦ Value.int .i64 (rck r)) (.pl (.split (.perm [] .nil) (.drawf [2, 6, 10, 14, 18, 22, 28, 33, 37, 41, 45, 49, 51] [0, 1] (.take 0 (.take 1 (.ob 1 (.take 4 (.take 5 (.ob 1 (.take 8 (.take 9 (.ob 1 (.take 12 (.take 13 (.ob 1 (.take 16 (.take 17 (.ob 1
 (.take 20 (.take 21 (.ob 1 (.take 24 (.take 25 (.ob 1 (.take 26 (.take 27 (.ob 1 (.take 30 (.take 31 (.ob 1 (.take 35 (.take 36 (.ob 1 (.take 39 (.take 40 (.ob 1 (.take 43 (.take 44 (.ob 1 (.take 47 (.take 48 (.ob 1 (.take 2 (.pl (.br (.specg [] [2] [cS [ByteArray.mk (Array.mk [(82 : UInt8), (85 :
 UInt8), (76 : UInt8), (69 : UInt8), (83 : UInt8)]), r.nm]] [RowT.mk (68 : TypeId) (3 : Nat) (List.length [ByteArray.mk (Array.mk [(82 : UInt8), (85 : UInt8), (76 : UInt8), (69 : UInt8), (83 : UInt8)]), r.nm]) (cFw [ByteArray.mk (Array.mk [(82 : UInt8), (85 : UInt8), (76 : UInt8), (69 : UInt8), (83 :
 UInt8)]), r.nm])] (fun ads0 ads ↦ Value.agg #[Value.int .i64 0, .slice (Prod.fst (nthA ads (0 : Nat))) (List.length [ByteArray.mk (Array.mk [(82 : UInt8), (85 : UInt8), (76 : UInt8), (69 : UInt8), (83 : UInt8)]), r.nm]) (Prod.snd (nthA ads (0 : Nat)))]) (.take 6 (.pl (.br (.specg rE [4] [[Value.int
 .i64 r.q1]] [RowT.mk (68 : TypeId) (3 : Nat) (2 : Nat) (cFw [ByteArray.mk (Array.mk [(83 : UInt8), (73 : UInt8), (68 : UInt8), (69 : UInt8)]), itS r.q1])] (fun ads0 ads ↦ Value.agg #[Value.int .i64 0, .slice (Prod.fst (nthA ads (0 : Nat))) (2 : Nat) (Prod.snd (nthA ads (0 : Nat)))]) (.take 10 (.pl
 (.br (.specg rE [6] [[Value.int .i64 r.q2]] [RowT.mk (68 : TypeId) (3 : Nat) (2 : Nat) (cFw [ByteArray.mk (Array.mk [(73 : UInt8), (78 : UInt8), (78 : UInt8), (73 : UInt8), (78 : UInt8), (71 : UInt8), (83 : UInt8)]), itS r.q2])] (fun ads0 ads ↦ Value.agg #[Value.int .i64 0, .slice (Prod.fst (nthA
 ads (0 : Nat))) (2 : Nat) (Prod.snd (nthA ads (0 : Nat)))]) (.take 14 (.pl (.br (.specg rE [8] [[Value.int .i64 r.q3]] [RowT.mk (68 : TypeId) (3 : Nat) (2 : Nat) (cFw [ByteArray.mk (Array.mk [(79 : UInt8), (86 : UInt8), (69 : UInt8), (82 : UInt8), (83 : UInt8)]), itS r.q3])] (fun ads0 ads ↦
 Value.agg #[Value.int .i64 0, .slice (Prod.fst (nthA ads (0 : Nat))) (2 : Nat) (Prod.snd (nthA ads (0 : Nat)))]) (.take 18 (.pl (.br (.specg rE [10] [[Value.int .i64 r.q4]] [RowT.mk (68 : TypeId) (3 : Nat) (2 : Nat) (cFw [ByteArray.mk (Array.mk [(66 : UInt8), (65 : UInt8), (76 : UInt8), (76 :
 UInt8), (83 : UInt8)]), itS r.q4])] (fun ads0 ads ↦ Value.agg #[Value.int .i64 0, .slice (Prod.fst (nthA ads (0 : Nat))) (2 : Nat) (Prod.snd (nthA ads (0 : Nat)))]) (.take 22 (.pl (.br (.specg rE [12] [[Value.int .i64 r.q5]] [RowT.mk (68 : TypeId) (3 : Nat) (2 : Nat) (cFw [ByteArray.mk (Array.mk
 [(81 : UInt8), (85 : UInt8), (79 : UInt8), (84 : UInt8), (65 : UInt8)]), itS r.q5])] (fun ads0 ads ↦ Value.agg #[Value.int .i64 0, .slice (Prod.fst (nthA ads (0 : Nat))) (2 : Nat) (Prod.snd (nthA ads (0 : Nat)))]) (.take 28 (.pl (.br (.specg rE [14] [[Value.int .i64 r.q6, .int .i64 r.q7]] [RowT.mk
 (68 : TypeId) (3 : Nat) (3 : Nat) (cFw [ByteArray.mk (Array.mk [(82 : UInt8), (85 : UInt8), (78 : UInt8), (83 : UInt8)]), itS r.q6, itS r.q7])] (fun ads0 ads ↦ Value.agg #[Value.int .i64 0, .slice (Prod.fst (nthA ads (0 : Nat))) (3 : Nat) (Prod.snd (nthA ads (0 : Nat)))]) (.pl (.br (.specg [] [] []
 [] (fun ads0 x ↦ Value.string (ansS r.fh)) (.take 33 (.pl (.br (.specg [] [16] [cS [ByteArray.mk (Array.mk [(70 : UInt8), (82 : UInt8), (69 : UInt8), (69 : UInt8), (72 : UInt8), (73 : UInt8), (84 : UInt8)]), if r.fh = true then ByteArray.mk (Array.mk [(89 : UInt8), (69 : UInt8), (83 : UInt8)]) else
 ByteArray.mk (Array.mk [(78 : UInt8), (79 : UInt8)])]] [RowT.mk (68 : TypeId) (3 : Nat) (List.length [ByteArray.mk (Array.mk [(70 : UInt8), (82 : UInt8), (69 : UInt8), (69 : UInt8), (72 : UInt8), (73 : UInt8), (84 : UInt8)]), if r.fh = true then ByteArray.mk (Array.mk [(89 : UInt8), (69 : UInt8),
 (83 : UInt8)]) else ByteArray.mk (Array.mk [(78 : UInt8), (79 : UInt8)])]) (cFw [ByteArray.mk (Array.mk [(70 : UInt8), (82 : UInt8), (69 : UInt8), (69 : UInt8), (72 : UInt8), (73 : UInt8), (84 : UInt8)]), if r.fh = true then ByteArray.mk (Array.mk [(89 : UInt8), (69 : UInt8), (83 : UInt8)]) else
 ByteArray.mk (Array.mk [(78 : UInt8), (79 : UInt8)])])] (fun ads0 ads ↦ Value.agg #[Value.int .i64 0, .slice (Prod.fst (nthA ads (0 : Nat))) (List.length [ByteArray.mk (Array.mk [(70 : UInt8), (82 : UInt8), (69 : UInt8), (69 : UInt8), (72 : UInt8), (73 : UInt8), (84 : UInt8)]), if r.fh = true then
 ByteArray.mk (Array.mk [(89 : UInt8), (69 : UInt8), (83 : UInt8)]) else ByteArray.mk (Array.mk [(78 : UInt8), (79 : UInt8)])]) (Prod.snd (nthA ads (0 : Nat)))]) (.take 37 (.pl (.br (.specg rE [18] [[Value.int .i64 r.q8]] [RowT.mk (68 : TypeId) (3 : Nat) (2 : Nat) (cFw [ByteArray.mk (Array.mk [(78 :
 UInt8), (69 : UInt8), (87 : UInt8), (66 : UInt8), (65 : UInt8), (76 : UInt8), (76 : UInt8)]), itS r.q8])] (fun ads0 ads ↦ Value.agg #[Value.int .i64 0, .slice (Prod.fst (nthA ads (0 : Nat))) (2 : Nat) (Prod.snd (nthA ads (0 : Nat)))]) (.take 41 (.pl (.br (.specg rE [20] [[Value.int .i64 r.q9]]
 [RowT.mk (68 : TypeId) (3 : Nat) (2 : Nat) (cFw [ByteArray.mk (Array.mk [(70 : UInt8), (79 : UInt8), (76 : UInt8), (76 : UInt8), (79 : UInt8), (87 : UInt8), (79 : UInt8), (78 : UInt8)]), itS r.q9])] (fun ads0 ads ↦ Value.agg #[Value.int .i64 0, .slice (Prod.fst (nthA ads (0 : Nat))) (2 : Nat)
 (Prod.snd (nthA ads (0 : Nat)))]) (.take 45 (.pl (.br (.specg rE [22] [[Value.int .i64 r.qa]] [RowT.mk (68 : TypeId) (3 : Nat) (2 : Nat) (cFw [ByteArray.mk (Array.mk [(82 : UInt8), (69 : UInt8), (86 : UInt8), (73 : UInt8), (69 : UInt8), (87 : UInt8), (83 : UInt8)]), itS r.qa])] (fun ads0 ads ↦
 Value.agg #[Value.int .i64 0, .slice (Prod.fst (nthA ads (0 : Nat))) (2 : Nat) (Prod.snd (nthA ads (0 : Nat)))]) (.take 49 (.pl (.br (.specg rE [24] [[Value.int .i64 r.qo]] [RowT.mk (68 : TypeId) (3 : Nat) (2 : Nat) (cFw [ByteArray.mk (Array.mk [(79 : UInt8), (85 : UInt8), (84 : UInt8), (83 :
 UInt8), (73 : UInt8), (68 : UInt8), (69 : UInt8)]), itS r.qo])] (fun ads0 ads ↦ Value.agg #[Value.int .i64 0, .slice (Prod.fst (nthA ads (0 : Nat))) (2 : Nat) (Prod.snd (nthA ads (0 : Nat)))]) (.take 51 (.take 52 (.ob 1 (.pl (.invg (pLp r) (.osf fun l ↦ .gho [3, 5, 7, 9, 11, 13, 15, 17, 19, 21, 23,
 25] (ghOb (0 : Nat) (famG (68 : Nat) (3 : Nat) true [FR.mk (Prod.fst (nthO l (3 : Nat))) (List.length [ByteArray.mk (Array.mk [(82 : UInt8), (85 : UInt8), (76 : UInt8), (69 : UInt8), (83 : UInt8)]), r.nm]) (Prod.snd (nthO l (3 : Nat))) (cFw [ByteArray.mk (Array.mk [(82 : UInt8), (85 : UInt8), (76 :
 UInt8), (69 : UInt8), (83 : UInt8)]), r.nm]), FR.mk (Prod.fst (nthO l (5 : Nat))) (2 : Nat) (Prod.snd (nthO l (5 : Nat))) (cFw [ByteArray.mk (Array.mk [(83 : UInt8), (73 : UInt8), (68 : UInt8), (69 : UInt8)]), itS r.q1]), FR.mk (Prod.fst (nthO l (7 : Nat))) (2 : Nat) (Prod.snd (nthO l (7 : Nat)))
 (cFw [ByteArray.mk (Array.mk [(73 : UInt8), (78 : UInt8), (78 : UInt8), (73 : UInt8), (78 : UInt8), (71 : UInt8), (83 : UInt8)]), itS r.q2]), FR.mk (Prod.fst (nthO l (9 : Nat))) (2 : Nat) (Prod.snd (nthO l (9 : Nat))) (cFw [ByteArray.mk (Array.mk [(79 : UInt8), (86 : UInt8), (69 : UInt8), (82 :
 UInt8), (83 : UInt8)]), itS r.q3]), FR.mk (Prod.fst (nthO l (11 : Nat))) (2 : Nat) (Prod.snd (nthO l (11 : Nat))) (cFw [ByteArray.mk (Array.mk [(66 : UInt8), (65 : UInt8), (76 : UInt8), (76 : UInt8), (83 : UInt8)]), itS r.q4]), FR.mk (Prod.fst (nthO l (13 : Nat))) (2 : Nat) (Prod.snd (nthO l (13 :
 Nat))) (cFw [ByteArray.mk (Array.mk [(81 : UInt8), (85 : UInt8), (79 : UInt8), (84 : UInt8), (65 : UInt8)]), itS r.q5]), FR.mk (Prod.fst (nthO l (15 : Nat))) (3 : Nat) (Prod.snd (nthO l (15 : Nat))) (cFw [ByteArray.mk (Array.mk [(82 : UInt8), (85 : UInt8), (78 : UInt8), (83 : UInt8)]), itS r.q6, itS
 r.q7]), FR.mk (Prod.fst (nthO l (17 : Nat))) (List.length [ByteArray.mk (Array.mk [(70 : UInt8), (82 : UInt8), (69 : UInt8), (69 : UInt8), (72 : UInt8), (73 : UInt8), (84 : UInt8)]), if r.fh = true then ByteArray.mk (Array.mk [(89 : UInt8), (69 : UInt8), (83 : UInt8)]) else ByteArray.mk (Array.mk
 [(78 : UInt8), (79 : UInt8)])]) (Prod.snd (nthO l (17 : Nat))) (cFw [ByteArray.mk (Array.mk [(70 : UInt8), (82 : UInt8), (69 : UInt8), (69 : UInt8), (72 : UInt8), (73 : UInt8), (84 : UInt8)]), if r.fh = true then ByteArray.mk (Array.mk [(89 : UInt8), (69 : UInt8), (83 : UInt8)]) else ByteArray.mk
 (Array.mk [(78 : UInt8), (79 : UInt8)])]), FR.mk (Prod.fst (nthO l (19 : Nat))) (2 : Nat) (Prod.snd (nthO l (19 : Nat))) (cFw [ByteArray.mk (Array.mk [(78 : UInt8), (69 : UInt8), (87 : UInt8), (66 : UInt8), (65 : UInt8), (76 : UInt8), (76 : UInt8)]), itS r.q8]), FR.mk (Prod.fst (nthO l (21 : Nat)))
 (2 : Nat) (Prod.snd (nthO l (21 : Nat))) (cFw [ByteArray.mk (Array.mk [(70 : UInt8), (79 : UInt8), (76 : UInt8), (76 : UInt8), (79 : UInt8), (87 : UInt8), (79 : UInt8), (78 : UInt8)]), itS r.q9]), FR.mk (Prod.fst (nthO l (23 : Nat))) (2 : Nat) (Prod.snd (nthO l (23 : Nat))) (cFw [ByteArray.mk
 (Array.mk [(82 : UInt8), (69 : UInt8), (86 : UInt8), (73 : UInt8), (69 : UInt8), (87 : UInt8), (83 : UInt8)]), itS r.qa]), FR.mk (Prod.fst (nthO l (25 : Nat))) (2 : Nat) (Prod.snd (nthO l (25 : Nat))) (cFw [ByteArray.mk (Array.mk [(79 : UInt8), (85 : UInt8), (84 : UInt8), (83 : UInt8), (73 : UInt8),
 (68 : UInt8), (69 : UInt8)]), itS r.qo])])) .nil) fun x0 ↦ .split (.ix (.lst (0 : Nat) (Int.toNat (↑(TS.i x0) : Int) * (3 : Nat)) (Value.int .i64 (Ph.pf (List.getD r.pw (Int.toNat (↑(TS.i x0) : Int)) (Ph.mk (0 : Int) (0 : Int) (0 : Int))))) (.lst (0 : Nat) (Int.toNat (↑(TS.i x0) : Int) * (3 : Nat) +
 (1 : Nat)) (Value.int .i64 (Ph.pt (List.getD r.pw (Int.toNat (↑(TS.i x0) : Int)) (Ph.mk (0 : Int) (0 : Int) (0 : Int))))) (.lst (0 : Nat) (Int.toNat (↑(TS.i x0) : Int) * (3 : Nat) + (2 : Nat)) (Value.int .i64 (Ph.po (List.getD r.pw (Int.toNat (↑(TS.i x0) : Int)) (Ph.mk (0 : Int) (0 : Int) (0 :
 Int))))) (ho 28 6 (.specg rE [29] [[Value.int .i64 (Ph.pf (List.getD r.pw (Int.toNat (↑(TS.i x0) : Int)) (Ph.mk (0 : Int) (0 : Int) (0 : Int)))), .int .i64 (Ph.pt (List.getD r.pw (Int.toNat (↑(TS.i x0) : Int)) (Ph.mk (0 : Int) (0 : Int) (0 : Int)))), .int .i64 (Ph.po (List.getD r.pw (Int.toNat
 (↑(TS.i x0) : Int)) (Ph.mk (0 : Int) (0 : Int) (0 : Int))))]] [RowT.mk (68 : TypeId) (3 : Nat) (4 : Nat) (cFw [ByteArray.mk (Array.mk [(80 : UInt8), (79 : UInt8), (87 : UInt8), (69 : UInt8), (82 : UInt8)]), itS (Ph.pf (List.getD r.pw (Int.toNat (↑(TS.i x0) : Int)) (Ph.mk (0 : Int) (0 : Int) (0 :
 Int)))), itS (Ph.pt (List.getD r.pw (Int.toNat (↑(TS.i x0) : Int)) (Ph.mk (0 : Int) (0 : Int) (0 : Int)))), itS (Ph.po (List.getD r.pw (Int.toNat (↑(TS.i x0) : Int)) (Ph.mk (0 : Int) (0 : Int) (0 : Int))))])] (fun ads0 ads ↦ Value.agg #[Value.int .i64 0, .slice (Prod.fst (nthA ads (0 : Nat))) (4 :
 Nat) (Prod.snd (nthA ads (0 : Nat)))]) (.app (26 : Nat) (31 : Nat) (.osf fun l ↦ .gho [27, 30] (ghOb (0 : Nat) (famG (68 : Nat) (3 : Nat) true (frW (TS.L x0) ++ [FR.mk (Prod.fst (nthO l (30 : Nat))) (4 : Nat) (Prod.snd (nthO l (30 : Nat))) (cFw [ByteArray.mk (Array.mk [(80 : UInt8), (79 : UInt8),
 (87 : UInt8), (69 : UInt8), (82 : UInt8)]), itS (Ph.pf (List.getD r.pw (Int.toNat (↑(TS.i x0) : Int)) (Ph.mk (0 : Int) (0 : Int) (0 : Int)))), itS (Ph.pt (List.getD r.pw (Int.toNat (↑(TS.i x0) : Int)) (Ph.mk (0 : Int) (0 : Int) (0 : Int)))), itS (Ph.po (List.getD r.pw (Int.toNat (↑(TS.i x0) : Int))
 (Ph.mk (0 : Int) (0 : Int) (0 : Int))))])]))) (.perm [26, 32] .nil))))))))) (.specc rE [(TS.a x0, cLn (TS.L x0))] [famG (68 : TypeId) (3 : Nat) false (frW (TS.L x0))] [] Un (fun x ↦ x = Un.un) (fun x ↦ []) (fun x ↦ Value.string (wtS (TS.L x0))) [26] [27] [] fun x_11477 ↦ .perm [] .nil)))))))
 .nil)))) .nil)))) .nil)))) .nil)))) .nil)))) .nil))) .nil)))) .nil)))) .nil)))) .nil)))) .nil)))) .nil)))) .nil))))))))))))))))))))))))))))))))))))))))))))))
theorem rtx_x (r : Rul) (B : RAd) : wpG Tryz.prog rE ([(B.a, cP r.pw)]) 400 6 [ruV r B] (rtx_h r B) ([]) (fun _ => .tuple #[.string (txE r), .int .i64 (rck r)]) = (∀ (b : Nat), e1 b 14 (cP r.pw = cP r.pw /\ (SpecG Tryz.prog [] [(RAd.a B, cP r.pw)] (14 : FuncId) #[ruV r B] [] fun x ↦ Value.int .i64 (rck r)) /\ (∀ (e : Ex), e ∈ [] -> e ∈ rE) /\ ((rck r != 0) = true -> Value.tuple (Array.mk [.string (ByteArray.mk (Array.mk [])), .int .i64 (rck r)]) = Value.tuple
 (Array.mk [.string (txE r), .int .i64 (rck r)])) /\ ((rck r != 0) = false -> e1 b 13 (((∀ (b : Nat), True) /\ (∀ (b : Nat), True) /\ (∀ (b : Nat), True) /\ (∀ (b : Nat), True) /\ (∀ (b : Nat), True) /\ (∀ (b : Nat), True) /\ (∀ (b : Nat), True) /\ True /\ (∀ (b : Nat), True) /\ (∀ (b : Nat), True)
 /\ (∀ (b : Nat), True) /\ (∀ (b : Nat), True) /\ True /\ True) /\ ∀ (b_1 : Nat), (True /\ (∀ (b : Nat), True) /\ (∀ (b : Nat), True) /\ (∀ (b : Nat), True) /\ (∀ (b : Nat), True) /\ (∀ (b : Nat), True) /\ (∀ (b : Nat), True) /\ True /\ (∀ (b : Nat), True) /\ (∀ (b : Nat), True) /\ (∀ (b : Nat),
 True) /\ (∀ (b : Nat), True) /\ True /\ True) /\ ([Value.string (ByteArray.mk (Array.mk [(82 : UInt8), (85 : UInt8), (76 : UInt8), (69 : UInt8), (83 : UInt8)])), .string r.nm] = cS [ByteArray.mk (Array.mk [(82 : UInt8), (85 : UInt8), (76 : UInt8), (69 : UInt8), (83 : UInt8)]), r.nm] /\ (SpecG
 Tryz.prog [] [(some (Addr.mk b_1 (0 : Nat) none), cS [ByteArray.mk (Array.mk [(82 : UInt8), (85 : UInt8), (76 : UInt8), (69 : UInt8), (83 : UInt8)]), r.nm])] (15 : FuncId) #[Value.slice (some (Addr.mk b_1 (0 : Nat) none)) (List.length [ByteArray.mk (Array.mk [(82 : UInt8), (85 : UInt8), (76 : UInt8),
 (69 : UInt8), (83 : UInt8)]), r.nm]) (2 : Nat)] [RowT.mk (68 : TypeId) (3 : Nat) (List.length [ByteArray.mk (Array.mk [(82 : UInt8), (85 : UInt8), (76 : UInt8), (69 : UInt8), (83 : UInt8)]), r.nm]) (cFw [ByteArray.mk (Array.mk [(82 : UInt8), (85 : UInt8), (76 : UInt8), (69 : UInt8), (83 : UInt8)]),
 r.nm])] fun ads ↦ Value.agg #[Value.int .i64 0, .slice (Prod.fst (nthA ads (0 : Nat))) (List.length [ByteArray.mk (Array.mk [(82 : UInt8), (85 : UInt8), (76 : UInt8), (69 : UInt8), (83 : UInt8)]), r.nm]) (Prod.snd (nthA ads (0 : Nat)))]) /\ (∀ (e : Ex), e ∈ [] -> e ∈ rE) /\ ∀ (a : Option Addr) (cap
 : Nat), AOK a (List.length [ByteArray.mk (Array.mk [(82 : UInt8), (85 : UInt8), (76 : UInt8), (69 : UInt8), (83 : UInt8)]), r.nm]) -> List.length [ByteArray.mk (Array.mk [(82 : UInt8), (85 : UInt8), (76 : UInt8), (69 : UInt8), (83 : UInt8)]), r.nm] ≤ cap -> (True /\ (∀ (b : Nat), True) /\ (∀ (b :
 Nat), True) /\ (∀ (b : Nat), True) /\ (∀ (b : Nat), True) /\ (∀ (b : Nat), True) /\ (∀ (b : Nat), True) /\ True /\ (∀ (b : Nat), True) /\ (∀ (b : Nat), True) /\ (∀ (b : Nat), True) /\ (∀ (b : Nat), True) /\ True /\ True) /\ ∀ (b_2 : Nat), (True /\ True /\ (∀ (b : Nat), True) /\ (∀ (b : Nat), True)
 /\ (∀ (b : Nat), True) /\ (∀ (b : Nat), True) /\ (∀ (b : Nat), True) /\ True /\ (∀ (b : Nat), True) /\ (∀ (b : Nat), True) /\ (∀ (b : Nat), True) /\ (∀ (b : Nat), True) /\ True /\ True) /\ ([Value.int .i64 r.q1] = [Value.int .i64 r.q1] /\ (SpecG Tryz.prog rE [(some (Addr.mk b_2 (0 : Nat) none),
 [Value.int .i64 r.q1])] (16 : FuncId) #[Value.string (ByteArray.mk (Array.mk [(83 : UInt8), (73 : UInt8), (68 : UInt8), (69 : UInt8)])), .slice (some (Addr.mk b_2 (0 : Nat) none)) (1 : Nat) (1 : Nat)] [RowT.mk (68 : TypeId) (3 : Nat) (2 : Nat) (cFw [ByteArray.mk (Array.mk [(83 : UInt8), (73 :
 UInt8), (68 : UInt8), (69 : UInt8)]), itS r.q1])] fun ads ↦ Value.agg #[Value.int .i64 0, .slice (Prod.fst (nthA ads (0 : Nat))) (2 : Nat) (Prod.snd (nthA ads (0 : Nat)))]) /\ (∀ (e : Ex), e ∈ rE -> e ∈ rE) /\ ∀ (a_1 : Option Addr) (cap_1 : Nat), AOK a_1 2 -> 2 ≤ cap_1 -> (True /\ True /\ (∀ (b :
 Nat), True) /\ (∀ (b : Nat), True) /\ (∀ (b : Nat), True) /\ (∀ (b : Nat), True) /\ (∀ (b : Nat), True) /\ True /\ (∀ (b : Nat), True) /\ (∀ (b : Nat), True) /\ (∀ (b : Nat), True) /\ (∀ (b : Nat), True) /\ True /\ True) /\ ∀ (b_3 : Nat), (True /\ True /\ True /\ (∀ (b : Nat), True) /\ (∀ (b : Nat),
 True) /\ (∀ (b : Nat), True) /\ (∀ (b : Nat), True) /\ True /\ (∀ (b : Nat), True) /\ (∀ (b : Nat), True) /\ (∀ (b : Nat), True) /\ (∀ (b : Nat), True) /\ True /\ True) /\ ([Value.int .i64 r.q2] = [Value.int .i64 r.q2] /\ (SpecG Tryz.prog rE [(some (Addr.mk b_3 (0 : Nat) none), [Value.int .i64
 r.q2])] (16 : FuncId) #[Value.string (ByteArray.mk (Array.mk [(73 : UInt8), (78 : UInt8), (78 : UInt8), (73 : UInt8), (78 : UInt8), (71 : UInt8), (83 : UInt8)])), .slice (some (Addr.mk b_3 (0 : Nat) none)) (1 : Nat) (1 : Nat)] [RowT.mk (68 : TypeId) (3 : Nat) (2 : Nat) (cFw [ByteArray.mk (Array.mk
 [(73 : UInt8), (78 : UInt8), (78 : UInt8), (73 : UInt8), (78 : UInt8), (71 : UInt8), (83 : UInt8)]), itS r.q2])] fun ads ↦ Value.agg #[Value.int .i64 0, .slice (Prod.fst (nthA ads (0 : Nat))) (2 : Nat) (Prod.snd (nthA ads (0 : Nat)))]) /\ (∀ (e : Ex), e ∈ rE -> e ∈ rE) /\ ∀ (a_2 : Option Addr)
 (cap_2 : Nat), AOK a_2 2 -> 2 ≤ cap_2 -> (True /\ True /\ True /\ (∀ (b : Nat), True) /\ (∀ (b : Nat), True) /\ (∀ (b : Nat), True) /\ (∀ (b : Nat), True) /\ True /\ (∀ (b : Nat), True) /\ (∀ (b : Nat), True) /\ (∀ (b : Nat), True) /\ (∀ (b : Nat), True) /\ True /\ True) /\ ∀ (b_4 : Nat), (True /\
 True /\ True /\ True /\ (∀ (b : Nat), True) /\ (∀ (b : Nat), True) /\ (∀ (b : Nat), True) /\ True /\ (∀ (b : Nat), True) /\ (∀ (b : Nat), True) /\ (∀ (b : Nat), True) /\ (∀ (b : Nat), True) /\ True /\ True) /\ ([Value.int .i64 r.q3] = [Value.int .i64 r.q3] /\ (SpecG Tryz.prog rE [(some (Addr.mk b_4
 (0 : Nat) none), [Value.int .i64 r.q3])] (16 : FuncId) #[Value.string (ByteArray.mk (Array.mk [(79 : UInt8), (86 : UInt8), (69 : UInt8), (82 : UInt8), (83 : UInt8)])), .slice (some (Addr.mk b_4 (0 : Nat) none)) (1 : Nat) (1 : Nat)] [RowT.mk (68 : TypeId) (3 : Nat) (2 : Nat) (cFw [ByteArray.mk
 (Array.mk [(79 : UInt8), (86 : UInt8), (69 : UInt8), (82 : UInt8), (83 : UInt8)]), itS r.q3])] fun ads ↦ Value.agg #[Value.int .i64 0, .slice (Prod.fst (nthA ads (0 : Nat))) (2 : Nat) (Prod.snd (nthA ads (0 : Nat)))]) /\ (∀ (e : Ex), e ∈ rE -> e ∈ rE) /\ ∀ (a_3 : Option Addr) (cap_3 : Nat), AOK a_3
 2 -> 2 ≤ cap_3 -> (True /\ True /\ True /\ True /\ (∀ (b : Nat), True) /\ (∀ (b : Nat), True) /\ (∀ (b : Nat), True) /\ True /\ (∀ (b : Nat), True) /\ (∀ (b : Nat), True) /\ (∀ (b : Nat), True) /\ (∀ (b : Nat), True) /\ True /\ True) /\ ∀ (b_5 : Nat), (True /\ True /\ True /\ True /\ True /\ (∀ (b :
 Nat), True) /\ (∀ (b : Nat), True) /\ True /\ (∀ (b : Nat), True) /\ (∀ (b : Nat), True) /\ (∀ (b : Nat), True) /\ (∀ (b : Nat), True) /\ True /\ True) /\ ([Value.int .i64 r.q4] = [Value.int .i64 r.q4] /\ (SpecG Tryz.prog rE [(some (Addr.mk b_5 (0 : Nat) none), [Value.int .i64 r.q4])] (16 : FuncId)
 #[Value.string (ByteArray.mk (Array.mk [(66 : UInt8), (65 : UInt8), (76 : UInt8), (76 : UInt8), (83 : UInt8)])), .slice (some (Addr.mk b_5 (0 : Nat) none)) (1 : Nat) (1 : Nat)] [RowT.mk (68 : TypeId) (3 : Nat) (2 : Nat) (cFw [ByteArray.mk (Array.mk [(66 : UInt8), (65 : UInt8), (76 : UInt8), (76 :
 UInt8), (83 : UInt8)]), itS r.q4])] fun ads ↦ Value.agg #[Value.int .i64 0, .slice (Prod.fst (nthA ads (0 : Nat))) (2 : Nat) (Prod.snd (nthA ads (0 : Nat)))]) /\ (∀ (e : Ex), e ∈ rE -> e ∈ rE) /\ ∀ (a_4 : Option Addr) (cap_4 : Nat), AOK a_4 2 -> 2 ≤ cap_4 -> (True /\ True /\ True /\ True /\ True /\
 (∀ (b : Nat), True) /\ (∀ (b : Nat), True) /\ True /\ (∀ (b : Nat), True) /\ (∀ (b : Nat), True) /\ (∀ (b : Nat), True) /\ (∀ (b : Nat), True) /\ True /\ True) /\ ∀ (b_6 : Nat), (True /\ True /\ True /\ True /\ True /\ True /\ (∀ (b : Nat), True) /\ True /\ (∀ (b : Nat), True) /\ (∀ (b : Nat), True)
 /\ (∀ (b : Nat), True) /\ (∀ (b : Nat), True) /\ True /\ True) /\ ([Value.int .i64 r.q5] = [Value.int .i64 r.q5] /\ (SpecG Tryz.prog rE [(some (Addr.mk b_6 (0 : Nat) none), [Value.int .i64 r.q5])] (16 : FuncId) #[Value.string (ByteArray.mk (Array.mk [(81 : UInt8), (85 : UInt8), (79 : UInt8), (84 :
 UInt8), (65 : UInt8)])), .slice (some (Addr.mk b_6 (0 : Nat) none)) (1 : Nat) (1 : Nat)] [RowT.mk (68 : TypeId) (3 : Nat) (2 : Nat) (cFw [ByteArray.mk (Array.mk [(81 : UInt8), (85 : UInt8), (79 : UInt8), (84 : UInt8), (65 : UInt8)]), itS r.q5])] fun ads ↦ Value.agg #[Value.int .i64 0, .slice
 (Prod.fst (nthA ads (0 : Nat))) (2 : Nat) (Prod.snd (nthA ads (0 : Nat)))]) /\ (∀ (e : Ex), e ∈ rE -> e ∈ rE) /\ ∀ (a_5 : Option Addr) (cap_5 : Nat), AOK a_5 2 -> 2 ≤ cap_5 -> (True /\ True /\ True /\ True /\ True /\ True /\ (∀ (b : Nat), True) /\ True /\ (∀ (b : Nat), True) /\ (∀ (b : Nat), True)
 /\ (∀ (b : Nat), True) /\ (∀ (b : Nat), True) /\ True /\ True) /\ ∀ (b_7 : Nat), (True /\ True /\ True /\ True /\ True /\ True /\ True /\ True /\ (∀ (b : Nat), True) /\ (∀ (b : Nat), True) /\ (∀ (b : Nat), True) /\ (∀ (b : Nat), True) /\ True /\ True) /\ ([Value.int .i64 r.q6, .int .i64 r.q7] =
 [Value.int .i64 r.q6, .int .i64 r.q7] /\ (SpecG Tryz.prog rE [(some (Addr.mk b_7 (0 : Nat) none), [Value.int .i64 r.q6, .int .i64 r.q7])] (16 : FuncId) #[Value.string (ByteArray.mk (Array.mk [(82 : UInt8), (85 : UInt8), (78 : UInt8), (83 : UInt8)])), .slice (some (Addr.mk b_7 (0 : Nat) none)) (2 :
 Nat) (2 : Nat)] [RowT.mk (68 : TypeId) (3 : Nat) (3 : Nat) (cFw [ByteArray.mk (Array.mk [(82 : UInt8), (85 : UInt8), (78 : UInt8), (83 : UInt8)]), itS r.q6, itS r.q7])] fun ads ↦ Value.agg #[Value.int .i64 0, .slice (Prod.fst (nthA ads (0 : Nat))) (3 : Nat) (Prod.snd (nthA ads (0 : Nat)))]) /\ (∀ (e
 : Ex), e ∈ rE -> e ∈ rE) /\ ∀ (a_6 : Option Addr) (cap_6 : Nat), AOK a_6 3 -> 3 ≤ cap_6 -> (True /\ True /\ True /\ True /\ True /\ True /\ True /\ True /\ (∀ (b : Nat), True) /\ (∀ (b : Nat), True) /\ (∀ (b : Nat), True) /\ (∀ (b : Nat), True) /\ True /\ True) /\ ((SpecG Tryz.prog [] [] (17 :
 FuncId) #[Value.bool r.fh] [] fun x ↦ Value.string (ansS r.fh)) /\ (∀ (e : Ex), e ∈ [] -> e ∈ rE) /\ (True /\ True /\ True /\ True /\ True /\ True /\ True /\ (∀ (b : Nat), True) /\ (∀ (b : Nat), True) /\ (∀ (b : Nat), True) /\ (∀ (b : Nat), True) /\ (∀ (b : Nat), True) /\ True /\ True) /\ ∀ (b_8 :
 Nat), (True /\ True /\ True /\ True /\ True /\ True /\ True /\ True /\ (∀ (b : Nat), True) /\ (∀ (b : Nat), True) /\ (∀ (b : Nat), True) /\ (∀ (b : Nat), True) /\ True /\ True) /\ ([Value.string (ByteArray.mk (Array.mk [(70 : UInt8), (82 : UInt8), (69 : UInt8), (69 : UInt8), (72 : UInt8), (73 :
 UInt8), (84 : UInt8)])), .string (if r.fh = true then ByteArray.mk (Array.mk [(89 : UInt8), (69 : UInt8), (83 : UInt8)]) else ByteArray.mk (Array.mk [(78 : UInt8), (79 : UInt8)]))] = cS [ByteArray.mk (Array.mk [(70 : UInt8), (82 : UInt8), (69 : UInt8), (69 : UInt8), (72 : UInt8), (73 : UInt8), (84 :
 UInt8)]), if r.fh = true then ByteArray.mk (Array.mk [(89 : UInt8), (69 : UInt8), (83 : UInt8)]) else ByteArray.mk (Array.mk [(78 : UInt8), (79 : UInt8)])] /\ (SpecG Tryz.prog [] [(some (Addr.mk b_8 (0 : Nat) none), cS [ByteArray.mk (Array.mk [(70 : UInt8), (82 : UInt8), (69 : UInt8), (69 : UInt8),
 (72 : UInt8), (73 : UInt8), (84 : UInt8)]), if r.fh = true then ByteArray.mk (Array.mk [(89 : UInt8), (69 : UInt8), (83 : UInt8)]) else ByteArray.mk (Array.mk [(78 : UInt8), (79 : UInt8)])])] (15 : FuncId) #[Value.slice (some (Addr.mk b_8 (0 : Nat) none)) (List.length [ByteArray.mk (Array.mk [(70 :
 UInt8), (82 : UInt8), (69 : UInt8), (69 : UInt8), (72 : UInt8), (73 : UInt8), (84 : UInt8)]), if r.fh = true then ByteArray.mk (Array.mk [(89 : UInt8), (69 : UInt8), (83 : UInt8)]) else ByteArray.mk (Array.mk [(78 : UInt8), (79 : UInt8)])]) (2 : Nat)] [RowT.mk (68 : TypeId) (3 : Nat) (List.length
 [ByteArray.mk (Array.mk [(70 : UInt8), (82 : UInt8), (69 : UInt8), (69 : UInt8), (72 : UInt8), (73 : UInt8), (84 : UInt8)]), if r.fh = true then ByteArray.mk (Array.mk [(89 : UInt8), (69 : UInt8), (83 : UInt8)]) else ByteArray.mk (Array.mk [(78 : UInt8), (79 : UInt8)])]) (cFw [ByteArray.mk (Array.mk
 [(70 : UInt8), (82 : UInt8), (69 : UInt8), (69 : UInt8), (72 : UInt8), (73 : UInt8), (84 : UInt8)]), if r.fh = true then ByteArray.mk (Array.mk [(89 : UInt8), (69 : UInt8), (83 : UInt8)]) else ByteArray.mk (Array.mk [(78 : UInt8), (79 : UInt8)])])] fun ads ↦ Value.agg #[Value.int .i64 0, .slice
 (Prod.fst (nthA ads (0 : Nat))) (List.length [ByteArray.mk (Array.mk [(70 : UInt8), (82 : UInt8), (69 : UInt8), (69 : UInt8), (72 : UInt8), (73 : UInt8), (84 : UInt8)]), if r.fh = true then ByteArray.mk (Array.mk [(89 : UInt8), (69 : UInt8), (83 : UInt8)]) else ByteArray.mk (Array.mk [(78 : UInt8),
 (79 : UInt8)])]) (Prod.snd (nthA ads (0 : Nat)))]) /\ (∀ (e : Ex), e ∈ [] -> e ∈ rE) /\ ∀ (a_7 : Option Addr) (cap_7 : Nat), AOK a_7 (List.length [ByteArray.mk (Array.mk [(70 : UInt8), (82 : UInt8), (69 : UInt8), (69 : UInt8), (72 : UInt8), (73 : UInt8), (84 : UInt8)]), if r.fh = true then
 ByteArray.mk (Array.mk [(89 : UInt8), (69 : UInt8), (83 : UInt8)]) else ByteArray.mk (Array.mk [(78 : UInt8), (79 : UInt8)])]) -> List.length [ByteArray.mk (Array.mk [(70 : UInt8), (82 : UInt8), (69 : UInt8), (69 : UInt8), (72 : UInt8), (73 : UInt8), (84 : UInt8)]), if r.fh = true then ByteArray.mk
 (Array.mk [(89 : UInt8), (69 : UInt8), (83 : UInt8)]) else ByteArray.mk (Array.mk [(78 : UInt8), (79 : UInt8)])] ≤ cap_7 -> (True /\ True /\ True /\ True /\ True /\ True /\ True /\ True /\ (∀ (b : Nat), True) /\ (∀ (b : Nat), True) /\ (∀ (b : Nat), True) /\ (∀ (b : Nat), True) /\ True /\ True) /\ ∀
 (b_9 : Nat), (True /\ True /\ True /\ True /\ True /\ True /\ True /\ True /\ True /\ (∀ (b : Nat), True) /\ (∀ (b : Nat), True) /\ (∀ (b : Nat), True) /\ True /\ True) /\ ([Value.int .i64 r.q8] = [Value.int .i64 r.q8] /\ (SpecG Tryz.prog rE [(some (Addr.mk b_9 (0 : Nat) none), [Value.int .i64
 r.q8])] (16 : FuncId) #[Value.string (ByteArray.mk (Array.mk [(78 : UInt8), (69 : UInt8), (87 : UInt8), (66 : UInt8), (65 : UInt8), (76 : UInt8), (76 : UInt8)])), .slice (some (Addr.mk b_9 (0 : Nat) none)) (1 : Nat) (1 : Nat)] [RowT.mk (68 : TypeId) (3 : Nat) (2 : Nat) (cFw [ByteArray.mk (Array.mk
 [(78 : UInt8), (69 : UInt8), (87 : UInt8), (66 : UInt8), (65 : UInt8), (76 : UInt8), (76 : UInt8)]), itS r.q8])] fun ads ↦ Value.agg #[Value.int .i64 0, .slice (Prod.fst (nthA ads (0 : Nat))) (2 : Nat) (Prod.snd (nthA ads (0 : Nat)))]) /\ (∀ (e : Ex), e ∈ rE -> e ∈ rE) /\ ∀ (a_8 : Option Addr)
 (cap_8 : Nat), AOK a_8 2 -> 2 ≤ cap_8 -> (True /\ True /\ True /\ True /\ True /\ True /\ True /\ True /\ True /\ (∀ (b : Nat), True) /\ (∀ (b : Nat), True) /\ (∀ (b : Nat), True) /\ True /\ True) /\ ∀ (b_10 : Nat), (True /\ True /\ True /\ True /\ True /\ True /\ True /\ True /\ True /\ True /\ (∀
 (b : Nat), True) /\ (∀ (b : Nat), True) /\ True /\ True) /\ ([Value.int .i64 r.q9] = [Value.int .i64 r.q9] /\ (SpecG Tryz.prog rE [(some (Addr.mk b_10 (0 : Nat) none), [Value.int .i64 r.q9])] (16 : FuncId) #[Value.string (ByteArray.mk (Array.mk [(70 : UInt8), (79 : UInt8), (76 : UInt8), (76 : UInt8),
 (79 : UInt8), (87 : UInt8), (79 : UInt8), (78 : UInt8)])), .slice (some (Addr.mk b_10 (0 : Nat) none)) (1 : Nat) (1 : Nat)] [RowT.mk (68 : TypeId) (3 : Nat) (2 : Nat) (cFw [ByteArray.mk (Array.mk [(70 : UInt8), (79 : UInt8), (76 : UInt8), (76 : UInt8), (79 : UInt8), (87 : UInt8), (79 : UInt8), (78 :
 UInt8)]), itS r.q9])] fun ads ↦ Value.agg #[Value.int .i64 0, .slice (Prod.fst (nthA ads (0 : Nat))) (2 : Nat) (Prod.snd (nthA ads (0 : Nat)))]) /\ (∀ (e : Ex), e ∈ rE -> e ∈ rE) /\ ∀ (a_9 : Option Addr) (cap_9 : Nat), AOK a_9 2 -> 2 ≤ cap_9 -> (True /\ True /\ True /\ True /\ True /\ True /\ True
 /\ True /\ True /\ True /\ (∀ (b : Nat), True) /\ (∀ (b : Nat), True) /\ True /\ True) /\ ∀ (b_11 : Nat), (True /\ True /\ True /\ True /\ True /\ True /\ True /\ True /\ True /\ True /\ True /\ (∀ (b : Nat), True) /\ True /\ True) /\ ([Value.int .i64 r.qa] = [Value.int .i64 r.qa] /\ (SpecG Tryz.prog
 rE [(some (Addr.mk b_11 (0 : Nat) none), [Value.int .i64 r.qa])] (16 : FuncId) #[Value.string (ByteArray.mk (Array.mk [(82 : UInt8), (69 : UInt8), (86 : UInt8), (73 : UInt8), (69 : UInt8), (87 : UInt8), (83 : UInt8)])), .slice (some (Addr.mk b_11 (0 : Nat) none)) (1 : Nat) (1 : Nat)] [RowT.mk (68 :
 TypeId) (3 : Nat) (2 : Nat) (cFw [ByteArray.mk (Array.mk [(82 : UInt8), (69 : UInt8), (86 : UInt8), (73 : UInt8), (69 : UInt8), (87 : UInt8), (83 : UInt8)]), itS r.qa])] fun ads ↦ Value.agg #[Value.int .i64 0, .slice (Prod.fst (nthA ads (0 : Nat))) (2 : Nat) (Prod.snd (nthA ads (0 : Nat)))]) /\ (∀
 (e : Ex), e ∈ rE -> e ∈ rE) /\ ∀ (a_10 : Option Addr) (cap_10 : Nat), AOK a_10 2 -> 2 ≤ cap_10 -> (True /\ True /\ True /\ True /\ True /\ True /\ True /\ True /\ True /\ True /\ True /\ (∀ (b : Nat), True) /\ True /\ True) /\ ∀ (b_12 : Nat), (True /\ True /\ True /\ True /\ True /\ True /\ True /\
 True /\ True /\ True /\ True /\ True /\ True /\ True) /\ ([Value.int .i64 r.qo] = [Value.int .i64 r.qo] /\ (SpecG Tryz.prog rE [(some (Addr.mk b_12 (0 : Nat) none), [Value.int .i64 r.qo])] (16 : FuncId) #[Value.string (ByteArray.mk (Array.mk [(79 : UInt8), (85 : UInt8), (84 : UInt8), (83 : UInt8),
 (73 : UInt8), (68 : UInt8), (69 : UInt8)])), .slice (some (Addr.mk b_12 (0 : Nat) none)) (1 : Nat) (1 : Nat)] [RowT.mk (68 : TypeId) (3 : Nat) (2 : Nat) (cFw [ByteArray.mk (Array.mk [(79 : UInt8), (85 : UInt8), (84 : UInt8), (83 : UInt8), (73 : UInt8), (68 : UInt8), (69 : UInt8)]), itS r.qo])] fun
 ads ↦ Value.agg #[Value.int .i64 0, .slice (Prod.fst (nthA ads (0 : Nat))) (2 : Nat) (Prod.snd (nthA ads (0 : Nat)))]) /\ (∀ (e : Ex), e ∈ rE -> e ∈ rE) /\ ∀ (a_11 : Option Addr) (cap_11 : Nat), AOK a_11 2 -> 2 ≤ cap_11 -> (True /\ True /\ True /\ True /\ True /\ True /\ True /\ True /\ True /\ True
 /\ True /\ True /\ (∀ (b : Nat), True) /\ True) /\ ∀ (b_13 : Nat), b = b /\ AbsP [Ob.mk (0 : Nat) (cFw [ByteArray.mk (Array.mk [(82 : UInt8), (85 : UInt8), (76 : UInt8), (69 : UInt8), (83 : UInt8)]), r.nm]) (68 : Nat) (some (Ow.mk a (List.length [ByteArray.mk (Array.mk [(82 : UInt8), (85 : UInt8),
 (76 : UInt8), (69 : UInt8), (83 : UInt8)]), r.nm]) cap (3 : Nat))), Ob.mk (0 : Nat) (cFw [ByteArray.mk (Array.mk [(83 : UInt8), (73 : UInt8), (68 : UInt8), (69 : UInt8)]), itS r.q1]) (68 : Nat) (some (Ow.mk a_1 (2 : Nat) cap_1 (3 : Nat))), Ob.mk (0 : Nat) (cFw [ByteArray.mk (Array.mk [(73 : UInt8),
 (78 : UInt8), (78 : UInt8), (73 : UInt8), (78 : UInt8), (71 : UInt8), (83 : UInt8)]), itS r.q2]) (68 : Nat) (some (Ow.mk a_2 (2 : Nat) cap_2 (3 : Nat))), Ob.mk (0 : Nat) (cFw [ByteArray.mk (Array.mk [(79 : UInt8), (86 : UInt8), (69 : UInt8), (82 : UInt8), (83 : UInt8)]), itS r.q3]) (68 : Nat) (some
 (Ow.mk a_3 (2 : Nat) cap_3 (3 : Nat))), Ob.mk (0 : Nat) (cFw [ByteArray.mk (Array.mk [(66 : UInt8), (65 : UInt8), (76 : UInt8), (76 : UInt8), (83 : UInt8)]), itS r.q4]) (68 : Nat) (some (Ow.mk a_4 (2 : Nat) cap_4 (3 : Nat))), Ob.mk (0 : Nat) (cFw [ByteArray.mk (Array.mk [(81 : UInt8), (85 : UInt8),
 (79 : UInt8), (84 : UInt8), (65 : UInt8)]), itS r.q5]) (68 : Nat) (some (Ow.mk a_5 (2 : Nat) cap_5 (3 : Nat))), Ob.mk (0 : Nat) (cFw [ByteArray.mk (Array.mk [(82 : UInt8), (85 : UInt8), (78 : UInt8), (83 : UInt8)]), itS r.q6, itS r.q7]) (68 : Nat) (some (Ow.mk a_6 (3 : Nat) cap_6 (3 : Nat))), Ob.mk
 (0 : Nat) (cFw [ByteArray.mk (Array.mk [(70 : UInt8), (82 : UInt8), (69 : UInt8), (69 : UInt8), (72 : UInt8), (73 : UInt8), (84 : UInt8)]), if r.fh = true then ByteArray.mk (Array.mk [(89 : UInt8), (69 : UInt8), (83 : UInt8)]) else ByteArray.mk (Array.mk [(78 : UInt8), (79 : UInt8)])]) (68 : Nat)
 (some (Ow.mk a_7 (List.length [ByteArray.mk (Array.mk [(70 : UInt8), (82 : UInt8), (69 : UInt8), (69 : UInt8), (72 : UInt8), (73 : UInt8), (84 : UInt8)]), if r.fh = true then ByteArray.mk (Array.mk [(89 : UInt8), (69 : UInt8), (83 : UInt8)]) else ByteArray.mk (Array.mk [(78 : UInt8), (79 :
 UInt8)])]) cap_7 (3 : Nat))), Ob.mk (0 : Nat) (cFw [ByteArray.mk (Array.mk [(78 : UInt8), (69 : UInt8), (87 : UInt8), (66 : UInt8), (65 : UInt8), (76 : UInt8), (76 : UInt8)]), itS r.q8]) (68 : Nat) (some (Ow.mk a_8 (2 : Nat) cap_8 (3 : Nat))), Ob.mk (0 : Nat) (cFw [ByteArray.mk (Array.mk [(70 :
 UInt8), (79 : UInt8), (76 : UInt8), (76 : UInt8), (79 : UInt8), (87 : UInt8), (79 : UInt8), (78 : UInt8)]), itS r.q9]) (68 : Nat) (some (Ow.mk a_9 (2 : Nat) cap_9 (3 : Nat))), Ob.mk (0 : Nat) (cFw [ByteArray.mk (Array.mk [(82 : UInt8), (69 : UInt8), (86 : UInt8), (73 : UInt8), (69 : UInt8), (87 :
 UInt8), (83 : UInt8)]), itS r.qa]) (68 : Nat) (some (Ow.mk a_10 (2 : Nat) cap_10 (3 : Nat))), Ob.mk (0 : Nat) (cFw [ByteArray.mk (Array.mk [(79 : UInt8), (85 : UInt8), (84 : UInt8), (83 : UInt8), (73 : UInt8), (68 : UInt8), (69 : UInt8)]), itS r.qo]) (68 : Nat) (some (Ow.mk a_11 (2 : Nat) cap_11 (3
 : Nat)))] (ghOb (0 : Nat) (famG (68 : Nat) (3 : Nat) true [FR.mk a (List.length [ByteArray.mk (Array.mk [(82 : UInt8), (85 : UInt8), (76 : UInt8), (69 : UInt8), (83 : UInt8)]), r.nm]) cap (cFw [ByteArray.mk (Array.mk [(82 : UInt8), (85 : UInt8), (76 : UInt8), (69 : UInt8), (83 : UInt8)]), r.nm]),
 FR.mk a_1 (2 : Nat) cap_1 (cFw [ByteArray.mk (Array.mk [(83 : UInt8), (73 : UInt8), (68 : UInt8), (69 : UInt8)]), itS r.q1]), FR.mk a_2 (2 : Nat) cap_2 (cFw [ByteArray.mk (Array.mk [(73 : UInt8), (78 : UInt8), (78 : UInt8), (73 : UInt8), (78 : UInt8), (71 : UInt8), (83 : UInt8)]), itS r.q2]), FR.mk
 a_3 (2 : Nat) cap_3 (cFw [ByteArray.mk (Array.mk [(79 : UInt8), (86 : UInt8), (69 : UInt8), (82 : UInt8), (83 : UInt8)]), itS r.q3]), FR.mk a_4 (2 : Nat) cap_4 (cFw [ByteArray.mk (Array.mk [(66 : UInt8), (65 : UInt8), (76 : UInt8), (76 : UInt8), (83 : UInt8)]), itS r.q4]), FR.mk a_5 (2 : Nat) cap_5
 (cFw [ByteArray.mk (Array.mk [(81 : UInt8), (85 : UInt8), (79 : UInt8), (84 : UInt8), (65 : UInt8)]), itS r.q5]), FR.mk a_6 (3 : Nat) cap_6 (cFw [ByteArray.mk (Array.mk [(82 : UInt8), (85 : UInt8), (78 : UInt8), (83 : UInt8)]), itS r.q6, itS r.q7]), FR.mk a_7 (List.length [ByteArray.mk (Array.mk
 [(70 : UInt8), (82 : UInt8), (69 : UInt8), (69 : UInt8), (72 : UInt8), (73 : UInt8), (84 : UInt8)]), if r.fh = true then ByteArray.mk (Array.mk [(89 : UInt8), (69 : UInt8), (83 : UInt8)]) else ByteArray.mk (Array.mk [(78 : UInt8), (79 : UInt8)])]) cap_7 (cFw [ByteArray.mk (Array.mk [(70 : UInt8),
 (82 : UInt8), (69 : UInt8), (69 : UInt8), (72 : UInt8), (73 : UInt8), (84 : UInt8)]), if r.fh = true then ByteArray.mk (Array.mk [(89 : UInt8), (69 : UInt8), (83 : UInt8)]) else ByteArray.mk (Array.mk [(78 : UInt8), (79 : UInt8)])]), FR.mk a_8 (2 : Nat) cap_8 (cFw [ByteArray.mk (Array.mk [(78 :
 UInt8), (69 : UInt8), (87 : UInt8), (66 : UInt8), (65 : UInt8), (76 : UInt8), (76 : UInt8)]), itS r.q8]), FR.mk a_9 (2 : Nat) cap_9 (cFw [ByteArray.mk (Array.mk [(70 : UInt8), (79 : UInt8), (76 : UInt8), (76 : UInt8), (79 : UInt8), (87 : UInt8), (79 : UInt8), (78 : UInt8)]), itS r.q9]), FR.mk a_10
 (2 : Nat) cap_10 (cFw [ByteArray.mk (Array.mk [(82 : UInt8), (69 : UInt8), (86 : UInt8), (73 : UInt8), (69 : UInt8), (87 : UInt8), (83 : UInt8)]), itS r.qa]), FR.mk a_11 (2 : Nat) cap_11 (cFw [ByteArray.mk (Array.mk [(79 : UInt8), (85 : UInt8), (84 : UInt8), (83 : UInt8), (73 : UInt8), (68 : UInt8),
 (69 : UInt8)]), itS r.qo])])) /\ (∃ x, tI r x /\ Value.int .i64 0 = Value.int .i64 (↑(TS.i x) : Int) /\ Value.slice (some (Addr.mk b_13 (0 : Nat) none)) (12 : Nat) (12 : Nat) = Value.slice (TS.a x) (List.length (TS.L x)) (TS.c x) /\ ((43 : Nat) = (43 : Nat) /\ [Value.int .i64 0, .slice a
 (List.length [ByteArray.mk (Array.mk [(82 : UInt8), (85 : UInt8), (76 : UInt8), (69 : UInt8), (83 : UInt8)]), r.nm]) cap, .int .i64 0, .slice a_1 (2 : Nat) cap_1, .int .i64 0, .slice a_2 (2 : Nat) cap_2, .int .i64 0, .slice a_3 (2 : Nat) cap_3, .int .i64 0, .slice a_4 (2 : Nat) cap_4, .int .i64 0,
 .slice a_5 (2 : Nat) cap_5, .int .i64 0, .slice a_6 (3 : Nat) cap_6, .int .i64 0, .slice a_7 (List.length [ByteArray.mk (Array.mk [(70 : UInt8), (82 : UInt8), (69 : UInt8), (69 : UInt8), (72 : UInt8), (73 : UInt8), (84 : UInt8)]), if r.fh = true then ByteArray.mk (Array.mk [(89 : UInt8), (69 :
 UInt8), (83 : UInt8)]) else ByteArray.mk (Array.mk [(78 : UInt8), (79 : UInt8)])]) cap_7, .int .i64 0, .slice a_8 (2 : Nat) cap_8, .int .i64 0, .slice a_9 (2 : Nat) cap_9, .int .i64 0, .slice a_10 (2 : Nat) cap_10, .int .i64 0, .slice a_11 (2 : Nat) cap_11] = cLn (TS.L x) /\ List.length (cLn (TS.L
 x)) = List.length (TS.L x) * (2 : Nat) /\ TS.c x = List.length (TS.L x) /\ List.length (TS.L x) ≤ (1048576 : Nat) /\ TS.a x = some (Addr.mk b_13 (0 : Nat) none)) /\ (famG (68 : Nat) (3 : Nat) true [FR.mk a (List.length [ByteArray.mk (Array.mk [(82 : UInt8), (85 : UInt8), (76 : UInt8), (69 : UInt8),
 (83 : UInt8)]), r.nm]) cap (cFw [ByteArray.mk (Array.mk [(82 : UInt8), (85 : UInt8), (76 : UInt8), (69 : UInt8), (83 : UInt8)]), r.nm]), FR.mk a_1 (2 : Nat) cap_1 (cFw [ByteArray.mk (Array.mk [(83 : UInt8), (73 : UInt8), (68 : UInt8), (69 : UInt8)]), itS r.q1]), FR.mk a_2 (2 : Nat) cap_2 (cFw
 [ByteArray.mk (Array.mk [(73 : UInt8), (78 : UInt8), (78 : UInt8), (73 : UInt8), (78 : UInt8), (71 : UInt8), (83 : UInt8)]), itS r.q2]), FR.mk a_3 (2 : Nat) cap_3 (cFw [ByteArray.mk (Array.mk [(79 : UInt8), (86 : UInt8), (69 : UInt8), (82 : UInt8), (83 : UInt8)]), itS r.q3]), FR.mk a_4 (2 : Nat)
 cap_4 (cFw [ByteArray.mk (Array.mk [(66 : UInt8), (65 : UInt8), (76 : UInt8), (76 : UInt8), (83 : UInt8)]), itS r.q4]), FR.mk a_5 (2 : Nat) cap_5 (cFw [ByteArray.mk (Array.mk [(81 : UInt8), (85 : UInt8), (79 : UInt8), (84 : UInt8), (65 : UInt8)]), itS r.q5]), FR.mk a_6 (3 : Nat) cap_6 (cFw
 [ByteArray.mk (Array.mk [(82 : UInt8), (85 : UInt8), (78 : UInt8), (83 : UInt8)]), itS r.q6, itS r.q7]), FR.mk a_7 (List.length [ByteArray.mk (Array.mk [(70 : UInt8), (82 : UInt8), (69 : UInt8), (69 : UInt8), (72 : UInt8), (73 : UInt8), (84 : UInt8)]), if r.fh = true then ByteArray.mk (Array.mk [(89
 : UInt8), (69 : UInt8), (83 : UInt8)]) else ByteArray.mk (Array.mk [(78 : UInt8), (79 : UInt8)])]) cap_7 (cFw [ByteArray.mk (Array.mk [(70 : UInt8), (82 : UInt8), (69 : UInt8), (69 : UInt8), (72 : UInt8), (73 : UInt8), (84 : UInt8)]), if r.fh = true then ByteArray.mk (Array.mk [(89 : UInt8), (69 :
 UInt8), (83 : UInt8)]) else ByteArray.mk (Array.mk [(78 : UInt8), (79 : UInt8)])]), FR.mk a_8 (2 : Nat) cap_8 (cFw [ByteArray.mk (Array.mk [(78 : UInt8), (69 : UInt8), (87 : UInt8), (66 : UInt8), (65 : UInt8), (76 : UInt8), (76 : UInt8)]), itS r.q8]), FR.mk a_9 (2 : Nat) cap_9 (cFw [ByteArray.mk
 (Array.mk [(70 : UInt8), (79 : UInt8), (76 : UInt8), (76 : UInt8), (79 : UInt8), (87 : UInt8), (79 : UInt8), (78 : UInt8)]), itS r.q9]), FR.mk a_10 (2 : Nat) cap_10 (cFw [ByteArray.mk (Array.mk [(82 : UInt8), (69 : UInt8), (86 : UInt8), (73 : UInt8), (69 : UInt8), (87 : UInt8), (83 : UInt8)]), itS
 r.qa]), FR.mk a_11 (2 : Nat) cap_11 (cFw [ByteArray.mk (Array.mk [(79 : UInt8), (85 : UInt8), (84 : UInt8), (83 : UInt8), (73 : UInt8), (68 : UInt8), (69 : UInt8)]), itS r.qo])] = famG (68 : Nat) (3 : Nat) true (frW (TS.L x)) /\ (none : Option Addr) = none /\ ([] : List Value) = []) /\ True) /\ ∀
 (x0 : TS), tI r x0 -> ∀ (junk : Nat -> Value), (decide ((↑(TS.i x0) : Int) < (↑(r.pw.length) : Int)) = true -> (((0 : Int) ≤ (↑(TS.i x0) : Int) /\ (↑(TS.i x0) : Int) < (↑(r.pw.length) : Int)) /\ AOK (RAd.a B) (r.pw.length)) /\ bk (RAd.a B) = bk (RAd.a B) /\ ofs (RAd.a B) + Int.toNat (↑(TS.i x0) :
 Int) * (3 : Nat) = ofs (RAd.a B) + Int.toNat (↑(TS.i x0) : Int) * (3 : Nat) /\ lgo (cP r.pw) (Int.toNat (↑(TS.i x0) : Int) * (3 : Nat)) = some (Value.int .i64 (Ph.pf (List.getD r.pw (Int.toNat (↑(TS.i x0) : Int)) (Ph.mk (0 : Int) (0 : Int) (0 : Int))))) /\ bk (RAd.a B) = bk (RAd.a B) /\ ofs (RAd.a
 B) + Int.toNat (↑(TS.i x0) : Int) * (3 : Nat) + (1 : Nat) = ofs (RAd.a B) + (Int.toNat (↑(TS.i x0) : Int) * (3 : Nat) + (1 : Nat)) /\ lgo (cP r.pw) (Int.toNat (↑(TS.i x0) : Int) * (3 : Nat) + (1 : Nat)) = some (Value.int .i64 (Ph.pt (List.getD r.pw (Int.toNat (↑(TS.i x0) : Int)) (Ph.mk (0 : Int) (0
 : Int) (0 : Int))))) /\ bk (RAd.a B) = bk (RAd.a B) /\ ofs (RAd.a B) + Int.toNat (↑(TS.i x0) : Int) * (3 : Nat) + (2 : Nat) = ofs (RAd.a B) + (Int.toNat (↑(TS.i x0) : Int) * (3 : Nat) + (2 : Nat)) /\ lgo (cP r.pw) (Int.toNat (↑(TS.i x0) : Int) * (3 : Nat) + (2 : Nat)) = some (Value.int .i64 (Ph.po
 (List.getD r.pw (Int.toNat (↑(TS.i x0) : Int)) (Ph.mk (0 : Int) (0 : Int) (0 : Int))))) /\ ∀ (b : Nat), e2 b 3 (e1 b 3 (∀ (b : Nat), [Value.int .i64 (Ph.pf (List.getD r.pw (Int.toNat (↑(TS.i x0) : Int)) (Ph.mk (0 : Int) (0 : Int) (0 : Int)))), .int .i64 (Ph.pt (List.getD r.pw (Int.toNat (↑(TS.i x0)
 : Int)) (Ph.mk (0 : Int) (0 : Int) (0 : Int)))), .int .i64 (Ph.po (List.getD r.pw (Int.toNat (↑(TS.i x0) : Int)) (Ph.mk (0 : Int) (0 : Int) (0 : Int))))] = [Value.int .i64 (Ph.pf (List.getD r.pw (Int.toNat (↑(TS.i x0) : Int)) (Ph.mk (0 : Int) (0 : Int) (0 : Int)))), .int .i64 (Ph.pt (List.getD r.pw
 (Int.toNat (↑(TS.i x0) : Int)) (Ph.mk (0 : Int) (0 : Int) (0 : Int)))), .int .i64 (Ph.po (List.getD r.pw (Int.toNat (↑(TS.i x0) : Int)) (Ph.mk (0 : Int) (0 : Int) (0 : Int))))] /\ (SpecG Tryz.prog rE [(some (Addr.mk b (0 : Nat) none), [Value.int .i64 (Ph.pf (List.getD r.pw (Int.toNat (↑(TS.i x0) :
 Int)) (Ph.mk (0 : Int) (0 : Int) (0 : Int)))), .int .i64 (Ph.pt (List.getD r.pw (Int.toNat (↑(TS.i x0) : Int)) (Ph.mk (0 : Int) (0 : Int) (0 : Int)))), .int .i64 (Ph.po (List.getD r.pw (Int.toNat (↑(TS.i x0) : Int)) (Ph.mk (0 : Int) (0 : Int) (0 : Int))))])] (16 : FuncId) #[Value.string
 (ByteArray.mk (Array.mk [(80 : UInt8), (79 : UInt8), (87 : UInt8), (69 : UInt8), (82 : UInt8)])), .slice (some (Addr.mk b (0 : Nat) none)) (3 : Nat) (3 : Nat)] [RowT.mk (68 : TypeId) (3 : Nat) (4 : Nat) (cFw [ByteArray.mk (Array.mk [(80 : UInt8), (79 : UInt8), (87 : UInt8), (69 : UInt8), (82 :
 UInt8)]), itS (Ph.pf (List.getD r.pw (Int.toNat (↑(TS.i x0) : Int)) (Ph.mk (0 : Int) (0 : Int) (0 : Int)))), itS (Ph.pt (List.getD r.pw (Int.toNat (↑(TS.i x0) : Int)) (Ph.mk (0 : Int) (0 : Int) (0 : Int)))), itS (Ph.po (List.getD r.pw (Int.toNat (↑(TS.i x0) : Int)) (Ph.mk (0 : Int) (0 : Int) (0 :
 Int))))])] fun ads ↦ Value.agg #[Value.int .i64 0, .slice (Prod.fst (nthA ads (0 : Nat))) (4 : Nat) (Prod.snd (nthA ads (0 : Nat)))]) /\ (∀ (e : Ex), e ∈ rE -> e ∈ rE) /\ ∀ (a : Option Addr) (cap : Nat), AOK a 4 -> 4 ≤ cap -> ∀ (b : Nat), TS.a x0 = TS.a x0 /\ List.length (TS.L x0) = List.length
 (TS.L x0) /\ TS.c x0 = TS.c x0 /\ b = b /\ (List.length (TS.L x0) + (1 : Nat)) * (33 : Nat) ≤ (140737488355328 : Nat) /\ ∀ (g cap_12 : Nat), AbsP [ghOb (0 : Nat) (famG (68 : TypeId) (3 : Nat) true (frW (TS.L x0))), Ob.mk (0 : Nat) (cFw [ByteArray.mk (Array.mk [(80 : UInt8), (79 : UInt8), (87 :
 UInt8), (69 : UInt8), (82 : UInt8)]), itS (Ph.pf (List.getD r.pw (Int.toNat (↑(TS.i x0) : Int)) (Ph.mk (0 : Int) (0 : Int) (0 : Int)))), itS (Ph.pt (List.getD r.pw (Int.toNat (↑(TS.i x0) : Int)) (Ph.mk (0 : Int) (0 : Int) (0 : Int)))), itS (Ph.po (List.getD r.pw (Int.toNat (↑(TS.i x0) : Int)) (Ph.mk
 (0 : Int) (0 : Int) (0 : Int))))]) (68 : Nat) (some (Ow.mk a (4 : Nat) cap (3 : Nat)))] (ghOb (0 : Nat) (famG (68 : Nat) (3 : Nat) true (frW (TS.L x0) ++ [FR.mk a (4 : Nat) cap (cFw [ByteArray.mk (Array.mk [(80 : UInt8), (79 : UInt8), (87 : UInt8), (69 : UInt8), (82 : UInt8)]), itS (Ph.pf (List.getD
 r.pw (Int.toNat (↑(TS.i x0) : Int)) (Ph.mk (0 : Int) (0 : Int) (0 : Int)))), itS (Ph.pt (List.getD r.pw (Int.toNat (↑(TS.i x0) : Int)) (Ph.mk (0 : Int) (0 : Int) (0 : Int)))), itS (Ph.po (List.getD r.pw (Int.toNat (↑(TS.i x0) : Int)) (Ph.mk (0 : Int) (0 : Int) (0 : Int))))])]))) /\ ∃ y, tI r y /\
 r.pw.length - TS.i y < r.pw.length - TS.i x0 /\ Value.int .i64 (IntKind.i64.wrap ((↑(TS.i x0) : Int) + (1 : Int))) = Value.int .i64 (↑(TS.i y) : Int) /\ Value.slice (some (Addr.mk g (0 : Nat) none)) (List.length (TS.L x0) + (1 : Nat)) cap_12 = Value.slice (TS.a y) (List.length (TS.L y)) (TS.c y) /\
 ((0 : Nat) = (0 : Nat) /\ lapp (cLn (TS.L x0)) [Value.int .i64 0, .slice a (4 : Nat) cap] = cLn (TS.L y) /\ (43 : Nat) = (43 : Nat) /\ some (Ow.mk (some (Addr.mk g (0 : Nat) none)) (List.length (TS.L x0) + (1 : Nat)) cap_12 (2 : Nat)) = some (Ow.mk (TS.a y) (List.length (TS.L y)) (TS.c y) (2 :
 Nat))) /\ (famG (68 : Nat) (3 : Nat) true (frW (TS.L x0) ++ [FR.mk a (4 : Nat) cap (cFw [ByteArray.mk (Array.mk [(80 : UInt8), (79 : UInt8), (87 : UInt8), (69 : UInt8), (82 : UInt8)]), itS (Ph.pf (List.getD r.pw (Int.toNat (↑(TS.i x0) : Int)) (Ph.mk (0 : Int) (0 : Int) (0 : Int)))), itS (Ph.pt
 (List.getD r.pw (Int.toNat (↑(TS.i x0) : Int)) (Ph.mk (0 : Int) (0 : Int) (0 : Int)))), itS (Ph.po (List.getD r.pw (Int.toNat (↑(TS.i x0) : Int)) (Ph.mk (0 : Int) (0 : Int) (0 : Int))))])]) = famG (68 : Nat) (3 : Nat) true (frW (TS.L y)) /\ (none : Option Addr) = none /\ ([] : List Value) = []) /\
 True))) /\ (decide ((↑(TS.i x0) : Int) < (↑(r.pw.length) : Int)) = false -> (SpecC Tryz.prog rE [(TS.a x0, cLn (TS.L x0))] [famG (68 : TypeId) (3 : Nat) false (frW (TS.L x0))] [] (18 : FuncId) #[Value.slice (TS.a x0) (List.length (TS.L x0)) (TS.c x0)] Un (fun x ↦ x = Un.un) (fun x ↦ []) fun x ↦
 Value.string (wtS (TS.L x0))) /\ (∀ (e : Ex), e ∈ rE -> e ∈ rE) /\ True /\ ((TS.a x0 = TS.a x0 /\ cLn (TS.L x0) = cLn (TS.L x0)) /\ True) /\ (Gh.mk false (Gh.dep (famG (68 : TypeId) (3 : Nat) true (frW (TS.L x0)))) (Gh.ok (famG (68 : TypeId) (3 : Nat) true (frW (TS.L x0)))) (Gh.lt (famG (68 : Nat)
 (3 : Nat) true (frW (TS.L x0)))) (Gh.same (famG (68 : Nat) (3 : Nat) true (frW (TS.L x0)))) = Gh.mk false (Gh.dep (famG (68 : TypeId) (3 : Nat) false (frW (TS.L x0)))) (Gh.ok (famG (68 : TypeId) (3 : Nat) false (frW (TS.L x0)))) (Gh.lt (famG (68 : Nat) (3 : Nat) false (frW (TS.L x0)))) (Gh.same
 (famG (68 : Nat) (3 : Nat) false (frW (TS.L x0)))) /\ True) /\ ∀ (x_11477 : Un), x_11477 = Un.un -> Value.tuple (Array.mk [.string (wtS (TS.L x0)), .int .i64 0]) = Value.tuple (Array.mk [.string (txE r), .int .i64 (rck r)]))) /\ True) /\ True) /\ True) /\ True) /\ True) /\ True) /\ True) /\ True) /\
 True) /\ True) /\ True) /\ True) /\ True)))) := by kernel_rfl
set_option maxHeartbeats 4000000 in
theorem rtx_sp (r : Rul) (B : RAd) (hB : AOK B.a r.pw.length) (hl : r.pw.length ≤ 1000000) (hn : r.nm.size ≤ 20) : SpecG Tryz.prog rE ([(B.a, cP r.pw)]) 6 #[ruV r B] ([]) (fun _ => .tuple #[.string (txE r), .int .i64 (rck r)]) := by
  refine specG_of (h := rtx_h r B) (?_ : wpG Tryz.prog rE ([(B.a, cP r.pw)]) 400 6 [ruV r B] (rtx_h r B) ([]) (fun _ => .tuple #[.string (txE r), .int .i64 (rck r)]))
  rw [rtx_x]
  (repeat' (first | with_reducible exact rfl | exact trivial | with_reducible assumption | exact rch_sp r B hB hl (Nat.le_trans hn (by decide)) | exact vw_sp _ _ _ (aokp _ _) (Nat.le_of_ble_eq_true rfl) | exact vn1_sp _ _ _ _ (aokp _ _) (by have hb := rk_b ‹_›; first | exact i64_s hb.1 | (refine i64_s ?_; omega)) | exact vn2_sp _ _ _ _ _ (aokp _ _) (by have hb := rk_b ‹_›; first | exact i64_s hb.1 | (refine i64_s ?_; omega)) (by have hb := rk_b ‹_›; first | exact i64_s hb.1 | (refine i64_s ?_; omega)) | exact vn3_sp _ _ _ _ _ _ (aokp _ _) (i64_s (rk_p ‹_› _).1) (i64_s (rk_p ‹_› _).2.1) (i64_s (rk_p ‹_› _).2.2) | exact van_sp _ | exact wr_c _ _ _ ‹tI r _›.2.2.1 ‹tI r _›.2.2.2 (tI_fine ‹tI r _› ‹(rck r != 0) = false› hn) | exact cU_len _ | exact cI_len _ | exact cB_len _ | exact cU_one _ | exact cI_one _ | exact cB_one _ | exact (fun _ h => h) | exact (fun _ h => (List.not_mem_nil h).elim) | exact cS_len _ | exact cS_one _ | (with_reducible refine e1_in ?_) | (with_reducible refine e2_in ?_) | (with_reducible refine lx_in (Nat.le_of_ble_eq_true rfl) ?_) | (with_reducible refine rqx_rf ?_) | (with_reducible refine rqx_in ?_ ?_ ?_) | (with_reducible apply And.intro) | (with_reducible intro _)))
  all_goals (try (rw [tx_no ‹_›]; done))
  all_goals (try (exact tx_ok ‹(rck r != 0) = false› ‹tI r _› ‹_›))
  all_goals (try (first | exact Nat.le_of_ble_eq_true rfl | omega | exact rfl))
  all_goals (try (first | exact famG_join1 (by decide) 0 _ _ _ _ _ | exact famG_drop 0 (famG_join (el := 68) (size := 3) (by decide) 0 [] [⟨_, _, _, _⟩, ⟨_, _, _, _⟩, ⟨_, _, _, _⟩, ⟨_, _, _, _⟩, ⟨_, _, _, _⟩, ⟨_, _, _, _⟩, ⟨_, _, _, _⟩, ⟨_, _, _, _⟩, ⟨_, _, _, _⟩, ⟨_, _, _, _⟩, ⟨_, _, _, _⟩, ⟨_, _, _, _⟩])))
  all_goals (try (refine ⟨⟨0, _, 12, [⟨_, _, [⟨#[82, 85, 76, 69, 83]⟩, r.nm]⟩, ⟨_, _, [⟨#[83, 73, 68, 69]⟩, itS r.q1]⟩, ⟨_, _, [⟨#[73, 78, 78, 73, 78, 71, 83]⟩, itS r.q2]⟩, ⟨_, _, [⟨#[79, 86, 69, 82, 83]⟩, itS r.q3]⟩, ⟨_, _, [⟨#[66, 65, 76, 76, 83]⟩, itS r.q4]⟩, ⟨_, _, [⟨#[81, 85, 79, 84, 65]⟩, itS r.q5]⟩, ⟨_, _, [⟨#[82, 85, 78, 83]⟩, itS r.q6, itS r.q7]⟩, ⟨_, _, [⟨#[70, 82, 69, 69, 72, 73, 84]⟩, ansS r.fh]⟩, ⟨_, _, [⟨#[78, 69, 87, 66, 65, 76, 76]⟩, itS r.q8]⟩, ⟨_, _, [⟨#[70, 79, 76, 76, 79, 87, 79, 78]⟩, itS r.q9]⟩, ⟨_, _, [⟨#[82, 69, 86, 73, 69, 87, 83]⟩, itS r.qa]⟩, ⟨_, _, [⟨#[79, 85, 84, 83, 73, 68, 69]⟩, itS r.qo]⟩]⟩, tI_0 r _ _ _ (aokp _ _) ?_ ?_, rfl, rfl, ⟨rfl, rfl, rfl, rfl, Nat.le_of_ble_eq_true rfl, rfl⟩, ⟨rfl, rfl, rfl⟩, trivial⟩ <;> first | exact rfl | (simp_all [rlW, ansS]; done) | (intro l hl; simp only [List.mem_cons, List.not_mem_nil, or_false] at hl; rcases hl with rfl | rfl | rfl | rfl | rfl | rfl | rfl | rfl | rfl | rfl | rfl | rfl <;> assumption)))
  all_goals (try (have hx := ‹tI r _›; have hb := tI_b hx ‹(rck r != 0) = false›; have hf := ‹decide (((TS.i _ : Nat) : Int) < (r.pw.length : Int)) = true›; exact ⟨nxT hx _ _ _ _ _, tI_s hx hf (ws := rlP (r.pw.getD _ ⟨0, 0, 0⟩)) rfl _ _ (by first | assumption | exact aokp _ _), tI_mu hf, wr_k2 (by omega), slL rfl (by simp) rfl, ⟨rfl, cLn_app _ rfl, rfl, owL rfl (by simp) rfl⟩, ⟨fmW _ _ _ rfl rfl, rfl, rfl⟩, trivial⟩))
  all_goals (try (have hx := ‹tI r _›; have hb := tI_b hx ‹(rck r != 0) = false›; have hg := of_decide_eq_true ‹decide (((TS.i _ : Nat) : Int) < (r.pw.length : Int)) = true›; (try simp only [Int.toNat_natCast]); first | omega | (refine cP_get0 ?_; omega) | (refine cP_get1 ?_; omega) | (refine cP_get2 ?_; omega)))
  
end Go.Proofs.YtjdldofgkhibnaaGreatDoor
