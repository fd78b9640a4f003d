/- Layer 6 (squad): the text of any side, of both. -/
import Derived.Test.YtjdldofgkhibnaaDoorVz
import Derived.KernelRfl
import Derived.Test.YtjdldofgkhibnaaDoorProg
import Derived.Test.YtjdldofgkhibnaaDoorVf
import Derived.Test.YtjdldofgkhibnaaDoorBrg
import Derived.Test.YtjdldofgkhibnaaDoorRub
import Derived.Test.YtjdldofgkhibnaaDoorRubr
import Derived.Test.YtjdldofgkhibnaaDoorSqw
import Derived.Test.YtjdldofgkhibnaaDoorSqa
import Derived.Test.YtjdldofgkhibnaaDoorWrr
set_option linter.unusedSimpArgs false
set_option linter.unusedVariables false
set_option maxRecDepth 100000
namespace Go.Proofs.YtjdldofgkhibnaaDoor
open Go.RowKit


def noOw : Option Ow := none
/-- The cells of the fields of words; of lines. -/
def cFw (l : List ByteArray) : List Value := l.flatMap fun b => [.string b, .int .i64 0, .bool false]
def cLn (L : List LnA) : List Value := L.flatMap lnP
def frW (L : List LnA) : List FR := L.map fun l => ⟨l.a, l.fs.length, l.c, cFw l.fs⟩
theorem cFw_len (l : List ByteArray) : (cFw l).length = l.length * 3 := by
  induction l with
  | nil => rfl
  | cons p l ih => simp only [cFw, List.flatMap_cons, List.length_append] at *; rw [ih]; simp; omega
theorem cLn_len (L : List LnA) : (cLn L).length = L.length * 2 := by
  induction L with
  | nil => rfl
  | cons p l ih => simp only [cLn, List.flatMap_cons, List.length_append] at *; rw [ih]; simp [lnP]; omega
theorem cFw_app (l : List ByteArray) (b : ByteArray) : lapp (cFw l) [.string b, .int .i64 0, .bool false] = cFw (l ++ [b]) := by
  rw [lapp_eq]; unfold cFw; rw [List.flatMap_append]; rfl
theorem cLn_app (L : List LnA) {a : Option Addr} {n c : Nat} {fs : List ByteArray} (h : n = fs.length) : lapp (cLn L) [.int .i64 0, .slice a n c] = cLn (L ++ [⟨a, c, fs⟩]) := by
  rw [lapp_eq, h]; unfold cLn; rw [List.flatMap_append]; rfl
theorem frW_app (L : List LnA) {a : Option Addr} {n c : Nat} {fs : List ByteArray} {xs : List Value} (h : n = fs.length) (hx : xs = cFw fs) : frW L ++ [⟨a, n, c, xs⟩] = frW (L ++ [⟨a, c, fs⟩]) := by
  rw [h, hx]; simp [frW]
theorem fmW (e z : Nat) (L : List LnA) {a : Option Addr} {n c : Nat} {fs : List ByteArray} {xs : List Value} (h : n = fs.length) (hx : xs = cFw fs) : famG e z true (frW L ++ [⟨a, n, c, xs⟩]) = famG e z true (frW (L ++ [⟨a, c, fs⟩])) := by rw [frW_app L h hx]
/-- A plain row joins a family. -/
theorem famG_joinP {el : TypeId} {size : Nat} (hs : 0 < size) (e : TypeId) (L : List FR) (b n : Nat) (xs : List Value) (hx : xs.length = n * size) (h0 : xs ≠ []) (hn : n ≤ 1048576) : AbsP [ghOb e (famG el size true L), ⟨b, xs, el, none⟩] (ghOb e (famG el size true (L ++ [⟨some ⟨b, 0, none⟩, n, n, xs⟩]))) := by
  have hw0 : weakP0 (⟨b, xs, el, none⟩ : Ob) ⟨0, xs, el, some ⟨some ⟨b, 0, none⟩, n, n, size⟩⟩ := by
    unfold weakP0
    cases size with
    | zero => omega
    | succ k =>
      cases xs with
      | nil => exact absurd rfl h0
      | cons y ys => exact ⟨rfl, rfl, hx, rfl, hn, rfl⟩
  have hw : Weak (⟨b, xs, el, none⟩ : Ob) ⟨0, xs, el, some ⟨some ⟨b, 0, none⟩, n, n, size⟩⟩ := weakP_ok hw0
  intro base w hok hap
  have h1 := famG_join1 (el := el) hs e L (some ⟨b, 0, none⟩) n n xs base w
  have hp := hok _ (List.mem_cons_of_mem _ (List.mem_cons_self ..))
  have hd := hw.1 base w hp
  have kp2 : ∀ k, Ob.kp (⟨0, xs, el, some ⟨some ⟨b, 0, none⟩, n, n, size⟩⟩ : Ob) k → Ob.kp (⟨b, xs, el, none⟩ : Ob) k := hw.2
  obtain ⟨r1, r2, r3⟩ := h1 (fun o ho => by
    rcases List.mem_cons.1 ho with rfl | ho
    · exact hok _ (List.mem_cons_self ..)
    · rw [List.mem_singleton] at ho
      subst ho
      exact hd.1) (fun i j o p k hi hj hk hdp => by
    have key : ∀ (m : Nat) (q : Ob), ([ghOb e (famG el size true L), ⟨0, xs, el, some ⟨some ⟨b, 0, none⟩, n, n, size⟩⟩] : List Ob)[m]? = some q → (m = 0 ∧ q = ghOb e (famG el size true L)) ∨ (m = 1 ∧ q = ⟨0, xs, el, some ⟨some ⟨b, 0, none⟩, n, n, size⟩⟩) := by
      intro m q h
      match m with
      | 0 => left; simp at h; exact ⟨rfl, h.symm⟩
      | 1 => right; simp at h; exact ⟨rfl, h.symm⟩
      | m + 2 => simp at h
    rcases key i o hi with ⟨rfl, rfl⟩ | ⟨rfl, rfl⟩ <;> rcases key j p hj with ⟨rfl, rfl⟩ | ⟨rfl, rfl⟩
    · rfl
    · exact hap 0 1 _ _ k rfl rfl hk (hd.2 k hdp)
    · exact hap 1 0 _ _ k rfl rfl (kp2 k hk) hdp
    · rfl)
  refine ⟨r1, fun k hk => ?_, fun k hk => ?_⟩
  · obtain ⟨o, ho, h⟩ := r2 k hk
    rcases List.mem_cons.1 ho with rfl | ho
    · exact ⟨_, List.mem_cons_self .., h⟩
    · rw [List.mem_singleton] at ho
      subst ho
      exact ⟨_, List.mem_cons_of_mem _ (List.mem_cons_self ..), hd.2 k h⟩
  · obtain ⟨o, ho, h⟩ := r3 k hk
    rcases List.mem_cons.1 ho with rfl | ho
    · exact ⟨_, List.mem_cons_self .., h⟩
    · rw [List.mem_singleton] at ho
      subst ho
      exact ⟨_, List.mem_cons_of_mem _ (List.mem_cons_self ..), kp2 k h⟩
theorem famG_new {el : TypeId} {size : Nat} (e : TypeId) {p : Ob} {r : FR} (h : AbsP [ghOb e (famG el size true []), p] (ghOb e (famG el size true ([] ++ [r])))) : AbsP [p] (ghOb e (famG el size true [r])) := by
  intro base w hok hap
  have hn := famG_nil el size true w
  have key : ∀ (m : Nat) (q : Ob), ([ghOb e (famG el size true []), p] : List Ob)[m]? = some q → (m = 0 ∧ q = ghOb e (famG el size true [])) ∨ (m = 1 ∧ q = p) := by
    intro m q h
    match m with
    | 0 => left; simp at h; exact ⟨rfl, h.symm⟩
    | 1 => right; simp at h; exact ⟨rfl, h.symm⟩
    | m + 2 => simp at h
  obtain ⟨r1, r2, r3⟩ := h base w (fun o ho => by
    rcases List.mem_cons.1 ho with rfl | ho
    · exact ghOb_ok.2 ⟨hn.1, fun _ k hk => absurd hk (hn.2 k)⟩
    · exact hok o ho) (fun i j o q k hi hj hk hd => by
    rcases key i o hi with ⟨rfl, rfl⟩ | ⟨rfl, rfl⟩ <;> rcases key j q hj with ⟨rfl, rfl⟩ | ⟨rfl, rfl⟩
    · rfl
    · exact absurd (ghOb_kp.1 hk).2 (hn.2 k)
    · exact absurd (ghOb_dep.1 hd) (hn.2 k)
    · rfl)
  refine ⟨r1, fun k hk => ?_, fun k hk => ?_⟩
  · obtain ⟨o, ho, h⟩ := r2 k hk
    rcases List.mem_cons.1 ho with rfl | ho
    · exact absurd (ghOb_dep.1 h) (hn.2 k)
    · exact ⟨o, ho, h⟩
  · obtain ⟨o, ho, h⟩ := r3 k hk
    rcases List.mem_cons.1 ho with rfl | ho
    · exact absurd (ghOb_kp.1 h).2 (hn.2 k)
    · exact ⟨o, ho, h⟩
def PLY : ByteArray := ⟨#[80, 76, 65, 89, 69, 82]⟩
def SID : ByteArray := ⟨#[83, 73, 68, 69]⟩
def CAP : ByteArray := ⟨#[67, 65, 80, 84, 65, 73, 78]⟩
def KEP : ByteArray := ⟨#[75, 69, 69, 80, 69, 82]⟩
/-- The words of a player's line; of a side's lines; the text. -/
def sqW (s : Squ) (i : Nat) : List ByteArray := [PLY, gS s.pl i] ++ (if (i : Int) + 1 = s.ca then [CAP] else []) ++ (if (i : Int) + 1 = s.ke then [KEP] else [])
def sqLs (s : Squ) (k : Nat) : List (List ByteArray) := [SID, s.nm] :: (List.range k).map (sqW s)
def txS (s : Squ) : ByteArray := str (wrA ((sqLs s s.pl.length).map fun ws => ⟨0, ws.map fB⟩))
def txE (s : Squ) : ByteArray := if sqk s = 0 then txS s else ⟨#[]⟩
theorem sqLs_s (s : Squ) (k : Nat) : sqLs s (k + 1) = sqLs s k ++ [sqW s k] := by unfold sqLs; rw [List.range_succ, List.map_append]; rfl
structure WS where
  i : Nat
  b : Nat
  a : Option Addr
  c : Nat
def lI (l : List ByteArray) (x : WS) : Prop := x.i ≤ l.length ∧ AOK x.a x.i
@[reducible] def nxW {l : List ByteArray} {x : WS} (_ : lI l x) (a : Option Addr) (c : Nat) : WS := ⟨x.i + 1, x.b, a, c⟩
theorem wl_app {l : List ByteArray} {i : Nat} (h : i < l.length) : lapp (cFw (l.take i)) [.string (gS l i), .int .i64 0, .bool false] = cFw (l.take (i + 1)) := by
  rw [cFw_app, List.take_add_one, List.getElem?_eq_getElem h, gS, List.getD_eq_getElem?_getD, List.getElem?_eq_getElem h]; rfl
theorem aokz : AOK none 0 := ⟨fun _ => rfl, fun h => absurd rfl h⟩
theorem aokp (b n : Nat) : AOK (some ⟨b, 0, none⟩) n := ⟨fun h => (by cases h), fun _ q h => (by cases h; rfl)⟩
theorem lnL_of {L : List LnA} {W : List (List ByteArray)} (h : L.map (·.fs) = W) : lnL L = W.map fun ws => ⟨0, ws.map fB⟩ := by subst h; unfold lnL; rw [List.map_map]; rfl
structure TS where
  i : Nat
  a : Option Addr
  c : Nat
  L : List LnA
def tI (s : Squ) (x : TS) : Prop := x.i ≤ s.pl.length ∧ x.L.map (·.fs) = sqLs s x.i ∧ AOK x.a x.L.length ∧ ∀ l, l ∈ x.L → AOK l.a l.fs.length
@[reducible] def wLp (l : List ByteArray) : LoopR := ⟨WS, fun x => [(8, .int .i64 x.i), (3, .pointer (some ⟨x.b, 0, none⟩))], [2, 3], fun x => [⟨x.b, [.int .i64 0, .slice x.a x.i x.c], 40, none⟩, ⟨0, cFw (l.take x.i), 45, some ⟨x.a, x.i, x.c, 3⟩⟩], lI l, fun x => l.length - x.i, [(45, 3)]⟩

def fwt (f : Fld) : Nat := f.text.length + 4
def fsz (fs : List Fld) : Nat := (fs.map fwt).sum
theorem wrF_wt (f : Fld) : (wrF f).length ≤ 2 * f.text.length + 2 := by
  unfold wrF
  split
  · omega
  · have := dbl_length f.text; simp; omega
theorem wrJ_wt (fs : List Fld) : (wrJ fs).length ≤ 2 * fsz fs := by
  cases fs with
  | nil => simp [wrJ]
  | cons f r =>
    have h1 : ∀ r : List Fld, (r.flatMap fun g => 32 :: wrF g).length ≤ 2 * fsz r := by
      intro r
      induction r with
      | nil => simp
      | cons g r ih =>
        have := wrF_wt g
        rw [List.flatMap_cons, List.length_append, List.length_cons]
        unfold fsz at ih ⊢
        rw [List.map_cons, List.sum_cons]
        unfold fwt at ih ⊢
        omega
    have h2 := h1 r
    have h3 := wrF_wt f
    rw [wrJ, List.length_append]
    unfold fsz at h2 ⊢
    rw [List.map_cons, List.sum_cons]
    unfold fwt at h2 ⊢
    omega

theorem li_e {l : List ByteArray} {x : WS} (h : lI l x) (hf : decide ((x.i : Int) < (l.length : Int)) = false) : x.i = l.length := by
  have hf := of_decide_eq_false hf
  have := h.1
  omega
theorem li_s {l : List ByteArray} {x : WS} (h : lI l x) (hf : decide ((x.i : Int) < (l.length : Int)) = true) (b c : Nat) : lI l (nxW h (some ⟨b, 0, none⟩) c) ∧ l.length - (x.i + 1) < l.length - x.i ∧ x.i < l.length := by
  have hf := of_decide_eq_true hf
  exact ⟨⟨by show x.i + 1 ≤ _; omega, aokp _ _⟩, by omega, by omega⟩
theorem wr_k {i : Nat} (h : i ≤ 1000000) : IntKind.i64.wrap ((i : Int) + 1) = (i : Int) + 1 := IntWalk.i64_in _ (by omega)
theorem wr_k2 {i : Nat} (h : i ≤ 1000000) : Value.int IntKind.i64 (IntKind.i64.wrap ((i : Int) + 1)) = Value.int IntKind.i64 ((i + 1 : Nat) : Int) := by rw [wr_k h]; rfl
theorem sqW_eq {s : Squ} {i : Nat} {b1 b2 : Bool} (h1 : (IntKind.i64.wrap ((i : Int) + 1) == s.ca) = b1) (h2 : (IntKind.i64.wrap ((i : Int) + 1) == s.ke) = b2) (hi : i ≤ 1000000) : sqW s i = [PLY, gS s.pl i] ++ (bif b1 then [CAP] else []) ++ (bif b2 then [KEP] else []) := by
  rw [wr_k hi] at h1 h2
  unfold sqW
  subst h1 h2
  congr 1
  · congr 1
    by_cases h : (i : Int) + 1 = s.ca
    · rw [if_pos h, h]; simp
    · rw [if_neg h]; have : (((i : Int) + 1) == s.ca) = false := by simpa using h
      rw [this]; rfl
  · by_cases h : (i : Int) + 1 = s.ke
    · rw [if_pos h, h]; simp
    · rw [if_neg h]; have : (((i : Int) + 1) == s.ke) = false := by simpa using h
      rw [this]; rfl
theorem sqW_er {s : Squ} {i : Nat} {b1 b2 : Bool} (h1 : (s.ca == IntKind.i64.wrap ((i : Int) + 1)) = b1) (h2 : (s.ke == IntKind.i64.wrap ((i : Int) + 1)) = b2) (hi : i ≤ 1000000) : sqW s i = [PLY, gS s.pl i] ++ (bif b1 then [CAP] else []) ++ (bif b2 then [KEP] else []) :=
  sqW_eq (by rw [← h1]; exact Bool.beq_comm ..) (by rw [← h2]; exact Bool.beq_comm ..) hi
theorem sqLs_len (s : Squ) (k : Nat) : (sqLs s k).length = k + 1 := by unfold sqLs; simp
theorem tI_len {s : Squ} {x : TS} (h : tI s x) : x.L.length = x.i + 1 := by
  have := congrArg List.length h.2.1
  rw [List.length_map, sqLs_len] at this
  exact this
theorem tI_b {s : Squ} {x : TS} (h : tI s x) (hl : s.pl.length ≤ 13) : x.L.length ≤ 14 ∧ x.i ≤ 13 := by have := tI_len h; have := h.1; omega
theorem tI_0 (s : Squ) (a a' : Option Addr) (c' : Nat) (h : AOK a' 2) (h1 : AOK a 1) : tI s ⟨0, a, 1, [⟨a', c', [SID, s.nm]⟩]⟩ :=
  ⟨Nat.zero_le _, rfl, h1, fun l hl => by rw [List.mem_singleton] at hl; subst hl; exact h⟩
@[reducible] def nxT {s : Squ} {x : TS} (_ : tI s x) (A : Option Addr) (C : Nat) (a : Option Addr) (c : Nat) (ws : List ByteArray) : TS := ⟨x.i + 1, A, C, x.L ++ [⟨a, c, ws⟩]⟩
theorem tI_s {s : Squ} {x : TS} (h : tI s x) (hf : decide ((x.i : Int) < (s.pl.length : Int)) = true) {ws : List ByteArray} (hw : ws = sqW s x.i) (b C : Nat) {a : Option Addr} {c : Nat} (ha : AOK a ws.length) : tI s (nxT h (some ⟨b, 0, none⟩) C a c ws) := by
  have hf := of_decide_eq_true hf
  refine ⟨by show x.i + 1 ≤ _; omega, ?_, aokp _ _, fun l hm => ?_⟩
  · show (x.L ++ [LnA.mk a c ws]).map (·.fs) = _
    rw [List.map_append, h.2.1, sqLs_s, hw]; rfl
  · rcases List.mem_append.1 hm with hm | hm
    · exact h.2.2.2 l hm
    · rw [List.mem_singleton] at hm; subst hm; exact ha
theorem tI_mu {s : Squ} {x : TS} (hf : decide ((x.i : Int) < (s.pl.length : Int)) = true) : s.pl.length - (x.i + 1) < s.pl.length - x.i := by
  have hf := of_decide_eq_true hf
  omega
theorem slL {a a' : Option Addr} {n n' c c' : Nat} (h1 : a = a') (h2 : n = n') (h3 : c = c') : Value.slice a n c = Value.slice a' n' c' := by rw [h1, h2, h3]
theorem owL {a a' : Option Addr} {n n' c c' s : Nat} (h1 : a = a') (h2 : n = n') (h3 : c = c') : some (Ow.mk a n c s) = some (Ow.mk a' n' c' s) := by rw [h1, h2, h3]
theorem sqW_sz {s : Squ} {i : Nat} (hi : i < s.pl.length) (hp : ∀ x ∈ s.pl, x.size ≤ 20) : (sqW s i).length ≤ 4 ∧ ∀ w ∈ sqW s i, w.size ≤ 20 := by
  have hg : (gS s.pl i).size ≤ 20 := by
    unfold gS
    rw [List.getD_eq_getElem?_getD, List.getElem?_eq_getElem hi]
    exact hp _ (List.getElem_mem hi)
  unfold sqW
  constructor
  · (repeat' split) <;> simp
  · intro w hw
    simp only [List.mem_append, List.mem_cons, List.not_mem_nil, or_false] at hw
    rcases hw with (h | h) | h
    · rcases h with rfl | rfl
      · decide
      · exact hg
    · split at h
      · rw [List.mem_singleton] at h; subst h; decide
      · cases h
    · split at h
      · rw [List.mem_singleton] at h; subst h; decide
      · cases h
theorem sqLs_sz {s : Squ} {k : Nat} (hk : k ≤ s.pl.length) (hn : s.nm.size ≤ 20) (hp : ∀ x ∈ s.pl, x.size ≤ 20) : ∀ ws ∈ sqLs s k, ws.length ≤ 4 ∧ ∀ w ∈ ws, w.size ≤ 20 := by
  intro ws hw
  rcases List.mem_cons.1 hw with rfl | hw
  · refine ⟨by simp, fun w hw => ?_⟩
    simp only [List.mem_cons, List.not_mem_nil, or_false] at hw
    rcases hw with rfl | rfl
    · decide
    · exact hn
  · obtain ⟨i, hi, rfl⟩ := List.mem_map.1 hw
    rw [List.mem_range] at hi
    exact sqW_sz (by omega) hp
theorem fsz_le (ws : List ByteArray) (h : ∀ w ∈ ws, w.size ≤ 20) : fsz (ws.map fB) ≤ 24 * ws.length := by
  induction ws with
  | nil => simp [fsz]
  | cons w ws ih =>
    have h1 := ih fun x hx => h x (List.mem_cons_of_mem _ hx)
    have h2 := h w (List.mem_cons_self ..)
    have h3 : w.data.toList.length = w.size := Array.length_toList
    unfold fsz at h1 ⊢
    rw [List.map_cons, List.map_cons, List.sum_cons, List.length_cons]
    show w.data.toList.length + 4 + _ ≤ _
    omega
theorem wrA_le : ∀ (W : List (List ByteArray)), (∀ ws ∈ W, ws.length ≤ 4 ∧ ∀ w ∈ ws, w.size ≤ 20) → (wrA (W.map fun ws => ⟨0, ws.map fB⟩)).length ≤ 200 * W.length := by
  intro W h
  induction W with
  | nil => simp [wrA]
  | cons ws W ih =>
    have h1 := ih fun x hx => h x (List.mem_cons_of_mem _ hx)
    have h2 := h ws (List.mem_cons_self ..)
    have h3 := fsz_le ws h2.2
    have h4 := wrJ_wt (ws.map fB)
    unfold wrA at h1 ⊢
    rw [List.map_cons, List.flatMap_cons, List.length_append, List.length_cons]
    have hl : (wrL ⟨0, ws.map fB⟩).length ≤ (wrJ (ws.map fB)).length + 1 := by unfold wrL; rw [List.length_append]; split <;> simp
    omega
theorem tI_fine {s : Squ} {x : TS} (h : tI s x) (hl : s.pl.length ≤ 13) (hn : s.nm.size ≤ 20) (hp : ∀ x ∈ s.pl, x.size ≤ 20) : Fine (lnL x.L) := by
  have hb := tI_b h hl
  have hz := sqLs_sz h.1 hn hp
  have hA := wrA_le _ hz
  rw [lnL_of h.2.1]
  rw [sqLs_len] at hA
  refine ⟨by rw [List.length_map, sqLs_len]; omega, by omega, fun y hy => ?_, fun y hy f hf => ?_⟩
  · obtain ⟨ws, hw, rfl⟩ := List.mem_map.1 hy
    show (ws.map fB).length ≤ _
    rw [List.length_map]
    have := (hz ws hw).1
    omega
  · obtain ⟨ws, hw, rfl⟩ := List.mem_map.1 hy
    obtain ⟨w, hw2, rfl⟩ := List.mem_map.1 hf
    have := (hz ws hw).2 w hw2
    show w.data.toList.length < _
    have h3 : w.data.toList.length = w.size := Array.length_toList
    omega
theorem tx_no {s : Squ} (h : (sqk s != 0) = true) : (⟨#[]⟩ : ByteArray) = txE s := by unfold txE; rw [if_neg (by simpa using h)]
theorem tx_ok {s : Squ} (h : (sqk s != 0) = false) {x : TS} (hx : tI s x) (hf : decide ((x.i : Int) < (s.pl.length : Int)) = false) : Value.tuple #[.string (wtS x.L), .int .i64 0] = Value.tuple #[.string (txE s), .int .i64 (sqk s)] := by
  have hf := of_decide_eq_false hf
  have h0 : sqk s = 0 := by simpa using h
  have e : x.i = s.pl.length := by have := hx.1; omega
  unfold txE wtS txS
  rw [if_pos h0, h0, lnL_of hx.2.1, e]

def wln_h (a : Option Addr) (c : Nat) (l : List ByteArray) : Hint := .pl (.inv (wLp l) fun x0 ↦ .split (.ix (.lst (0 : Nat) (Int.toNat (↑(WS.i x0) : Int) * (1 : Nat)) (Value.string (gS l (Int.toNat (↑(WS.i x0) : Int)))) (.ob 2 (.app (3 : Nat) (4 : Nat) (.ob 2 (.perm [2, 3] .nil)))))) (ho 2 2 (ho 1 4 (.perm [3] .nil))))
theorem wln_x (a : Option Addr) (c : Nat) (l : List ByteArray) : wpG Tryd.prog [] ([(a, cS l)]) 400 13 [.slice a l.length c] (wln_h a c l) ([⟨45, 3, l.length, cFw l⟩]) (fun ads => .agg #[.int .i64 0, .slice (nthA ads 0).1 l.length (nthA ads 0).2]) = (∀ (b b_1 : Nat), (∃ x, lI l x /\ Value.int .i64 0 = Value.int .i64 (↑(WS.i x) : Int) /\ Value.pointer (some (Addr.mk b_1 (0 : Nat) none)) = Value.pointer (some (Addr.mk (WS.b x) (0 : Nat) none)) /\ (b_1 = WS.b x /\ [Value.int .i64 0, .slice none (0 : Nat) (0 : Nat)] = [Value.int .i64 0, .slice (WS.a
 x) (WS.i x) (WS.c x)] /\ (40 : Nat) = (40 : Nat) /\ noOw = noOw) /\ ((0 : Nat) = (0 : Nat) /\ [] = cFw (List.take (WS.i x) l) /\ (45 : Nat) = (45 : Nat) /\ some (Ow.mk none (0 : Nat) (0 : Nat) (3 : Nat)) = some (Ow.mk (WS.a x) (WS.i x) (WS.c x) (3 : Nat))) /\ True) /\ ∀ (x0 : WS), lI l x0 -> ∀ (junk
 : Nat -> Value), (decide ((↑(WS.i x0) : Int) < (↑(List.length l) : Int)) = true -> (((0 : Int) ≤ (↑(WS.i x0) : Int) /\ (↑(WS.i x0) : Int) < (↑(List.length l) : Int)) /\ AOK a (List.length l)) /\ bk a = bk a /\ ofs a + Int.toNat (↑(WS.i x0) : Int) * (1 : Nat) = ofs a + Int.toNat (↑(WS.i x0) : Int) *
 (1 : Nat) /\ lgo (cS l) (Int.toNat (↑(WS.i x0) : Int) * (1 : Nat)) = some (Value.string (gS l (Int.toNat (↑(WS.i x0) : Int)))) /\ WS.b x0 = WS.b x0 /\ ∀ (b : Nat), WS.a x0 = WS.a x0 /\ WS.i x0 = WS.i x0 /\ WS.c x0 = WS.c x0 /\ b = b /\ (WS.i x0 + (1 : Nat)) * (33 : Nat) ≤ (140737488355328 : Nat) /\
 ∀ (g cap : Nat), WS.b x0 = WS.b x0 /\ True /\ ∃ y, lI l y /\ List.length l - WS.i y < List.length l - WS.i x0 /\ Value.int .i64 (IntKind.i64.wrap ((↑(WS.i x0) : Int) + (1 : Int))) = Value.int .i64 (↑(WS.i y) : Int) /\ Value.pointer (some (Addr.mk (WS.b x0) (0 : Nat) none)) = Value.pointer (some
 (Addr.mk (WS.b y) (0 : Nat) none)) /\ (WS.b x0 = WS.b y /\ [Value.int .i64 0, .slice (some (Addr.mk g (0 : Nat) none)) (WS.i x0 + (1 : Nat)) cap] = [Value.int .i64 0, .slice (WS.a y) (WS.i y) (WS.c y)] /\ (40 : Nat) = (40 : Nat) /\ noOw = noOw) /\ ((0 : Nat) = (0 : Nat) /\ lapp (cFw (List.take (WS.i
 x0) l)) [Value.string (gS l (Int.toNat (↑(WS.i x0) : Int))), .int .i64 0, .bool false] = cFw (List.take (WS.i y) l) /\ (45 : Nat) = (45 : Nat) /\ some (Ow.mk (some (Addr.mk g (0 : Nat) none)) (WS.i x0 + (1 : Nat)) cap (3 : Nat)) = some (Ow.mk (WS.a y) (WS.i y) (WS.c y) (3 : Nat))) /\ True) /\
 (decide ((↑(WS.i x0) : Int) < (↑(List.length l) : Int)) = false -> WS.b x0 = WS.b x0 /\ WS.b x0 = WS.b x0 /\ b = b /\ True /\ b = b /\ True /\ b = b /\ b = b /\ (45 : Nat) = (45 : Nat) /\ (3 : Nat) = (3 : Nat) /\ WS.i x0 = List.length l /\ cFw (List.take (WS.i x0) l) = cFw l /\ Value.agg (Array.mk
 [.int .i64 0, .slice (WS.a x0) (WS.i x0) (WS.c x0)]) = Value.agg (Array.mk [.int .i64 0, .slice (WS.a x0) (List.length l) (WS.c x0)]))) := by kernel_rfl
set_option maxHeartbeats 4000000 in
theorem wln_sp (a : Option Addr) (c : Nat) (l : List ByteArray) (hA : AOK a l.length) (hl : l.length ≤ 1000) : SpecG Tryd.prog [] ([(a, cS l)]) 13 #[.slice a l.length c] ([⟨45, 3, l.length, cFw l⟩]) (fun ads => .agg #[.int .i64 0, .slice (nthA ads 0).1 l.length (nthA ads 0).2]) := by
  refine specG_of (h := wln_h a c l) (?_ : wpG Tryd.prog [] ([(a, cS l)]) 400 13 [.slice a l.length c] (wln_h a c l) ([⟨45, 3, l.length, cFw l⟩]) (fun ads => .agg #[.int .i64 0, .slice (nthA ads 0).1 l.length (nthA ads 0).2]))
  rw [wln_x]
  (repeat' (first | with_reducible exact rfl | exact trivial | with_reducible assumption | exact cU_len _ | exact cI_len _ | exact cB_len _ | exact cU_one _ | exact cI_one _ | exact cB_one _ | exact (fun _ h => h) | exact (fun _ h => (List.not_mem_nil h).elim) | exact cS_len _ | exact cS_one _ | (with_reducible refine e1_in ?_) | (with_reducible refine e2_in ?_) | (with_reducible refine lx_in (Nat.le_of_ble_eq_true rfl) ?_) | (with_reducible refine rqx_rf ?_) | (with_reducible refine rqx_in ?_ ?_ ?_) | (with_reducible apply And.intro) | (with_reducible intro _)))
  all_goals (try (exact ⟨⟨0, _, none, 0⟩, ⟨Nat.zero_le _, aokz⟩, rfl, rfl, ⟨rfl, rfl, rfl, rfl⟩, ⟨rfl, rfl, rfl, rfl⟩, trivial⟩))
  all_goals (try (have hx := ‹lI l _›; have hs := (li_s hx ‹_› 0 0).2.2; have hx1 := hx.1; first | exact ⟨nxW hx _ _, (li_s hx ‹_› _ _).1, (li_s hx ‹_› 0 0).2.1, wr_k2 (by omega), rfl, ⟨rfl, rfl, rfl, rfl⟩, ⟨rfl, wl_app hs, rfl, rfl⟩, trivial⟩ | omega | (simp only [Int.toNat_natCast]; first | omega | (refine cS_get ?_; omega))))
  all_goals (try (first | exact li_e ‹lI l _› ‹_› | (rw [li_e ‹lI l _› ‹_›, List.take_length]; done) | (rw [li_e ‹lI l _› ‹_›]; done)))
  

theorem extOK_up {E : List Ex} {w0 w : World} (h : ExtOK E w0) (hb : Below w0.heap.size w0 w) : ExtOK E w := MRep.extOK (w0 := bs0 w0) (os := []) ⟨hb, (fun i o ho => by simp at ho), (fun i j o p k ho => by simp at ho), h, ⟨hb.size, fun k hk _ => hb.block k hk⟩, (fun i o k ho => by simp at ho)⟩
theorem wr_c (A : Option Addr) (c : Nat) (L : List LnA) (hA : AOK A L.length) (hl : ∀ l, l ∈ L → AOK l.a l.fs.length) (hf : Fine (lnL L)) : SpecC Tryd.prog rE [(A, cLn L)] [famG 45 3 false (frW L)] [] 14 #[.slice A L.length c] Un (fun x => x = Un.un) (fun _ => []) (fun _ => .string (wtS L)) := by
  intro w0 w hb hE hrd hgs hin hap hsep
  have hg := hgs _ (List.mem_singleton.2 rfl)
  have hL : RdL w (.slice A L.length c) (lnL L) := rdL_of hA (hrd _ _ (List.mem_singleton.2 rfl)) fun l hm => ⟨hl l hm, by
    obtain ⟨m, hm2⟩ := List.mem_iff_getElem?.1 hm
    exact famG_at (m := m) (r := ⟨l.a, l.fs.length, l.c, cFw l.fs⟩) (by rw [frW, List.getElem?_map, hm2]; rfl) hg⟩
  refine (write_any (lnL L) _ w hL hf (rE_env (extOK_up hE hb))).mono fun e w' ⟨he, hb2⟩ => ?_
  exact ⟨Un.un, rfl, he, hb.trans (hb2.mono hb.size), ⟨hb2.size, fun k hk _ => hb2.block k hk⟩, (fun o h => by cases h), (fun i j o p k h => by simp at h)⟩
theorem rwr_c (A : Option Addr) (c : Nat) (L : List LnA) (hA : AOK A L.length) (hl : ∀ l, l ∈ L → AOK l.a l.fs.length) (hf : Fine (lnL L)) : SpecC Tryd.prog [] [(A, cLn L)] [famG 45 3 false (frW L)] [] 16 #[.slice A L.length c] Un (fun x => x = Un.un) (fun _ => []) (fun _ => .string (wtS L)) := by
  intro w0 w hb hE hrd hgs hin hap hsep
  have hg := hgs _ (List.mem_singleton.2 rfl)
  have hL : RdL w (.slice A L.length c) (lnL L) := rdL_of hA (hrd _ _ (List.mem_singleton.2 rfl)) fun l hm => ⟨hl l hm, by
    obtain ⟨m, hm2⟩ := List.mem_iff_getElem?.1 hm
    exact famG_at (m := m) (r := ⟨l.a, l.fs.length, l.c, cFw l.fs⟩) (by rw [frW, List.getElem?_map, hm2]; rfl) hg⟩
  refine (rwrite_any (lnL L) _ w hL hf).mono fun e w' ⟨he, hb2⟩ => ?_
  exact ⟨Un.un, rfl, he, hb.trans (hb2.mono hb.size), ⟨hb2.size, fun k hk _ => hb2.block k hk⟩, (fun o h => by cases h), (fun i j o p k h => by simp at h)⟩
@[reducible] def pLp (s : Squ) : LoopR := ⟨TS, fun x => [(22, .int .i64 x.i), (5, .slice x.a x.L.length x.c)], [4, 5], fun x => [⟨0, cLn x.L, 40, some ⟨x.a, x.L.length, x.c, 2⟩⟩, ghOb 0 (famG 45 3 true (frW x.L))], tI s, fun x => s.pl.length - x.i, []⟩
@[reducible] def qLp (s : Squ) : LoopR := ⟨TS, fun x => [(24, .int .i64 x.i), (5, .slice x.a x.L.length x.c)], [3, 4], fun x => [⟨0, cLn x.L, 40, some ⟨x.a, x.L.length, x.c, 2⟩⟩, ghOb 0 (famG 45 3 true (frW x.L))], tI s, fun x => s.pl.length - x.i, []⟩

def ptx_h (s : Squ) (B : RAd) : Hint := ho 1 4 (.specg [] [0] [cS (Squ.pl s)] [] (fun ads0 x ↦ Value.int .i64 (sqk s)) (.pl (.split (.perm [] .nil) (.ob 1 (.specg [] [2] [cS [ByteArray.mk (Array.mk [(83 : UInt8), (73 : UInt8), (68 : UInt8), (69 : UInt8)]), Squ.nm s]] [RowT.mk (45 : TypeId) (3 : Nat) (List.length [ByteArray.mk (Array.mk
 [(83 : UInt8), (73 : UInt8), (68 : UInt8), (69 : UInt8)]), Squ.nm s]) (cFw [ByteArray.mk (Array.mk [(83 : UInt8), (73 : UInt8), (68 : UInt8), (69 : UInt8)]), Squ.nm s])] (fun ads0 ads ↦ Value.agg #[Value.int .i64 0, .slice (Prod.fst (nthA ads (0 : Nat))) (List.length [ByteArray.mk (Array.mk [(83 :
 UInt8), (73 : UInt8), (68 : UInt8), (69 : UInt8)]), Squ.nm s]) (Prod.snd (nthA ads (0 : Nat)))]) (.ob 1 (.pl (.invg (pLp s) (.osf fun l ↦ .gho [3] (ghOb (0 : Nat) (famG (45 : Nat) (3 : Nat) true [FR.mk (Prod.fst (nthO l (3 : Nat))) (List.length [ByteArray.mk (Array.mk [(83 : UInt8), (73 : UInt8),
 (68 : UInt8), (69 : UInt8)]), Squ.nm s]) (Prod.snd (nthO l (3 : Nat))) (cFw [ByteArray.mk (Array.mk [(83 : UInt8), (73 : UInt8), (68 : UInt8), (69 : UInt8)]), Squ.nm s])])) .nil) fun x0 ↦ .split (.ix (.lst (0 : Nat) (Int.toNat (↑(TS.i x0) : Int) * (1 : Nat)) (Value.string (gS (Squ.pl s) (Int.toNat
 (↑(TS.i x0) : Int)))) (.ob 1 (.pl (.split (.appe (6 : Nat) (7 : Nat) (.ob 1 (.pl (.split (.app (6 : Nat) (8 : Nat) (.specg [] [6] [cS [ByteArray.mk (Array.mk [(80 : UInt8), (76 : UInt8), (65 : UInt8), (89 : UInt8), (69 : UInt8), (82 : UInt8)]), gS (Squ.pl s) (Int.toNat (↑(TS.i x0) : Int)),
 ByteArray.mk (Array.mk [(67 : UInt8), (65 : UInt8), (80 : UInt8), (84 : UInt8), (65 : UInt8), (73 : UInt8), (78 : UInt8)]), ByteArray.mk (Array.mk [(75 : UInt8), (69 : UInt8), (69 : UInt8), (80 : UInt8), (69 : UInt8), (82 : UInt8)])]] [RowT.mk (45 : TypeId) (3 : Nat) (List.length [ByteArray.mk
 (Array.mk [(80 : UInt8), (76 : UInt8), (65 : UInt8), (89 : UInt8), (69 : UInt8), (82 : UInt8)]), gS (Squ.pl s) (Int.toNat (↑(TS.i x0) : Int)), ByteArray.mk (Array.mk [(67 : UInt8), (65 : UInt8), (80 : UInt8), (84 : UInt8), (65 : UInt8), (73 : UInt8), (78 : UInt8)]), ByteArray.mk (Array.mk [(75 :
 UInt8), (69 : UInt8), (69 : UInt8), (80 : UInt8), (69 : UInt8), (82 : UInt8)])]) (cFw [ByteArray.mk (Array.mk [(80 : UInt8), (76 : UInt8), (65 : UInt8), (89 : UInt8), (69 : UInt8), (82 : UInt8)]), gS (Squ.pl s) (Int.toNat (↑(TS.i x0) : Int)), ByteArray.mk (Array.mk [(67 : UInt8), (65 : UInt8), (80 :
 UInt8), (84 : UInt8), (65 : UInt8), (73 : UInt8), (78 : UInt8)]), ByteArray.mk (Array.mk [(75 : UInt8), (69 : UInt8), (69 : UInt8), (80 : UInt8), (69 : UInt8), (82 : UInt8)])])] (fun ads0 ads ↦ Value.agg #[Value.int .i64 0, .slice (Prod.fst (nthA ads (0 : Nat))) (List.length [ByteArray.mk (Array.mk
 [(80 : UInt8), (76 : UInt8), (65 : UInt8), (89 : UInt8), (69 : UInt8), (82 : UInt8)]), gS (Squ.pl s) (Int.toNat (↑(TS.i x0) : Int)), ByteArray.mk (Array.mk [(67 : UInt8), (65 : UInt8), (80 : UInt8), (84 : UInt8), (65 : UInt8), (73 : UInt8), (78 : UInt8)]), ByteArray.mk (Array.mk [(75 : UInt8), (69 :
 UInt8), (69 : UInt8), (80 : UInt8), (69 : UInt8), (82 : UInt8)])]) (Prod.snd (nthA ads (0 : Nat)))]) (.app (4 : Nat) (10 : Nat) (.osf fun l ↦ .gho [5, 9] (ghOb (0 : Nat) (famG (45 : Nat) (3 : Nat) true (frW (TS.L x0) ++ [FR.mk (Prod.fst (nthO l (9 : Nat))) (List.length [ByteArray.mk (Array.mk [(80 :
 UInt8), (76 : UInt8), (65 : UInt8), (89 : UInt8), (69 : UInt8), (82 : UInt8)]), gS (Squ.pl s) (Int.toNat (↑(TS.i x0) : Int)), ByteArray.mk (Array.mk [(67 : UInt8), (65 : UInt8), (80 : UInt8), (84 : UInt8), (65 : UInt8), (73 : UInt8), (78 : UInt8)]), ByteArray.mk (Array.mk [(75 : UInt8), (69 :
 UInt8), (69 : UInt8), (80 : UInt8), (69 : UInt8), (82 : UInt8)])]) (Prod.snd (nthO l (9 : Nat))) (cFw [ByteArray.mk (Array.mk [(80 : UInt8), (76 : UInt8), (65 : UInt8), (89 : UInt8), (69 : UInt8), (82 : UInt8)]), gS (Squ.pl s) (Int.toNat (↑(TS.i x0) : Int)), ByteArray.mk (Array.mk [(67 : UInt8), (65
 : UInt8), (80 : UInt8), (84 : UInt8), (65 : UInt8), (73 : UInt8), (78 : UInt8)]), ByteArray.mk (Array.mk [(75 : UInt8), (69 : UInt8), (69 : UInt8), (80 : UInt8), (69 : UInt8), (82 : UInt8)])])]))) (.perm [4, 11] .nil))))) (.specg [] [6] [cS [ByteArray.mk (Array.mk [(80 : UInt8), (76 : UInt8), (65 :
 UInt8), (89 : UInt8), (69 : UInt8), (82 : UInt8)]), gS (Squ.pl s) (Int.toNat (↑(TS.i x0) : Int)), ByteArray.mk (Array.mk [(67 : UInt8), (65 : UInt8), (80 : UInt8), (84 : UInt8), (65 : UInt8), (73 : UInt8), (78 : UInt8)])]] [RowT.mk (45 : TypeId) (3 : Nat) (List.length [ByteArray.mk (Array.mk [(80 :
 UInt8), (76 : UInt8), (65 : UInt8), (89 : UInt8), (69 : UInt8), (82 : UInt8)]), gS (Squ.pl s) (Int.toNat (↑(TS.i x0) : Int)), ByteArray.mk (Array.mk [(67 : UInt8), (65 : UInt8), (80 : UInt8), (84 : UInt8), (65 : UInt8), (73 : UInt8), (78 : UInt8)])]) (cFw [ByteArray.mk (Array.mk [(80 : UInt8), (76 :
 UInt8), (65 : UInt8), (89 : UInt8), (69 : UInt8), (82 : UInt8)]), gS (Squ.pl s) (Int.toNat (↑(TS.i x0) : Int)), ByteArray.mk (Array.mk [(67 : UInt8), (65 : UInt8), (80 : UInt8), (84 : UInt8), (65 : UInt8), (73 : UInt8), (78 : UInt8)])])] (fun ads0 ads ↦ Value.agg #[Value.int .i64 0, .slice (Prod.fst
 (nthA ads (0 : Nat))) (List.length [ByteArray.mk (Array.mk [(80 : UInt8), (76 : UInt8), (65 : UInt8), (89 : UInt8), (69 : UInt8), (82 : UInt8)]), gS (Squ.pl s) (Int.toNat (↑(TS.i x0) : Int)), ByteArray.mk (Array.mk [(67 : UInt8), (65 : UInt8), (80 : UInt8), (84 : UInt8), (65 : UInt8), (73 : UInt8),
 (78 : UInt8)])]) (Prod.snd (nthA ads (0 : Nat)))]) (.app (4 : Nat) (9 : Nat) (.osf fun l ↦ .gho [5, 8] (ghOb (0 : Nat) (famG (45 : Nat) (3 : Nat) true (frW (TS.L x0) ++ [FR.mk (Prod.fst (nthO l (8 : Nat))) (List.length [ByteArray.mk (Array.mk [(80 : UInt8), (76 : UInt8), (65 : UInt8), (89 : UInt8),
 (69 : UInt8), (82 : UInt8)]), gS (Squ.pl s) (Int.toNat (↑(TS.i x0) : Int)), ByteArray.mk (Array.mk [(67 : UInt8), (65 : UInt8), (80 : UInt8), (84 : UInt8), (65 : UInt8), (73 : UInt8), (78 : UInt8)])]) (Prod.snd (nthO l (8 : Nat))) (cFw [ByteArray.mk (Array.mk [(80 : UInt8), (76 : UInt8), (65 :
 UInt8), (89 : UInt8), (69 : UInt8), (82 : UInt8)]), gS (Squ.pl s) (Int.toNat (↑(TS.i x0) : Int)), ByteArray.mk (Array.mk [(67 : UInt8), (65 : UInt8), (80 : UInt8), (84 : UInt8), (65 : UInt8), (73 : UInt8), (78 : UInt8)])])]))) (.perm [4, 10] .nil)))))))) (.ob 1 (.pl (.split (.appe (6 : Nat) (7 :
 Nat) (.specg [] [6] [cS [ByteArray.mk (Array.mk [(80 : UInt8), (76 : UInt8), (65 : UInt8), (89 : UInt8), (69 : UInt8), (82 : UInt8)]), gS (Squ.pl s) (Int.toNat (↑(TS.i x0) : Int)), ByteArray.mk (Array.mk [(75 : UInt8), (69 : UInt8), (69 : UInt8), (80 : UInt8), (69 : UInt8), (82 : UInt8)])]] [RowT.mk
 (45 : TypeId) (3 : Nat) (List.length [ByteArray.mk (Array.mk [(80 : UInt8), (76 : UInt8), (65 : UInt8), (89 : UInt8), (69 : UInt8), (82 : UInt8)]), gS (Squ.pl s) (Int.toNat (↑(TS.i x0) : Int)), ByteArray.mk (Array.mk [(75 : UInt8), (69 : UInt8), (69 : UInt8), (80 : UInt8), (69 : UInt8), (82 :
 UInt8)])]) (cFw [ByteArray.mk (Array.mk [(80 : UInt8), (76 : UInt8), (65 : UInt8), (89 : UInt8), (69 : UInt8), (82 : UInt8)]), gS (Squ.pl s) (Int.toNat (↑(TS.i x0) : Int)), ByteArray.mk (Array.mk [(75 : UInt8), (69 : UInt8), (69 : UInt8), (80 : UInt8), (69 : UInt8), (82 : UInt8)])])] (fun ads0 ads ↦
 Value.agg #[Value.int .i64 0, .slice (Prod.fst (nthA ads (0 : Nat))) (List.length [ByteArray.mk (Array.mk [(80 : UInt8), (76 : UInt8), (65 : UInt8), (89 : UInt8), (69 : UInt8), (82 : UInt8)]), gS (Squ.pl s) (Int.toNat (↑(TS.i x0) : Int)), ByteArray.mk (Array.mk [(75 : UInt8), (69 : UInt8), (69 :
 UInt8), (80 : UInt8), (69 : UInt8), (82 : UInt8)])]) (Prod.snd (nthA ads (0 : Nat)))]) (.app (4 : Nat) (9 : Nat) (.osf fun l ↦ .gho [5, 8] (ghOb (0 : Nat) (famG (45 : Nat) (3 : Nat) true (frW (TS.L x0) ++ [FR.mk (Prod.fst (nthO l (8 : Nat))) (List.length [ByteArray.mk (Array.mk [(80 : UInt8), (76 :
 UInt8), (65 : UInt8), (89 : UInt8), (69 : UInt8), (82 : UInt8)]), gS (Squ.pl s) (Int.toNat (↑(TS.i x0) : Int)), ByteArray.mk (Array.mk [(75 : UInt8), (69 : UInt8), (69 : UInt8), (80 : UInt8), (69 : UInt8), (82 : UInt8)])]) (Prod.snd (nthO l (8 : Nat))) (cFw [ByteArray.mk (Array.mk [(80 : UInt8), (76
 : UInt8), (65 : UInt8), (89 : UInt8), (69 : UInt8), (82 : UInt8)]), gS (Squ.pl s) (Int.toNat (↑(TS.i x0) : Int)), ByteArray.mk (Array.mk [(75 : UInt8), (69 : UInt8), (69 : UInt8), (80 : UInt8), (69 : UInt8), (82 : UInt8)])])]))) (.perm [4, 10] .nil))))) (.specg [] [6] [cS [ByteArray.mk (Array.mk
 [(80 : UInt8), (76 : UInt8), (65 : UInt8), (89 : UInt8), (69 : UInt8), (82 : UInt8)]), gS (Squ.pl s) (Int.toNat (↑(TS.i x0) : Int))]] [RowT.mk (45 : TypeId) (3 : Nat) (List.length [ByteArray.mk (Array.mk [(80 : UInt8), (76 : UInt8), (65 : UInt8), (89 : UInt8), (69 : UInt8), (82 : UInt8)]), gS
 (Squ.pl s) (Int.toNat (↑(TS.i x0) : Int))]) (cFw [ByteArray.mk (Array.mk [(80 : UInt8), (76 : UInt8), (65 : UInt8), (89 : UInt8), (69 : UInt8), (82 : UInt8)]), gS (Squ.pl s) (Int.toNat (↑(TS.i x0) : Int))])] (fun ads0 ads ↦ Value.agg #[Value.int .i64 0, .slice (Prod.fst (nthA ads (0 : Nat)))
 (List.length [ByteArray.mk (Array.mk [(80 : UInt8), (76 : UInt8), (65 : UInt8), (89 : UInt8), (69 : UInt8), (82 : UInt8)]), gS (Squ.pl s) (Int.toNat (↑(TS.i x0) : Int))]) (Prod.snd (nthA ads (0 : Nat)))]) (.app (4 : Nat) (8 : Nat) (.osf fun l ↦ .gho [5, 7] (ghOb (0 : Nat) (famG (45 : Nat) (3 : Nat)
 true (frW (TS.L x0) ++ [FR.mk (Prod.fst (nthO l (7 : Nat))) (List.length [ByteArray.mk (Array.mk [(80 : UInt8), (76 : UInt8), (65 : UInt8), (89 : UInt8), (69 : UInt8), (82 : UInt8)]), gS (Squ.pl s) (Int.toNat (↑(TS.i x0) : Int))]) (Prod.snd (nthO l (7 : Nat))) (cFw [ByteArray.mk (Array.mk [(80 :
 UInt8), (76 : UInt8), (65 : UInt8), (89 : UInt8), (69 : UInt8), (82 : UInt8)]), gS (Squ.pl s) (Int.toNat (↑(TS.i x0) : Int))])]))) (.perm [4, 9] .nil)))))))))))) (.specc rE [(TS.a x0, cLn (TS.L x0))] [famG (45 : TypeId) (3 : Nat) false (frW (TS.L x0))] [] Un (fun x ↦ x = Un.un) (fun x ↦ []) (fun x ↦
 Value.string (wtS (TS.L x0))) [4] [5] [] fun x_7346 ↦ .perm [] .nil)))))))))
theorem ptx_x (s : Squ) (B : RAd) : wpG Tryd.prog rE ([(B.a, cS s.pl)]) 400 6 [sqV s B] (ptx_h s B) ([]) (fun _ => .tuple #[.string (txE s), .int .i64 (sqk s)]) = (∀ (b : Nat), e1 b 4 (cS (Squ.pl s) = cS (Squ.pl s) /\ (SpecG Tryd.prog [] [(RAd.a B, cS (Squ.pl s))] (12 : FuncId) #[sqV s B] [] fun x ↦ Value.int .i64 (sqk s)) /\ (∀ (e : Ex), e ∈ [] -> e ∈ rE) /\ ((sqk s != 0) = true -> Value.tuple (Array.mk [.string (ByteArray.mk (Array.mk [])), .int .i64 (sqk s)])
 = Value.tuple (Array.mk [.string (txE s), .int .i64 (sqk s)])) /\ ((sqk s != 0) = false -> b = b /\ ∀ (b_1 : Nat), [Value.string (ByteArray.mk (Array.mk [(83 : UInt8), (73 : UInt8), (68 : UInt8), (69 : UInt8)])), .string (Squ.nm s)] = cS [ByteArray.mk (Array.mk [(83 : UInt8), (73 : UInt8), (68 :
 UInt8), (69 : UInt8)]), Squ.nm s] /\ (SpecG Tryd.prog [] [(some (Addr.mk b_1 (0 : Nat) none), cS [ByteArray.mk (Array.mk [(83 : UInt8), (73 : UInt8), (68 : UInt8), (69 : UInt8)]), Squ.nm s])] (13 : FuncId) #[Value.slice (some (Addr.mk b_1 (0 : Nat) none)) (List.length [ByteArray.mk (Array.mk [(83 :
 UInt8), (73 : UInt8), (68 : UInt8), (69 : UInt8)]), Squ.nm s]) (2 : Nat)] [RowT.mk (45 : TypeId) (3 : Nat) (List.length [ByteArray.mk (Array.mk [(83 : UInt8), (73 : UInt8), (68 : UInt8), (69 : UInt8)]), Squ.nm s]) (cFw [ByteArray.mk (Array.mk [(83 : UInt8), (73 : UInt8), (68 : UInt8), (69 :
 UInt8)]), Squ.nm s])] fun ads ↦ Value.agg #[Value.int .i64 0, .slice (Prod.fst (nthA ads (0 : Nat))) (List.length [ByteArray.mk (Array.mk [(83 : UInt8), (73 : UInt8), (68 : UInt8), (69 : UInt8)]), Squ.nm s]) (Prod.snd (nthA ads (0 : Nat)))]) /\ (∀ (e : Ex), e ∈ [] -> e ∈ rE) /\ ∀ (a : Option Addr)
 (cap : Nat), AOK a (List.length [ByteArray.mk (Array.mk [(83 : UInt8), (73 : UInt8), (68 : UInt8), (69 : UInt8)]), Squ.nm s]) -> List.length [ByteArray.mk (Array.mk [(83 : UInt8), (73 : UInt8), (68 : UInt8), (69 : UInt8)]), Squ.nm s] ≤ cap -> ∀ (b_2 : Nat), b = b /\ AbsP [Ob.mk (0 : Nat) (cFw
 [ByteArray.mk (Array.mk [(83 : UInt8), (73 : UInt8), (68 : UInt8), (69 : UInt8)]), Squ.nm s]) (45 : Nat) (some (Ow.mk a (List.length [ByteArray.mk (Array.mk [(83 : UInt8), (73 : UInt8), (68 : UInt8), (69 : UInt8)]), Squ.nm s]) cap (3 : Nat)))] (ghOb (0 : Nat) (famG (45 : Nat) (3 : Nat) true [FR.mk a
 (List.length [ByteArray.mk (Array.mk [(83 : UInt8), (73 : UInt8), (68 : UInt8), (69 : UInt8)]), Squ.nm s]) cap (cFw [ByteArray.mk (Array.mk [(83 : UInt8), (73 : UInt8), (68 : UInt8), (69 : UInt8)]), Squ.nm s])])) /\ (∃ x, tI s x /\ Value.int .i64 0 = Value.int .i64 (↑(TS.i x) : Int) /\ Value.slice
 (some (Addr.mk b_2 (0 : Nat) none)) (1 : Nat) (1 : Nat) = Value.slice (TS.a x) (List.length (TS.L x)) (TS.c x) /\ ((40 : Nat) = (40 : Nat) /\ [Value.int .i64 0, .slice a (List.length [ByteArray.mk (Array.mk [(83 : UInt8), (73 : UInt8), (68 : UInt8), (69 : UInt8)]), Squ.nm s]) cap] = cLn (TS.L x) /\
 List.length (cLn (TS.L x)) = List.length (TS.L x) * (2 : Nat) /\ TS.c x = List.length (TS.L x) /\ List.length (TS.L x) ≤ (1048576 : Nat) /\ TS.a x = some (Addr.mk b_2 (0 : Nat) none)) /\ (famG (45 : Nat) (3 : Nat) true [FR.mk a (List.length [ByteArray.mk (Array.mk [(83 : UInt8), (73 : UInt8), (68 :
 UInt8), (69 : UInt8)]), Squ.nm s]) cap (cFw [ByteArray.mk (Array.mk [(83 : UInt8), (73 : UInt8), (68 : UInt8), (69 : UInt8)]), Squ.nm s])] = famG (45 : Nat) (3 : Nat) true (frW (TS.L x)) /\ (none : Option Addr) = none /\ ([] : List Value) = []) /\ True) /\ ∀ (x0 : TS), tI s x0 -> ∀ (junk : Nat ->
 Value), (decide ((↑(TS.i x0) : Int) < (↑(List.length (Squ.pl s)) : Int)) = true -> (((0 : Int) ≤ (↑(TS.i x0) : Int) /\ (↑(TS.i x0) : Int) < (↑(List.length (Squ.pl s)) : Int)) /\ AOK (RAd.a B) (List.length (Squ.pl s))) /\ bk (RAd.a B) = bk (RAd.a B) /\ ofs (RAd.a B) + Int.toNat (↑(TS.i x0) : Int) *
 (1 : Nat) = ofs (RAd.a B) + Int.toNat (↑(TS.i x0) : Int) * (1 : Nat) /\ lgo (cS (Squ.pl s)) (Int.toNat (↑(TS.i x0) : Int) * (1 : Nat)) = some (Value.string (gS (Squ.pl s) (Int.toNat (↑(TS.i x0) : Int)))) /\ ∀ (b_3 : Nat), b = b /\ ((IntKind.i64.wrap ((↑(TS.i x0) : Int) + (1 : Int)) == Squ.ca s) =
 true -> ∀ (b_4 : Nat), some (Addr.mk b_3 (0 : Nat) none) = some (Addr.mk b_3 (0 : Nat) none) /\ b_4 = b_4 /\ (51 : Nat) ≤ (140737488355328 : Nat) /\ ∀ (g cap : Nat), b = b /\ ((IntKind.i64.wrap ((↑(TS.i x0) : Int) + (1 : Int)) == Squ.ke s) = true -> ∀ (b : Nat), some (Addr.mk g (0 : Nat) none) =
 some (Addr.mk g (0 : Nat) none) /\ (3 : Nat) = (3 : Nat) /\ cap = cap /\ b = b /\ (68 : Nat) ≤ (140737488355328 : Nat) /\ ∀ (g cap : Nat), [Value.string (ByteArray.mk (Array.mk [(80 : UInt8), (76 : UInt8), (65 : UInt8), (89 : UInt8), (69 : UInt8), (82 : UInt8)])), .string (gS (Squ.pl s) (Int.toNat
 (↑(TS.i x0) : Int))), .string (ByteArray.mk (Array.mk [(67 : UInt8), (65 : UInt8), (80 : UInt8), (84 : UInt8), (65 : UInt8), (73 : UInt8), (78 : UInt8)])), .string (ByteArray.mk (Array.mk [(75 : UInt8), (69 : UInt8), (69 : UInt8), (80 : UInt8), (69 : UInt8), (82 : UInt8)]))] = cS [ByteArray.mk
 (Array.mk [(80 : UInt8), (76 : UInt8), (65 : UInt8), (89 : UInt8), (69 : UInt8), (82 : UInt8)]), gS (Squ.pl s) (Int.toNat (↑(TS.i x0) : Int)), ByteArray.mk (Array.mk [(67 : UInt8), (65 : UInt8), (80 : UInt8), (84 : UInt8), (65 : UInt8), (73 : UInt8), (78 : UInt8)]), ByteArray.mk (Array.mk [(75 :
 UInt8), (69 : UInt8), (69 : UInt8), (80 : UInt8), (69 : UInt8), (82 : UInt8)])] /\ (SpecG Tryd.prog [] [(some (Addr.mk g (0 : Nat) none), cS [ByteArray.mk (Array.mk [(80 : UInt8), (76 : UInt8), (65 : UInt8), (89 : UInt8), (69 : UInt8), (82 : UInt8)]), gS (Squ.pl s) (Int.toNat (↑(TS.i x0) : Int)),
 ByteArray.mk (Array.mk [(67 : UInt8), (65 : UInt8), (80 : UInt8), (84 : UInt8), (65 : UInt8), (73 : UInt8), (78 : UInt8)]), ByteArray.mk (Array.mk [(75 : UInt8), (69 : UInt8), (69 : UInt8), (80 : UInt8), (69 : UInt8), (82 : UInt8)])])] (13 : FuncId) #[Value.slice (some (Addr.mk g (0 : Nat) none))
 (List.length [ByteArray.mk (Array.mk [(80 : UInt8), (76 : UInt8), (65 : UInt8), (89 : UInt8), (69 : UInt8), (82 : UInt8)]), gS (Squ.pl s) (Int.toNat (↑(TS.i x0) : Int)), ByteArray.mk (Array.mk [(67 : UInt8), (65 : UInt8), (80 : UInt8), (84 : UInt8), (65 : UInt8), (73 : UInt8), (78 : UInt8)]),
 ByteArray.mk (Array.mk [(75 : UInt8), (69 : UInt8), (69 : UInt8), (80 : UInt8), (69 : UInt8), (82 : UInt8)])]) cap] [RowT.mk (45 : TypeId) (3 : Nat) (List.length [ByteArray.mk (Array.mk [(80 : UInt8), (76 : UInt8), (65 : UInt8), (89 : UInt8), (69 : UInt8), (82 : UInt8)]), gS (Squ.pl s) (Int.toNat
 (↑(TS.i x0) : Int)), ByteArray.mk (Array.mk [(67 : UInt8), (65 : UInt8), (80 : UInt8), (84 : UInt8), (65 : UInt8), (73 : UInt8), (78 : UInt8)]), ByteArray.mk (Array.mk [(75 : UInt8), (69 : UInt8), (69 : UInt8), (80 : UInt8), (69 : UInt8), (82 : UInt8)])]) (cFw [ByteArray.mk (Array.mk [(80 : UInt8),
 (76 : UInt8), (65 : UInt8), (89 : UInt8), (69 : UInt8), (82 : UInt8)]), gS (Squ.pl s) (Int.toNat (↑(TS.i x0) : Int)), ByteArray.mk (Array.mk [(67 : UInt8), (65 : UInt8), (80 : UInt8), (84 : UInt8), (65 : UInt8), (73 : UInt8), (78 : UInt8)]), ByteArray.mk (Array.mk [(75 : UInt8), (69 : UInt8), (69 :
 UInt8), (80 : UInt8), (69 : UInt8), (82 : UInt8)])])] fun ads ↦ Value.agg #[Value.int .i64 0, .slice (Prod.fst (nthA ads (0 : Nat))) (List.length [ByteArray.mk (Array.mk [(80 : UInt8), (76 : UInt8), (65 : UInt8), (89 : UInt8), (69 : UInt8), (82 : UInt8)]), gS (Squ.pl s) (Int.toNat (↑(TS.i x0) :
 Int)), ByteArray.mk (Array.mk [(67 : UInt8), (65 : UInt8), (80 : UInt8), (84 : UInt8), (65 : UInt8), (73 : UInt8), (78 : UInt8)]), ByteArray.mk (Array.mk [(75 : UInt8), (69 : UInt8), (69 : UInt8), (80 : UInt8), (69 : UInt8), (82 : UInt8)])]) (Prod.snd (nthA ads (0 : Nat)))]) /\ (∀ (e : Ex), e ∈ []
 -> e ∈ rE) /\ ∀ (a : Option Addr) (cap : Nat), AOK a (List.length [ByteArray.mk (Array.mk [(80 : UInt8), (76 : UInt8), (65 : UInt8), (89 : UInt8), (69 : UInt8), (82 : UInt8)]), gS (Squ.pl s) (Int.toNat (↑(TS.i x0) : Int)), ByteArray.mk (Array.mk [(67 : UInt8), (65 : UInt8), (80 : UInt8), (84 :
 UInt8), (65 : UInt8), (73 : UInt8), (78 : UInt8)]), ByteArray.mk (Array.mk [(75 : UInt8), (69 : UInt8), (69 : UInt8), (80 : UInt8), (69 : UInt8), (82 : UInt8)])]) -> List.length [ByteArray.mk (Array.mk [(80 : UInt8), (76 : UInt8), (65 : UInt8), (89 : UInt8), (69 : UInt8), (82 : UInt8)]), gS (Squ.pl
 s) (Int.toNat (↑(TS.i x0) : Int)), ByteArray.mk (Array.mk [(67 : UInt8), (65 : UInt8), (80 : UInt8), (84 : UInt8), (65 : UInt8), (73 : UInt8), (78 : UInt8)]), ByteArray.mk (Array.mk [(75 : UInt8), (69 : UInt8), (69 : UInt8), (80 : UInt8), (69 : UInt8), (82 : UInt8)])] ≤ cap -> ∀ (b : Nat), TS.a x0 =
 TS.a x0 /\ List.length (TS.L x0) = List.length (TS.L x0) /\ TS.c x0 = TS.c x0 /\ b = b /\ (List.length (TS.L x0) + (1 : Nat)) * (33 : Nat) ≤ (140737488355328 : Nat) /\ ∀ (g cap_1 : Nat), AbsP [ghOb (0 : Nat) (famG (45 : TypeId) (3 : Nat) true (frW (TS.L x0))), Ob.mk (0 : Nat) (cFw [ByteArray.mk
 (Array.mk [(80 : UInt8), (76 : UInt8), (65 : UInt8), (89 : UInt8), (69 : UInt8), (82 : UInt8)]), gS (Squ.pl s) (Int.toNat (↑(TS.i x0) : Int)), ByteArray.mk (Array.mk [(67 : UInt8), (65 : UInt8), (80 : UInt8), (84 : UInt8), (65 : UInt8), (73 : UInt8), (78 : UInt8)]), ByteArray.mk (Array.mk [(75 :
 UInt8), (69 : UInt8), (69 : UInt8), (80 : UInt8), (69 : UInt8), (82 : UInt8)])]) (45 : Nat) (some (Ow.mk a (List.length [ByteArray.mk (Array.mk [(80 : UInt8), (76 : UInt8), (65 : UInt8), (89 : UInt8), (69 : UInt8), (82 : UInt8)]), gS (Squ.pl s) (Int.toNat (↑(TS.i x0) : Int)), ByteArray.mk (Array.mk
 [(67 : UInt8), (65 : UInt8), (80 : UInt8), (84 : UInt8), (65 : UInt8), (73 : UInt8), (78 : UInt8)]), ByteArray.mk (Array.mk [(75 : UInt8), (69 : UInt8), (69 : UInt8), (80 : UInt8), (69 : UInt8), (82 : UInt8)])]) cap (3 : Nat)))] (ghOb (0 : Nat) (famG (45 : Nat) (3 : Nat) true (frW (TS.L x0) ++
 [FR.mk a (List.length [ByteArray.mk (Array.mk [(80 : UInt8), (76 : UInt8), (65 : UInt8), (89 : UInt8), (69 : UInt8), (82 : UInt8)]), gS (Squ.pl s) (Int.toNat (↑(TS.i x0) : Int)), ByteArray.mk (Array.mk [(67 : UInt8), (65 : UInt8), (80 : UInt8), (84 : UInt8), (65 : UInt8), (73 : UInt8), (78 :
 UInt8)]), ByteArray.mk (Array.mk [(75 : UInt8), (69 : UInt8), (69 : UInt8), (80 : UInt8), (69 : UInt8), (82 : UInt8)])]) cap (cFw [ByteArray.mk (Array.mk [(80 : UInt8), (76 : UInt8), (65 : UInt8), (89 : UInt8), (69 : UInt8), (82 : UInt8)]), gS (Squ.pl s) (Int.toNat (↑(TS.i x0) : Int)), ByteArray.mk
 (Array.mk [(67 : UInt8), (65 : UInt8), (80 : UInt8), (84 : UInt8), (65 : UInt8), (73 : UInt8), (78 : UInt8)]), ByteArray.mk (Array.mk [(75 : UInt8), (69 : UInt8), (69 : UInt8), (80 : UInt8), (69 : UInt8), (82 : UInt8)])])]))) /\ ∃ y, tI s y /\ List.length (Squ.pl s) - TS.i y < List.length (Squ.pl s)
 - TS.i x0 /\ Value.int .i64 (IntKind.i64.wrap ((↑(TS.i x0) : Int) + (1 : Int))) = Value.int .i64 (↑(TS.i y) : Int) /\ Value.slice (some (Addr.mk g (0 : Nat) none)) (List.length (TS.L x0) + (1 : Nat)) cap_1 = Value.slice (TS.a y) (List.length (TS.L y)) (TS.c y) /\ ((0 : Nat) = (0 : Nat) /\ lapp (cLn
 (TS.L x0)) [Value.int .i64 0, .slice a (List.length [ByteArray.mk (Array.mk [(80 : UInt8), (76 : UInt8), (65 : UInt8), (89 : UInt8), (69 : UInt8), (82 : UInt8)]), gS (Squ.pl s) (Int.toNat (↑(TS.i x0) : Int)), ByteArray.mk (Array.mk [(67 : UInt8), (65 : UInt8), (80 : UInt8), (84 : UInt8), (65 :
 UInt8), (73 : UInt8), (78 : UInt8)]), ByteArray.mk (Array.mk [(75 : UInt8), (69 : UInt8), (69 : UInt8), (80 : UInt8), (69 : UInt8), (82 : UInt8)])]) cap] = cLn (TS.L y) /\ (40 : Nat) = (40 : Nat) /\ some (Ow.mk (some (Addr.mk g (0 : Nat) none)) (List.length (TS.L x0) + (1 : Nat)) cap_1 (2 : Nat)) =
 some (Ow.mk (TS.a y) (List.length (TS.L y)) (TS.c y) (2 : Nat))) /\ (famG (45 : Nat) (3 : Nat) true (frW (TS.L x0) ++ [FR.mk a (List.length [ByteArray.mk (Array.mk [(80 : UInt8), (76 : UInt8), (65 : UInt8), (89 : UInt8), (69 : UInt8), (82 : UInt8)]), gS (Squ.pl s) (Int.toNat (↑(TS.i x0) : Int)),
 ByteArray.mk (Array.mk [(67 : UInt8), (65 : UInt8), (80 : UInt8), (84 : UInt8), (65 : UInt8), (73 : UInt8), (78 : UInt8)]), ByteArray.mk (Array.mk [(75 : UInt8), (69 : UInt8), (69 : UInt8), (80 : UInt8), (69 : UInt8), (82 : UInt8)])]) cap (cFw [ByteArray.mk (Array.mk [(80 : UInt8), (76 : UInt8), (65
 : UInt8), (89 : UInt8), (69 : UInt8), (82 : UInt8)]), gS (Squ.pl s) (Int.toNat (↑(TS.i x0) : Int)), ByteArray.mk (Array.mk [(67 : UInt8), (65 : UInt8), (80 : UInt8), (84 : UInt8), (65 : UInt8), (73 : UInt8), (78 : UInt8)]), ByteArray.mk (Array.mk [(75 : UInt8), (69 : UInt8), (69 : UInt8), (80 :
 UInt8), (69 : UInt8), (82 : UInt8)])])]) = famG (45 : Nat) (3 : Nat) true (frW (TS.L y)) /\ (none : Option Addr) = none /\ ([] : List Value) = []) /\ True) /\ ((IntKind.i64.wrap ((↑(TS.i x0) : Int) + (1 : Int)) == Squ.ke s) = false -> [Value.string (ByteArray.mk (Array.mk [(80 : UInt8), (76 :
 UInt8), (65 : UInt8), (89 : UInt8), (69 : UInt8), (82 : UInt8)])), .string (gS (Squ.pl s) (Int.toNat (↑(TS.i x0) : Int))), .string (ByteArray.mk (Array.mk [(67 : UInt8), (65 : UInt8), (80 : UInt8), (84 : UInt8), (65 : UInt8), (73 : UInt8), (78 : UInt8)]))] = cS [ByteArray.mk (Array.mk [(80 : UInt8),
 (76 : UInt8), (65 : UInt8), (89 : UInt8), (69 : UInt8), (82 : UInt8)]), gS (Squ.pl s) (Int.toNat (↑(TS.i x0) : Int)), ByteArray.mk (Array.mk [(67 : UInt8), (65 : UInt8), (80 : UInt8), (84 : UInt8), (65 : UInt8), (73 : UInt8), (78 : UInt8)])] /\ (SpecG Tryd.prog [] [(some (Addr.mk g (0 : Nat) none),
 cS [ByteArray.mk (Array.mk [(80 : UInt8), (76 : UInt8), (65 : UInt8), (89 : UInt8), (69 : UInt8), (82 : UInt8)]), gS (Squ.pl s) (Int.toNat (↑(TS.i x0) : Int)), ByteArray.mk (Array.mk [(67 : UInt8), (65 : UInt8), (80 : UInt8), (84 : UInt8), (65 : UInt8), (73 : UInt8), (78 : UInt8)])])] (13 : FuncId)
 #[Value.slice (some (Addr.mk g (0 : Nat) none)) (List.length [ByteArray.mk (Array.mk [(80 : UInt8), (76 : UInt8), (65 : UInt8), (89 : UInt8), (69 : UInt8), (82 : UInt8)]), gS (Squ.pl s) (Int.toNat (↑(TS.i x0) : Int)), ByteArray.mk (Array.mk [(67 : UInt8), (65 : UInt8), (80 : UInt8), (84 : UInt8),
 (65 : UInt8), (73 : UInt8), (78 : UInt8)])]) cap] [RowT.mk (45 : TypeId) (3 : Nat) (List.length [ByteArray.mk (Array.mk [(80 : UInt8), (76 : UInt8), (65 : UInt8), (89 : UInt8), (69 : UInt8), (82 : UInt8)]), gS (Squ.pl s) (Int.toNat (↑(TS.i x0) : Int)), ByteArray.mk (Array.mk [(67 : UInt8), (65 :
 UInt8), (80 : UInt8), (84 : UInt8), (65 : UInt8), (73 : UInt8), (78 : UInt8)])]) (cFw [ByteArray.mk (Array.mk [(80 : UInt8), (76 : UInt8), (65 : UInt8), (89 : UInt8), (69 : UInt8), (82 : UInt8)]), gS (Squ.pl s) (Int.toNat (↑(TS.i x0) : Int)), ByteArray.mk (Array.mk [(67 : UInt8), (65 : UInt8), (80 :
 UInt8), (84 : UInt8), (65 : UInt8), (73 : UInt8), (78 : UInt8)])])] fun ads ↦ Value.agg #[Value.int .i64 0, .slice (Prod.fst (nthA ads (0 : Nat))) (List.length [ByteArray.mk (Array.mk [(80 : UInt8), (76 : UInt8), (65 : UInt8), (89 : UInt8), (69 : UInt8), (82 : UInt8)]), gS (Squ.pl s) (Int.toNat
 (↑(TS.i x0) : Int)), ByteArray.mk (Array.mk [(67 : UInt8), (65 : UInt8), (80 : UInt8), (84 : UInt8), (65 : UInt8), (73 : UInt8), (78 : UInt8)])]) (Prod.snd (nthA ads (0 : Nat)))]) /\ (∀ (e : Ex), e ∈ [] -> e ∈ rE) /\ ∀ (a : Option Addr) (cap : Nat), AOK a (List.length [ByteArray.mk (Array.mk [(80 :
 UInt8), (76 : UInt8), (65 : UInt8), (89 : UInt8), (69 : UInt8), (82 : UInt8)]), gS (Squ.pl s) (Int.toNat (↑(TS.i x0) : Int)), ByteArray.mk (Array.mk [(67 : UInt8), (65 : UInt8), (80 : UInt8), (84 : UInt8), (65 : UInt8), (73 : UInt8), (78 : UInt8)])]) -> List.length [ByteArray.mk (Array.mk [(80 :
 UInt8), (76 : UInt8), (65 : UInt8), (89 : UInt8), (69 : UInt8), (82 : UInt8)]), gS (Squ.pl s) (Int.toNat (↑(TS.i x0) : Int)), ByteArray.mk (Array.mk [(67 : UInt8), (65 : UInt8), (80 : UInt8), (84 : UInt8), (65 : UInt8), (73 : UInt8), (78 : UInt8)])] ≤ cap -> ∀ (b : Nat), TS.a x0 = TS.a x0 /\
 List.length (TS.L x0) = List.length (TS.L x0) /\ TS.c x0 = TS.c x0 /\ b = b /\ (List.length (TS.L x0) + (1 : Nat)) * (33 : Nat) ≤ (140737488355328 : Nat) /\ ∀ (g cap_1 : Nat), AbsP [ghOb (0 : Nat) (famG (45 : TypeId) (3 : Nat) true (frW (TS.L x0))), Ob.mk (0 : Nat) (cFw [ByteArray.mk (Array.mk [(80
 : UInt8), (76 : UInt8), (65 : UInt8), (89 : UInt8), (69 : UInt8), (82 : UInt8)]), gS (Squ.pl s) (Int.toNat (↑(TS.i x0) : Int)), ByteArray.mk (Array.mk [(67 : UInt8), (65 : UInt8), (80 : UInt8), (84 : UInt8), (65 : UInt8), (73 : UInt8), (78 : UInt8)])]) (45 : Nat) (some (Ow.mk a (List.length
 [ByteArray.mk (Array.mk [(80 : UInt8), (76 : UInt8), (65 : UInt8), (89 : UInt8), (69 : UInt8), (82 : UInt8)]), gS (Squ.pl s) (Int.toNat (↑(TS.i x0) : Int)), ByteArray.mk (Array.mk [(67 : UInt8), (65 : UInt8), (80 : UInt8), (84 : UInt8), (65 : UInt8), (73 : UInt8), (78 : UInt8)])]) cap (3 : Nat)))]
 (ghOb (0 : Nat) (famG (45 : Nat) (3 : Nat) true (frW (TS.L x0) ++ [FR.mk a (List.length [ByteArray.mk (Array.mk [(80 : UInt8), (76 : UInt8), (65 : UInt8), (89 : UInt8), (69 : UInt8), (82 : UInt8)]), gS (Squ.pl s) (Int.toNat (↑(TS.i x0) : Int)), ByteArray.mk (Array.mk [(67 : UInt8), (65 : UInt8), (80
 : UInt8), (84 : UInt8), (65 : UInt8), (73 : UInt8), (78 : UInt8)])]) cap (cFw [ByteArray.mk (Array.mk [(80 : UInt8), (76 : UInt8), (65 : UInt8), (89 : UInt8), (69 : UInt8), (82 : UInt8)]), gS (Squ.pl s) (Int.toNat (↑(TS.i x0) : Int)), ByteArray.mk (Array.mk [(67 : UInt8), (65 : UInt8), (80 : UInt8),
 (84 : UInt8), (65 : UInt8), (73 : UInt8), (78 : UInt8)])])]))) /\ ∃ y, tI s y /\ List.length (Squ.pl s) - TS.i y < List.length (Squ.pl s) - TS.i x0 /\ Value.int .i64 (IntKind.i64.wrap ((↑(TS.i x0) : Int) + (1 : Int))) = Value.int .i64 (↑(TS.i y) : Int) /\ Value.slice (some (Addr.mk g (0 : Nat)
 none)) (List.length (TS.L x0) + (1 : Nat)) cap_1 = Value.slice (TS.a y) (List.length (TS.L y)) (TS.c y) /\ ((0 : Nat) = (0 : Nat) /\ lapp (cLn (TS.L x0)) [Value.int .i64 0, .slice a (List.length [ByteArray.mk (Array.mk [(80 : UInt8), (76 : UInt8), (65 : UInt8), (89 : UInt8), (69 : UInt8), (82 :
 UInt8)]), gS (Squ.pl s) (Int.toNat (↑(TS.i x0) : Int)), ByteArray.mk (Array.mk [(67 : UInt8), (65 : UInt8), (80 : UInt8), (84 : UInt8), (65 : UInt8), (73 : UInt8), (78 : UInt8)])]) cap] = cLn (TS.L y) /\ (40 : Nat) = (40 : Nat) /\ some (Ow.mk (some (Addr.mk g (0 : Nat) none)) (List.length (TS.L x0)
 + (1 : Nat)) cap_1 (2 : Nat)) = some (Ow.mk (TS.a y) (List.length (TS.L y)) (TS.c y) (2 : Nat))) /\ (famG (45 : Nat) (3 : Nat) true (frW (TS.L x0) ++ [FR.mk a (List.length [ByteArray.mk (Array.mk [(80 : UInt8), (76 : UInt8), (65 : UInt8), (89 : UInt8), (69 : UInt8), (82 : UInt8)]), gS (Squ.pl s)
 (Int.toNat (↑(TS.i x0) : Int)), ByteArray.mk (Array.mk [(67 : UInt8), (65 : UInt8), (80 : UInt8), (84 : UInt8), (65 : UInt8), (73 : UInt8), (78 : UInt8)])]) cap (cFw [ByteArray.mk (Array.mk [(80 : UInt8), (76 : UInt8), (65 : UInt8), (89 : UInt8), (69 : UInt8), (82 : UInt8)]), gS (Squ.pl s)
 (Int.toNat (↑(TS.i x0) : Int)), ByteArray.mk (Array.mk [(67 : UInt8), (65 : UInt8), (80 : UInt8), (84 : UInt8), (65 : UInt8), (73 : UInt8), (78 : UInt8)])])]) = famG (45 : Nat) (3 : Nat) true (frW (TS.L y)) /\ (none : Option Addr) = none /\ ([] : List Value) = []) /\ True)) /\ ((IntKind.i64.wrap
 ((↑(TS.i x0) : Int) + (1 : Int)) == Squ.ca s) = false -> b = b /\ ((IntKind.i64.wrap ((↑(TS.i x0) : Int) + (1 : Int)) == Squ.ke s) = true -> ∀ (b : Nat), some (Addr.mk b_3 (0 : Nat) none) = some (Addr.mk b_3 (0 : Nat) none) /\ b = b /\ (51 : Nat) ≤ (140737488355328 : Nat) /\ ∀ (g cap : Nat),
 [Value.string (ByteArray.mk (Array.mk [(80 : UInt8), (76 : UInt8), (65 : UInt8), (89 : UInt8), (69 : UInt8), (82 : UInt8)])), .string (gS (Squ.pl s) (Int.toNat (↑(TS.i x0) : Int))), .string (ByteArray.mk (Array.mk [(75 : UInt8), (69 : UInt8), (69 : UInt8), (80 : UInt8), (69 : UInt8), (82 :
 UInt8)]))] = cS [ByteArray.mk (Array.mk [(80 : UInt8), (76 : UInt8), (65 : UInt8), (89 : UInt8), (69 : UInt8), (82 : UInt8)]), gS (Squ.pl s) (Int.toNat (↑(TS.i x0) : Int)), ByteArray.mk (Array.mk [(75 : UInt8), (69 : UInt8), (69 : UInt8), (80 : UInt8), (69 : UInt8), (82 : UInt8)])] /\ (SpecG
 Tryd.prog [] [(some (Addr.mk g (0 : Nat) none), cS [ByteArray.mk (Array.mk [(80 : UInt8), (76 : UInt8), (65 : UInt8), (89 : UInt8), (69 : UInt8), (82 : UInt8)]), gS (Squ.pl s) (Int.toNat (↑(TS.i x0) : Int)), ByteArray.mk (Array.mk [(75 : UInt8), (69 : UInt8), (69 : UInt8), (80 : UInt8), (69 : UInt8),
 (82 : UInt8)])])] (13 : FuncId) #[Value.slice (some (Addr.mk g (0 : Nat) none)) (List.length [ByteArray.mk (Array.mk [(80 : UInt8), (76 : UInt8), (65 : UInt8), (89 : UInt8), (69 : UInt8), (82 : UInt8)]), gS (Squ.pl s) (Int.toNat (↑(TS.i x0) : Int)), ByteArray.mk (Array.mk [(75 : UInt8), (69 :
 UInt8), (69 : UInt8), (80 : UInt8), (69 : UInt8), (82 : UInt8)])]) cap] [RowT.mk (45 : TypeId) (3 : Nat) (List.length [ByteArray.mk (Array.mk [(80 : UInt8), (76 : UInt8), (65 : UInt8), (89 : UInt8), (69 : UInt8), (82 : UInt8)]), gS (Squ.pl s) (Int.toNat (↑(TS.i x0) : Int)), ByteArray.mk (Array.mk
 [(75 : UInt8), (69 : UInt8), (69 : UInt8), (80 : UInt8), (69 : UInt8), (82 : UInt8)])]) (cFw [ByteArray.mk (Array.mk [(80 : UInt8), (76 : UInt8), (65 : UInt8), (89 : UInt8), (69 : UInt8), (82 : UInt8)]), gS (Squ.pl s) (Int.toNat (↑(TS.i x0) : Int)), ByteArray.mk (Array.mk [(75 : UInt8), (69 :
 UInt8), (69 : UInt8), (80 : UInt8), (69 : UInt8), (82 : UInt8)])])] fun ads ↦ Value.agg #[Value.int .i64 0, .slice (Prod.fst (nthA ads (0 : Nat))) (List.length [ByteArray.mk (Array.mk [(80 : UInt8), (76 : UInt8), (65 : UInt8), (89 : UInt8), (69 : UInt8), (82 : UInt8)]), gS (Squ.pl s) (Int.toNat
 (↑(TS.i x0) : Int)), ByteArray.mk (Array.mk [(75 : UInt8), (69 : UInt8), (69 : UInt8), (80 : UInt8), (69 : UInt8), (82 : UInt8)])]) (Prod.snd (nthA ads (0 : Nat)))]) /\ (∀ (e : Ex), e ∈ [] -> e ∈ rE) /\ ∀ (a : Option Addr) (cap : Nat), AOK a (List.length [ByteArray.mk (Array.mk [(80 : UInt8), (76 :
 UInt8), (65 : UInt8), (89 : UInt8), (69 : UInt8), (82 : UInt8)]), gS (Squ.pl s) (Int.toNat (↑(TS.i x0) : Int)), ByteArray.mk (Array.mk [(75 : UInt8), (69 : UInt8), (69 : UInt8), (80 : UInt8), (69 : UInt8), (82 : UInt8)])]) -> List.length [ByteArray.mk (Array.mk [(80 : UInt8), (76 : UInt8), (65 :
 UInt8), (89 : UInt8), (69 : UInt8), (82 : UInt8)]), gS (Squ.pl s) (Int.toNat (↑(TS.i x0) : Int)), ByteArray.mk (Array.mk [(75 : UInt8), (69 : UInt8), (69 : UInt8), (80 : UInt8), (69 : UInt8), (82 : UInt8)])] ≤ cap -> ∀ (b : Nat), TS.a x0 = TS.a x0 /\ List.length (TS.L x0) = List.length (TS.L x0) /\
 TS.c x0 = TS.c x0 /\ b = b /\ (List.length (TS.L x0) + (1 : Nat)) * (33 : Nat) ≤ (140737488355328 : Nat) /\ ∀ (g cap_1 : Nat), AbsP [ghOb (0 : Nat) (famG (45 : TypeId) (3 : Nat) true (frW (TS.L x0))), Ob.mk (0 : Nat) (cFw [ByteArray.mk (Array.mk [(80 : UInt8), (76 : UInt8), (65 : UInt8), (89 :
 UInt8), (69 : UInt8), (82 : UInt8)]), gS (Squ.pl s) (Int.toNat (↑(TS.i x0) : Int)), ByteArray.mk (Array.mk [(75 : UInt8), (69 : UInt8), (69 : UInt8), (80 : UInt8), (69 : UInt8), (82 : UInt8)])]) (45 : Nat) (some (Ow.mk a (List.length [ByteArray.mk (Array.mk [(80 : UInt8), (76 : UInt8), (65 : UInt8),
 (89 : UInt8), (69 : UInt8), (82 : UInt8)]), gS (Squ.pl s) (Int.toNat (↑(TS.i x0) : Int)), ByteArray.mk (Array.mk [(75 : UInt8), (69 : UInt8), (69 : UInt8), (80 : UInt8), (69 : UInt8), (82 : UInt8)])]) cap (3 : Nat)))] (ghOb (0 : Nat) (famG (45 : Nat) (3 : Nat) true (frW (TS.L x0) ++ [FR.mk a
 (List.length [ByteArray.mk (Array.mk [(80 : UInt8), (76 : UInt8), (65 : UInt8), (89 : UInt8), (69 : UInt8), (82 : UInt8)]), gS (Squ.pl s) (Int.toNat (↑(TS.i x0) : Int)), ByteArray.mk (Array.mk [(75 : UInt8), (69 : UInt8), (69 : UInt8), (80 : UInt8), (69 : UInt8), (82 : UInt8)])]) cap (cFw
 [ByteArray.mk (Array.mk [(80 : UInt8), (76 : UInt8), (65 : UInt8), (89 : UInt8), (69 : UInt8), (82 : UInt8)]), gS (Squ.pl s) (Int.toNat (↑(TS.i x0) : Int)), ByteArray.mk (Array.mk [(75 : UInt8), (69 : UInt8), (69 : UInt8), (80 : UInt8), (69 : UInt8), (82 : UInt8)])])]))) /\ ∃ y, tI s y /\
 List.length (Squ.pl s) - TS.i y < List.length (Squ.pl s) - TS.i x0 /\ Value.int .i64 (IntKind.i64.wrap ((↑(TS.i x0) : Int) + (1 : Int))) = Value.int .i64 (↑(TS.i y) : Int) /\ Value.slice (some (Addr.mk g (0 : Nat) none)) (List.length (TS.L x0) + (1 : Nat)) cap_1 = Value.slice (TS.a y) (List.length
 (TS.L y)) (TS.c y) /\ ((0 : Nat) = (0 : Nat) /\ lapp (cLn (TS.L x0)) [Value.int .i64 0, .slice a (List.length [ByteArray.mk (Array.mk [(80 : UInt8), (76 : UInt8), (65 : UInt8), (89 : UInt8), (69 : UInt8), (82 : UInt8)]), gS (Squ.pl s) (Int.toNat (↑(TS.i x0) : Int)), ByteArray.mk (Array.mk [(75 :
 UInt8), (69 : UInt8), (69 : UInt8), (80 : UInt8), (69 : UInt8), (82 : UInt8)])]) cap] = cLn (TS.L y) /\ (40 : Nat) = (40 : Nat) /\ some (Ow.mk (some (Addr.mk g (0 : Nat) none)) (List.length (TS.L x0) + (1 : Nat)) cap_1 (2 : Nat)) = some (Ow.mk (TS.a y) (List.length (TS.L y)) (TS.c y) (2 : Nat))) /\
 (famG (45 : Nat) (3 : Nat) true (frW (TS.L x0) ++ [FR.mk a (List.length [ByteArray.mk (Array.mk [(80 : UInt8), (76 : UInt8), (65 : UInt8), (89 : UInt8), (69 : UInt8), (82 : UInt8)]), gS (Squ.pl s) (Int.toNat (↑(TS.i x0) : Int)), ByteArray.mk (Array.mk [(75 : UInt8), (69 : UInt8), (69 : UInt8), (80 :
 UInt8), (69 : UInt8), (82 : UInt8)])]) cap (cFw [ByteArray.mk (Array.mk [(80 : UInt8), (76 : UInt8), (65 : UInt8), (89 : UInt8), (69 : UInt8), (82 : UInt8)]), gS (Squ.pl s) (Int.toNat (↑(TS.i x0) : Int)), ByteArray.mk (Array.mk [(75 : UInt8), (69 : UInt8), (69 : UInt8), (80 : UInt8), (69 : UInt8),
 (82 : UInt8)])])]) = famG (45 : Nat) (3 : Nat) true (frW (TS.L y)) /\ (none : Option Addr) = none /\ ([] : List Value) = []) /\ True) /\ ((IntKind.i64.wrap ((↑(TS.i x0) : Int) + (1 : Int)) == Squ.ke s) = false -> [Value.string (ByteArray.mk (Array.mk [(80 : UInt8), (76 : UInt8), (65 : UInt8), (89 :
 UInt8), (69 : UInt8), (82 : UInt8)])), .string (gS (Squ.pl s) (Int.toNat (↑(TS.i x0) : Int)))] = cS [ByteArray.mk (Array.mk [(80 : UInt8), (76 : UInt8), (65 : UInt8), (89 : UInt8), (69 : UInt8), (82 : UInt8)]), gS (Squ.pl s) (Int.toNat (↑(TS.i x0) : Int))] /\ (SpecG Tryd.prog [] [(some (Addr.mk b_3
 (0 : Nat) none), cS [ByteArray.mk (Array.mk [(80 : UInt8), (76 : UInt8), (65 : UInt8), (89 : UInt8), (69 : UInt8), (82 : UInt8)]), gS (Squ.pl s) (Int.toNat (↑(TS.i x0) : Int))])] (13 : FuncId) #[Value.slice (some (Addr.mk b_3 (0 : Nat) none)) (List.length [ByteArray.mk (Array.mk [(80 : UInt8), (76 :
 UInt8), (65 : UInt8), (89 : UInt8), (69 : UInt8), (82 : UInt8)]), gS (Squ.pl s) (Int.toNat (↑(TS.i x0) : Int))]) (2 : Nat)] [RowT.mk (45 : TypeId) (3 : Nat) (List.length [ByteArray.mk (Array.mk [(80 : UInt8), (76 : UInt8), (65 : UInt8), (89 : UInt8), (69 : UInt8), (82 : UInt8)]), gS (Squ.pl s)
 (Int.toNat (↑(TS.i x0) : Int))]) (cFw [ByteArray.mk (Array.mk [(80 : UInt8), (76 : UInt8), (65 : UInt8), (89 : UInt8), (69 : UInt8), (82 : UInt8)]), gS (Squ.pl s) (Int.toNat (↑(TS.i x0) : Int))])] fun ads ↦ Value.agg #[Value.int .i64 0, .slice (Prod.fst (nthA ads (0 : Nat))) (List.length
 [ByteArray.mk (Array.mk [(80 : UInt8), (76 : UInt8), (65 : UInt8), (89 : UInt8), (69 : UInt8), (82 : UInt8)]), gS (Squ.pl s) (Int.toNat (↑(TS.i x0) : Int))]) (Prod.snd (nthA ads (0 : Nat)))]) /\ (∀ (e : Ex), e ∈ [] -> e ∈ rE) /\ ∀ (a : Option Addr) (cap : Nat), AOK a (List.length [ByteArray.mk
 (Array.mk [(80 : UInt8), (76 : UInt8), (65 : UInt8), (89 : UInt8), (69 : UInt8), (82 : UInt8)]), gS (Squ.pl s) (Int.toNat (↑(TS.i x0) : Int))]) -> List.length [ByteArray.mk (Array.mk [(80 : UInt8), (76 : UInt8), (65 : UInt8), (89 : UInt8), (69 : UInt8), (82 : UInt8)]), gS (Squ.pl s) (Int.toNat
 (↑(TS.i x0) : Int))] ≤ cap -> ∀ (b : Nat), TS.a x0 = TS.a x0 /\ List.length (TS.L x0) = List.length (TS.L x0) /\ TS.c x0 = TS.c x0 /\ b = b /\ (List.length (TS.L x0) + (1 : Nat)) * (33 : Nat) ≤ (140737488355328 : Nat) /\ ∀ (g cap_1 : Nat), AbsP [ghOb (0 : Nat) (famG (45 : TypeId) (3 : Nat) true (frW
 (TS.L x0))), Ob.mk (0 : Nat) (cFw [ByteArray.mk (Array.mk [(80 : UInt8), (76 : UInt8), (65 : UInt8), (89 : UInt8), (69 : UInt8), (82 : UInt8)]), gS (Squ.pl s) (Int.toNat (↑(TS.i x0) : Int))]) (45 : Nat) (some (Ow.mk a (List.length [ByteArray.mk (Array.mk [(80 : UInt8), (76 : UInt8), (65 : UInt8),
 (89 : UInt8), (69 : UInt8), (82 : UInt8)]), gS (Squ.pl s) (Int.toNat (↑(TS.i x0) : Int))]) cap (3 : Nat)))] (ghOb (0 : Nat) (famG (45 : Nat) (3 : Nat) true (frW (TS.L x0) ++ [FR.mk a (List.length [ByteArray.mk (Array.mk [(80 : UInt8), (76 : UInt8), (65 : UInt8), (89 : UInt8), (69 : UInt8), (82 :
 UInt8)]), gS (Squ.pl s) (Int.toNat (↑(TS.i x0) : Int))]) cap (cFw [ByteArray.mk (Array.mk [(80 : UInt8), (76 : UInt8), (65 : UInt8), (89 : UInt8), (69 : UInt8), (82 : UInt8)]), gS (Squ.pl s) (Int.toNat (↑(TS.i x0) : Int))])]))) /\ ∃ y, tI s y /\ List.length (Squ.pl s) - TS.i y < List.length (Squ.pl
 s) - TS.i x0 /\ Value.int .i64 (IntKind.i64.wrap ((↑(TS.i x0) : Int) + (1 : Int))) = Value.int .i64 (↑(TS.i y) : Int) /\ Value.slice (some (Addr.mk g (0 : Nat) none)) (List.length (TS.L x0) + (1 : Nat)) cap_1 = Value.slice (TS.a y) (List.length (TS.L y)) (TS.c y) /\ ((0 : Nat) = (0 : Nat) /\ lapp
 (cLn (TS.L x0)) [Value.int .i64 0, .slice a (List.length [ByteArray.mk (Array.mk [(80 : UInt8), (76 : UInt8), (65 : UInt8), (89 : UInt8), (69 : UInt8), (82 : UInt8)]), gS (Squ.pl s) (Int.toNat (↑(TS.i x0) : Int))]) cap] = cLn (TS.L y) /\ (40 : Nat) = (40 : Nat) /\ some (Ow.mk (some (Addr.mk g (0 :
 Nat) none)) (List.length (TS.L x0) + (1 : Nat)) cap_1 (2 : Nat)) = some (Ow.mk (TS.a y) (List.length (TS.L y)) (TS.c y) (2 : Nat))) /\ (famG (45 : Nat) (3 : Nat) true (frW (TS.L x0) ++ [FR.mk a (List.length [ByteArray.mk (Array.mk [(80 : UInt8), (76 : UInt8), (65 : UInt8), (89 : UInt8), (69 :
 UInt8), (82 : UInt8)]), gS (Squ.pl s) (Int.toNat (↑(TS.i x0) : Int))]) cap (cFw [ByteArray.mk (Array.mk [(80 : UInt8), (76 : UInt8), (65 : UInt8), (89 : UInt8), (69 : UInt8), (82 : UInt8)]), gS (Squ.pl s) (Int.toNat (↑(TS.i x0) : Int))])]) = famG (45 : Nat) (3 : Nat) true (frW (TS.L y)) /\ (none :
 Option Addr) = none /\ ([] : List Value) = []) /\ True))) /\ (decide ((↑(TS.i x0) : Int) < (↑(List.length (Squ.pl s)) : Int)) = false -> (SpecC Tryd.prog rE [(TS.a x0, cLn (TS.L x0))] [famG (45 : TypeId) (3 : Nat) false (frW (TS.L x0))] [] (14 : FuncId) #[Value.slice (TS.a x0) (List.length (TS.L x0))
 (TS.c x0)] Un (fun x ↦ x = Un.un) (fun x ↦ []) fun x ↦ Value.string (wtS (TS.L x0))) /\ (∀ (e : Ex), e ∈ rE -> e ∈ rE) /\ True /\ ((TS.a x0 = TS.a x0 /\ cLn (TS.L x0) = cLn (TS.L x0)) /\ True) /\ (Gh.mk false (Gh.dep (famG (45 : TypeId) (3 : Nat) true (frW (TS.L x0)))) (Gh.ok (famG (45 : TypeId) (3
 : Nat) true (frW (TS.L x0)))) (Gh.lt (famG (45 : Nat) (3 : Nat) true (frW (TS.L x0)))) (Gh.same (famG (45 : Nat) (3 : Nat) true (frW (TS.L x0)))) = Gh.mk false (Gh.dep (famG (45 : TypeId) (3 : Nat) false (frW (TS.L x0)))) (Gh.ok (famG (45 : TypeId) (3 : Nat) false (frW (TS.L x0)))) (Gh.lt (famG (45
 : Nat) (3 : Nat) false (frW (TS.L x0)))) (Gh.same (famG (45 : Nat) (3 : Nat) false (frW (TS.L x0)))) /\ True) /\ ∀ (x_7346 : Un), x_7346 = Un.un -> Value.tuple (Array.mk [.string (wtS (TS.L x0)), .int .i64 0]) = Value.tuple (Array.mk [.string (txE s), .int .i64 (sqk s)]))))) := by kernel_rfl
set_option maxHeartbeats 4000000 in
theorem ptx_sp (s : Squ) (B : RAd) (hB : AOK B.a s.pl.length) (hc : s.pl.length ≤ B.c) (hl : s.pl.length ≤ 13) (hn : s.nm.size ≤ 20) (hp : ∀ x ∈ s.pl, x.size ≤ 20) : SpecG Tryd.prog rE ([(B.a, cS s.pl)]) 6 #[sqV s B] ([]) (fun _ => .tuple #[.string (txE s), .int .i64 (sqk s)]) := by
  refine specG_of (h := ptx_h s B) (?_ : wpG Tryd.prog rE ([(B.a, cS s.pl)]) 400 6 [sqV s B] (ptx_h s B) ([]) (fun _ => .tuple #[.string (txE s), .int .i64 (sqk s)]))
  rw [ptx_x]
  (repeat' (first | with_reducible exact rfl | exact trivial | with_reducible assumption | exact sch_sp s B hB hc (Nat.le_trans hl (by decide)) (Nat.le_trans hn (by decide)) (fun x h => Nat.le_trans (hp x h) (by decide)) | exact wln_sp _ _ _ (aokp _ _) (Nat.le_of_ble_eq_true rfl) | exact wr_c _ _ _ ‹tI s _›.2.2.1 ‹tI s _›.2.2.2 (tI_fine ‹tI s _› hl hn hp) | exact cU_len _ | exact cI_len _ | exact cB_len _ | exact cU_one _ | exact cI_one _ | exact cB_one _ | exact (fun _ h => h) | exact (fun _ h => (List.not_mem_nil h).elim) | exact cS_len _ | exact cS_one _ | (with_reducible refine e1_in ?_) | (with_reducible refine e2_in ?_) | (with_reducible refine lx_in (Nat.le_of_ble_eq_true rfl) ?_) | (with_reducible refine rqx_rf ?_) | (with_reducible refine rqx_in ?_ ?_ ?_) | (with_reducible apply And.intro) | (with_reducible intro _)))
  all_goals (try (rw [tx_no ‹_›]; done))
  all_goals (try (exact tx_ok ‹_› ‹tI s _› ‹_›))
  all_goals (try (first | decide | omega | exact rfl))
  all_goals (try (first | exact famG_new 0 (famG_join1 (by decide) 0 [] _ _ _ _) | exact famG_join1 (by decide) 0 _ _ _ _ _ | exact famG_new 0 (famG_joinP (by decide) 0 [] _ _ _ rfl (by simp) (by decide)) | exact famG_joinP (by decide) 0 _ _ _ _ rfl (by simp) (by decide)))
  all_goals (try (exact ⟨⟨0, _, 1, [⟨_, _, [SID, s.nm]⟩]⟩, tI_0 s _ _ _ (by first | assumption | exact aokp _ _) (aokp _ _), rfl, rfl, ⟨rfl, rfl, rfl, rfl, Nat.le_of_ble_eq_true rfl, rfl⟩, ⟨rfl, rfl, rfl⟩, trivial⟩))
  all_goals (try (have hx := ‹tI s _›; have hb := tI_b hx hl; have hf := ‹decide (((TS.i _ : Nat) : Int) < (s.pl.length : Int)) = true›; exact ⟨nxT hx _ _ _ _ _, tI_s hx hf (sqW_eq ‹_› ‹_› (by omega)).symm _ _ (by first | assumption | exact aokp _ _), tI_mu hf, wr_k2 (by omega), slL rfl (by simp) rfl, ⟨rfl, cLn_app _ rfl, rfl, owL rfl (by simp) rfl⟩, ⟨fmW _ _ _ rfl rfl, rfl, rfl⟩, trivial⟩))
  all_goals (try (have hx := ‹tI s _›; have hb := tI_b hx hl; have hg := of_decide_eq_true ‹decide (((TS.i _ : Nat) : Int) < (s.pl.length : Int)) = true›; (try simp only [Int.toNat_natCast]); first | omega | (refine cS_get ?_; omega)))
  
def qtx_h (s : Squ) (B : RAd) : Hint := ho 1 4 (.specg [] [0] [cS (Squ.pl s)] [] (fun ads0 x ↦ Value.int .i64 (sqk s)) (.pl (.split (.perm [] .nil) (ho 1 2 (.pl (.invg (qLp s) (.osf fun l ↦ .gho [2] (ghOb (0 : Nat) (famG (45 : Nat) (3 : Nat) true [FR.mk (some (Addr.mk (bk (Prod.fst (nthO l (2 : Nat)))) (0 : Nat) none)) (2 : Nat) (2 : Nat)
 [Value.string (ByteArray.mk (Array.mk [(83 : UInt8), (73 : UInt8), (68 : UInt8), (69 : UInt8)])), .int .i64 0, .bool false, .string (Squ.nm s), .int .i64 0, .bool false]])) .nil) fun x0 ↦ .split (.ix (.lst (0 : Nat) (Int.toNat (↑(TS.i x0) : Int) * (1 : Nat)) (Value.string (gS (Squ.pl s) (Int.toNat
 (↑(TS.i x0) : Int)))) (ho 6 2 (.ob 1 (.pl (.split (.ob 6 (.appe (5 : Nat) (7 : Nat) (.ob 6 (.ob 1 (.pl (.split (.ob 6 (.app (5 : Nat) (8 : Nat) (ho 6 3 (.app (3 : Nat) (9 : Nat) (.osf fun l ↦ .gho [4, 5] (ghOb (0 : Nat) (famG (45 : Nat) (3 : Nat) true (frW (TS.L x0) ++ [FR.mk (some (Addr.mk (bk
 (Prod.fst (nthO l (5 : Nat)))) (0 : Nat) none)) (4 : Nat) (Prod.snd (nthO l (5 : Nat))) [Value.string (ByteArray.mk (Array.mk [(80 : UInt8), (76 : UInt8), (65 : UInt8), (89 : UInt8), (69 : UInt8), (82 : UInt8)])), .int .i64 0, .bool false, .string (gS (Squ.pl s) (Int.toNat (↑(TS.i x0) : Int))), .int
 .i64 0, .bool false, .string (ByteArray.mk (Array.mk [(67 : UInt8), (65 : UInt8), (80 : UInt8), (84 : UInt8), (65 : UInt8), (73 : UInt8), (78 : UInt8)])), .int .i64 0, .bool false, .string (ByteArray.mk (Array.mk [(75 : UInt8), (69 : UInt8), (69 : UInt8), (80 : UInt8), (69 : UInt8), (82 : UInt8)])),
 .int .i64 0, .bool false]]))) (.perm [3, 10] .nil)))))) (ho 6 2 (.app (3 : Nat) (8 : Nat) (.osf fun l ↦ .gho [4, 5] (ghOb (0 : Nat) (famG (45 : Nat) (3 : Nat) true (frW (TS.L x0) ++ [FR.mk (some (Addr.mk (bk (Prod.fst (nthO l (5 : Nat)))) (0 : Nat) none)) (3 : Nat) (Prod.snd (nthO l (5 : Nat)))
 [Value.string (ByteArray.mk (Array.mk [(80 : UInt8), (76 : UInt8), (65 : UInt8), (89 : UInt8), (69 : UInt8), (82 : UInt8)])), .int .i64 0, .bool false, .string (gS (Squ.pl s) (Int.toNat (↑(TS.i x0) : Int))), .int .i64 0, .bool false, .string (ByteArray.mk (Array.mk [(67 : UInt8), (65 : UInt8), (80 :
 UInt8), (84 : UInt8), (65 : UInt8), (73 : UInt8), (78 : UInt8)])), .int .i64 0, .bool false]]))) (.perm [3, 9] .nil)))))))))) (.ob 1 (.pl (.split (.ob 6 (.appe (5 : Nat) (7 : Nat) (ho 6 3 (.app (3 : Nat) (8 : Nat) (.osf fun l ↦ .gho [4, 5] (ghOb (0 : Nat) (famG (45 : Nat) (3 : Nat) true (frW (TS.L
 x0) ++ [FR.mk (some (Addr.mk (bk (Prod.fst (nthO l (5 : Nat)))) (0 : Nat) none)) (3 : Nat) (Prod.snd (nthO l (5 : Nat))) [Value.string (ByteArray.mk (Array.mk [(80 : UInt8), (76 : UInt8), (65 : UInt8), (89 : UInt8), (69 : UInt8), (82 : UInt8)])), .int .i64 0, .bool false, .string (gS (Squ.pl s)
 (Int.toNat (↑(TS.i x0) : Int))), .int .i64 0, .bool false, .string (ByteArray.mk (Array.mk [(75 : UInt8), (69 : UInt8), (69 : UInt8), (80 : UInt8), (69 : UInt8), (82 : UInt8)])), .int .i64 0, .bool false]]))) (.perm [3, 9] .nil)))))) (ho 6 2 (.app (3 : Nat) (7 : Nat) (.osf fun l ↦ .gho [4, 5] (ghOb
 (0 : Nat) (famG (45 : Nat) (3 : Nat) true (frW (TS.L x0) ++ [FR.mk (some (Addr.mk (bk (Prod.fst (nthO l (5 : Nat)))) (0 : Nat) none)) (2 : Nat) (2 : Nat) [Value.string (ByteArray.mk (Array.mk [(80 : UInt8), (76 : UInt8), (65 : UInt8), (89 : UInt8), (69 : UInt8), (82 : UInt8)])), .int .i64 0, .bool
 false, .string (gS (Squ.pl s) (Int.toNat (↑(TS.i x0) : Int))), .int .i64 0, .bool false]]))) (.perm [3, 8] .nil))))))))))))) (.specc [] [(TS.a x0, cLn (TS.L x0))] [famG (45 : TypeId) (3 : Nat) false (frW (TS.L x0))] [] Un (fun x ↦ x = Un.un) (fun x ↦ []) (fun x ↦ Value.string (wtS (TS.L x0))) [3]
 [4] [] fun x_7848 ↦ .perm [] .nil)))))))
theorem qtx_x (s : Squ) (B : RAd) : wpG Tryd.prog [] ([(B.a, cS s.pl)]) 400 7 [sqV s B] (qtx_h s B) ([]) (fun _ => .tuple #[.string (txE s), .int .i64 (sqk s)]) = (∀ (b : Nat), e1 b 4 (cS (Squ.pl s) = cS (Squ.pl s) /\ (SpecG Tryd.prog [] [(RAd.a B, cS (Squ.pl s))] (15 : FuncId) #[sqV s B] [] fun x ↦ Value.int .i64 (sqk s)) /\ (∀ (e : Ex), e ∈ [] -> e ∈ []) /\ ((sqk s != 0) = true -> Value.tuple (Array.mk [.string (ByteArray.mk (Array.mk [])), .int .i64 (sqk s)])
 = Value.tuple (Array.mk [.string (txE s), .int .i64 (sqk s)])) /\ ((sqk s != 0) = false -> b = b /\ ∀ (b_1 b_2 : Nat), b = b /\ AbsP [Ob.mk b_1 [Value.string (ByteArray.mk (Array.mk [(83 : UInt8), (73 : UInt8), (68 : UInt8), (69 : UInt8)])), .int .i64 0, .bool false, .string (Squ.nm s), .int .i64 0,
 .bool false] (45 : Nat) noOw] (ghOb (0 : Nat) (famG (45 : Nat) (3 : Nat) true [FR.mk (some (Addr.mk b_1 (0 : Nat) none)) (2 : Nat) (2 : Nat) [Value.string (ByteArray.mk (Array.mk [(83 : UInt8), (73 : UInt8), (68 : UInt8), (69 : UInt8)])), .int .i64 0, .bool false, .string (Squ.nm s), .int .i64 0,
 .bool false]])) /\ (∃ x, tI s x /\ Value.int .i64 0 = Value.int .i64 (↑(TS.i x) : Int) /\ Value.slice (some (Addr.mk b_2 (0 : Nat) none)) (1 : Nat) (1 : Nat) = Value.slice (TS.a x) (List.length (TS.L x)) (TS.c x) /\ ((40 : Nat) = (40 : Nat) /\ [Value.int .i64 0, .slice (some (Addr.mk b_1 (0 : Nat)
 none)) (2 : Nat) (2 : Nat)] = cLn (TS.L x) /\ List.length (cLn (TS.L x)) = List.length (TS.L x) * (2 : Nat) /\ TS.c x = List.length (TS.L x) /\ List.length (TS.L x) ≤ (1048576 : Nat) /\ TS.a x = some (Addr.mk b_2 (0 : Nat) none)) /\ (famG (45 : Nat) (3 : Nat) true [FR.mk (some (Addr.mk b_1 (0 : Nat)
 none)) (2 : Nat) (2 : Nat) [Value.string (ByteArray.mk (Array.mk [(83 : UInt8), (73 : UInt8), (68 : UInt8), (69 : UInt8)])), .int .i64 0, .bool false, .string (Squ.nm s), .int .i64 0, .bool false]] = famG (45 : Nat) (3 : Nat) true (frW (TS.L x)) /\ (none : Option Addr) = none /\ ([] : List Value) =
 []) /\ True) /\ ∀ (x0 : TS), tI s x0 -> ∀ (junk : Nat -> Value), (decide ((↑(TS.i x0) : Int) < (↑(List.length (Squ.pl s)) : Int)) = true -> (((0 : Int) ≤ (↑(TS.i x0) : Int) /\ (↑(TS.i x0) : Int) < (↑(List.length (Squ.pl s)) : Int)) /\ AOK (RAd.a B) (List.length (Squ.pl s))) /\ bk (RAd.a B) = bk
 (RAd.a B) /\ ofs (RAd.a B) + Int.toNat (↑(TS.i x0) : Int) * (1 : Nat) = ofs (RAd.a B) + Int.toNat (↑(TS.i x0) : Int) * (1 : Nat) /\ lgo (cS (Squ.pl s)) (Int.toNat (↑(TS.i x0) : Int) * (1 : Nat)) = some (Value.string (gS (Squ.pl s) (Int.toNat (↑(TS.i x0) : Int)))) /\ ∀ (b_3 b_4 : Nat), b_4 = b_4 /\
 True /\ b_4 = b_4 /\ True /\ b = b /\ ((Squ.ca s == IntKind.i64.wrap ((↑(TS.i x0) : Int) + (1 : Int))) = true -> b_4 = b_4 /\ ∀ (b_5 : Nat), some (Addr.mk b_3 (0 : Nat) none) = some (Addr.mk b_3 (0 : Nat) none) /\ b_5 = b_5 /\ (99 : Nat) ≤ (140737488355328 : Nat) /\ ∀ (g cap : Nat), b_4 = b_4 /\
 True /\ b = b /\ ((Squ.ke s == IntKind.i64.wrap ((↑(TS.i x0) : Int) + (1 : Int))) = true -> b_4 = b_4 /\ ∀ (b : Nat), some (Addr.mk g (0 : Nat) none) = some (Addr.mk g (0 : Nat) none) /\ (3 : Nat) = (3 : Nat) /\ cap = cap /\ b = b /\ (132 : Nat) ≤ (140737488355328 : Nat) /\ ∀ (g cap : Nat), b_4 =
 b_4 /\ True /\ b_4 = b_4 /\ b_4 = b_4 /\ ∀ (b : Nat), TS.a x0 = TS.a x0 /\ List.length (TS.L x0) = List.length (TS.L x0) /\ TS.c x0 = TS.c x0 /\ b = b /\ (List.length (TS.L x0) + (1 : Nat)) * (33 : Nat) ≤ (140737488355328 : Nat) /\ ∀ (g_1 cap_1 : Nat), AbsP [ghOb (0 : Nat) (famG (45 : TypeId) (3 :
 Nat) true (frW (TS.L x0))), Ob.mk (0 : Nat) [Value.string (ByteArray.mk (Array.mk [(80 : UInt8), (76 : UInt8), (65 : UInt8), (89 : UInt8), (69 : UInt8), (82 : UInt8)])), .int .i64 0, .bool false, .string (gS (Squ.pl s) (Int.toNat (↑(TS.i x0) : Int))), .int .i64 0, .bool false, .string (ByteArray.mk
 (Array.mk [(67 : UInt8), (65 : UInt8), (80 : UInt8), (84 : UInt8), (65 : UInt8), (73 : UInt8), (78 : UInt8)])), .int .i64 0, .bool false, .string (ByteArray.mk (Array.mk [(75 : UInt8), (69 : UInt8), (69 : UInt8), (80 : UInt8), (69 : UInt8), (82 : UInt8)])), .int .i64 0, .bool false] (45 : Nat) (some
 (Ow.mk (some (Addr.mk g (0 : Nat) none)) (4 : Nat) cap (3 : Nat)))] (ghOb (0 : Nat) (famG (45 : Nat) (3 : Nat) true (frW (TS.L x0) ++ [FR.mk (some (Addr.mk g (0 : Nat) none)) (4 : Nat) cap [Value.string (ByteArray.mk (Array.mk [(80 : UInt8), (76 : UInt8), (65 : UInt8), (89 : UInt8), (69 : UInt8),
 (82 : UInt8)])), .int .i64 0, .bool false, .string (gS (Squ.pl s) (Int.toNat (↑(TS.i x0) : Int))), .int .i64 0, .bool false, .string (ByteArray.mk (Array.mk [(67 : UInt8), (65 : UInt8), (80 : UInt8), (84 : UInt8), (65 : UInt8), (73 : UInt8), (78 : UInt8)])), .int .i64 0, .bool false, .string
 (ByteArray.mk (Array.mk [(75 : UInt8), (69 : UInt8), (69 : UInt8), (80 : UInt8), (69 : UInt8), (82 : UInt8)])), .int .i64 0, .bool false]]))) /\ ∃ y, tI s y /\ List.length (Squ.pl s) - TS.i y < List.length (Squ.pl s) - TS.i x0 /\ Value.int .i64 (IntKind.i64.wrap ((↑(TS.i x0) : Int) + (1 : Int))) =
 Value.int .i64 (↑(TS.i y) : Int) /\ Value.slice (some (Addr.mk g_1 (0 : Nat) none)) (List.length (TS.L x0) + (1 : Nat)) cap_1 = Value.slice (TS.a y) (List.length (TS.L y)) (TS.c y) /\ ((0 : Nat) = (0 : Nat) /\ lapp (cLn (TS.L x0)) [Value.int .i64 0, .slice (some (Addr.mk g (0 : Nat) none)) (4 : Nat)
 cap] = cLn (TS.L y) /\ (40 : Nat) = (40 : Nat) /\ some (Ow.mk (some (Addr.mk g_1 (0 : Nat) none)) (List.length (TS.L x0) + (1 : Nat)) cap_1 (2 : Nat)) = some (Ow.mk (TS.a y) (List.length (TS.L y)) (TS.c y) (2 : Nat))) /\ (famG (45 : Nat) (3 : Nat) true (frW (TS.L x0) ++ [FR.mk (some (Addr.mk g (0 :
 Nat) none)) (4 : Nat) cap [Value.string (ByteArray.mk (Array.mk [(80 : UInt8), (76 : UInt8), (65 : UInt8), (89 : UInt8), (69 : UInt8), (82 : UInt8)])), .int .i64 0, .bool false, .string (gS (Squ.pl s) (Int.toNat (↑(TS.i x0) : Int))), .int .i64 0, .bool false, .string (ByteArray.mk (Array.mk [(67 :
 UInt8), (65 : UInt8), (80 : UInt8), (84 : UInt8), (65 : UInt8), (73 : UInt8), (78 : UInt8)])), .int .i64 0, .bool false, .string (ByteArray.mk (Array.mk [(75 : UInt8), (69 : UInt8), (69 : UInt8), (80 : UInt8), (69 : UInt8), (82 : UInt8)])), .int .i64 0, .bool false]]) = famG (45 : Nat) (3 : Nat)
 true (frW (TS.L y)) /\ (none : Option Addr) = none /\ ([] : List Value) = []) /\ True) /\ ((Squ.ke s == IntKind.i64.wrap ((↑(TS.i x0) : Int) + (1 : Int))) = false -> b_4 = b_4 /\ b_4 = b_4 /\ ∀ (b : Nat), TS.a x0 = TS.a x0 /\ List.length (TS.L x0) = List.length (TS.L x0) /\ TS.c x0 = TS.c x0 /\ b =
 b /\ (List.length (TS.L x0) + (1 : Nat)) * (33 : Nat) ≤ (140737488355328 : Nat) /\ ∀ (g_1 cap_1 : Nat), AbsP [ghOb (0 : Nat) (famG (45 : TypeId) (3 : Nat) true (frW (TS.L x0))), Ob.mk (0 : Nat) [Value.string (ByteArray.mk (Array.mk [(80 : UInt8), (76 : UInt8), (65 : UInt8), (89 : UInt8), (69 :
 UInt8), (82 : UInt8)])), .int .i64 0, .bool false, .string (gS (Squ.pl s) (Int.toNat (↑(TS.i x0) : Int))), .int .i64 0, .bool false, .string (ByteArray.mk (Array.mk [(67 : UInt8), (65 : UInt8), (80 : UInt8), (84 : UInt8), (65 : UInt8), (73 : UInt8), (78 : UInt8)])), .int .i64 0, .bool false] (45 :
 Nat) (some (Ow.mk (some (Addr.mk g (0 : Nat) none)) (3 : Nat) cap (3 : Nat)))] (ghOb (0 : Nat) (famG (45 : Nat) (3 : Nat) true (frW (TS.L x0) ++ [FR.mk (some (Addr.mk g (0 : Nat) none)) (3 : Nat) cap [Value.string (ByteArray.mk (Array.mk [(80 : UInt8), (76 : UInt8), (65 : UInt8), (89 : UInt8), (69 :
 UInt8), (82 : UInt8)])), .int .i64 0, .bool false, .string (gS (Squ.pl s) (Int.toNat (↑(TS.i x0) : Int))), .int .i64 0, .bool false, .string (ByteArray.mk (Array.mk [(67 : UInt8), (65 : UInt8), (80 : UInt8), (84 : UInt8), (65 : UInt8), (73 : UInt8), (78 : UInt8)])), .int .i64 0, .bool false]]))) /\
 ∃ y, tI s y /\ List.length (Squ.pl s) - TS.i y < List.length (Squ.pl s) - TS.i x0 /\ Value.int .i64 (IntKind.i64.wrap ((↑(TS.i x0) : Int) + (1 : Int))) = Value.int .i64 (↑(TS.i y) : Int) /\ Value.slice (some (Addr.mk g_1 (0 : Nat) none)) (List.length (TS.L x0) + (1 : Nat)) cap_1 = Value.slice (TS.a
 y) (List.length (TS.L y)) (TS.c y) /\ ((0 : Nat) = (0 : Nat) /\ lapp (cLn (TS.L x0)) [Value.int .i64 0, .slice (some (Addr.mk g (0 : Nat) none)) (3 : Nat) cap] = cLn (TS.L y) /\ (40 : Nat) = (40 : Nat) /\ some (Ow.mk (some (Addr.mk g_1 (0 : Nat) none)) (List.length (TS.L x0) + (1 : Nat)) cap_1 (2 :
 Nat)) = some (Ow.mk (TS.a y) (List.length (TS.L y)) (TS.c y) (2 : Nat))) /\ (famG (45 : Nat) (3 : Nat) true (frW (TS.L x0) ++ [FR.mk (some (Addr.mk g (0 : Nat) none)) (3 : Nat) cap [Value.string (ByteArray.mk (Array.mk [(80 : UInt8), (76 : UInt8), (65 : UInt8), (89 : UInt8), (69 : UInt8), (82 :
 UInt8)])), .int .i64 0, .bool false, .string (gS (Squ.pl s) (Int.toNat (↑(TS.i x0) : Int))), .int .i64 0, .bool false, .string (ByteArray.mk (Array.mk [(67 : UInt8), (65 : UInt8), (80 : UInt8), (84 : UInt8), (65 : UInt8), (73 : UInt8), (78 : UInt8)])), .int .i64 0, .bool false]]) = famG (45 : Nat)
 (3 : Nat) true (frW (TS.L y)) /\ (none : Option Addr) = none /\ ([] : List Value) = []) /\ True)) /\ ((Squ.ca s == IntKind.i64.wrap ((↑(TS.i x0) : Int) + (1 : Int))) = false -> b = b /\ ((Squ.ke s == IntKind.i64.wrap ((↑(TS.i x0) : Int) + (1 : Int))) = true -> b_4 = b_4 /\ ∀ (b : Nat), some (Addr.mk
 b_3 (0 : Nat) none) = some (Addr.mk b_3 (0 : Nat) none) /\ b = b /\ (99 : Nat) ≤ (140737488355328 : Nat) /\ ∀ (g cap : Nat), b_4 = b_4 /\ True /\ b_4 = b_4 /\ b_4 = b_4 /\ ∀ (b : Nat), TS.a x0 = TS.a x0 /\ List.length (TS.L x0) = List.length (TS.L x0) /\ TS.c x0 = TS.c x0 /\ b = b /\ (List.length
 (TS.L x0) + (1 : Nat)) * (33 : Nat) ≤ (140737488355328 : Nat) /\ ∀ (g_1 cap_1 : Nat), AbsP [ghOb (0 : Nat) (famG (45 : TypeId) (3 : Nat) true (frW (TS.L x0))), Ob.mk (0 : Nat) [Value.string (ByteArray.mk (Array.mk [(80 : UInt8), (76 : UInt8), (65 : UInt8), (89 : UInt8), (69 : UInt8), (82 :
 UInt8)])), .int .i64 0, .bool false, .string (gS (Squ.pl s) (Int.toNat (↑(TS.i x0) : Int))), .int .i64 0, .bool false, .string (ByteArray.mk (Array.mk [(75 : UInt8), (69 : UInt8), (69 : UInt8), (80 : UInt8), (69 : UInt8), (82 : UInt8)])), .int .i64 0, .bool false] (45 : Nat) (some (Ow.mk (some
 (Addr.mk g (0 : Nat) none)) (3 : Nat) cap (3 : Nat)))] (ghOb (0 : Nat) (famG (45 : Nat) (3 : Nat) true (frW (TS.L x0) ++ [FR.mk (some (Addr.mk g (0 : Nat) none)) (3 : Nat) cap [Value.string (ByteArray.mk (Array.mk [(80 : UInt8), (76 : UInt8), (65 : UInt8), (89 : UInt8), (69 : UInt8), (82 :
 UInt8)])), .int .i64 0, .bool false, .string (gS (Squ.pl s) (Int.toNat (↑(TS.i x0) : Int))), .int .i64 0, .bool false, .string (ByteArray.mk (Array.mk [(75 : UInt8), (69 : UInt8), (69 : UInt8), (80 : UInt8), (69 : UInt8), (82 : UInt8)])), .int .i64 0, .bool false]]))) /\ ∃ y, tI s y /\ List.length
 (Squ.pl s) - TS.i y < List.length (Squ.pl s) - TS.i x0 /\ Value.int .i64 (IntKind.i64.wrap ((↑(TS.i x0) : Int) + (1 : Int))) = Value.int .i64 (↑(TS.i y) : Int) /\ Value.slice (some (Addr.mk g_1 (0 : Nat) none)) (List.length (TS.L x0) + (1 : Nat)) cap_1 = Value.slice (TS.a y) (List.length (TS.L y))
 (TS.c y) /\ ((0 : Nat) = (0 : Nat) /\ lapp (cLn (TS.L x0)) [Value.int .i64 0, .slice (some (Addr.mk g (0 : Nat) none)) (3 : Nat) cap] = cLn (TS.L y) /\ (40 : Nat) = (40 : Nat) /\ some (Ow.mk (some (Addr.mk g_1 (0 : Nat) none)) (List.length (TS.L x0) + (1 : Nat)) cap_1 (2 : Nat)) = some (Ow.mk (TS.a
 y) (List.length (TS.L y)) (TS.c y) (2 : Nat))) /\ (famG (45 : Nat) (3 : Nat) true (frW (TS.L x0) ++ [FR.mk (some (Addr.mk g (0 : Nat) none)) (3 : Nat) cap [Value.string (ByteArray.mk (Array.mk [(80 : UInt8), (76 : UInt8), (65 : UInt8), (89 : UInt8), (69 : UInt8), (82 : UInt8)])), .int .i64 0, .bool
 false, .string (gS (Squ.pl s) (Int.toNat (↑(TS.i x0) : Int))), .int .i64 0, .bool false, .string (ByteArray.mk (Array.mk [(75 : UInt8), (69 : UInt8), (69 : UInt8), (80 : UInt8), (69 : UInt8), (82 : UInt8)])), .int .i64 0, .bool false]]) = famG (45 : Nat) (3 : Nat) true (frW (TS.L y)) /\ (none :
 Option Addr) = none /\ ([] : List Value) = []) /\ True) /\ ((Squ.ke s == IntKind.i64.wrap ((↑(TS.i x0) : Int) + (1 : Int))) = false -> b_4 = b_4 /\ b_4 = b_4 /\ ∀ (b : Nat), TS.a x0 = TS.a x0 /\ List.length (TS.L x0) = List.length (TS.L x0) /\ TS.c x0 = TS.c x0 /\ b = b /\ (List.length (TS.L x0) +
 (1 : Nat)) * (33 : Nat) ≤ (140737488355328 : Nat) /\ ∀ (g cap : Nat), AbsP [ghOb (0 : Nat) (famG (45 : TypeId) (3 : Nat) true (frW (TS.L x0))), Ob.mk b_3 [Value.string (ByteArray.mk (Array.mk [(80 : UInt8), (76 : UInt8), (65 : UInt8), (89 : UInt8), (69 : UInt8), (82 : UInt8)])), .int .i64 0, .bool
 false, .string (gS (Squ.pl s) (Int.toNat (↑(TS.i x0) : Int))), .int .i64 0, .bool false] (45 : Nat) noOw] (ghOb (0 : Nat) (famG (45 : Nat) (3 : Nat) true (frW (TS.L x0) ++ [FR.mk (some (Addr.mk b_3 (0 : Nat) none)) (2 : Nat) (2 : Nat) [Value.string (ByteArray.mk (Array.mk [(80 : UInt8), (76 :
 UInt8), (65 : UInt8), (89 : UInt8), (69 : UInt8), (82 : UInt8)])), .int .i64 0, .bool false, .string (gS (Squ.pl s) (Int.toNat (↑(TS.i x0) : Int))), .int .i64 0, .bool false]]))) /\ ∃ y, tI s y /\ List.length (Squ.pl s) - TS.i y < List.length (Squ.pl s) - TS.i x0 /\ Value.int .i64 (IntKind.i64.wrap
 ((↑(TS.i x0) : Int) + (1 : Int))) = Value.int .i64 (↑(TS.i y) : Int) /\ Value.slice (some (Addr.mk g (0 : Nat) none)) (List.length (TS.L x0) + (1 : Nat)) cap = Value.slice (TS.a y) (List.length (TS.L y)) (TS.c y) /\ ((0 : Nat) = (0 : Nat) /\ lapp (cLn (TS.L x0)) [Value.int .i64 0, .slice (some
 (Addr.mk b_3 (0 : Nat) none)) (2 : Nat) (2 : Nat)] = cLn (TS.L y) /\ (40 : Nat) = (40 : Nat) /\ some (Ow.mk (some (Addr.mk g (0 : Nat) none)) (List.length (TS.L x0) + (1 : Nat)) cap (2 : Nat)) = some (Ow.mk (TS.a y) (List.length (TS.L y)) (TS.c y) (2 : Nat))) /\ (famG (45 : Nat) (3 : Nat) true (frW
 (TS.L x0) ++ [FR.mk (some (Addr.mk b_3 (0 : Nat) none)) (2 : Nat) (2 : Nat) [Value.string (ByteArray.mk (Array.mk [(80 : UInt8), (76 : UInt8), (65 : UInt8), (89 : UInt8), (69 : UInt8), (82 : UInt8)])), .int .i64 0, .bool false, .string (gS (Squ.pl s) (Int.toNat (↑(TS.i x0) : Int))), .int .i64 0,
 .bool false]]) = famG (45 : Nat) (3 : Nat) true (frW (TS.L y)) /\ (none : Option Addr) = none /\ ([] : List Value) = []) /\ True))) /\ (decide ((↑(TS.i x0) : Int) < (↑(List.length (Squ.pl s)) : Int)) = false -> (SpecC Tryd.prog [] [(TS.a x0, cLn (TS.L x0))] [famG (45 : TypeId) (3 : Nat) false (frW
 (TS.L x0))] [] (16 : FuncId) #[Value.slice (TS.a x0) (List.length (TS.L x0)) (TS.c x0)] Un (fun x ↦ x = Un.un) (fun x ↦ []) fun x ↦ Value.string (wtS (TS.L x0))) /\ (∀ (e : Ex), e ∈ [] -> e ∈ []) /\ True /\ ((TS.a x0 = TS.a x0 /\ cLn (TS.L x0) = cLn (TS.L x0)) /\ True) /\ (Gh.mk false (Gh.dep (famG
 (45 : TypeId) (3 : Nat) true (frW (TS.L x0)))) (Gh.ok (famG (45 : TypeId) (3 : Nat) true (frW (TS.L x0)))) (Gh.lt (famG (45 : Nat) (3 : Nat) true (frW (TS.L x0)))) (Gh.same (famG (45 : Nat) (3 : Nat) true (frW (TS.L x0)))) = Gh.mk false (Gh.dep (famG (45 : TypeId) (3 : Nat) false (frW (TS.L x0))))
 (Gh.ok (famG (45 : TypeId) (3 : Nat) false (frW (TS.L x0)))) (Gh.lt (famG (45 : Nat) (3 : Nat) false (frW (TS.L x0)))) (Gh.same (famG (45 : Nat) (3 : Nat) false (frW (TS.L x0)))) /\ True) /\ ∀ (x_7848 : Un), x_7848 = Un.un -> Value.tuple (Array.mk [.string (wtS (TS.L x0)), .int .i64 0]) =
 Value.tuple (Array.mk [.string (txE s), .int .i64 (sqk s)]))))) := by kernel_rfl
set_option maxHeartbeats 4000000 in
theorem qtx_sp (s : Squ) (B : RAd) (hB : AOK B.a s.pl.length) (hc : s.pl.length ≤ B.c) (hl : s.pl.length ≤ 13) (hn : s.nm.size ≤ 20) (hp : ∀ x ∈ s.pl, x.size ≤ 20) : SpecG Tryd.prog [] ([(B.a, cS s.pl)]) 7 #[sqV s B] ([]) (fun _ => .tuple #[.string (txE s), .int .i64 (sqk s)]) := by
  refine specG_of (h := qtx_h s B) (?_ : wpG Tryd.prog [] ([(B.a, cS s.pl)]) 400 7 [sqV s B] (qtx_h s B) ([]) (fun _ => .tuple #[.string (txE s), .int .i64 (sqk s)]))
  rw [qtx_x]
  (repeat' (first | with_reducible exact rfl | exact trivial | with_reducible assumption | exact scr_sp s B hB hc (Nat.le_trans hl (by decide)) (Nat.le_trans hn (by decide)) (fun x h => Nat.le_trans (hp x h) (by decide)) | exact rwr_c _ _ _ ‹tI s _›.2.2.1 ‹tI s _›.2.2.2 (tI_fine ‹tI s _› hl hn hp) | exact cU_len _ | exact cI_len _ | exact cB_len _ | exact cU_one _ | exact cI_one _ | exact cB_one _ | exact (fun _ h => h) | exact (fun _ h => (List.not_mem_nil h).elim) | exact cS_len _ | exact cS_one _ | (with_reducible refine e1_in ?_) | (with_reducible refine e2_in ?_) | (with_reducible refine lx_in (Nat.le_of_ble_eq_true rfl) ?_) | (with_reducible refine rqx_rf ?_) | (with_reducible refine rqx_in ?_ ?_ ?_) | (with_reducible apply And.intro) | (with_reducible intro _)))
  all_goals (try (rw [tx_no ‹_›]; done))
  all_goals (try (exact tx_ok ‹_› ‹tI s _› ‹_›))
  all_goals (try (first | decide | omega | exact rfl))
  all_goals (try (first | exact famG_new 0 (famG_join1 (by decide) 0 [] _ _ _ _) | exact famG_join1 (by decide) 0 _ _ _ _ _ | exact famG_new 0 (famG_joinP (by decide) 0 [] _ _ _ rfl (by simp) (by decide)) | exact famG_joinP (by decide) 0 _ _ _ _ rfl (by simp) (by decide)))
  all_goals (try (exact ⟨⟨0, _, 1, [⟨_, _, [SID, s.nm]⟩]⟩, tI_0 s _ _ _ (by first | assumption | exact aokp _ _) (aokp _ _), rfl, rfl, ⟨rfl, rfl, rfl, rfl, Nat.le_of_ble_eq_true rfl, rfl⟩, ⟨rfl, rfl, rfl⟩, trivial⟩))
  all_goals (try (have hx := ‹tI s _›; have hb := tI_b hx hl; have hf := ‹decide (((TS.i _ : Nat) : Int) < (s.pl.length : Int)) = true›; exact ⟨nxT hx _ _ _ _ _, tI_s hx hf (sqW_er ‹_› ‹_› (by omega)).symm _ _ (by first | assumption | exact aokp _ _), tI_mu hf, wr_k2 (by omega), slL rfl (by simp) rfl, ⟨rfl, cLn_app _ rfl, rfl, owL rfl (by simp) rfl⟩, ⟨fmW _ _ _ rfl rfl, rfl, rfl⟩, trivial⟩))
  all_goals (try (have hx := ‹tI s _›; have hb := tI_b hx hl; have hg := of_decide_eq_true ‹decide (((TS.i _ : Nat) : Int) < (s.pl.length : Int)) = true›; (try simp only [Int.toNat_natCast]); first | omega | (refine cS_get ?_; omega)))
  
end Go.Proofs.YtjdldofgkhibnaaDoor
