/- Names, and the check of rules, of both. The reference. -/
import Derived.Test.YtjdldofgkhibnaaDoorVz
import Derived.KernelRfl
import Derived.Test.YtjdldofgkhibnaaDoorProg
import Derived.Test.YtjdldofgkhibnaaDoorRda
import Derived.Test.YtjdldofgkhibnaaDoorRub
set_option linter.unusedSimpArgs false
set_option linter.unusedVariables false
set_option maxRecDepth 100000
namespace Go.Proofs.YtjdldofgkhibnaaDoor
open Go.RowKit

def rnm_h (b : ByteArray) : Hint := .nc (.cut [((11 : Nat), .bool (ByteArray.toList b == ByteArray.toList (ByteArray.mk (Array.mk [])) || decide ((↑(ByteArray.size b) : Int) > (16 : Int))))] (.pl (.split (.lit (.lit (.lit .nil))) (.lit (.pl (.lit (.lit .nil)))))) (.split (.perm [] .nil) (.inv (nmR b) fun x0 ↦ .pl (.split (.ix (.cut
 [((26 : Nat), .bool (decide (chI b x0 ≥ 65) && decide (chI b x0 ≤ 90)))] (.split (.lit (.lit .nil)) (.lit (.lit .nil))) (.split (.perm [] .nil) (.cut [((44 : Nat), .bool ((↑x0 : Int) == (0 : Int) || chI b x0 != 95 && (chI b x0 != 45 && (decide (chI b x0 < 48) || decide (chI b x0 > 57)))))] (.pl
 (.split (hl 5 (.lit .nil)) (.lit (.pl (.lit (.split (.lit (.pl (hl 3 (.split (.lit (.lit (.split (hl 5 (.lit .nil)) (hl 5 (.lit .nil))))) (hl 5 (.lit .nil)))))) (hl 10 (.lit .nil)))))))) (.split (.perm [] .nil) (.perm [] .nil)))))) (.perm [] .nil)))))
theorem rnm_x (b : ByteArray) : wpG Tryd.prog [] ([]) 400 27 [.string b] (rnm_h b) ([]) (fun _ => .bool (nmOk b)) = ((((ByteArray.toList b == ByteArray.toList (ByteArray.mk (Array.mk []))) = true -> Value.bool true = Value.bool (ByteArray.toList b == ByteArray.toList (ByteArray.mk (Array.mk [])) || decide ((↑(ByteArray.size b) : Int) > (16 : Int))) /\ True) /\ ((ByteArray.toList b == ByteArray.toList (ByteArray.mk
 (Array.mk []))) = false -> Value.bool (decide ((↑(ByteArray.size b) : Int) > (16 : Int))) = Value.bool (ByteArray.toList b == ByteArray.toList (ByteArray.mk (Array.mk [])) || decide ((↑(ByteArray.size b) : Int) > (16 : Int))) /\ True)) /\ ∀ (junk : Nat -> Value), ((ByteArray.toList b ==
 ByteArray.toList (ByteArray.mk (Array.mk [])) || decide ((↑(ByteArray.size b) : Int) > (16 : Int))) = true -> Value.bool false = Value.bool (nmOk b)) /\ ((ByteArray.toList b == ByteArray.toList (ByteArray.mk (Array.mk [])) || decide ((↑(ByteArray.size b) : Int) > (16 : Int))) = false -> (∃ x, nmJ b
 x /\ Value.int .i64 0 = Value.int .i64 (↑x : Int) /\ True) /\ ∀ (x0 : Nat), nmJ b x0 -> ∀ (junk : Nat -> Value), (decide ((↑x0 : Int) < (↑(ByteArray.size b) : Int)) = true -> ((0 : Int) ≤ (↑x0 : Int) /\ (↑x0 : Int) < (↑(ByteArray.size b) : Int)) /\ ((decide (chI b x0 ≥ 65) = true -> Value.bool
 (decide (chI b x0 ≤ 90)) = Value.bool (decide (chI b x0 ≥ 65) && decide (chI b x0 ≤ 90)) /\ True) /\ (decide (chI b x0 ≥ 65) = false -> Value.bool false = Value.bool (decide (chI b x0 ≥ 65) && decide (chI b x0 ≤ 90)) /\ True)) /\ ∀ (junk : Nat -> Value), ((decide (chI b x0 ≥ 65) && decide (chI b x0
 ≤ 90)) = true -> ∃ y, nmJ b y /\ ByteArray.size b - y < ByteArray.size b - x0 /\ Value.int .i64 (IntKind.i64.wrap ((↑x0 : Int) + (1 : Int))) = Value.int .i64 (↑y : Int) /\ True) /\ ((decide (chI b x0 ≥ 65) && decide (chI b x0 ≤ 90)) = false -> ((((↑x0 : Int) == (0 : Int)) = true -> Value.bool true =
 Value.bool ((↑x0 : Int) == (0 : Int) || chI b x0 != 95 && (chI b x0 != 45 && (decide (chI b x0 < 48) || decide (chI b x0 > 57)))) /\ True) /\ (((↑x0 : Int) == (0 : Int)) = false -> ((chI b x0 != 95) = true -> ((chI b x0 != 45) = true -> (decide (chI b x0 < 48) = true -> Value.bool true = Value.bool
 ((↑x0 : Int) == (0 : Int) || chI b x0 != 95 && (chI b x0 != 45 && (decide (chI b x0 < 48) || decide (chI b x0 > 57)))) /\ True) /\ (decide (chI b x0 < 48) = false -> Value.bool (decide (chI b x0 > 57)) = Value.bool ((↑x0 : Int) == (0 : Int) || chI b x0 != 95 && (chI b x0 != 45 && (decide (chI b x0 <
 48) || decide (chI b x0 > 57)))) /\ True)) /\ ((chI b x0 != 45) = false -> Value.bool false = Value.bool ((↑x0 : Int) == (0 : Int) || chI b x0 != 95 && (chI b x0 != 45 && (decide (chI b x0 < 48) || decide (chI b x0 > 57)))) /\ True)) /\ ((chI b x0 != 95) = false -> Value.bool false = Value.bool
 ((↑x0 : Int) == (0 : Int) || chI b x0 != 95 && (chI b x0 != 45 && (decide (chI b x0 < 48) || decide (chI b x0 > 57)))) /\ True))) /\ ∀ (junk : Nat -> Value), (((↑x0 : Int) == (0 : Int) || chI b x0 != 95 && (chI b x0 != 45 && (decide (chI b x0 < 48) || decide (chI b x0 > 57)))) = true -> Value.bool
 false = Value.bool (nmOk b)) /\ (((↑x0 : Int) == (0 : Int) || chI b x0 != 95 && (chI b x0 != 45 && (decide (chI b x0 < 48) || decide (chI b x0 > 57)))) = false -> ∃ y, nmJ b y /\ ByteArray.size b - y < ByteArray.size b - x0 /\ Value.int .i64 (IntKind.i64.wrap ((↑x0 : Int) + (1 : Int))) = Value.int
 .i64 (↑y : Int) /\ True))) /\ (decide ((↑x0 : Int) < (↑(ByteArray.size b) : Int)) = false -> Value.bool true = Value.bool (nmOk b)))) := by kernel_rfl
set_option maxHeartbeats 4000000 in
theorem rnm_sp (b : ByteArray) (hl : b.size ≤ 1000000) : SpecG Tryd.prog [] ([]) 27 #[.string b] ([]) (fun _ => .bool (nmOk b)) := by
  refine specG_of (h := rnm_h b) (?_ : wpG Tryd.prog [] ([]) 400 27 [.string b] (rnm_h b) ([]) (fun _ => .bool (nmOk b)))
  rw [rnm_x]
  simp only [em_sz]
  (repeat' (first | with_reducible exact rfl | exact trivial | with_reducible assumption | exact cU_len _ | exact cI_len _ | exact cB_len _ | exact cU_one _ | exact cI_one _ | exact cB_one _ | exact (fun _ h => h) | exact (fun _ h => (List.not_mem_nil h).elim) | (with_reducible refine e1_in ?_) | (with_reducible refine e2_in ?_) | (with_reducible refine lx_in (Nat.le_of_ble_eq_true rfl) ?_) | (with_reducible refine rqx_rf ?_) | (with_reducible refine rqx_in ?_ ?_ ?_) | (with_reducible apply And.intro) | (with_reducible intro _)))
  all_goals (try (first | (simp only [*, Bool.and_true, Bool.true_and, Bool.and_false, Bool.false_and, Bool.or_true, Bool.true_or, Bool.or_false, Bool.false_or, Bool.not_true, Bool.not_false, cond_true, cond_false]; done) | (simp only [decide_eq_true_eq, decide_eq_false_iff_not] at *; first | omega | (simp_all; done))))
  all_goals first
    | exact ⟨0, nm_0 b, rfl, trivial⟩ | exact ⟨0, ⟨nm_0 b, fun h => absurd h (by decide)⟩, rfl, trivial⟩
    | (have h := ‹(decide _ || (decide _ || !(_ && _))) = true›; rw [nm_first h])
    | (have h := ‹(decide _ || decide _) = true›; rw [nr_first h])
    | (have hx := ‹nmI b _›; have hf := of_decide_eq_true ‹decide (((_ : Nat) : Int) < (b.size : Int)) = true›; have h := ‹(!(_ && _) && (!(_ && _) && _)) = true›; rw [nmO_f] at h; rw [nm_bad (Int.ofNat_lt.1 hf) (by simpa using h)])
    | (have hx := ‹nmI b _›; have hf := of_decide_eq_true ‹decide (((_ : Nat) : Int) < (b.size : Int)) = true›; have h := ‹(!(_ && _) && (!(_ && _) && _)) = false›; rw [nmO_f] at h; have := hx.1; exact ⟨_, nm_step hx (Int.ofNat_lt.1 hf) (by simpa using h), (by show _ - (_ + 1) < _; omega), (by rw [IntWalk.i64_in _ (by omega)]; rfl), trivial⟩)
    | (have hx := ‹nmI b _›; have hf := of_decide_eq_false ‹decide (((_ : Nat) : Int) < (b.size : Int)) = false›; have h := ‹(decide _ || (decide _ || !(_ && _))) = false›; rw [nm_all h hx hf])
    | (have hx := ‹nmJ b _›; have hf := of_decide_eq_true ‹decide (((_ : Nat) : Int) < (b.size : Int)) = true›; have hs := hl; have hc := ‹(decide _ && decide _) = true›; exact ⟨_, nr_cap hx (Int.ofNat_lt.1 hf) hc, (by show _ - (_ + 1) < _; omega), (by rw [IntWalk.i64_in _ (by omega)]; rfl), trivial⟩)
    | (have hx := ‹nmJ b _›; have hf := of_decide_eq_true ‹decide (((_ : Nat) : Int) < (b.size : Int)) = true›; have hs := hl; have hc := ‹(decide _ && decide _) = false›; have h := ‹((_ : Int) == 0 || (_ && _)) = false›; exact ⟨_, nr_oth hx (Int.ofNat_lt.1 hf) hc h, (by show _ - (_ + 1) < _; omega), (by rw [IntWalk.i64_in _ (by omega)]; rfl), trivial⟩)
    | (have hx := ‹nmJ b _›; have hf := of_decide_eq_true ‹decide (((_ : Nat) : Int) < (b.size : Int)) = true›; have hc := ‹(decide _ && decide _) = false›; have h := ‹((_ : Int) == 0 || (_ && _)) = true›; rw [nr_bad (Int.ofNat_lt.1 hf) hc h])
    | (have hx := ‹nmJ b _›; have hf := of_decide_eq_false ‹decide (((_ : Nat) : Int) < (b.size : Int)) = false›; have h := ‹(decide _ || decide _) = false›; rw [nr_all h hx hf])
    | trace_state
end Go.Proofs.YtjdldofgkhibnaaDoor
