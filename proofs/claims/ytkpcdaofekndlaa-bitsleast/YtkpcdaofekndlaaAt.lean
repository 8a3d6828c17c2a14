/-
  The contracts of package bits, for arguments and answers that are written in any form.
-/
import Derived.Test.YtkpcdaofekndlaaCon
import Derived.Test.YtkpcdaofekndlaaMore
namespace Go.Proofs.Ytkpcdaofekndlaa
open Go.ChangeShapes Go.WideShapes Go.ChangeAt Go.RowKit

theorem up_at {i j : Int} (n a x : Nat) (p : Bool) (ei : i = n) (ej : j = a) (hn : n < 18446744073709551616) (ha : a < 18446744073709551616) (ex : M.upV n a = x) (ep : M.upB n a = p) (w : World) :
    Calls Try.prog 17 #[.int .u64 i, .int .u64 j] w fun e w' => e = .returned (.tuple #[.int .u64 x, .bool p]) ∧ w = w' := by
  subst ei ej ex ep; exact up_any n a hn ha w
theorem add_at {i j : Int} (n a x : Nat) (p : Bool) (ei : i = n) (ej : j = a) (hn : n < 18446744073709551616) (ha : a < 18446744073709551616) (ex : M.addV n a = x) (ep : M.addB n a = p) (w : World) :
    Calls Try.prog 19 #[.int .u64 i, .int .u64 j] w fun e w' => e = .returned (.tuple #[.int .u64 x, .bool p]) ∧ w = w' := by
  subst ei ej ex ep; exact add_any n a hn ha w
theorem in_at {i j l : Int} (n a z : Nat) (p : Bool) (ei : i = n) (ej : j = a) (el : l = z) (hn : n < 18446744073709551616) (ha : a < 18446744073709551616) (ep : M.inB n a z = p) (w : World) :
    Calls Try.prog 21 #[.int .u64 i, .int .u64 j, .int .u64 l] w fun e w' => e = .returned (.bool p) ∧ w = w' := by
  subst ei ej el ep; exact in_any n a z hn ha w
theorem pages_at {i : Int} (n x : Nat) (ei : i = n) (hn : n < 18446744073709551616) (ex : M.pgs n = x) (w : World) :
    Calls Try.prog 23 #[.int .u64 i] w fun e w' => e = .returned (.int .u64 x) ∧ w = w' := by
  subst ei ex; exact pages_any n hn w
theorem pow_at {i : Int} (n : Nat) (p : Bool) (ei : i = n) (hn : n < 18446744073709551616) (ex : M.powB n = p) (w : World) :
    Calls Try.prog 11 #[.int .u64 i] w fun e w' => e = .returned (.bool p) ∧ w = w' := by
  subst ei ex; exact pow_any n hn w
theorem log_at {i : Int} (n : Nat) (x : Int) (ei : i = n) (hn : n < 18446744073709551616) (ex : (M.size n : Int) - 1 = x) (w : World) :
    Calls Try.prog 13 #[.int .u64 i] w fun e w' => e = .returned (.int .i64 x) ∧ Grown w w' := by
  subst ei ex; exact log_any n hn w
theorem ceil_at {i : Int} (n x : Nat) (ei : i = n) (hn : n < 18446744073709551616) (ex : M.size (n - 1) = x) (w : World) :
    Calls Try.prog 15 #[.int .u64 i] w fun e w' => e = .returned (.int .i64 x) ∧ Grown w w' := by
  subst ei ex; exact ceil_any n hn w
theorem shifted64 (k : Nat) : ∃ a : Nat, IntKind.u64.wrap (2 ^ (k % 64)) = a ∧ M.powB a = true ∧ a < 18446744073709551616 := by
  have hp : 2 ^ (k % 64) < 18446744073709551616 := Nat.pow_lt_pow_of_lt (by decide) (Nat.mod_lt _ (by decide))
  refine ⟨2 ^ (k % 64), ?_, M.powB_two_pow _, hp⟩
  rw [wrapU, show ((2 : Int) ^ (k % 64)) = ((2 ^ (k % 64) : Nat) : Int) by simp]
  generalize 2 ^ (k % 64) = p at hp
  omega
theorem shifted32 (k : Nat) : ∃ a : Nat, IntKind.u64.wrap (2 ^ (k % 32)) = a ∧ M.powB a = true ∧ a < 4294967296 := by
  have hp : 2 ^ (k % 32) < 4294967296 := Nat.pow_lt_pow_of_lt (by decide) (Nat.mod_lt _ (by decide))
  refine ⟨2 ^ (k % 32), ?_, M.powB_two_pow _, hp⟩
  rw [wrapU, show ((2 : Int) ^ (k % 32)) = ((2 ^ (k % 32) : Nat) : Int) by simp]
  generalize 2 ^ (k % 32) = p at hp
  omega
end Go.Proofs.Ytkpcdaofekndlaa
