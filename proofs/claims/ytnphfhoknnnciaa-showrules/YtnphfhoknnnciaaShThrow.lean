/-
  Layer 4 (show): what is thrown, and the error that was.
-/
import Derived.Test.YtnphfhoknnnciaaShSmall
namespace Go.Proofs.Ytnphfhoknnnciaa
open Go.RowKit

/-- an error that was thrown -/
def thrownE (n : Int) : Ending := .panicked [{ v := .iface 28 (.int .i64 n), recovered := false }]

set_option maxHeartbeats 400000 in
theorem throwUnless_ok (n : Int) (w : World) : Calls Try.prog 70 #[.bool true, .int .i64 n] w fun e w' => e = .returned (.tuple #[]) ∧ w' = w := by
  go_enter Try.func70, Try.ntmps70
  go_wp2
  go_end0
  exact ⟨rfl, rfl⟩

set_option maxHeartbeats 400000 in
theorem throwUnless_no (n : Int) (w : World) : Calls Try.prog 70 #[.bool false, .int .i64 n] w fun e w' => e = thrownE n ∧ w' = w := by
  unfold thrownE
  go_enter Try.func70, Try.ntmps70
  go_wp2
  exact ⟨rfl, rfl, rfl⟩

theorem assert_errno (x : Value) (w : World) : (Instr.typeAssert (.iface 28 x) 20 28 true).run Try.prog w = .ok (.tuple #[x, .bool true]) w := by kernel_rfl

set_option maxRecDepth 10000 in
set_option maxHeartbeats 800000 in
theorem errorOf_is (n : Int) (w : World) : Calls Try.prog 69 #[.iface 28 (.int .i64 n)] w fun e w' => e = .returned (.int .i64 n) ∧ w' = w := by
  have hta := assert_errno (.int .i64 n)
  go_enter Try.func69, Try.ntmps69
  go_wp2
  go_ret
  exact ⟨rfl, rfl⟩
end Go.Proofs.Ytnphfhoknnnciaa
