import Derived.Test.YtpjegpgnelfeeaaJoin2
namespace Go.Proofs.Ytpjegpgnelfeeaa
open Go.ChangeShapes Go.WideShapes Go.ChangeAt Go.RowKit
set_option linter.unusedVariables false

theorem tw_any (n : Nat) (h : n < 340282366920938463463374607431768211456) : ∃ h l, Tw n h l := ⟨n / 18446744073709551616, n % 18446744073709551616, by omega, by omega, by omega⟩
set_option maxHeartbeats 4000000 in
theorem twinMuls_walk (p1 p2 : Int) (wp1 : (Lit.int .u64 p1).wf = true) (wp2 : (Lit.int .u64 p2).wf = true) (w : World) :
    Calls Try.prog 5 #[.int .u64 p1, .int .u64 p2] w fun e w' => e = .returned (.bool true) ∧ Below w.heap.size w w' := by
  refine cps fun Q hQ => ?_
  obtain ⟨x, rfl, bx⟩ := nat_of_u64 wp1
  obtain ⟨y, rfl, bY⟩ := nat_of_u64 wp2
  have hlt : x * y < 340282366920938463463374607431768211456 := by
    have := Nat.mul_le_mul (show x ≤ 18446744073709551615 by omega) (show y ≤ 18446744073709551615 by omega)
    omega
  obtain ⟨h1, l1, s1⟩ := tw_any (x * y) hlt
  have k2 := fun w => tmul_any (by omega) (by omega) s1 w
  have k3 := fun w => rmul_any (by omega) (by omega) s1 w
  clear s1 hlt
  go_enter Try.func5, Try.ntmps5
  go_wp2_with (first
    | (go_at_call 9; refine (hup_any _).mono ?_; rintro e w1 ⟨rfl, hb1⟩)
    | (go_at_call 16; refine (k2 _).mono ?_; rintro e w2 ⟨rfl, hb2⟩)
    | (go_at_call 17; refine (k3 _).mono ?_; rintro e w3 ⟨rfl, hb3⟩))
  exact hQ.out _ _ ⟨by simp, bthen (bthen hb1 hb2) hb3⟩
end Go.Proofs.Ytpjegpgnelfeeaa
