import Derived.Test.YtajlgpamcpgalaaRndStub
import Derived.Test.YtajlgpamcpgalaaRndN
import Derived.Test.YtajlgpamcpgalaaCode
namespace Go.Proofs.Ytajlgpamcpgalaa
open Go.ChangeShapes Go.WideShapes Go.ChangeAt Go.RowKit
set_option linter.unusedVariables false
set_option linter.unusedSimpArgs false
set_option maxRecDepth 100000

/-- the head of all laws of this layer -/
theorem rup_any (w : World) : Calls Try.prog 9 #[] w fun e w' => e = .returned (.bool true) ∧ Below w.heap.size w w' := by
  have k1 := fun w => rround_real 8 false 22 9223372036854775808 0 false (.inl rfl) (by decide) ⟨by decide, by decide, by decide⟩ w
  have k2 := fun w => rround_real 8 false 23 9223372036854775808 0 false (.inl rfl) (by decide) ⟨by decide, by decide, by decide⟩ w
  rw [show patR 8 false (rndX 8 22 9223372036854775808 0 false) = 126 by decide +kernel] at k1
  rw [show patR 8 false (rndX 8 23 9223372036854775808 0 false) = 127 by decide +kernel] at k2
  unfold exV at k1 k2
  rw [show ((9223372036854775808 : Nat) : Int) = 9223372036854775808 from rfl, show ((0 : Nat) : Int) = 0 from rfl] at k1 k2
  rw [show ((126 : Nat) : Int) = 126 from rfl] at k1
  rw [show ((127 : Nat) : Int) = 127 from rfl] at k2
  refine cps fun Q hQ => ?_
  go_enter Try.func9, Try.ntmps9
  go_wp2_with (first
    | (go_at_call_of 17 (22 : Int); refine (k1 _).mono ?_; rintro e w1 ⟨rfl, hb1⟩)
    | (go_at_call 17; refine (k2 _).mono ?_; rintro e w2 ⟨rfl, hb2⟩))
  exact hQ.out _ _ ⟨rfl, hb1.trans (hb2.mono hb1.size)⟩
theorem soundX_cases {k : Int} {neg : Bool} {s : Int} {hi lo : Nat} {rest : Bool} (h : soundX k neg s hi lo rest = true) : (k = 0 ∧ neg = false ∧ s = 0 ∧ hi = 0 ∧ lo = 0 ∧ rest = false) ∨ (k = 2 ∧ neg = false ∧ s = 0 ∧ hi = 0 ∧ lo = 0 ∧ rest = false) ∨ k = 1 := by
  unfold soundX at h
  split at h
  · rename_i hk
    have := of_decide_eq_true h
    rcases hk with rfl | rfl
    · exact .inl ⟨rfl, this⟩
    · exact .inr (.inl ⟨rfl, this⟩)
  · exact .inr (.inr (of_decide_eq_true h).1)
theorem soundX_top {neg : Bool} {s : Int} {hi lo : Nat} {rest : Bool} (h : soundX 1 neg s hi lo rest = true) : 9223372036854775808 ≤ hi := by
  unfold soundX at h
  rw [if_neg (by decide)] at h
  exact (of_decide_eq_true h).2.1
theorem rounds7_no (n : Int) (k : Int) (neg : Bool) (s : Int) (hi lo : Nat) (rest : Bool) (hn : isW n = false) (w : World) :
    Calls Try.prog 18 #[.int .i64 n, exV k neg s hi lo rest] w fun e w' => e = .returned (.tuple #[.int .u64 0, .int .i64 2]) ∧ Below w.heap.size w w' :=
  rounds7_err n k neg s hi lo rest 2 (by decide) w (fun w => cut7_no n k neg s hi lo rest hn w)
theorem rounds7_bad (n : Nat) (k : Int) (neg : Bool) (s : Int) (hi lo : Nat) (rest : Bool) (hn : Wd n) (hs : soundX k neg s hi lo rest = false) (w : World) :
    Calls Try.prog 18 #[.int .i64 n, exV k neg s hi lo rest] w fun e w' => e = .returned (.tuple #[.int .u64 0, .int .i64 1]) ∧ Below w.heap.size w w' :=
  rounds7_err n k neg s hi lo rest 1 (by decide) w (fun w => cut7_bad n k neg s hi lo rest hn hs w)
theorem rounds7_zero (n : Nat) (hn : Wd n) (w : World) :
    Calls Try.prog 18 #[.int .i64 n, exV 0 false 0 0 0 false] w fun e w' => e = .returned (.tuple #[.int .u64 0, .int .i64 0]) ∧ Below w.heap.size w w' :=
  rounds7_plain n 0 0 w (fun w => cut7_zero n hn w)
theorem rounds7_nar (n : Nat) (hn : Wd n) (w : World) :
    Calls Try.prog 18 #[.int .i64 n, exV 2 false 0 0 0 false] w fun e w' => e = .returned (.tuple #[.int .u64 (2 ^ (n - 1) : Nat), .int .i64 0]) ∧ Below w.heap.size w w' :=
  rounds7_plain n 2 (2 ^ (n - 1)) w (fun w => cut7_nar n hn w)
end Go.Proofs.Ytajlgpamcpgalaa
