import Derived.Test.YtajlgpamcpgalaaCkF
namespace Go.Proofs.Ytajlgpamcpgalaa
open Go.ChangeShapes Go.WideShapes Go.ChangeAt Go.RowKit
set_option linter.unusedVariables false
set_option linter.unusedSimpArgs false
set_option maxRecDepth 100000

/-! ### what is assembled -/
theorem asmV_nat (n run x : Nat) (h : x < 4) : asmV n run (x : Int) = x / 2 ^ (2 - min (n - 2 - run) 2) := by
  unfold asmV u64Of
  obtain ⟨j, hj⟩ : ∃ j, j = 2 ^ (2 - min (n - 2 - run) 2) := ⟨_, rfl⟩
  have e : ((2 : Int) ^ (2 - min (n - 2 - run) 2)) = ((j : Nat) : Int) := by rw [hj]; simp
  rw [e, ← hj, ← Int.natCast_ediv]
  have hq := Nat.div_le_self x j
  generalize x / j = q at *
  omega
theorem asmP_parts (n : Nat) (hn : Wd n) (neg : Bool) (t : List Bool) (hl : t.length = n - 1) (ht : true ∈ t) : asmP n neg (onesL t) (runL t) (expL t : Nat) (fracL t) = patOf n neg t := by
  have hw := wd_le hn
  have hex : expL t < 4 := by
    have := numOf_lt ((restL t ++ noughts 2).take 2)
    rw [show ((restL t ++ noughts 2).take 2).length = 2 by simp] at this
    exact this
  unfold asmP
  rw [asmV_nat n _ _ hex, asm_parts n t (by omega) hl _ rfl]
  exact pat_neg n hn neg t hl ht (Nat.lt_of_lt_of_le (numOf_lt _) (Nat.pow_le_pow_right (by decide) (by omega)))
theorem asmP_cut (n : Nat) (hn : Wd n) (neg : Bool) (s : Int) (f : Nat) (hr : inR n s = true) (ones : Bool) (run F : Nat) (hk : headK (s / 4) = List.replicate run ones ++ [!ones]) (hF : F = n - 2 - run - 2) :
    run ≤ n - 1 ∧ asmP n neg ones run (((s % 4).toNat : Nat) : Int) (fieldOf f (63 - F) F) = patOf n neg (cutL n s f) := by
  have hw := wd_le hn
  obtain ⟨h1, h2⟩ := asm_cut n hn s f hr ones run _ _ F hk hF rfl rfl
  obtain ⟨ht, hl⟩ := cut_true n s f hn hr
  refine ⟨h1, ?_⟩
  unfold asmP
  rw [asmV_nat n _ _ (by omega), h2]
  exact pat_neg n hn neg (cutL n s f) hl ht (Nat.lt_of_lt_of_le (numOf_lt _) (Nat.pow_le_pow_right (by decide) (by rw [hl]; omega)))
theorem asmP_lt (n : Nat) (hn : Wd n) (neg ones : Bool) (run : Nat) (h : run ≤ n - 1) (ex : Int) (fr : Nat) : asmP n neg ones run ex fr < 2 ^ 64 := by
  have hw := wd_le hn
  unfold asmP
  split
  · exact Nat.lt_of_le_of_lt (Nat.mod_le _ _) (minusU_lt _)
  · exact Nat.lt_of_lt_of_le (numOf_lt _) (Nat.pow_le_pow_right (by decide) (by rw [asmL_length n ones run _ _ h]; omega))
/-! ### parts -/
end Go.Proofs.Ytajlgpamcpgalaa
