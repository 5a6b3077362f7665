import Derived.Test.YtajlgpamcpgalaaCodG
namespace Go.Proofs.Ytajlgpamcpgalaa
open Go.ChangeShapes Go.WideShapes Go.ChangeAt Go.RowKit
set_option linter.unusedVariables false
set_option linter.unusedSimpArgs false
set_option maxRecDepth 100000

/-- the string of a number, cut -/
theorem cut_true (n : Nat) (s : Int) (f : Nat) (hn : Wd n) (hr : inR n s = true) : true ∈ (canon s f).take (n - 1) ∧ ((canon s f).take (n - 1)).length = n - 1 := by
  have hw := wd_le hn
  have hr' := of_decide_eq_true hr
  have hlen : 65 < (canon s f).length := by
    unfold canon
    obtain ⟨b, r, hh, _⟩ := headK_form (s / 4)
    rw [hh]; simp [bitsOf_length]
  refine ⟨?_, by rw [List.length_take]; omega⟩
  by_cases h0 : 0 ≤ s / 4
  · have e : canon s f = true :: (List.replicate (s / 4).toNat true ++ [false] ++ bitsOf (s % 4).toNat 2 ++ (bitsOf f 64).drop 1) := by
      unfold canon headK; rw [if_pos h0, List.replicate_succ]; rfl
    rw [e, show n - 1 = (n - 2) + 1 by omega, List.take_succ_cons]
    exact List.mem_cons_self ..
  · have e : canon s f = List.replicate (-(s / 4)).toNat false ++ true :: (bitsOf (s % 4).toNat 2 ++ (bitsOf f 64).drop 1) := by
      unfold canon headK; rw [if_neg h0]; simp
    have hb : (-(s / 4)).toNat ≤ n - 2 := by omega
    rw [e, List.take_append, List.length_replicate, show n - 1 - (-(s / 4)).toNat = (n - 2 - (-(s / 4)).toNat) + 1 by omega, List.take_succ_cons]
    exact List.mem_append_right _ (List.mem_cons_self ..)
end Go.Proofs.Ytajlgpamcpgalaa
