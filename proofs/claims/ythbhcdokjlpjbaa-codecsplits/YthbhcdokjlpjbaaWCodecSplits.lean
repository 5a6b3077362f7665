import Derived.Test.YthbhcdokjlpjbaaCodL
import Derived.Test.YthbhcdokjlpjbaaCode
namespace Go.Proofs.Ythbhcdokjlpjbaa
open Go.ChangeShapes Go.WideShapes Go.ChangeAt Go.RowKit
set_option linter.unusedVariables false
set_option linter.unusedSimpArgs false
set_option maxRecDepth 100000

theorem codecSplits_walk (n p : Int) (wn : (Lit.int .i64 n).wf = true) (wp : (Lit.int .u64 p).wf = true) (w : World) :
    Calls Try.prog 3 #[.int .i64 n, .int .u64 p] w fun e w' => e = .returned (.bool true) ∧ Below w.heap.size w w' := by
  obtain ⟨x, rfl, hx⟩ := nat_of_u64 wp
  refine cps fun Q hQ => ?_
  cases hb : isW n
  · have k1 := fun w => csplit_no n x hb w
    have k3 := fun w => split6_no n x hb w
    have k5 := fun w => code_any 2 w
    rw [show codeOf 2 = 2 from rfl] at k5
    simp only [fdV, fd0, codeV] at k1 k3
    clear hb wn wp hx
    go_enter Try.func3, Try.ntmps3
    go_wp2_with (first
      | (go_at_call 9; refine (cup_any _).mono ?_; rintro e w1 ⟨rfl, hb1⟩)
      | (go_at_call 10; refine (k1 _).mono ?_; rintro e w2 ⟨rfl, hb2⟩)
      | (go_at_call 11; refine (k3 _).mono ?_; rintro e w3 ⟨rfl, hb3⟩; have z3 : w2.heap.size < w3.heap.size := (by have := hb3.size; simp at this; omega); have hne1 : ¬ w2.heap.size = w3.heap.size := (by omega); have hne2 : ¬ w3.heap.size = w2.heap.size := (by omega); have R := (hb3.block w2.heap.size (by simp)).trans (rownew w2 _ _); have R0 := rowcell R 0; have R1 := rowcell R 1; have R2 := rowcell R 2; have R3 := rowcell R 3; have R4 := rowcell R 4; have R5 := rowcell R 5; have R6 := rowcell R 6; have R7 := rowcell R 7; have Rf := rowfree R; simp only [List.getElem?_toArray, List.getElem?_cons_zero, List.getElem?_cons_succ] at R0 R1 R2 R3 R4 R5 R6 R7; clear R)
      | (go_at_call 12; refine (k5 _).mono ?_; rintro e w' ⟨rfl, hw⟩; rw [hw]; clear hw w'))
    all_goals exact hQ.out _ _ ⟨by simp, cmore (cthen (cmore (cthen hb1 hb2) _) hb3) _⟩
  · obtain ⟨m, rfl, hm⟩ := isW_yes hb
    have k5 := fun w => code_nil w
    by_cases hk : kindOf m (x % 2 ^ m) = 1
    · have k1 := fun w => csplit_real m x hm hx hk w
      have k3 := fun w => split6_real m x hm hx hk w
      simp only [fdV, fd0] at k1 k3
      clear hb wn wp hx hm hk
      generalize onesL (strS m x) = o at *
      generalize ((runL (strS m x) : Nat) : Int) = r at *
      generalize regL (strS m x) = reg at *
      generalize ((min (restL (strS m x)).length 2 : Nat) : Int) = eb at *
      generalize ((expL (strS m x) : Nat) : Int) = ex at *
      generalize (((restL (strS m x)).length - 2 : Nat) : Int) = fb at *
      generalize fracL (strS m x) = fr at *
      generalize x.testBit (m - 1) = b at *
      go_enter Try.func3, Try.ntmps3
      go_wp2_with (first
        | (go_at_call 9; refine (cup_any _).mono ?_; rintro e w1 ⟨rfl, hb1⟩)
        | (go_at_call 10; refine (k1 _).mono ?_; rintro e w2 ⟨rfl, hb2⟩)
        | (go_at_call 11; refine (k3 _).mono ?_; rintro e w3 ⟨rfl, hb3⟩; have z3 : w2.heap.size < w3.heap.size := (by have := hb3.size; simp at this; omega); have hne1 : ¬ w2.heap.size = w3.heap.size := (by omega); have hne2 : ¬ w3.heap.size = w2.heap.size := (by omega); have R := (hb3.block w2.heap.size (by simp)).trans (rownew w2 _ _); have R0 := rowcell R 0; have R1 := rowcell R 1; have R2 := rowcell R 2; have R3 := rowcell R 3; have R4 := rowcell R 4; have R5 := rowcell R 5; have R6 := rowcell R 6; have R7 := rowcell R 7; have Rf := rowfree R; simp only [List.getElem?_toArray, List.getElem?_cons_zero, List.getElem?_cons_succ] at R0 R1 R2 R3 R4 R5 R6 R7; clear R)
        | (go_at_call 12; refine (k5 _).mono ?_; rintro e w' ⟨rfl, hw⟩; rw [hw]; clear hw w'))
      all_goals exact hQ.out _ _ ⟨by simp, cmore (cthen (cmore (cthen hb1 hb2) _) hb3) _⟩
    · have k1 := fun w => csplit_other m x hm hx hk w
      have k3 := fun w => split6_other m x hm hk w
      simp only [fdV, fd0] at k1 k3
      clear hb wn wp hx hk
      generalize kindOf m (x % 2 ^ m) = kd at *
      go_enter Try.func3, Try.ntmps3
      go_wp2_with (first
        | (go_at_call 9; refine (cup_any _).mono ?_; rintro e w1 ⟨rfl, hb1⟩)
        | (go_at_call 10; refine (k1 _).mono ?_; rintro e w2 ⟨rfl, hb2⟩)
        | (go_at_call 11; refine (k3 _).mono ?_; rintro e w3 ⟨rfl, hb3⟩; have z3 : w2.heap.size < w3.heap.size := (by have := hb3.size; simp at this; omega); have hne1 : ¬ w2.heap.size = w3.heap.size := (by omega); have hne2 : ¬ w3.heap.size = w2.heap.size := (by omega); have R := (hb3.block w2.heap.size (by simp)).trans (rownew w2 _ _); have R0 := rowcell R 0; have R1 := rowcell R 1; have R2 := rowcell R 2; have R3 := rowcell R 3; have R4 := rowcell R 4; have R5 := rowcell R 5; have R6 := rowcell R 6; have R7 := rowcell R 7; have Rf := rowfree R; simp only [List.getElem?_toArray, List.getElem?_cons_zero, List.getElem?_cons_succ] at R0 R1 R2 R3 R4 R5 R6 R7; clear R)
        | (go_at_call 12; refine (k5 _).mono ?_; rintro e w' ⟨rfl, hw⟩; rw [hw]; clear hw w'))
      all_goals exact hQ.out _ _ ⟨by simp, cmore (cthen (cmore (cthen hb1 hb2) _) hb3) _⟩
end Go.Proofs.Ythbhcdokjlpjbaa
