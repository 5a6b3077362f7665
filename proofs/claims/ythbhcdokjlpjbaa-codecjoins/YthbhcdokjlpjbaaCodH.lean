import Derived.Test.YthbhcdokjlpjbaaCodG
namespace Go.Proofs.Ythbhcdokjlpjbaa
open Go.ChangeShapes Go.WideShapes Go.ChangeAt Go.RowKit
set_option linter.unusedVariables false
set_option linter.unusedSimpArgs false
set_option maxRecDepth 100000

theorem encode6_out (n : Nat) (neg : Bool) (s : Int) (f : Nat) (hn : Wd n) (hs : soundN 1 neg s f = true) (hr : inR n s = false) (w : World) :
    Calls Try.prog 18 #[.int .i64 n, numV 1 neg s f] w fun e w' => e = .returned (.tuple #[.int .u64 0, .int .i64 8]) ∧ Below w.heap.size w w' := by
  have k1 := is_width n
  rw [isW_of hn] at k1
  have k2 := sound6_any 1 neg s f
  rw [hs] at k2
  have hw := wd_le hn
  have hr' : s < 8 - 4 * (n : Int) ∨ 4 * (n : Int) - 8 < s := by
    have := of_decide_eq_false hr
    omega
  unfold numV at *
  clear hn hs hr
  refine cps fun Q hQ => ?_
  go_enter Try.func18, Try.ntmps18
  go_wp2_with (first
    | (go_at_call 19; refine (k1 _).mono ?_; rintro e w1 ⟨rfl, hw⟩; rw [hw]; clear hw w1)
    | (go_at_call 39; refine (k2 _).mono ?_; rintro e w2 ⟨rfl, hb2⟩; have hc := fun b o h => hb2.cell (p := ⟨b, o, none⟩) h; have z1 : w.heap.size < w2.heap.size := (by have := hb2.size; simp at this; omega)))
  all_goals first | exact hQ.out _ _ ⟨rfl, cthen (cmore (Below.refl _ _) _) hb2⟩ | exact 0
/-- the string of a number, cut -/
theorem cut_true (n : Nat) (s : Int) (f : Nat) (hn : Wd n) (hr : inR n s = true) : true ∈ (canon s f).take (n - 1) ∧ ((canon s f).take (n - 1)).length = n - 1 := by
  have hw := wd_le hn
  have hr' := of_decide_eq_true hr
  have hlen : 65 < (canon s f).length := by
    unfold canon
    obtain ⟨b, r, hh, _⟩ := headK_form (s / 4)
    rw [hh]; simp [bitsOf_length]
  refine ⟨?_, by rw [List.length_take]; omega⟩
  by_cases h0 : 0 ≤ s / 4
  · have e : canon s f = true :: (List.replicate (s / 4).toNat true ++ [false] ++ bitsOf (s % 4).toNat 2 ++ (bitsOf f 64).drop 1) := by
      unfold canon headK; rw [if_pos h0, List.replicate_succ]; rfl
    rw [e, show n - 1 = (n - 2) + 1 by omega, List.take_succ_cons]
    exact List.mem_cons_self ..
  · have e : canon s f = List.replicate (-(s / 4)).toNat false ++ true :: (bitsOf (s % 4).toNat 2 ++ (bitsOf f 64).drop 1) := by
      unfold canon headK; rw [if_neg h0]; simp
    have hb : (-(s / 4)).toNat ≤ n - 2 := by omega
    rw [e, List.take_append, List.length_replicate, show n - 1 - (-(s / 4)).toNat = (n - 2 - (-(s / 4)).toNat) + 1 by omega, List.take_succ_cons]
    exact List.mem_append_right _ (List.mem_cons_self ..)
end Go.Proofs.Ythbhcdokjlpjbaa
