import Derived.Test.YthbhcdokjlpjbaaCkF
namespace Go.Proofs.Ythbhcdokjlpjbaa
open Go.ChangeShapes Go.WideShapes Go.ChangeAt Go.RowKit
set_option linter.unusedVariables false
set_option linter.unusedSimpArgs false
set_option maxRecDepth 100000

/-! ### what is assembled -/
theorem asmV_nat (n run x : Nat) (h : x < 4) : asmV n run (x : Int) = x / 2 ^ (2 - min (n - 2 - run) 2) := by
  unfold asmV u64Of
  obtain ⟨j, hj⟩ : ∃ j, j = 2 ^ (2 - min (n - 2 - run) 2) := ⟨_, rfl⟩
  have e : ((2 : Int) ^ (2 - min (n - 2 - run) 2)) = ((j : Nat) : Int) := by rw [hj]; simp
  rw [e, ← hj, ← Int.natCast_ediv]
  have hq := Nat.div_le_self x j
  generalize x / j = q at *
  omega
theorem asmP_parts (n : Nat) (hn : Wd n) (neg : Bool) (t : List Bool) (hl : t.length = n - 1) (ht : true ∈ t) : asmP n neg (onesL t) (runL t) (expL t : Nat) (fracL t) = patOf n neg t := by
  have hw := wd_le hn
  have hex : expL t < 4 := by
    have := numOf_lt ((restL t ++ noughts 2).take 2)
    rw [show ((restL t ++ noughts 2).take 2).length = 2 by simp] at this
    exact this
  unfold asmP
  rw [asmV_nat n _ _ hex, asm_parts n t (by omega) hl _ rfl]
  exact pat_neg n hn neg t hl ht (Nat.lt_of_lt_of_le (numOf_lt _) (Nat.pow_le_pow_right (by decide) (by omega)))
theorem asmP_cut (n : Nat) (hn : Wd n) (neg : Bool) (s : Int) (f : Nat) (hr : inR n s = true) (ones : Bool) (run F : Nat) (hk : headK (s / 4) = List.replicate run ones ++ [!ones]) (hF : F = n - 2 - run - 2) :
    run ≤ n - 1 ∧ asmP n neg ones run (((s % 4).toNat : Nat) : Int) (fieldOf f (63 - F) F) = patOf n neg (cutL n s f) := by
  have hw := wd_le hn
  obtain ⟨h1, h2⟩ := asm_cut n hn s f hr ones run _ _ F hk hF rfl rfl
  obtain ⟨ht, hl⟩ := cut_true n s f hn hr
  refine ⟨h1, ?_⟩
  unfold asmP
  rw [asmV_nat n _ _ (by omega), h2]
  exact pat_neg n hn neg (cutL n s f) hl ht (Nat.lt_of_lt_of_le (numOf_lt _) (Nat.pow_le_pow_right (by decide) (by rw [hl]; omega)))
theorem asmP_lt (n : Nat) (hn : Wd n) (neg ones : Bool) (run : Nat) (h : run ≤ n - 1) (ex : Int) (fr : Nat) : asmP n neg ones run ex fr < 2 ^ 64 := by
  have hw := wd_le hn
  unfold asmP
  split
  · exact Nat.lt_of_le_of_lt (Nat.mod_le _ _) (minusU_lt _)
  · exact Nat.lt_of_lt_of_le (numOf_lt _) (Nat.pow_le_pow_right (by decide) (by rw [asmL_length n ones run _ _ h]; omega))
/-! ### parts -/
theorem cparts_any (n : Nat) (hn : Wd n) (neg : Bool) (s : Int) (f : Nat) (hf : f < 2 ^ 64) (hr : inR n s = true) (ones : Bool) (run F : Nat) (hk : headK (s / 4) = List.replicate run ones ++ [!ones]) (hrn : run ≤ n - 1) (hF : F = n - 2 - run - 2) (w : World) :
    Calls Try.prog 38 #[.int .i64 n, numV 1 neg s f] w fun e w' => e = .returned (fdI neg ones run 0 0 (((s % 4).toNat : Nat) : Int) 0 (fieldOf f (63 - F) F)) ∧ Below w.heap.size w w' := by
  have hw := wd_le hn
  have hr' := of_decide_eq_true hr
  have k1 := crow_any (s / 4) (by omega) (by omega) ones run hk
  have k2 := croom_any n run hw.2 (by omega)
  rw [show n - 2 - run - min (n - 2 - run) 2 = F by omega] at k2
  have k3 := cfield_nat f (63 - F) F hf (by omega) ((63 : Int) - (F : Int)) (by omega)
  obtain ⟨k, hkk⟩ : ∃ k, k = s / 4 := ⟨_, rfl⟩
  obtain ⟨ex, hex⟩ : ∃ ex, ex = (s % 4).toNat := ⟨_, rfl⟩
  have e1 : s / 4 = k := hkk.symm
  have hb1 : -100 ≤ k ∧ k ≤ 100 := by omega
  have e2 : s - k * 4 = (ex : Int) := by omega
  have hb2 : -300 ≤ s ∧ s ≤ 300 := by omega
  have hF62 : F ≤ 62 := by omega
  have HF : Hid (F = n - 2 - run - 2) := hF
  rw [← hex]
  rw [← hkk] at k1
  generalize fieldOf f (63 - F) F = v at *
  generalize ((min (n - 2 - run) 2 : Nat) : Int) = E at *
  clear hn hr hr' hk hkk hex hF
  unfold numV fdI
  refine cps fun Q hQ => ?_
  go_enter Try.func38, Try.ntmps38
  go_wp2_with (first
    | (go_at_call 52; go_must (refine (k1 _).mono ?_); rintro e w1 ⟨rfl, rfl⟩)
    | (go_at_call 25; go_must (refine (k2 _).mono ?_); rintro e w1 ⟨rfl, rfl⟩)
    | (go_at_call 26; go_must (refine (k3 _).mono ?_); rintro e w6 ⟨rfl, q, hw6⟩; have R6 : w6.heap[w.heap.size + 1 + 1]? = some (.cells #[.bool neg, .bool ones, .int .i64 run, .int .i64 0, .int .i64 0, .int .i64 ex, .int .i64 0, .int .u64 0] 25 (0, 0)) := (by rw [hw6]; exact rownew' _ _ _ _ (by simp)); have R5 : w6.heap[w.heap.size + 1]? = some (.cells #[.bool false, .bool false, .int .i64 0, .int .i64 0, .int .i64 0, .int .i64 0, .int .i64 0, .int .u64 0] 25 (0, 0)) := (by rw [hw6]; exact (Below.heap_alloc _ _ _ (by simp)).trans (rownew' _ _ _ _ (by simp))); have B6 : Below w.heap.size w w6 := (by rw [hw6]; exact below_drewN (cmore (cmore (cmore (Below.refl _ _) _) _) _) _); have g0 := rowcell R6 0; have g1 := rowcell R6 1; have g2 := rowcell R6 2; have g3 := rowcell R6 3; have g4 := rowcell R6 4; have g5 := rowcell R6 5; have g6 := rowcell R6 6; have g7 := rowcell R6 7; have gf := rowfree R6; simp only [List.getElem?_toArray, List.getElem?_cons_zero, List.getElem?_cons_succ] at g0 g1 g2 g3 g4 g5 g6 g7; have h0 := rowcell R5 0; have h1 := rowcell R5 1; have h2 := rowcell R5 2; have h3 := rowcell R5 3; have h4 := rowcell R5 4; have h5 := rowcell R5 5; have h6 := rowcell R5 6; have h7 := rowcell R5 7; have hf := rowfree R5; simp only [List.getElem?_toArray, List.getElem?_cons_zero, List.getElem?_cons_succ] at h0 h1 h2 h3 h4 h5 h6 h7; have HB6 : Hid (Below _ _ _) := B6; clear R6 R5 B6 hw6))
  refine bodyPost_ret (v := .agg #[.bool neg, .bool ones, .int .i64 run, .int .i64 0, .int .i64 0, .int .i64 ex, .int .i64 0, .int .u64 v]) (by simp [results, Try.results38, go_sem, h0, h1, h2, h3, h4, h5, h6, h7, hf]) rfl (hQ.out _ _ ⟨rfl, ?_⟩)
  exact cset8 (cset HB6.out (by omega) _ _) (by omega)
end Go.Proofs.Ythbhcdokjlpjbaa
