import Derived.Test.YtejibojcfobdkaaJoin5
import Derived.Test.YtejibojcfobdkaaJoin1
namespace Go.Proofs.Ytejibojcfobdkaa
open Go.ChangeShapes Go.WideShapes Go.ChangeAt Go.RowKit
set_option linter.unusedVariables false
set_option linter.unusedSimpArgs false
set_option maxRecDepth 100000

/-! ### the document's products -/
theorem prod10_form (k : Int) (neg : Bool) (s : Int) (f : Nat) (k' : Int) (neg' : Bool) (s' : Int) (g : Nat) : ∃ k2 b s2 h l r, prod10 k neg s f k' neg' s' g = exV k2 b s2 h l r := by
  unfold prod10
  by_cases h : k = 2 ∨ k' = 2
  · rw [if_pos h]; exact ⟨_, _, _, _, _, _, rfl⟩
  · rw [if_neg h]
    by_cases h0 : k = 0 ∨ k' = 0
    · rw [if_pos h0]; exact ⟨_, _, _, _, _, _, rfl⟩
    · rw [if_neg h0]; exact exactV_form _ _ _ _
theorem mul64_blen {f g : Nat} (hf : f < 2 ^ 64) (hg : g < 2 ^ 64) : blen (f * g) ≤ 128 := by
  refine blen_le.2 ?_
  rw [show (2 : Nat) ^ 128 = 2 ^ 64 * 2 ^ 64 by decide]
  rcases Nat.eq_zero_or_pos f with rfl | h
  · rw [Nat.zero_mul]; decide
  · exact Nat.mul_lt_mul_of_lt_of_le hf (Nat.le_of_lt hg) (by decide)
set_option maxHeartbeats 2000000 in
theorem exact10_bad1 (k : Int) (neg : Bool) (s : Int) (f : Nat) (k' : Int) (neg' : Bool) (s' : Int) (g : Nat) (h1 : soundN k neg s f = false) (w : World) :
    Calls Try.prog 10 #[numV k neg s f, numV k' neg' s' g] w fun e w' => e = .returned (.tuple #[exV 0 false 0 0 0 false, .int .i64 1]) ∧ Below w.heap.size w w' := by
  have k1 := sound6_any k neg s f
  have k2 := sound6_any k' neg' s' g
  rw [h1] at k1
  generalize soundN k' neg' s' g = b2 at *
  clear h1
  unfold numV exV at *
  rw [show ((0 : Nat) : Int) = 0 from rfl] at *
  refine cps fun Q hQ => ?_
  go_enter Try.func10, Try.ntmps10
  go_wp2_with (first
    | (go_at_call_of 24 f; go_must (refine (k1 _).mono ?_); rintro e w1 ⟨rfl, hb1⟩; have R1_0 := (hb1.block (w.heap.size) (by first | (simp; done) | (simp; omega) | omega)).trans ((Below.heap_alloc _ _ _ (by first | (simp; done) | (simp; omega) | omega)).trans ((Below.heap_alloc _ _ _ (by first | (simp; done) | (simp; omega) | omega)).trans (rownew' _ _ _ _ (by simp)))); have z1_0 : w.heap.size < w1.heap.size := Nat.lt_of_lt_of_le (by first | (simp; done) | (simp; omega) | omega) hb1.size; have HR1_0 : Hid _ := R1_0; clear R1_0; have R1_1 := (hb1.block (w.heap.size + 1) (by first | (simp; done) | (simp; omega) | omega)).trans ((Below.heap_alloc _ _ _ (by first | (simp; done) | (simp; omega) | omega)).trans (rownew' _ _ _ _ (by simp))); have z1_1 : w.heap.size + 1 < w1.heap.size := Nat.lt_of_lt_of_le (by first | (simp; done) | (simp; omega) | omega) hb1.size; have c1_1_0 := rowcell R1_1 0; have c1_1_1 := rowcell R1_1 1; have c1_1_2 := rowcell R1_1 2; have c1_1_3 := rowcell R1_1 3; simp only [List.getElem?_toArray, List.getElem?_cons_zero, List.getElem?_cons_succ] at c1_1_0 c1_1_1 c1_1_2 c1_1_3; have HR1_1 : Hid _ := R1_1; clear R1_1; have R1_2 := (hb1.block (w.heap.size + 1 + 1) (by first | (simp; done) | (simp; omega) | omega)).trans (rownew' _ _ _ _ (by simp)); have z1_2 : w.heap.size + 1 + 1 < w1.heap.size := Nat.lt_of_lt_of_le (by first | (simp; done) | (simp; omega) | omega) hb1.size; have HR1_2 : Hid _ := R1_2; clear R1_2; have HB1 : Hid (Below _ _ _) := hb1; clear hb1)
    | (go_at_call_of 24 g; go_must (refine (k2 _).mono ?_); rintro e w2 ⟨rfl, hb2⟩; have R2_0 := (hb2.block (w.heap.size) (by first | (simp; done) | (simp; omega) | omega)).trans HR1_0.out; have z2_0 : w.heap.size < w2.heap.size := Nat.lt_of_lt_of_le (by first | (simp; done) | (simp; omega) | omega) hb2.size; have c2_0_0 := rowcell R2_0 0; have c2_0_1 := rowcell R2_0 1; have c2_0_2 := rowcell R2_0 2; have c2_0_3 := rowcell R2_0 3; simp only [List.getElem?_toArray, List.getElem?_cons_zero, List.getElem?_cons_succ] at c2_0_0 c2_0_1 c2_0_2 c2_0_3; have HR2_0 : Hid _ := R2_0; clear R2_0; have R2_1 := (hb2.block (w.heap.size + 1) (by first | (simp; done) | (simp; omega) | omega)).trans HR1_1.out; have z2_1 : w.heap.size + 1 < w2.heap.size := Nat.lt_of_lt_of_le (by first | (simp; done) | (simp; omega) | omega) hb2.size; have c2_1_0 := rowcell R2_1 0; have c2_1_1 := rowcell R2_1 1; have c2_1_2 := rowcell R2_1 2; have c2_1_3 := rowcell R2_1 3; simp only [List.getElem?_toArray, List.getElem?_cons_zero, List.getElem?_cons_succ] at c2_1_0 c2_1_1 c2_1_2 c2_1_3; have HR2_1 : Hid _ := R2_1; clear R2_1; have R2_2 := (hb2.block (w.heap.size + 1 + 1) (by first | (simp; done) | (simp; omega) | omega)).trans HR1_2.out; have z2_2 : w.heap.size + 1 + 1 < w2.heap.size := Nat.lt_of_lt_of_le (by first | (simp; done) | (simp; omega) | omega) hb2.size; have c2_2_0 := rowcell R2_2 0; have c2_2_1 := rowcell R2_2 1; have c2_2_2 := rowcell R2_2 2; have c2_2_3 := rowcell R2_2 3; have c2_2_4 := rowcell R2_2 4; have c2_2_5 := rowcell R2_2 5; simp only [List.getElem?_toArray, List.getElem?_cons_zero, List.getElem?_cons_succ] at c2_2_0 c2_2_1 c2_2_2 c2_2_3 c2_2_4 c2_2_5; have rf := rowfree R2_2; have HR2_2 : Hid _ := R2_2; clear R2_2; have HB2 : Hid (Below _ _ _) := hb2; clear hb2))
  all_goals
    refine bodyPost_ret (v := .tuple #[.agg #[.int .i64 0, .bool false, .int .i64 0, .int .u64 0, .int .u64 0, .bool false], .int .i64 1]) (by simp [results, Try.results10, go_sem, rf, z2_2, c2_2_0, c2_2_1, c2_2_2, c2_2_3, c2_2_4, c2_2_5]) rfl (hQ.out _ _ ⟨by simp, ?_⟩)
    exact cset6 (cthen (cthen (cmore (cmore (cmore (Below.refl _ _) _) _) _) HB1.out) HB2.out) (by omega)
set_option maxHeartbeats 2000000 in
theorem exact10_bad2 (k : Int) (neg : Bool) (s : Int) (f : Nat) (k' : Int) (neg' : Bool) (s' : Int) (g : Nat) (h1 : soundN k neg s f = true) (h2 : soundN k' neg' s' g = false) (w : World) :
    Calls Try.prog 10 #[numV k neg s f, numV k' neg' s' g] w fun e w' => e = .returned (.tuple #[exV 0 false 0 0 0 false, .int .i64 1]) ∧ Below w.heap.size w w' := by
  have k1 := sound6_any k neg s f
  have k2 := sound6_any k' neg' s' g
  rw [h1] at k1
  rw [h2] at k2
  clear h1 h2
  unfold numV exV at *
  rw [show ((0 : Nat) : Int) = 0 from rfl] at *
  refine cps fun Q hQ => ?_
  go_enter Try.func10, Try.ntmps10
  go_wp2_with (first
    | (go_at_call_of 24 f; go_must (refine (k1 _).mono ?_); rintro e w1 ⟨rfl, hb1⟩; have R1_0 := (hb1.block (w.heap.size) (by first | (simp; done) | (simp; omega) | omega)).trans ((Below.heap_alloc _ _ _ (by first | (simp; done) | (simp; omega) | omega)).trans ((Below.heap_alloc _ _ _ (by first | (simp; done) | (simp; omega) | omega)).trans (rownew' _ _ _ _ (by simp)))); have z1_0 : w.heap.size < w1.heap.size := Nat.lt_of_lt_of_le (by first | (simp; done) | (simp; omega) | omega) hb1.size; have HR1_0 : Hid _ := R1_0; clear R1_0; have R1_1 := (hb1.block (w.heap.size + 1) (by first | (simp; done) | (simp; omega) | omega)).trans ((Below.heap_alloc _ _ _ (by first | (simp; done) | (simp; omega) | omega)).trans (rownew' _ _ _ _ (by simp))); have z1_1 : w.heap.size + 1 < w1.heap.size := Nat.lt_of_lt_of_le (by first | (simp; done) | (simp; omega) | omega) hb1.size; have c1_1_0 := rowcell R1_1 0; have c1_1_1 := rowcell R1_1 1; have c1_1_2 := rowcell R1_1 2; have c1_1_3 := rowcell R1_1 3; simp only [List.getElem?_toArray, List.getElem?_cons_zero, List.getElem?_cons_succ] at c1_1_0 c1_1_1 c1_1_2 c1_1_3; have HR1_1 : Hid _ := R1_1; clear R1_1; have R1_2 := (hb1.block (w.heap.size + 1 + 1) (by first | (simp; done) | (simp; omega) | omega)).trans (rownew' _ _ _ _ (by simp)); have z1_2 : w.heap.size + 1 + 1 < w1.heap.size := Nat.lt_of_lt_of_le (by first | (simp; done) | (simp; omega) | omega) hb1.size; have HR1_2 : Hid _ := R1_2; clear R1_2; have HB1 : Hid (Below _ _ _) := hb1; clear hb1)
    | (go_at_call_of 24 g; go_must (refine (k2 _).mono ?_); rintro e w2 ⟨rfl, hb2⟩; have R2_0 := (hb2.block (w.heap.size) (by first | (simp; done) | (simp; omega) | omega)).trans HR1_0.out; have z2_0 : w.heap.size < w2.heap.size := Nat.lt_of_lt_of_le (by first | (simp; done) | (simp; omega) | omega) hb2.size; have c2_0_0 := rowcell R2_0 0; have c2_0_1 := rowcell R2_0 1; have c2_0_2 := rowcell R2_0 2; have c2_0_3 := rowcell R2_0 3; simp only [List.getElem?_toArray, List.getElem?_cons_zero, List.getElem?_cons_succ] at c2_0_0 c2_0_1 c2_0_2 c2_0_3; have HR2_0 : Hid _ := R2_0; clear R2_0; have R2_1 := (hb2.block (w.heap.size + 1) (by first | (simp; done) | (simp; omega) | omega)).trans HR1_1.out; have z2_1 : w.heap.size + 1 < w2.heap.size := Nat.lt_of_lt_of_le (by first | (simp; done) | (simp; omega) | omega) hb2.size; have c2_1_0 := rowcell R2_1 0; have c2_1_1 := rowcell R2_1 1; have c2_1_2 := rowcell R2_1 2; have c2_1_3 := rowcell R2_1 3; simp only [List.getElem?_toArray, List.getElem?_cons_zero, List.getElem?_cons_succ] at c2_1_0 c2_1_1 c2_1_2 c2_1_3; have HR2_1 : Hid _ := R2_1; clear R2_1; have R2_2 := (hb2.block (w.heap.size + 1 + 1) (by first | (simp; done) | (simp; omega) | omega)).trans HR1_2.out; have z2_2 : w.heap.size + 1 + 1 < w2.heap.size := Nat.lt_of_lt_of_le (by first | (simp; done) | (simp; omega) | omega) hb2.size; have c2_2_0 := rowcell R2_2 0; have c2_2_1 := rowcell R2_2 1; have c2_2_2 := rowcell R2_2 2; have c2_2_3 := rowcell R2_2 3; have c2_2_4 := rowcell R2_2 4; have c2_2_5 := rowcell R2_2 5; simp only [List.getElem?_toArray, List.getElem?_cons_zero, List.getElem?_cons_succ] at c2_2_0 c2_2_1 c2_2_2 c2_2_3 c2_2_4 c2_2_5; have rf := rowfree R2_2; have HR2_2 : Hid _ := R2_2; clear R2_2; have HB2 : Hid (Below _ _ _) := hb2; clear hb2))
  all_goals
    refine bodyPost_ret (v := .tuple #[.agg #[.int .i64 0, .bool false, .int .i64 0, .int .u64 0, .int .u64 0, .bool false], .int .i64 1]) (by simp [results, Try.results10, go_sem, rf, z2_2, c2_2_0, c2_2_1, c2_2_2, c2_2_3, c2_2_4, c2_2_5]) rfl (hQ.out _ _ ⟨by simp, ?_⟩)
    exact cset6 (cthen (cthen (cmore (cmore (cmore (Below.refl _ _) _) _) _) HB1.out) HB2.out) (by omega)
set_option maxHeartbeats 2000000 in
theorem exact10_nar1 (k : Int) (neg : Bool) (s : Int) (f : Nat) (k' : Int) (neg' : Bool) (s' : Int) (g : Nat) (h1 : soundN k neg s f = true) (h2 : soundN k' neg' s' g = true) (hk : k = 2) (w : World) :
    Calls Try.prog 10 #[numV k neg s f, numV k' neg' s' g] w fun e w' => e = .returned (.tuple #[exV 2 false 0 0 0 false, .int .i64 0]) ∧ Below w.heap.size w w' := by
  have k1 := sound6_any k neg s f
  have k2 := sound6_any k' neg' s' g
  rw [h1] at k1
  rw [h2] at k2
  clear h1 h2
  subst hk
  unfold numV exV at *
  rw [show ((0 : Nat) : Int) = 0 from rfl] at *
  refine cps fun Q hQ => ?_
  go_enter Try.func10, Try.ntmps10
  go_wp2_with (first
    | (go_at_call_of 24 f; go_must (refine (k1 _).mono ?_); rintro e w1 ⟨rfl, hb1⟩; have R1_0 := (hb1.block (w.heap.size) (by first | (simp; done) | (simp; omega) | omega)).trans ((Below.heap_alloc _ _ _ (by first | (simp; done) | (simp; omega) | omega)).trans ((Below.heap_alloc _ _ _ (by first | (simp; done) | (simp; omega) | omega)).trans (rownew' _ _ _ _ (by simp)))); have z1_0 : w.heap.size < w1.heap.size := Nat.lt_of_lt_of_le (by first | (simp; done) | (simp; omega) | omega) hb1.size; have HR1_0 : Hid _ := R1_0; clear R1_0; have R1_1 := (hb1.block (w.heap.size + 1) (by first | (simp; done) | (simp; omega) | omega)).trans ((Below.heap_alloc _ _ _ (by first | (simp; done) | (simp; omega) | omega)).trans (rownew' _ _ _ _ (by simp))); have z1_1 : w.heap.size + 1 < w1.heap.size := Nat.lt_of_lt_of_le (by first | (simp; done) | (simp; omega) | omega) hb1.size; have c1_1_0 := rowcell R1_1 0; have c1_1_1 := rowcell R1_1 1; have c1_1_2 := rowcell R1_1 2; have c1_1_3 := rowcell R1_1 3; simp only [List.getElem?_toArray, List.getElem?_cons_zero, List.getElem?_cons_succ] at c1_1_0 c1_1_1 c1_1_2 c1_1_3; have HR1_1 : Hid _ := R1_1; clear R1_1; have R1_2 := (hb1.block (w.heap.size + 1 + 1) (by first | (simp; done) | (simp; omega) | omega)).trans (rownew' _ _ _ _ (by simp)); have z1_2 : w.heap.size + 1 + 1 < w1.heap.size := Nat.lt_of_lt_of_le (by first | (simp; done) | (simp; omega) | omega) hb1.size; have HR1_2 : Hid _ := R1_2; clear R1_2; have HB1 : Hid (Below _ _ _) := hb1; clear hb1)
    | (go_at_call_of 24 g; go_must (refine (k2 _).mono ?_); rintro e w2 ⟨rfl, hb2⟩; have R2_0 := (hb2.block (w.heap.size) (by first | (simp; done) | (simp; omega) | omega)).trans HR1_0.out; have z2_0 : w.heap.size < w2.heap.size := Nat.lt_of_lt_of_le (by first | (simp; done) | (simp; omega) | omega) hb2.size; have c2_0_0 := rowcell R2_0 0; have c2_0_1 := rowcell R2_0 1; have c2_0_2 := rowcell R2_0 2; have c2_0_3 := rowcell R2_0 3; simp only [List.getElem?_toArray, List.getElem?_cons_zero, List.getElem?_cons_succ] at c2_0_0 c2_0_1 c2_0_2 c2_0_3; have HR2_0 : Hid _ := R2_0; clear R2_0; have R2_1 := (hb2.block (w.heap.size + 1) (by first | (simp; done) | (simp; omega) | omega)).trans HR1_1.out; have z2_1 : w.heap.size + 1 < w2.heap.size := Nat.lt_of_lt_of_le (by first | (simp; done) | (simp; omega) | omega) hb2.size; have c2_1_0 := rowcell R2_1 0; have c2_1_1 := rowcell R2_1 1; have c2_1_2 := rowcell R2_1 2; have c2_1_3 := rowcell R2_1 3; simp only [List.getElem?_toArray, List.getElem?_cons_zero, List.getElem?_cons_succ] at c2_1_0 c2_1_1 c2_1_2 c2_1_3; have HR2_1 : Hid _ := R2_1; clear R2_1; have R2_2 := (hb2.block (w.heap.size + 1 + 1) (by first | (simp; done) | (simp; omega) | omega)).trans HR1_2.out; have z2_2 : w.heap.size + 1 + 1 < w2.heap.size := Nat.lt_of_lt_of_le (by first | (simp; done) | (simp; omega) | omega) hb2.size; have c2_2_0 := rowcell R2_2 0; have c2_2_1 := rowcell R2_2 1; have c2_2_2 := rowcell R2_2 2; have c2_2_3 := rowcell R2_2 3; have c2_2_4 := rowcell R2_2 4; have c2_2_5 := rowcell R2_2 5; simp only [List.getElem?_toArray, List.getElem?_cons_zero, List.getElem?_cons_succ] at c2_2_0 c2_2_1 c2_2_2 c2_2_3 c2_2_4 c2_2_5; have rf := rowfree R2_2; have HR2_2 : Hid _ := R2_2; clear R2_2; have HB2 : Hid (Below _ _ _) := hb2; clear hb2))
  all_goals
    refine bodyPost_ret (v := .tuple #[.agg #[.int .i64 2, .bool false, .int .i64 0, .int .u64 0, .int .u64 0, .bool false], .int .i64 0]) (by simp [results, Try.results10, go_sem, rf, z2_2, c2_2_0, c2_2_1, c2_2_2, c2_2_3, c2_2_4, c2_2_5]) rfl (hQ.out _ _ ⟨by simp, ?_⟩)
    exact cset6 (cthen (cthen (cmore (cmore (cmore (Below.refl _ _) _) _) _) HB1.out) HB2.out) (by omega)
set_option maxHeartbeats 2000000 in
theorem exact10_nar2 (k : Int) (neg : Bool) (s : Int) (f : Nat) (k' : Int) (neg' : Bool) (s' : Int) (g : Nat) (h1 : soundN k neg s f = true) (h2 : soundN k' neg' s' g = true) (hk : k ≠ 2) (hk' : k' = 2) (w : World) :
    Calls Try.prog 10 #[numV k neg s f, numV k' neg' s' g] w fun e w' => e = .returned (.tuple #[exV 2 false 0 0 0 false, .int .i64 0]) ∧ Below w.heap.size w w' := by
  have k1 := sound6_any k neg s f
  have k2 := sound6_any k' neg' s' g
  rw [h1] at k1
  rw [h2] at k2
  clear h1 h2
  subst hk'
  have d0 : (k == 2) = false := beq_eq_false_iff_ne.2 hk
  clear hk
  unfold numV exV at *
  rw [show ((0 : Nat) : Int) = 0 from rfl] at *
  refine cps fun Q hQ => ?_
  go_enter Try.func10, Try.ntmps10
  go_wp2_with (first
    | (go_at_call_of 24 f; go_must (refine (k1 _).mono ?_); rintro e w1 ⟨rfl, hb1⟩; have R1_0 := (hb1.block (w.heap.size) (by first | (simp; done) | (simp; omega) | omega)).trans ((Below.heap_alloc _ _ _ (by first | (simp; done) | (simp; omega) | omega)).trans ((Below.heap_alloc _ _ _ (by first | (simp; done) | (simp; omega) | omega)).trans (rownew' _ _ _ _ (by simp)))); have z1_0 : w.heap.size < w1.heap.size := Nat.lt_of_lt_of_le (by first | (simp; done) | (simp; omega) | omega) hb1.size; have HR1_0 : Hid _ := R1_0; clear R1_0; have R1_1 := (hb1.block (w.heap.size + 1) (by first | (simp; done) | (simp; omega) | omega)).trans ((Below.heap_alloc _ _ _ (by first | (simp; done) | (simp; omega) | omega)).trans (rownew' _ _ _ _ (by simp))); have z1_1 : w.heap.size + 1 < w1.heap.size := Nat.lt_of_lt_of_le (by first | (simp; done) | (simp; omega) | omega) hb1.size; have c1_1_0 := rowcell R1_1 0; have c1_1_1 := rowcell R1_1 1; have c1_1_2 := rowcell R1_1 2; have c1_1_3 := rowcell R1_1 3; simp only [List.getElem?_toArray, List.getElem?_cons_zero, List.getElem?_cons_succ] at c1_1_0 c1_1_1 c1_1_2 c1_1_3; have HR1_1 : Hid _ := R1_1; clear R1_1; have R1_2 := (hb1.block (w.heap.size + 1 + 1) (by first | (simp; done) | (simp; omega) | omega)).trans (rownew' _ _ _ _ (by simp)); have z1_2 : w.heap.size + 1 + 1 < w1.heap.size := Nat.lt_of_lt_of_le (by first | (simp; done) | (simp; omega) | omega) hb1.size; have HR1_2 : Hid _ := R1_2; clear R1_2; have HB1 : Hid (Below _ _ _) := hb1; clear hb1)
    | (go_at_call_of 24 g; go_must (refine (k2 _).mono ?_); rintro e w2 ⟨rfl, hb2⟩; have R2_0 := (hb2.block (w.heap.size) (by first | (simp; done) | (simp; omega) | omega)).trans HR1_0.out; have z2_0 : w.heap.size < w2.heap.size := Nat.lt_of_lt_of_le (by first | (simp; done) | (simp; omega) | omega) hb2.size; have c2_0_0 := rowcell R2_0 0; have c2_0_1 := rowcell R2_0 1; have c2_0_2 := rowcell R2_0 2; have c2_0_3 := rowcell R2_0 3; simp only [List.getElem?_toArray, List.getElem?_cons_zero, List.getElem?_cons_succ] at c2_0_0 c2_0_1 c2_0_2 c2_0_3; have HR2_0 : Hid _ := R2_0; clear R2_0; have R2_1 := (hb2.block (w.heap.size + 1) (by first | (simp; done) | (simp; omega) | omega)).trans HR1_1.out; have z2_1 : w.heap.size + 1 < w2.heap.size := Nat.lt_of_lt_of_le (by first | (simp; done) | (simp; omega) | omega) hb2.size; have c2_1_0 := rowcell R2_1 0; have c2_1_1 := rowcell R2_1 1; have c2_1_2 := rowcell R2_1 2; have c2_1_3 := rowcell R2_1 3; simp only [List.getElem?_toArray, List.getElem?_cons_zero, List.getElem?_cons_succ] at c2_1_0 c2_1_1 c2_1_2 c2_1_3; have HR2_1 : Hid _ := R2_1; clear R2_1; have R2_2 := (hb2.block (w.heap.size + 1 + 1) (by first | (simp; done) | (simp; omega) | omega)).trans HR1_2.out; have z2_2 : w.heap.size + 1 + 1 < w2.heap.size := Nat.lt_of_lt_of_le (by first | (simp; done) | (simp; omega) | omega) hb2.size; have c2_2_0 := rowcell R2_2 0; have c2_2_1 := rowcell R2_2 1; have c2_2_2 := rowcell R2_2 2; have c2_2_3 := rowcell R2_2 3; have c2_2_4 := rowcell R2_2 4; have c2_2_5 := rowcell R2_2 5; simp only [List.getElem?_toArray, List.getElem?_cons_zero, List.getElem?_cons_succ] at c2_2_0 c2_2_1 c2_2_2 c2_2_3 c2_2_4 c2_2_5; have rf := rowfree R2_2; have HR2_2 : Hid _ := R2_2; clear R2_2; have HB2 : Hid (Below _ _ _) := hb2; clear hb2))
  all_goals
    refine bodyPost_ret (v := .tuple #[.agg #[.int .i64 2, .bool false, .int .i64 0, .int .u64 0, .int .u64 0, .bool false], .int .i64 0]) (by simp [results, Try.results10, go_sem, rf, z2_2, c2_2_0, c2_2_1, c2_2_2, c2_2_3, c2_2_4, c2_2_5]) rfl (hQ.out _ _ ⟨by simp, ?_⟩)
    exact cset6 (cthen (cthen (cmore (cmore (cmore (Below.refl _ _) _) _) _) HB1.out) HB2.out) (by omega)
set_option maxHeartbeats 2000000 in
theorem exact10_zero1 (k : Int) (neg : Bool) (s : Int) (f : Nat) (k' : Int) (neg' : Bool) (s' : Int) (g : Nat) (h1 : soundN k neg s f = true) (h2 : soundN k' neg' s' g = true) (hk : k = 0) (hk' : k' ≠ 2) (w : World) :
    Calls Try.prog 10 #[numV k neg s f, numV k' neg' s' g] w fun e w' => e = .returned (.tuple #[exV 0 false 0 0 0 false, .int .i64 0]) ∧ Below w.heap.size w w' := by
  have k1 := sound6_any k neg s f
  have k2 := sound6_any k' neg' s' g
  rw [h1] at k1
  rw [h2] at k2
  clear h1 h2
  subst hk
  have d0 : (k' == 2) = false := beq_eq_false_iff_ne.2 hk'
  clear hk'
  unfold numV exV at *
  rw [show ((0 : Nat) : Int) = 0 from rfl] at *
  refine cps fun Q hQ => ?_
  go_enter Try.func10, Try.ntmps10
  go_wp2_with (first
    | (go_at_call_of 24 f; go_must (refine (k1 _).mono ?_); rintro e w1 ⟨rfl, hb1⟩; have R1_0 := (hb1.block (w.heap.size) (by first | (simp; done) | (simp; omega) | omega)).trans ((Below.heap_alloc _ _ _ (by first | (simp; done) | (simp; omega) | omega)).trans ((Below.heap_alloc _ _ _ (by first | (simp; done) | (simp; omega) | omega)).trans (rownew' _ _ _ _ (by simp)))); have z1_0 : w.heap.size < w1.heap.size := Nat.lt_of_lt_of_le (by first | (simp; done) | (simp; omega) | omega) hb1.size; have HR1_0 : Hid _ := R1_0; clear R1_0; have R1_1 := (hb1.block (w.heap.size + 1) (by first | (simp; done) | (simp; omega) | omega)).trans ((Below.heap_alloc _ _ _ (by first | (simp; done) | (simp; omega) | omega)).trans (rownew' _ _ _ _ (by simp))); have z1_1 : w.heap.size + 1 < w1.heap.size := Nat.lt_of_lt_of_le (by first | (simp; done) | (simp; omega) | omega) hb1.size; have c1_1_0 := rowcell R1_1 0; have c1_1_1 := rowcell R1_1 1; have c1_1_2 := rowcell R1_1 2; have c1_1_3 := rowcell R1_1 3; simp only [List.getElem?_toArray, List.getElem?_cons_zero, List.getElem?_cons_succ] at c1_1_0 c1_1_1 c1_1_2 c1_1_3; have HR1_1 : Hid _ := R1_1; clear R1_1; have R1_2 := (hb1.block (w.heap.size + 1 + 1) (by first | (simp; done) | (simp; omega) | omega)).trans (rownew' _ _ _ _ (by simp)); have z1_2 : w.heap.size + 1 + 1 < w1.heap.size := Nat.lt_of_lt_of_le (by first | (simp; done) | (simp; omega) | omega) hb1.size; have HR1_2 : Hid _ := R1_2; clear R1_2; have HB1 : Hid (Below _ _ _) := hb1; clear hb1)
    | (go_at_call_of 24 g; go_must (refine (k2 _).mono ?_); rintro e w2 ⟨rfl, hb2⟩; have R2_0 := (hb2.block (w.heap.size) (by first | (simp; done) | (simp; omega) | omega)).trans HR1_0.out; have z2_0 : w.heap.size < w2.heap.size := Nat.lt_of_lt_of_le (by first | (simp; done) | (simp; omega) | omega) hb2.size; have c2_0_0 := rowcell R2_0 0; have c2_0_1 := rowcell R2_0 1; have c2_0_2 := rowcell R2_0 2; have c2_0_3 := rowcell R2_0 3; simp only [List.getElem?_toArray, List.getElem?_cons_zero, List.getElem?_cons_succ] at c2_0_0 c2_0_1 c2_0_2 c2_0_3; have HR2_0 : Hid _ := R2_0; clear R2_0; have R2_1 := (hb2.block (w.heap.size + 1) (by first | (simp; done) | (simp; omega) | omega)).trans HR1_1.out; have z2_1 : w.heap.size + 1 < w2.heap.size := Nat.lt_of_lt_of_le (by first | (simp; done) | (simp; omega) | omega) hb2.size; have c2_1_0 := rowcell R2_1 0; have c2_1_1 := rowcell R2_1 1; have c2_1_2 := rowcell R2_1 2; have c2_1_3 := rowcell R2_1 3; simp only [List.getElem?_toArray, List.getElem?_cons_zero, List.getElem?_cons_succ] at c2_1_0 c2_1_1 c2_1_2 c2_1_3; have HR2_1 : Hid _ := R2_1; clear R2_1; have R2_2 := (hb2.block (w.heap.size + 1 + 1) (by first | (simp; done) | (simp; omega) | omega)).trans HR1_2.out; have z2_2 : w.heap.size + 1 + 1 < w2.heap.size := Nat.lt_of_lt_of_le (by first | (simp; done) | (simp; omega) | omega) hb2.size; have c2_2_0 := rowcell R2_2 0; have c2_2_1 := rowcell R2_2 1; have c2_2_2 := rowcell R2_2 2; have c2_2_3 := rowcell R2_2 3; have c2_2_4 := rowcell R2_2 4; have c2_2_5 := rowcell R2_2 5; simp only [List.getElem?_toArray, List.getElem?_cons_zero, List.getElem?_cons_succ] at c2_2_0 c2_2_1 c2_2_2 c2_2_3 c2_2_4 c2_2_5; have rf := rowfree R2_2; have HR2_2 : Hid _ := R2_2; clear R2_2; have HB2 : Hid (Below _ _ _) := hb2; clear hb2))
  all_goals
    refine bodyPost_ret (v := .tuple #[.agg #[.int .i64 0, .bool false, .int .i64 0, .int .u64 0, .int .u64 0, .bool false], .int .i64 0]) (by simp [results, Try.results10, go_sem, rf, z2_2, c2_2_0, c2_2_1, c2_2_2, c2_2_3, c2_2_4, c2_2_5]) rfl (hQ.out _ _ ⟨by simp, ?_⟩)
    exact cset6 (cthen (cthen (cmore (cmore (cmore (Below.refl _ _) _) _) _) HB1.out) HB2.out) (by omega)
set_option maxHeartbeats 2000000 in
theorem exact10_zero2 (k : Int) (neg : Bool) (s : Int) (f : Nat) (k' : Int) (neg' : Bool) (s' : Int) (g : Nat) (h1 : soundN k neg s f = true) (h2 : soundN k' neg' s' g = true) (hk : k ≠ 2) (hk0 : k ≠ 0) (hk' : k' = 0) (w : World) :
    Calls Try.prog 10 #[numV k neg s f, numV k' neg' s' g] w fun e w' => e = .returned (.tuple #[exV 0 false 0 0 0 false, .int .i64 0]) ∧ Below w.heap.size w w' := by
  have k1 := sound6_any k neg s f
  have k2 := sound6_any k' neg' s' g
  rw [h1] at k1
  rw [h2] at k2
  clear h1 h2
  subst hk'
  have d0 : (k == 2) = false := beq_eq_false_iff_ne.2 hk
  have d1 : (k == 0) = false := beq_eq_false_iff_ne.2 hk0
  clear hk hk0
  unfold numV exV at *
  rw [show ((0 : Nat) : Int) = 0 from rfl] at *
  refine cps fun Q hQ => ?_
  go_enter Try.func10, Try.ntmps10
  go_wp2_with (first
    | (go_at_call_of 24 f; go_must (refine (k1 _).mono ?_); rintro e w1 ⟨rfl, hb1⟩; have R1_0 := (hb1.block (w.heap.size) (by first | (simp; done) | (simp; omega) | omega)).trans ((Below.heap_alloc _ _ _ (by first | (simp; done) | (simp; omega) | omega)).trans ((Below.heap_alloc _ _ _ (by first | (simp; done) | (simp; omega) | omega)).trans (rownew' _ _ _ _ (by simp)))); have z1_0 : w.heap.size < w1.heap.size := Nat.lt_of_lt_of_le (by first | (simp; done) | (simp; omega) | omega) hb1.size; have HR1_0 : Hid _ := R1_0; clear R1_0; have R1_1 := (hb1.block (w.heap.size + 1) (by first | (simp; done) | (simp; omega) | omega)).trans ((Below.heap_alloc _ _ _ (by first | (simp; done) | (simp; omega) | omega)).trans (rownew' _ _ _ _ (by simp))); have z1_1 : w.heap.size + 1 < w1.heap.size := Nat.lt_of_lt_of_le (by first | (simp; done) | (simp; omega) | omega) hb1.size; have c1_1_0 := rowcell R1_1 0; have c1_1_1 := rowcell R1_1 1; have c1_1_2 := rowcell R1_1 2; have c1_1_3 := rowcell R1_1 3; simp only [List.getElem?_toArray, List.getElem?_cons_zero, List.getElem?_cons_succ] at c1_1_0 c1_1_1 c1_1_2 c1_1_3; have HR1_1 : Hid _ := R1_1; clear R1_1; have R1_2 := (hb1.block (w.heap.size + 1 + 1) (by first | (simp; done) | (simp; omega) | omega)).trans (rownew' _ _ _ _ (by simp)); have z1_2 : w.heap.size + 1 + 1 < w1.heap.size := Nat.lt_of_lt_of_le (by first | (simp; done) | (simp; omega) | omega) hb1.size; have HR1_2 : Hid _ := R1_2; clear R1_2; have HB1 : Hid (Below _ _ _) := hb1; clear hb1)
    | (go_at_call_of 24 g; go_must (refine (k2 _).mono ?_); rintro e w2 ⟨rfl, hb2⟩; have R2_0 := (hb2.block (w.heap.size) (by first | (simp; done) | (simp; omega) | omega)).trans HR1_0.out; have z2_0 : w.heap.size < w2.heap.size := Nat.lt_of_lt_of_le (by first | (simp; done) | (simp; omega) | omega) hb2.size; have c2_0_0 := rowcell R2_0 0; have c2_0_1 := rowcell R2_0 1; have c2_0_2 := rowcell R2_0 2; have c2_0_3 := rowcell R2_0 3; simp only [List.getElem?_toArray, List.getElem?_cons_zero, List.getElem?_cons_succ] at c2_0_0 c2_0_1 c2_0_2 c2_0_3; have HR2_0 : Hid _ := R2_0; clear R2_0; have R2_1 := (hb2.block (w.heap.size + 1) (by first | (simp; done) | (simp; omega) | omega)).trans HR1_1.out; have z2_1 : w.heap.size + 1 < w2.heap.size := Nat.lt_of_lt_of_le (by first | (simp; done) | (simp; omega) | omega) hb2.size; have c2_1_0 := rowcell R2_1 0; have c2_1_1 := rowcell R2_1 1; have c2_1_2 := rowcell R2_1 2; have c2_1_3 := rowcell R2_1 3; simp only [List.getElem?_toArray, List.getElem?_cons_zero, List.getElem?_cons_succ] at c2_1_0 c2_1_1 c2_1_2 c2_1_3; have HR2_1 : Hid _ := R2_1; clear R2_1; have R2_2 := (hb2.block (w.heap.size + 1 + 1) (by first | (simp; done) | (simp; omega) | omega)).trans HR1_2.out; have z2_2 : w.heap.size + 1 + 1 < w2.heap.size := Nat.lt_of_lt_of_le (by first | (simp; done) | (simp; omega) | omega) hb2.size; have c2_2_0 := rowcell R2_2 0; have c2_2_1 := rowcell R2_2 1; have c2_2_2 := rowcell R2_2 2; have c2_2_3 := rowcell R2_2 3; have c2_2_4 := rowcell R2_2 4; have c2_2_5 := rowcell R2_2 5; simp only [List.getElem?_toArray, List.getElem?_cons_zero, List.getElem?_cons_succ] at c2_2_0 c2_2_1 c2_2_2 c2_2_3 c2_2_4 c2_2_5; have rf := rowfree R2_2; have HR2_2 : Hid _ := R2_2; clear R2_2; have HB2 : Hid (Below _ _ _) := hb2; clear hb2))
  all_goals
    refine bodyPost_ret (v := .tuple #[.agg #[.int .i64 0, .bool false, .int .i64 0, .int .u64 0, .int .u64 0, .bool false], .int .i64 0]) (by simp [results, Try.results10, go_sem, rf, z2_2, c2_2_0, c2_2_1, c2_2_2, c2_2_3, c2_2_4, c2_2_5]) rfl (hQ.out _ _ ⟨by simp, ?_⟩)
    exact cset6 (cthen (cthen (cmore (cmore (cmore (Below.refl _ _) _) _) _) HB1.out) HB2.out) (by omega)
set_option maxHeartbeats 2000000 in
theorem exact10_real (k : Int) (neg : Bool) (s : Int) (f : Nat) (k' : Int) (neg' : Bool) (s' : Int) (g : Nat) (hf : f < 2 ^ 64) (hg : g < 2 ^ 64) (h1 : soundN k neg s f = true) (h2 : soundN k' neg' s' g = true) (hk : k = 1) (hk' : k' = 1) (w : World) :
    Calls Try.prog 10 #[numV k neg s f, numV k' neg' s' g] w fun e w' => e = .returned (.tuple #[exactV (xorB neg neg') (f * g) (s + s' - 126) false, .int .i64 0]) ∧ Below w.heap.size w w' := by
  subst hk hk'
  have hb1 : -1073741824 ≤ s ∧ s ≤ 1073741824 := by
    unfold soundN at h1; rw [if_neg (by decide)] at h1; exact (of_decide_eq_true h1).2.2
  have hb2 : -1073741824 ≤ s' ∧ s' ≤ 1073741824 := by
    unfold soundN at h2; rw [if_neg (by decide)] at h2; exact (of_decide_eq_true h2).2.2
  have k1 := sound6_any 1 neg s f
  have k2 := sound6_any 1 neg' s' g
  rw [h1] at k1
  rw [h2] at k2
  have hM := mul64_blen hf hg
  have k3 := of_any f hf
  have k4 := of_any g hg
  have k5 := fun va vb w ha hb => nmul_any va vb f g (dlen_mant (Nat.lt_of_lt_of_le hf (by decide))) (dlen_mant (Nat.lt_of_lt_of_le hg (by decide))) w ha hb
  have k6 := fun v w hr => exactly7_any (xorB neg neg') v (f * g) (s + s' - 126) false (Nat.le_trans hM (by decide)) (by omega) w hr
  obtain ⟨K, B, S, H, L, R, hform⟩ := exactV_form (xorB neg neg') (f * g) (s + s' - 126) false
  rw [hform] at k6 ⊢
  obtain ⟨xb, hxb⟩ : ∃ xb, xorB neg neg' = xb := ⟨_, rfl⟩
  have x1 : (neg != neg') = xb := by rw [← hxb]; cases neg <;> cases neg' <;> rfl
  have x2 : (!(neg == neg')) = xb := by rw [← hxb]; cases neg <;> cases neg' <;> rfl
  have x3 : (!decide (neg = neg')) = xb := by rw [← hxb]; cases neg <;> cases neg' <;> rfl
  rw [hxb] at k6
  have e1 : IntKind.i64.wrap (s + s') = s + s' := wrapI (by omega)
  have e2 : IntKind.i64.wrap (s + s' - 126) = s + s' - 126 := wrapI (by omega)
  generalize f * g = M at *
  clear h1 h2 hb1 hb2 hM hform hf hg hxb
  unfold numV exV at *
  refine cps fun Q hQ => ?_
  go_enter Try.func10, Try.ntmps10
  go_wp2_with (first
    | (go_at_call_of 24 f; go_must (refine (k1 _).mono ?_); rintro e w1 ⟨rfl, hb1⟩; have R1_0 := (hb1.block (w.heap.size) (by first | (simp; done) | (simp; omega) | omega)).trans ((Below.heap_alloc _ _ _ (by first | (simp; done) | (simp; omega) | omega)).trans ((Below.heap_alloc _ _ _ (by first | (simp; done) | (simp; omega) | omega)).trans (rownew' _ _ _ _ (by simp)))); have z1_0 : w.heap.size < w1.heap.size := Nat.lt_of_lt_of_le (by first | (simp; done) | (simp; omega) | omega) hb1.size; have HR1_0 : Hid _ := R1_0; clear R1_0; have R1_1 := (hb1.block (w.heap.size + 1) (by first | (simp; done) | (simp; omega) | omega)).trans ((Below.heap_alloc _ _ _ (by first | (simp; done) | (simp; omega) | omega)).trans (rownew' _ _ _ _ (by simp))); have z1_1 : w.heap.size + 1 < w1.heap.size := Nat.lt_of_lt_of_le (by first | (simp; done) | (simp; omega) | omega) hb1.size; have c1_1_0 := rowcell R1_1 0; have c1_1_1 := rowcell R1_1 1; have c1_1_2 := rowcell R1_1 2; have c1_1_3 := rowcell R1_1 3; simp only [List.getElem?_toArray, List.getElem?_cons_zero, List.getElem?_cons_succ] at c1_1_0 c1_1_1 c1_1_2 c1_1_3; have HR1_1 : Hid _ := R1_1; clear R1_1; have R1_2 := (hb1.block (w.heap.size + 1 + 1) (by first | (simp; done) | (simp; omega) | omega)).trans (rownew' _ _ _ _ (by simp)); have z1_2 : w.heap.size + 1 + 1 < w1.heap.size := Nat.lt_of_lt_of_le (by first | (simp; done) | (simp; omega) | omega) hb1.size; have HR1_2 : Hid _ := R1_2; clear R1_2; have HB1 : Hid (Below _ _ _) := hb1; clear hb1)
    | (go_at_call_of 24 g; go_must (refine (k2 _).mono ?_); rintro e w2 ⟨rfl, hb2⟩; have R2_0 := (hb2.block (w.heap.size) (by first | (simp; done) | (simp; omega) | omega)).trans HR1_0.out; have z2_0 : w.heap.size < w2.heap.size := Nat.lt_of_lt_of_le (by first | (simp; done) | (simp; omega) | omega) hb2.size; have c2_0_0 := rowcell R2_0 0; have c2_0_1 := rowcell R2_0 1; have c2_0_2 := rowcell R2_0 2; have c2_0_3 := rowcell R2_0 3; simp only [List.getElem?_toArray, List.getElem?_cons_zero, List.getElem?_cons_succ] at c2_0_0 c2_0_1 c2_0_2 c2_0_3; have HR2_0 : Hid _ := R2_0; clear R2_0; have R2_1 := (hb2.block (w.heap.size + 1) (by first | (simp; done) | (simp; omega) | omega)).trans HR1_1.out; have z2_1 : w.heap.size + 1 < w2.heap.size := Nat.lt_of_lt_of_le (by first | (simp; done) | (simp; omega) | omega) hb2.size; have c2_1_0 := rowcell R2_1 0; have c2_1_1 := rowcell R2_1 1; have c2_1_2 := rowcell R2_1 2; have c2_1_3 := rowcell R2_1 3; simp only [List.getElem?_toArray, List.getElem?_cons_zero, List.getElem?_cons_succ] at c2_1_0 c2_1_1 c2_1_2 c2_1_3; have HR2_1 : Hid _ := R2_1; clear R2_1; have R2_2 := (hb2.block (w.heap.size + 1 + 1) (by first | (simp; done) | (simp; omega) | omega)).trans HR1_2.out; have z2_2 : w.heap.size + 1 + 1 < w2.heap.size := Nat.lt_of_lt_of_le (by first | (simp; done) | (simp; omega) | omega) hb2.size; have c2_2_0 := rowcell R2_2 0; have c2_2_1 := rowcell R2_2 1; have c2_2_2 := rowcell R2_2 2; have c2_2_3 := rowcell R2_2 3; have c2_2_4 := rowcell R2_2 4; have c2_2_5 := rowcell R2_2 5; simp only [List.getElem?_toArray, List.getElem?_cons_zero, List.getElem?_cons_succ] at c2_2_0 c2_2_1 c2_2_2 c2_2_3 c2_2_4 c2_2_5; have rf := rowfree R2_2; have HR2_2 : Hid _ := R2_2; clear R2_2; have HB2 : Hid (Below _ _ _) := hb2; clear hb2))
  have cls : ∀ W, Below w2.heap.size w2 W → W.cell? ⟨w.heap.size, 3, none⟩ = some (.int .u64 f) ∧ W.cell? ⟨w.heap.size + 1, 3, none⟩ = some (.int .u64 g) := fun W hW => ⟨(hW.cell (p := ⟨w.heap.size, 3, none⟩) z2_0).trans c2_0_3, (hW.cell (p := ⟨w.heap.size + 1, 3, none⟩) z2_1).trans c2_1_3⟩
  refine wpC_region (fun W => W.cell? ⟨w.heap.size, 3, none⟩ = some (.int .u64 f) ∧ W.cell? ⟨w.heap.size + 1, 3, none⟩ = some (.int .u64 g)) (by kernel_rfl) ?_
  refine wpC_take 0 (v := ?_) rfl (by kernel_rfl) (fun _ _ _ h => h) (by kernel_rfl) ?_ ?_; rotate_left; · (intro wC hC; obtain ⟨c1, c2⟩ := hC; go_simp <;> with_reducible rfl)
  refine wpC_take 1 (v := ?_) rfl (by kernel_rfl) (fun _ _ _ h => h) (by kernel_rfl) ?_ ?_; rotate_left; · (intro wC hC; obtain ⟨c1, c2⟩ := hC; go_simp <;> with_reducible rfl)
  refine wpC_take 3 (v := ?_) rfl (by kernel_rfl) (fun _ _ _ h => h) (by kernel_rfl) ?_ ?_; rotate_left; · (intro wC hC; obtain ⟨c1, c2⟩ := hC; go_simp <;> with_reducible rfl)
  refine wpC_take 4 (v := ?_) rfl (by kernel_rfl) (fun _ _ _ h => h) (by kernel_rfl) ?_ ?_; rotate_left; · (intro wC hC; obtain ⟨c1, c2⟩ := hC; go_simp <;> with_reducible rfl)
  have b2 := cdrew (Below.refl w2.heap.size w2)
  refine wpC_step 2 rfl (by kernel_rfl) (by kernel_rfl) (cls _ b2) (fun K hK => ?_)
  go_simp
  go_wp2_with ((go_at_call_of 26 f; go_must (refine (k3 _).mono ?_); rintro e w3 ⟨v3, rfl, hr3, hb3⟩))
  try (refine hK _ _ ?_; clear hK K)
  have b3 : Below w2.heap.size w2 w3 := cthen b2 hb3
  refine wpC_step 5 rfl (by kernel_rfl) (by kernel_rfl) (cls _ b3) (fun K hK => ?_)
  go_simp
  go_wp2_with ((go_at_call_of 26 g; go_must (refine (k4 _).mono ?_); rintro e w4 ⟨v4, rfl, hr4, hb4⟩))
  try (refine hK _ _ ?_; clear hK K)
  have b4 : Below w2.heap.size w2 w4 := cthen b3 hb4
  refine wpC_step 6 rfl (by kernel_rfl) (by kernel_rfl) (cls _ b4) (fun K hK => ?_)
  go_simp
  go_wp2_with ((go_at_call 25; go_must (refine (k5 _ _ _ (hr3.below hb4) hr4).mono ?_); rintro e w5 ⟨v5, rfl, hr5, hb5⟩))
  try (refine hK _ _ ?_; clear hK K)
  have b5 : Below w2.heap.size w2 w5 := cthen b4 hb5
  refine wpC_take 7 (v := ?_) rfl (by kernel_rfl) (fun _ _ _ h => h) (by kernel_rfl) ?_ ?_; rotate_left; · (intro wC hC; obtain ⟨c1, c2⟩ := hC; go_simp <;> with_reducible rfl)
  refine wpC_done (by kernel_rfl) (cls _ b5) ?_
  have X0 := (b5.block w.heap.size z2_0).trans HR2_0.out
  have X1 := (b5.block (w.heap.size + 1) z2_1).trans HR2_1.out
  have a1 := rowcell X0 1
  have a2 := rowcell X0 2
  have d1 := rowcell X1 1
  have d2 := rowcell X1 2
  simp only [List.getElem?_toArray, List.getElem?_cons_zero, List.getElem?_cons_succ] at a1 a2 d1 d2
  have y2 : w.heap.size + 1 + 1 < w5.heap.size := Nat.lt_of_lt_of_le z2_2 b5.size
  have HV5 : Hid (Row w5 v5 (dig M)) := hr5
  have HB5 : Hid (Below w2.heap.size w2 w5) := b5
  clear cls X0 X1 b2 b3 b4 b5 hb3 hb4 hb5 hr3 hr4 hr5 k3 k4 k5
  go_wp2_with (go_at_call 27; go_must (refine (k6 _ _ HV5.out).mono ?_); rintro e w6 ⟨rfl, hb6⟩; have RR := (hb6.block (w.heap.size + 1 + 1) y2).trans ((HB5.out.block (w.heap.size + 1 + 1) z2_2).trans HR2_2.out); have y6 : w.heap.size + 1 + 1 < w6.heap.size := rowlt RR; have r0 := rowcell RR 0; have r1 := rowcell RR 1; have r2 := rowcell RR 2; have r3 := rowcell RR 3; have r4 := rowcell RR 4; have r5 := rowcell RR 5; have rg := rowfree RR; simp only [List.getElem?_toArray, List.getElem?_cons_zero, List.getElem?_cons_succ] at r0 r1 r2 r3 r4 r5; have HB6 : Hid (Below _ _ _) := hb6; clear hb6 RR)
  refine bodyPost_ret (v := .tuple #[.agg #[.int .i64 K, .bool B, .int .i64 S, .int .u64 H, .int .u64 L, .bool R], .int .i64 0]) (by simp [results, Try.results10, go_sem, rg, y6, r0, r1, r2, r3, r4, r5]) rfl (hQ.out _ _ ⟨by simp, ?_⟩)
  exact cset6 (cthen (cthen (cthen (cthen (cmore (cmore (cmore (Below.refl _ _) _) _) _) HB1.out) HB2.out) HB5.out) HB6.out) (by omega)
theorem exact10_bad (k : Int) (neg : Bool) (s : Int) (f : Nat) (k' : Int) (neg' : Bool) (s' : Int) (g : Nat) (h : (soundN k neg s f && soundN k' neg' s' g) = false) (w : World) :
    Calls Try.prog 10 #[numV k neg s f, numV k' neg' s' g] w fun e w' => e = .returned (.tuple #[exV 0 false 0 0 0 false, .int .i64 1]) ∧ Below w.heap.size w w' := by
  cases h1 : soundN k neg s f
  · exact exact10_bad1 k neg s f k' neg' s' g h1 w
  · rw [h1] at h
    exact exact10_bad2 k neg s f k' neg' s' g h1 h w
theorem soundN_kinds {k : Int} {neg : Bool} {s : Int} {f : Nat} (h : soundN k neg s f = true) : k = 0 ∨ k = 2 ∨ k = 1 := by
  rcases sound_cases h with ⟨a, _⟩ | ⟨a, _⟩ | a
  · exact .inl a
  · exact .inr (.inl a)
  · exact .inr (.inr a)
theorem exact10_ok (k : Int) (neg : Bool) (s : Int) (f : Nat) (k' : Int) (neg' : Bool) (s' : Int) (g : Nat) (hf : f < 2 ^ 64) (hg : g < 2 ^ 64) (h1 : soundN k neg s f = true) (h2 : soundN k' neg' s' g = true) (w : World) :
    Calls Try.prog 10 #[numV k neg s f, numV k' neg' s' g] w fun e w' => e = .returned (.tuple #[prod10 k neg s f k' neg' s' g, .int .i64 0]) ∧ Below w.heap.size w w' := by
  unfold prod10
  by_cases a2 : k = 2
  · rw [if_pos (.inl a2)]; exact exact10_nar1 k neg s f k' neg' s' g h1 h2 a2 w
  · by_cases b2 : k' = 2
    · rw [if_pos (.inr b2)]; exact exact10_nar2 k neg s f k' neg' s' g h1 h2 a2 b2 w
    · rw [if_neg (by rintro (c | c); exact a2 c; exact b2 c)]
      by_cases a0 : k = 0
      · rw [if_pos (.inl a0)]; exact exact10_zero1 k neg s f k' neg' s' g h1 h2 a0 b2 w
      · by_cases b0 : k' = 0
        · rw [if_pos (.inr b0)]; exact exact10_zero2 k neg s f k' neg' s' g h1 h2 a2 a0 b0 w
        · rw [if_neg (by rintro (c | c); exact a0 c; exact b0 c)]
          have ka : k = 1 := by rcases soundN_kinds h1 with c | c | c; exact absurd c a0; exact absurd c a2; exact c
          have kb : k' = 1 := by rcases soundN_kinds h2 with c | c | c; exact absurd c b0; exact absurd c b2; exact c
          exact exact10_real k neg s f k' neg' s' g hf hg h1 h2 ka kb w
theorem mul10_any (n a b : Nat) (hn : Wd n) (ha : a < 2 ^ 64) (hb : b < 2 ^ 64) (w : World) :
    Calls Try.prog 31 #[.int .i64 n, .int .u64 a, .int .u64 b] w fun e w' => e = .returned (.int .u64 (patP n a b)) ∧ Below w.heap.size w w' := by
  have k1 := decode6_v n a hn ha
  have k2 := decode6_v n b hn hb
  have k3 := exact10_ok (vK n a) (vB n a) (vS n a) (vF n a) (vK n b) (vB n b) (vS n b) (vF n b) (vF_lt n a) (vF_lt n b) (sound_v n a hn ha) (sound_v n b hn hb)
  rw [prod10_val n a b hn ha hb] at k3
  have k4 : ∀ w, Calls Try.prog 51 #[.int .i64 n, if vK n a = 2 ∨ vK n b = 2 then exV 2 false 0 0 0 false else exI (valI n a * valI n b) (eN + eN)] w fun r w' => r = .returned (.int .u64 (patP n a b : Nat)) ∧ Below w.heap.size w w' := by
    intro w
    unfold patP
    by_cases h : vK n a = 2 ∨ vK n b = 2
    · rw [if_pos h, if_pos h]; exact round7_nar n hn w
    · rw [if_neg h, if_neg h]; exact round7_exI n _ _ hn w
  have hform : ∃ K B S H L R, (if vK n a = 2 ∨ vK n b = 2 then exV 2 false 0 0 0 false else exI (valI n a * valI n b) (eN + eN)) = exV K B S H L R := by
    by_cases h : vK n a = 2 ∨ vK n b = 2
    · rw [if_pos h]; exact ⟨_, _, _, _, _, _, rfl⟩
    · rw [if_neg h]; exact exI_form _ _
  obtain ⟨K, B, S, H, L, R, hform⟩ := hform
  rw [hform] at k3 k4
  clear hform hn ha hb
  generalize patP n a b = P at *
  generalize vK n a = ka at *
  generalize vB n a = ba at *
  generalize vS n a = sa at *
  generalize vF n a = fa at *
  generalize vK n b = kb at *
  generalize vB n b = bb at *
  generalize vS n b = sb at *
  generalize vF n b = fb at *
  unfold numV exV at *
  refine cps fun Q hQ => ?_
  go_enter Try.func31, Try.ntmps31
  go_wp2_with (first
    | (go_at_call_of 50 a; go_must (refine (k1 _).mono ?_); rintro e w1 ⟨rfl, hb1⟩; have HB1 : Hid (Below _ _ _) := hb1; clear hb1)
    | (go_at_call_of 50 b; go_must (refine (k2 _).mono ?_); rintro e w2 ⟨rfl, hb2⟩; have HB2 : Hid (Below _ _ _) := hb2; clear hb2)
    | (go_at_call 10; go_must (refine (k3 _).mono ?_); rintro e w3 ⟨rfl, hb3⟩; have HB3 : Hid (Below _ _ _) := hb3; clear hb3)
    | (go_at_call 51; go_must (refine (k4 _).mono ?_); rintro e w4 ⟨rfl, hb4⟩; have R4_0 := (hb4.block (w3.heap.size) (by first | (simp; done) | (simp; omega) | omega)).trans (rownew' _ _ _ _ (by simp)); have z4_0 : w3.heap.size < w4.heap.size := Nat.lt_of_lt_of_le (by first | (simp; done) | (simp; omega) | omega) hb4.size; have ne4_0 : ¬ w3.heap.size = w4.heap.size := (by omega); have en4_0 : ¬ w4.heap.size = w3.heap.size := (by omega); have c4_0_0 := rowcell R4_0 0; have c4_0_1 := rowcell R4_0 1; have c4_0_2 := rowcell R4_0 2; have c4_0_3 := rowcell R4_0 3; have c4_0_4 := rowcell R4_0 4; have c4_0_5 := rowcell R4_0 5; have cf4_0 := rowfree R4_0; simp only [List.getElem?_toArray, List.getElem?_cons_zero, List.getElem?_cons_succ] at c4_0_0 c4_0_1 c4_0_2 c4_0_3 c4_0_4 c4_0_5; have HR4_0 : Hid _ := R4_0; clear R4_0; have HB4 : Hid (Below _ _ _) := hb4; clear hb4))
  exact hQ.out _ _ ⟨rfl, cthen (cmore (cthen (cthen (cthen (Below.refl _ _) HB1.out) HB2.out) HB3.out) _) HB4.out⟩
theorem muls10_no (n : Int) (a b : Nat) (hn : isW n = false) (w : World) :
    Calls Try.prog 13 #[.int .i64 n, .int .u64 a, .int .u64 b] w fun e w' => e = .returned (.tuple #[.int .u64 0, .int .i64 2]) ∧ Below w.heap.size w w' := by
  have kis := is_width n
  rw [hn] at kis
  clear hn
  refine cps fun Q hQ => ?_
  go_enter Try.func13, Try.ntmps13
  go_wp2_with (go_at_call 16; refine (kis _).mono ?_; rintro e wx ⟨rfl, hwx⟩; rw [hwx]; clear hwx wx)
  exact hQ.out _ _ ⟨rfl, Below.refl _ _⟩
theorem muls10_ok (n a b : Nat) (hn : Wd n) (ha : a < 2 ^ 64) (hb : b < 2 ^ 64) (w : World) :
    Calls Try.prog 13 #[.int .i64 n, .int .u64 a, .int .u64 b] w fun e w' => e = .returned (.tuple #[.int .u64 (patP n a b : Nat), .int .i64 0]) ∧ Below w.heap.size w w' := by
  have kis := is_width n
  rw [isW_of hn] at kis
  have k1 := mul10_any n a b hn ha hb
  clear hn ha hb
  generalize patP n a b = P at *
  refine cps fun Q hQ => ?_
  go_enter Try.func13, Try.ntmps13
  go_wp2_with (first
    | (go_at_call 16; refine (kis _).mono ?_; rintro e wx ⟨rfl, hwx⟩; rw [hwx]; clear hwx wx)
    | (go_at_call 31; refine (k1 _).mono ?_; rintro e w1 ⟨rfl, hb1⟩))
  exact hQ.out _ _ ⟨rfl, hb1⟩
theorem power10_no (n : Int) (a : Nat) (k : Int) (hn : isW n = false) (w : World) :
    Calls Try.prog 15 #[.int .i64 n, .int .u64 a, .int .i64 k] w fun e w' => e = .returned (.tuple #[.int .u64 0, .int .i64 2]) ∧ Below w.heap.size w w' := by
  have k1 := rkind_no n a hn
  clear hn
  refine cps fun Q hQ => ?_
  go_enter Try.func15, Try.ntmps15
  go_wp2_with (go_at_call 33; refine (k1 _).mono ?_; rintro e wx ⟨rfl, hwx⟩; rw [hwx]; clear hwx wx)
  exact hQ.out _ _ ⟨rfl, Below.refl _ _⟩
theorem power10_bad (n a : Nat) (k : Int) (hn : Wd n) (hk : k < 0 ∨ 1024 < k) (w : World) :
    Calls Try.prog 15 #[.int .i64 n, .int .u64 a, .int .i64 k] w fun e w' => e = .returned (.tuple #[.int .u64 0, .int .i64 1]) ∧ Below w.heap.size w w' := by
  have k1 := rkind_ok n a hn
  generalize kindOf n (a % 2 ^ n) = kd at *
  have hd : decide (k < 0) = true ∨ (decide (k < 0) = false ∧ decide (1024 < k) = true) := by
    by_cases c : k < 0
    · exact .inl (decide_eq_true c)
    · exact .inr ⟨decide_eq_false c, decide_eq_true (by omega)⟩
  clear hn hk
  refine cps fun Q hQ => ?_
  rcases hd with d1 | ⟨d1, d2⟩
  all_goals
    go_enter Try.func15, Try.ntmps15
    go_wp2_with (go_at_call 33; refine (k1 _).mono ?_; rintro e w1 ⟨rfl, hb1⟩)
    exact hQ.out _ _ ⟨rfl, hb1⟩
theorem power10_nar (n a : Nat) (k : Int) (hn : Wd n) (hk : 0 ≤ k ∧ k ≤ 1024) (h2 : vK n a = 2) (w : World) :
    Calls Try.prog 15 #[.int .i64 n, .int .u64 a, .int .i64 k] w fun e w' => e = .returned (.tuple #[.int .u64 (2 ^ (n - 1) : Nat), .int .i64 0]) ∧ Below w.heap.size w w' := by
  have k1 := rkind_ok n a hn
  have hw := wd_le hn
  have k2 := power_sub n (by omega) hw.2
  have h2' : kindOf n (a % 2 ^ n) = 2 := h2
  rw [h2'] at k1
  have d1 : decide (k < 0) = false := decide_eq_false (by omega)
  have d2 : decide (1024 < k) = false := decide_eq_false (by omega)
  have q1 : IntKind.i64.wrap ((n : Int) - 1) = (n : Int) - 1 := wrapI (by omega)
  clear hn hk h2 h2'
  generalize 2 ^ (n - 1) = nar at *
  refine cps fun Q hQ => ?_
  go_enter Try.func15, Try.ntmps15
  go_wp2_with (first
    | (go_at_call 33; refine (k1 _).mono ?_; rintro e w1 ⟨rfl, hb1⟩)
    | (go_at_call 17; refine (k2 _).mono ?_; rintro e wx ⟨rfl, hwx⟩; rw [hwx]; clear hwx wx))
  exact hQ.out _ _ ⟨rfl, hb1⟩
set_option maxHeartbeats 1000000 in
theorem power10_ok (n a k : Nat) (hn : Wd n) (ha : a < 2 ^ 64) (hk : k ≤ 1024) (h2 : vK n a ≠ 2) (w : World) :
    Calls Try.prog 15 #[.int .i64 n, .int .u64 a, .int .i64 k] w fun e w' => e = .returned (.tuple #[.int .u64 (powP n a k : Nat), .int .i64 0]) ∧ Below w.heap.size w w' := by
  have k1 := rkind_ok n a hn
  have hw := wd_le hn
  have k2 := power_any (n - 2) (by omega)
  have d1 : decide ((k : Int) < 0) = false := decide_eq_false (by omega)
  have d2 : decide (1024 < (k : Int)) = false := decide_eq_false (by omega)
  have d3 : (((kindOf n (a % 2 ^ n) : Int)) == 2) = false := beq_eq_false_iff_ne.2 h2
  have q1 : IntKind.i64.wrap ((n : Int) - 2) = ((n - 2 : Nat) : Int) := by rw [wrapI (by omega)]; omega
  have HM : Hid (∀ j w, Calls Try.prog 31 #[.int .i64 n, .int .u64 (powP n a j : Nat), .int .u64 a] w fun e w' => e = .returned (.int .u64 (powP n a (j + 1) : Nat)) ∧ Below w.heap.size w w') := fun j w => mul10_any n (powP n a j) a hn (powP_lt n a j hn) ha w
  have HP0 : Hid (powP n a 0 = 2 ^ (n - 2)) := rfl
  clear h2 hn ha
  generalize kindOf n (a % 2 ^ n) = kd at *
  generalize 2 ^ (n - 2) = one at *
  generalize powP n a = pw at *
  refine cps fun Q hQ => ?_
  go_enter Try.func15, Try.ntmps15
  go_wp2_with (first
    | (go_at_call 33; refine (k1 _).mono ?_; rintro e w1 ⟨rfl, hb1⟩)
    | (go_at_call 17; refine (k2 _).mono ?_; rintro e wx ⟨rfl, hwx⟩; rw [hwx]; clear hwx wx))
  have z1 : Hid (Below w.heap.size w w1) := hb1
  clear hb1
  go_loopw [10, 11] (fun p i wr => ∃ j : Nat, j ≤ k ∧ p = .int .u64 (pw j : Nat) ∧ i = .int .i64 j ∧ Hid (Below w.heap.size w wr)) (fun _ i _ => k - (intOf i).toNat)
  case atStart => exact ⟨0, Nat.zero_le _, by rw [HP0.out], rfl, z1⟩
  case round =>
    obtain ⟨j, hj, rfl, rfl, hbj⟩ := hrel
    by_cases hlt : j < k
    · have hlt' : (j : Int) < k := by omega
      have km := HM.out j
      go_wp2_with (go_at_call 31; refine (km _).mono ?_; rintro e w3 ⟨rfl, hb3⟩)
      go_roundw
      case rel => exact ⟨j + 1, by omega, rfl, by go_num, cthen hbj.out hb3⟩
      case measure => simp [intOf]; omega
    · have e1 : j = k := by omega
      subst e1
      go_wp2
      exact hQ.out _ _ ⟨rfl, hbj.out⟩
end Go.Proofs.Ytejibojcfobdkaa

namespace Go.Proofs.Ytejibojcfobdkaa
open Go.ChangeShapes Go.WideShapes Go.ChangeAt Go.RowKit
set_option linter.unusedVariables false
set_option linter.unusedSimpArgs false
set_option maxRecDepth 100000

theorem nil_not_code (w : World) (c : Int) : (binOp BinOp.eql 29 .nilIface (.iface 45 (.int .i64 c))).run Try.prog w = .ok (.bool false) w := by kernel_rfl
end Go.Proofs.Ytejibojcfobdkaa

namespace Go.Proofs.Ytejibojcfobdkaa
open Go.ChangeShapes Go.WideShapes Go.ChangeAt Go.RowKit
set_option linter.unusedVariables false
set_option linter.unusedSimpArgs false
set_option maxRecDepth 100000

/-- the head of all laws of this layer -/
theorem produp_any (w : World) : Calls Try.prog 8 #[] w fun e w' => e = .returned (.bool true) ∧ Below w.heap.size w w' := by
  have k1 := fun w => pmul_ok 8 72 72 (.inl rfl) (by decide) (by decide) w
  have k2 := fun w => pmul_ok 8 1 255 (.inl rfl) (by decide) (by decide) w
  rw [show patP 8 72 72 = 80 by decide +kernel] at k1
  rw [show patP 8 1 255 = 255 by decide +kernel] at k2
  rw [show ((72 : Nat) : Int) = 72 from rfl, show ((8 : Nat) : Int) = 8 from rfl, show ((80 : Nat) : Int) = 80 from rfl] at k1
  rw [show ((1 : Nat) : Int) = 1 from rfl, show ((8 : Nat) : Int) = 8 from rfl, show ((255 : Nat) : Int) = 255 from rfl] at k2
  refine cps fun Q hQ => ?_
  go_enter Try.func8, Try.ntmps8
  go_wp2_with (first
    | (go_at_call_of 12 (72 : Int); refine (k1 _).mono ?_; rintro e w1 ⟨rfl, hb1⟩)
    | (go_at_call 12; refine (k2 _).mono ?_; rintro e w2 ⟨rfl, hb2⟩))
  exact hQ.out _ _ ⟨rfl, cthen hb1 hb2⟩
end Go.Proofs.Ytejibojcfobdkaa

namespace Go.Proofs.Ytejibojcfobdkaa
open Go.ChangeShapes Go.WideShapes Go.ChangeAt Go.RowKit
set_option linter.unusedVariables false
set_option linter.unusedSimpArgs false
set_option maxRecDepth 100000

/-! ### powers of 2 as patterns -/
def P63 : Nat := 9223372036854775808
theorem P63_eq : P63 = 9223372036854775808 := rfl
theorem P63_man : manX P63 0 = 2 ^ 127 := by unfold manX P63; decide
theorem P63_words : WordsX P63 0 := ⟨by decide, by decide, by decide⟩
def okT (n : Nat) (s : Int) : Bool := inR n s && fitsN n s P63
def patT (n : Nat) (s : Int) : Nat := if okT n s then patOf n false (cutL n s P63) else 0
theorem okT_facts (n : Nat) (s : Int) (hn : Wd n) (h : okT n s = true) :
    patT n s < 2 ^ n ∧ vK n (patT n s) = 1 ∧ valI n (patT n s) = sg false (manX P63 0) * ((2 ^ (s + 248).toNat : Nat) : Int) ∧ 8 - 4 * (n : Int) ≤ s ∧ s ≤ 4 * n - 8 ∧ patT n s = rndX n s P63 0 false := by
  obtain ⟨h1, h2⟩ := Bool.and_eq_true_iff.1 h
  obtain ⟨ht, hl⟩ := cut_true n s P63 hn h1
  obtain ⟨p1, p2, p3, p4⟩ := patOf_facts n hn false (cutL n s P63) hl ht
  obtain ⟨f1, f2⟩ := of_decide_eq_true h2
  have hr := of_decide_eq_true h1
  have e : patT n s = patOf n false (cutL n s P63) := by unfold patT; rw [if_pos h]
  rw [e]
  refine ⟨p1, p2, ?_, hr.1, hr.2, ?_⟩
  · unfold valI
    have k1 : vK n (patOf n false (cutL n s P63)) = 1 := p2
    have k2 : vB n (patOf n false (cutL n s P63)) = false := by unfold vB; rw [if_pos p2, p3]
    have k3 : vS n (patOf n false (cutL n s P63)) = s := by unfold vS; rw [if_pos p2, p4, f1]
    have k4 : vF n (patOf n false (cutL n s P63)) = P63 := by unfold vF; rw [if_pos p2, p4, f2]
    rw [if_pos k1, k2, k3, k4]
  · have := rnd_home n (cutL n s P63) hn hl ht
    rw [f1, f2] at this
    rw [this]; rfl
theorem okT_parts (n : Nat) (s : Int) (hn : Wd n) (h : okT n s = true) : vB n (patT n s) = false ∧ vS n (patT n s) = s ∧ vF n (patT n s) = P63 := by
  obtain ⟨h1, h2⟩ := Bool.and_eq_true_iff.1 h
  obtain ⟨ht, hl⟩ := cut_true n s P63 hn h1
  obtain ⟨p1, p2, p3, p4⟩ := patOf_facts n hn false (cutL n s P63) hl ht
  obtain ⟨f1, f2⟩ := of_decide_eq_true h2
  have e : patT n s = patOf n false (cutL n s P63) := by unfold patT; rw [if_pos h]
  rw [e]
  refine ⟨?_, ?_, ?_⟩
  · unfold vB; rw [if_pos p2, p3]
  · unfold vS; rw [if_pos p2, p4, f1]
  · unfold vF; rw [if_pos p2, p4, f2]
theorem two_mul (n : Nat) (s t : Int) (hn : Wd n) (hs : okT n s = true) (ht : okT n t = true) : patP n (patT n s) (patT n t) = rndX n (s + t) P63 0 false := by
  obtain ⟨_, a2, a3, a4, a5, _⟩ := okT_facts n s hn hs
  obtain ⟨_, b2, b3, b4, b5, _⟩ := okT_facts n t hn ht
  have hw := wd_le hn
  unfold patP
  rw [if_neg (by rw [a2, b2]; decide), a3, b3]
  have e1 : sg false (manX P63 0) * ((2 ^ (s + 248).toNat : Nat) : Int) * (sg false (manX P63 0) * ((2 ^ (t + 248).toNat : Nat) : Int)) = sg false (manX P63 0) * ((2 ^ (s + t + 623).toNat : Nat) : Int) := by
    rw [← sg_mul, ← sg_mul, ← sg_mul, sg_times]
    have hx : xorB false false = false := rfl
    rw [hx]
    congr 1
    rw [P63_man, ← Nat.pow_add, ← Nat.pow_add, ← Nat.pow_add, ← Nat.pow_add]
    congr 1
    omega
  rw [e1]
  have h := exI_real false (s + t) P63 0 P63_words (by omega) (-623) (s + t + 623).toNat (by omega)
  rw [show (-623 : Int) - 127 = eN + eN from rfl] at h
  have h0 : sg false (manX P63 0) * ((2 ^ (s + t + 623).toNat : Nat) : Int) ≠ 0 := by
    rw [← sg_mul, P63_man]
    have : 0 < 2 ^ 127 * 2 ^ (s + t + 623).toNat := Nat.mul_pos (Nat.pow_pos (by decide)) (Nat.pow_pos (by decide))
    unfold sg
    rw [if_neg (by decide)]
    generalize 2 ^ 127 * 2 ^ (s + t + 623).toNat = x at *
    omega
  rw [patI_of h0 h]
  rfl
theorem enc_two (n : Nat) (s : Int) (hn : Wd n) (h1 : -1000 ≤ s) (h2 : s ≤ 1000) (w : World) :
    Calls Try.prog 35 #[.int .i64 n, numV 1 false s P63] w fun e w' => e = .returned (.tuple #[.int .u64 (patT n s : Nat), .int .i64 (if okT n s then 0 else 8)]) ∧ Below w.heap.size w w' := by
  have hs : soundN 1 false s P63 = true := by unfold soundN; rw [if_neg (by decide)]; exact decide_eq_true ⟨rfl, by decide, by omega, by omega⟩
  unfold patT okT
  cases hr : inR n s
  · simp only [Bool.false_and, Bool.false_eq_true, if_false]
    exact encode6_out n false s P63 hn hs hr w
  · have := encode6_real n false s P63 hn hs (by decide) hr w
    simp only [Bool.true_and]
    cases hf : fitsN n s P63
    · rw [hf] at this
      simp only [Bool.false_eq_true, if_false] at this ⊢
      exact this
    · rw [hf] at this
      simp only [if_true] at this ⊢
      exact this
theorem two10_any (n : Nat) (s : Int) (hn : Wd n) (h1 : -1000 ≤ s) (h2 : s ≤ 1000) (w : World) :
    Calls Try.prog 20 #[.int .i64 n, .int .i64 s] w fun e w' => e = .returned (.tuple #[.int .u64 (patT n s : Nat), .bool (okT n s)]) ∧ Below w.heap.size w w' := by
  have k1 := enc_two n s hn h1 h2
  have k2 := power_any 63 (by decide)
  rw [show (2 : Nat) ^ 63 = P63 by decide, show ((63 : Nat) : Int) = 63 from rfl] at k2
  unfold numV at k1
  clear hn h1 h2
  generalize patT n s = p at *
  generalize P63 = q at *
  generalize okT n s = ok at *
  refine cps fun Q hQ => ?_
  cases ok
  all_goals
    simp only [Bool.false_eq_true, if_false, if_true] at k1
    go_enter Try.func20, Try.ntmps20
    go_wp2_with (first
      | (go_at_call 17; refine (k2 _).mono ?_; rintro e wx ⟨rfl, hwx⟩; rw [hwx]; clear hwx wx)
      | (go_at_call 35; refine (k1 _).mono ?_; rintro e w1 ⟨rfl, hb1⟩))
    exact hQ.out _ _ ⟨rfl, hb1⟩
end Go.Proofs.Ytejibojcfobdkaa
