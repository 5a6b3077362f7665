import Derived.Test.YtllahgcifichbaaJoin4
import Derived.Test.YtllahgcifichbaaJoin2
import Derived.Test.YtllahgcifichbaaJoin3
import Derived.Laws.AppendOwnNone
import Derived.Test.YtllahgcifichbaaJoin1
import Derived.Deep.CutBlock
import Derived.Deep.CutRange
namespace Go.Proofs.Ytllahgcifichbaa
open Go.ChangeShapes Go.WideShapes Go.ChangeAt Go.RowKit
set_option linter.unusedVariables false
set_option linter.unusedSimpArgs false
set_option maxRecDepth 100000

theorem sumR_form (neg : Bool) (s : Int) (M : Nat) (neg' : Bool) (s' : Int) (M' : Nat) : ∃ k b s2 h l r, sumR neg s M neg' s' M' = exV k b s2 h l r := by
  unfold sumR
  by_cases c : s < s'
  · rw [if_pos c]; exact sumD_form _ _ _ _ _ _
  · rw [if_neg c]; exact sumD_form _ _ _ _ _ _
theorem sum9_form (k : Int) (neg : Bool) (s : Int) (hi lo : Nat) (k' : Int) (neg' : Bool) (s' : Int) (hi' lo' : Nat) : ∃ k2 b s2 h l r, sum9 k neg s hi lo k' neg' s' hi' lo' = exV k2 b s2 h l r := by
  unfold sum9
  by_cases h : k = 2 ∨ k' = 2
  · rw [if_pos h]; exact ⟨_, _, _, _, _, _, rfl⟩
  · rw [if_neg h]
    by_cases h0 : k = 0
    · rw [if_pos h0]; exact ⟨_, _, _, _, _, _, rfl⟩
    · rw [if_neg h0]
      by_cases h1 : k' = 0
      · rw [if_pos h1]; exact ⟨_, _, _, _, _, _, rfl⟩
      · rw [if_neg h1]; exact sumR_form _ _ _ _ _ _
theorem soundN_X {k : Int} {neg : Bool} {s : Int} {f : Nat} (h : soundN k neg s f = true) : soundX k neg s f 0 false = true := by
  unfold soundN at h
  unfold soundX
  by_cases hk : k = 0 ∨ k = 2
  · rw [if_pos hk] at h ⊢
    have := of_decide_eq_true h
    exact decide_eq_true ⟨this.1, this.2.1, this.2.2, rfl, rfl⟩
  · rw [if_neg hk] at h ⊢
    obtain ⟨a, b, c, d⟩ := of_decide_eq_true h
    exact decide_eq_true ⟨a, b, by omega, by omega⟩
theorem vF_lt (n x : Nat) : vF n x < 2 ^ 64 := by
  unfold vF
  split
  · exact (wordL_bounds _).2
  · decide
end Go.Proofs.Ytllahgcifichbaa

namespace Go.Proofs.Ytllahgcifichbaa
open Go.ChangeShapes Go.WideShapes Go.ChangeAt Go.RowKit
set_option linter.unusedVariables false
set_option linter.unusedSimpArgs false
set_option maxRecDepth 100000

/-! ### the document's products -/
theorem prod10_form (k : Int) (neg : Bool) (s : Int) (f : Nat) (k' : Int) (neg' : Bool) (s' : Int) (g : Nat) : ∃ k2 b s2 h l r, prod10 k neg s f k' neg' s' g = exV k2 b s2 h l r := by
  unfold prod10
  by_cases h : k = 2 ∨ k' = 2
  · rw [if_pos h]; exact ⟨_, _, _, _, _, _, rfl⟩
  · rw [if_neg h]
    by_cases h0 : k = 0 ∨ k' = 0
    · rw [if_pos h0]; exact ⟨_, _, _, _, _, _, rfl⟩
    · rw [if_neg h0]; exact exactV_form _ _ _ _
theorem mul64_blen {f g : Nat} (hf : f < 2 ^ 64) (hg : g < 2 ^ 64) : blen (f * g) ≤ 128 := by
  refine blen_le.2 ?_
  rw [show (2 : Nat) ^ 128 = 2 ^ 64 * 2 ^ 64 by decide]
  rcases Nat.eq_zero_or_pos f with rfl | h
  · rw [Nat.zero_mul]; decide
  · exact Nat.mul_lt_mul_of_lt_of_le hf (Nat.le_of_lt hg) (by decide)
set_option maxHeartbeats 2000000 in
theorem exact10_bad1 (k : Int) (neg : Bool) (s : Int) (f : Nat) (k' : Int) (neg' : Bool) (s' : Int) (g : Nat) (h1 : soundN k neg s f = false) (w : World) :
    Calls Try.prog 17 #[numV k neg s f, numV k' neg' s' g] w fun e w' => e = .returned (.tuple #[exV 0 false 0 0 0 false, .int .i64 1]) ∧ Below w.heap.size w w' := by
  have k1 := sound6_any k neg s f
  have k2 := sound6_any k' neg' s' g
  rw [h1] at k1
  generalize soundN k' neg' s' g = b2 at *
  clear h1
  unfold numV exV at *
  rw [show ((0 : Nat) : Int) = 0 from rfl] at *
  refine cps fun Q hQ => ?_
  go_enter Try.func17, Try.ntmps17
  go_wp2_with (first
    | (go_at_call_of 40 f; go_must (refine (k1 _).mono ?_); rintro e w1 ⟨rfl, hb1⟩; have R1_0 := (hb1.block (w.heap.size) (by first | (simp; done) | (simp; omega) | omega)).trans ((Below.heap_alloc _ _ _ (by first | (simp; done) | (simp; omega) | omega)).trans ((Below.heap_alloc _ _ _ (by first | (simp; done) | (simp; omega) | omega)).trans (rownew' _ _ _ _ (by simp)))); have z1_0 : w.heap.size < w1.heap.size := Nat.lt_of_lt_of_le (by first | (simp; done) | (simp; omega) | omega) hb1.size; have HR1_0 : Hid _ := R1_0; clear R1_0; have R1_1 := (hb1.block (w.heap.size + 1) (by first | (simp; done) | (simp; omega) | omega)).trans ((Below.heap_alloc _ _ _ (by first | (simp; done) | (simp; omega) | omega)).trans (rownew' _ _ _ _ (by simp))); have z1_1 : w.heap.size + 1 < w1.heap.size := Nat.lt_of_lt_of_le (by first | (simp; done) | (simp; omega) | omega) hb1.size; have c1_1_0 := rowcell R1_1 0; have c1_1_1 := rowcell R1_1 1; have c1_1_2 := rowcell R1_1 2; have c1_1_3 := rowcell R1_1 3; simp only [List.getElem?_toArray, List.getElem?_cons_zero, List.getElem?_cons_succ] at c1_1_0 c1_1_1 c1_1_2 c1_1_3; have HR1_1 : Hid _ := R1_1; clear R1_1; have R1_2 := (hb1.block (w.heap.size + 1 + 1) (by first | (simp; done) | (simp; omega) | omega)).trans (rownew' _ _ _ _ (by simp)); have z1_2 : w.heap.size + 1 + 1 < w1.heap.size := Nat.lt_of_lt_of_le (by first | (simp; done) | (simp; omega) | omega) hb1.size; have HR1_2 : Hid _ := R1_2; clear R1_2; have HB1 : Hid (Below _ _ _) := hb1; clear hb1)
    | (go_at_call_of 40 g; go_must (refine (k2 _).mono ?_); rintro e w2 ⟨rfl, hb2⟩; have R2_0 := (hb2.block (w.heap.size) (by first | (simp; done) | (simp; omega) | omega)).trans HR1_0.out; have z2_0 : w.heap.size < w2.heap.size := Nat.lt_of_lt_of_le (by first | (simp; done) | (simp; omega) | omega) hb2.size; have c2_0_0 := rowcell R2_0 0; have c2_0_1 := rowcell R2_0 1; have c2_0_2 := rowcell R2_0 2; have c2_0_3 := rowcell R2_0 3; simp only [List.getElem?_toArray, List.getElem?_cons_zero, List.getElem?_cons_succ] at c2_0_0 c2_0_1 c2_0_2 c2_0_3; have HR2_0 : Hid _ := R2_0; clear R2_0; have R2_1 := (hb2.block (w.heap.size + 1) (by first | (simp; done) | (simp; omega) | omega)).trans HR1_1.out; have z2_1 : w.heap.size + 1 < w2.heap.size := Nat.lt_of_lt_of_le (by first | (simp; done) | (simp; omega) | omega) hb2.size; have c2_1_0 := rowcell R2_1 0; have c2_1_1 := rowcell R2_1 1; have c2_1_2 := rowcell R2_1 2; have c2_1_3 := rowcell R2_1 3; simp only [List.getElem?_toArray, List.getElem?_cons_zero, List.getElem?_cons_succ] at c2_1_0 c2_1_1 c2_1_2 c2_1_3; have HR2_1 : Hid _ := R2_1; clear R2_1; have R2_2 := (hb2.block (w.heap.size + 1 + 1) (by first | (simp; done) | (simp; omega) | omega)).trans HR1_2.out; have z2_2 : w.heap.size + 1 + 1 < w2.heap.size := Nat.lt_of_lt_of_le (by first | (simp; done) | (simp; omega) | omega) hb2.size; have c2_2_0 := rowcell R2_2 0; have c2_2_1 := rowcell R2_2 1; have c2_2_2 := rowcell R2_2 2; have c2_2_3 := rowcell R2_2 3; have c2_2_4 := rowcell R2_2 4; have c2_2_5 := rowcell R2_2 5; simp only [List.getElem?_toArray, List.getElem?_cons_zero, List.getElem?_cons_succ] at c2_2_0 c2_2_1 c2_2_2 c2_2_3 c2_2_4 c2_2_5; have rf := rowfree R2_2; have HR2_2 : Hid _ := R2_2; clear R2_2; have HB2 : Hid (Below _ _ _) := hb2; clear hb2))
  all_goals
    refine bodyPost_ret (v := .tuple #[.agg #[.int .i64 0, .bool false, .int .i64 0, .int .u64 0, .int .u64 0, .bool false], .int .i64 1]) (by simp [results, Try.results17, go_sem, rf, z2_2, c2_2_0, c2_2_1, c2_2_2, c2_2_3, c2_2_4, c2_2_5]) rfl (hQ.out _ _ ⟨by simp, ?_⟩)
    exact cset6 (cthen (cthen (cmore (cmore (cmore (Below.refl _ _) _) _) _) HB1.out) HB2.out) (by omega)
set_option maxHeartbeats 2000000 in
theorem exact10_bad2 (k : Int) (neg : Bool) (s : Int) (f : Nat) (k' : Int) (neg' : Bool) (s' : Int) (g : Nat) (h1 : soundN k neg s f = true) (h2 : soundN k' neg' s' g = false) (w : World) :
    Calls Try.prog 17 #[numV k neg s f, numV k' neg' s' g] w fun e w' => e = .returned (.tuple #[exV 0 false 0 0 0 false, .int .i64 1]) ∧ Below w.heap.size w w' := by
  have k1 := sound6_any k neg s f
  have k2 := sound6_any k' neg' s' g
  rw [h1] at k1
  rw [h2] at k2
  clear h1 h2
  unfold numV exV at *
  rw [show ((0 : Nat) : Int) = 0 from rfl] at *
  refine cps fun Q hQ => ?_
  go_enter Try.func17, Try.ntmps17
  go_wp2_with (first
    | (go_at_call_of 40 f; go_must (refine (k1 _).mono ?_); rintro e w1 ⟨rfl, hb1⟩; have R1_0 := (hb1.block (w.heap.size) (by first | (simp; done) | (simp; omega) | omega)).trans ((Below.heap_alloc _ _ _ (by first | (simp; done) | (simp; omega) | omega)).trans ((Below.heap_alloc _ _ _ (by first | (simp; done) | (simp; omega) | omega)).trans (rownew' _ _ _ _ (by simp)))); have z1_0 : w.heap.size < w1.heap.size := Nat.lt_of_lt_of_le (by first | (simp; done) | (simp; omega) | omega) hb1.size; have HR1_0 : Hid _ := R1_0; clear R1_0; have R1_1 := (hb1.block (w.heap.size + 1) (by first | (simp; done) | (simp; omega) | omega)).trans ((Below.heap_alloc _ _ _ (by first | (simp; done) | (simp; omega) | omega)).trans (rownew' _ _ _ _ (by simp))); have z1_1 : w.heap.size + 1 < w1.heap.size := Nat.lt_of_lt_of_le (by first | (simp; done) | (simp; omega) | omega) hb1.size; have c1_1_0 := rowcell R1_1 0; have c1_1_1 := rowcell R1_1 1; have c1_1_2 := rowcell R1_1 2; have c1_1_3 := rowcell R1_1 3; simp only [List.getElem?_toArray, List.getElem?_cons_zero, List.getElem?_cons_succ] at c1_1_0 c1_1_1 c1_1_2 c1_1_3; have HR1_1 : Hid _ := R1_1; clear R1_1; have R1_2 := (hb1.block (w.heap.size + 1 + 1) (by first | (simp; done) | (simp; omega) | omega)).trans (rownew' _ _ _ _ (by simp)); have z1_2 : w.heap.size + 1 + 1 < w1.heap.size := Nat.lt_of_lt_of_le (by first | (simp; done) | (simp; omega) | omega) hb1.size; have HR1_2 : Hid _ := R1_2; clear R1_2; have HB1 : Hid (Below _ _ _) := hb1; clear hb1)
    | (go_at_call_of 40 g; go_must (refine (k2 _).mono ?_); rintro e w2 ⟨rfl, hb2⟩; have R2_0 := (hb2.block (w.heap.size) (by first | (simp; done) | (simp; omega) | omega)).trans HR1_0.out; have z2_0 : w.heap.size < w2.heap.size := Nat.lt_of_lt_of_le (by first | (simp; done) | (simp; omega) | omega) hb2.size; have c2_0_0 := rowcell R2_0 0; have c2_0_1 := rowcell R2_0 1; have c2_0_2 := rowcell R2_0 2; have c2_0_3 := rowcell R2_0 3; simp only [List.getElem?_toArray, List.getElem?_cons_zero, List.getElem?_cons_succ] at c2_0_0 c2_0_1 c2_0_2 c2_0_3; have HR2_0 : Hid _ := R2_0; clear R2_0; have R2_1 := (hb2.block (w.heap.size + 1) (by first | (simp; done) | (simp; omega) | omega)).trans HR1_1.out; have z2_1 : w.heap.size + 1 < w2.heap.size := Nat.lt_of_lt_of_le (by first | (simp; done) | (simp; omega) | omega) hb2.size; have c2_1_0 := rowcell R2_1 0; have c2_1_1 := rowcell R2_1 1; have c2_1_2 := rowcell R2_1 2; have c2_1_3 := rowcell R2_1 3; simp only [List.getElem?_toArray, List.getElem?_cons_zero, List.getElem?_cons_succ] at c2_1_0 c2_1_1 c2_1_2 c2_1_3; have HR2_1 : Hid _ := R2_1; clear R2_1; have R2_2 := (hb2.block (w.heap.size + 1 + 1) (by first | (simp; done) | (simp; omega) | omega)).trans HR1_2.out; have z2_2 : w.heap.size + 1 + 1 < w2.heap.size := Nat.lt_of_lt_of_le (by first | (simp; done) | (simp; omega) | omega) hb2.size; have c2_2_0 := rowcell R2_2 0; have c2_2_1 := rowcell R2_2 1; have c2_2_2 := rowcell R2_2 2; have c2_2_3 := rowcell R2_2 3; have c2_2_4 := rowcell R2_2 4; have c2_2_5 := rowcell R2_2 5; simp only [List.getElem?_toArray, List.getElem?_cons_zero, List.getElem?_cons_succ] at c2_2_0 c2_2_1 c2_2_2 c2_2_3 c2_2_4 c2_2_5; have rf := rowfree R2_2; have HR2_2 : Hid _ := R2_2; clear R2_2; have HB2 : Hid (Below _ _ _) := hb2; clear hb2))
  all_goals
    refine bodyPost_ret (v := .tuple #[.agg #[.int .i64 0, .bool false, .int .i64 0, .int .u64 0, .int .u64 0, .bool false], .int .i64 1]) (by simp [results, Try.results17, go_sem, rf, z2_2, c2_2_0, c2_2_1, c2_2_2, c2_2_3, c2_2_4, c2_2_5]) rfl (hQ.out _ _ ⟨by simp, ?_⟩)
    exact cset6 (cthen (cthen (cmore (cmore (cmore (Below.refl _ _) _) _) _) HB1.out) HB2.out) (by omega)
set_option maxHeartbeats 2000000 in
theorem exact10_nar1 (k : Int) (neg : Bool) (s : Int) (f : Nat) (k' : Int) (neg' : Bool) (s' : Int) (g : Nat) (h1 : soundN k neg s f = true) (h2 : soundN k' neg' s' g = true) (hk : k = 2) (w : World) :
    Calls Try.prog 17 #[numV k neg s f, numV k' neg' s' g] w fun e w' => e = .returned (.tuple #[exV 2 false 0 0 0 false, .int .i64 0]) ∧ Below w.heap.size w w' := by
  have k1 := sound6_any k neg s f
  have k2 := sound6_any k' neg' s' g
  rw [h1] at k1
  rw [h2] at k2
  clear h1 h2
  subst hk
  unfold numV exV at *
  rw [show ((0 : Nat) : Int) = 0 from rfl] at *
  refine cps fun Q hQ => ?_
  go_enter Try.func17, Try.ntmps17
  go_wp2_with (first
    | (go_at_call_of 40 f; go_must (refine (k1 _).mono ?_); rintro e w1 ⟨rfl, hb1⟩; have R1_0 := (hb1.block (w.heap.size) (by first | (simp; done) | (simp; omega) | omega)).trans ((Below.heap_alloc _ _ _ (by first | (simp; done) | (simp; omega) | omega)).trans ((Below.heap_alloc _ _ _ (by first | (simp; done) | (simp; omega) | omega)).trans (rownew' _ _ _ _ (by simp)))); have z1_0 : w.heap.size < w1.heap.size := Nat.lt_of_lt_of_le (by first | (simp; done) | (simp; omega) | omega) hb1.size; have HR1_0 : Hid _ := R1_0; clear R1_0; have R1_1 := (hb1.block (w.heap.size + 1) (by first | (simp; done) | (simp; omega) | omega)).trans ((Below.heap_alloc _ _ _ (by first | (simp; done) | (simp; omega) | omega)).trans (rownew' _ _ _ _ (by simp))); have z1_1 : w.heap.size + 1 < w1.heap.size := Nat.lt_of_lt_of_le (by first | (simp; done) | (simp; omega) | omega) hb1.size; have c1_1_0 := rowcell R1_1 0; have c1_1_1 := rowcell R1_1 1; have c1_1_2 := rowcell R1_1 2; have c1_1_3 := rowcell R1_1 3; simp only [List.getElem?_toArray, List.getElem?_cons_zero, List.getElem?_cons_succ] at c1_1_0 c1_1_1 c1_1_2 c1_1_3; have HR1_1 : Hid _ := R1_1; clear R1_1; have R1_2 := (hb1.block (w.heap.size + 1 + 1) (by first | (simp; done) | (simp; omega) | omega)).trans (rownew' _ _ _ _ (by simp)); have z1_2 : w.heap.size + 1 + 1 < w1.heap.size := Nat.lt_of_lt_of_le (by first | (simp; done) | (simp; omega) | omega) hb1.size; have HR1_2 : Hid _ := R1_2; clear R1_2; have HB1 : Hid (Below _ _ _) := hb1; clear hb1)
    | (go_at_call_of 40 g; go_must (refine (k2 _).mono ?_); rintro e w2 ⟨rfl, hb2⟩; have R2_0 := (hb2.block (w.heap.size) (by first | (simp; done) | (simp; omega) | omega)).trans HR1_0.out; have z2_0 : w.heap.size < w2.heap.size := Nat.lt_of_lt_of_le (by first | (simp; done) | (simp; omega) | omega) hb2.size; have c2_0_0 := rowcell R2_0 0; have c2_0_1 := rowcell R2_0 1; have c2_0_2 := rowcell R2_0 2; have c2_0_3 := rowcell R2_0 3; simp only [List.getElem?_toArray, List.getElem?_cons_zero, List.getElem?_cons_succ] at c2_0_0 c2_0_1 c2_0_2 c2_0_3; have HR2_0 : Hid _ := R2_0; clear R2_0; have R2_1 := (hb2.block (w.heap.size + 1) (by first | (simp; done) | (simp; omega) | omega)).trans HR1_1.out; have z2_1 : w.heap.size + 1 < w2.heap.size := Nat.lt_of_lt_of_le (by first | (simp; done) | (simp; omega) | omega) hb2.size; have c2_1_0 := rowcell R2_1 0; have c2_1_1 := rowcell R2_1 1; have c2_1_2 := rowcell R2_1 2; have c2_1_3 := rowcell R2_1 3; simp only [List.getElem?_toArray, List.getElem?_cons_zero, List.getElem?_cons_succ] at c2_1_0 c2_1_1 c2_1_2 c2_1_3; have HR2_1 : Hid _ := R2_1; clear R2_1; have R2_2 := (hb2.block (w.heap.size + 1 + 1) (by first | (simp; done) | (simp; omega) | omega)).trans HR1_2.out; have z2_2 : w.heap.size + 1 + 1 < w2.heap.size := Nat.lt_of_lt_of_le (by first | (simp; done) | (simp; omega) | omega) hb2.size; have c2_2_0 := rowcell R2_2 0; have c2_2_1 := rowcell R2_2 1; have c2_2_2 := rowcell R2_2 2; have c2_2_3 := rowcell R2_2 3; have c2_2_4 := rowcell R2_2 4; have c2_2_5 := rowcell R2_2 5; simp only [List.getElem?_toArray, List.getElem?_cons_zero, List.getElem?_cons_succ] at c2_2_0 c2_2_1 c2_2_2 c2_2_3 c2_2_4 c2_2_5; have rf := rowfree R2_2; have HR2_2 : Hid _ := R2_2; clear R2_2; have HB2 : Hid (Below _ _ _) := hb2; clear hb2))
  all_goals
    refine bodyPost_ret (v := .tuple #[.agg #[.int .i64 2, .bool false, .int .i64 0, .int .u64 0, .int .u64 0, .bool false], .int .i64 0]) (by simp [results, Try.results17, go_sem, rf, z2_2, c2_2_0, c2_2_1, c2_2_2, c2_2_3, c2_2_4, c2_2_5]) rfl (hQ.out _ _ ⟨by simp, ?_⟩)
    exact cset6 (cthen (cthen (cmore (cmore (cmore (Below.refl _ _) _) _) _) HB1.out) HB2.out) (by omega)
set_option maxHeartbeats 2000000 in
theorem exact10_nar2 (k : Int) (neg : Bool) (s : Int) (f : Nat) (k' : Int) (neg' : Bool) (s' : Int) (g : Nat) (h1 : soundN k neg s f = true) (h2 : soundN k' neg' s' g = true) (hk : k ≠ 2) (hk' : k' = 2) (w : World) :
    Calls Try.prog 17 #[numV k neg s f, numV k' neg' s' g] w fun e w' => e = .returned (.tuple #[exV 2 false 0 0 0 false, .int .i64 0]) ∧ Below w.heap.size w w' := by
  have k1 := sound6_any k neg s f
  have k2 := sound6_any k' neg' s' g
  rw [h1] at k1
  rw [h2] at k2
  clear h1 h2
  subst hk'
  have d0 : (k == 2) = false := beq_eq_false_iff_ne.2 hk
  clear hk
  unfold numV exV at *
  rw [show ((0 : Nat) : Int) = 0 from rfl] at *
  refine cps fun Q hQ => ?_
  go_enter Try.func17, Try.ntmps17
  go_wp2_with (first
    | (go_at_call_of 40 f; go_must (refine (k1 _).mono ?_); rintro e w1 ⟨rfl, hb1⟩; have R1_0 := (hb1.block (w.heap.size) (by first | (simp; done) | (simp; omega) | omega)).trans ((Below.heap_alloc _ _ _ (by first | (simp; done) | (simp; omega) | omega)).trans ((Below.heap_alloc _ _ _ (by first | (simp; done) | (simp; omega) | omega)).trans (rownew' _ _ _ _ (by simp)))); have z1_0 : w.heap.size < w1.heap.size := Nat.lt_of_lt_of_le (by first | (simp; done) | (simp; omega) | omega) hb1.size; have HR1_0 : Hid _ := R1_0; clear R1_0; have R1_1 := (hb1.block (w.heap.size + 1) (by first | (simp; done) | (simp; omega) | omega)).trans ((Below.heap_alloc _ _ _ (by first | (simp; done) | (simp; omega) | omega)).trans (rownew' _ _ _ _ (by simp))); have z1_1 : w.heap.size + 1 < w1.heap.size := Nat.lt_of_lt_of_le (by first | (simp; done) | (simp; omega) | omega) hb1.size; have c1_1_0 := rowcell R1_1 0; have c1_1_1 := rowcell R1_1 1; have c1_1_2 := rowcell R1_1 2; have c1_1_3 := rowcell R1_1 3; simp only [List.getElem?_toArray, List.getElem?_cons_zero, List.getElem?_cons_succ] at c1_1_0 c1_1_1 c1_1_2 c1_1_3; have HR1_1 : Hid _ := R1_1; clear R1_1; have R1_2 := (hb1.block (w.heap.size + 1 + 1) (by first | (simp; done) | (simp; omega) | omega)).trans (rownew' _ _ _ _ (by simp)); have z1_2 : w.heap.size + 1 + 1 < w1.heap.size := Nat.lt_of_lt_of_le (by first | (simp; done) | (simp; omega) | omega) hb1.size; have HR1_2 : Hid _ := R1_2; clear R1_2; have HB1 : Hid (Below _ _ _) := hb1; clear hb1)
    | (go_at_call_of 40 g; go_must (refine (k2 _).mono ?_); rintro e w2 ⟨rfl, hb2⟩; have R2_0 := (hb2.block (w.heap.size) (by first | (simp; done) | (simp; omega) | omega)).trans HR1_0.out; have z2_0 : w.heap.size < w2.heap.size := Nat.lt_of_lt_of_le (by first | (simp; done) | (simp; omega) | omega) hb2.size; have c2_0_0 := rowcell R2_0 0; have c2_0_1 := rowcell R2_0 1; have c2_0_2 := rowcell R2_0 2; have c2_0_3 := rowcell R2_0 3; simp only [List.getElem?_toArray, List.getElem?_cons_zero, List.getElem?_cons_succ] at c2_0_0 c2_0_1 c2_0_2 c2_0_3; have HR2_0 : Hid _ := R2_0; clear R2_0; have R2_1 := (hb2.block (w.heap.size + 1) (by first | (simp; done) | (simp; omega) | omega)).trans HR1_1.out; have z2_1 : w.heap.size + 1 < w2.heap.size := Nat.lt_of_lt_of_le (by first | (simp; done) | (simp; omega) | omega) hb2.size; have c2_1_0 := rowcell R2_1 0; have c2_1_1 := rowcell R2_1 1; have c2_1_2 := rowcell R2_1 2; have c2_1_3 := rowcell R2_1 3; simp only [List.getElem?_toArray, List.getElem?_cons_zero, List.getElem?_cons_succ] at c2_1_0 c2_1_1 c2_1_2 c2_1_3; have HR2_1 : Hid _ := R2_1; clear R2_1; have R2_2 := (hb2.block (w.heap.size + 1 + 1) (by first | (simp; done) | (simp; omega) | omega)).trans HR1_2.out; have z2_2 : w.heap.size + 1 + 1 < w2.heap.size := Nat.lt_of_lt_of_le (by first | (simp; done) | (simp; omega) | omega) hb2.size; have c2_2_0 := rowcell R2_2 0; have c2_2_1 := rowcell R2_2 1; have c2_2_2 := rowcell R2_2 2; have c2_2_3 := rowcell R2_2 3; have c2_2_4 := rowcell R2_2 4; have c2_2_5 := rowcell R2_2 5; simp only [List.getElem?_toArray, List.getElem?_cons_zero, List.getElem?_cons_succ] at c2_2_0 c2_2_1 c2_2_2 c2_2_3 c2_2_4 c2_2_5; have rf := rowfree R2_2; have HR2_2 : Hid _ := R2_2; clear R2_2; have HB2 : Hid (Below _ _ _) := hb2; clear hb2))
  all_goals
    refine bodyPost_ret (v := .tuple #[.agg #[.int .i64 2, .bool false, .int .i64 0, .int .u64 0, .int .u64 0, .bool false], .int .i64 0]) (by simp [results, Try.results17, go_sem, rf, z2_2, c2_2_0, c2_2_1, c2_2_2, c2_2_3, c2_2_4, c2_2_5]) rfl (hQ.out _ _ ⟨by simp, ?_⟩)
    exact cset6 (cthen (cthen (cmore (cmore (cmore (Below.refl _ _) _) _) _) HB1.out) HB2.out) (by omega)
set_option maxHeartbeats 2000000 in
theorem exact10_zero1 (k : Int) (neg : Bool) (s : Int) (f : Nat) (k' : Int) (neg' : Bool) (s' : Int) (g : Nat) (h1 : soundN k neg s f = true) (h2 : soundN k' neg' s' g = true) (hk : k = 0) (hk' : k' ≠ 2) (w : World) :
    Calls Try.prog 17 #[numV k neg s f, numV k' neg' s' g] w fun e w' => e = .returned (.tuple #[exV 0 false 0 0 0 false, .int .i64 0]) ∧ Below w.heap.size w w' := by
  have k1 := sound6_any k neg s f
  have k2 := sound6_any k' neg' s' g
  rw [h1] at k1
  rw [h2] at k2
  clear h1 h2
  subst hk
  have d0 : (k' == 2) = false := beq_eq_false_iff_ne.2 hk'
  clear hk'
  unfold numV exV at *
  rw [show ((0 : Nat) : Int) = 0 from rfl] at *
  refine cps fun Q hQ => ?_
  go_enter Try.func17, Try.ntmps17
  go_wp2_with (first
    | (go_at_call_of 40 f; go_must (refine (k1 _).mono ?_); rintro e w1 ⟨rfl, hb1⟩; have R1_0 := (hb1.block (w.heap.size) (by first | (simp; done) | (simp; omega) | omega)).trans ((Below.heap_alloc _ _ _ (by first | (simp; done) | (simp; omega) | omega)).trans ((Below.heap_alloc _ _ _ (by first | (simp; done) | (simp; omega) | omega)).trans (rownew' _ _ _ _ (by simp)))); have z1_0 : w.heap.size < w1.heap.size := Nat.lt_of_lt_of_le (by first | (simp; done) | (simp; omega) | omega) hb1.size; have HR1_0 : Hid _ := R1_0; clear R1_0; have R1_1 := (hb1.block (w.heap.size + 1) (by first | (simp; done) | (simp; omega) | omega)).trans ((Below.heap_alloc _ _ _ (by first | (simp; done) | (simp; omega) | omega)).trans (rownew' _ _ _ _ (by simp))); have z1_1 : w.heap.size + 1 < w1.heap.size := Nat.lt_of_lt_of_le (by first | (simp; done) | (simp; omega) | omega) hb1.size; have c1_1_0 := rowcell R1_1 0; have c1_1_1 := rowcell R1_1 1; have c1_1_2 := rowcell R1_1 2; have c1_1_3 := rowcell R1_1 3; simp only [List.getElem?_toArray, List.getElem?_cons_zero, List.getElem?_cons_succ] at c1_1_0 c1_1_1 c1_1_2 c1_1_3; have HR1_1 : Hid _ := R1_1; clear R1_1; have R1_2 := (hb1.block (w.heap.size + 1 + 1) (by first | (simp; done) | (simp; omega) | omega)).trans (rownew' _ _ _ _ (by simp)); have z1_2 : w.heap.size + 1 + 1 < w1.heap.size := Nat.lt_of_lt_of_le (by first | (simp; done) | (simp; omega) | omega) hb1.size; have HR1_2 : Hid _ := R1_2; clear R1_2; have HB1 : Hid (Below _ _ _) := hb1; clear hb1)
    | (go_at_call_of 40 g; go_must (refine (k2 _).mono ?_); rintro e w2 ⟨rfl, hb2⟩; have R2_0 := (hb2.block (w.heap.size) (by first | (simp; done) | (simp; omega) | omega)).trans HR1_0.out; have z2_0 : w.heap.size < w2.heap.size := Nat.lt_of_lt_of_le (by first | (simp; done) | (simp; omega) | omega) hb2.size; have c2_0_0 := rowcell R2_0 0; have c2_0_1 := rowcell R2_0 1; have c2_0_2 := rowcell R2_0 2; have c2_0_3 := rowcell R2_0 3; simp only [List.getElem?_toArray, List.getElem?_cons_zero, List.getElem?_cons_succ] at c2_0_0 c2_0_1 c2_0_2 c2_0_3; have HR2_0 : Hid _ := R2_0; clear R2_0; have R2_1 := (hb2.block (w.heap.size + 1) (by first | (simp; done) | (simp; omega) | omega)).trans HR1_1.out; have z2_1 : w.heap.size + 1 < w2.heap.size := Nat.lt_of_lt_of_le (by first | (simp; done) | (simp; omega) | omega) hb2.size; have c2_1_0 := rowcell R2_1 0; have c2_1_1 := rowcell R2_1 1; have c2_1_2 := rowcell R2_1 2; have c2_1_3 := rowcell R2_1 3; simp only [List.getElem?_toArray, List.getElem?_cons_zero, List.getElem?_cons_succ] at c2_1_0 c2_1_1 c2_1_2 c2_1_3; have HR2_1 : Hid _ := R2_1; clear R2_1; have R2_2 := (hb2.block (w.heap.size + 1 + 1) (by first | (simp; done) | (simp; omega) | omega)).trans HR1_2.out; have z2_2 : w.heap.size + 1 + 1 < w2.heap.size := Nat.lt_of_lt_of_le (by first | (simp; done) | (simp; omega) | omega) hb2.size; have c2_2_0 := rowcell R2_2 0; have c2_2_1 := rowcell R2_2 1; have c2_2_2 := rowcell R2_2 2; have c2_2_3 := rowcell R2_2 3; have c2_2_4 := rowcell R2_2 4; have c2_2_5 := rowcell R2_2 5; simp only [List.getElem?_toArray, List.getElem?_cons_zero, List.getElem?_cons_succ] at c2_2_0 c2_2_1 c2_2_2 c2_2_3 c2_2_4 c2_2_5; have rf := rowfree R2_2; have HR2_2 : Hid _ := R2_2; clear R2_2; have HB2 : Hid (Below _ _ _) := hb2; clear hb2))
  all_goals
    refine bodyPost_ret (v := .tuple #[.agg #[.int .i64 0, .bool false, .int .i64 0, .int .u64 0, .int .u64 0, .bool false], .int .i64 0]) (by simp [results, Try.results17, go_sem, rf, z2_2, c2_2_0, c2_2_1, c2_2_2, c2_2_3, c2_2_4, c2_2_5]) rfl (hQ.out _ _ ⟨by simp, ?_⟩)
    exact cset6 (cthen (cthen (cmore (cmore (cmore (Below.refl _ _) _) _) _) HB1.out) HB2.out) (by omega)
set_option maxHeartbeats 2000000 in
theorem exact10_zero2 (k : Int) (neg : Bool) (s : Int) (f : Nat) (k' : Int) (neg' : Bool) (s' : Int) (g : Nat) (h1 : soundN k neg s f = true) (h2 : soundN k' neg' s' g = true) (hk : k ≠ 2) (hk0 : k ≠ 0) (hk' : k' = 0) (w : World) :
    Calls Try.prog 17 #[numV k neg s f, numV k' neg' s' g] w fun e w' => e = .returned (.tuple #[exV 0 false 0 0 0 false, .int .i64 0]) ∧ Below w.heap.size w w' := by
  have k1 := sound6_any k neg s f
  have k2 := sound6_any k' neg' s' g
  rw [h1] at k1
  rw [h2] at k2
  clear h1 h2
  subst hk'
  have d0 : (k == 2) = false := beq_eq_false_iff_ne.2 hk
  have d1 : (k == 0) = false := beq_eq_false_iff_ne.2 hk0
  clear hk hk0
  unfold numV exV at *
  rw [show ((0 : Nat) : Int) = 0 from rfl] at *
  refine cps fun Q hQ => ?_
  go_enter Try.func17, Try.ntmps17
  go_wp2_with (first
    | (go_at_call_of 40 f; go_must (refine (k1 _).mono ?_); rintro e w1 ⟨rfl, hb1⟩; have R1_0 := (hb1.block (w.heap.size) (by first | (simp; done) | (simp; omega) | omega)).trans ((Below.heap_alloc _ _ _ (by first | (simp; done) | (simp; omega) | omega)).trans ((Below.heap_alloc _ _ _ (by first | (simp; done) | (simp; omega) | omega)).trans (rownew' _ _ _ _ (by simp)))); have z1_0 : w.heap.size < w1.heap.size := Nat.lt_of_lt_of_le (by first | (simp; done) | (simp; omega) | omega) hb1.size; have HR1_0 : Hid _ := R1_0; clear R1_0; have R1_1 := (hb1.block (w.heap.size + 1) (by first | (simp; done) | (simp; omega) | omega)).trans ((Below.heap_alloc _ _ _ (by first | (simp; done) | (simp; omega) | omega)).trans (rownew' _ _ _ _ (by simp))); have z1_1 : w.heap.size + 1 < w1.heap.size := Nat.lt_of_lt_of_le (by first | (simp; done) | (simp; omega) | omega) hb1.size; have c1_1_0 := rowcell R1_1 0; have c1_1_1 := rowcell R1_1 1; have c1_1_2 := rowcell R1_1 2; have c1_1_3 := rowcell R1_1 3; simp only [List.getElem?_toArray, List.getElem?_cons_zero, List.getElem?_cons_succ] at c1_1_0 c1_1_1 c1_1_2 c1_1_3; have HR1_1 : Hid _ := R1_1; clear R1_1; have R1_2 := (hb1.block (w.heap.size + 1 + 1) (by first | (simp; done) | (simp; omega) | omega)).trans (rownew' _ _ _ _ (by simp)); have z1_2 : w.heap.size + 1 + 1 < w1.heap.size := Nat.lt_of_lt_of_le (by first | (simp; done) | (simp; omega) | omega) hb1.size; have HR1_2 : Hid _ := R1_2; clear R1_2; have HB1 : Hid (Below _ _ _) := hb1; clear hb1)
    | (go_at_call_of 40 g; go_must (refine (k2 _).mono ?_); rintro e w2 ⟨rfl, hb2⟩; have R2_0 := (hb2.block (w.heap.size) (by first | (simp; done) | (simp; omega) | omega)).trans HR1_0.out; have z2_0 : w.heap.size < w2.heap.size := Nat.lt_of_lt_of_le (by first | (simp; done) | (simp; omega) | omega) hb2.size; have c2_0_0 := rowcell R2_0 0; have c2_0_1 := rowcell R2_0 1; have c2_0_2 := rowcell R2_0 2; have c2_0_3 := rowcell R2_0 3; simp only [List.getElem?_toArray, List.getElem?_cons_zero, List.getElem?_cons_succ] at c2_0_0 c2_0_1 c2_0_2 c2_0_3; have HR2_0 : Hid _ := R2_0; clear R2_0; have R2_1 := (hb2.block (w.heap.size + 1) (by first | (simp; done) | (simp; omega) | omega)).trans HR1_1.out; have z2_1 : w.heap.size + 1 < w2.heap.size := Nat.lt_of_lt_of_le (by first | (simp; done) | (simp; omega) | omega) hb2.size; have c2_1_0 := rowcell R2_1 0; have c2_1_1 := rowcell R2_1 1; have c2_1_2 := rowcell R2_1 2; have c2_1_3 := rowcell R2_1 3; simp only [List.getElem?_toArray, List.getElem?_cons_zero, List.getElem?_cons_succ] at c2_1_0 c2_1_1 c2_1_2 c2_1_3; have HR2_1 : Hid _ := R2_1; clear R2_1; have R2_2 := (hb2.block (w.heap.size + 1 + 1) (by first | (simp; done) | (simp; omega) | omega)).trans HR1_2.out; have z2_2 : w.heap.size + 1 + 1 < w2.heap.size := Nat.lt_of_lt_of_le (by first | (simp; done) | (simp; omega) | omega) hb2.size; have c2_2_0 := rowcell R2_2 0; have c2_2_1 := rowcell R2_2 1; have c2_2_2 := rowcell R2_2 2; have c2_2_3 := rowcell R2_2 3; have c2_2_4 := rowcell R2_2 4; have c2_2_5 := rowcell R2_2 5; simp only [List.getElem?_toArray, List.getElem?_cons_zero, List.getElem?_cons_succ] at c2_2_0 c2_2_1 c2_2_2 c2_2_3 c2_2_4 c2_2_5; have rf := rowfree R2_2; have HR2_2 : Hid _ := R2_2; clear R2_2; have HB2 : Hid (Below _ _ _) := hb2; clear hb2))
  all_goals
    refine bodyPost_ret (v := .tuple #[.agg #[.int .i64 0, .bool false, .int .i64 0, .int .u64 0, .int .u64 0, .bool false], .int .i64 0]) (by simp [results, Try.results17, go_sem, rf, z2_2, c2_2_0, c2_2_1, c2_2_2, c2_2_3, c2_2_4, c2_2_5]) rfl (hQ.out _ _ ⟨by simp, ?_⟩)
    exact cset6 (cthen (cthen (cmore (cmore (cmore (Below.refl _ _) _) _) _) HB1.out) HB2.out) (by omega)
set_option maxHeartbeats 2000000 in
theorem exact10_real (k : Int) (neg : Bool) (s : Int) (f : Nat) (k' : Int) (neg' : Bool) (s' : Int) (g : Nat) (hf : f < 2 ^ 64) (hg : g < 2 ^ 64) (h1 : soundN k neg s f = true) (h2 : soundN k' neg' s' g = true) (hk : k = 1) (hk' : k' = 1) (w : World) :
    Calls Try.prog 17 #[numV k neg s f, numV k' neg' s' g] w fun e w' => e = .returned (.tuple #[exactV (xorB neg neg') (f * g) (s + s' - 126) false, .int .i64 0]) ∧ Below w.heap.size w w' := by
  subst hk hk'
  have hb1 : -1073741824 ≤ s ∧ s ≤ 1073741824 := by
    unfold soundN at h1; rw [if_neg (by decide)] at h1; exact (of_decide_eq_true h1).2.2
  have hb2 : -1073741824 ≤ s' ∧ s' ≤ 1073741824 := by
    unfold soundN at h2; rw [if_neg (by decide)] at h2; exact (of_decide_eq_true h2).2.2
  have k1 := sound6_any 1 neg s f
  have k2 := sound6_any 1 neg' s' g
  rw [h1] at k1
  rw [h2] at k2
  have hM := mul64_blen hf hg
  have k3 := of_anyq f hf
  have k4 := of_anyq g hg
  have k5 := fun va vb w ha hb => nmul_anyq va vb f g (dlen_mant (Nat.lt_of_lt_of_le hf (by decide))) (dlen_mant (Nat.lt_of_lt_of_le hg (by decide))) w ha hb
  have k6 := fun v w hr => exactly7_any (xorB neg neg') v (f * g) (s + s' - 126) false (Nat.le_trans hM (by decide)) (by omega) w hr
  obtain ⟨K, B, S, H, L, R, hform⟩ := exactV_form (xorB neg neg') (f * g) (s + s' - 126) false
  rw [hform] at k6 ⊢
  obtain ⟨xb, hxb⟩ : ∃ xb, xorB neg neg' = xb := ⟨_, rfl⟩
  have x1 : (neg != neg') = xb := by rw [← hxb]; cases neg <;> cases neg' <;> rfl
  have x2 : (!(neg == neg')) = xb := by rw [← hxb]; cases neg <;> cases neg' <;> rfl
  have x3 : (!decide (neg = neg')) = xb := by rw [← hxb]; cases neg <;> cases neg' <;> rfl
  rw [hxb] at k6
  have e1 : IntKind.i64.wrap (s + s') = s + s' := wrapI (by omega)
  have e2 : IntKind.i64.wrap (s + s' - 126) = s + s' - 126 := wrapI (by omega)
  generalize f * g = M at *
  clear h1 h2 hb1 hb2 hM hform hf hg hxb
  unfold numV exV at *
  refine cps fun Q hQ => ?_
  go_enter Try.func17, Try.ntmps17
  go_wp2_with (first
    | (go_at_call_of 40 f; go_must (refine (k1 _).mono ?_); rintro e w1 ⟨rfl, hb1⟩; have R1_0 := (hb1.block (w.heap.size) (by first | (simp; done) | (simp; omega) | omega)).trans ((Below.heap_alloc _ _ _ (by first | (simp; done) | (simp; omega) | omega)).trans ((Below.heap_alloc _ _ _ (by first | (simp; done) | (simp; omega) | omega)).trans (rownew' _ _ _ _ (by simp)))); have z1_0 : w.heap.size < w1.heap.size := Nat.lt_of_lt_of_le (by first | (simp; done) | (simp; omega) | omega) hb1.size; have HR1_0 : Hid _ := R1_0; clear R1_0; have R1_1 := (hb1.block (w.heap.size + 1) (by first | (simp; done) | (simp; omega) | omega)).trans ((Below.heap_alloc _ _ _ (by first | (simp; done) | (simp; omega) | omega)).trans (rownew' _ _ _ _ (by simp))); have z1_1 : w.heap.size + 1 < w1.heap.size := Nat.lt_of_lt_of_le (by first | (simp; done) | (simp; omega) | omega) hb1.size; have c1_1_0 := rowcell R1_1 0; have c1_1_1 := rowcell R1_1 1; have c1_1_2 := rowcell R1_1 2; have c1_1_3 := rowcell R1_1 3; simp only [List.getElem?_toArray, List.getElem?_cons_zero, List.getElem?_cons_succ] at c1_1_0 c1_1_1 c1_1_2 c1_1_3; have HR1_1 : Hid _ := R1_1; clear R1_1; have R1_2 := (hb1.block (w.heap.size + 1 + 1) (by first | (simp; done) | (simp; omega) | omega)).trans (rownew' _ _ _ _ (by simp)); have z1_2 : w.heap.size + 1 + 1 < w1.heap.size := Nat.lt_of_lt_of_le (by first | (simp; done) | (simp; omega) | omega) hb1.size; have HR1_2 : Hid _ := R1_2; clear R1_2; have HB1 : Hid (Below _ _ _) := hb1; clear hb1)
    | (go_at_call_of 40 g; go_must (refine (k2 _).mono ?_); rintro e w2 ⟨rfl, hb2⟩; have R2_0 := (hb2.block (w.heap.size) (by first | (simp; done) | (simp; omega) | omega)).trans HR1_0.out; have z2_0 : w.heap.size < w2.heap.size := Nat.lt_of_lt_of_le (by first | (simp; done) | (simp; omega) | omega) hb2.size; have c2_0_0 := rowcell R2_0 0; have c2_0_1 := rowcell R2_0 1; have c2_0_2 := rowcell R2_0 2; have c2_0_3 := rowcell R2_0 3; simp only [List.getElem?_toArray, List.getElem?_cons_zero, List.getElem?_cons_succ] at c2_0_0 c2_0_1 c2_0_2 c2_0_3; have HR2_0 : Hid _ := R2_0; clear R2_0; have R2_1 := (hb2.block (w.heap.size + 1) (by first | (simp; done) | (simp; omega) | omega)).trans HR1_1.out; have z2_1 : w.heap.size + 1 < w2.heap.size := Nat.lt_of_lt_of_le (by first | (simp; done) | (simp; omega) | omega) hb2.size; have c2_1_0 := rowcell R2_1 0; have c2_1_1 := rowcell R2_1 1; have c2_1_2 := rowcell R2_1 2; have c2_1_3 := rowcell R2_1 3; simp only [List.getElem?_toArray, List.getElem?_cons_zero, List.getElem?_cons_succ] at c2_1_0 c2_1_1 c2_1_2 c2_1_3; have HR2_1 : Hid _ := R2_1; clear R2_1; have R2_2 := (hb2.block (w.heap.size + 1 + 1) (by first | (simp; done) | (simp; omega) | omega)).trans HR1_2.out; have z2_2 : w.heap.size + 1 + 1 < w2.heap.size := Nat.lt_of_lt_of_le (by first | (simp; done) | (simp; omega) | omega) hb2.size; have c2_2_0 := rowcell R2_2 0; have c2_2_1 := rowcell R2_2 1; have c2_2_2 := rowcell R2_2 2; have c2_2_3 := rowcell R2_2 3; have c2_2_4 := rowcell R2_2 4; have c2_2_5 := rowcell R2_2 5; simp only [List.getElem?_toArray, List.getElem?_cons_zero, List.getElem?_cons_succ] at c2_2_0 c2_2_1 c2_2_2 c2_2_3 c2_2_4 c2_2_5; have rf := rowfree R2_2; have HR2_2 : Hid _ := R2_2; clear R2_2; have HB2 : Hid (Below _ _ _) := hb2; clear hb2))
  have cls : ∀ W, Below w2.heap.size w2 W → W.cell? ⟨w.heap.size, 3, none⟩ = some (.int .u64 f) ∧ W.cell? ⟨w.heap.size + 1, 3, none⟩ = some (.int .u64 g) := fun W hW => ⟨(hW.cell (p := ⟨w.heap.size, 3, none⟩) z2_0).trans c2_0_3, (hW.cell (p := ⟨w.heap.size + 1, 3, none⟩) z2_1).trans c2_1_3⟩
  refine wpC_region (fun W => W.cell? ⟨w.heap.size, 3, none⟩ = some (.int .u64 f) ∧ W.cell? ⟨w.heap.size + 1, 3, none⟩ = some (.int .u64 g)) (by kernel_rfl) ?_
  refine wpC_take 0 (v := ?_) rfl (by kernel_rfl) (fun _ _ _ h => h) (by kernel_rfl) ?_ ?_; rotate_left; · (intro wC hC; obtain ⟨c1, c2⟩ := hC; go_simp <;> with_reducible rfl)
  refine wpC_take 1 (v := ?_) rfl (by kernel_rfl) (fun _ _ _ h => h) (by kernel_rfl) ?_ ?_; rotate_left; · (intro wC hC; obtain ⟨c1, c2⟩ := hC; go_simp <;> with_reducible rfl)
  refine wpC_take 3 (v := ?_) rfl (by kernel_rfl) (fun _ _ _ h => h) (by kernel_rfl) ?_ ?_; rotate_left; · (intro wC hC; obtain ⟨c1, c2⟩ := hC; go_simp <;> with_reducible rfl)
  refine wpC_take 4 (v := ?_) rfl (by kernel_rfl) (fun _ _ _ h => h) (by kernel_rfl) ?_ ?_; rotate_left; · (intro wC hC; obtain ⟨c1, c2⟩ := hC; go_simp <;> with_reducible rfl)
  have b2 := cdrew (Below.refl w2.heap.size w2)
  refine wpC_step 2 rfl (by kernel_rfl) (by kernel_rfl) (cls _ b2) (fun K hK => ?_)
  go_simp
  go_wp2_with ((go_at_call_of 41 f; go_must (refine (k3 _).mono ?_); rintro e w3 ⟨v3, rfl, hr3, hb3⟩))
  try (refine hK _ _ ?_; clear hK K)
  have b3 : Below w2.heap.size w2 w3 := cthen b2 hb3
  refine wpC_step 5 rfl (by kernel_rfl) (by kernel_rfl) (cls _ b3) (fun K hK => ?_)
  go_simp
  go_wp2_with ((go_at_call_of 41 g; go_must (refine (k4 _).mono ?_); rintro e w4 ⟨v4, rfl, hr4, hb4⟩))
  try (refine hK _ _ ?_; clear hK K)
  have b4 : Below w2.heap.size w2 w4 := cthen b3 hb4
  refine wpC_step 6 rfl (by kernel_rfl) (by kernel_rfl) (cls _ b4) (fun K hK => ?_)
  go_simp
  go_wp2_with ((go_at_call 30; go_must (refine (k5 _ _ _ (hr3.below hb4) hr4).mono ?_); rintro e w5 ⟨v5, rfl, hr5, hb5⟩))
  try (refine hK _ _ ?_; clear hK K)
  have b5 : Below w2.heap.size w2 w5 := cthen b4 hb5
  refine wpC_take 7 (v := ?_) rfl (by kernel_rfl) (fun _ _ _ h => h) (by kernel_rfl) ?_ ?_; rotate_left; · (intro wC hC; obtain ⟨c1, c2⟩ := hC; go_simp <;> with_reducible rfl)
  refine wpC_done (by kernel_rfl) (cls _ b5) ?_
  have X0 := (b5.block w.heap.size z2_0).trans HR2_0.out
  have X1 := (b5.block (w.heap.size + 1) z2_1).trans HR2_1.out
  have a1 := rowcell X0 1
  have a2 := rowcell X0 2
  have d1 := rowcell X1 1
  have d2 := rowcell X1 2
  simp only [List.getElem?_toArray, List.getElem?_cons_zero, List.getElem?_cons_succ] at a1 a2 d1 d2
  have y2 : w.heap.size + 1 + 1 < w5.heap.size := Nat.lt_of_lt_of_le z2_2 b5.size
  have HV5 : Hid (Row w5 v5 (dig M)) := hr5
  have HB5 : Hid (Below w2.heap.size w2 w5) := b5
  clear cls X0 X1 b2 b3 b4 b5 hb3 hb4 hb5 hr3 hr4 hr5 k3 k4 k5
  go_wp2_with (go_at_call 32; go_must (refine (k6 _ _ HV5.out).mono ?_); rintro e w6 ⟨rfl, hb6⟩; have RR := (hb6.block (w.heap.size + 1 + 1) y2).trans ((HB5.out.block (w.heap.size + 1 + 1) z2_2).trans HR2_2.out); have y6 : w.heap.size + 1 + 1 < w6.heap.size := rowlt RR; have r0 := rowcell RR 0; have r1 := rowcell RR 1; have r2 := rowcell RR 2; have r3 := rowcell RR 3; have r4 := rowcell RR 4; have r5 := rowcell RR 5; have rg := rowfree RR; simp only [List.getElem?_toArray, List.getElem?_cons_zero, List.getElem?_cons_succ] at r0 r1 r2 r3 r4 r5; have HB6 : Hid (Below _ _ _) := hb6; clear hb6 RR)
  refine bodyPost_ret (v := .tuple #[.agg #[.int .i64 K, .bool B, .int .i64 S, .int .u64 H, .int .u64 L, .bool R], .int .i64 0]) (by simp [results, Try.results17, go_sem, rg, y6, r0, r1, r2, r3, r4, r5]) rfl (hQ.out _ _ ⟨by simp, ?_⟩)
  exact cset6 (cthen (cthen (cthen (cthen (cmore (cmore (cmore (Below.refl _ _) _) _) _) HB1.out) HB2.out) HB5.out) HB6.out) (by omega)
theorem exact10_bad (k : Int) (neg : Bool) (s : Int) (f : Nat) (k' : Int) (neg' : Bool) (s' : Int) (g : Nat) (h : (soundN k neg s f && soundN k' neg' s' g) = false) (w : World) :
    Calls Try.prog 17 #[numV k neg s f, numV k' neg' s' g] w fun e w' => e = .returned (.tuple #[exV 0 false 0 0 0 false, .int .i64 1]) ∧ Below w.heap.size w w' := by
  cases h1 : soundN k neg s f
  · exact exact10_bad1 k neg s f k' neg' s' g h1 w
  · rw [h1] at h
    exact exact10_bad2 k neg s f k' neg' s' g h1 h w
theorem soundN_kinds {k : Int} {neg : Bool} {s : Int} {f : Nat} (h : soundN k neg s f = true) : k = 0 ∨ k = 2 ∨ k = 1 := by
  rcases sound_cases h with ⟨a, _⟩ | ⟨a, _⟩ | a
  · exact .inl a
  · exact .inr (.inl a)
  · exact .inr (.inr a)
theorem exact10_ok (k : Int) (neg : Bool) (s : Int) (f : Nat) (k' : Int) (neg' : Bool) (s' : Int) (g : Nat) (hf : f < 2 ^ 64) (hg : g < 2 ^ 64) (h1 : soundN k neg s f = true) (h2 : soundN k' neg' s' g = true) (w : World) :
    Calls Try.prog 17 #[numV k neg s f, numV k' neg' s' g] w fun e w' => e = .returned (.tuple #[prod10 k neg s f k' neg' s' g, .int .i64 0]) ∧ Below w.heap.size w w' := by
  unfold prod10
  by_cases a2 : k = 2
  · rw [if_pos (.inl a2)]; exact exact10_nar1 k neg s f k' neg' s' g h1 h2 a2 w
  · by_cases b2 : k' = 2
    · rw [if_pos (.inr b2)]; exact exact10_nar2 k neg s f k' neg' s' g h1 h2 a2 b2 w
    · rw [if_neg (by rintro (c | c); exact a2 c; exact b2 c)]
      by_cases a0 : k = 0
      · rw [if_pos (.inl a0)]; exact exact10_zero1 k neg s f k' neg' s' g h1 h2 a0 b2 w
      · by_cases b0 : k' = 0
        · rw [if_pos (.inr b0)]; exact exact10_zero2 k neg s f k' neg' s' g h1 h2 a2 a0 b0 w
        · rw [if_neg (by rintro (c | c); exact a0 c; exact b0 c)]
          have ka : k = 1 := by rcases soundN_kinds h1 with c | c | c; exact absurd c a0; exact absurd c a2; exact c
          have kb : k' = 1 := by rcases soundN_kinds h2 with c | c | c; exact absurd c b0; exact absurd c b2; exact c
          exact exact10_real k neg s f k' neg' s' g hf hg h1 h2 ka kb w
end Go.Proofs.Ytllahgcifichbaa

namespace Go.Proofs.Ytllahgcifichbaa
open Go.ChangeShapes Go.WideShapes Go.ChangeAt Go.RowKit
set_option linter.unusedVariables false
set_option linter.unusedSimpArgs false
set_option maxRecDepth 100000

/-! ### powers of 2 as patterns -/
def P63 : Nat := 9223372036854775808
theorem P63_eq : P63 = 9223372036854775808 := rfl
theorem P63_man : manX P63 0 = 2 ^ 127 := by unfold manX P63; decide
theorem P63_words : WordsX P63 0 := ⟨by decide, by decide, by decide⟩
def okT (n : Nat) (s : Int) : Bool := inR n s && fitsN n s P63
def patT (n : Nat) (s : Int) : Nat := if okT n s then patOf n false (cutL n s P63) else 0
theorem okT_facts (n : Nat) (s : Int) (hn : Wd n) (h : okT n s = true) :
    patT n s < 2 ^ n ∧ vK n (patT n s) = 1 ∧ valI n (patT n s) = sg false (manX P63 0) * ((2 ^ (s + 248).toNat : Nat) : Int) ∧ 8 - 4 * (n : Int) ≤ s ∧ s ≤ 4 * n - 8 ∧ patT n s = rndX n s P63 0 false := by
  obtain ⟨h1, h2⟩ := Bool.and_eq_true_iff.1 h
  obtain ⟨ht, hl⟩ := cut_true n s P63 hn h1
  obtain ⟨p1, p2, p3, p4⟩ := patOf_facts n hn false (cutL n s P63) hl ht
  obtain ⟨f1, f2⟩ := of_decide_eq_true h2
  have hr := of_decide_eq_true h1
  have e : patT n s = patOf n false (cutL n s P63) := by unfold patT; rw [if_pos h]
  rw [e]
  refine ⟨p1, p2, ?_, hr.1, hr.2, ?_⟩
  · unfold valI
    have k1 : vK n (patOf n false (cutL n s P63)) = 1 := p2
    have k2 : vB n (patOf n false (cutL n s P63)) = false := by unfold vB; rw [if_pos p2, p3]
    have k3 : vS n (patOf n false (cutL n s P63)) = s := by unfold vS; rw [if_pos p2, p4, f1]
    have k4 : vF n (patOf n false (cutL n s P63)) = P63 := by unfold vF; rw [if_pos p2, p4, f2]
    rw [if_pos k1, k2, k3, k4]
  · have := rnd_home n (cutL n s P63) hn hl ht
    rw [f1, f2] at this
    rw [this]; rfl
theorem okT_parts (n : Nat) (s : Int) (hn : Wd n) (h : okT n s = true) : vB n (patT n s) = false ∧ vS n (patT n s) = s ∧ vF n (patT n s) = P63 := by
  obtain ⟨h1, h2⟩ := Bool.and_eq_true_iff.1 h
  obtain ⟨ht, hl⟩ := cut_true n s P63 hn h1
  obtain ⟨p1, p2, p3, p4⟩ := patOf_facts n hn false (cutL n s P63) hl ht
  obtain ⟨f1, f2⟩ := of_decide_eq_true h2
  have e : patT n s = patOf n false (cutL n s P63) := by unfold patT; rw [if_pos h]
  rw [e]
  refine ⟨?_, ?_, ?_⟩
  · unfold vB; rw [if_pos p2, p3]
  · unfold vS; rw [if_pos p2, p4, f1]
  · unfold vF; rw [if_pos p2, p4, f2]
theorem two_mul (n : Nat) (s t : Int) (hn : Wd n) (hs : okT n s = true) (ht : okT n t = true) : patP n (patT n s) (patT n t) = rndX n (s + t) P63 0 false := by
  obtain ⟨_, a2, a3, a4, a5, _⟩ := okT_facts n s hn hs
  obtain ⟨_, b2, b3, b4, b5, _⟩ := okT_facts n t hn ht
  have hw := wd_le hn
  unfold patP
  rw [if_neg (by rw [a2, b2]; decide), a3, b3]
  have e1 : sg false (manX P63 0) * ((2 ^ (s + 248).toNat : Nat) : Int) * (sg false (manX P63 0) * ((2 ^ (t + 248).toNat : Nat) : Int)) = sg false (manX P63 0) * ((2 ^ (s + t + 623).toNat : Nat) : Int) := by
    rw [← sg_mul, ← sg_mul, ← sg_mul, sg_times]
    have hx : xorB false false = false := rfl
    rw [hx]
    congr 1
    rw [P63_man, ← Nat.pow_add, ← Nat.pow_add, ← Nat.pow_add, ← Nat.pow_add]
    congr 1
    omega
  rw [e1]
  have h := exI_real false (s + t) P63 0 P63_words (by omega) (-623) (s + t + 623).toNat (by omega)
  rw [show (-623 : Int) - 127 = eN + eN from rfl] at h
  have h0 : sg false (manX P63 0) * ((2 ^ (s + t + 623).toNat : Nat) : Int) ≠ 0 := by
    rw [← sg_mul, P63_man]
    have : 0 < 2 ^ 127 * 2 ^ (s + t + 623).toNat := Nat.mul_pos (Nat.pow_pos (by decide)) (Nat.pow_pos (by decide))
    unfold sg
    rw [if_neg (by decide)]
    generalize 2 ^ 127 * 2 ^ (s + t + 623).toNat = x at *
    omega
  rw [patI_of h0 h]
  rfl
end Go.Proofs.Ytllahgcifichbaa

namespace Go.Proofs.Ytllahgcifichbaa
set_option maxRecDepth 100000
set_option linter.unusedVariables false
set_option linter.unusedSimpArgs false

/-! ### quotients (plain mathematics) -/
def quoN (f g : Nat) : Nat := f * 2 ^ 200 / g
def quoR (f g : Nat) : Bool := decide (f * 2 ^ 200 % g ≠ 0)
/-- the first 64 digits alone -/
def cutV (neg : Bool) (M : Nat) (e : Int) (r : Bool) : Value := exV 1 neg (heldX (e + blen M - 1)) (normN M / 2 ^ 64 % 2 ^ 64) 0 ((r || lostN M) || decide (normN M % 2 ^ 64 ≠ 0))
def mgC (n M : Nat) (e : Int) (r : Bool) : Nat := rndX n (heldX (e + blen M - 1)) (normN M / 2 ^ 64 % 2 ^ 64) 0 ((r || lostN M) || decide (normN M % 2 ^ 64 ≠ 0))
def quot11 (k : Int) (neg : Bool) (s : Int) (f : Nat) (k' : Int) (neg' : Bool) (s' : Int) (g : Nat) : Value :=
  if k = 2 ∨ k' ≠ 1 then exV 2 false 0 0 0 false
  else if k = 0 then exV 0 false 0 0 0 false
  else cutV (xorB neg neg') (quoN f g) (s - s' - 200) (quoR f g)
def patQ (n a b : Nat) : Nat :=
  if vK n a = 2 ∨ vK n b ≠ 1 then 2 ^ (n - 1)
  else if vK n a = 0 then 0
  else patR n (xorB (vB n a) (vB n b)) (mgC n (quoN (vF n a) (vF n b)) (vS n a - vS n b - 200) (quoR (vF n a) (vF n b)))
theorem word_blen {f : Nat} (h : WordsX f 0) : blen f = 64 := by
  have h1 := h.top
  have h2 := h.hi64
  exact blen_at (m := 63) h1 h2
/-- a word, shifted: nothing behind its 64 digits -/
theorem mgC_word (n f j : Nat) (e : Int) (h : WordsX f 0) (he : -1099511627776 ≤ e + j + 63 ∧ e + j + 63 ≤ 1099511627776) : mgC n (f * 2 ^ j) e false = rndX n (e + j + 63) f 0 false := by
  have h0 : f ≠ 0 := by have := h.top; omega
  obtain ⟨a, b⟩ := norm_two j h0
  have hb := word_blen h
  have hn : normN f = f * 2 ^ 64 := by unfold normN; rw [hb, if_pos (by omega)]
  have hl : lostN f = false := by unfold lostN; rw [hb, decide_eq_false (by omega), Bool.false_and]
  unfold mgC
  rw [a, b, hl, hn, blen_two j h0, hb, Nat.mul_div_cancel _ (Nat.pow_pos (by decide)), Nat.mod_eq_of_lt h.hi64, Nat.mul_mod_left]
  have hx : heldX (e + ((64 + j : Nat) : Int) - 1) = e + j + 63 := by unfold heldX; rw [if_neg (by omega), if_neg (by omega)]; omega
  rw [hx]
  simp
theorem quo_one (f : Nat) : quoN f P63 = f * 2 ^ 137 ∧ quoR f P63 = false := by
  have e : f * 2 ^ 200 = f * 2 ^ 137 * P63 := by rw [Nat.mul_assoc]; congr 1
  unfold quoN quoR
  rw [e, Nat.mul_div_cancel _ (by decide), Nat.mul_mod_left]
  exact ⟨rfl, by decide⟩
theorem quo_self {f : Nat} (h : 0 < f) : quoN f f = P63 * 2 ^ 137 ∧ quoR f f = false := by
  unfold quoN quoR
  rw [Nat.mul_comm, Nat.mul_div_cancel _ h, Nat.mul_mod_left]
  exact ⟨by decide +kernel, by decide⟩
theorem one_parts (n : Nat) (hn : Wd n) : vK n (2 ^ (n - 2)) = 1 ∧ vB n (2 ^ (n - 2)) = false ∧ vS n (2 ^ (n - 2)) = 0 ∧ vF n (2 ^ (n - 2)) = P63 ∧ rndX n 0 P63 0 false = 2 ^ (n - 2) := by
  rcases hn with rfl | rfl | rfl | rfl <;> exact ⟨by decide +kernel, by decide +kernel, by decide +kernel, by decide +kernel, by decide +kernel⟩
/-- divided by a power of 2 -/
theorem quo_two (n a b : Nat) (s : Int) (hn : Wd n) (ha : a < 2 ^ 64) (ka : vK n a = 1) (kb : vK n b = 1) (sb : vS n b = s) (fb : vF n b = P63) (hs : -1000 ≤ s ∧ s ≤ 1000) : patQ n a b = patR n (xorB (vB n a) (vB n b)) (rndX n (vS n a - s) (vF n a) 0 false) := by
  obtain ⟨_, _, _, _, _, _, hwd, s1, s2⟩ := v_real n a hn ha ka
  have hw := wd_le hn
  obtain ⟨q1, q2⟩ := quo_one (vF n a)
  unfold patQ
  rw [if_neg (by rw [ka, kb]; decide), if_neg (by rw [ka]; decide), sb, fb, q1, q2, mgC_word n (vF n a) 137 _ hwd (by omega), show vS n a - s - 200 + ((137 : Nat) : Int) + 63 = vS n a - s by omega]
theorem own_real (n a : Nat) (hn : Wd n) (ha : a < 2 ^ 64) (ka : vK n a = 1) : patR n (vB n a) (rndX n (vS n a) (vF n a) 0 false) = a % 2 ^ n := by
  obtain ⟨e1, e2, e3, ht, hl, hk', hwd, _⟩ := v_real n a hn ha ka
  rw [e2, e3, rnd_home n _ hn hl ht, patR_of, e1]
  exact (patOf_str n a hn ha hk').2
theorem patR_not (n : Nat) (neg : Bool) (R : Nat) (hn : Wd n) (h1 : 1 ≤ R) (h2 : R ≤ 2 ^ (n - 1) - 1) : patR n (!neg) R = negO n (patR n neg R) := by
  obtain ⟨H, p1, p2, p3, _⟩ := wd_pows hn
  rw [p2] at h2
  have hlt : patR n neg R < 2 ^ n := by unfold patR; split <;> omega
  rw [negO_eq n _ hn (lt64_of hn hlt), Nat.mod_eq_of_lt hlt]
  unfold patR
  cases neg
  · simp only [Bool.not_false, if_true, Bool.false_eq_true, if_false]
    rw [Nat.mod_eq_of_lt (by omega)]
  · simp only [Bool.not_true, if_true, Bool.false_eq_true, if_false]
    rw [Nat.mod_eq_of_lt (by omega)]; omega
theorem xorB_false (a : Bool) : xorB a false = a := by cases a <;> rfl
theorem xorB_true (a : Bool) : xorB a true = !a := by cases a <;> rfl
theorem xorB_self (a : Bool) : xorB a a = false := by cases a <;> rfl
theorem xorB_not (a b : Bool) : xorB (!a) b = !(xorB a b) ∧ xorB a (!b) = !(xorB a b) := by cases a <;> cases b <;> exact ⟨rfl, rfl⟩
theorem mgC_range {n M : Nat} (e : Int) (r : Bool) (hn : Wd n) (h0 : M ≠ 0) : 1 ≤ mgC n M e r ∧ mgC n M e r ≤ 2 ^ (n - 1) - 1 := by
  have h := normN_words h0
  exact rnd_range n _ _ _ _ hn ⟨h.top, h.hi64, by decide⟩
theorem quo_pos {f g : Nat} (hf : 9223372036854775808 ≤ f) (hg : g < 2 ^ 64) (h0 : 0 < g) : quoN f g ≠ 0 := by
  unfold quoN
  have h1 : g ≤ f * 2 ^ 200 := by
    have : 2 ^ 64 ≤ f * 2 ^ 200 := Nat.le_trans (by decide) (Nat.mul_le_mul_right (2 ^ 200) hf)
    omega
  have := (Nat.le_div_iff_mul_le h0).2 (by rw [Nat.one_mul]; exact h1)
  omega
theorem real_or (n a : Nat) (hn : Wd n) (h2 : vK n a ≠ 2) (h0 : vK n a ≠ 0) : vK n a = 1 := by
  rcases v_kinds n a hn with ⟨h, _⟩ | h | ⟨h, _⟩
  · exact absurd h h0
  · exact h
  · exact absurd h h2
theorem patQ_real (n a b : Nat) (hn : Wd n) (ha : a < 2 ^ 64) (hb : b < 2 ^ 64) (ka : vK n a = 1) (kb : vK n b = 1) :
    ∃ R, 1 ≤ R ∧ R ≤ 2 ^ (n - 1) - 1 ∧ R = mgC n (quoN (vF n a) (vF n b)) (vS n a - vS n b - 200) (quoR (vF n a) (vF n b)) ∧ patQ n a b = patR n (xorB (vB n a) (vB n b)) R := by
  obtain ⟨_, _, _, _, _, _, wa, _⟩ := v_real n a hn ha ka
  obtain ⟨_, _, _, _, _, _, wb, _⟩ := v_real n b hn hb kb
  have h := mgC_range (vS n a - vS n b - 200) (quoR (vF n a) (vF n b)) hn (quo_pos wa.top wb.hi64 (by have := wb.top; omega))
  refine ⟨_, h.1, h.2, rfl, ?_⟩
  unfold patQ
  rw [if_neg (by rw [ka, kb]; decide), if_neg (by rw [ka]; decide)]
theorem patQ_nar (n a b : Nat) (h : vK n a = 2 ∨ vK n b ≠ 1) : patQ n a b = 2 ^ (n - 1) := by unfold patQ; rw [if_pos h]
theorem patQ_zero (n a b : Nat) (h : vK n a = 0) (hb : vK n b = 1) : patQ n a b = 0 := by unfold patQ; rw [if_neg (by rw [h, hb]; decide), if_pos h]
theorem patQ_lt (n a b : Nat) (hn : Wd n) (ha : a < 2 ^ 64) (hb : b < 2 ^ 64) : patQ n a b < 2 ^ n := by
  obtain ⟨H, p1, p2, p3, _⟩ := wd_pows hn
  by_cases h : vK n a = 2 ∨ vK n b ≠ 1
  · rw [patQ_nar n a b h]; omega
  · have a2 : vK n a ≠ 2 := fun c => h (.inl c)
    have b1 : vK n b = 1 := Classical.not_not.1 fun c => h (.inr c)
    by_cases a0 : vK n a = 0
    · rw [patQ_zero n a b a0 b1]; omega
    · obtain ⟨R, r1, r2, _, e⟩ := patQ_real n a b hn ha hb (real_or n a hn a2 a0) b1
      rw [e]; unfold patR; split <;> omega
theorem negO_zero (n : Nat) (hn : Wd n) : negO n 0 = 0 := by rw [negO_eq n 0 hn (by decide), Nat.zero_mod, Nat.sub_zero, Nat.mod_self]
theorem patQ_minus1 (n a b : Nat) (hn : Wd n) (ha : a < 2 ^ 64) (hb : b < 2 ^ 64) : patQ n (minusU a) b = negO n (patQ n a b) := by
  have hm := minusU_mod n a hn ha
  obtain ⟨k, _, vb, vs, vf⟩ := val_neg n a (minusU a) hn ha (minusU_lt a) hm
  by_cases h : vK n a = 2 ∨ vK n b ≠ 1
  · rw [patQ_nar n a b h, patQ_nar n _ b (by rw [k]; exact h), negO_nar n hn]
  · have a2 : vK n a ≠ 2 := fun c => h (.inl c)
    have b1 : vK n b = 1 := Classical.not_not.1 fun c => h (.inr c)
    by_cases a0 : vK n a = 0
    · rw [patQ_zero n a b a0 b1, patQ_zero n _ b (by rw [k]; exact a0) b1, negO_zero n hn]
    · have a1 := real_or n a hn a2 a0
      obtain ⟨R, r1, r2, e0, e⟩ := patQ_real n a b hn ha hb a1 b1
      obtain ⟨R', _, _, e0', e'⟩ := patQ_real n (minusU a) b hn (minusU_lt a) hb (by rw [k]; exact a1) b1
      rw [vs, vf, ← e0] at e0'
      rw [e', e, e0', vb a1, (xorB_not _ _).1, patR_not n _ R hn r1 r2]
theorem patQ_minus2 (n a b : Nat) (hn : Wd n) (ha : a < 2 ^ 64) (hb : b < 2 ^ 64) : patQ n a (minusU b) = negO n (patQ n a b) := by
  have hm := minusU_mod n b hn hb
  obtain ⟨k, _, vb, vs, vf⟩ := val_neg n b (minusU b) hn hb (minusU_lt b) hm
  by_cases h : vK n a = 2 ∨ vK n b ≠ 1
  · rw [patQ_nar n a b h, patQ_nar n a _ (by rw [k]; exact h), negO_nar n hn]
  · have a2 : vK n a ≠ 2 := fun c => h (.inl c)
    have b1 : vK n b = 1 := Classical.not_not.1 fun c => h (.inr c)
    by_cases a0 : vK n a = 0
    · rw [patQ_zero n a b a0 b1, patQ_zero n a _ a0 (by rw [k]; exact b1), negO_zero n hn]
    · have a1 := real_or n a hn a2 a0
      obtain ⟨R, r1, r2, e0, e⟩ := patQ_real n a b hn ha hb a1 b1
      obtain ⟨R', _, _, e0', e'⟩ := patQ_real n a (minusU b) hn ha (minusU_lt b) a1 (by rw [k]; exact b1)
      rw [vs, vf, ← e0] at e0'
      rw [e', e, e0', vb b1, (xorB_not _ _).2, patR_not n _ R hn r1 r2]
theorem patQ_one (n a : Nat) (hn : Wd n) (ha : a < 2 ^ 64) : patQ n a (2 ^ (n - 2)) = a % 2 ^ n := by
  obtain ⟨o1, o2, o3, o4, _⟩ := one_parts n hn
  rcases v_kinds n a hn with ⟨h, hz⟩ | h | ⟨h, hz⟩
  · rw [patQ_zero n a _ h o1, hz]
  · rw [quo_two n a _ 0 hn ha h o1 o3 o4 (by decide), o2, xorB_false, Int.sub_zero]
    exact own_real n a hn ha h
  · rw [patQ_nar n a _ (.inl h), hz]
theorem patQ_mone (n a : Nat) (hn : Wd n) (ha : a < 2 ^ 64) : patQ n a (minusU (2 ^ (n - 2))) = negO n a := by
  rw [patQ_minus2 n a _ hn ha (one_lt n hn), patQ_one n a hn ha, negO_mod n a hn ha]
theorem patQ_self (n a : Nat) (hn : Wd n) (ha : a < 2 ^ 64) (h : vK n a = 1) : patQ n a a = 2 ^ (n - 2) := by
  obtain ⟨_, _, _, _, o5⟩ := one_parts n hn
  obtain ⟨_, _, _, _, _, _, wa, _⟩ := v_real n a hn ha h
  obtain ⟨q1, q2⟩ := quo_self (show 0 < vF n a by have := wa.top; omega)
  unfold patQ
  rw [if_neg (by rw [h]; decide), if_neg (by rw [h]; decide), q1, q2, mgC_word n P63 137 _ P63_words (by omega), xorB_self, show vS n a - vS n a - 200 + ((137 : Nat) : Int) + 63 = 0 by omega, o5]
  rfl
/-- a product with a power of 2 -/
theorem mul_two (n a : Nat) (t : Int) (hn : Wd n) (ha : a < 2 ^ 64) (ka : vK n a = 1) (ht : okT n t = true) : patP n a (patT n t) = patR n (vB n a) (rndX n (vS n a + t) (vF n a) 0 false) := by
  obtain ⟨_, b2, b3, b4, b5, _⟩ := okT_facts n t hn ht
  obtain ⟨_, _, _, _, _, _, wa, s1, s2⟩ := v_real n a hn ha ka
  have hw := wd_le hn
  unfold patP
  rw [if_neg (by rw [ka, b2]; decide), b3]
  have e1 : valI n a * (sg false (manX P63 0) * ((2 ^ (t + 248).toNat : Nat) : Int)) = sg (vB n a) (manX (vF n a) 0) * ((2 ^ (vS n a + t + 623).toNat : Nat) : Int) := by
    unfold valI
    rw [if_pos ka, ← sg_mul, ← sg_mul, ← sg_mul, sg_times, xorB_false]
    congr 1
    rw [P63_man, Nat.mul_assoc, ← Nat.pow_add, ← Nat.pow_add]
    congr 2
    omega
  rw [e1]
  have h := exI_real (vB n a) (vS n a + t) (vF n a) 0 wa (by omega) (-623) (vS n a + t + 623).toNat (by omega)
  rw [show (-623 : Int) - 127 = eN + eN from rfl] at h
  have h0 : sg (vB n a) (manX (vF n a) 0) * ((2 ^ (vS n a + t + 623).toNat : Nat) : Int) ≠ 0 := by
    refine Int.mul_ne_zero ?_ ?_
    · have := wa.mant.1
      have hp := Nat.pow_pos (n := 127) (show 0 < 2 by decide)
      unfold sg
      split <;> omega
    · have hp := Nat.pow_pos (n := (vS n a + t + 623).toNat) (show 0 < 2 by decide)
      omega
  rw [patI_of h0 h]
/-- divided by a power of 2 is multiplied by its inverse -/
theorem quo_mul (n a : Nat) (s : Int) (hn : Wd n) (ha : a < 2 ^ 64) (h1 : okT n s = true) (h2 : okT n (-s) = true) : patQ n a (patT n s) = patP n a (patT n (-s)) ∧ patQ n (2 ^ (n - 2)) (patT n s) = patT n (-s) := by
  obtain ⟨b1, b2, b3, b4, b5, b6⟩ := okT_facts n s hn h1
  obtain ⟨c1, c2, c3, c4, c5, c6⟩ := okT_facts n (-s) hn h2
  have hp := okT_parts n s hn h1
  obtain ⟨o1, o2, o3, o4, o5⟩ := one_parts n hn
  have hw := wd_le hn
  constructor
  · rcases v_kinds n a hn with ⟨h, hz⟩ | h | ⟨h, hz⟩
    · rw [patQ_zero n a _ h b2]
      unfold patP
      rw [if_neg (by rw [h, c2]; decide), val_zero n a (by rw [h]; decide), Int.zero_mul]
      rfl
    · rw [quo_two n a _ s hn ha h b2 hp.2.1 hp.2.2 (by omega), hp.1, xorB_false, mul_two n a (-s) hn ha h h2]
      rfl
    · rw [patQ_nar n a _ (.inl h), patP_nar n a _ (.inl h)]
  · rw [quo_two n _ _ s hn (one_lt n hn) o1 b2 hp.2.1 hp.2.2 (by omega), o2, o3, o4, hp.1, c6, Int.zero_sub]
    rfl
end Go.Proofs.Ytllahgcifichbaa

namespace Go.Proofs.Ytllahgcifichbaa
set_option linter.unusedVariables false
set_option linter.unusedSimpArgs false
set_option maxRecDepth 100000

/-! ### roots (plain mathematics) -/
def rtF (m : Nat) : Nat → Nat → Nat
  | r, 0 => r
  | r, k + 1 => rtF m (if (r + 2 ^ k) * (r + 2 ^ k) ≤ m then r + 2 ^ k else r) k
theorem rtF_ok (m : Nat) : ∀ k r, r * r ≤ m → m < (r + 2 ^ k) * (r + 2 ^ k) → rtF m r k * rtF m r k ≤ m ∧ m < (rtF m r k + 1) * (rtF m r k + 1) := by
  intro k
  induction k with
  | zero => intro r h1 h2; exact ⟨h1, h2⟩
  | succ k ih =>
    intro r h1 h2
    unfold rtF
    by_cases h : (r + 2 ^ k) * (r + 2 ^ k) ≤ m
    · rw [if_pos h]
      refine ih _ h ?_
      rw [Nat.add_assoc, ← Nat.two_mul, ← Nat.pow_succ']
      exact h2
    · rw [if_neg h]
      exact ih _ h1 (by omega)
def rtN (m : Nat) : Nat := rtF m 0 71
theorem rtN_ok {m : Nat} (h : m < 2 ^ 142) : rtN m * rtN m ≤ m ∧ m < (rtN m + 1) * (rtN m + 1) :=
  rtF_ok m 71 0 (by omega) (by rw [Nat.zero_add, ← Nat.pow_add]; exact h)
theorem sq_le' {a b : Nat} (h : a * a < (b + 1) * (b + 1)) : a ≤ b := by
  refine Nat.le_of_not_lt fun c => ?_
  have := Nat.mul_le_mul (show b + 1 ≤ a by omega) (show b + 1 ≤ a by omega)
  omega
def rtH (m : Nat) : Nat := rtN m / 2 ^ 7
def rtR (m : Nat) : Bool := decide (rtH m * rtH m * 2 ^ 14 ≠ m)
theorem sq_shift (a : Nat) : (a * 2 ^ 7) * (a * 2 ^ 7) = a * a * 2 ^ 14 := by rw [Nat.mul_mul_mul_comm, ← Nat.pow_add]
theorem rtH_ok {m : Nat} (h : m < 2 ^ 142) : rtH m * rtH m * 2 ^ 14 ≤ m ∧ m < (rtH m + 1) * (rtH m + 1) * 2 ^ 14 := by
  obtain ⟨h1, h2⟩ := rtN_ok h
  have hd := Nat.div_add_mod (rtN m) (2 ^ 7)
  have hm := Nat.mod_lt (rtN m) (show 0 < 2 ^ 7 by decide)
  rw [show rtN m / 2 ^ 7 = rtH m from rfl] at hd
  rw [← sq_shift, ← sq_shift]
  constructor
  · exact Nat.le_trans (Nat.mul_le_mul (show rtH m * 2 ^ 7 ≤ rtN m by omega) (show rtH m * 2 ^ 7 ≤ rtN m by omega)) h1
  · exact Nat.lt_of_lt_of_le h2 (Nat.mul_le_mul (by omega) (by omega))
theorem rtH_one {m r : Nat} (h : m < 2 ^ 142) (h1 : r * r * 2 ^ 14 ≤ m) (h2 : m < (r + 1) * (r + 1) * 2 ^ 14) : r = rtH m := by
  obtain ⟨a, b⟩ := rtH_ok h
  have c1 : r ≤ rtH m := sq_le' (by
    have := Nat.lt_of_le_of_lt h1 b
    exact Nat.lt_of_mul_lt_mul_right this)
  have c2 : rtH m ≤ r := sq_le' (by
    have := Nat.lt_of_le_of_lt a h2
    exact Nat.lt_of_mul_lt_mul_right this)
  omega
theorem rtR_eq {m : Nat} (h : m < 2 ^ 142) : (decide (rtN m % 2 ^ 7 ≠ 0) || decide (rtN m * rtN m ≠ m)) = rtR m := by
  obtain ⟨h1, h2⟩ := rtN_ok h
  have hd := Nat.div_add_mod (rtN m) (2 ^ 7)
  rw [show rtN m / 2 ^ 7 = rtH m from rfl] at hd
  have hm := Nat.mod_lt (rtN m) (show 0 < 2 ^ 7 by decide)
  unfold rtR
  rw [Bool.eq_iff_iff, Bool.or_eq_true, decide_eq_true_eq, decide_eq_true_eq, decide_eq_true_eq, ← sq_shift]
  constructor
  · intro hor hc
    have he : rtN m = rtH m * 2 ^ 7 := by
      have e1 : rtN m ≤ rtH m * 2 ^ 7 := sq_le' (by
        have e2 : rtH m * 2 ^ 7 < rtH m * 2 ^ 7 + 1 := Nat.lt_succ_self _
        exact Nat.lt_of_le_of_lt (Nat.le_trans h1 (Nat.le_of_eq hc.symm)) (Nat.mul_lt_mul_of_lt_of_lt e2 e2))
      omega
    rcases hor with c | c
    · exact c (by omega)
    · exact c (by rw [he]; exact hc)
  · intro hc
    by_cases c : rtN m % 2 ^ 7 = 0
    · refine .inr fun e => hc ?_
      have he : rtN m = rtH m * 2 ^ 7 := by omega
      rw [← he]; exact e
    · exact .inl c
theorem rtH_mono {m m' : Nat} (h : m < 2 ^ 142) (h' : m' < 2 ^ 142) (hle : m ≤ m') : 2 * rtH m + (rtR m).toNat ≤ 2 * rtH m' + (rtR m').toNat := by
  obtain ⟨a, b⟩ := rtH_ok h
  obtain ⟨a', b'⟩ := rtH_ok h'
  have c : rtH m ≤ rtH m' := sq_le' (Nat.lt_of_mul_lt_mul_right (Nat.lt_of_le_of_lt (Nat.le_trans a hle) b'))
  have d : ∀ x : Bool, x.toNat ≤ 1 := fun x => by cases x <;> decide
  by_cases e : rtH m = rtH m'
  · have : rtR m = true → rtR m' = true := by
      unfold rtR
      rw [decide_eq_true_eq, decide_eq_true_eq, ← e]
      intro f
      omega
    cases h1 : rtR m
    · simp only [Bool.toNat_false]; omega
    · rw [this h1]; omega
  · have := d (rtR m)
    omega
/-- the number whose root is taken, times 2^14 -/
def mR (s : Int) (M : Nat) : Nat := M * 2 ^ (13 + (s % 2).toNat)
theorem mR_two (s : Int) (M : Nat) : (s % 2 = 0 ∧ mR s M = M * 2 ^ 13) ∨ (s % 2 = 1 ∧ mR s M = M * 2 ^ 14) := by
  rcases Int.emod_two_eq s with h | h
  · exact .inl ⟨h, by unfold mR; rw [h]; rfl⟩
  · exact .inr ⟨h, by unfold mR; rw [h]; rfl⟩
theorem mR_size (s : Int) {M : Nat} (h : Mant M) : 2 ^ 140 ≤ mR s M ∧ mR s M < 2 ^ 142 := by
  obtain ⟨h1, h2⟩ := h
  rcases mR_two s M with ⟨_, e⟩ | ⟨_, e⟩ <;> rw [e] <;> omega
theorem rt_words {m : Nat} (h1 : 2 ^ 140 ≤ m) (h2 : m < 2 ^ 142) : 2 ^ 70 ≤ rtN m ∧ rtN m < 2 ^ 71 ∧ WordsX (rtH m) 0 := by
  obtain ⟨a, b⟩ := rtN_ok h2
  have c1 : 2 ^ 70 ≤ rtN m := sq_le' (by rw [← Nat.pow_add]; exact Nat.lt_of_le_of_lt h1 b)
  have c2 : rtN m < 2 ^ 71 := by
    have : rtN m ≤ 2 ^ 71 - 1 := sq_le' (by rw [Nat.sub_add_cancel (by decide), ← Nat.pow_add]; exact Nat.lt_of_le_of_lt a h2)
    have h0 : 0 < 2 ^ 71 := by decide
    omega
  refine ⟨c1, c2, ⟨?_, ?_, by decide⟩⟩
  · unfold rtH; omega
  · unfold rtH; omega
theorem mR_mono {s s' : Int} {M M' : Nat} (h : Mant M) (h' : Mant M') (hle : s < s' ∨ (s = s' ∧ M ≤ M')) : s / 2 < s' / 2 ∨ (s / 2 = s' / 2 ∧ mR s M ≤ mR s' M') := by
  obtain ⟨a, b⟩ := h
  obtain ⟨a', b'⟩ := h'
  by_cases hq : s / 2 < s' / 2
  · exact .inl hq
  · refine .inr ⟨by omega, ?_⟩
    rcases mR_two s M with ⟨p, e⟩ | ⟨p, e⟩ <;> rcases mR_two s' M' with ⟨p', e'⟩ | ⟨p', e'⟩ <;> rw [e, e'] <;> omega
def root12 (k : Int) (neg : Bool) (s : Int) (hi lo : Nat) (rest : Bool) : Value :=
  if k = 2 ∨ neg = true then exV 2 false 0 0 0 false
  else if k = 0 then exV 0 false 0 0 0 false
  else exV 1 false (s / 2) (rtH (mR s (manX hi lo))) 0 (rtR (mR s (manX hi lo)) || rest)
theorem root12_form (k : Int) (neg : Bool) (s : Int) (hi lo : Nat) (rest : Bool) : ∃ k2 b s2 h l r, root12 k neg s hi lo rest = exV k2 b s2 h l r := by
  unfold root12
  split
  · exact ⟨_, _, _, _, _, _, rfl⟩
  · split <;> exact ⟨_, _, _, _, _, _, rfl⟩
def mgT (n : Nat) (s : Int) (M : Nat) : Nat := rndX n (s / 2) (rtH (mR s M)) 0 (rtR (mR s M))
def patT2 (n a : Nat) : Nat := if vK n a = 2 ∨ vB n a = true then 2 ^ (n - 1) else if vK n a = 0 then 0 else mgT n (vS n a) (manX (vF n a) 0)
theorem mgT_range {n : Nat} (s : Int) {M : Nat} (hn : Wd n) (h : Mant M) : 1 ≤ mgT n s M ∧ mgT n s M ≤ 2 ^ (n - 1) - 1 := by
  obtain ⟨a, b⟩ := mR_size s h
  exact rnd_range n _ _ _ _ hn (rt_words a b).2.2
theorem mgT_mono {n : Nat} {s s' : Int} {M M' : Nat} (hn : Wd n) (h : Mant M) (h' : Mant M') (hle : s < s' ∨ (s = s' ∧ M ≤ M')) : mgT n s M ≤ mgT n s' M' := by
  obtain ⟨a, b⟩ := mR_size s h
  obtain ⟨a', b'⟩ := mR_size s' h'
  refine rnd_riseR n _ _ _ _ _ _ _ _ hn (rt_words a b).2.2 (rt_words a' b').2.2 ?_
  rcases mR_mono h h' hle with c | ⟨c, d⟩
  · exact .inl c
  · refine .inr ⟨c, ?_⟩
    have e := rtH_mono b b' d
    have f : ∀ x : Bool, x.toNat ≤ 1 := fun x => by cases x <;> decide
    have f1 := f (rtR (mR s M))
    have f2 := f (rtR (mR s' M'))
    by_cases g : rtH (mR s M) = rtH (mR s' M')
    · rw [g] at e ⊢; omega
    · rw [manX_zero, manX_zero]
      generalize (rtR (mR s M)).toNat = x at *
      generalize (rtR (mR s' M')).toNat = y at *
      generalize rtH (mR s M) = u at *
      generalize rtH (mR s' M') = v at *
      omega
theorem patT2_zero (n a : Nat) (hn : Wd n) (h : vK n a = 0) : patT2 n a = 0 := by
  have hb : vB n a = false := (v_other n a (by rw [h]; decide)).1
  unfold patT2
  rw [if_neg (by rw [h, hb]; decide), if_pos h]
theorem patT2_lt (n a : Nat) (hn : Wd n) (ha : a < 2 ^ 64) : patT2 n a < 2 ^ n ∧ patT2 n a ≤ 2 ^ (n - 1) := by
  obtain ⟨H, p1, p2, p3, _⟩ := wd_pows hn
  unfold patT2
  by_cases h : vK n a = 2 ∨ vB n a = true
  · rw [if_pos h]; omega
  · rw [if_neg h]
    by_cases h0 : vK n a = 0
    · rw [if_pos h0]; omega
    · rw [if_neg h0]
      have k1 := real_or n a hn (fun c => h (.inl c)) h0
      obtain ⟨_, _, _, _, _, _, wa, _⟩ := v_real n a hn ha k1
      have := mgT_range (vS n a) hn wa.mant
      omega
theorem val_order {n a b : Nat} (hn : Wd n) (ha : a < 2 ^ 64) (hb : b < 2 ^ 64) (ka : vK n a = 1) (kb : vK n b = 1) (na : vB n a = false) (nb : vB n b = false) (h : extOf a n ≤ extOf b n) :
    vS n a < vS n b ∨ (vS n a = vS n b ∧ manX (vF n a) 0 ≤ manX (vF n b) 0) := by
  have hv := val_le n a b hn ha hb (by rw [ka]; decide) (by rw [kb]; decide) h
  obtain ⟨_, _, _, _, _, _, wa, s1, s2⟩ := v_real n a hn ha ka
  obtain ⟨_, _, _, _, _, _, wb, t1, t2⟩ := v_real n b hn hb kb
  have hw := wd_le hn
  obtain ⟨a1, a2⟩ := wa.mant
  obtain ⟨b1, b2⟩ := wb.mant
  unfold valI at hv
  rw [if_pos ka, if_pos kb, na, nb] at hv
  simp only [sg, Bool.false_eq_true, if_false] at hv
  rw [← Int.natCast_mul, ← Int.natCast_mul] at hv
  have hv' := Int.ofNat_le.1 hv
  by_cases c : vS n a < vS n b
  · exact .inl c
  · by_cases e : vS n a = vS n b
    · refine .inr ⟨e, ?_⟩
      rw [e] at hv'
      exact Nat.le_of_mul_le_mul_right hv' (Nat.pow_pos (by decide))
    · exfalso
      obtain ⟨d, hd⟩ : ∃ d : Nat, (vS n a + 248).toNat = (vS n b + 248).toNat + 1 + d := ⟨(vS n a - vS n b - 1).toNat, by omega⟩
      rw [hd, Nat.pow_add, Nat.pow_add] at hv'
      have hp : 0 < 2 ^ (vS n b + 248).toNat := Nat.pow_pos (by decide)
      have hq : 0 < 2 ^ d := Nat.pow_pos (by decide)
      have h1 : manX (vF n a) 0 * (2 ^ (vS n b + 248).toNat * 2 ^ 1 * 2 ^ d) = manX (vF n a) 0 * 2 * 2 ^ d * 2 ^ (vS n b + 248).toNat := by
        rw [Nat.pow_one]; simp only [Nat.mul_assoc, Nat.mul_left_comm, Nat.mul_comm]
      rw [h1] at hv'
      have h2 := Nat.le_of_mul_le_mul_right hv' hp
      have h3 : manX (vF n a) 0 * 2 ≤ manX (vF n a) 0 * 2 * 2 ^ d := Nat.le_mul_of_pos_right _ hq
      omega
/-- the top bit is the sign -/
theorem sign_fold (n a : Nat) (hn : Wd n) (ha : a < 2 ^ 64) : 2 ^ (n - 1) ≤ a % 2 ^ n ↔ (vK n a = 2 ∨ vB n a = true) := by
  obtain ⟨H, p1, p2, p3, _⟩ := wd_pows hn
  have hw := wd_le hn
  rcases v_kinds n a hn with ⟨h, hz⟩ | h | ⟨h, hz⟩
  · have hb := (v_other n a (by rw [h]; decide)).1
    rw [hz, h, hb]
    constructor
    · intro c; omega
    · rintro (c | c) <;> exact absurd c (by decide)
  · obtain ⟨e1, _⟩ := v_real n a hn ha h
    have hm := Nat.mod_lt a (show 0 < 2 ^ n by omega)
    have ht := top_of n _ hn hm
    rw [← testBit_low a n (by omega), ← e1] at ht
    rw [ht, h]
    simp
  · rw [hz, h]; simp
theorem patT2_rise (n a b : Nat) (hn : Wd n) (ha : a < 2 ^ 64) (hb : b < 2 ^ 64) (fa : a % 2 ^ n < 2 ^ (n - 1)) (fb : b % 2 ^ n < 2 ^ (n - 1)) (h : extOf a n ≤ extOf b n) : patT2 n a ≤ patT2 n b := by
  have na : ¬ (vK n a = 2 ∨ vB n a = true) := fun c => by have := (sign_fold n a hn ha).2 c; omega
  have nb : ¬ (vK n b = 2 ∨ vB n b = true) := fun c => by have := (sign_fold n b hn hb).2 c; omega
  by_cases a0 : vK n a = 0
  · rw [patT2_zero n a hn a0]; exact Nat.zero_le _
  · have ka := real_or n a hn (fun c => na (.inl c)) a0
    have va : vB n a = false := by cases e : vB n a; rfl; exact absurd (.inr e) na
    obtain ⟨_, _, _, _, _, _, wa, _⟩ := v_real n a hn ha ka
    by_cases b0 : vK n b = 0
    · exfalso
      have hv := val_le n a b hn ha hb (by rw [ka]; decide) (by rw [b0]; decide) h
      rw [val_zero n b (by rw [b0]; decide)] at hv
      unfold valI at hv
      rw [if_pos ka, va] at hv
      simp only [sg, Bool.false_eq_true, if_false] at hv
      rw [← Int.natCast_mul] at hv
      have h1 := wa.mant.1
      have h2 : 0 < manX (vF n a) 0 * 2 ^ (vS n a + 248).toNat := Nat.mul_pos (Nat.lt_of_lt_of_le (by decide) h1) (Nat.pow_pos (by decide))
      omega
    · have kb := real_or n b hn (fun c => nb (.inl c)) b0
      have vb : vB n b = false := by cases e : vB n b; rfl; exact absurd (.inr e) nb
      obtain ⟨_, _, _, _, _, _, wb, _⟩ := v_real n b hn hb kb
      unfold patT2
      rw [if_neg na, if_neg nb, if_neg a0, if_neg b0]
      exact mgT_mono hn wa.mant wb.mant (val_order hn ha hb ka kb va vb h)
theorem patT2_low (n a : Nat) (hn : Wd n) (ha : a < 2 ^ 64) (fa : a % 2 ^ n < 2 ^ (n - 1)) : patT2 n a < 2 ^ (n - 1) := by
  obtain ⟨H, p1, p2, p3, _⟩ := wd_pows hn
  have na : ¬ (vK n a = 2 ∨ vB n a = true) := fun c => by have := (sign_fold n a hn ha).2 c; omega
  unfold patT2
  rw [if_neg na]
  by_cases h0 : vK n a = 0
  · rw [if_pos h0]; omega
  · rw [if_neg h0]
    have k1 := real_or n a hn (fun c => na (.inl c)) h0
    obtain ⟨_, _, _, _, _, _, wa, _⟩ := v_real n a hn ha k1
    have := mgT_range (vS n a) hn wa.mant
    omega
theorem patT2_nar (n a : Nat) (hn : Wd n) (ha : a < 2 ^ 64) (fa : 2 ^ (n - 1) ≤ a % 2 ^ n) : patT2 n a = 2 ^ (n - 1) := by
  unfold patT2; rw [if_pos ((sign_fold n a hn ha).1 fa)]
/-- the root of a square -/
theorem square_root {f : Nat} (h : WordsX f 0) (s : Int) : rtH (mR (2 * s - 126 + blen (f * f) - 1) (normN (f * f))) = f ∧ rtR (mR (2 * s - 126 + blen (f * f) - 1) (normN (f * f))) = false ∧ (2 * s - 126 + blen (f * f) - 1) / 2 = s ∧ lostN (f * f) = false := by
  have h1 := h.top
  have h2 := h.hi64
  have hl : 2 ^ 126 ≤ f * f := by
    have := Nat.mul_le_mul h1 h1
    exact Nat.le_trans (by decide) this
  have hu : f * f < 2 ^ 128 := by
    have := Nat.mul_lt_mul_of_lt_of_lt h2 h2
    exact Nat.lt_of_lt_of_le this (by decide)
  have key : mR (2 * s - 126 + blen (f * f) - 1) (normN (f * f)) = f * f * 2 ^ 14 ∧ (2 * s - 126 + blen (f * f) - 1) / 2 = s ∧ lostN (f * f) = false := by
    by_cases c : f * f < 2 ^ 127
    · have hb : blen (f * f) = 127 := blen_at (m := 126) hl c
      have hn : normN (f * f) = f * f * 2 ^ 1 := by unfold normN; rw [hb, if_pos (by decide)]
      have hlo : lostN (f * f) = false := by unfold lostN; rw [hb, decide_eq_false (by omega), Bool.false_and]
      refine ⟨?_, by rw [hb]; omega, hlo⟩
      rw [hb, hn]
      rcases mR_two (2 * s - 126 + ((127 : Nat) : Int) - 1) (f * f * 2 ^ 1) with ⟨p, e⟩ | ⟨p, e⟩
      · rw [e, Nat.mul_assoc]
      · exfalso; clear hl hu c hb hn hlo e h1 h2; omega
    · have hb : blen (f * f) = 128 := blen_at (m := 127) (by omega) hu
      have hn : normN (f * f) = f * f := by unfold normN; rw [hb, if_neg (by decide)]; simp
      have hlo : lostN (f * f) = false := by unfold lostN; rw [hb, decide_eq_false (by omega), Bool.false_and]
      refine ⟨?_, by rw [hb]; omega, hlo⟩
      rw [hb, hn]
      rcases mR_two (2 * s - 126 + ((128 : Nat) : Int) - 1) (f * f) with ⟨p, e⟩ | ⟨p, e⟩
      · exfalso; clear hl hu c hb hn hlo e h1 h2; omega
      · rw [e]
  obtain ⟨e, e2, e3⟩ := key
  rw [e]
  have hm : f * f * 2 ^ 14 < 2 ^ 142 := by omega
  have hr : f = rtH (f * f * 2 ^ 14) := rtH_one hm (Nat.le_refl _) (Nat.mul_lt_mul_of_pos_right (Nat.mul_lt_mul_of_lt_of_lt (by omega) (by omega)) (by decide))
  refine ⟨hr.symm, ?_, e2, e3⟩
  unfold rtR
  rw [← hr]
  simp
end Go.Proofs.Ytllahgcifichbaa

namespace Go.Proofs.Ytllahgcifichbaa
set_option linter.unusedVariables false
set_option linter.unusedSimpArgs false
set_option maxRecDepth 100000

/-! ### the root of a square, as patterns (plain mathematics) -/
theorem abs_home (n a : Nat) (hn : Wd n) (ha : a < 2 ^ 64) (ka : vK n a = 1) : rndX n (vS n a) (vF n a) 0 false = absO n a := by
  obtain ⟨_, _, _, _, _, _, wa, _⟩ := v_real n a hn ha ka
  obtain ⟨r1, r2⟩ := rnd_range n (vS n a) (vF n a) 0 false hn wa
  have h := own_real n a hn ha ka
  have hr : patR n false (rndX n (vS n a) (vF n a) 0 false) = rndX n (vS n a) (vF n a) 0 false := rfl
  have he := extOf_patR n hn (vB n a) _ r1 r2
  rw [h, rank_mod n a hn] at he
  unfold absO
  cases hb : vB n a
  · rw [hb] at h he
    simp only [Bool.false_eq_true, if_false] at he
    rw [if_neg (by omega), ← h, hr]
  · rw [hb] at h he
    simp only [if_true] at he
    rw [if_pos (by omega), ← negO_mod n a hn ha, ← h, ← patR_not n true _ hn r1 r2]
    exact hr
theorem abs_zero (n a : Nat) (hn : Wd n) (ka : vK n a = 0) : absO n a = 0 := by
  have hz : a % 2 ^ n = 0 := by
    rcases v_kinds n a hn with ⟨_, h⟩ | h | ⟨h, _⟩
    · exact h
    · rw [ka] at h; exact absurd h (by decide)
    · rw [ka] at h; exact absurd h (by decide)
  unfold absO
  rw [rank_zero n a hn hz, if_neg (by decide), hz]
/-- where a's square is the pattern p, and p means just that -/
theorem square_back (n a p : Nat) (hn : Wd n) (ha : a < 2 ^ 64) (hp : p < 2 ^ 64) (ka : vK n a ≠ 2)
    (h : exV (vK n p) (vB n p) (vS n p) (vF n p) 0 false = prod10 (vK n a) (vB n a) (vS n a) (vF n a) (vK n a) (vB n a) (vS n a) (vF n a)) : patT2 n p = absO n a := by
  unfold prod10 at h
  rw [if_neg (by rintro (c | c) <;> exact ka c)] at h
  by_cases k0 : vK n a = 0
  · rw [if_pos (.inl k0)] at h
    rw [abs_zero n a hn k0]
    have hk : vK n p = 0 := by
      have e := congrArg (fun v => match v with | .agg xs => xs[0]? | _ => none) h
      simp [exV] at e
      exact e
    exact patT2_zero n p hn hk
  · have k1 := real_or n a hn ka k0
    rw [if_neg (by rintro (c | c) <;> exact k0 c)] at h
    obtain ⟨_, _, _, _, _, _, wa, s1, s2⟩ := v_real n a hn ha k1
    have hw := wd_le hn
    obtain ⟨q1, q2, q3, q4⟩ := square_root wa (vS n a)
    have hx : xorB (vB n a) (vB n a) = false := xorB_self _
    have ht := wa.top
    have h0 : vF n a * vF n a ≠ 0 := Nat.mul_ne_zero (by omega) (by omega)
    unfold exactV at h
    rw [if_neg h0, hx, q4] at h
    have hk : vK n p = 1 := by
      have e := congrArg (fun v => match v with | .agg xs => xs[0]? | _ => none) h
      simp [exV] at e
      exact e
    rw [hk] at h
    obtain ⟨e1, e2, e3, e4, e5⟩ := val_inj h
    have hb : blen (vF n a * vF n a) ≤ 128 ↔ vF n a * vF n a < 2 ^ 128 := blen_le
    have hu : vF n a * vF n a < 2 ^ 128 := by
      have := Nat.mul_lt_mul_of_lt_of_lt wa.hi64 wa.hi64
      exact Nat.lt_of_lt_of_le this (by decide)
    have hb2 := hb.2 hu
    have hS : vS n p = 2 * vS n a - 126 + blen (vF n a * vF n a) - 1 := by
      rw [e2]; unfold heldX; rw [if_neg (by omega), if_neg (by omega)]; omega
    have hM : manX (vF n p) 0 = normN (vF n a * vF n a) := by
      rw [← man_norm h0, ← e3, ← e4]
    unfold patT2
    rw [if_neg (by rw [hk, e1]; decide), if_neg (by rw [hk]; decide)]
    unfold mgT
    rw [hS, hM, q1, q2, q3]
    exact abs_home n a hn ha k1
end Go.Proofs.Ytllahgcifichbaa

namespace Go.Proofs.Ytllahgcifichbaa
open Go.ChangeShapes Go.WideShapes Go.ChangeAt Go.RowKit
set_option linter.unusedVariables false
set_option maxRecDepth 100000

/-- the digits from i on, noughts below -/
def hiz (n i m : Nat) : List Nat := (List.range m).map fun j => if i ≤ j then top n j % 16777216 else 0
theorem hiz_length (n i m : Nat) : (hiz n i m).length = m := by simp [hiz]
theorem hiz_start (n m : Nat) : hiz n m m = List.replicate m 0 := by
  apply List.ext_getElem
  · simp [hiz]
  · intro j h1 h2
    have : j < m := by simpa [hiz] using h1
    simp [hiz]; omega
theorem hiz_zero (n m : Nat) : hiz n 0 m = low n m := by simp [hiz, low]
theorem hiz_set (n i m : Nat) (h : i < m) : (hiz n (i + 1) m).set i (top n i % 16777216) = hiz n i m := by
  apply List.ext_getElem
  · simp [hiz]
  · intro j h1 h2
    have hj : j < m := by simpa [hiz] using h2
    rw [List.getElem_set]
    by_cases e : i = j
    · subst e; simp [hiz]
    · rw [if_neg e]
      simp only [hiz, List.getElem_map, List.getElem_range]
      by_cases g : i ≤ j
      · rw [if_pos (by omega), if_pos g]
      · rw [if_neg (by omega), if_neg g]
theorem dig_push (r d : Nat) (hd : d < 16777216) : ∃ z, d :: dig r = dig (r * 16777216 + d) ++ List.replicate z 0 := by
  by_cases h : r * 16777216 + d = 0
  · have h1 : r = 0 := by omega
    have h2 : d = 0 := by omega
    subst h1 h2
    exact ⟨1, by simp [dig_zero]⟩
  · refine ⟨0, ?_⟩
    rw [dig_pos h, show (r * 16777216 + d) % 16777216 = d by omega, show (r * 16777216 + d) / 16777216 = r by omega]
    simp
/-- one step of the division from above -/
theorem div_step (a b i : Nat) (hb : 0 < b) :
    top (a / b) i % 16777216 = (top a (i + 1) % b * 16777216 + top a i % 16777216) / b ∧
    (top a (i + 1) % b * 16777216 + top a i % 16777216) % b = top a i % b ∧ top a (i + 1) % b * 16777216 + top a i % 16777216 < b * 16777216 := by
  have e : top a i = top a (i + 1) * 16777216 + top a i % 16777216 := by rw [top_succ]; omega
  have hd : top a i % 16777216 < 16777216 := Nat.mod_lt _ (by decide)
  rw [top_div]
  generalize top a i % 16777216 = d at *
  have hr := Nat.mod_lt (top a (i + 1)) hb
  have hN : top a (i + 1) % b * 16777216 + d < b * 16777216 := by
    have h := Nat.mul_le_mul_right 16777216 (Nat.succ_le_of_lt hr)
    rw [Nat.succ_mul] at h
    exact Nat.lt_of_lt_of_le (Nat.add_lt_add_left hd _) h
  have hq : (top a (i + 1) % b * 16777216 + d) / b < 16777216 := Nat.div_lt_of_lt_mul hN
  have h0 : top a i = b * (top a (i + 1) / b * 16777216) + (top a (i + 1) % b * 16777216 + d) := by
    have h1 : top a (i + 1) * 16777216 = (b * (top a (i + 1) / b) + top a (i + 1) % b) * 16777216 := by rw [Nat.div_add_mod]
    rw [e, h1, Nat.add_mul, Nat.mul_assoc]; omega
  refine ⟨?_, ?_, hN⟩
  · rw [h0, Nat.mul_add_div hb, Nat.add_comm, Nat.add_mul_mod_self_right, Nat.mod_eq_of_lt hq]
  · rw [h0, Nat.mul_add_mod]
theorem Row.other {w : World} {v u : Value} {l : List Nat} {g j : Nat} (h : Row w v l) (hne : v.ownBlock ≠ some g) : Row (w.setCell ⟨g, j, none⟩ u) v l := by
  obtain ⟨ao, c, rfl, hc, hl, h⟩ := h
  refine ⟨ao, c, rfl, hc, hl, ?_⟩
  rcases h with h | ⟨b, off, rfl, hlt, h⟩
  · exact .inl h
  · have hb : b ≠ g := fun e => hne (by rw [e]; rfl)
    refine .inr ⟨b, off, rfl, hlt.set, fun i hi => ?_⟩
    rw [World.cell?_setCell_other w ⟨g, j, none⟩ ⟨b, off + i, none⟩ u (by intro e; exact hb (by injection e with e1; exact e1.symm)), h i hi]
theorem times_int (va : Value) (a q : Nat) (qq : Int) (hqq : qq = (q : Int)) (hq : q ≤ 16777216) (hS : dlen a ≤ 1099511627776) (w : World) (ha : Row w va (dig a)) :
    Calls Try.prog 82 #[va, .int .i64 qq] w fun e w' => ∃ v, e = .returned v ∧ Row w' v (dig (a * q)) ∧ Below w.heap.size w w' := by
  rw [hqq]; exact times_any va a q hq hS w ha
theorem owns_alloc {w : World} {base n sz : Nat} {e : TypeId} {v : Value} {xs : List Value} (h : w.ownsRow base e sz v n xs) (o : Obj) : (w.alloc o).ownsRow base e sz v n xs := h.alloc o
theorem bmore0 {a w : World} (h : Below a.heap.size a w) (o : Obj) : Below a.heap.size a (w.alloc o) := h.alloc h.size o
theorem bthen0 {a W w : World} (h : Below a.heap.size a W) (hb : Below W.heap.size W w) : Below a.heap.size a w := h.trans (hb.mono h.size)

theorem bdrewN' {B : Nat} {a W : World} (h : Below B a W) (q : Nat) : Below B a (W.drewN q) := below_drewN h q

end Go.Proofs.Ytllahgcifichbaa

namespace Go.Proofs.Ytllahgcifichbaa
open Go.ChangeShapes Go.WideShapes Go.ChangeAt Go.RowKit
set_option linter.unusedVariables false
set_option maxRecDepth 100000

theorem times_intq (va : Value) (a q : Nat) (qq : Int) (hqq : qq = (q : Int)) (hq : q ≤ 16777216) (hS : dlen a ≤ 1099511627776) (w : World) (ha : Row w va (dig a)) :
    Calls Try.prog 51 #[va, .int .i64 qq] w fun e w' => ∃ v, e = .returned v ∧ Row w' v (dig (a * q)) ∧ Below w.heap.size w w' := by
  rw [hqq]; exact times_anyq va a q hq hS w ha
end Go.Proofs.Ytllahgcifichbaa

namespace Go.Proofs.Ytllahgcifichbaa
open Go.ChangeShapes Go.WideShapes Go.ChangeAt Go.RowKit
set_option linter.unusedVariables false
set_option linter.unusedSimpArgs false
set_option maxRecDepth 100000

/-! ### the document's quotients -/
theorem quot11_form (k : Int) (neg : Bool) (s : Int) (f : Nat) (k' : Int) (neg' : Bool) (s' : Int) (g : Nat) : ∃ k2 b s2 h l r, quot11 k neg s f k' neg' s' g = exV k2 b s2 h l r := by
  unfold quot11
  by_cases h : k = 2 ∨ k' ≠ 1
  · rw [if_pos h]; exact ⟨_, _, _, _, _, _, rfl⟩
  · rw [if_neg h]
    by_cases h0 : k = 0
    · rw [if_pos h0]; exact ⟨_, _, _, _, _, _, rfl⟩
    · rw [if_neg h0]; exact ⟨_, _, _, _, _, _, rfl⟩
theorem shl_blen {f : Nat} (j : Nat) (hf : f < 2 ^ 64) : blen (f * 2 ^ j) ≤ 64 + j := blen_le.2 (by rw [Nat.pow_add]; exact Nat.mul_lt_mul_of_pos_right hf (Nat.pow_pos (by decide)))
theorem quo_blen {f g : Nat} (hf : f < 2 ^ 64) : blen (quoN f g) ≤ 264 ∧ blen (f * 2 ^ 200) ≤ 264 ∧ blen (f * 2 ^ 200 % g) ≤ 264 := by
  have h := shl_blen 200 hf
  exact ⟨Nat.le_trans (blen_mono (Nat.div_le_self _ _)) h, h, Nat.le_trans (blen_mono (Nat.mod_le _ _)) h⟩
theorem dlen_le_blen (M : Nat) : dlen M ≤ blen M := by
  refine dlen_le_of_lt (Nat.lt_of_lt_of_le (blen_hi M) ?_)
  rw [show (16777216 : Nat) = 2 ^ 24 by decide, ← Nat.pow_mul]
  exact Nat.pow_le_pow_right (by decide) (by omega)
theorem dlen_some (r : Nat) : decide ((0 : Int) < ((dlen r : Nat) : Int)) = decide (r ≠ 0) := by
  by_cases h : r = 0
  · subst h; rw [dlen_zero]; rfl
  · have : dlen r ≠ 0 := fun c => h (dlen_eq_zero.1 c)
    rw [decide_eq_true h, decide_eq_true (by omega)]
theorem cut11_any (k : Int) (neg : Bool) (s : Int) (hi lo : Nat) (rest : Bool) (w : World) :
    Calls Try.prog 33 #[exV k neg s hi lo rest] w fun e w' => e = .returned (exV k neg s hi 0 (rest || decide (lo ≠ 0))) ∧ Below w.heap.size w w' := by
  unfold exV
  rw [show ((0 : Nat) : Int) = 0 from rfl]
  refine cps fun Q hQ => ?_
  by_cases h : lo = 0
  · subst h
    rw [show ((0 : Nat) : Int) = 0 from rfl]
    cases rest
    · skip
      go_enter Try.func33, Try.ntmps33
      go_wp2
      refine bodyPost_ret (v := .agg #[.int .i64 k, .bool neg, .int .i64 s, .int .u64 hi, .int .u64 0, .bool false]) (by simp [results, Try.results33, go_sem]) rfl (hQ.out _ _ ⟨by simp, ?_⟩)
      exact cmore (cmore (Below.refl _ _) _) _
    · skip
      go_enter Try.func33, Try.ntmps33
      go_wp2
      refine bodyPost_ret (v := .agg #[.int .i64 k, .bool neg, .int .i64 s, .int .u64 hi, .int .u64 0, .bool true]) (by simp [results, Try.results33, go_sem]) rfl (hQ.out _ _ ⟨by simp, ?_⟩)
      exact cmore (cmore (Below.refl _ _) _) _
  · have d : ((lo : Int) == 0) = false := beq_eq_false_iff_ne.2 (by omega)
    rw [decide_eq_true h, Bool.or_true] at hQ
    cases rest
    · skip
      go_enter Try.func33, Try.ntmps33
      go_wp2
      refine bodyPost_ret (v := .agg #[.int .i64 k, .bool neg, .int .i64 s, .int .u64 hi, .int .u64 0, .bool true]) (by simp [results, Try.results33, go_sem, h]) rfl (hQ.out _ _ ⟨by simp, ?_⟩)
      exact cmore (cmore (Below.refl _ _) _) _
    · skip
      go_enter Try.func33, Try.ntmps33
      go_wp2
      refine bodyPost_ret (v := .agg #[.int .i64 k, .bool neg, .int .i64 s, .int .u64 hi, .int .u64 0, .bool true]) (by simp [results, Try.results33, go_sem, h]) rfl (hQ.out _ _ ⟨by simp, ?_⟩)
      exact cmore (cmore (Below.refl _ _) _) _
theorem soundN_kindsQ {k : Int} {neg : Bool} {s : Int} {f : Nat} (h : soundN k neg s f = true) : k = 0 ∨ k = 2 ∨ k = 1 := by
  rcases sound_cases h with ⟨a, _⟩ | ⟨a, _⟩ | a
  · exact .inl a
  · exact .inr (.inl a)
  · exact .inr (.inr a)
theorem round7_via (n : Nat) (V : Value) (P : Nat) (hV : ∃ k b s h l r, V = exV k b s h l r) (k1 : ∀ w, Calls Try.prog 90 #[.int .i64 n, V] w fun r w' => r = .returned (.tuple #[.int .u64 P, .int .i64 0]) ∧ Below w.heap.size w w') (w : World) :
    Calls Try.prog 66 #[.int .i64 n, V] w fun r w' => r = .returned (.int .u64 P) ∧ Below w.heap.size w w' := by
  obtain ⟨k, b, s, h, l, r, rfl⟩ := hV
  unfold exV at *
  refine cps fun Q hQ => ?_
  go_enter Try.func66, Try.ntmps66
  go_wp2_with (go_at_call 90; refine (k1 _).mono ?_; rintro e w1 ⟨rfl, hb1⟩)
  exact hQ.out _ _ ⟨rfl, cthen (cmore (Below.refl _ _) _) hb1⟩
theorem round7_quot (n a b : Nat) (hn : Wd n) (ha : a < 2 ^ 64) (hb : b < 2 ^ 64) (w : World) :
    Calls Try.prog 66 #[.int .i64 n, quot11 (vK n a) (vB n a) (vS n a) (vF n a) (vK n b) (vB n b) (vS n b) (vF n b)] w fun r w' => r = .returned (.int .u64 (patQ n a b : Nat)) ∧ Below w.heap.size w w' := by
  refine round7_via n _ _ (quot11_form _ _ _ _ _ _ _ _) (fun w => ?_) w
  unfold quot11 patQ
  by_cases h : vK n a = 2 ∨ vK n b ≠ 1
  · rw [if_pos h, if_pos h]
    exact rounds7_plain n 2 (2 ^ (n - 1)) w (cut7_nar n hn)
  · rw [if_neg h, if_neg h]
    by_cases h0 : vK n a = 0
    · rw [if_pos h0, if_pos h0]
      exact rounds7_plain n 0 0 w (cut7_zero n hn)
    · rw [if_neg h0, if_neg h0]
      have a1 := real_or n a hn (fun c => h (.inl c)) h0
      have b1 : vK n b = 1 := Classical.not_not.1 fun c => h (.inr c)
      obtain ⟨_, _, _, _, _, _, wa, _⟩ := v_real n a hn ha a1
      obtain ⟨_, _, _, _, _, _, wb, _⟩ := v_real n b hn hb b1
      have hN0 := quo_pos wa.top wb.hi64 (show 0 < vF n b by have := wb.top; omega)
      have hwd := normN_words hN0
      have hh := heldX_bounds (vS n a - vS n b - 200 + blen (quoN (vF n a) (vF n b)) - 1)
      unfold cutV mgC
      refine rounds7_real n _ _ _ 0 _ hn ?_ ⟨hwd.top, hwd.hi64, by decide⟩ w
      unfold soundX
      rw [if_neg (by decide)]
      exact decide_eq_true ⟨rfl, hwd.top, hh.1, hh.2⟩
end Go.Proofs.Ytllahgcifichbaa

namespace Go.Proofs.Ytllahgcifichbaa
open Go.ChangeShapes Go.WideShapes Go.ChangeAt Go.RowKit
set_option linter.unusedVariables false

/-! ### one digit (32 bits) of a quotient, as the library's Div64 finds it -/
theorem kn_up {u t a b T : Nat} (ha : 0 < a) (ht : t < 4294967296) (hT : T * (a * 4294967296 + b) ≤ u * 4294967296 + t) : T ≤ u / a := by
  rw [Nat.le_div_iff_mul_le ha]
  rw [Nat.mul_add, ← Nat.mul_assoc] at hT
  generalize T * a = x at *
  generalize T * b = z at *
  omega
theorem kn_more {q r u t a b T : Nat} (hq : q * a + r = u) (hlt : u < a * 4294967296 + b) (ht : t < 4294967296) (hT : T * (a * 4294967296 + b) ≤ u * 4294967296 + t)
    (hc : 4294967296 ≤ q ∨ r * 4294967296 + t < q * b) : T < q := by
  by_cases h : T < q
  · exact h
  · have h1 := Nat.mul_le_mul (Nat.le_of_not_lt h) (Nat.le_refl (a * 4294967296 + b))
    rcases hc with h2 | h2
    · have h3 := Nat.mul_le_mul h2 (Nat.le_refl (a * 4294967296 + b))
      omega
    · rw [Nat.mul_add q, ← Nat.mul_assoc] at h1
      generalize q * a = x at *
      generalize q * b = z at *
      omega
theorem kn_stop {q r u t a b T : Nat} (hq : q * a + r = u) (hc : q * b ≤ r * 4294967296 + t) (hT : u * 4294967296 + t < (T + 1) * (a * 4294967296 + b)) (h : T ≤ q) : q = T := by
  have h1 : q * (a * 4294967296 + b) < (T + 1) * (a * 4294967296 + b) := by
    refine Nat.lt_of_le_of_lt ?_ hT
    rw [Nat.mul_add q, ← Nat.mul_assoc]
    generalize q * a = x at *
    generalize q * b = z at *
    omega
  have := Nat.lt_of_mul_lt_mul_right h1
  omega
theorem kn_break {q r u t a b : Nat} (hq : q * a + r = u) (hlt : u < a * 4294967296 + b) (hb : b < 4294967296) (hr : 4294967296 ≤ r) : q * b ≤ r * 4294967296 + t := by
  have h1 : q < 4294967296 := by
    by_cases h : q < 4294967296
    · exact h
    · have := Nat.mul_le_mul (Nat.le_of_not_lt h) (Nat.le_refl a)
      omega
  have h2 := Nat.mul_le_mul (Nat.le_of_lt h1) (Nat.le_of_lt hb)
  omega
theorem div_at {U y q : Nat} (h1 : q * y ≤ U) (h2 : U < (q + 1) * y) : U / y = q := by
  rw [Nat.mul_comm] at h1 h2
  exact Nat.div_eq_of_lt_le (by rw [Nat.mul_comm]; exact h1) (by rw [Nat.mul_comm]; exact h2)

theorem lz64_any (x : Nat) (hx : x ≤ 18446744073709551615) (w : World) :
    Calls Try.prog 107 #[.int .u64 x] w fun e w' => e = .returned (.int .i64 ((64 - blen x : Nat) : Int)) ∧ w' = w := by
  have r2 := fun w => len64_any x (by omega) w
  rw [bitLen_eq x hx] at r2
  have hb : blen x ≤ 64 := blen_le.2 (by omega)
  generalize blen x = L at *
  refine cps fun Q hQ => ?_
  go_enter Try.func107, Try.ntmps107
  go_wp2_with (go_at_call 105; refine (r2 _).mono ?_; rintro e w' ⟨rfl, hw⟩; rw [hw]; clear hw w')
  exact hQ.out _ _ ⟨ret_i (by omega), rfl⟩
end Go.Proofs.Ytllahgcifichbaa

namespace Go.Proofs.Ytllahgcifichbaa
set_option maxRecDepth 100000
open Go.ChangeShapes Go.WideShapes Go.ChangeAt Go.RowKit
set_option linter.unusedVariables false

/-- the guess that leaves room for one more -/
theorem pguess_math {a d j T v q : Nat} (ha : a < 340282366920938463463374607431768211456) (hT : T = 2 ^ (j + 1)) (hv : v = d / T) (hv2 : 9223372036854775808 ≤ v)
    (hq : q = a / 2 / v / 2 ^ j) : (q - min q 1) * d ≤ a ∧ a < (q - min q 1 + 2) * d := by
  have hT2 : T = 2 ∨ 4 ≤ T := by
    rcases Nat.eq_zero_or_pos j with h | h
    · left; rw [hT, h]
    · right; rw [hT]; exact Nat.le_trans (show 4 ≤ 2 ^ 2 by decide) (Nat.pow_le_pow_right (by decide) (by omega))
  have hT0 : 0 < T := by omega
  have hD : v * T ≤ d := by rw [hv]; exact Nat.div_mul_le_self d T
  have hD2 : d < v * T + T := by
    have := Nat.mod_lt d hT0
    have h2 := Nat.div_add_mod' d T
    rw [← hv] at h2
    omega
  have hD3 : 9223372036854775808 * T ≤ v * T := Nat.mul_le_mul_right T hv2
  have hq2 : q = a / (v * T) := by
    rw [hq, Nat.div_div_eq_div_mul, Nat.div_div_eq_div_mul]
    congr 1
    rw [hT, Nat.pow_succ, Nat.mul_left_comm, Nat.mul_comm 2]
  obtain ⟨D, eD⟩ : ∃ D, D = v * T := ⟨_, rfl⟩
  rw [← eD] at hD hD2 hD3 hq2
  have hD0 : 0 < D := by omega
  have q1 : q * D ≤ a := by rw [hq2]; exact Nat.div_mul_le_self a D
  have q2 : a < (q + 1) * D := by
    have := Nat.lt_div_mul_add (a := a) hD0
    rw [← hq2] at this
    rw [Nat.add_mul, Nat.one_mul]
    exact this
  clear hq hq2 hv eD hT
  by_cases h0 : q = 0
  · subst h0
    simp only [Nat.zero_min, Nat.sub_self, Nat.zero_mul, Nat.zero_add]
    refine ⟨Nat.zero_le _, ?_⟩
    omega
  · obtain ⟨i, rfl⟩ : ∃ i, q = i + 1 := ⟨q - 1, by omega⟩
    rw [show min (i + 1) 1 = 1 by omega, Nat.add_sub_cancel]
    constructor
    · have h1 : (i + 1) * (9223372036854775808 * T) ≤ (i + 1) * D := Nat.mul_le_mul_left _ hD3
      have h2 : i * d ≤ i * (D + (T - 1)) := Nat.mul_le_mul_left _ (by omega)
      have h3 : i * (T - 1) ≤ D := by
        rcases hT2 with h | h
        · subst h; omega
        · have h4 : i * (T - 1) ≤ (i + 1) * T := Nat.mul_le_mul (by omega) (by omega)
          have h5 : (i + 1) * (9223372036854775808 * T) = 9223372036854775808 * ((i + 1) * T) := Nat.mul_left_comm _ _ _
          rw [h5] at h1
          generalize (i + 1) * T = X at *
          omega
      rw [Nat.mul_add] at h2
      rw [Nat.add_mul, Nat.one_mul] at q1
      generalize i * D = Y at *
      omega
    · have h1 : (i + 1 + 1) * D ≤ (i + 2) * d := Nat.mul_le_mul (by omega) hD
      omega
end Go.Proofs.Ytllahgcifichbaa

namespace Go.Proofs.Ytllahgcifichbaa
set_option maxRecDepth 100000
open Go.ChangeShapes Go.WideShapes Go.ChangeAt Go.RowKit
set_option linter.unusedVariables false

theorem tw_some {n : Nat} (h : n < 340282366920938463463374607431768211456) : ∃ h l, Tw n h l := ⟨n / 18446744073709551616, n % 18446744073709551616, by omega, by omega, by omega⟩
end Go.Proofs.Ytllahgcifichbaa

namespace Go.Proofs.Ytllahgcifichbaa
set_option maxRecDepth 100000
open Go.ChangeShapes Go.WideShapes Go.ChangeAt Go.RowKit
set_option linter.unusedVariables false

end Go.Proofs.Ytllahgcifichbaa

namespace Go.Proofs.Ytllahgcifichbaa
set_option maxRecDepth 100000
open Go.ChangeShapes Go.WideShapes Go.ChangeAt Go.RowKit
set_option linter.unusedVariables false

theorem sq_lt {r a : Nat} (h : r * r ≤ a) (ha : a < 340282366920938463463374607431768211456) : r < 18446744073709551616 := by
  by_cases g : r < 18446744073709551616
  · exact g
  · have := Nat.mul_le_mul (show 18446744073709551616 ≤ r by omega) (show 18446744073709551616 ≤ r by omega)
    omega
theorem sq_one {r s a : Nat} (h1 : r * r ≤ a) (h2 : a < (r + 1) * (r + 1)) (h3 : s * s ≤ a) (h4 : a < (s + 1) * (s + 1)) : r = s := by
  rcases Nat.lt_trichotomy r s with g | g | g
  · have := Nat.mul_le_mul (show r + 1 ≤ s by omega) (show r + 1 ≤ s by omega); omega
  · exact g
  · have := Nat.mul_le_mul (show s + 1 ≤ r by omega) (show s + 1 ≤ r by omega); omega
end Go.Proofs.Ytllahgcifichbaa

namespace Go.Proofs.Ytllahgcifichbaa
set_option maxRecDepth 100000
open Go.ChangeShapes Go.WideShapes Go.ChangeAt Go.RowKit
set_option linter.unusedVariables false

theorem or_bit (m i : Nat) : m * 2 ^ (i + 1) ||| 2 ^ i = m * 2 ^ (i + 1) + 2 ^ i := by
  have h := Nat.shiftLeft_add_eq_or_of_lt (a := m) (b := 2 ^ i) (i := i + 1) (Nat.pow_lt_pow_right (by decide) (by omega))
  rw [Nat.shiftLeft_eq] at h
  exact h.symm
theorem or_room {m i : Nat} (hi : i < 64) (h : m * 2 ^ (i + 1) < 18446744073709551616) : m * 2 ^ (i + 1) + 2 ^ i < 18446744073709551616 := by
  have e : 2 ^ (63 - i) * 2 ^ (i + 1) = 18446744073709551616 := by rw [← Nat.pow_add, show 63 - i + (i + 1) = 64 by omega]
  have h1 : m < 2 ^ (63 - i) := by
    by_cases g : m < 2 ^ (63 - i)
    · exact g
    · have := Nat.mul_le_mul_right (2 ^ (i + 1)) (Nat.le_of_not_lt g)
      omega
  have h2 := Nat.mul_le_mul_right (2 ^ (i + 1)) h1
  rw [Nat.succ_mul] at h2
  have h3 : 2 ^ (i + 1) = 2 ^ i * 2 := Nat.pow_succ 2 i
  have h4 : 0 < 2 ^ i := Nat.pow_pos (by decide)
  generalize 2 ^ i = p at *
  generalize 2 ^ (i + 1) = p2 at *
  generalize m * p2 = x at *
  omega
set_option maxHeartbeats 4000000 in
theorem proot_any {a h1 l1 r h l : Nat} (ha : Tw a h1 l1) (hr1 : r * r ≤ a) (hr2 : a < (r + 1) * (r + 1)) (hl : Tw (a - r * r) h l) (w : World) :
    Calls Try.prog 49 #[.agg #[.int .u64 h1, .int .u64 l1]] w fun e w' => e = .returned (.tuple #[.int .u64 r, .agg #[.int .u64 h, .int .u64 l]]) ∧ Below w.heap.size w w' := by
  refine cps fun Q hQ => ?_
  have la := ha.lt
  have lr := sq_lt hr1 la
  obtain ⟨h2, l2, t2⟩ := tw_some (n := r * r) (by omega)
  have k1 := fun w => tmul_any (show r ≤ 18446744073709551615 by omega) (show r ≤ 18446744073709551615 by omega) t2 w
  have k2 := fun w => tsub_any (c := false) ha t2 (h := h) (l := l) (by
    rw [show a + 340282366920938463463374607431768211456 - r * r = (a - r * r) + 340282366920938463463374607431768211456 by omega, Nat.add_mod_right, Nat.mod_eq_of_lt (by omega)]
    exact hl) (decide_eq_false (by omega)).symm w
  have HR : Hid (∀ R, R * R ≤ a → a < (R + 1) * (R + 1) → R = r) := fun R x y => sq_one x y hr1 hr2
  have HA : Hid (Tw a h1 l1 ∧ a < 340282366920938463463374607431768211456) := ⟨ha, la⟩
  have HS : Hid (a < (0 + 2 ^ 64) * (0 + 2 ^ 64)) := show _ < _ by omega
  clear ha hr1 hr2 hl la lr t2
  obtain ⟨W, hW⟩ : ∃ W, W = (w.alloc (.cells #[.int .u64 h1, .int .u64 l1] 55)).alloc (.cells #[.int .u64 0, .int .u64 0] 55) := ⟨_, rfl⟩
  have H0 : Below w.heap.size w W := by rw [hW]; exact bmore (bmore (Below.refl _ _) _) _
  have z0 : w.heap.size + 1 < W.heap.size := by rw [hW]; simp
  have z1 : w.heap.size < W.heap.size := by omega
  have cls : ∀ V, Below W.heap.size W V → V.cell? ⟨w.heap.size, 0, none⟩ = some (.int .u64 h1) ∧ V.cell? ⟨w.heap.size, 1, none⟩ = some (.int .u64 l1) := fun V hV => by
    obtain ⟨c, _⟩ := bcell hV
    rw [c _ _ z1, c _ _ z1, hW]
    simp [go_sem]
  have box : ∀ V, Below W.heap.size W V → V.cell? ⟨w.heap.size + 1, 0, none⟩ = some (.int .u64 0) ∧ V.cell? ⟨w.heap.size + 1, 1, none⟩ = some (.int .u64 0) ∧ V.frozen? ⟨w.heap.size + 1, 0, none⟩ = false ∧ V.frozen? ⟨w.heap.size + 1, 1, none⟩ = false := fun V hV => by
    obtain ⟨c, f⟩ := bcell hV
    rw [c _ _ z0, c _ _ z0, f _ _ z0, f _ _ z0, hW]
    simp [go_sem]
  go_enter Try.func49, Try.ntmps49
  go_wp2
  rw [← hW]
  clear hW
  go_loopw [4, 5] (fun rv kv wr => ∃ R j m : Nat, j ≤ 64 ∧ rv = .int .u64 R ∧ kv = .int .u64 ((2 ^ j / 2 : Nat) : Int) ∧ Hid (R = m * 2 ^ j) ∧ Hid (R * R ≤ a) ∧ Hid (a < (R + 2 ^ j) * (R + 2 ^ j)) ∧ Below W.heap.size W wr) (fun _ kv _ => (intOf kv).toNat)
  case atStart => exact ⟨0, 64, 0, by decide, rfl, rfl, (Nat.zero_mul _).symm, Nat.zero_le _, HS.out, Below.refl _ _⟩
  case round =>
    obtain ⟨R, j, m, hj, rfl, rfl, hmul, hlo, hup, hbel⟩ := hrel
    by_cases h0 : 0 < j
    · obtain ⟨i, rfl⟩ : ∃ i, j = i + 1 := ⟨j - 1, by omega⟩
      have lR := sq_lt hlo.out HA.out.2
      have pp : 2 ^ (i + 1) / 2 = 2 ^ i := by rw [Nat.pow_succ]; omega
      have p0 : 0 < 2 ^ i := Nat.pow_pos (by decide)
      have room : R + 2 ^ i < 18446744073709551616 := by rw [hmul.out]; exact or_room (by omega) (by rw [← hmul.out]; exact lR)
      have v1 : bits .or .u64 (R : Int) ((2 ^ i : Nat) : Int) = ((R + 2 ^ i : Nat) : Int) := by
        rw [u64_or_nat R (2 ^ i) lR (by omega), hmul.out, or_bit]
      have hup' : a < (R + 2 ^ i + 2 ^ i) * (R + 2 ^ i + 2 ^ i) := by
        have := hup.out
        rw [Nat.pow_succ, show R + 2 ^ i * 2 = R + 2 ^ i + 2 ^ i by omega] at this
        exact this
      have m1 : R = (m * 2) * 2 ^ i := by rw [hmul.out, Nat.pow_succ, Nat.mul_assoc, Nat.mul_comm 2]
      have m2 : R + 2 ^ i = (m * 2 + 1) * 2 ^ i := by rw [Nat.add_mul, Nat.one_mul, ← m1]
      have HM : Hid (R = (m * 2) * 2 ^ i ∧ R + 2 ^ i = (m * 2 + 1) * 2 ^ i) := ⟨m1, m2⟩
      clear m1 m2
      rw [pp]
      have v2 : ((2 ^ i : Nat) : Int) / 2 = ((2 ^ i / 2 : Nat) : Int) := by omega
      obtain ⟨p, hp⟩ : ∃ p, p = 2 ^ i := ⟨_, rfl⟩
      obtain ⟨s, hs⟩ : ∃ s, s = R + 2 ^ i := ⟨_, rfl⟩
      obtain ⟨n, hn⟩ : ∃ n, n = 2 ^ i / 2 := ⟨_, rfl⟩
      rw [← hs] at v1 hup' room
      rw [← hn] at v2
      rw [← hp] at v1 v2 p0 hup' ⊢
      have HP : Hid (p = 2 ^ i ∧ s = R + 2 ^ i ∧ n = 2 ^ i / 2) := ⟨hp, hs, hn⟩
      clear hp hs hn pp
      obtain ⟨h3, l3, t3⟩ := tw_some (n := s * s) (by have := Nat.mul_le_mul (show s ≤ 18446744073709551615 by omega) (show s ≤ 18446744073709551615 by omega); omega)
      have g1 := fun w => tmul_any (show s ≤ 18446744073709551615 by omega) (show s ≤ 18446744073709551615 by omega) t3 w
      have g2 := fun w => tcmp_any t3 HA.out.1 w
      obtain ⟨x, hx⟩ : ∃ x, x = cmpN (s * s) a := ⟨_, rfl⟩
      rw [← hx] at g2
      have hxx : (x ≤ 0 ∧ s * s ≤ a) ∨ (0 < x ∧ a < s * s) := by
        rw [hx]
        rcases Nat.lt_trichotomy (s * s) a with g | g | g
        · rw [cmpN_lt g]; exact .inl ⟨by decide, by omega⟩
        · rw [g, cmpN_eq]; exact .inl ⟨by decide, Nat.le_refl _⟩
        · rw [cmpN_gt g]; exact .inr ⟨by decide, g⟩
      have HU : Hid _ := hup'
      have px : ((p : Int) > 0) = True := by simp; omega
      clear hup' hx t3 room lR
      go_upto_region 5 with fail
      refine wpC_region (fun W => W.cell? ⟨w.heap.size, 0, none⟩ = some (.int .u64 h1) ∧ W.cell? ⟨w.heap.size, 1, none⟩ = some (.int .u64 l1)) (by kernel_rfl) ?_
      refine wpC_take 0 (v := ?_) rfl (by kernel_rfl) (fun _ _ _ h => h) (by kernel_rfl) ?_ ?_; rotate_left; · (intro wC hC; obtain ⟨c1, c2⟩ := hC; go_simp <;> with_reducible rfl)
      refine wpC_take 1 (v := ?_) rfl (by kernel_rfl) (fun _ _ _ h => h) (by kernel_rfl) ?_ ?_; rotate_left; · (intro wC hC; obtain ⟨c1, c2⟩ := hC; go_simp <;> with_reducible rfl)
      refine wpC_take 2 (v := ?_) rfl (by kernel_rfl) (fun _ _ _ h => h) (by kernel_rfl) ?_ ?_; rotate_left; · (intro wC hC; obtain ⟨c1, c2⟩ := hC; go_simp <;> with_reducible rfl)
      refine wpC_take 3 (v := ?_) rfl (by kernel_rfl) (fun _ _ _ h => h) (by kernel_rfl) ?_ ?_; rotate_left; · (intro wC hC; obtain ⟨c1, c2⟩ := hC; go_simp <;> with_reducible rfl)
      refine wpC_take 4 (v := ?_) rfl (by kernel_rfl) (fun _ _ _ h => h) (by kernel_rfl) ?_ ?_; rotate_left; · (intro wC hC; obtain ⟨c1, c2⟩ := hC; go_simp <;> with_reducible rfl)
      refine wpC_take 5 (v := ?_) rfl (by kernel_rfl) (fun _ _ _ h => h) (by kernel_rfl) ?_ ?_; rotate_left; · (intro wC hC; obtain ⟨c1, c2⟩ := hC; go_simp <;> with_reducible rfl)
      refine wpC_take 7 (v := ?_) rfl (by kernel_rfl) (fun _ _ _ h => h) (by kernel_rfl) ?_ ?_; rotate_left; · (intro wC hC; obtain ⟨c1, c2⟩ := hC; go_simp <;> with_reducible rfl)
      refine wpC_step 6 rfl (by kernel_rfl) (by kernel_rfl) (cls _ (bdrew hbel)) (fun K hK => ?_)
      go_simp
      go_wp2_with ((go_at_call 67; refine (g1 _).mono ?_; rintro e w1 ⟨rfl, hb1⟩; have B1 := bthen (bdrew hbel) hb1))
      try (refine hK _ _ ?_; clear hK K)
      refine wpC_step 8 rfl (by kernel_rfl) (by kernel_rfl) (cls _ B1) (fun K hK => ?_)
      go_simp
      go_wp2_with ((go_at_call 79; refine (g2 _).mono ?_; rintro e w2 ⟨rfl, hb2⟩; have B2 := bthen B1 hb2))
      try (refine hK _ _ ?_; clear hK K)
      refine wpC_step 9 rfl (by kernel_rfl) (by kernel_rfl) (cls _ B2) (fun K hK => ?_)
      go_simp
      try (refine hK _ _ ?_; clear hK K)
      refine wpC_done (by kernel_rfl) (cls _ B2) ?_
      rcases hxx with ⟨x1, x2⟩ | ⟨x1, x2⟩
      all_goals
        have HX : Hid _ := x2
        clear x2
        go_wp2
        go_roundw
        case measure => have := HP.out; simp [intOf]; omega
        case rel =>
          obtain ⟨e1, e2, e3⟩ := HP.out
          obtain ⟨m1, m2⟩ := HM.out
          first
            | exact ⟨s, i, m * 2 + 1, by omega, rfl, by rw [← e3], (by show _ = _; rw [e2]; exact m2), HX.out, (by show _ < _; rw [← e1]; exact HU.out), B2⟩
            | exact ⟨R, i, m * 2, by omega, rfl, by rw [← e3], m1, hlo.out, (by show _ < _; rw [← e2]; exact HX.out), B2⟩
    · have e : j = 0 := by omega
      subst e
      have hR : R = r := HR.out R hlo.out hup.out
      subst hR
      rw [show 2 ^ 0 / 2 = 0 from rfl]
      clear hmul hlo hup HS HR HA
      have y0 : W.heap.size ≤ wr.heap.size := hbel.size
      have r1 : Below wr.heap.size wr wr := Below.refl _ _
      go_upto_region 7 with fail
      go_cut [6, 7] from 25 (fun s11 s12 wx => ∃ n : Nat, s11 = .pointer (some ⟨n, 0, none⟩) ∧ Below wr.heap.size wr wx ∧ wr.heap.size ≤ n ∧ n < wx.heap.size ∧
        wx.cell? ⟨n, 0, none⟩ = some (.int .u64 h) ∧ wx.cell? ⟨n, 1, none⟩ = some (.int .u64 l))
      case first =>
        refine wpC_region (fun W => W.cell? ⟨w.heap.size, 0, none⟩ = some (.int .u64 h1) ∧ W.cell? ⟨w.heap.size, 1, none⟩ = some (.int .u64 l1)) (by kernel_rfl) ?_
        refine wpC_take 0 (v := ?_) rfl (by kernel_rfl) (fun _ _ _ h => h) (by kernel_rfl) ?_ ?_; rotate_left; · (intro wC hC; obtain ⟨c1, c2⟩ := hC; go_simp <;> with_reducible rfl)
        refine wpC_take 1 (v := ?_) rfl (by kernel_rfl) (fun _ _ _ h => h) (by kernel_rfl) ?_ ?_; rotate_left; · (intro wC hC; obtain ⟨c1, c2⟩ := hC; go_simp <;> with_reducible rfl)
        refine wpC_take 2 (v := ?_) rfl (by kernel_rfl) (fun _ _ _ h => h) (by kernel_rfl) ?_ ?_; rotate_left; · (intro wC hC; obtain ⟨c1, c2⟩ := hC; go_simp <;> with_reducible rfl)
        refine wpC_two 3 8 rfl rfl (by kernel_rfl) (by kernel_rfl) (by kernel_rfl) (cls _ (bdrew hbel)) (fun K hK => ?_) (fun K hK => ?_)
        · skip
          go_simp
          go_wp2_with ((go_at_call 67; refine (k1 _).mono ?_; rintro e w2 ⟨rfl, hb2⟩; have B2 := bthen (bdrew r1) hb2))
          try (refine hK _ _ ?_; clear hK K)
          have y2 : wr.heap.size ≤ w2.heap.size := B2.size
          refine wpC_two 4 8 rfl rfl (by kernel_rfl) (by kernel_rfl) (by kernel_rfl) (cls _ (bthen hbel B2)) (fun K hK => ?_) (fun K hK => ?_)
          · skip
            go_simp
            go_wp2_with ((go_at_call 80; refine (k2 _).mono ?_; rintro e w3 ⟨rfl, hb3⟩; have B3 := bthen B2 hb3))
            try (refine hK _ _ ?_; clear hK K)
            have y3 : wr.heap.size ≤ w3.heap.size := B3.size
            refine wpC_take 5 (v := ?_) rfl (by kernel_rfl) (fun _ _ _ h => h) (by kernel_rfl) ?_ ?_; rotate_left; · (intro wC hC; obtain ⟨c1, c2⟩ := hC; go_simp <;> with_reducible rfl)
            refine wpC_take 6 (v := ?_) rfl (by kernel_rfl) (fun _ _ _ h => h) (by kernel_rfl) ?_ ?_; rotate_left; · (intro wC hC; obtain ⟨c1, c2⟩ := hC; go_simp <;> with_reducible rfl)
            refine wpC_take 7 (v := ?_) rfl (by kernel_rfl) (fun _ _ _ h => h) (by kernel_rfl) ?_ ?_; rotate_left; · (intro wC hC; obtain ⟨c1, c2⟩ := hC; go_simp <;> with_reducible rfl)
            refine wpC_step 8 rfl (by kernel_rfl) (by kernel_rfl) (cls _ (bthen hbel B3)) (fun K hK => ?_)
            go_simp
            try (refine hK _ _ ?_; clear hK K)
            refine wpC_step 9 rfl (by kernel_rfl) (by kernel_rfl) (cls _ (bthen hbel (bmore B3 _))) (fun K hK => ?_)
            go_simp
            try (refine hK _ _ ?_; clear hK K)
            refine wpC_step 10 rfl (by kernel_rfl) (by kernel_rfl) (cls _ (bthen hbel (bmore B3 _))) (fun K hK => ?_)
            go_simp
            try (refine hK _ _ ?_; clear hK K)
            refine wpC_done (by kernel_rfl) (cls _ (bthen hbel (bmore B3 _))) ?_
            go_wp2_with fail
            go_meet
            case rel =>
              refine ⟨_, rfl, bmore B3 _, y3, by simp, ?_, ?_⟩ <;> simp [go_sem]
          · skip
            go_simp
            try (refine hK _ _ ?_; clear hK K)
            refine wpC_step 4 rfl (by kernel_rfl) (by kernel_rfl) (cls _ (bthen hbel (bmore B2 _))) (fun K hK => ?_)
            go_simp
            go_wp2_with ((go_at_call 80; refine (k2 _).mono ?_; rintro e w3 ⟨rfl, hb3⟩; have B3 := bthen (bmore B2 _) hb3; obtain ⟨hc3, hf3⟩ := bcell hb3; have y4 : w2.heap.size < w3.heap.size := (by have := hb3.size; simp at this; omega)))
            try (refine hK _ _ ?_; clear hK K)
            refine wpC_step 5 rfl (by kernel_rfl) (by kernel_rfl) (cls _ (bthen hbel B3)) (fun K hK => ?_)
            go_simp
            try (refine hK _ _ ?_; clear hK K)
            refine wpC_take 6 (v := ?_) rfl (by kernel_rfl) (fun _ _ _ h => h) (by kernel_rfl) ?_ ?_; rotate_left; · (intro wC hC; obtain ⟨c1, c2⟩ := hC; go_simp <;> with_reducible rfl)
            refine wpC_take 7 (v := ?_) rfl (by kernel_rfl) (fun _ _ _ h => h) (by kernel_rfl) ?_ ?_; rotate_left; · (intro wC hC; obtain ⟨c1, c2⟩ := hC; go_simp <;> with_reducible rfl)
            refine wpC_step 9 rfl (by kernel_rfl) (by kernel_rfl) (cls _ (bthen hbel B3)) (fun K hK => ?_)
            go_simp
            try (refine hK _ _ ?_; clear hK K)
            refine wpC_step 10 rfl (by kernel_rfl) (by kernel_rfl) (cls _ (bthen hbel (bset (bset B3 y2 _ _) y2 _ _))) (fun K hK => ?_)
            go_simp
            try (refine hK _ _ ?_; clear hK K)
            refine wpC_done (by kernel_rfl) (cls _ (bthen hbel (bset (bset B3 y2 _ _) y2 _ _))) ?_
            go_wp2_with fail
            go_meet
            case rel =>
              refine ⟨_, rfl, bset (bset B3 y2 _ _) y2 _ _, y2, by simp [y4], ?_, ?_⟩ <;> simp [go_sem, hc3]
        · skip
          go_simp
          try (refine hK _ _ ?_; clear hK K)
          refine wpC_step 3 rfl (by kernel_rfl) (by kernel_rfl) (cls _ (bthen hbel (bmore (bdrew r1) _))) (fun K hK => ?_)
          go_simp
          go_wp2_with ((go_at_call 67; refine (k1 _).mono ?_; rintro e w2 ⟨rfl, hb2⟩; obtain ⟨hc2, hf2⟩ := bcell hb2; have B2 := bthen (bmore (bdrew r1) _) hb2; have y4 : wr.heap.size < w2.heap.size := (by have := hb2.size; simp at this; omega)))
          try (refine hK _ _ ?_; clear hK K)
          refine wpC_step 4 rfl (by kernel_rfl) (by kernel_rfl) (cls _ (bthen hbel B2)) (fun K hK => ?_)
          go_simp
          go_wp2_with ((go_at_call 80; refine (k2 _).mono ?_; rintro e w3 ⟨rfl, hb3⟩; have B3 := bthen B2 hb3; obtain ⟨hc3, hf3⟩ := bcell hb3; have y5 : wr.heap.size < w3.heap.size := (by have := hb3.size; omega)))
          try (refine hK _ _ ?_; clear hK K)
          refine wpC_step 5 rfl (by kernel_rfl) (by kernel_rfl) (cls _ (bthen hbel B3)) (fun K hK => ?_)
          go_simp
          try (refine hK _ _ ?_; clear hK K)
          refine wpC_take 6 (v := ?_) rfl (by kernel_rfl) (fun _ _ _ h => h) (by kernel_rfl) ?_ ?_; rotate_left; · (intro wC hC; obtain ⟨c1, c2⟩ := hC; go_simp <;> with_reducible rfl)
          refine wpC_take 7 (v := ?_) rfl (by kernel_rfl) (fun _ _ _ h => h) (by kernel_rfl) ?_ ?_; rotate_left; · (intro wC hC; obtain ⟨c1, c2⟩ := hC; go_simp <;> with_reducible rfl)
          refine wpC_step 9 rfl (by kernel_rfl) (by kernel_rfl) (cls _ (bthen hbel B3)) (fun K hK => ?_)
          go_simp
          try (refine hK _ _ ?_; clear hK K)
          refine wpC_step 10 rfl (by kernel_rfl) (by kernel_rfl) (cls _ (bthen hbel (bset (bset B3 (Nat.le_refl _) _ _) (Nat.le_refl _) _ _))) (fun K hK => ?_)
          go_simp
          try (refine hK _ _ ?_; clear hK K)
          refine wpC_done (by kernel_rfl) (cls _ (bthen hbel (bset (bset B3 (Nat.le_refl _) _ _) (Nat.le_refl _) _ _))) ?_
          go_wp2_with fail
          go_meet
          case rel =>
            refine ⟨_, rfl, bset (bset B3 (Nat.le_refl _) _ _) (Nat.le_refl _) _ _, Nat.le_refl _, by simp [y5], ?_, ?_⟩ <;> simp [go_sem, hc2, hc3, y4]
      case rest =>
        obtain ⟨n, rfl, HB, n1, n2, c5, c6⟩ := hcut
        have H2 := bthen hbel HB
        obtain ⟨b1, b2, b3, b4⟩ := box _ H2
        have m1 : ¬ (w.heap.size + 1 = n) := by omega
        have m2 : ¬ (n = w.heap.size + 1) := by omega
        go_wp2
        go_region
        all_goals
          go_wp2
          refine bodyPost_ret (v := .tuple #[.int .u64 R, .agg #[.int .u64 h, .int .u64 l]]) (by simp [results, Try.results49, go_sem, b1, b2]) rfl (hQ.out _ _ ⟨rfl, ?_⟩)
          exact bdrew (bset (bset (bthen H0 H2) (by omega) _ _) (by omega) _ _)
end Go.Proofs.Ytllahgcifichbaa

namespace Go.Proofs.Ytllahgcifichbaa
open Go.ChangeShapes Go.WideShapes Go.ChangeAt Go.RowKit
set_option linter.unusedVariables false
set_option linter.unusedSimpArgs false
set_option maxRecDepth 100000

/-! ### package root, over the landed code -/
theorem ro_even {s : Int} {M : Nat} (h : Mant M) (he : s % 2 = 0) :
    rtH (mR s M) * rtH (mR s M) ≤ M / 2 ^ 1 ∧ M / 2 ^ 1 < (rtH (mR s M) + 1) * (rtH (mR s M) + 1) ∧
      (decide (M % 2 ^ 1 ≠ 0) || decide (M / 2 ^ 1 - rtH (mR s M) * rtH (mR s M) ≠ 0)) = rtR (mR s M) := by
  obtain ⟨a, b⟩ := mR_size s h
  obtain ⟨c1, c2⟩ := rtH_ok b
  have e : mR s M = M * 2 ^ 13 := by
    rcases mR_two s M with ⟨_, e⟩ | ⟨p, _⟩
    · exact e
    · omega
  unfold rtR
  generalize rtH (mR s M) = r at *
  rw [e] at c1 c2 ⊢
  generalize (r + 1) * (r + 1) = q at *
  generalize r * r = p at *
  refine ⟨by omega, by omega, ?_⟩
  rw [Bool.eq_iff_iff, Bool.or_eq_true, decide_eq_true_eq, decide_eq_true_eq, decide_eq_true_eq]
  omega
theorem ro_odd {s : Int} {M : Nat} (h : Mant M) (he : s % 2 = 1) :
    rtH (mR s M) * rtH (mR s M) ≤ M ∧ M < (rtH (mR s M) + 1) * (rtH (mR s M) + 1) ∧
      decide (M - rtH (mR s M) * rtH (mR s M) ≠ 0) = rtR (mR s M) := by
  obtain ⟨a, b⟩ := mR_size s h
  obtain ⟨c1, c2⟩ := rtH_ok b
  have e : mR s M = M * 2 ^ 14 := by
    rcases mR_two s M with ⟨p, _⟩ | ⟨_, e⟩
    · omega
    · exact e
  unfold rtR
  generalize rtH (mR s M) = r at *
  rw [e] at c1 c2 ⊢
  generalize (r + 1) * (r + 1) = q at *
  generalize r * r = p at *
  refine ⟨by omega, by omega, ?_⟩
  rw [Bool.eq_iff_iff, decide_eq_true_eq, decide_eq_true_eq]
  omega
theorem ro_tm {s : Int} : s.tmod 2 = 0 ↔ s % 2 = 0 :=
  ⟨fun h => Int.emod_eq_zero_of_dvd (Int.dvd_of_tmod_eq_zero h), fun h => Int.tmod_eq_zero_of_dvd (Int.dvd_of_emod_eq_zero h)⟩
theorem two_nought {n h l : Nat} (t : Tw n h l) : decide (n ≠ 0) = !(decide (h = 0) && decide (l = 0)) := by
  obtain ⟨e, _, _⟩ := t
  by_cases a : h = 0 <;> by_cases b : l = 0
  · subst a; subst b; rw [e]; rfl
  · rw [decide_eq_true a, decide_eq_false b, decide_eq_true (show n ≠ 0 by omega)]; rfl
  · rw [decide_eq_false a, decide_eq_true (show n ≠ 0 by omega)]; rfl
  · rw [decide_eq_false a, decide_eq_true (show n ≠ 0 by omega)]; rfl
set_option maxHeartbeats 2000000 in
theorem rodig_odd {a h1 l1 r h l : Nat} {x : Bool} (s : Int) (hs : s.tmod 2 ≠ 0) (ha : Tw a h1 l1) (r1 : r * r ≤ a) (r2 : a < (r + 1) * (r + 1)) (hl : Tw (a - r * r) h l) (hx : x = !(decide (h = 0) && decide (l = 0))) (w : World) :
    Calls Try.prog 23 #[.agg #[.int .u64 h1, .int .u64 l1], .int .i64 s] w fun e w' => e = .returned (.tuple #[.int .u64 r, .bool x]) ∧ Below w.heap.size w w' := by
  have k2 := fun w => proot_any ha r1 r2 hl w
  have d1 : (s.tmod 2 == 0) = false := beq_eq_false_iff_ne.2 hs
  have d2 : decide (s.tmod 2 = 0) = false := decide_eq_false hs
  have hcase : (h = 0 ∧ l = 0 ∧ x = false) ∨ (h = 0 ∧ ¬ (l : Int) = 0 ∧ x = true) ∨ (¬ (h : Int) = 0 ∧ x = true) := by
    by_cases g1 : h = 0
    · by_cases g2 : l = 0
      · exact .inl ⟨g1, g2, by rw [hx]; simp [g1, g2]⟩
      · exact .inr (.inl ⟨g1, by omega, by rw [hx]; simp [g2]⟩)
    · exact .inr (.inr ⟨by omega, by rw [hx]; simp [g1]⟩)
  clear hx hl r1 r2 ha hs
  rcases hcase with ⟨rfl, rfl, rfl⟩ | ⟨rfl, g2, rfl⟩ | ⟨g1, rfl⟩
  all_goals
    refine cps fun Q hQ => ?_
    go_enter Try.func23, Try.ntmps23
    go_wp2_with (go_at_call 49; go_must (refine (k2 _).mono ?_); rintro e w2 ⟨rfl, hb2⟩)
    go_quiet (fail)
    go_wp2
    exact hQ.out _ _ ⟨rfl, bdrewN (cmore (cthen (cmore (Below.refl _ _) _) hb2) _) _⟩
set_option maxHeartbeats 2000000 in
theorem rodig_even {a h1 l1 r h' l' h l : Nat} {o x : Bool} (s : Int) (hs : s.tmod 2 = 0) (ha : Tw a h1 l1) (h2 : Tw (a / 2 ^ 1) h' l') (ho : o = decide (a % 2 ^ 1 ≠ 0)) (r1 : r * r ≤ (a / 2 ^ 1)) (r2 : (a / 2 ^ 1) < (r + 1) * (r + 1)) (hl : Tw ((a / 2 ^ 1) - r * r) h l) (hx : x = (o || !(decide (h = 0) && decide (l = 0)))) (w : World) :
    Calls Try.prog 23 #[.agg #[.int .u64 h1, .int .u64 l1], .int .i64 s] w fun e w' => e = .returned (.tuple #[.int .u64 r, .bool x]) ∧ Below w.heap.size w w' := by
  have k1 := fun w => tshr_any (h := h') (l := l') (c := o) 1 (by decide) ha h2 ho w
  rw [show ((1 : Nat) : Int) = 1 from rfl] at k1
  have k2 := fun w => proot_any h2 r1 r2 hl w
  have d1 : (s.tmod 2 == 0) = true := beq_iff_eq.2 hs
  have d2 : decide (s.tmod 2 = 0) = true := decide_eq_true hs
  have hcase : (o = true ∧ x = true) ∨ (o = false ∧ h = 0 ∧ l = 0 ∧ x = false) ∨ (o = false ∧ h = 0 ∧ ¬ (l : Int) = 0 ∧ x = true) ∨ (o = false ∧ ¬ (h : Int) = 0 ∧ x = true) := by
    cases o
    · by_cases g1 : h = 0
      · by_cases g2 : l = 0
        · exact .inr (.inl ⟨rfl, g1, g2, by rw [hx]; simp [g1, g2]⟩)
        · exact .inr (.inr (.inl ⟨rfl, g1, by omega, by rw [hx]; simp [g2]⟩))
      · exact .inr (.inr (.inr ⟨rfl, by omega, by rw [hx]; simp [g1]⟩))
    · exact .inl ⟨rfl, by rw [hx]; rfl⟩
  clear hx hl r1 r2 ha h2 hs ho
  rcases hcase with ⟨rfl, rfl⟩ | ⟨rfl, rfl, rfl, rfl⟩ | ⟨rfl, rfl, g2, rfl⟩ | ⟨rfl, g1, rfl⟩
  all_goals
    refine cps fun Q hQ => ?_
    go_enter Try.func23, Try.ntmps23
    go_wp2_with (first
      | (go_at_call 49; have chk := HB1; go_must (refine (k2 _).mono ?_); rintro e w2 ⟨rfl, hb2⟩)
      | (go_at_call 48; go_must (refine (k1 _).mono ?_); rintro e w1 ⟨rfl, hb1⟩; have R1_0 := (hb1.block (w.heap.size) (by first | (simp; done) | (simp; omega) | omega)).trans (rownew' _ _ _ _ (by simp)); have z1_0 : w.heap.size < w1.heap.size := Nat.lt_of_lt_of_le (by first | (simp; done) | (simp; omega) | omega) hb1.size; have c1_0_0 := rowcell R1_0 0; have c1_0_1 := rowcell R1_0 1; simp only [List.getElem?_toArray, List.getElem?_cons_zero, List.getElem?_cons_succ] at c1_0_0 c1_0_1; have HR1_0 : Hid _ := R1_0; clear R1_0; have HB1 : Hid (Below _ _ _) := hb1; clear hb1; have f1 := rowfree HR1_0.out))
    go_quiet (fail)
    go_wp2
    exact hQ.out _ _ ⟨rfl, bdrewN (cmore (cthen (bset (bset (cthen (cmore (Below.refl _ _) _) HB1.out) (Nat.le_refl _) _ _) (Nat.le_refl _) _ _) hb2) _) _⟩
theorem rodig_any {s : Int} {hi lo : Nat} (hw : WordsX hi lo) (w : World) :
    Calls Try.prog 23 #[.agg #[.int .u64 hi, .int .u64 lo], .int .i64 s] w fun e w' => e = .returned (.tuple #[.int .u64 (rtH (mR s (manX hi lo)) : Nat), .bool (rtR (mR s (manX hi lo)))]) ∧ Below w.heap.size w w' := by
  have hm := hw.mant
  have ha : Tw (manX hi lo) hi lo := ⟨rfl, by have := hw.hi64; omega, by have := hw.lo64; omega⟩
  have hlt := ha.lt
  rcases Int.emod_two_eq s with c | c
  · obtain ⟨a1, a2, a3⟩ := ro_even hm c
    obtain ⟨h', l', t1⟩ := tw_some (n := manX hi lo / 2 ^ 1) (by omega)
    obtain ⟨h, l, t2⟩ := tw_some (n := manX hi lo / 2 ^ 1 - rtH (mR s (manX hi lo)) * rtH (mR s (manX hi lo))) (by omega)
    rw [two_nought t2] at a3
    exact rodig_even s (ro_tm.2 c) ha t1 rfl a1 a2 t2 a3.symm w
  · obtain ⟨a1, a2, a3⟩ := ro_odd hm c
    obtain ⟨h, l, t2⟩ := tw_some (n := manX hi lo - rtH (mR s (manX hi lo)) * rtH (mR s (manX hi lo))) (by omega)
    rw [two_nought t2] at a3
    exact rodig_odd s (fun h => by have := ro_tm.1 h; omega) ha a1 a2 t2 a3.symm w
theorem rodig_zero (w : World) :
    Calls Try.prog 23 #[.agg #[.int .u64 0, .int .u64 0], .int .i64 0] w fun e w' => e = .returned (.tuple #[.int .u64 0, .bool false]) ∧ Below w.heap.size w w' := by
  have t0 : Tw 0 0 0 := ⟨rfl, by decide, by decide⟩
  exact rodig_even (h' := 0) (l' := 0) (o := false) (r := 0) (h := 0) (l := 0) 0 rfl t0 t0 rfl (by decide) (by decide) t0 rfl w
/-! ### Exact -/
theorem rround_some (k : Int) (neg : Bool) (s : Int) (hi lo : Nat) (rest : Bool) (hh : hi < 2 ^ 64) (hl : lo < 2 ^ 64) (hs : soundX k neg s hi lo rest = true) :
    ∃ P : Nat, ∀ w, Calls Try.prog 22 #[.int .i64 (64 : Nat), exV k neg s hi lo rest] w fun e w' => e = .returned (.tuple #[.int .u64 P, .nilIface]) ∧ Below w.heap.size w w' := by
  have wd : Wd 64 := .inr (.inr (.inr rfl))
  by_cases c : k = 0 ∨ k = 2
  · have h := hs
    unfold soundX at h
    rw [if_pos c] at h
    obtain ⟨e1, e2, e3, e4, e5⟩ := of_decide_eq_true h
    subst e1; subst e2; subst e3; subst e4; subst e5
    rcases c with rfl | rfl
    · exact ⟨0, rround_zero 64 wd⟩
    · exact ⟨_, rround_nar 64 wd⟩
  · have h := hs
    unfold soundX at h
    rw [if_neg c] at h
    obtain ⟨e1, e2, _⟩ := of_decide_eq_true h
    subst e1
    exact ⟨_, rround_real 64 neg s hi lo rest wd hs ⟨e2, hh, hl⟩⟩
set_option maxHeartbeats 2000000 in
theorem rootx_bad (k : Int) (neg : Bool) (s : Int) (hi lo : Nat) (rest : Bool) (hh : hi < 2 ^ 64) (hl : lo < 2 ^ 64) (h1 : soundX k neg s hi lo rest = false) (w : World) :
    Calls Try.prog 8 #[exV k neg s hi lo rest] w fun e w' => e = .returned (.tuple #[exV 0 false 0 0 0 false, codeV 1]) ∧ Below w.heap.size w w' := by
  have k1 := rround_bad 64 k neg s hi lo rest (.inr (.inr (.inr rfl))) hh hl h1
  rw [show ((64 : Nat) : Int) = 64 from rfl] at k1
  clear hh hl h1
  unfold exV at *
  refine cps fun Q hQ => ?_
  go_enter Try.func8, Try.ntmps8
  go_wp2_with (first
    | (go_at_call 22; go_must (refine (k1 _).mono ?_); rintro e w1 ⟨rfl, hb1⟩; have R1_0 := (hb1.block (w.heap.size) (by first | (simp; done) | (simp; omega) | omega)).trans ((Below.heap_alloc _ _ _ (by first | (simp; done) | (simp; omega) | omega)).trans (rownew' _ _ _ _ (by simp))); have z1_0 : w.heap.size < w1.heap.size := Nat.lt_of_lt_of_le (by first | (simp; done) | (simp; omega) | omega) hb1.size; have c1_0_0 := rowcell R1_0 0; have c1_0_1 := rowcell R1_0 1; have c1_0_2 := rowcell R1_0 2; have c1_0_3 := rowcell R1_0 3; have c1_0_4 := rowcell R1_0 4; have c1_0_5 := rowcell R1_0 5; simp only [List.getElem?_toArray, List.getElem?_cons_zero, List.getElem?_cons_succ] at c1_0_0 c1_0_1 c1_0_2 c1_0_3 c1_0_4 c1_0_5; have HR1_0 : Hid _ := R1_0; clear R1_0; have R1_1 := (hb1.block (w.heap.size + 1) (by first | (simp; done) | (simp; omega) | omega)).trans (rownew' _ _ _ _ (by simp)); have z1_1 : w.heap.size + 1 < w1.heap.size := Nat.lt_of_lt_of_le (by first | (simp; done) | (simp; omega) | omega) hb1.size; have c1_1_0 := rowcell R1_1 0; have c1_1_1 := rowcell R1_1 1; have c1_1_2 := rowcell R1_1 2; have c1_1_3 := rowcell R1_1 3; have c1_1_4 := rowcell R1_1 4; have c1_1_5 := rowcell R1_1 5; simp only [List.getElem?_toArray, List.getElem?_cons_zero, List.getElem?_cons_succ] at c1_1_0 c1_1_1 c1_1_2 c1_1_3 c1_1_4 c1_1_5; have HR1_1 : Hid _ := R1_1; clear R1_1; have HB1 : Hid (Below _ _ _) := hb1; clear hb1; have f1 := rowfree HR1_1.out))
  refine bodyPost_ret (v := .tuple #[.agg #[.int .i64 0, .bool false, .int .i64 0, .int .u64 0, .int .u64 0, .bool false], codeV 1]) (by simp [results, Try.results8, go_sem, c1_1_0, c1_1_1, c1_1_2, c1_1_3, c1_1_4, c1_1_5, f1, z1_1]; done) rfl (hQ.out _ _ ⟨rfl, ?_⟩)
  exact cset6 (cthen (cmore (cmore (Below.refl _ _) _) _) HB1.out) (by omega)
set_option maxHeartbeats 2000000 in
theorem rootx_nar1 (k : Int) (neg : Bool) (s : Int) (hi lo : Nat) (rest : Bool) (hh : hi < 2 ^ 64) (hl : lo < 2 ^ 64) (h1 : soundX k neg s hi lo rest = true) (hk : k = 2) (w : World) :
    Calls Try.prog 8 #[exV k neg s hi lo rest] w fun e w' => e = .returned (.tuple #[exV 2 false 0 0 0 false, .nilIface]) ∧ Below w.heap.size w w' := by
  obtain ⟨P, k1⟩ := rround_some k neg s hi lo rest hh hl h1
  rw [show ((64 : Nat) : Int) = 64 from rfl] at k1
  have d1 : (k == 2) = true := by rw [hk]; rfl
  clear hk
  clear hh hl h1
  unfold exV at *
  refine cps fun Q hQ => ?_
  go_enter Try.func8, Try.ntmps8
  go_wp2_with (first
    | (go_at_call 22; go_must (refine (k1 _).mono ?_); rintro e w1 ⟨rfl, hb1⟩; have R1_0 := (hb1.block (w.heap.size) (by first | (simp; done) | (simp; omega) | omega)).trans ((Below.heap_alloc _ _ _ (by first | (simp; done) | (simp; omega) | omega)).trans (rownew' _ _ _ _ (by simp))); have z1_0 : w.heap.size < w1.heap.size := Nat.lt_of_lt_of_le (by first | (simp; done) | (simp; omega) | omega) hb1.size; have c1_0_0 := rowcell R1_0 0; have c1_0_1 := rowcell R1_0 1; have c1_0_2 := rowcell R1_0 2; have c1_0_3 := rowcell R1_0 3; have c1_0_4 := rowcell R1_0 4; have c1_0_5 := rowcell R1_0 5; simp only [List.getElem?_toArray, List.getElem?_cons_zero, List.getElem?_cons_succ] at c1_0_0 c1_0_1 c1_0_2 c1_0_3 c1_0_4 c1_0_5; have HR1_0 : Hid _ := R1_0; clear R1_0; have R1_1 := (hb1.block (w.heap.size + 1) (by first | (simp; done) | (simp; omega) | omega)).trans (rownew' _ _ _ _ (by simp)); have z1_1 : w.heap.size + 1 < w1.heap.size := Nat.lt_of_lt_of_le (by first | (simp; done) | (simp; omega) | omega) hb1.size; have c1_1_0 := rowcell R1_1 0; have c1_1_1 := rowcell R1_1 1; have c1_1_2 := rowcell R1_1 2; have c1_1_3 := rowcell R1_1 3; have c1_1_4 := rowcell R1_1 4; have c1_1_5 := rowcell R1_1 5; simp only [List.getElem?_toArray, List.getElem?_cons_zero, List.getElem?_cons_succ] at c1_1_0 c1_1_1 c1_1_2 c1_1_3 c1_1_4 c1_1_5; have HR1_1 : Hid _ := R1_1; clear R1_1; have HB1 : Hid (Below _ _ _) := hb1; clear hb1; have f1 := rowfree HR1_1.out))
  refine bodyPost_ret (v := .tuple #[.agg #[.int .i64 2, .bool false, .int .i64 0, .int .u64 0, .int .u64 0, .bool false], .nilIface]) (by simp [results, Try.results8, go_sem, c1_1_0, c1_1_1, c1_1_2, c1_1_3, c1_1_4, c1_1_5, f1, z1_1]; done) rfl (hQ.out _ _ ⟨rfl, ?_⟩)
  exact cset6 (cthen (cmore (cmore (Below.refl _ _) _) _) HB1.out) (by omega)
set_option maxHeartbeats 2000000 in
theorem rootx_nar2 (k : Int) (neg : Bool) (s : Int) (hi lo : Nat) (rest : Bool) (hh : hi < 2 ^ 64) (hl : lo < 2 ^ 64) (h1 : soundX k neg s hi lo rest = true) (hk : k ≠ 2) (hn : neg = true) (w : World) :
    Calls Try.prog 8 #[exV k neg s hi lo rest] w fun e w' => e = .returned (.tuple #[exV 2 false 0 0 0 false, .nilIface]) ∧ Below w.heap.size w w' := by
  obtain ⟨P, k1⟩ := rround_some k neg s hi lo rest hh hl h1
  rw [show ((64 : Nat) : Int) = 64 from rfl] at k1
  have d1 : (k == 2) = false := beq_eq_false_iff_ne.2 hk
  subst hn
  clear hk
  clear hh hl h1
  unfold exV at *
  refine cps fun Q hQ => ?_
  go_enter Try.func8, Try.ntmps8
  go_wp2_with (first
    | (go_at_call 22; go_must (refine (k1 _).mono ?_); rintro e w1 ⟨rfl, hb1⟩; have R1_0 := (hb1.block (w.heap.size) (by first | (simp; done) | (simp; omega) | omega)).trans ((Below.heap_alloc _ _ _ (by first | (simp; done) | (simp; omega) | omega)).trans (rownew' _ _ _ _ (by simp))); have z1_0 : w.heap.size < w1.heap.size := Nat.lt_of_lt_of_le (by first | (simp; done) | (simp; omega) | omega) hb1.size; have c1_0_0 := rowcell R1_0 0; have c1_0_1 := rowcell R1_0 1; have c1_0_2 := rowcell R1_0 2; have c1_0_3 := rowcell R1_0 3; have c1_0_4 := rowcell R1_0 4; have c1_0_5 := rowcell R1_0 5; simp only [List.getElem?_toArray, List.getElem?_cons_zero, List.getElem?_cons_succ] at c1_0_0 c1_0_1 c1_0_2 c1_0_3 c1_0_4 c1_0_5; have HR1_0 : Hid _ := R1_0; clear R1_0; have R1_1 := (hb1.block (w.heap.size + 1) (by first | (simp; done) | (simp; omega) | omega)).trans (rownew' _ _ _ _ (by simp)); have z1_1 : w.heap.size + 1 < w1.heap.size := Nat.lt_of_lt_of_le (by first | (simp; done) | (simp; omega) | omega) hb1.size; have c1_1_0 := rowcell R1_1 0; have c1_1_1 := rowcell R1_1 1; have c1_1_2 := rowcell R1_1 2; have c1_1_3 := rowcell R1_1 3; have c1_1_4 := rowcell R1_1 4; have c1_1_5 := rowcell R1_1 5; simp only [List.getElem?_toArray, List.getElem?_cons_zero, List.getElem?_cons_succ] at c1_1_0 c1_1_1 c1_1_2 c1_1_3 c1_1_4 c1_1_5; have HR1_1 : Hid _ := R1_1; clear R1_1; have HB1 : Hid (Below _ _ _) := hb1; clear hb1; have f1 := rowfree HR1_1.out))
  refine bodyPost_ret (v := .tuple #[.agg #[.int .i64 2, .bool false, .int .i64 0, .int .u64 0, .int .u64 0, .bool false], .nilIface]) (by simp [results, Try.results8, go_sem, c1_1_0, c1_1_1, c1_1_2, c1_1_3, c1_1_4, c1_1_5, f1, z1_1]; done) rfl (hQ.out _ _ ⟨rfl, ?_⟩)
  exact cset6 (cthen (cmore (cmore (Below.refl _ _) _) _) HB1.out) (by omega)
set_option maxHeartbeats 2000000 in
theorem rootx_real (k : Int) (neg : Bool) (s : Int) (hi lo : Nat) (rest : Bool) (hh : hi < 2 ^ 64) (hl : lo < 2 ^ 64) (h1 : soundX k neg s hi lo rest = true) (hk : k ≠ 2) (hn : neg = false) {dg : Nat} {lf : Bool} (k2 : ∀ w, Calls Try.prog 23 #[.agg #[.int .u64 hi, .int .u64 lo], .int .i64 s] w fun e w' => e = .returned (.tuple #[.int .u64 dg, .bool lf]) ∧ Below w.heap.size w w') (m1 : dg < 2 ^ 64) (m2 : (lf || rest) = false ∨ 9223372036854775808 ≤ dg) (w : World) :
    Calls Try.prog 8 #[exV k neg s hi lo rest] w fun e w' => e = .returned (.tuple #[exactV false (manX dg 0) (s / 2 - 127) (lf || rest), .nilIface]) ∧ Below w.heap.size w w' := by
  obtain ⟨P, k1⟩ := rround_some k neg s hi lo rest hh hl h1
  rw [show ((64 : Nat) : Int) = 64 from rfl] at k1
  have hb : -1099511627776 ≤ s ∧ s ≤ 1099511627776 := by
    unfold soundX at h1
    by_cases c : k = 0 ∨ k = 2
    · rw [if_pos c] at h1; have := (of_decide_eq_true h1).2.1; omega
    · rw [if_neg c] at h1; exact (of_decide_eq_true h1).2.2
  have d1 : (k == 2) = false := beq_eq_false_iff_ne.2 hk
  obtain ⟨r, hr⟩ : ∃ r, r = dg := ⟨_, rfl⟩
  obtain ⟨x, hx⟩ : ∃ x, x = lf := ⟨_, rfl⟩
  obtain ⟨y, hy⟩ : ∃ y, y = (x || rest) := ⟨_, rfl⟩
  rw [← hr, ← hx] at k2
  have k3 := rmake_ok false r 0 (s / 2 - 127) y (by rw [hr]; exact m1) (by decide) (by omega) (by
    rw [hy, hx, hr]; exact m2)
  rw [← hr, ← hx, ← hy]
  obtain ⟨K, B, S, H, L, R, hform⟩ := exactV_form false (manX r 0) (s / 2 - 127) y
  rw [hform] at k3 ⊢
  have e1 : IntKind.i64.wrap (s / 2) = s / 2 := wrapI (by omega)
  have e2 : IntKind.i64.wrap (s / 2 - 127) = s / 2 - 127 := wrapI (by omega)
  rw [show ((0 : Nat) : Int) = 0 from rfl] at k3
  have ycase : (x = true ∧ y = true) ∨ (x = false ∧ y = rest) := by rw [hy]; cases x; exact .inr ⟨rfl, rfl⟩; exact .inl ⟨rfl, rfl⟩
  subst hn
  clear hform hb hk hr hx hy m1 m2
  clear hh hl h1
  unfold exV at *
  rcases ycase with ⟨rfl, rfl⟩ | ⟨rfl, rfl⟩
  all_goals
    refine cps fun Q hQ => ?_
    go_enter Try.func8, Try.ntmps8
    go_wp2_with (first
      | (go_at_call 22; go_must (refine (k1 _).mono ?_); rintro e w1 ⟨rfl, hb1⟩; have R1_0 := (hb1.block (w.heap.size) (by first | (simp; done) | (simp; omega) | omega)).trans ((Below.heap_alloc _ _ _ (by first | (simp; done) | (simp; omega) | omega)).trans (rownew' _ _ _ _ (by simp))); have z1_0 : w.heap.size < w1.heap.size := Nat.lt_of_lt_of_le (by first | (simp; done) | (simp; omega) | omega) hb1.size; have c1_0_0 := rowcell R1_0 0; have c1_0_1 := rowcell R1_0 1; have c1_0_2 := rowcell R1_0 2; have c1_0_3 := rowcell R1_0 3; have c1_0_4 := rowcell R1_0 4; have c1_0_5 := rowcell R1_0 5; simp only [List.getElem?_toArray, List.getElem?_cons_zero, List.getElem?_cons_succ] at c1_0_0 c1_0_1 c1_0_2 c1_0_3 c1_0_4 c1_0_5; have HR1_0 : Hid _ := R1_0; clear R1_0; have R1_1 := (hb1.block (w.heap.size + 1) (by first | (simp; done) | (simp; omega) | omega)).trans (rownew' _ _ _ _ (by simp)); have z1_1 : w.heap.size + 1 < w1.heap.size := Nat.lt_of_lt_of_le (by first | (simp; done) | (simp; omega) | omega) hb1.size; have c1_1_0 := rowcell R1_1 0; have c1_1_1 := rowcell R1_1 1; have c1_1_2 := rowcell R1_1 2; have c1_1_3 := rowcell R1_1 3; have c1_1_4 := rowcell R1_1 4; have c1_1_5 := rowcell R1_1 5; simp only [List.getElem?_toArray, List.getElem?_cons_zero, List.getElem?_cons_succ] at c1_1_0 c1_1_1 c1_1_2 c1_1_3 c1_1_4 c1_1_5; have HR1_1 : Hid _ := R1_1; clear R1_1; have HB1 : Hid (Below _ _ _) := hb1; clear hb1; have f1 := rowfree HR1_1.out)
      | (go_at_call 23; go_must (refine (k2 _).mono ?_); rintro e w2 ⟨rfl, hb2⟩; have R2_0 := (hb2.block (w.heap.size) (by first | (simp; done) | (simp; omega) | omega)).trans HR1_0.out; have z2_0 : w.heap.size < w2.heap.size := Nat.lt_of_lt_of_le (by first | (simp; done) | (simp; omega) | omega) hb2.size; have c2_0_0 := rowcell R2_0 0; have c2_0_1 := rowcell R2_0 1; have c2_0_2 := rowcell R2_0 2; have c2_0_3 := rowcell R2_0 3; have c2_0_4 := rowcell R2_0 4; have c2_0_5 := rowcell R2_0 5; simp only [List.getElem?_toArray, List.getElem?_cons_zero, List.getElem?_cons_succ] at c2_0_0 c2_0_1 c2_0_2 c2_0_3 c2_0_4 c2_0_5; have HR2_0 : Hid _ := R2_0; clear R2_0; have R2_1 := (hb2.block (w.heap.size + 1) (by first | (simp; done) | (simp; omega) | omega)).trans HR1_1.out; have z2_1 : w.heap.size + 1 < w2.heap.size := Nat.lt_of_lt_of_le (by first | (simp; done) | (simp; omega) | omega) hb2.size; have c2_1_0 := rowcell R2_1 0; have c2_1_1 := rowcell R2_1 1; have c2_1_2 := rowcell R2_1 2; have c2_1_3 := rowcell R2_1 3; have c2_1_4 := rowcell R2_1 4; have c2_1_5 := rowcell R2_1 5; simp only [List.getElem?_toArray, List.getElem?_cons_zero, List.getElem?_cons_succ] at c2_1_0 c2_1_1 c2_1_2 c2_1_3 c2_1_4 c2_1_5; have HR2_1 : Hid _ := R2_1; clear R2_1; have HB2 : Hid (Below _ _ _) := hb2; clear hb2)
      | (go_at_call 24; go_must (refine (k3 _).mono ?_); rintro e w3 ⟨rfl, hb3⟩; have R3_0 := (hb3.block (w.heap.size) (by first | (simp; done) | (simp; omega) | omega)).trans HR2_0.out; have z3_0 : w.heap.size < w3.heap.size := Nat.lt_of_lt_of_le (by first | (simp; done) | (simp; omega) | omega) hb3.size; have HR3_0 : Hid _ := R3_0; clear R3_0; have R3_1 := (hb3.block (w.heap.size + 1) (by first | (simp; done) | (simp; omega) | omega)).trans HR2_1.out; have z3_1 : w.heap.size + 1 < w3.heap.size := Nat.lt_of_lt_of_le (by first | (simp; done) | (simp; omega) | omega) hb3.size; have c3_1_0 := rowcell R3_1 0; have c3_1_1 := rowcell R3_1 1; have c3_1_2 := rowcell R3_1 2; have c3_1_3 := rowcell R3_1 3; have c3_1_4 := rowcell R3_1 4; have c3_1_5 := rowcell R3_1 5; simp only [List.getElem?_toArray, List.getElem?_cons_zero, List.getElem?_cons_succ] at c3_1_0 c3_1_1 c3_1_2 c3_1_3 c3_1_4 c3_1_5; have HR3_1 : Hid _ := R3_1; clear R3_1; have HB3 : Hid (Below _ _ _) := hb3; clear hb3; have f3 := rowfree HR3_1.out))
    refine bodyPost_ret (v := .tuple #[.agg #[.int .i64 K, .bool B, .int .i64 S, .int .u64 H, .int .u64 L, .bool R], .nilIface]) (by simp [results, Try.results8, go_sem, c3_1_0, c3_1_1, c3_1_2, c3_1_3, c3_1_4, c3_1_5, f3, z3_1]; done) rfl (hQ.out _ _ ⟨rfl, ?_⟩)
    exact cset6 (cthen (cthen (cthen (cmore (cmore (Below.refl _ _) _) _) HB1.out) HB2.out) HB3.out) (by omega)
theorem rootx_ok (k : Int) (neg : Bool) (s : Int) (hi lo : Nat) (rest : Bool) (hh : hi < 2 ^ 64) (hl : lo < 2 ^ 64) (h : soundX k neg s hi lo rest = true) (w : World) :
    Calls Try.prog 8 #[exV k neg s hi lo rest] w fun e w' => e = .returned (.tuple #[root12 k neg s hi lo rest, .nilIface]) ∧ Below w.heap.size w w' := by
  unfold root12
  by_cases a2 : k = 2
  · rw [if_pos (.inl a2)]; exact rootx_nar1 k neg s hi lo rest hh hl h a2 w
  · by_cases an : neg = true
    · rw [if_pos (.inr an)]; exact rootx_nar2 k neg s hi lo rest hh hl h a2 an w
    · rw [if_neg (by rintro (c | c); exact a2 c; exact an c)]
      have an' : neg = false := by cases neg; rfl; exact absurd rfl an
      by_cases a0 : k = 0
      · rw [if_pos a0]
        have hs := h
        unfold soundX at hs
        rw [if_pos (.inl a0)] at hs
        obtain ⟨_, e2, e3, e4, e5⟩ := of_decide_eq_true hs
        subst e2; subst e3; subst e4; subst e5
        have := rootx_real k neg 0 0 0 false hh hl h a2 an' rodig_zero (by decide) (.inl rfl) w
        rw [show manX 0 0 = 0 from rfl, exactV_zero] at this
        exact this
      · rw [if_neg a0]
        have hs := h
        unfold soundX at hs
        rw [if_neg (by omega)] at hs
        obtain ⟨e1, e2, e3, e4⟩ := of_decide_eq_true hs
        have hw : WordsX hi lo := ⟨e2, hh, hl⟩
        obtain ⟨m1, m2⟩ := mR_size s hw.mant
        have wd := (rt_words m1 m2).2.2
        have := rootx_real k neg s hi lo rest hh hl h a2 an' (rodig_any hw) wd.hi64 (.inr wd.top) w
        have b1 := wd.top
        have b2 := wd.hi64
        generalize rtH (mR s (manX hi lo)) = r at *
        have b : blen (manX r 0) = 128 := blen_at (m := 127) (by unfold manX; omega) (by unfold manX; omega)
        have nz : manX r 0 ≠ 0 := by unfold manX; omega
        have n1 : normN (manX r 0) = r * 2 ^ 64 := by unfold normN; rw [b]; rw [if_neg (by decide), Nat.sub_self, Nat.pow_zero, Nat.div_one]; unfold manX; rw [Nat.add_zero]
        have n2 : lostN (manX r 0) = false := by unfold lostN; rw [b]; rfl
        unfold exactV at this
        rw [if_neg nz, n1, n2, b, Nat.mul_div_cancel _ (by decide), Nat.mod_eq_of_lt b2, Nat.mul_mod_left, Bool.or_false,
          show s / 2 - 127 + ((128 : Nat) : Int) - 1 = s / 2 by omega] at this
        have hh : heldX (s / 2) = s / 2 := by unfold heldX; rw [if_neg (by omega), if_neg (by omega)]
        rw [hh] at this
        exact this
/-! ### Sqrt -/
theorem rootq_no (n : Int) (a : Nat) (hn : isW n = false) (w : World) :
    Calls Try.prog 11 #[.int .i64 n, .int .u64 a] w fun e w' => e = .returned (.tuple #[.int .u64 0, codeV 2]) ∧ Below w.heap.size w w' := by
  have k1 := cdecode_no n a hn
  clear hn
  unfold numV at *
  refine cps fun Q hQ => ?_
  go_enter Try.func11, Try.ntmps11
  go_wp2_with (go_at_call 35; go_must (refine (k1 _).mono ?_); rintro e w1 ⟨rfl, hb1⟩)
  exact hQ.out _ _ ⟨rfl, cmore hb1 _⟩
theorem rround_root (n a : Nat) (hn : Wd n) (ha : a < 2 ^ 64) (w : World) :
    Calls Try.prog 22 #[.int .i64 n, root12 (vK n a) (vB n a) (vS n a) (vF n a) 0 false] w fun r w' => r = .returned (.tuple #[.int .u64 (patT2 n a : Nat), .nilIface]) ∧ Below w.heap.size w w' := by
  unfold root12 patT2
  by_cases h : vK n a = 2 ∨ vB n a = true
  · rw [if_pos h, if_pos h]
    exact rround_nar n hn w
  · rw [if_neg h, if_neg h]
    by_cases h0 : vK n a = 0
    · rw [if_pos h0, if_pos h0]
      exact rround_zero n hn w
    · rw [if_neg h0, if_neg h0, Bool.or_false]
      have a1 := real_or n a hn (fun c => h (.inl c)) h0
      obtain ⟨_, _, _, _, _, _, wa, s1, s2⟩ := v_real n a hn ha a1
      have hw := wd_le hn
      obtain ⟨m1, m2⟩ := mR_size (vS n a) wa.mant
      have wd := (rt_words m1 m2).2.2
      unfold mgT
      refine rround_real n false _ _ 0 _ hn ?_ wd w
      unfold soundX
      rw [if_neg (by decide)]
      exact decide_eq_true ⟨rfl, wd.top, by omega, by omega⟩
theorem rootq_ok (n a : Nat) (hn : Wd n) (ha : a < 2 ^ 64) (w : World) :
    Calls Try.prog 11 #[.int .i64 n, .int .u64 a] w fun e w' => e = .returned (.tuple #[.int .u64 (patT2 n a : Nat), .nilIface]) ∧ Below w.heap.size w w' := by
  have k1 := cdecode_v n a hn ha
  have hfl := vF_lt n a
  have k2 := rndof_ok (vK n a) (vB n a) (vS n a) (vF n a) hfl (sound_v n a hn ha)
  have hsx : soundX (vK n a) (vB n a) (vS n a) (vF n a) 0 false = true := by
    by_cases k1' : vK n a = 1
    · obtain ⟨_, _, _, _, _, _, wa, s1, s2⟩ := v_real n a hn ha k1'
      have hw := wd_le hn
      unfold soundX
      rw [k1', if_neg (by decide)]
      exact decide_eq_true ⟨rfl, wa.top, by omega, by omega⟩
    · obtain ⟨e1, e2, e3⟩ := v_other n a k1'
      unfold soundX
      rw [e1, e2, e3]
      rcases v_kinds n a hn with ⟨c, _⟩ | c | ⟨c, _⟩
      · rw [c]; rfl
      · exact absurd c k1'
      · rw [c]; rfl
  have k3 := rootx_ok (vK n a) (vB n a) (vS n a) (vF n a) 0 false hfl (by decide) hsx
  have k4 := rround_root n a hn ha
  obtain ⟨K, B, S, H, L, R, hform⟩ := root12_form (vK n a) (vB n a) (vS n a) (vF n a) 0 false
  rw [hform] at k3 k4
  clear hn ha hfl hsx hform
  unfold numV exV at *
  rw [show ((0 : Nat) : Int) = 0 from rfl] at *
  generalize patT2 n a = P at *
  generalize vK n a = ka at *
  generalize vB n a = ba at *
  generalize vS n a = sa at *
  generalize vF n a = fa at *
  refine cps fun Q hQ => ?_
  go_enter Try.func11, Try.ntmps11
  go_wp2_with (first
    | (go_at_call 35; go_must (refine (k1 _).mono ?_); rintro e w1 ⟨rfl, hb1⟩; have HB1 : Hid (Below _ _ _) := hb1; clear hb1)
    | (go_at_call 36; go_must (refine (k2 _).mono ?_); rintro e w2 ⟨rfl, hb2⟩; have R2_0 := (hb2.block (w1.heap.size) (by first | (simp; done) | (simp; omega) | omega)).trans (rownew' _ _ _ _ (by simp)); have z2_0 : w1.heap.size < w2.heap.size := Nat.lt_of_lt_of_le (by first | (simp; done) | (simp; omega) | omega) hb2.size; have c2_0_0 := rowcell R2_0 0; have c2_0_1 := rowcell R2_0 1; have c2_0_2 := rowcell R2_0 2; have c2_0_3 := rowcell R2_0 3; simp only [List.getElem?_toArray, List.getElem?_cons_zero, List.getElem?_cons_succ] at c2_0_0 c2_0_1 c2_0_2 c2_0_3; have HR2_0 : Hid _ := R2_0; clear R2_0; have HB2 : Hid (Below _ _ _) := hb2; clear hb2)
    | (go_at_call 8; go_must (refine (k3 _).mono ?_); rintro e w3 ⟨rfl, hb3⟩; have R3_0 := (hb3.block (w1.heap.size) (by first | (simp; done) | (simp; omega) | omega)).trans ((Below.heap_alloc _ _ _ (by first | (simp; done) | (simp; omega) | omega)).trans HR2_0.out); have z3_0 : w1.heap.size < w3.heap.size := Nat.lt_of_lt_of_le (by first | (simp; done) | (simp; omega) | omega) hb3.size; have HR3_0 : Hid _ := R3_0; clear R3_0; have R3_1 := (hb3.block (w2.heap.size) (by first | (simp; done) | (simp; omega) | omega)).trans (rownew' _ _ _ _ (by simp)); have z3_1 : w2.heap.size < w3.heap.size := Nat.lt_of_lt_of_le (by first | (simp; done) | (simp; omega) | omega) hb3.size; have c3_1_0 := rowcell R3_1 0; have c3_1_1 := rowcell R3_1 1; have c3_1_2 := rowcell R3_1 2; have c3_1_3 := rowcell R3_1 3; have c3_1_4 := rowcell R3_1 4; have c3_1_5 := rowcell R3_1 5; simp only [List.getElem?_toArray, List.getElem?_cons_zero, List.getElem?_cons_succ] at c3_1_0 c3_1_1 c3_1_2 c3_1_3 c3_1_4 c3_1_5; have HR3_1 : Hid _ := R3_1; clear R3_1; have HB3 : Hid (Below _ _ _) := hb3; clear hb3)
    | (go_at_call 22; go_must (refine (k4 _).mono ?_); rintro e w4 ⟨rfl, hb4⟩; have R4_0 := (hb4.block (w1.heap.size) (by first | (simp; done) | (simp; omega) | omega)).trans ((Below.heap_alloc _ _ _ (by first | (simp; done) | (simp; omega) | omega)).trans HR3_0.out); have z4_0 : w1.heap.size < w4.heap.size := Nat.lt_of_lt_of_le (by first | (simp; done) | (simp; omega) | omega) hb4.size; have HR4_0 : Hid _ := R4_0; clear R4_0; have R4_1 := (hb4.block (w2.heap.size) (by first | (simp; done) | (simp; omega) | omega)).trans ((Below.heap_alloc _ _ _ (by first | (simp; done) | (simp; omega) | omega)).trans HR3_1.out); have z4_1 : w2.heap.size < w4.heap.size := Nat.lt_of_lt_of_le (by first | (simp; done) | (simp; omega) | omega) hb4.size; have HR4_1 : Hid _ := R4_1; clear R4_1; have R4_2 := (hb4.block (w3.heap.size) (by first | (simp; done) | (simp; omega) | omega)).trans (rownew' _ _ _ _ (by simp)); have z4_2 : w3.heap.size < w4.heap.size := Nat.lt_of_lt_of_le (by first | (simp; done) | (simp; omega) | omega) hb4.size; have HR4_2 : Hid _ := R4_2; clear R4_2; have HB4 : Hid (Below _ _ _) := hb4; clear hb4))
  exact hQ.out _ _ ⟨rfl, cthen (cmore (cthen (cmore (cthen (cmore (cthen (Below.refl _ _) HB1.out) _) HB2.out) _) HB3.out) _) HB4.out⟩
end Go.Proofs.Ytllahgcifichbaa



namespace Go.Proofs.Ytllahgcifichbaa
open Go.ChangeShapes Go.WideShapes Go.ChangeAt Go.RowKit
set_option linter.unusedVariables false
set_option linter.unusedSimpArgs false
set_option maxRecDepth 100000

/-! ### the document's roots -/
theorem half12_any (s : Int) (h : -1099511627776 ≤ s ∧ s ≤ 1099511627776) (w : World) :
    Calls Try.prog 26 #[.int .i64 s] w fun e w' => e = .returned (.int .i64 (s / 2)) ∧ w' = w := by
  obtain ⟨q, hq⟩ : ∃ q, q = s.tdiv 2 := ⟨_, rfl⟩
  have hq2 := hq.symm
  have hx : (q = s / 2 ∧ decide (s < q * 2) = false) ∨ (q - 1 = s / 2 ∧ decide (s < q * 2) = true) := by
    by_cases h0 : 0 ≤ s
    · left
      rw [Int.tdiv_eq_ediv_of_nonneg h0] at hq
      exact ⟨hq, decide_eq_false (by omega)⟩
    · have e : s.tdiv 2 = -((-s) / 2) := by
        rw [← Int.tdiv_eq_ediv_of_nonneg (show 0 ≤ -s by omega), Int.neg_tdiv, Int.neg_neg]
      rw [e] at hq
      by_cases hp : s % 2 = 0
      · left; exact ⟨by omega, decide_eq_false (by omega)⟩
      · right; exact ⟨by omega, decide_eq_true (by omega)⟩
  have e1 : IntKind.i64.wrap (q * 2) = q * 2 := wrapI (by omega)
  have e2 : IntKind.i64.wrap (2 * q) = q * 2 := by rw [Int.mul_comm]; exact e1
  have e3 : IntKind.i64.wrap (q - 1) = q - 1 := wrapI (by omega)
  have e4 : IntKind.i64.wrap q = q := wrapI (by omega)
  refine cps fun Q hQ => ?_
  rcases hx with ⟨hx, hd⟩ | ⟨hx, hd⟩
  · rw [← hx] at hQ
    have hd2 : decide (s < 2 * q) = false := by rw [Int.mul_comm]; exact hd
    clear hx hq h
    go_enter Try.func26, Try.ntmps26
    go_wp2
    all_goals exact hQ.out _ _ ⟨rfl, rfl⟩
  · rw [← hx] at hQ
    have hd2 : decide (s < 2 * q) = true := by rw [Int.mul_comm]; exact hd
    clear hx hq h
    go_enter Try.func26, Try.ntmps26
    go_wp2
    all_goals exact hQ.out _ _ ⟨rfl, rfl⟩
theorem one_lit (w : World) : Row (w.alloc (.cells #[.int .i64 1] 3)) (.slice (some ⟨w.heap.size, 0, none⟩) 1 1) (dig 1) := by
  have hlit : (w.alloc (.cells #[.int .i64 1] 3)).ownsRow w.heap.size 3 1 (.slice (some ⟨w.heap.size, 0, none⟩) 1 1) 1 [.int .i64 1] := World.ownsRow_lit w #[.int .i64 1] 1 (Nat.le_refl _) (by decide) rfl
  have h1 : dig 1 = [1] := by unfold dig; simp [dig_zero]
  rw [h1]
  exact row_own (l := [1]) hlit
theorem rt_exact {m : Nat} (h1 : 2 ^ 140 ≤ m) (h2 : m < 2 ^ 142) (h : Int) (hh : -1099511627776 ≤ h ∧ h ≤ 1099511627776) :
    exactV false (rtN m) (h - 70) false = exV 1 false h (rtH m) (rtN m % 2 ^ 7 * 2 ^ 57) false := by
  obtain ⟨a, b, c⟩ := rt_words h1 h2
  have hb : blen (rtN m) = 71 := blen_at (m := 70) a b
  have hn : normN (rtN m) = rtN m * 2 ^ 57 := by unfold normN; rw [hb, if_pos (by decide)]
  have hl : lostN (rtN m) = false := by unfold lostN; rw [hb, decide_eq_false (by decide), Bool.false_and]
  have hx : heldX (h - 70 + ((71 : Nat) : Int) - 1) = h := by unfold heldX; rw [if_neg (by omega), if_neg (by omega)]; omega
  unfold exactV
  have h0 : rtN m ≠ 0 := by
    have : 0 < 2 ^ 70 := by decide
    omega
  rw [if_neg h0, hb, hn, hl, hx]
  have e1 : rtN m * 2 ^ 57 / 2 ^ 64 % 2 ^ 64 = rtH m := by
    rw [show (2 : Nat) ^ 64 = 2 ^ 7 * 2 ^ 57 by rw [← Nat.pow_add], Nat.mul_div_mul_right _ _ (Nat.pow_pos (by decide)), ← Nat.pow_add]
    exact Nat.mod_eq_of_lt c.hi64
  have e2 : rtN m * 2 ^ 57 % 2 ^ 64 = rtN m % 2 ^ 7 * 2 ^ 57 := by
    rw [show (2 : Nat) ^ 64 = 2 ^ 7 * 2 ^ 57 by rw [← Nat.pow_add], Nat.mul_mod_mul_right]
  rw [e1, e2]
  rfl
theorem rt_rest {m : Nat} (h2 : m < 2 ^ 142) (xr : Bool) : (((false || decide (rtN m % 2 ^ 7 * 2 ^ 57 ≠ 0)) || decide (rtN m * rtN m ≠ m)) || xr) = (rtR m || xr) := by
  rw [← rtR_eq h2, Bool.false_or]
  congr 2
  refine decide_eq_decide.2 ?_
  constructor
  · intro h c; exact h (by rw [c])
  · intro h c
    exact h ((Nat.mul_eq_zero.1 c).resolve_right (by decide))
theorem row7 {w : World} {m : Nat} {u0 u1 u2 u3 u4 u5 v0 v1 v2 v3 v4 v5 v : Value} {t : TypeId} (h : w.heap[m]? = some (.cells #[u0, u1, u2, u3, u4, u5] t (0, 0))) :
    (((((((w.setCell ⟨m, 0, none⟩ v0).setCell ⟨m, 1, none⟩ v1).setCell ⟨m, 2, none⟩ v2).setCell ⟨m, 3, none⟩ v3).setCell ⟨m, 4, none⟩ v4).setCell ⟨m, 5, none⟩ v5).setCell ⟨m, 5, none⟩ v).heap[m]? = some (.cells #[v0, v1, v2, v3, v4, v] t (0, 0)) := by
  have h := rowset h 0 v0
  simp only [List.setIfInBounds_toArray, List.set_cons_zero, List.set_cons_succ] at h
  have h := rowset h 1 v1
  simp only [List.setIfInBounds_toArray, List.set_cons_zero, List.set_cons_succ] at h
  have h := rowset h 2 v2
  simp only [List.setIfInBounds_toArray, List.set_cons_zero, List.set_cons_succ] at h
  have h := rowset h 3 v3
  simp only [List.setIfInBounds_toArray, List.set_cons_zero, List.set_cons_succ] at h
  have h := rowset h 4 v4
  simp only [List.setIfInBounds_toArray, List.set_cons_zero, List.set_cons_succ] at h
  have h := rowset h 5 v5
  simp only [List.setIfInBounds_toArray, List.set_cons_zero, List.set_cons_succ] at h
  have h := rowset h 5 v
  simp only [List.setIfInBounds_toArray, List.set_cons_zero, List.set_cons_succ] at h
  exact h
theorem bset7 {B : Nat} {a W : World} {m : Nat} {v0 v1 v2 v3 v4 v5 v : Value} (h : Below B a W) (hb : B ≤ m) :
    Below B a (((((((W.setCell ⟨m, 0, none⟩ v0).setCell ⟨m, 1, none⟩ v1).setCell ⟨m, 2, none⟩ v2).setCell ⟨m, 3, none⟩ v3).setCell ⟨m, 4, none⟩ v4).setCell ⟨m, 5, none⟩ v5).setCell ⟨m, 5, none⟩ v) :=
  ((((((h.setCell hb _).setCell hb _).setCell hb _).setCell hb _).setCell hb _).setCell hb _).setCell hb _
theorem row7' {w W7 : World} {m : Nat} {u0 u1 u2 u3 u4 u5 v0 v1 v2 v3 v4 v5 v : Value} {t : TypeId} (e : ((((((w.setCell ⟨m, 0, none⟩ v0).setCell ⟨m, 1, none⟩ v1).setCell ⟨m, 2, none⟩ v2).setCell ⟨m, 3, none⟩ v3).setCell ⟨m, 4, none⟩ v4).setCell ⟨m, 5, none⟩ v5).setCell ⟨m, 5, none⟩ v = W7) (h : w.heap[m]? = some (.cells #[u0, u1, u2, u3, u4, u5] t (0, 0))) :
    W7.heap[m]? = some (.cells #[v0, v1, v2, v3, v4, v] t (0, 0)) := e ▸ row7 h
theorem bset7' {w W7 : World} {m : Nat} {v0 v1 v2 v3 v4 v5 v : Value} (e : ((((((w.setCell ⟨m, 0, none⟩ v0).setCell ⟨m, 1, none⟩ v1).setCell ⟨m, 2, none⟩ v2).setCell ⟨m, 3, none⟩ v3).setCell ⟨m, 4, none⟩ v4).setCell ⟨m, 5, none⟩ v5).setCell ⟨m, 5, none⟩ v = W7) : Below m w W7 := e ▸ bset7 (Below.refl _ _) (Nat.le_refl _)
theorem rtF_yes {m r i more : Nat} {x : Nat} (h1 : more = r + 2 ^ i) (h2 : more * more ≤ m) (h : rtF m r (i + 1) = x) : rtF m more i = x := by
  unfold rtF at h; rw [← h1, if_pos h2] at h; exact h
theorem rtF_no {m r i more : Nat} {x : Nat} (h1 : more = r + 2 ^ i) (h2 : m < more * more) (h : rtF m r (i + 1) = x) : rtF m r i = x := by
  unfold rtF at h; rw [← h1, if_neg (by omega)] at h; exact h
set_option maxHeartbeats 2000000 in
theorem exact12_bad (k : Int) (neg : Bool) (s : Int) (hi lo : Nat) (rest : Bool) (h1 : soundX k neg s hi lo rest = false) (w : World) :
    Calls Try.prog 9 #[exV k neg s hi lo rest] w fun e w' => e = .returned (.tuple #[exV 0 false 0 0 0 false, .int .i64 1]) ∧ Below w.heap.size w w' := by
  have k1 := sound7_any k neg s hi lo rest
  rw [h1] at k1
  clear h1
  unfold exV at *
  rw [show ((0 : Nat) : Int) = 0 from rfl] at *
  refine cps fun Q hQ => ?_
  go_enter Try.func9, Try.ntmps9
  go_wp2_with (first
    | (go_at_call 25; go_must (refine (k1 _).mono ?_); rintro e w1 ⟨rfl, hb1⟩; have R1_0 := (hb1.block (w.heap.size) (by first | (simp; done) | (simp; omega) | omega)).trans ((Below.heap_alloc _ _ _ (by first | (simp; done) | (simp; omega) | omega)).trans (rownew' _ _ _ _ (by simp))); have z1_0 : w.heap.size < w1.heap.size := Nat.lt_of_lt_of_le (by first | (simp; done) | (simp; omega) | omega) hb1.size; have c1_0_0 := rowcell R1_0 0; have c1_0_1 := rowcell R1_0 1; simp only [List.getElem?_toArray, List.getElem?_cons_zero, List.getElem?_cons_succ] at c1_0_0 c1_0_1; have HR1_0 : Hid _ := R1_0; clear R1_0; have R1_1 := (hb1.block (w.heap.size + 1) (by first | (simp; done) | (simp; omega) | omega)).trans (rownew' _ _ _ _ (by simp)); have z1_1 : w.heap.size + 1 < w1.heap.size := Nat.lt_of_lt_of_le (by first | (simp; done) | (simp; omega) | omega) hb1.size; have c1_1_0 := rowcell R1_1 0; have c1_1_1 := rowcell R1_1 1; have c1_1_2 := rowcell R1_1 2; have c1_1_3 := rowcell R1_1 3; have c1_1_4 := rowcell R1_1 4; have c1_1_5 := rowcell R1_1 5; simp only [List.getElem?_toArray, List.getElem?_cons_zero, List.getElem?_cons_succ] at c1_1_0 c1_1_1 c1_1_2 c1_1_3 c1_1_4 c1_1_5; have rf := rowfree R1_1; have HR1_1 : Hid _ := R1_1; clear R1_1; have HB1 : Hid (Below _ _ _) := hb1; clear hb1))
  all_goals
    refine bodyPost_ret (v := .tuple #[.agg #[.int .i64 0, .bool false, .int .i64 0, .int .u64 0, .int .u64 0, .bool false], .int .i64 1]) (by simp [results, Try.results9, go_sem, rf, z1_1, c1_1_0, c1_1_1, c1_1_2, c1_1_3, c1_1_4, c1_1_5]) rfl (hQ.out _ _ ⟨by simp, ?_⟩)
    exact cset6 (cthen (cmore (cmore (Below.refl _ _) _) _) HB1.out) (by omega)
set_option maxHeartbeats 2000000 in
theorem exact12_nar1 (k : Int) (neg : Bool) (s : Int) (hi lo : Nat) (rest : Bool) (h1 : soundX k neg s hi lo rest = true) (hk : k = 2) (w : World) :
    Calls Try.prog 9 #[exV k neg s hi lo rest] w fun e w' => e = .returned (.tuple #[exV 2 false 0 0 0 false, .int .i64 0]) ∧ Below w.heap.size w w' := by
  have k1 := sound7_any k neg s hi lo rest
  rw [h1] at k1
  clear h1
  subst hk
  unfold exV at *
  rw [show ((0 : Nat) : Int) = 0 from rfl] at *
  refine cps fun Q hQ => ?_
  go_enter Try.func9, Try.ntmps9
  go_wp2_with (first
    | (go_at_call 25; go_must (refine (k1 _).mono ?_); rintro e w1 ⟨rfl, hb1⟩; have R1_0 := (hb1.block (w.heap.size) (by first | (simp; done) | (simp; omega) | omega)).trans ((Below.heap_alloc _ _ _ (by first | (simp; done) | (simp; omega) | omega)).trans (rownew' _ _ _ _ (by simp))); have z1_0 : w.heap.size < w1.heap.size := Nat.lt_of_lt_of_le (by first | (simp; done) | (simp; omega) | omega) hb1.size; have c1_0_0 := rowcell R1_0 0; have c1_0_1 := rowcell R1_0 1; simp only [List.getElem?_toArray, List.getElem?_cons_zero, List.getElem?_cons_succ] at c1_0_0 c1_0_1; have HR1_0 : Hid _ := R1_0; clear R1_0; have R1_1 := (hb1.block (w.heap.size + 1) (by first | (simp; done) | (simp; omega) | omega)).trans (rownew' _ _ _ _ (by simp)); have z1_1 : w.heap.size + 1 < w1.heap.size := Nat.lt_of_lt_of_le (by first | (simp; done) | (simp; omega) | omega) hb1.size; have c1_1_0 := rowcell R1_1 0; have c1_1_1 := rowcell R1_1 1; have c1_1_2 := rowcell R1_1 2; have c1_1_3 := rowcell R1_1 3; have c1_1_4 := rowcell R1_1 4; have c1_1_5 := rowcell R1_1 5; simp only [List.getElem?_toArray, List.getElem?_cons_zero, List.getElem?_cons_succ] at c1_1_0 c1_1_1 c1_1_2 c1_1_3 c1_1_4 c1_1_5; have rf := rowfree R1_1; have HR1_1 : Hid _ := R1_1; clear R1_1; have HB1 : Hid (Below _ _ _) := hb1; clear hb1))
  all_goals
    refine bodyPost_ret (v := .tuple #[.agg #[.int .i64 2, .bool false, .int .i64 0, .int .u64 0, .int .u64 0, .bool false], .int .i64 0]) (by simp [results, Try.results9, go_sem, rf, z1_1, c1_1_0, c1_1_1, c1_1_2, c1_1_3, c1_1_4, c1_1_5]) rfl (hQ.out _ _ ⟨by simp, ?_⟩)
    exact cset6 (cthen (cmore (cmore (Below.refl _ _) _) _) HB1.out) (by omega)
set_option maxHeartbeats 2000000 in
theorem exact12_nar2 (k : Int) (neg : Bool) (s : Int) (hi lo : Nat) (rest : Bool) (h1 : soundX k neg s hi lo rest = true) (hk : k ≠ 2) (hn : neg = true) (w : World) :
    Calls Try.prog 9 #[exV k neg s hi lo rest] w fun e w' => e = .returned (.tuple #[exV 2 false 0 0 0 false, .int .i64 0]) ∧ Below w.heap.size w w' := by
  have k1 := sound7_any k neg s hi lo rest
  rw [h1] at k1
  have d0 : (k == 2) = false := beq_eq_false_iff_ne.2 hk
  clear h1 hk
  subst hn
  unfold exV at *
  rw [show ((0 : Nat) : Int) = 0 from rfl] at *
  refine cps fun Q hQ => ?_
  go_enter Try.func9, Try.ntmps9
  go_wp2_with (first
    | (go_at_call 25; go_must (refine (k1 _).mono ?_); rintro e w1 ⟨rfl, hb1⟩; have R1_0 := (hb1.block (w.heap.size) (by first | (simp; done) | (simp; omega) | omega)).trans ((Below.heap_alloc _ _ _ (by first | (simp; done) | (simp; omega) | omega)).trans (rownew' _ _ _ _ (by simp))); have z1_0 : w.heap.size < w1.heap.size := Nat.lt_of_lt_of_le (by first | (simp; done) | (simp; omega) | omega) hb1.size; have c1_0_0 := rowcell R1_0 0; have c1_0_1 := rowcell R1_0 1; simp only [List.getElem?_toArray, List.getElem?_cons_zero, List.getElem?_cons_succ] at c1_0_0 c1_0_1; have HR1_0 : Hid _ := R1_0; clear R1_0; have R1_1 := (hb1.block (w.heap.size + 1) (by first | (simp; done) | (simp; omega) | omega)).trans (rownew' _ _ _ _ (by simp)); have z1_1 : w.heap.size + 1 < w1.heap.size := Nat.lt_of_lt_of_le (by first | (simp; done) | (simp; omega) | omega) hb1.size; have c1_1_0 := rowcell R1_1 0; have c1_1_1 := rowcell R1_1 1; have c1_1_2 := rowcell R1_1 2; have c1_1_3 := rowcell R1_1 3; have c1_1_4 := rowcell R1_1 4; have c1_1_5 := rowcell R1_1 5; simp only [List.getElem?_toArray, List.getElem?_cons_zero, List.getElem?_cons_succ] at c1_1_0 c1_1_1 c1_1_2 c1_1_3 c1_1_4 c1_1_5; have rf := rowfree R1_1; have HR1_1 : Hid _ := R1_1; clear R1_1; have HB1 : Hid (Below _ _ _) := hb1; clear hb1))
  all_goals
    refine bodyPost_ret (v := .tuple #[.agg #[.int .i64 2, .bool false, .int .i64 0, .int .u64 0, .int .u64 0, .bool false], .int .i64 0]) (by simp [results, Try.results9, go_sem, rf, z1_1, c1_1_0, c1_1_1, c1_1_2, c1_1_3, c1_1_4, c1_1_5]) rfl (hQ.out _ _ ⟨by simp, ?_⟩)
    exact cset6 (cthen (cmore (cmore (Below.refl _ _) _) _) HB1.out) (by omega)
set_option maxHeartbeats 2000000 in
theorem exact12_zero (k : Int) (neg : Bool) (s : Int) (hi lo : Nat) (rest : Bool) (h1 : soundX k neg s hi lo rest = true) (hk : k = 0) (hn : neg = false) (w : World) :
    Calls Try.prog 9 #[exV k neg s hi lo rest] w fun e w' => e = .returned (.tuple #[exV 0 false 0 0 0 false, .int .i64 0]) ∧ Below w.heap.size w w' := by
  subst hk hn
  have k1 := sound7_any 0 false s hi lo rest
  rw [h1] at k1
  clear h1
  unfold exV at *
  rw [show ((0 : Nat) : Int) = 0 from rfl] at *
  refine cps fun Q hQ => ?_
  go_enter Try.func9, Try.ntmps9
  go_wp2_with (first
    | (go_at_call 25; go_must (refine (k1 _).mono ?_); rintro e w1 ⟨rfl, hb1⟩; have R1_0 := (hb1.block (w.heap.size) (by first | (simp; done) | (simp; omega) | omega)).trans ((Below.heap_alloc _ _ _ (by first | (simp; done) | (simp; omega) | omega)).trans (rownew' _ _ _ _ (by simp))); have z1_0 : w.heap.size < w1.heap.size := Nat.lt_of_lt_of_le (by first | (simp; done) | (simp; omega) | omega) hb1.size; have c1_0_0 := rowcell R1_0 0; have c1_0_1 := rowcell R1_0 1; simp only [List.getElem?_toArray, List.getElem?_cons_zero, List.getElem?_cons_succ] at c1_0_0 c1_0_1; have HR1_0 : Hid _ := R1_0; clear R1_0; have R1_1 := (hb1.block (w.heap.size + 1) (by first | (simp; done) | (simp; omega) | omega)).trans (rownew' _ _ _ _ (by simp)); have z1_1 : w.heap.size + 1 < w1.heap.size := Nat.lt_of_lt_of_le (by first | (simp; done) | (simp; omega) | omega) hb1.size; have c1_1_0 := rowcell R1_1 0; have c1_1_1 := rowcell R1_1 1; have c1_1_2 := rowcell R1_1 2; have c1_1_3 := rowcell R1_1 3; have c1_1_4 := rowcell R1_1 4; have c1_1_5 := rowcell R1_1 5; simp only [List.getElem?_toArray, List.getElem?_cons_zero, List.getElem?_cons_succ] at c1_1_0 c1_1_1 c1_1_2 c1_1_3 c1_1_4 c1_1_5; have rf := rowfree R1_1; have HR1_1 : Hid _ := R1_1; clear R1_1; have HB1 : Hid (Below _ _ _) := hb1; clear hb1))
  all_goals
    refine bodyPost_ret (v := .tuple #[.agg #[.int .i64 0, .bool false, .int .i64 0, .int .u64 0, .int .u64 0, .bool false], .int .i64 0]) (by simp [results, Try.results9, go_sem, rf, z1_1, c1_1_0, c1_1_1, c1_1_2, c1_1_3, c1_1_4, c1_1_5]) rfl (hQ.out _ _ ⟨by simp, ?_⟩)
    exact cset6 (cthen (cmore (cmore (Below.refl _ _) _) _) HB1.out) (by omega)
end Go.Proofs.Ytllahgcifichbaa
