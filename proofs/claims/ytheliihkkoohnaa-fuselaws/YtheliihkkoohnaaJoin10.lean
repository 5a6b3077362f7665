import Derived.Test.YtheliihkkoohnaaJoin9
import Derived.Test.YtheliihkkoohnaaJoin6
namespace Go.Proofs.Ytheliihkkoohnaa
open Go.ChangeShapes Go.WideShapes Go.ChangeAt Go.RowKit
set_option linter.unusedVariables false
set_option linter.unusedSimpArgs false
set_option maxRecDepth 100000

theorem sreals_any (neg : Bool) (s : Int) (f : Nat) (neg' : Bool) (s' : Int) (g : Nat) (hf : f < 2 ^ 64) (hg : g < 2 ^ 64) (h1 : soundN 1 neg s f = true) (h2 : soundN 1 neg' s' g = true) (w : World) :
    Calls Try.prog 53 #[numV 1 neg s f, numV 1 neg' s' g] w fun e w' => e = .returned (sumR neg s (manX f 0) neg' s' (manX g 0)) ∧ Below w.heap.size w w' := by
  unfold soundN at h1 h2
  rw [if_neg (by decide)] at h1 h2
  obtain ⟨_, f1, s1, s2⟩ := of_decide_eq_true h1
  obtain ⟨_, g1, t1, t2⟩ := of_decide_eq_true h2
  by_cases c : s < s' ∨ (s = s' ∧ f < g)
  · have hle : s ≤ s' := by omega
    have hw := (sreals_up neg' s' g neg s f g1 (by omega) f1 (by omega) ⟨t1, t2⟩ ⟨s1, s2⟩ hle (fun h => by omega) w).2 (fun h => by omega)
    rw [← sumD_words neg' s' g neg s f g1 (by omega) f1 (by omega) hle (fun h => by omega)] at hw
    have e : sumR neg s (manX f 0) neg' s' (manX g 0) = sumD neg' s' (manX g 0) neg s (manX f 0) := by
      unfold sumR
      by_cases c2 : s < s'
      · rw [if_pos c2]
      · rw [if_neg c2]
        obtain rfl : s = s' := by omega
        have hM : Mant (manX f 0) := by rw [man_frac]; unfold Mant; omega
        have hM' : Mant (manX g 0) := by rw [man_frac]; unfold Mant; omega
        rw [sumD_int neg s _ neg' s _ hM hM' (Int.le_refl _) s 0 0 (by omega) (by omega), sumD_int neg' s _ neg s _ hM' hM (Int.le_refl _) s 0 0 (by omega) (by omega), Int.add_comm]
    rw [e]
    exact hw
  · have hle : s' ≤ s := by omega
    have hw := (sreals_up neg s f neg' s' g f1 (by omega) g1 (by omega) ⟨s1, s2⟩ ⟨t1, t2⟩ hle (fun h => by omega) w).1 (fun h => by omega)
    rw [← sumD_words neg s f neg' s' g f1 (by omega) g1 (by omega) hle (fun h => by omega)] at hw
    have e : sumR neg s (manX f 0) neg' s' (manX g 0) = sumD neg s (manX f 0) neg' s' (manX g 0) := by
      unfold sumR; rw [if_neg (by omega)]
    rw [e]
    exact hw
/-! ### Exact -/
theorem ssum_a1 (k : Int) (neg : Bool) (s : Int) (f : Nat) (k' : Int) (neg' : Bool) (s' : Int) (g : Nat) (hf : f < 2 ^ 64) (hg : g < 2 ^ 64) (h1 : soundN k neg s f = true) (h2 : soundN k' neg' s' g = true) (hk : k = 2) (w : World) :
    Calls Try.prog 29 #[numV k neg s f, numV k' neg' s' g] w fun e w' => e = .returned (.tuple #[exV k neg s f 0 false, .nilIface]) ∧ Below w.heap.size w w' := by
  have k1 := rndof_ok k neg s f hf h1
  have k2 := rndof_ok k' neg' s' g hg h2
  have d1 : (k == 2) = true := by rw [hk]; rfl
  clear hk
  unfold numV exV at *
  rw [show ((0 : Nat) : Int) = 0 from rfl] at *
  refine cps fun Q hQ => ?_
  go_enter Try.func29, Try.ntmps29
  go_wp2_with (first
    | (go_at_call 28; have chk := HB1; go_must (refine (k2 _).mono ?_); rintro e w2 ⟨rfl, hb2⟩; have R2_0 := (hb2.block (w.heap.size) (by first | (simp; done) | (simp; omega) | omega)).trans ((Below.heap_alloc _ _ _ (by first | (simp; done) | (simp; omega) | omega)).trans HR1_0.out); have z2_0 : w.heap.size < w2.heap.size := Nat.lt_of_lt_of_le (by first | (simp; done) | (simp; omega) | omega) hb2.size; have c2_0_0 := rowcell R2_0 0; have c2_0_1 := rowcell R2_0 1; have c2_0_2 := rowcell R2_0 2; have c2_0_3 := rowcell R2_0 3; simp only [List.getElem?_toArray, List.getElem?_cons_zero, List.getElem?_cons_succ] at c2_0_0 c2_0_1 c2_0_2 c2_0_3; have HR2_0 : Hid _ := R2_0; clear R2_0; have R2_1 := (hb2.block (w.heap.size + 1) (by first | (simp; done) | (simp; omega) | omega)).trans ((Below.heap_alloc _ _ _ (by first | (simp; done) | (simp; omega) | omega)).trans HR1_1.out); have z2_1 : w.heap.size + 1 < w2.heap.size := Nat.lt_of_lt_of_le (by first | (simp; done) | (simp; omega) | omega) hb2.size; have c2_1_0 := rowcell R2_1 0; have c2_1_1 := rowcell R2_1 1; have c2_1_2 := rowcell R2_1 2; have c2_1_3 := rowcell R2_1 3; simp only [List.getElem?_toArray, List.getElem?_cons_zero, List.getElem?_cons_succ] at c2_1_0 c2_1_1 c2_1_2 c2_1_3; have HR2_1 : Hid _ := R2_1; clear R2_1; have R2_2 := (hb2.block (w.heap.size + 1 + 1) (by first | (simp; done) | (simp; omega) | omega)).trans ((Below.heap_alloc _ _ _ (by first | (simp; done) | (simp; omega) | omega)).trans HR1_2.out); have z2_2 : w.heap.size + 1 + 1 < w2.heap.size := Nat.lt_of_lt_of_le (by first | (simp; done) | (simp; omega) | omega) hb2.size; have c2_2_0 := rowcell R2_2 0; have c2_2_1 := rowcell R2_2 1; have c2_2_2 := rowcell R2_2 2; have c2_2_3 := rowcell R2_2 3; have c2_2_4 := rowcell R2_2 4; have c2_2_5 := rowcell R2_2 5; simp only [List.getElem?_toArray, List.getElem?_cons_zero, List.getElem?_cons_succ] at c2_2_0 c2_2_1 c2_2_2 c2_2_3 c2_2_4 c2_2_5; have HR2_2 : Hid _ := R2_2; clear R2_2; have R2_3 := (hb2.block (w1.heap.size) (by first | (simp; done) | (simp; omega) | omega)).trans (rownew' _ _ _ _ (by simp)); have z2_3 : w1.heap.size < w2.heap.size := Nat.lt_of_lt_of_le (by first | (simp; done) | (simp; omega) | omega) hb2.size; have c2_3_0 := rowcell R2_3 0; have c2_3_1 := rowcell R2_3 1; have c2_3_2 := rowcell R2_3 2; have c2_3_3 := rowcell R2_3 3; have c2_3_4 := rowcell R2_3 4; have c2_3_5 := rowcell R2_3 5; simp only [List.getElem?_toArray, List.getElem?_cons_zero, List.getElem?_cons_succ] at c2_3_0 c2_3_1 c2_3_2 c2_3_3 c2_3_4 c2_3_5; have HR2_3 : Hid _ := R2_3; clear R2_3; have HB2 : Hid (Below _ _ _) := hb2; clear hb2; have g2 := rowfree HR2_2.out)
    | (go_at_call 28; go_must (refine (k1 _).mono ?_); rintro e w1 ⟨rfl, hb1⟩; have R1_0 := (hb1.block (w.heap.size) (by first | (simp; done) | (simp; omega) | omega)).trans ((Below.heap_alloc _ _ _ (by first | (simp; done) | (simp; omega) | omega)).trans ((Below.heap_alloc _ _ _ (by first | (simp; done) | (simp; omega) | omega)).trans (rownew' _ _ _ _ (by simp)))); have z1_0 : w.heap.size < w1.heap.size := Nat.lt_of_lt_of_le (by first | (simp; done) | (simp; omega) | omega) hb1.size; have HR1_0 : Hid _ := R1_0; clear R1_0; have R1_1 := (hb1.block (w.heap.size + 1) (by first | (simp; done) | (simp; omega) | omega)).trans ((Below.heap_alloc _ _ _ (by first | (simp; done) | (simp; omega) | omega)).trans (rownew' _ _ _ _ (by simp))); have z1_1 : w.heap.size + 1 < w1.heap.size := Nat.lt_of_lt_of_le (by first | (simp; done) | (simp; omega) | omega) hb1.size; have c1_1_0 := rowcell R1_1 0; have c1_1_1 := rowcell R1_1 1; have c1_1_2 := rowcell R1_1 2; have c1_1_3 := rowcell R1_1 3; simp only [List.getElem?_toArray, List.getElem?_cons_zero, List.getElem?_cons_succ] at c1_1_0 c1_1_1 c1_1_2 c1_1_3; have HR1_1 : Hid _ := R1_1; clear R1_1; have R1_2 := (hb1.block (w.heap.size + 1 + 1) (by first | (simp; done) | (simp; omega) | omega)).trans (rownew' _ _ _ _ (by simp)); have z1_2 : w.heap.size + 1 + 1 < w1.heap.size := Nat.lt_of_lt_of_le (by first | (simp; done) | (simp; omega) | omega) hb1.size; have c1_2_0 := rowcell R1_2 0; have c1_2_1 := rowcell R1_2 1; have c1_2_2 := rowcell R1_2 2; have c1_2_3 := rowcell R1_2 3; have c1_2_4 := rowcell R1_2 4; have c1_2_5 := rowcell R1_2 5; simp only [List.getElem?_toArray, List.getElem?_cons_zero, List.getElem?_cons_succ] at c1_2_0 c1_2_1 c1_2_2 c1_2_3 c1_2_4 c1_2_5; have HR1_2 : Hid _ := R1_2; clear R1_2; have HB1 : Hid (Below _ _ _) := hb1; clear hb1; have f2 := rowfree HR1_2.out))
  refine bodyPost_ret (v := .tuple #[.agg #[.int .i64 k, .bool neg, .int .i64 s, .int .u64 f, .int .u64 0, .bool false], .nilIface]) (by simp [results, Try.results29, go_sem, c2_2_0, c2_2_1, c2_2_2, c2_2_3, c2_2_4, c2_2_5, g2, z2_2]; done) rfl (hQ.out _ _ ⟨rfl, ?_⟩)
  first | exact cmore (cset6 (cthen (cmore (cthen (cmore (cmore (cmore (Below.refl _ _) _) _) _) HB1.out) _) HB2.out) (by omega)) _ | exact cset6 (cmore (cthen (cmore (cthen (cmore (cmore (cmore (Below.refl _ _) _) _) _) HB1.out) _) HB2.out) _) (by omega)
theorem ssum_a2 (k : Int) (neg : Bool) (s : Int) (f : Nat) (k' : Int) (neg' : Bool) (s' : Int) (g : Nat) (hf : f < 2 ^ 64) (hg : g < 2 ^ 64) (h1 : soundN k neg s f = true) (h2 : soundN k' neg' s' g = true) (hk : k ≠ 2) (hk' : k' = 0) (w : World) :
    Calls Try.prog 29 #[numV k neg s f, numV k' neg' s' g] w fun e w' => e = .returned (.tuple #[exV k neg s f 0 false, .nilIface]) ∧ Below w.heap.size w w' := by
  have k1 := rndof_ok k neg s f hf h1
  have k2 := rndof_ok k' neg' s' g hg h2
  have d1 : (k == 2) = false := beq_eq_false_iff_ne.2 hk
  have d2 : (k' == 0) = true := by rw [hk']; rfl
  clear hk hk'
  unfold numV exV at *
  rw [show ((0 : Nat) : Int) = 0 from rfl] at *
  refine cps fun Q hQ => ?_
  go_enter Try.func29, Try.ntmps29
  go_wp2_with (first
    | (go_at_call 28; have chk := HB1; go_must (refine (k2 _).mono ?_); rintro e w2 ⟨rfl, hb2⟩; have R2_0 := (hb2.block (w.heap.size) (by first | (simp; done) | (simp; omega) | omega)).trans ((Below.heap_alloc _ _ _ (by first | (simp; done) | (simp; omega) | omega)).trans HR1_0.out); have z2_0 : w.heap.size < w2.heap.size := Nat.lt_of_lt_of_le (by first | (simp; done) | (simp; omega) | omega) hb2.size; have c2_0_0 := rowcell R2_0 0; have c2_0_1 := rowcell R2_0 1; have c2_0_2 := rowcell R2_0 2; have c2_0_3 := rowcell R2_0 3; simp only [List.getElem?_toArray, List.getElem?_cons_zero, List.getElem?_cons_succ] at c2_0_0 c2_0_1 c2_0_2 c2_0_3; have HR2_0 : Hid _ := R2_0; clear R2_0; have R2_1 := (hb2.block (w.heap.size + 1) (by first | (simp; done) | (simp; omega) | omega)).trans ((Below.heap_alloc _ _ _ (by first | (simp; done) | (simp; omega) | omega)).trans HR1_1.out); have z2_1 : w.heap.size + 1 < w2.heap.size := Nat.lt_of_lt_of_le (by first | (simp; done) | (simp; omega) | omega) hb2.size; have c2_1_0 := rowcell R2_1 0; have c2_1_1 := rowcell R2_1 1; have c2_1_2 := rowcell R2_1 2; have c2_1_3 := rowcell R2_1 3; simp only [List.getElem?_toArray, List.getElem?_cons_zero, List.getElem?_cons_succ] at c2_1_0 c2_1_1 c2_1_2 c2_1_3; have HR2_1 : Hid _ := R2_1; clear R2_1; have R2_2 := (hb2.block (w.heap.size + 1 + 1) (by first | (simp; done) | (simp; omega) | omega)).trans ((Below.heap_alloc _ _ _ (by first | (simp; done) | (simp; omega) | omega)).trans HR1_2.out); have z2_2 : w.heap.size + 1 + 1 < w2.heap.size := Nat.lt_of_lt_of_le (by first | (simp; done) | (simp; omega) | omega) hb2.size; have c2_2_0 := rowcell R2_2 0; have c2_2_1 := rowcell R2_2 1; have c2_2_2 := rowcell R2_2 2; have c2_2_3 := rowcell R2_2 3; have c2_2_4 := rowcell R2_2 4; have c2_2_5 := rowcell R2_2 5; simp only [List.getElem?_toArray, List.getElem?_cons_zero, List.getElem?_cons_succ] at c2_2_0 c2_2_1 c2_2_2 c2_2_3 c2_2_4 c2_2_5; have HR2_2 : Hid _ := R2_2; clear R2_2; have R2_3 := (hb2.block (w1.heap.size) (by first | (simp; done) | (simp; omega) | omega)).trans (rownew' _ _ _ _ (by simp)); have z2_3 : w1.heap.size < w2.heap.size := Nat.lt_of_lt_of_le (by first | (simp; done) | (simp; omega) | omega) hb2.size; have c2_3_0 := rowcell R2_3 0; have c2_3_1 := rowcell R2_3 1; have c2_3_2 := rowcell R2_3 2; have c2_3_3 := rowcell R2_3 3; have c2_3_4 := rowcell R2_3 4; have c2_3_5 := rowcell R2_3 5; simp only [List.getElem?_toArray, List.getElem?_cons_zero, List.getElem?_cons_succ] at c2_3_0 c2_3_1 c2_3_2 c2_3_3 c2_3_4 c2_3_5; have HR2_3 : Hid _ := R2_3; clear R2_3; have HB2 : Hid (Below _ _ _) := hb2; clear hb2; have g2 := rowfree HR2_2.out)
    | (go_at_call 28; go_must (refine (k1 _).mono ?_); rintro e w1 ⟨rfl, hb1⟩; have R1_0 := (hb1.block (w.heap.size) (by first | (simp; done) | (simp; omega) | omega)).trans ((Below.heap_alloc _ _ _ (by first | (simp; done) | (simp; omega) | omega)).trans ((Below.heap_alloc _ _ _ (by first | (simp; done) | (simp; omega) | omega)).trans (rownew' _ _ _ _ (by simp)))); have z1_0 : w.heap.size < w1.heap.size := Nat.lt_of_lt_of_le (by first | (simp; done) | (simp; omega) | omega) hb1.size; have HR1_0 : Hid _ := R1_0; clear R1_0; have R1_1 := (hb1.block (w.heap.size + 1) (by first | (simp; done) | (simp; omega) | omega)).trans ((Below.heap_alloc _ _ _ (by first | (simp; done) | (simp; omega) | omega)).trans (rownew' _ _ _ _ (by simp))); have z1_1 : w.heap.size + 1 < w1.heap.size := Nat.lt_of_lt_of_le (by first | (simp; done) | (simp; omega) | omega) hb1.size; have c1_1_0 := rowcell R1_1 0; have c1_1_1 := rowcell R1_1 1; have c1_1_2 := rowcell R1_1 2; have c1_1_3 := rowcell R1_1 3; simp only [List.getElem?_toArray, List.getElem?_cons_zero, List.getElem?_cons_succ] at c1_1_0 c1_1_1 c1_1_2 c1_1_3; have HR1_1 : Hid _ := R1_1; clear R1_1; have R1_2 := (hb1.block (w.heap.size + 1 + 1) (by first | (simp; done) | (simp; omega) | omega)).trans (rownew' _ _ _ _ (by simp)); have z1_2 : w.heap.size + 1 + 1 < w1.heap.size := Nat.lt_of_lt_of_le (by first | (simp; done) | (simp; omega) | omega) hb1.size; have c1_2_0 := rowcell R1_2 0; have c1_2_1 := rowcell R1_2 1; have c1_2_2 := rowcell R1_2 2; have c1_2_3 := rowcell R1_2 3; have c1_2_4 := rowcell R1_2 4; have c1_2_5 := rowcell R1_2 5; simp only [List.getElem?_toArray, List.getElem?_cons_zero, List.getElem?_cons_succ] at c1_2_0 c1_2_1 c1_2_2 c1_2_3 c1_2_4 c1_2_5; have HR1_2 : Hid _ := R1_2; clear R1_2; have HB1 : Hid (Below _ _ _) := hb1; clear hb1; have f2 := rowfree HR1_2.out))
  refine bodyPost_ret (v := .tuple #[.agg #[.int .i64 k, .bool neg, .int .i64 s, .int .u64 f, .int .u64 0, .bool false], .nilIface]) (by simp [results, Try.results29, go_sem, c2_2_0, c2_2_1, c2_2_2, c2_2_3, c2_2_4, c2_2_5, g2, z2_2]; done) rfl (hQ.out _ _ ⟨rfl, ?_⟩)
  first | exact cmore (cset6 (cthen (cmore (cthen (cmore (cmore (cmore (Below.refl _ _) _) _) _) HB1.out) _) HB2.out) (by omega)) _ | exact cset6 (cmore (cthen (cmore (cthen (cmore (cmore (cmore (Below.refl _ _) _) _) _) HB1.out) _) HB2.out) _) (by omega)
theorem ssum_b1 (k : Int) (neg : Bool) (s : Int) (f : Nat) (k' : Int) (neg' : Bool) (s' : Int) (g : Nat) (hf : f < 2 ^ 64) (hg : g < 2 ^ 64) (h1 : soundN k neg s f = true) (h2 : soundN k' neg' s' g = true) (hk : k ≠ 2) (hk' : k' ≠ 0) (hk2 : k' = 2) (w : World) :
    Calls Try.prog 29 #[numV k neg s f, numV k' neg' s' g] w fun e w' => e = .returned (.tuple #[exV k' neg' s' g 0 false, .nilIface]) ∧ Below w.heap.size w w' := by
  have k1 := rndof_ok k neg s f hf h1
  have k2 := rndof_ok k' neg' s' g hg h2
  have d1 : (k == 2) = false := beq_eq_false_iff_ne.2 hk
  have d2 : (k' == 0) = false := beq_eq_false_iff_ne.2 hk'
  have d3 : (k' == 2) = true := by rw [hk2]; rfl
  clear hk hk' hk2
  unfold numV exV at *
  rw [show ((0 : Nat) : Int) = 0 from rfl] at *
  refine cps fun Q hQ => ?_
  go_enter Try.func29, Try.ntmps29
  go_wp2_with (first
    | (go_at_call 28; have chk := HB1; go_must (refine (k2 _).mono ?_); rintro e w2 ⟨rfl, hb2⟩; have R2_0 := (hb2.block (w.heap.size) (by first | (simp; done) | (simp; omega) | omega)).trans ((Below.heap_alloc _ _ _ (by first | (simp; done) | (simp; omega) | omega)).trans HR1_0.out); have z2_0 : w.heap.size < w2.heap.size := Nat.lt_of_lt_of_le (by first | (simp; done) | (simp; omega) | omega) hb2.size; have c2_0_0 := rowcell R2_0 0; have c2_0_1 := rowcell R2_0 1; have c2_0_2 := rowcell R2_0 2; have c2_0_3 := rowcell R2_0 3; simp only [List.getElem?_toArray, List.getElem?_cons_zero, List.getElem?_cons_succ] at c2_0_0 c2_0_1 c2_0_2 c2_0_3; have HR2_0 : Hid _ := R2_0; clear R2_0; have R2_1 := (hb2.block (w.heap.size + 1) (by first | (simp; done) | (simp; omega) | omega)).trans ((Below.heap_alloc _ _ _ (by first | (simp; done) | (simp; omega) | omega)).trans HR1_1.out); have z2_1 : w.heap.size + 1 < w2.heap.size := Nat.lt_of_lt_of_le (by first | (simp; done) | (simp; omega) | omega) hb2.size; have c2_1_0 := rowcell R2_1 0; have c2_1_1 := rowcell R2_1 1; have c2_1_2 := rowcell R2_1 2; have c2_1_3 := rowcell R2_1 3; simp only [List.getElem?_toArray, List.getElem?_cons_zero, List.getElem?_cons_succ] at c2_1_0 c2_1_1 c2_1_2 c2_1_3; have HR2_1 : Hid _ := R2_1; clear R2_1; have R2_2 := (hb2.block (w.heap.size + 1 + 1) (by first | (simp; done) | (simp; omega) | omega)).trans ((Below.heap_alloc _ _ _ (by first | (simp; done) | (simp; omega) | omega)).trans HR1_2.out); have z2_2 : w.heap.size + 1 + 1 < w2.heap.size := Nat.lt_of_lt_of_le (by first | (simp; done) | (simp; omega) | omega) hb2.size; have c2_2_0 := rowcell R2_2 0; have c2_2_1 := rowcell R2_2 1; have c2_2_2 := rowcell R2_2 2; have c2_2_3 := rowcell R2_2 3; have c2_2_4 := rowcell R2_2 4; have c2_2_5 := rowcell R2_2 5; simp only [List.getElem?_toArray, List.getElem?_cons_zero, List.getElem?_cons_succ] at c2_2_0 c2_2_1 c2_2_2 c2_2_3 c2_2_4 c2_2_5; have HR2_2 : Hid _ := R2_2; clear R2_2; have R2_3 := (hb2.block (w1.heap.size) (by first | (simp; done) | (simp; omega) | omega)).trans (rownew' _ _ _ _ (by simp)); have z2_3 : w1.heap.size < w2.heap.size := Nat.lt_of_lt_of_le (by first | (simp; done) | (simp; omega) | omega) hb2.size; have c2_3_0 := rowcell R2_3 0; have c2_3_1 := rowcell R2_3 1; have c2_3_2 := rowcell R2_3 2; have c2_3_3 := rowcell R2_3 3; have c2_3_4 := rowcell R2_3 4; have c2_3_5 := rowcell R2_3 5; simp only [List.getElem?_toArray, List.getElem?_cons_zero, List.getElem?_cons_succ] at c2_3_0 c2_3_1 c2_3_2 c2_3_3 c2_3_4 c2_3_5; have HR2_3 : Hid _ := R2_3; clear R2_3; have HB2 : Hid (Below _ _ _) := hb2; clear hb2; have g2 := rowfree HR2_2.out)
    | (go_at_call 28; go_must (refine (k1 _).mono ?_); rintro e w1 ⟨rfl, hb1⟩; have R1_0 := (hb1.block (w.heap.size) (by first | (simp; done) | (simp; omega) | omega)).trans ((Below.heap_alloc _ _ _ (by first | (simp; done) | (simp; omega) | omega)).trans ((Below.heap_alloc _ _ _ (by first | (simp; done) | (simp; omega) | omega)).trans (rownew' _ _ _ _ (by simp)))); have z1_0 : w.heap.size < w1.heap.size := Nat.lt_of_lt_of_le (by first | (simp; done) | (simp; omega) | omega) hb1.size; have HR1_0 : Hid _ := R1_0; clear R1_0; have R1_1 := (hb1.block (w.heap.size + 1) (by first | (simp; done) | (simp; omega) | omega)).trans ((Below.heap_alloc _ _ _ (by first | (simp; done) | (simp; omega) | omega)).trans (rownew' _ _ _ _ (by simp))); have z1_1 : w.heap.size + 1 < w1.heap.size := Nat.lt_of_lt_of_le (by first | (simp; done) | (simp; omega) | omega) hb1.size; have c1_1_0 := rowcell R1_1 0; have c1_1_1 := rowcell R1_1 1; have c1_1_2 := rowcell R1_1 2; have c1_1_3 := rowcell R1_1 3; simp only [List.getElem?_toArray, List.getElem?_cons_zero, List.getElem?_cons_succ] at c1_1_0 c1_1_1 c1_1_2 c1_1_3; have HR1_1 : Hid _ := R1_1; clear R1_1; have R1_2 := (hb1.block (w.heap.size + 1 + 1) (by first | (simp; done) | (simp; omega) | omega)).trans (rownew' _ _ _ _ (by simp)); have z1_2 : w.heap.size + 1 + 1 < w1.heap.size := Nat.lt_of_lt_of_le (by first | (simp; done) | (simp; omega) | omega) hb1.size; have c1_2_0 := rowcell R1_2 0; have c1_2_1 := rowcell R1_2 1; have c1_2_2 := rowcell R1_2 2; have c1_2_3 := rowcell R1_2 3; have c1_2_4 := rowcell R1_2 4; have c1_2_5 := rowcell R1_2 5; simp only [List.getElem?_toArray, List.getElem?_cons_zero, List.getElem?_cons_succ] at c1_2_0 c1_2_1 c1_2_2 c1_2_3 c1_2_4 c1_2_5; have HR1_2 : Hid _ := R1_2; clear R1_2; have HB1 : Hid (Below _ _ _) := hb1; clear hb1; have f2 := rowfree HR1_2.out))
  refine bodyPost_ret (v := .tuple #[.agg #[.int .i64 k', .bool neg', .int .i64 s', .int .u64 g, .int .u64 0, .bool false], .nilIface]) (by simp [results, Try.results29, go_sem, c2_2_0, c2_2_1, c2_2_2, c2_2_3, c2_2_4, c2_2_5, g2, z2_2]; done) rfl (hQ.out _ _ ⟨rfl, ?_⟩)
  first | exact cmore (cset6 (cthen (cmore (cthen (cmore (cmore (cmore (Below.refl _ _) _) _) _) HB1.out) _) HB2.out) (by omega)) _ | exact cset6 (cmore (cthen (cmore (cthen (cmore (cmore (cmore (Below.refl _ _) _) _) _) HB1.out) _) HB2.out) _) (by omega)
theorem ssum_b2 (k : Int) (neg : Bool) (s : Int) (f : Nat) (k' : Int) (neg' : Bool) (s' : Int) (g : Nat) (hf : f < 2 ^ 64) (hg : g < 2 ^ 64) (h1 : soundN k neg s f = true) (h2 : soundN k' neg' s' g = true) (hk : k ≠ 2) (hk' : k' ≠ 0) (hk2 : k' ≠ 2) (hk0 : k = 0) (w : World) :
    Calls Try.prog 29 #[numV k neg s f, numV k' neg' s' g] w fun e w' => e = .returned (.tuple #[exV k' neg' s' g 0 false, .nilIface]) ∧ Below w.heap.size w w' := by
  have k1 := rndof_ok k neg s f hf h1
  have k2 := rndof_ok k' neg' s' g hg h2
  have d1 : (k == 2) = false := beq_eq_false_iff_ne.2 hk
  have d2 : (k' == 0) = false := beq_eq_false_iff_ne.2 hk'
  have d3 : (k' == 2) = false := beq_eq_false_iff_ne.2 hk2
  have d4 : (k == 0) = true := by rw [hk0]; rfl
  clear hk hk' hk2 hk0
  unfold numV exV at *
  rw [show ((0 : Nat) : Int) = 0 from rfl] at *
  refine cps fun Q hQ => ?_
  go_enter Try.func29, Try.ntmps29
  go_wp2_with (first
    | (go_at_call 28; have chk := HB1; go_must (refine (k2 _).mono ?_); rintro e w2 ⟨rfl, hb2⟩; have R2_0 := (hb2.block (w.heap.size) (by first | (simp; done) | (simp; omega) | omega)).trans ((Below.heap_alloc _ _ _ (by first | (simp; done) | (simp; omega) | omega)).trans HR1_0.out); have z2_0 : w.heap.size < w2.heap.size := Nat.lt_of_lt_of_le (by first | (simp; done) | (simp; omega) | omega) hb2.size; have c2_0_0 := rowcell R2_0 0; have c2_0_1 := rowcell R2_0 1; have c2_0_2 := rowcell R2_0 2; have c2_0_3 := rowcell R2_0 3; simp only [List.getElem?_toArray, List.getElem?_cons_zero, List.getElem?_cons_succ] at c2_0_0 c2_0_1 c2_0_2 c2_0_3; have HR2_0 : Hid _ := R2_0; clear R2_0; have R2_1 := (hb2.block (w.heap.size + 1) (by first | (simp; done) | (simp; omega) | omega)).trans ((Below.heap_alloc _ _ _ (by first | (simp; done) | (simp; omega) | omega)).trans HR1_1.out); have z2_1 : w.heap.size + 1 < w2.heap.size := Nat.lt_of_lt_of_le (by first | (simp; done) | (simp; omega) | omega) hb2.size; have c2_1_0 := rowcell R2_1 0; have c2_1_1 := rowcell R2_1 1; have c2_1_2 := rowcell R2_1 2; have c2_1_3 := rowcell R2_1 3; simp only [List.getElem?_toArray, List.getElem?_cons_zero, List.getElem?_cons_succ] at c2_1_0 c2_1_1 c2_1_2 c2_1_3; have HR2_1 : Hid _ := R2_1; clear R2_1; have R2_2 := (hb2.block (w.heap.size + 1 + 1) (by first | (simp; done) | (simp; omega) | omega)).trans ((Below.heap_alloc _ _ _ (by first | (simp; done) | (simp; omega) | omega)).trans HR1_2.out); have z2_2 : w.heap.size + 1 + 1 < w2.heap.size := Nat.lt_of_lt_of_le (by first | (simp; done) | (simp; omega) | omega) hb2.size; have c2_2_0 := rowcell R2_2 0; have c2_2_1 := rowcell R2_2 1; have c2_2_2 := rowcell R2_2 2; have c2_2_3 := rowcell R2_2 3; have c2_2_4 := rowcell R2_2 4; have c2_2_5 := rowcell R2_2 5; simp only [List.getElem?_toArray, List.getElem?_cons_zero, List.getElem?_cons_succ] at c2_2_0 c2_2_1 c2_2_2 c2_2_3 c2_2_4 c2_2_5; have HR2_2 : Hid _ := R2_2; clear R2_2; have R2_3 := (hb2.block (w1.heap.size) (by first | (simp; done) | (simp; omega) | omega)).trans (rownew' _ _ _ _ (by simp)); have z2_3 : w1.heap.size < w2.heap.size := Nat.lt_of_lt_of_le (by first | (simp; done) | (simp; omega) | omega) hb2.size; have c2_3_0 := rowcell R2_3 0; have c2_3_1 := rowcell R2_3 1; have c2_3_2 := rowcell R2_3 2; have c2_3_3 := rowcell R2_3 3; have c2_3_4 := rowcell R2_3 4; have c2_3_5 := rowcell R2_3 5; simp only [List.getElem?_toArray, List.getElem?_cons_zero, List.getElem?_cons_succ] at c2_3_0 c2_3_1 c2_3_2 c2_3_3 c2_3_4 c2_3_5; have HR2_3 : Hid _ := R2_3; clear R2_3; have HB2 : Hid (Below _ _ _) := hb2; clear hb2; have g2 := rowfree HR2_2.out)
    | (go_at_call 28; go_must (refine (k1 _).mono ?_); rintro e w1 ⟨rfl, hb1⟩; have R1_0 := (hb1.block (w.heap.size) (by first | (simp; done) | (simp; omega) | omega)).trans ((Below.heap_alloc _ _ _ (by first | (simp; done) | (simp; omega) | omega)).trans ((Below.heap_alloc _ _ _ (by first | (simp; done) | (simp; omega) | omega)).trans (rownew' _ _ _ _ (by simp)))); have z1_0 : w.heap.size < w1.heap.size := Nat.lt_of_lt_of_le (by first | (simp; done) | (simp; omega) | omega) hb1.size; have HR1_0 : Hid _ := R1_0; clear R1_0; have R1_1 := (hb1.block (w.heap.size + 1) (by first | (simp; done) | (simp; omega) | omega)).trans ((Below.heap_alloc _ _ _ (by first | (simp; done) | (simp; omega) | omega)).trans (rownew' _ _ _ _ (by simp))); have z1_1 : w.heap.size + 1 < w1.heap.size := Nat.lt_of_lt_of_le (by first | (simp; done) | (simp; omega) | omega) hb1.size; have c1_1_0 := rowcell R1_1 0; have c1_1_1 := rowcell R1_1 1; have c1_1_2 := rowcell R1_1 2; have c1_1_3 := rowcell R1_1 3; simp only [List.getElem?_toArray, List.getElem?_cons_zero, List.getElem?_cons_succ] at c1_1_0 c1_1_1 c1_1_2 c1_1_3; have HR1_1 : Hid _ := R1_1; clear R1_1; have R1_2 := (hb1.block (w.heap.size + 1 + 1) (by first | (simp; done) | (simp; omega) | omega)).trans (rownew' _ _ _ _ (by simp)); have z1_2 : w.heap.size + 1 + 1 < w1.heap.size := Nat.lt_of_lt_of_le (by first | (simp; done) | (simp; omega) | omega) hb1.size; have c1_2_0 := rowcell R1_2 0; have c1_2_1 := rowcell R1_2 1; have c1_2_2 := rowcell R1_2 2; have c1_2_3 := rowcell R1_2 3; have c1_2_4 := rowcell R1_2 4; have c1_2_5 := rowcell R1_2 5; simp only [List.getElem?_toArray, List.getElem?_cons_zero, List.getElem?_cons_succ] at c1_2_0 c1_2_1 c1_2_2 c1_2_3 c1_2_4 c1_2_5; have HR1_2 : Hid _ := R1_2; clear R1_2; have HB1 : Hid (Below _ _ _) := hb1; clear hb1; have f2 := rowfree HR1_2.out))
  refine bodyPost_ret (v := .tuple #[.agg #[.int .i64 k', .bool neg', .int .i64 s', .int .u64 g, .int .u64 0, .bool false], .nilIface]) (by simp [results, Try.results29, go_sem, c2_2_0, c2_2_1, c2_2_2, c2_2_3, c2_2_4, c2_2_5, g2, z2_2]; done) rfl (hQ.out _ _ ⟨rfl, ?_⟩)
  first | exact cmore (cset6 (cthen (cmore (cthen (cmore (cmore (cmore (Below.refl _ _) _) _) _) HB1.out) _) HB2.out) (by omega)) _ | exact cset6 (cmore (cthen (cmore (cthen (cmore (cmore (cmore (Below.refl _ _) _) _) _) HB1.out) _) HB2.out) _) (by omega)
theorem ssum_r (k : Int) (neg : Bool) (s : Int) (f : Nat) (k' : Int) (neg' : Bool) (s' : Int) (g : Nat) (hf : f < 2 ^ 64) (hg : g < 2 ^ 64) (h1 : soundN k neg s f = true) (h2 : soundN k' neg' s' g = true) (hk : k ≠ 2) (hk' : k' ≠ 0) (hk2 : k' ≠ 2) (hk0 : k ≠ 0) (K : Int) (B : Bool) (S : Int) (H L : Nat) (R : Bool) (k3 : ∀ w, Calls Try.prog 53 #[numV k neg s f, numV k' neg' s' g] w fun e w' => e = .returned (exV K B S H L R) ∧ Below w.heap.size w w') (w : World) :
    Calls Try.prog 29 #[numV k neg s f, numV k' neg' s' g] w fun e w' => e = .returned (.tuple #[exV K B S H L R, .nilIface]) ∧ Below w.heap.size w w' := by
  have k1 := rndof_ok k neg s f hf h1
  have k2 := rndof_ok k' neg' s' g hg h2
  have d1 : (k == 2) = false := beq_eq_false_iff_ne.2 hk
  have d2 : (k' == 0) = false := beq_eq_false_iff_ne.2 hk'
  have d3 : (k' == 2) = false := beq_eq_false_iff_ne.2 hk2
  have d4 : (k == 0) = false := beq_eq_false_iff_ne.2 hk0
  clear hk hk' hk2 hk0
  unfold numV exV at *
  rw [show ((0 : Nat) : Int) = 0 from rfl] at *
  refine cps fun Q hQ => ?_
  go_enter Try.func29, Try.ntmps29
  go_wp2_with (first
    | (go_at_call 28; have chk := HB1; go_must (refine (k2 _).mono ?_); rintro e w2 ⟨rfl, hb2⟩; have R2_0 := (hb2.block (w.heap.size) (by first | (simp; done) | (simp; omega) | omega)).trans ((Below.heap_alloc _ _ _ (by first | (simp; done) | (simp; omega) | omega)).trans HR1_0.out); have z2_0 : w.heap.size < w2.heap.size := Nat.lt_of_lt_of_le (by first | (simp; done) | (simp; omega) | omega) hb2.size; have c2_0_0 := rowcell R2_0 0; have c2_0_1 := rowcell R2_0 1; have c2_0_2 := rowcell R2_0 2; have c2_0_3 := rowcell R2_0 3; simp only [List.getElem?_toArray, List.getElem?_cons_zero, List.getElem?_cons_succ] at c2_0_0 c2_0_1 c2_0_2 c2_0_3; have HR2_0 : Hid _ := R2_0; clear R2_0; have R2_1 := (hb2.block (w.heap.size + 1) (by first | (simp; done) | (simp; omega) | omega)).trans ((Below.heap_alloc _ _ _ (by first | (simp; done) | (simp; omega) | omega)).trans HR1_1.out); have z2_1 : w.heap.size + 1 < w2.heap.size := Nat.lt_of_lt_of_le (by first | (simp; done) | (simp; omega) | omega) hb2.size; have c2_1_0 := rowcell R2_1 0; have c2_1_1 := rowcell R2_1 1; have c2_1_2 := rowcell R2_1 2; have c2_1_3 := rowcell R2_1 3; simp only [List.getElem?_toArray, List.getElem?_cons_zero, List.getElem?_cons_succ] at c2_1_0 c2_1_1 c2_1_2 c2_1_3; have HR2_1 : Hid _ := R2_1; clear R2_1; have R2_2 := (hb2.block (w.heap.size + 1 + 1) (by first | (simp; done) | (simp; omega) | omega)).trans ((Below.heap_alloc _ _ _ (by first | (simp; done) | (simp; omega) | omega)).trans HR1_2.out); have z2_2 : w.heap.size + 1 + 1 < w2.heap.size := Nat.lt_of_lt_of_le (by first | (simp; done) | (simp; omega) | omega) hb2.size; have c2_2_0 := rowcell R2_2 0; have c2_2_1 := rowcell R2_2 1; have c2_2_2 := rowcell R2_2 2; have c2_2_3 := rowcell R2_2 3; have c2_2_4 := rowcell R2_2 4; have c2_2_5 := rowcell R2_2 5; simp only [List.getElem?_toArray, List.getElem?_cons_zero, List.getElem?_cons_succ] at c2_2_0 c2_2_1 c2_2_2 c2_2_3 c2_2_4 c2_2_5; have HR2_2 : Hid _ := R2_2; clear R2_2; have R2_3 := (hb2.block (w1.heap.size) (by first | (simp; done) | (simp; omega) | omega)).trans (rownew' _ _ _ _ (by simp)); have z2_3 : w1.heap.size < w2.heap.size := Nat.lt_of_lt_of_le (by first | (simp; done) | (simp; omega) | omega) hb2.size; have c2_3_0 := rowcell R2_3 0; have c2_3_1 := rowcell R2_3 1; have c2_3_2 := rowcell R2_3 2; have c2_3_3 := rowcell R2_3 3; have c2_3_4 := rowcell R2_3 4; have c2_3_5 := rowcell R2_3 5; simp only [List.getElem?_toArray, List.getElem?_cons_zero, List.getElem?_cons_succ] at c2_3_0 c2_3_1 c2_3_2 c2_3_3 c2_3_4 c2_3_5; have HR2_3 : Hid _ := R2_3; clear R2_3; have HB2 : Hid (Below _ _ _) := hb2; clear hb2; have g2 := rowfree HR2_2.out)
    | (go_at_call 28; go_must (refine (k1 _).mono ?_); rintro e w1 ⟨rfl, hb1⟩; have R1_0 := (hb1.block (w.heap.size) (by first | (simp; done) | (simp; omega) | omega)).trans ((Below.heap_alloc _ _ _ (by first | (simp; done) | (simp; omega) | omega)).trans ((Below.heap_alloc _ _ _ (by first | (simp; done) | (simp; omega) | omega)).trans (rownew' _ _ _ _ (by simp)))); have z1_0 : w.heap.size < w1.heap.size := Nat.lt_of_lt_of_le (by first | (simp; done) | (simp; omega) | omega) hb1.size; have HR1_0 : Hid _ := R1_0; clear R1_0; have R1_1 := (hb1.block (w.heap.size + 1) (by first | (simp; done) | (simp; omega) | omega)).trans ((Below.heap_alloc _ _ _ (by first | (simp; done) | (simp; omega) | omega)).trans (rownew' _ _ _ _ (by simp))); have z1_1 : w.heap.size + 1 < w1.heap.size := Nat.lt_of_lt_of_le (by first | (simp; done) | (simp; omega) | omega) hb1.size; have c1_1_0 := rowcell R1_1 0; have c1_1_1 := rowcell R1_1 1; have c1_1_2 := rowcell R1_1 2; have c1_1_3 := rowcell R1_1 3; simp only [List.getElem?_toArray, List.getElem?_cons_zero, List.getElem?_cons_succ] at c1_1_0 c1_1_1 c1_1_2 c1_1_3; have HR1_1 : Hid _ := R1_1; clear R1_1; have R1_2 := (hb1.block (w.heap.size + 1 + 1) (by first | (simp; done) | (simp; omega) | omega)).trans (rownew' _ _ _ _ (by simp)); have z1_2 : w.heap.size + 1 + 1 < w1.heap.size := Nat.lt_of_lt_of_le (by first | (simp; done) | (simp; omega) | omega) hb1.size; have c1_2_0 := rowcell R1_2 0; have c1_2_1 := rowcell R1_2 1; have c1_2_2 := rowcell R1_2 2; have c1_2_3 := rowcell R1_2 3; have c1_2_4 := rowcell R1_2 4; have c1_2_5 := rowcell R1_2 5; simp only [List.getElem?_toArray, List.getElem?_cons_zero, List.getElem?_cons_succ] at c1_2_0 c1_2_1 c1_2_2 c1_2_3 c1_2_4 c1_2_5; have HR1_2 : Hid _ := R1_2; clear R1_2; have HB1 : Hid (Below _ _ _) := hb1; clear hb1; have f2 := rowfree HR1_2.out)
    | (go_at_call 53; go_must (refine (k3 _).mono ?_); rintro e w3 ⟨rfl, hb3⟩; have R3_0 := (hb3.block (w.heap.size) (by first | (simp; done) | (simp; omega) | omega)).trans ((Below.heap_alloc _ _ _ (by first | (simp; done) | (simp; omega) | omega)).trans HR2_0.out); have z3_0 : w.heap.size < w3.heap.size := Nat.lt_of_lt_of_le (by first | (simp; done) | (simp; omega) | omega) hb3.size; have HR3_0 : Hid _ := R3_0; clear R3_0; have R3_1 := (hb3.block (w.heap.size + 1) (by first | (simp; done) | (simp; omega) | omega)).trans ((Below.heap_alloc _ _ _ (by first | (simp; done) | (simp; omega) | omega)).trans HR2_1.out); have z3_1 : w.heap.size + 1 < w3.heap.size := Nat.lt_of_lt_of_le (by first | (simp; done) | (simp; omega) | omega) hb3.size; have HR3_1 : Hid _ := R3_1; clear R3_1; have R3_2 := (hb3.block (w.heap.size + 1 + 1) (by first | (simp; done) | (simp; omega) | omega)).trans ((Below.heap_alloc _ _ _ (by first | (simp; done) | (simp; omega) | omega)).trans HR2_2.out); have z3_2 : w.heap.size + 1 + 1 < w3.heap.size := Nat.lt_of_lt_of_le (by first | (simp; done) | (simp; omega) | omega) hb3.size; have c3_2_0 := rowcell R3_2 0; have c3_2_1 := rowcell R3_2 1; have c3_2_2 := rowcell R3_2 2; have c3_2_3 := rowcell R3_2 3; have c3_2_4 := rowcell R3_2 4; have c3_2_5 := rowcell R3_2 5; simp only [List.getElem?_toArray, List.getElem?_cons_zero, List.getElem?_cons_succ] at c3_2_0 c3_2_1 c3_2_2 c3_2_3 c3_2_4 c3_2_5; have HR3_2 : Hid _ := R3_2; clear R3_2; have R3_3 := (hb3.block (w1.heap.size) (by first | (simp; done) | (simp; omega) | omega)).trans ((Below.heap_alloc _ _ _ (by first | (simp; done) | (simp; omega) | omega)).trans HR2_3.out); have z3_3 : w1.heap.size < w3.heap.size := Nat.lt_of_lt_of_le (by first | (simp; done) | (simp; omega) | omega) hb3.size; have HR3_3 : Hid _ := R3_3; clear R3_3; have R3_4 := (hb3.block (w2.heap.size) (by first | (simp; done) | (simp; omega) | omega)).trans (rownew' _ _ _ _ (by simp)); have z3_4 : w2.heap.size < w3.heap.size := Nat.lt_of_lt_of_le (by first | (simp; done) | (simp; omega) | omega) hb3.size; have HR3_4 : Hid _ := R3_4; clear R3_4; have HB3 : Hid (Below _ _ _) := hb3; clear hb3; have e2 := rowfree HR3_2.out))
  refine bodyPost_ret (v := .tuple #[.agg #[.int .i64 K, .bool B, .int .i64 S, .int .u64 H, .int .u64 L, .bool R], .nilIface]) (by simp [results, Try.results29, go_sem, c3_2_0, c3_2_1, c3_2_2, c3_2_3, c3_2_4, c3_2_5, e2, z3_2]; done) rfl (hQ.out _ _ ⟨rfl, ?_⟩)
  exact cset6 (cthen (cmore (cthen (cmore (cthen (cmore (cmore (cmore (Below.refl _ _) _) _) _) HB1.out) _) HB2.out) _) HB3.out) (by omega)
theorem ssum_ok (k : Int) (neg : Bool) (s : Int) (f : Nat) (k' : Int) (neg' : Bool) (s' : Int) (g : Nat) (hf : f < 2 ^ 64) (hg : g < 2 ^ 64) (h1 : soundN k neg s f = true) (h2 : soundN k' neg' s' g = true) (w : World) :
    Calls Try.prog 29 #[numV k neg s f, numV k' neg' s' g] w fun e w' => e = .returned (.tuple #[sum9 k neg s f 0 k' neg' s' g 0, .nilIface]) ∧ Below w.heap.size w w' := by
  have cs : ∀ (k : Int) (neg : Bool) (s : Int) (f : Nat), soundN k neg s f = true → ((k = 0 ∨ k = 2) ∧ neg = false ∧ s = 0 ∧ f = 0) ∨ k = 1 := fun k neg s f h => by
    unfold soundN at h
    by_cases c : k = 0 ∨ k = 2
    · rw [if_pos c] at h; exact .inl ⟨c, of_decide_eq_true h⟩
    · rw [if_neg c] at h; exact .inr (of_decide_eq_true h).1
  unfold sum9
  by_cases a2 : k = 2
  · rw [if_pos (.inl a2)]
    rcases cs k neg s f h1 with ⟨_, rfl, rfl, rfl⟩ | c
    · have := ssum_a1 k false 0 0 k' neg' s' g hf hg h1 h2 a2 w
      rw [a2] at this ⊢; exact this
    · omega
  · by_cases b2 : k' = 2
    · rw [if_pos (.inr b2)]
      rcases cs k' neg' s' g h2 with ⟨_, rfl, rfl, rfl⟩ | c
      · have := ssum_b1 k neg s f k' false 0 0 hf hg h1 h2 a2 (by omega) b2 w
        rw [b2] at this ⊢; exact this
      · omega
    · rw [if_neg (by omega)]
      by_cases b0 : k' = 0
      · have hr : (if k = 0 then exV k' neg' s' g 0 false else if k' = 0 then exV k neg s f 0 false else sumR neg s (manX f 0) neg' s' (manX g 0)) = exV k neg s f 0 false := by
          by_cases a0 : k = 0
          · rw [if_pos a0]
            rcases cs k neg s f h1 with ⟨_, rfl, rfl, rfl⟩ | c
            · rcases cs k' neg' s' g h2 with ⟨_, rfl, rfl, rfl⟩ | c
              · rw [a0, b0]
              · omega
            · omega
          · rw [if_neg a0, if_pos b0]
        rw [hr]
        exact ssum_a2 k neg s f k' neg' s' g hf hg h1 h2 a2 b0 w
      · by_cases a0 : k = 0
        · rw [if_pos a0]
          exact ssum_b2 k neg s f k' neg' s' g hf hg h1 h2 a2 b0 b2 a0 w
        · rw [if_neg a0, if_neg b0]
          obtain rfl : k = 1 := by rcases cs k neg s f h1 with ⟨c, _⟩ | c <;> omega
          obtain rfl : k' = 1 := by rcases cs k' neg' s' g h2 with ⟨c, _⟩ | c <;> omega
          obtain ⟨K, B, S, H, L, R, hform⟩ := sumR_form neg s (manX f 0) neg' s' (manX g 0)
          have k3 := fun w => sreals_any neg s f neg' s' g hf hg h1 h2 w
          rw [hform] at k3 ⊢
          exact ssum_r 1 neg s f 1 neg' s' g hf hg h1 h2 a2 b0 b2 a0 K B S H L R k3 w
/-! ### Add, Sub -/
theorem sadd_ok (n a b : Nat) (hn : Wd n) (ha : a < 2 ^ 64) (hb : b < 2 ^ 64) (w : World) :
    Calls Try.prog 13 #[.int .i64 n, .int .u64 a, .int .u64 b] w fun e w' => e = .returned (.tuple #[.int .u64 (patS n a b : Nat), .nilIface]) ∧ Below w.heap.size w w' := by
  have k1 := cdecode_v n a hn ha
  have k2 := cdecode_v n b hn hb
  have k3 := ssum_ok (vK n a) (vB n a) (vS n a) (vF n a) (vK n b) (vB n b) (vS n b) (vF n b) (vF_lt n a) (vF_lt n b) (sound_v n a hn ha) (sound_v n b hn hb)
  rw [sum9_val n a b hn ha hb] at k3
  have k4 : ∀ w, Calls Try.prog 21 #[.int .i64 n, if vK n a = 2 ∨ vK n b = 2 then exV 2 false 0 0 0 false else exI (valI n a + valI n b) eN] w fun r w' => r = .returned (.tuple #[.int .u64 (patS n a b : Nat), .nilIface]) ∧ Below w.heap.size w w' := by
    intro w
    unfold patS
    by_cases h : vK n a = 2 ∨ vK n b = 2
    · rw [if_pos h, if_pos h]; exact rround_nar n hn w
    · rw [if_neg h, if_neg h]; exact rround_exI n _ _ hn w
  have hform : ∃ K B S H L R, (if vK n a = 2 ∨ vK n b = 2 then exV 2 false 0 0 0 false else exI (valI n a + valI n b) eN) = exV K B S H L R := by
    by_cases h : vK n a = 2 ∨ vK n b = 2
    · rw [if_pos h]; exact ⟨_, _, _, _, _, _, rfl⟩
    · rw [if_neg h]; exact exI_form _ _
  obtain ⟨K, B, S, H, L, R, hform⟩ := hform
  rw [hform] at k3 k4
  clear hform hn ha hb
  generalize patS n a b = P at *
  generalize vK n a = ka at *
  generalize vB n a = ba at *
  generalize vS n a = sa at *
  generalize vF n a = fa at *
  generalize vK n b = kb at *
  generalize vB n b = bb at *
  generalize vS n b = sb at *
  generalize vF n b = fb at *
  unfold numV exV at *
  refine cps fun Q hQ => ?_
  go_enter Try.func13, Try.ntmps13
  go_wp2_with (first
    | (go_at_call 27; have chk := HB1; go_must (refine (k2 _).mono ?_); rintro e w2 ⟨rfl, hb2⟩; have R2_0 := (hb2.block (w1.heap.size) (by first | (simp; done) | (simp; omega) | omega)).trans (rownew' _ _ _ _ (by simp)); have z2_0 : w1.heap.size < w2.heap.size := Nat.lt_of_lt_of_le (by first | (simp; done) | (simp; omega) | omega) hb2.size; have c2_0_0 := rowcell R2_0 0; have c2_0_1 := rowcell R2_0 1; have c2_0_2 := rowcell R2_0 2; have c2_0_3 := rowcell R2_0 3; simp only [List.getElem?_toArray, List.getElem?_cons_zero, List.getElem?_cons_succ] at c2_0_0 c2_0_1 c2_0_2 c2_0_3; have HR2_0 : Hid _ := R2_0; clear R2_0; have HB2 : Hid (Below _ _ _) := hb2; clear hb2)
    | (go_at_call 27; go_must (refine (k1 _).mono ?_); rintro e w1 ⟨rfl, hb1⟩; have HB1 : Hid (Below _ _ _) := hb1; clear hb1)
    | (go_at_call 29; go_must (refine (k3 _).mono ?_); rintro e w3 ⟨rfl, hb3⟩; have R3_0 := (hb3.block (w1.heap.size) (by first | (simp; done) | (simp; omega) | omega)).trans ((Below.heap_alloc _ _ _ (by first | (simp; done) | (simp; omega) | omega)).trans HR2_0.out); have z3_0 : w1.heap.size < w3.heap.size := Nat.lt_of_lt_of_le (by first | (simp; done) | (simp; omega) | omega) hb3.size; have HR3_0 : Hid _ := R3_0; clear R3_0; have R3_1 := (hb3.block (w2.heap.size) (by first | (simp; done) | (simp; omega) | omega)).trans (rownew' _ _ _ _ (by simp)); have z3_1 : w2.heap.size < w3.heap.size := Nat.lt_of_lt_of_le (by first | (simp; done) | (simp; omega) | omega) hb3.size; have HR3_1 : Hid _ := R3_1; clear R3_1; have HB3 : Hid (Below _ _ _) := hb3; clear hb3)
    | (go_at_call 21; go_must (refine (k4 _).mono ?_); rintro e w4 ⟨rfl, hb4⟩; have R4_0 := (hb4.block (w1.heap.size) (by first | (simp; done) | (simp; omega) | omega)).trans ((Below.heap_alloc _ _ _ (by first | (simp; done) | (simp; omega) | omega)).trans HR3_0.out); have z4_0 : w1.heap.size < w4.heap.size := Nat.lt_of_lt_of_le (by first | (simp; done) | (simp; omega) | omega) hb4.size; have HR4_0 : Hid _ := R4_0; clear R4_0; have R4_1 := (hb4.block (w2.heap.size) (by first | (simp; done) | (simp; omega) | omega)).trans ((Below.heap_alloc _ _ _ (by first | (simp; done) | (simp; omega) | omega)).trans HR3_1.out); have z4_1 : w2.heap.size < w4.heap.size := Nat.lt_of_lt_of_le (by first | (simp; done) | (simp; omega) | omega) hb4.size; have HR4_1 : Hid _ := R4_1; clear R4_1; have R4_2 := (hb4.block (w3.heap.size) (by first | (simp; done) | (simp; omega) | omega)).trans (rownew' _ _ _ _ (by simp)); have z4_2 : w3.heap.size < w4.heap.size := Nat.lt_of_lt_of_le (by first | (simp; done) | (simp; omega) | omega) hb4.size; have HR4_2 : Hid _ := R4_2; clear R4_2; have HB4 : Hid (Below _ _ _) := hb4; clear hb4))
  exact hQ.out _ _ ⟨rfl, cthen (cmore (cthen (cmore (cthen (cmore (cthen (Below.refl _ _) HB1.out) _) HB2.out) _) HB3.out) _) HB4.out⟩
end Go.Proofs.Ytheliihkkoohnaa

namespace Go.Proofs.Ytheliihkkoohnaa
/-! ### the contracts of package sum stand in SmI -/
end Go.Proofs.Ytheliihkkoohnaa
