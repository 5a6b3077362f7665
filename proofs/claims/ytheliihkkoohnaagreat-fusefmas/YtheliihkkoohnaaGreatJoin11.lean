import Derived.Test.YtheliihkkoohnaaGreatJoin10
import Derived.Test.YtheliihkkoohnaaGreatJoin1
import Derived.Test.YtheliihkkoohnaaGreatJoin9
namespace Go.Proofs.YtheliihkkoohnaaGreat
open Go.ChangeShapes Go.WideShapes Go.ChangeAt Go.RowKit
set_option linter.unusedVariables false
set_option linter.unusedSimpArgs false
set_option maxRecDepth 100000

/-! ### products -/
theorem fproduct_no (n : Int) (a b : Nat) (hn : isW n = false) (w : World) :
    Calls Tryz.prog 16 #[.int .i64 n, .int .u64 a, .int .u64 b] w fun e w' => e = .returned (.tuple #[exV 0 false 0 0 0 false, codeV 2]) ∧ Below w.heap.size w w' := by
  have k1 := cdecode_no n a hn
  clear hn
  unfold numV exV at *
  rw [show ((0 : Nat) : Int) = 0 from rfl] at *
  refine cps fun Q hQ => ?_
  go_enter Tryz.func16, Tryz.ntmps16
  go_wp2_with (first
    | (go_at_call 17; go_must (refine (k1 _).mono ?_); rintro e w1 ⟨rfl, hb1⟩; have R1_0 := (hb1.block (w.heap.size) (by first | (simp; done) | (simp; omega) | omega)).trans (rownew' _ _ _ _ (by simp)); have z1_0 : w.heap.size < w1.heap.size := Nat.lt_of_lt_of_le (by first | (simp; done) | (simp; omega) | omega) hb1.size; have c1_0_0 := rowcell R1_0 0; have c1_0_1 := rowcell R1_0 1; have c1_0_2 := rowcell R1_0 2; have c1_0_3 := rowcell R1_0 3; have c1_0_4 := rowcell R1_0 4; have c1_0_5 := rowcell R1_0 5; simp only [List.getElem?_toArray, List.getElem?_cons_zero, List.getElem?_cons_succ] at c1_0_0 c1_0_1 c1_0_2 c1_0_3 c1_0_4 c1_0_5; have HR1_0 : Hid _ := R1_0; clear R1_0; have HB1 : Hid (Below _ _ _) := hb1; clear hb1; have f0 := rowfree HR1_0.out))
  refine bodyPost_ret (v := .tuple #[.agg #[.int .i64 0, .bool false, .int .i64 0, .int .u64 0, .int .u64 0, .bool false], codeV 2]) (by simp [results, Tryz.results16, go_sem, c1_0_0, c1_0_1, c1_0_2, c1_0_3, c1_0_4, c1_0_5, f0, z1_0]; done) rfl (hQ.out _ _ ⟨rfl, ?_⟩)
  first | exact cmore (cset6 (cthen (cmore (Below.refl _ _) _) HB1.out) (by omega)) _ | exact cset6 (cmore (cthen (cmore (Below.refl _ _) _) HB1.out) _) (by omega)
set_option maxHeartbeats 2000000 in
theorem fproduct_walk (n a b : Nat) (ka : Int) (ba : Bool) (sa : Int) (fa : Nat) (kb : Int) (bb : Bool) (sb : Int) (fb : Nat) (K : Int) (B : Bool) (S : Int) (H L : Nat) (R : Bool)
    (k1 : ∀ w, Calls Tryz.prog 17 #[.int .i64 n, .int .u64 a] w fun e w' => e = .returned (.tuple #[numV ka ba sa fa, .nilIface]) ∧ Below w.heap.size w w')
    (k2 : ∀ w, Calls Tryz.prog 17 #[.int .i64 n, .int .u64 b] w fun e w' => e = .returned (.tuple #[numV kb bb sb fb, .nilIface]) ∧ Below w.heap.size w w')
    (k3 : ∀ w, Calls Tryz.prog 31 #[numV ka ba sa fa, numV kb bb sb fb] w fun e w' => e = .returned (.tuple #[exV K B S H L R, .nilIface]) ∧ Below w.heap.size w w') (w : World) :
    Calls Tryz.prog 16 #[.int .i64 n, .int .u64 a, .int .u64 b] w fun e w' => e = .returned (.tuple #[exV K B S H L R, .nilIface]) ∧ Below w.heap.size w w' := by
  unfold numV exV at *
  refine cps fun Q hQ => ?_
  go_enter Tryz.func16, Tryz.ntmps16
  go_wp2_with (first
    | (go_at_call 17; have chk := HB1; go_must (refine (k2 _).mono ?_); rintro e w2 ⟨rfl, hb2⟩; have R2_0 := (hb2.block (w.heap.size) (by first | (simp; done) | (simp; omega) | omega)).trans ((Below.heap_alloc _ _ _ (by first | (simp; done) | (simp; omega) | omega)).trans HR1_0.out); have z2_0 : w.heap.size < w2.heap.size := Nat.lt_of_lt_of_le (by first | (simp; done) | (simp; omega) | omega) hb2.size; have HR2_0 : Hid _ := R2_0; clear R2_0; have R2_1 := (hb2.block (w1.heap.size) (by first | (simp; done) | (simp; omega) | omega)).trans (rownew' _ _ _ _ (by simp)); have z2_1 : w1.heap.size < w2.heap.size := Nat.lt_of_lt_of_le (by first | (simp; done) | (simp; omega) | omega) hb2.size; have c2_1_0 := rowcell R2_1 0; have c2_1_1 := rowcell R2_1 1; have c2_1_2 := rowcell R2_1 2; have c2_1_3 := rowcell R2_1 3; simp only [List.getElem?_toArray, List.getElem?_cons_zero, List.getElem?_cons_succ] at c2_1_0 c2_1_1 c2_1_2 c2_1_3; have HR2_1 : Hid _ := R2_1; clear R2_1; have HB2 : Hid (Below _ _ _) := hb2; clear hb2)
    | (go_at_call 17; go_must (refine (k1 _).mono ?_); rintro e w1 ⟨rfl, hb1⟩; have R1_0 := (hb1.block (w.heap.size) (by first | (simp; done) | (simp; omega) | omega)).trans (rownew' _ _ _ _ (by simp)); have z1_0 : w.heap.size < w1.heap.size := Nat.lt_of_lt_of_le (by first | (simp; done) | (simp; omega) | omega) hb1.size; have HR1_0 : Hid _ := R1_0; clear R1_0; have HB1 : Hid (Below _ _ _) := hb1; clear hb1)
    | (go_at_call 31; go_must (refine (k3 _).mono ?_); rintro e w3 ⟨rfl, hb3⟩; have R3_0 := (hb3.block (w.heap.size) (by first | (simp; done) | (simp; omega) | omega)).trans ((Below.heap_alloc _ _ _ (by first | (simp; done) | (simp; omega) | omega)).trans HR2_0.out); have z3_0 : w.heap.size < w3.heap.size := Nat.lt_of_lt_of_le (by first | (simp; done) | (simp; omega) | omega) hb3.size; have c3_0_0 := rowcell R3_0 0; have c3_0_1 := rowcell R3_0 1; have c3_0_2 := rowcell R3_0 2; have c3_0_3 := rowcell R3_0 3; have c3_0_4 := rowcell R3_0 4; have c3_0_5 := rowcell R3_0 5; simp only [List.getElem?_toArray, List.getElem?_cons_zero, List.getElem?_cons_succ] at c3_0_0 c3_0_1 c3_0_2 c3_0_3 c3_0_4 c3_0_5; have HR3_0 : Hid _ := R3_0; clear R3_0; have R3_1 := (hb3.block (w1.heap.size) (by first | (simp; done) | (simp; omega) | omega)).trans ((Below.heap_alloc _ _ _ (by first | (simp; done) | (simp; omega) | omega)).trans HR2_1.out); have z3_1 : w1.heap.size < w3.heap.size := Nat.lt_of_lt_of_le (by first | (simp; done) | (simp; omega) | omega) hb3.size; have HR3_1 : Hid _ := R3_1; clear R3_1; have R3_2 := (hb3.block (w2.heap.size) (by first | (simp; done) | (simp; omega) | omega)).trans (rownew' _ _ _ _ (by simp)); have z3_2 : w2.heap.size < w3.heap.size := Nat.lt_of_lt_of_le (by first | (simp; done) | (simp; omega) | omega) hb3.size; have HR3_2 : Hid _ := R3_2; clear R3_2; have HB3 : Hid (Below _ _ _) := hb3; clear hb3; have f0 := rowfree HR3_0.out))
  refine bodyPost_ret (v := .tuple #[.agg #[.int .i64 K, .bool B, .int .i64 S, .int .u64 H, .int .u64 L, .bool R], .nilIface]) (by simp [results, Tryz.results16, go_sem, c3_0_0, c3_0_1, c3_0_2, c3_0_3, c3_0_4, c3_0_5, f0, z3_0]; done) rfl (hQ.out _ _ ⟨rfl, ?_⟩)
  exact cset6 (cthen (cmore (cthen (cmore (cthen (cmore (Below.refl _ _) _) HB1.out) _) HB2.out) _) HB3.out) (by omega)
theorem fproduct_ok (n a b : Nat) (hn : Wd n) (ha : a < 2 ^ 64) (hb : b < 2 ^ 64) (w : World) :
    Calls Tryz.prog 16 #[.int .i64 n, .int .u64 a, .int .u64 b] w fun e w' => e = .returned (.tuple #[prod10 (vK n a) (vB n a) (vS n a) (vF n a) (vK n b) (vB n b) (vS n b) (vF n b), .nilIface]) ∧ Below w.heap.size w w' := by
  have k3 := pexact_ok (vK n a) (vB n a) (vS n a) (vF n a) (vK n b) (vB n b) (vS n b) (vF n b) (vF_lt n a) (vF_lt n b) (sound_v n a hn ha) (sound_v n b hn hb)
  obtain ⟨K, B, S, H, L, R, hform⟩ := prod10_form (vK n a) (vB n a) (vS n a) (vF n a) (vK n b) (vB n b) (vS n b) (vF n b)
  rw [hform] at k3 ⊢
  exact fproduct_walk n a b _ _ _ _ _ _ _ _ K B S H L R (cdecode_v n a hn ha) (cdecode_v n b hn hb) k3 w
theorem rround_sum (n : Nat) (T e : Int) (A : Prop) [Decidable A] (hn : Wd n) (w : World) :
    Calls Tryz.prog 20 #[.int .i64 n, if A then exV 2 false 0 0 0 false else exI T e] w fun r w' => r = .returned (.tuple #[.int .u64 (if A then 2 ^ (n - 1) else patI n T e : Nat), .nilIface]) ∧ Below w.heap.size w w' := by
  by_cases a : A
  · rw [if_pos a, if_pos a]; exact rround_nar n hn w
  · rw [if_neg a, if_neg a]; exact rround_exI n T e hn w
theorem rround_rootI (n : Nat) (T e : Int) (A : Prop) [Decidable A] (hn : Wd n) (w : World) :
    Calls Tryz.prog 20 #[.int .i64 n, if A then exV 2 false 0 0 0 false else rootI T e] w fun r w' => r = .returned (.tuple #[.int .u64 (if A then 2 ^ (n - 1) else patG n T e : Nat), .nilIface]) ∧ Below w.heap.size w w' := by
  by_cases a : A
  · rw [if_pos a, if_pos a]; exact rround_nar n hn w
  · rw [if_neg a, if_neg a]
    unfold rootI patG
    by_cases h0 : T = 0
    · rw [if_pos h0, if_pos h0]
      exact rround_zero n hn w
    · rw [if_neg h0, if_neg h0]
      obtain ⟨wd, s1, s2⟩ := rootI_words T e h0
      refine rround_real n false _ _ 0 _ hn ?_ wd w
      unfold soundX
      rw [if_neg (by decide)]
      exact decide_eq_true ⟨rfl, wd.top, s1, s2⟩
/-! ### Fma -/
theorem ffma_no (n : Int) (a b c : Nat) (hn : isW n = false) (w : World) :
    Calls Tryz.prog 7 #[.int .i64 n, .int .u64 a, .int .u64 b, .int .u64 c] w fun e w' => e = .returned (.tuple #[.int .u64 0, codeV 2]) ∧ Below w.heap.size w w' := by
  have k1 := fproduct_no n a b hn
  clear hn
  unfold exV at *
  refine cps fun Q hQ => ?_
  go_enter Tryz.func7, Tryz.ntmps7
  go_wp2_with (first
    | (go_at_call 16; go_must (refine (k1 _).mono ?_); rintro e w1 ⟨rfl, hb1⟩; have HB1 : Hid (Below _ _ _) := hb1; clear hb1))
  exact hQ.out _ _ ⟨rfl, cmore (cthen (Below.refl _ _) HB1.out) _⟩
set_option maxHeartbeats 4000000 in
theorem ffma_ok (n a b c : Nat) (hn : Wd n) (ha : a < 2 ^ 64) (hb : b < 2 ^ 64) (hc : c < 2 ^ 64) (w : World) :
    Calls Tryz.prog 7 #[.int .i64 n, .int .u64 a, .int .u64 b, .int .u64 c] w fun e w' => e = .returned (.tuple #[.int .u64 (patF n a b c : Nat), .nilIface]) ∧ Below w.heap.size w w' := by
  have k1 := fproduct_ok n a b hn ha hb
  have k2 := cdecode_v n c hn hc
  have k3 := rndof_ok (vK n c) (vB n c) (vS n c) (vF n c) (vF_lt n c) (sound_v n c hn hc)
  obtain ⟨K, B, S, H, L, hform, hs, hh, hl, hp⟩ := prod_parts n a b hn ha hb
  have k4 := fusex_ok K B S H L false (vK n c) (vB n c) (vS n c) (vF n c) 0 false hh hl (vF_lt n c) (by decide) (by rw [hs, soundX_v n c hn hc]; rfl)
  rw [sum_parts hp (val_parts n c hn hc)] at k4
  have k5 := rround_sum n (valI n a * valI n b + valI n c * ((2 ^ 375 : Nat) : Int)) (eN + eN) ((vK n a = 2 ∨ vK n b = 2) ∨ vK n c = 2) hn
  rw [← patF_if] at k5
  obtain ⟨K2, B2, S2, H2, L2, R2, hform2⟩ := form_if (A := (vK n a = 2 ∨ vK n b = 2) ∨ vK n c = 2) ⟨2, false, 0, 0, 0, false, rfl⟩ (exI_form' (valI n a * valI n b + valI n c * ((2 ^ 375 : Nat) : Int)) (eN + eN))
  rw [hform2] at k4 k5
  rw [hform] at k1
  clear hform hform2 hp hs hh hl hn ha hb hc
  unfold numV exV at *
  rw [show ((0 : Nat) : Int) = 0 from rfl] at *
  generalize patF n a b c = P at *
  generalize vK n c = kc at *
  generalize vB n c = bc at *
  generalize vS n c = sc at *
  generalize vF n c = fc at *
  refine cps fun Q hQ => ?_
  go_enter Tryz.func7, Tryz.ntmps7
  go_wp2_with (first
    | (go_at_call 16; go_must (refine (k1 _).mono ?_); rintro e w1 ⟨rfl, hb1⟩; have HB1 : Hid (Below _ _ _) := hb1; clear hb1)
    | (go_at_call 17; go_must (refine (k2 _).mono ?_); rintro e w2 ⟨rfl, hb2⟩; have R2_0 := (hb2.block (w1.heap.size) (by first | (simp; done) | (simp; omega) | omega)).trans (rownew' _ _ _ _ (by simp)); have z2_0 : w1.heap.size < w2.heap.size := Nat.lt_of_lt_of_le (by first | (simp; done) | (simp; omega) | omega) hb2.size; have c2_0_0 := rowcell R2_0 0; have c2_0_1 := rowcell R2_0 1; have c2_0_2 := rowcell R2_0 2; have c2_0_3 := rowcell R2_0 3; have c2_0_4 := rowcell R2_0 4; have c2_0_5 := rowcell R2_0 5; simp only [List.getElem?_toArray, List.getElem?_cons_zero, List.getElem?_cons_succ] at c2_0_0 c2_0_1 c2_0_2 c2_0_3 c2_0_4 c2_0_5; have HR2_0 : Hid _ := R2_0; clear R2_0; have HB2 : Hid (Below _ _ _) := hb2; clear hb2)
    | (go_at_call 18; go_must (refine (k3 _).mono ?_); rintro e w3 ⟨rfl, hb3⟩; have R3_0 := (hb3.block (w1.heap.size) (by first | (simp; done) | (simp; omega) | omega)).trans ((Below.heap_alloc _ _ _ (by first | (simp; done) | (simp; omega) | omega)).trans HR2_0.out); have z3_0 : w1.heap.size < w3.heap.size := Nat.lt_of_lt_of_le (by first | (simp; done) | (simp; omega) | omega) hb3.size; have c3_0_0 := rowcell R3_0 0; have c3_0_1 := rowcell R3_0 1; have c3_0_2 := rowcell R3_0 2; have c3_0_3 := rowcell R3_0 3; have c3_0_4 := rowcell R3_0 4; have c3_0_5 := rowcell R3_0 5; simp only [List.getElem?_toArray, List.getElem?_cons_zero, List.getElem?_cons_succ] at c3_0_0 c3_0_1 c3_0_2 c3_0_3 c3_0_4 c3_0_5; have HR3_0 : Hid _ := R3_0; clear R3_0; have R3_1 := (hb3.block (w2.heap.size) (by first | (simp; done) | (simp; omega) | omega)).trans (rownew' _ _ _ _ (by simp)); have z3_1 : w2.heap.size < w3.heap.size := Nat.lt_of_lt_of_le (by first | (simp; done) | (simp; omega) | omega) hb3.size; have c3_1_0 := rowcell R3_1 0; have c3_1_1 := rowcell R3_1 1; have c3_1_2 := rowcell R3_1 2; have c3_1_3 := rowcell R3_1 3; simp only [List.getElem?_toArray, List.getElem?_cons_zero, List.getElem?_cons_succ] at c3_1_0 c3_1_1 c3_1_2 c3_1_3; have HR3_1 : Hid _ := R3_1; clear R3_1; have HB3 : Hid (Below _ _ _) := hb3; clear hb3)
    | (go_at_call 19; go_must (refine (k4 _).mono ?_); rintro e w4 ⟨rfl, hb4⟩; have R4_0 := (hb4.block (w1.heap.size) (by first | (simp; done) | (simp; omega) | omega)).trans ((Below.heap_alloc _ _ _ (by first | (simp; done) | (simp; omega) | omega)).trans HR3_0.out); have z4_0 : w1.heap.size < w4.heap.size := Nat.lt_of_lt_of_le (by first | (simp; done) | (simp; omega) | omega) hb4.size; have HR4_0 : Hid _ := R4_0; clear R4_0; have R4_1 := (hb4.block (w2.heap.size) (by first | (simp; done) | (simp; omega) | omega)).trans ((Below.heap_alloc _ _ _ (by first | (simp; done) | (simp; omega) | omega)).trans HR3_1.out); have z4_1 : w2.heap.size < w4.heap.size := Nat.lt_of_lt_of_le (by first | (simp; done) | (simp; omega) | omega) hb4.size; have HR4_1 : Hid _ := R4_1; clear R4_1; have R4_2 := (hb4.block (w3.heap.size) (by first | (simp; done) | (simp; omega) | omega)).trans (rownew' _ _ _ _ (by simp)); have z4_2 : w3.heap.size < w4.heap.size := Nat.lt_of_lt_of_le (by first | (simp; done) | (simp; omega) | omega) hb4.size; have HR4_2 : Hid _ := R4_2; clear R4_2; have HB4 : Hid (Below _ _ _) := hb4; clear hb4)
    | (go_at_call 20; go_must (refine (k5 _).mono ?_); rintro e w5 ⟨rfl, hb5⟩; have R5_0 := (hb5.block (w1.heap.size) (by first | (simp; done) | (simp; omega) | omega)).trans ((Below.heap_alloc _ _ _ (by first | (simp; done) | (simp; omega) | omega)).trans HR4_0.out); have z5_0 : w1.heap.size < w5.heap.size := Nat.lt_of_lt_of_le (by first | (simp; done) | (simp; omega) | omega) hb5.size; have HR5_0 : Hid _ := R5_0; clear R5_0; have R5_1 := (hb5.block (w2.heap.size) (by first | (simp; done) | (simp; omega) | omega)).trans ((Below.heap_alloc _ _ _ (by first | (simp; done) | (simp; omega) | omega)).trans HR4_1.out); have z5_1 : w2.heap.size < w5.heap.size := Nat.lt_of_lt_of_le (by first | (simp; done) | (simp; omega) | omega) hb5.size; have HR5_1 : Hid _ := R5_1; clear R5_1; have R5_2 := (hb5.block (w3.heap.size) (by first | (simp; done) | (simp; omega) | omega)).trans ((Below.heap_alloc _ _ _ (by first | (simp; done) | (simp; omega) | omega)).trans HR4_2.out); have z5_2 : w3.heap.size < w5.heap.size := Nat.lt_of_lt_of_le (by first | (simp; done) | (simp; omega) | omega) hb5.size; have HR5_2 : Hid _ := R5_2; clear R5_2; have R5_3 := (hb5.block (w4.heap.size) (by first | (simp; done) | (simp; omega) | omega)).trans (rownew' _ _ _ _ (by simp)); have z5_3 : w4.heap.size < w5.heap.size := Nat.lt_of_lt_of_le (by first | (simp; done) | (simp; omega) | omega) hb5.size; have HR5_3 : Hid _ := R5_3; clear R5_3; have HB5 : Hid (Below _ _ _) := hb5; clear hb5))
  exact hQ.out _ _ ⟨rfl, cthen (cmore (cthen (cmore (cthen (cmore (cthen (cmore (cthen (Below.refl _ _) HB1.out) _) HB2.out) _) HB3.out) _) HB4.out) _) HB5.out⟩
/-! ### two products -/
theorem fprods_no (n : Int) (a b c d : Nat) (hn : isW n = false) (w : World) :
    Calls Tryz.prog 24 #[.int .i64 n, .int .u64 a, .int .u64 b, .int .u64 c, .int .u64 d] w fun e w' => e = .returned (.tuple #[exV 0 false 0 0 0 false, codeV 2]) ∧ Below w.heap.size w w' := by
  have k1 := fproduct_no n a b hn
  clear hn
  unfold exV at *
  rw [show ((0 : Nat) : Int) = 0 from rfl] at *
  refine cps fun Q hQ => ?_
  go_enter Tryz.func24, Tryz.ntmps24
  go_wp2_with (first
    | (go_at_call 16; go_must (refine (k1 _).mono ?_); rintro e w1 ⟨rfl, hb1⟩; have R1_0 := (hb1.block (w.heap.size) (by first | (simp; done) | (simp; omega) | omega)).trans (rownew' _ _ _ _ (by simp)); have z1_0 : w.heap.size < w1.heap.size := Nat.lt_of_lt_of_le (by first | (simp; done) | (simp; omega) | omega) hb1.size; have c1_0_0 := rowcell R1_0 0; have c1_0_1 := rowcell R1_0 1; have c1_0_2 := rowcell R1_0 2; have c1_0_3 := rowcell R1_0 3; have c1_0_4 := rowcell R1_0 4; have c1_0_5 := rowcell R1_0 5; simp only [List.getElem?_toArray, List.getElem?_cons_zero, List.getElem?_cons_succ] at c1_0_0 c1_0_1 c1_0_2 c1_0_3 c1_0_4 c1_0_5; have HR1_0 : Hid _ := R1_0; clear R1_0; have HB1 : Hid (Below _ _ _) := hb1; clear hb1; have f0 := rowfree HR1_0.out))
  refine bodyPost_ret (v := .tuple #[.agg #[.int .i64 0, .bool false, .int .i64 0, .int .u64 0, .int .u64 0, .bool false], codeV 2]) (by simp [results, Tryz.results24, go_sem, c1_0_0, c1_0_1, c1_0_2, c1_0_3, c1_0_4, c1_0_5, f0, z1_0]; done) rfl (hQ.out _ _ ⟨rfl, ?_⟩)
  first | exact cmore (cset6 (cthen (cmore (Below.refl _ _) _) HB1.out) (by omega)) _ | exact cset6 (cmore (cthen (cmore (Below.refl _ _) _) HB1.out) _) (by omega)
set_option maxHeartbeats 2000000 in
theorem fprods_walk (n a b c d : Nat) (K : Int) (B : Bool) (S : Int) (H L : Nat) (R : Bool) (K' : Int) (B' : Bool) (S' : Int) (H' L' : Nat) (R' : Bool) (K2 : Int) (B2 : Bool) (S2 : Int) (H2 L2 : Nat) (R2 : Bool)
    (k1 : ∀ w, Calls Tryz.prog 16 #[.int .i64 n, .int .u64 a, .int .u64 b] w fun e w' => e = .returned (.tuple #[exV K B S H L R, .nilIface]) ∧ Below w.heap.size w w')
    (k2 : ∀ w, Calls Tryz.prog 16 #[.int .i64 n, .int .u64 c, .int .u64 d] w fun e w' => e = .returned (.tuple #[exV K' B' S' H' L' R', .nilIface]) ∧ Below w.heap.size w w')
    (k3 : ∀ w, Calls Tryz.prog 19 #[exV K B S H L R, exV K' B' S' H' L' R'] w fun e w' => e = .returned (.tuple #[exV K2 B2 S2 H2 L2 R2, .nilIface]) ∧ Below w.heap.size w w') (w : World) :
    Calls Tryz.prog 24 #[.int .i64 n, .int .u64 a, .int .u64 b, .int .u64 c, .int .u64 d] w fun e w' => e = .returned (.tuple #[exV K2 B2 S2 H2 L2 R2, .nilIface]) ∧ Below w.heap.size w w' := by
  unfold exV at *
  refine cps fun Q hQ => ?_
  go_enter Tryz.func24, Tryz.ntmps24
  go_wp2_with (first
    | (go_at_call 16; have chk := HB1; go_must (refine (k2 _).mono ?_); rintro e w2 ⟨rfl, hb2⟩; have R2_0 := (hb2.block (w.heap.size) (by first | (simp; done) | (simp; omega) | omega)).trans ((Below.heap_alloc _ _ _ (by first | (simp; done) | (simp; omega) | omega)).trans HR1_0.out); have z2_0 : w.heap.size < w2.heap.size := Nat.lt_of_lt_of_le (by first | (simp; done) | (simp; omega) | omega) hb2.size; have HR2_0 : Hid _ := R2_0; clear R2_0; have R2_1 := (hb2.block (w1.heap.size) (by first | (simp; done) | (simp; omega) | omega)).trans (rownew' _ _ _ _ (by simp)); have z2_1 : w1.heap.size < w2.heap.size := Nat.lt_of_lt_of_le (by first | (simp; done) | (simp; omega) | omega) hb2.size; have c2_1_0 := rowcell R2_1 0; have c2_1_1 := rowcell R2_1 1; have c2_1_2 := rowcell R2_1 2; have c2_1_3 := rowcell R2_1 3; have c2_1_4 := rowcell R2_1 4; have c2_1_5 := rowcell R2_1 5; simp only [List.getElem?_toArray, List.getElem?_cons_zero, List.getElem?_cons_succ] at c2_1_0 c2_1_1 c2_1_2 c2_1_3 c2_1_4 c2_1_5; have HR2_1 : Hid _ := R2_1; clear R2_1; have HB2 : Hid (Below _ _ _) := hb2; clear hb2)
    | (go_at_call 16; go_must (refine (k1 _).mono ?_); rintro e w1 ⟨rfl, hb1⟩; have R1_0 := (hb1.block (w.heap.size) (by first | (simp; done) | (simp; omega) | omega)).trans (rownew' _ _ _ _ (by simp)); have z1_0 : w.heap.size < w1.heap.size := Nat.lt_of_lt_of_le (by first | (simp; done) | (simp; omega) | omega) hb1.size; have HR1_0 : Hid _ := R1_0; clear R1_0; have HB1 : Hid (Below _ _ _) := hb1; clear hb1)
    | (go_at_call 19; go_must (refine (k3 _).mono ?_); rintro e w3 ⟨rfl, hb3⟩; have R3_0 := (hb3.block (w.heap.size) (by first | (simp; done) | (simp; omega) | omega)).trans ((Below.heap_alloc _ _ _ (by first | (simp; done) | (simp; omega) | omega)).trans HR2_0.out); have z3_0 : w.heap.size < w3.heap.size := Nat.lt_of_lt_of_le (by first | (simp; done) | (simp; omega) | omega) hb3.size; have c3_0_0 := rowcell R3_0 0; have c3_0_1 := rowcell R3_0 1; have c3_0_2 := rowcell R3_0 2; have c3_0_3 := rowcell R3_0 3; have c3_0_4 := rowcell R3_0 4; have c3_0_5 := rowcell R3_0 5; simp only [List.getElem?_toArray, List.getElem?_cons_zero, List.getElem?_cons_succ] at c3_0_0 c3_0_1 c3_0_2 c3_0_3 c3_0_4 c3_0_5; have HR3_0 : Hid _ := R3_0; clear R3_0; have R3_1 := (hb3.block (w1.heap.size) (by first | (simp; done) | (simp; omega) | omega)).trans ((Below.heap_alloc _ _ _ (by first | (simp; done) | (simp; omega) | omega)).trans HR2_1.out); have z3_1 : w1.heap.size < w3.heap.size := Nat.lt_of_lt_of_le (by first | (simp; done) | (simp; omega) | omega) hb3.size; have HR3_1 : Hid _ := R3_1; clear R3_1; have R3_2 := (hb3.block (w2.heap.size) (by first | (simp; done) | (simp; omega) | omega)).trans (rownew' _ _ _ _ (by simp)); have z3_2 : w2.heap.size < w3.heap.size := Nat.lt_of_lt_of_le (by first | (simp; done) | (simp; omega) | omega) hb3.size; have HR3_2 : Hid _ := R3_2; clear R3_2; have HB3 : Hid (Below _ _ _) := hb3; clear hb3; have f0 := rowfree HR3_0.out))
  refine bodyPost_ret (v := .tuple #[.agg #[.int .i64 K2, .bool B2, .int .i64 S2, .int .u64 H2, .int .u64 L2, .bool R2], .nilIface]) (by simp [results, Tryz.results24, go_sem, c3_0_0, c3_0_1, c3_0_2, c3_0_3, c3_0_4, c3_0_5, f0, z3_0]; done) rfl (hQ.out _ _ ⟨rfl, ?_⟩)
  exact cset6 (cthen (cmore (cthen (cmore (cthen (cmore (Below.refl _ _) _) HB1.out) _) HB2.out) _) HB3.out) (by omega)
theorem fprods_ok (n a b c d : Nat) (hn : Wd n) (ha : a < 2 ^ 64) (hb : b < 2 ^ 64) (hc : c < 2 ^ 64) (hd : d < 2 ^ 64) (w : World) :
    Calls Tryz.prog 24 #[.int .i64 n, .int .u64 a, .int .u64 b, .int .u64 c, .int .u64 d] w fun e w' => e = .returned (.tuple #[if (vK n a = 2 ∨ vK n b = 2) ∨ (vK n c = 2 ∨ vK n d = 2) then exV 2 false 0 0 0 false else exI (valI n a * valI n b + valI n c * valI n d) (eN + eN), .nilIface]) ∧ Below w.heap.size w w' := by
  have k1 := fproduct_ok n a b hn ha hb
  have k2 := fproduct_ok n c d hn hc hd
  obtain ⟨K, B, S, H, L, hform, hs, hh, hl, hp⟩ := prod_parts n a b hn ha hb
  obtain ⟨K', B', S', H', L', hform', hs', hh', hl', hp'⟩ := prod_parts n c d hn hc hd
  have k3 := fusex_ok K B S H L false K' B' S' H' L' false hh hl hh' hl' (by rw [hs, hs']; rfl)
  rw [sum_parts hp hp'] at k3
  obtain ⟨K2, B2, S2, H2, L2, R2, hform2⟩ := form_if (A := (vK n a = 2 ∨ vK n b = 2) ∨ (vK n c = 2 ∨ vK n d = 2)) ⟨2, false, 0, 0, 0, false, rfl⟩ (exI_form' (valI n a * valI n b + valI n c * valI n d) (eN + eN))
  rw [hform2] at k3 ⊢
  rw [hform] at k1
  rw [hform'] at k2
  exact fprods_walk n a b c d K B S H L false K' B' S' H' L' false K2 B2 S2 H2 L2 R2 k1 k2 k3 w
theorem fpair_no (n : Int) (a b c d : Nat) (hn : isW n = false) (w : World) :
    Calls Tryz.prog 10 #[.int .i64 n, .int .u64 a, .int .u64 b, .int .u64 c, .int .u64 d] w fun e w' => e = .returned (.tuple #[.int .u64 0, codeV 2]) ∧ Below w.heap.size w w' := by
  have k1 := fprods_no n a b c d hn
  clear hn
  unfold exV at *
  refine cps fun Q hQ => ?_
  go_enter Tryz.func10, Tryz.ntmps10
  go_wp2_with (first
    | (go_at_call 24; go_must (refine (k1 _).mono ?_); rintro e w1 ⟨rfl, hb1⟩; have HB1 : Hid (Below _ _ _) := hb1; clear hb1))
  exact hQ.out _ _ ⟨rfl, cmore (cthen (Below.refl _ _) HB1.out) _⟩
theorem fpair_ok (n a b c d : Nat) (hn : Wd n) (ha : a < 2 ^ 64) (hb : b < 2 ^ 64) (hc : c < 2 ^ 64) (hd : d < 2 ^ 64) (w : World) :
    Calls Tryz.prog 10 #[.int .i64 n, .int .u64 a, .int .u64 b, .int .u64 c, .int .u64 d] w fun e w' => e = .returned (.tuple #[.int .u64 (patX n a b c d : Nat), .nilIface]) ∧ Below w.heap.size w w' := by
  have k1 := fprods_ok n a b c d hn ha hb hc hd
  have k2 := rround_sum n (valI n a * valI n b + valI n c * valI n d) (eN + eN) ((vK n a = 2 ∨ vK n b = 2) ∨ (vK n c = 2 ∨ vK n d = 2)) hn
  rw [← patX_if] at k2
  obtain ⟨K2, B2, S2, H2, L2, R2, hform2⟩ := form_if (A := (vK n a = 2 ∨ vK n b = 2) ∨ (vK n c = 2 ∨ vK n d = 2)) ⟨2, false, 0, 0, 0, false, rfl⟩ (exI_form' (valI n a * valI n b + valI n c * valI n d) (eN + eN))
  rw [hform2] at k1 k2
  clear hform2 hn ha hb hc hd
  unfold exV at *
  generalize patX n a b c d = P at *
  refine cps fun Q hQ => ?_
  go_enter Tryz.func10, Tryz.ntmps10
  go_wp2_with (first
    | (go_at_call 24; go_must (refine (k1 _).mono ?_); rintro e w1 ⟨rfl, hb1⟩; have HB1 : Hid (Below _ _ _) := hb1; clear hb1)
    | (go_at_call 20; go_must (refine (k2 _).mono ?_); rintro e w2 ⟨rfl, hb2⟩; have R2_0 := (hb2.block (w1.heap.size) (by first | (simp; done) | (simp; omega) | omega)).trans (rownew' _ _ _ _ (by simp)); have z2_0 : w1.heap.size < w2.heap.size := Nat.lt_of_lt_of_le (by first | (simp; done) | (simp; omega) | omega) hb2.size; have HR2_0 : Hid _ := R2_0; clear R2_0; have HB2 : Hid (Below _ _ _) := hb2; clear hb2))
  exact hQ.out _ _ ⟨rfl, cthen (cmore (cthen (Below.refl _ _) HB1.out) _) HB2.out⟩
theorem fcross_walk (n : Int) (a b c d c2 : Nat) (P : Int) (v : Value) (hw : IntKind.u64.wrap (-(c : Int)) = (c2 : Int)) (k1 : ∀ w, Calls Tryz.prog 10 #[.int .i64 n, .int .u64 a, .int .u64 b, .int .u64 c2, .int .u64 d] w fun e w' => e = .returned (.tuple #[.int .u64 P, v]) ∧ Below w.heap.size w w') (w : World) :
    Calls Tryz.prog 11 #[.int .i64 n, .int .u64 a, .int .u64 b, .int .u64 c, .int .u64 d] w fun e w' => e = .returned (.tuple #[.int .u64 P, v]) ∧ Below w.heap.size w w' := by
  refine cps fun Q hQ => ?_
  go_enter Tryz.func11, Tryz.ntmps11
  go_wp2_with (go_at_call 10; go_must (refine (k1 _).mono ?_); rintro e w1 ⟨rfl, hb1⟩)
  exact hQ.out _ _ ⟨rfl, hb1⟩
theorem fcross_no (n : Int) (a b c d : Nat) (hn : isW n = false) (w : World) :
    Calls Tryz.prog 11 #[.int .i64 n, .int .u64 a, .int .u64 b, .int .u64 c, .int .u64 d] w fun e w' => e = .returned (.tuple #[.int .u64 0, codeV 2]) ∧ Below w.heap.size w w' :=
  fcross_walk n a b c d (IntKind.u64.wrap (-(c : Int))).toNat 0 _ (by rw [IntKind.wrap_u64]; omega) (fpair_no n a b _ d hn) w
theorem patX_minusU (n a b c d : Nat) (hn : Wd n) (hc : c < 2 ^ 64) : patX n a b (minusU c) d = patX n a b (negO n c) d := by
  have hw := wd_le hn
  have e : minusU c % 2 ^ n = negO n c % 2 ^ n := by unfold negO; rw [Nat.mod_mod]
  have hv := val_mod n (minusU c) (negO n c) hn (minusU_lt c) (negO_lt64 n c hn) e
  have hk : vK n (minusU c) = vK n (negO n c) := by unfold vK; rw [e]
  unfold patX
  rw [hv, hk]
theorem fcross_ok (n a b c d : Nat) (hn : Wd n) (ha : a < 2 ^ 64) (hb : b < 2 ^ 64) (hc : c < 2 ^ 64) (hd : d < 2 ^ 64) (w : World) :
    Calls Tryz.prog 11 #[.int .i64 n, .int .u64 a, .int .u64 b, .int .u64 c, .int .u64 d] w fun e w' => e = .returned (.tuple #[.int .u64 (patX n a b (negO n c) d : Nat), .nilIface]) ∧ Below w.heap.size w w' := by
  rw [← patX_minusU n a b c d hn hc]
  exact fcross_walk n a b c d (minusU c) _ _ (minusU_wrap c hc) (fpair_ok n a b (minusU c) d hn ha hb (minusU_lt c) hd) w
/-! ### Hypot -/
theorem fhyp_no (n : Int) (a b : Nat) (hn : isW n = false) (w : World) :
    Calls Tryz.prog 14 #[.int .i64 n, .int .u64 a, .int .u64 b] w fun e w' => e = .returned (.tuple #[.int .u64 0, codeV 2]) ∧ Below w.heap.size w w' := by
  have k1 := fprods_no n a a b b hn
  clear hn
  unfold exV at *
  refine cps fun Q hQ => ?_
  go_enter Tryz.func14, Tryz.ntmps14
  go_wp2_with (first
    | (go_at_call 24; go_must (refine (k1 _).mono ?_); rintro e w1 ⟨rfl, hb1⟩; have HB1 : Hid (Below _ _ _) := hb1; clear hb1))
  exact hQ.out _ _ ⟨rfl, cmore (cthen (Below.refl _ _) HB1.out) _⟩
theorem rootx_sum (T e : Int) (A : Prop) [Decidable A] (h : 0 ≤ T) :
    ∃ K B S H L R, (if A then exV 2 false 0 0 0 false else exI T e) = exV K B S H L R ∧ ∀ w, Calls Tryz.prog 29 #[exV K B S H L R] w fun e' w' => e' = .returned (.tuple #[(if A then exV 2 false 0 0 0 false else rootI T e), .nilIface]) ∧ Below w.heap.size w w' := by
  by_cases a : A
  · refine ⟨2, false, 0, 0, 0, false, by rw [if_pos a], fun w => ?_⟩
    rw [if_pos a]
    exact rootx_ok 2 false 0 0 0 false (by decide) (by decide) rfl w
  · obtain ⟨k, neg, s, hi, lo, rest, e1, e2, e3, e4, e5⟩ := root12_exI T e h
    refine ⟨k, neg, s, hi, lo, rest, by rw [if_neg a]; exact e1, fun w => ?_⟩
    rw [if_neg a, ← e5]
    exact rootx_ok k neg s hi lo rest e3 e4 e2 w
theorem sq_nonneg2 (x y : Int) : 0 ≤ x * x + y * y := by
  have h : ∀ z : Int, 0 ≤ z * z := fun z => by
    rcases Int.le_total 0 z with c | c
    · exact Int.mul_nonneg c c
    · exact Int.mul_nonneg_of_nonpos_of_nonpos c c
  have := h x
  have := h y
  omega
theorem fhyp_ok (n a b : Nat) (hn : Wd n) (ha : a < 2 ^ 64) (hb : b < 2 ^ 64) (w : World) :
    Calls Tryz.prog 14 #[.int .i64 n, .int .u64 a, .int .u64 b] w fun e w' => e = .returned (.tuple #[.int .u64 (patH n a b : Nat), .nilIface]) ∧ Below w.heap.size w w' := by
  have k1 := fprods_ok n a a b b hn ha ha hb hb
  have k3 := rround_rootI n (valI n a * valI n a + valI n b * valI n b) (eN + eN) ((vK n a = 2 ∨ vK n a = 2) ∨ (vK n b = 2 ∨ vK n b = 2)) hn
  rw [← patH_if] at k3
  obtain ⟨K2, B2, S2, H2, L2, R2, hform2, k2⟩ := rootx_sum (valI n a * valI n a + valI n b * valI n b) (eN + eN) ((vK n a = 2 ∨ vK n a = 2) ∨ (vK n b = 2 ∨ vK n b = 2)) (sq_nonneg2 _ _)
  obtain ⟨K3, B3, S3, H3, L3, R3, hform3⟩ := form_if (A := (vK n a = 2 ∨ vK n a = 2) ∨ (vK n b = 2 ∨ vK n b = 2)) ⟨2, false, 0, 0, 0, false, rfl⟩ (rootI_form (valI n a * valI n a + valI n b * valI n b) (eN + eN))
  rw [hform2] at k1
  rw [hform3] at k2 k3
  clear hform2 hform3 hn ha hb
  unfold exV at *
  generalize patH n a b = P at *
  refine cps fun Q hQ => ?_
  go_enter Tryz.func14, Tryz.ntmps14
  go_wp2_with (first
    | (go_at_call 24; go_must (refine (k1 _).mono ?_); rintro e w1 ⟨rfl, hb1⟩; have HB1 : Hid (Below _ _ _) := hb1; clear hb1)
    | (go_at_call 29; go_must (refine (k2 _).mono ?_); rintro e w2 ⟨rfl, hb2⟩; have R2_0 := (hb2.block (w1.heap.size) (by first | (simp; done) | (simp; omega) | omega)).trans (rownew' _ _ _ _ (by simp)); have z2_0 : w1.heap.size < w2.heap.size := Nat.lt_of_lt_of_le (by first | (simp; done) | (simp; omega) | omega) hb2.size; have HR2_0 : Hid _ := R2_0; clear R2_0; have HB2 : Hid (Below _ _ _) := hb2; clear hb2)
    | (go_at_call 20; go_must (refine (k3 _).mono ?_); rintro e w3 ⟨rfl, hb3⟩; have R3_0 := (hb3.block (w1.heap.size) (by first | (simp; done) | (simp; omega) | omega)).trans ((Below.heap_alloc _ _ _ (by first | (simp; done) | (simp; omega) | omega)).trans HR2_0.out); have z3_0 : w1.heap.size < w3.heap.size := Nat.lt_of_lt_of_le (by first | (simp; done) | (simp; omega) | omega) hb3.size; have HR3_0 : Hid _ := R3_0; clear R3_0; have R3_1 := (hb3.block (w2.heap.size) (by first | (simp; done) | (simp; omega) | omega)).trans (rownew' _ _ _ _ (by simp)); have z3_1 : w2.heap.size < w3.heap.size := Nat.lt_of_lt_of_le (by first | (simp; done) | (simp; omega) | omega) hb3.size; have HR3_1 : Hid _ := R3_1; clear R3_1; have HB3 : Hid (Below _ _ _) := hb3; clear hb3))
  exact hQ.out _ _ ⟨rfl, cthen (cmore (cthen (cmore (cthen (Below.refl _ _) HB1.out) _) HB2.out) _) HB3.out⟩
end Go.Proofs.YtheliihkkoohnaaGreat

namespace Go.Proofs.YtheliihkkoohnaaGreat
/-! ### the contracts of package fuse stand in FkI, FkJ -/
end Go.Proofs.YtheliihkkoohnaaGreat

namespace Go.Proofs.YtheliihkkoohnaaGreat
open Go.ChangeShapes Go.WideShapes Go.ChangeAt Go.RowKit
set_option linter.unusedVariables false
set_option linter.unusedSimpArgs false
set_option maxRecDepth 100000

end Go.Proofs.YtheliihkkoohnaaGreat

namespace Go.Proofs.YtheliihkkoohnaaGreat
open Go.ChangeShapes Go.WideShapes Go.ChangeAt Go.RowKit
set_option linter.unusedVariables false
set_option linter.unusedSimpArgs false
set_option maxRecDepth 100000

/-- the head of all laws of this layer -/
theorem fuseup_any (w : World) : Calls Tryz.prog 6 #[] w fun e w' => e = .returned (.bool true) ∧ Below w.heap.size w w' := by
  have k1 := fun w => ffma_ok 8 72 72 192 (.inl rfl) (by decide) (by decide) (by decide) w
  have k2 := fun w => ffma_ok 8 127 1 192 (.inl rfl) (by decide) (by decide) (by decide) w
  rw [show patF 8 72 72 192 = 76 by decide +kernel] at k1
  rw [show patF 8 127 1 192 = 0 by decide +kernel] at k2
  rw [show ((72 : Nat) : Int) = 72 from rfl, show ((192 : Nat) : Int) = 192 from rfl, show ((8 : Nat) : Int) = 8 from rfl, show ((76 : Nat) : Int) = 76 from rfl] at k1
  rw [show ((127 : Nat) : Int) = 127 from rfl, show ((1 : Nat) : Int) = 1 from rfl, show ((192 : Nat) : Int) = 192 from rfl, show ((8 : Nat) : Int) = 8 from rfl, show ((0 : Nat) : Int) = 0 from rfl] at k2
  refine cps fun Q hQ => ?_
  go_enter Tryz.func6, Tryz.ntmps6
  go_wp2_with (first
    | (go_at_call_of 7 (72 : Int); refine (k1 _).mono ?_; rintro e w1 ⟨rfl, hb1⟩)
    | (go_at_call 7; refine (k2 _).mono ?_; rintro e w2 ⟨rfl, hb2⟩))
  exact hQ.out _ _ ⟨rfl, cthen hb1 hb2⟩
end Go.Proofs.YtheliihkkoohnaaGreat
