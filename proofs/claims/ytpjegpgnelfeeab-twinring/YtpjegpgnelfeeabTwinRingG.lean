import Derived.Test.YtpjegpgnelfeeabJoin2
import Derived.Test.YtpjegpgnelfeeabJoin1
namespace Go.Proofs.Ytpjegpgnelfeeab
open Go.ChangeShapes Go.WideShapes Go.ChangeAt Go.RowKit
set_option linter.unusedVariables false

theorem tw_all (n : Nat) (h : n < 340282366920938463463374607431768211456) : ∃ h l, Tw n h l := ⟨n / 18446744073709551616, n % 18446744073709551616, by omega, by omega, by omega⟩
theorem mul_lt (x y : Nat) (a : x ≤ 18446744073709551615) (b : y ≤ 18446744073709551615) : x * y < 340282366920938463463374607431768211456 := Nat.lt_of_le_of_lt (Nat.mul_le_mul a b) (by decide)
theorem tw_lt {n h l : Nat} (t : Tw n h l) : n < 340282366920938463463374607431768211456 := by obtain ⟨e, a, b⟩ := t; omega

set_option maxHeartbeats 8000000 in
theorem twinRing_walk (p1 p2 p3 p4 p5 p6 p7 : Int) (wp1 : (Lit.int .u64 p1).wf = true) (wp2 : (Lit.int .u64 p2).wf = true) (wp3 : (Lit.int .u64 p3).wf = true) (wp4 : (Lit.int .u64 p4).wf = true) (wp5 : (Lit.int .u64 p5).wf = true) (wp6 : (Lit.int .u64 p6).wf = true) (wp7 : (Lit.int .u64 p7).wf = true) (w : World) :
    Calls Try.prog 3 #[.agg #[.int .u64 p1, .int .u64 p2], .agg #[.int .u64 p3, .int .u64 p4], .int .u64 p5, .int .u64 p6, .int .u64 p7] w fun e w' => e = .returned (.bool true) ∧ Below w.heap.size w w' := by
  refine cps fun Q hQ => ?_
  obtain ⟨a, rfl, g1⟩ := nat_of_u64 wp1
  obtain ⟨b, rfl, g2⟩ := nat_of_u64 wp2
  obtain ⟨c, rfl, g3⟩ := nat_of_u64 wp3
  obtain ⟨d, rfl, g4⟩ := nat_of_u64 wp4
  obtain ⟨x, rfl, g5⟩ := nat_of_u64 wp5
  obtain ⟨y, rfl, g6⟩ := nat_of_u64 wp6
  obtain ⟨z, rfl, g7⟩ := nat_of_u64 wp7
  have b1 : a ≤ 18446744073709551615 := by omega
  have b2 : b ≤ 18446744073709551615 := by omega
  have b3 : c ≤ 18446744073709551615 := by omega
  have b4 : d ≤ 18446744073709551615 := by omega
  have b5 : x ≤ 18446744073709551615 := by omega
  have b6 : y ≤ 18446744073709551615 := by omega
  have b7 : z ≤ 18446744073709551615 := by omega
  obtain ⟨A, eA⟩ : ∃ A, A = a * 18446744073709551616 + b := ⟨_, rfl⟩
  obtain ⟨B, eB⟩ : ∃ B, B = c * 18446744073709551616 + d := ⟨_, rfl⟩
  have tA : Tw A a b := ⟨eA, b1, b2⟩
  have tB : Tw B c d := ⟨eB, b3, b4⟩
  have lA := tw_lt tA
  have lB := tw_lt tB
  obtain ⟨hs, ls, tS⟩ := tw_all ((A + B) % 340282366920938463463374607431768211456) (Nat.mod_lt _ (by decide))
  obtain ⟨C, hC⟩ : ∃ C, C = decide (340282366920938463463374607431768211456 ≤ A + B) := ⟨_, rfl⟩
  have k2 := fun w => tadd_any tA tB tS hC w
  have k3 := fun w => tadd_any (h := hs) (l := ls) (c := C) tB tA (by rw [Nat.add_comm]; exact tS) (by rw [Nat.add_comm]; exact hC) w
  have eS : ((A + B) % 340282366920938463463374607431768211456 + 340282366920938463463374607431768211456 - B) % 340282366920938463463374607431768211456 = A := by omega
  have k4 := fun w => tsub_any (h := a) (l := b) (c := C) tS tB (by rw [eS]; exact tA) (by rw [hC]; exact decide_eq_decide.2 (by omega)) w
  obtain ⟨hm, lm, tM⟩ := tw_all (x * y) (mul_lt x y b5 b6)
  have k5 := fun w => tmul_any b5 b6 tM w
  have k6 := fun w => tmul_any b6 b5 (by rw [Nat.mul_comm]; exact tM) w
  obtain ⟨hn, ln, tN⟩ := tw_all (x * z) (mul_lt x z b5 b7)
  have k7 := fun w => tmul_any b5 b7 tN w
  have hlast : y + z ≤ 18446744073709551615 → ∃ hq lq, Tw (x * (y + z)) hq lq ∧ ∀ w, Calls Try.prog 10 #[.agg #[.int .u64 hm, .int .u64 lm], .agg #[.int .u64 hn, .int .u64 ln]] w fun e w' => e = .returned (.tuple #[.agg #[.int .u64 hq, .int .u64 lq], .bool false]) ∧ Below w.heap.size w w' := by
    intro h
    have m3 := mul_lt x (y + z) b5 h
    obtain ⟨hq, lq, tQ⟩ := tw_all (x * (y + z)) m3
    refine ⟨hq, lq, tQ, fun w => tadd_any tM tN ?_ ?_ w⟩
    · rw [← Nat.mul_add, Nat.mod_eq_of_lt m3]; exact tQ
    · rw [← Nat.mul_add]; exact (decide_eq_false (by omega)).symm
  clear hC eS lA lB tA tB tS tM tN eA eB g1 g2 g3 g4 g5 g6 g7
  by_cases hov : y + z ≤ 18446744073709551615
  · obtain ⟨hq, lq, tQ, k8⟩ := hlast hov
    obtain ⟨s, hsu⟩ : ∃ s, s = y + z := ⟨_, rfl⟩
    have bs : s ≤ 18446744073709551615 := by omega
    have k9 := fun w => tmul_any b5 bs (by rw [hsu]; exact tQ) w
    have hyz : (y : Int) + z = s := by omega
    have hys : ¬ s < y := by omega
    have hws : IntKind.u64.wrap (s : Int) = s := by rw [IntKind.wrap_u64]; omega
    clear hlast hsu tQ
    go_enter Try.func3, Try.ntmps3
    go_wp2_with (first
      | (have chk := hb4; clear chk; go_at_call 12; refine (k5 _).mono ?_; rintro e w5 ⟨rfl, hb5⟩; have b0_5 := bthen (bmore b0_4 _) hb5; obtain ⟨hc0_5, hf0_5⟩ := bcell b0_5; have z0_0_5 : w.heap.size < w5.heap.size := (by have := b0_5.size; simp at this; omega); have z0_1_5 : w.heap.size + 1 < w5.heap.size := (by have := b0_5.size; simp at this; omega); clear hc0_4 hf0_4; have b2_5 := bthen (bmore b2_4 _) hb5; obtain ⟨hc2_5, hf2_5⟩ := bcell b2_5; have z2_0_5 : w2.heap.size < w5.heap.size := (by have := b2_5.size; simp at this; omega); clear hc2_4 hf2_4; have b3_5 := bthen (bmore b3_4 _) hb5; obtain ⟨hc3_5, hf3_5⟩ := bcell b3_5; have z3_0_5 : w3.heap.size < w5.heap.size := (by have := b3_5.size; simp at this; omega); clear hc3_4 hf3_4; have b4_5 := hb5; obtain ⟨hc4_5, hf4_5⟩ := bcell b4_5; have z4_0_5 : w4.heap.size < w5.heap.size := (by have := b4_5.size; simp at this; omega))
      | (have chk := hb3; clear chk; go_at_call 11; refine (k4 _).mono ?_; rintro e w4 ⟨rfl, hb4⟩; have b0_4 := bthen (bmore b0_3 _) hb4; obtain ⟨hc0_4, hf0_4⟩ := bcell b0_4; have z0_0_4 : w.heap.size < w4.heap.size := (by have := b0_4.size; simp at this; omega); have z0_1_4 : w.heap.size + 1 < w4.heap.size := (by have := b0_4.size; simp at this; omega); clear hc0_3 hf0_3; have b2_4 := bthen (bmore b2_3 _) hb4; obtain ⟨hc2_4, hf2_4⟩ := bcell b2_4; have z2_0_4 : w2.heap.size < w4.heap.size := (by have := b2_4.size; simp at this; omega); clear hc2_3 hf2_3; have b3_4 := hb4; obtain ⟨hc3_4, hf3_4⟩ := bcell b3_4; have z3_0_4 : w3.heap.size < w4.heap.size := (by have := b3_4.size; simp at this; omega))
      | (have chk := hb2; clear chk; go_at_call 10; refine (k3 _).mono ?_; rintro e w3 ⟨rfl, hb3⟩; have b0_3 := bthen (bmore b0_2 _) hb3; obtain ⟨hc0_3, hf0_3⟩ := bcell b0_3; have z0_0_3 : w.heap.size < w3.heap.size := (by have := b0_3.size; simp at this; omega); have z0_1_3 : w.heap.size + 1 < w3.heap.size := (by have := b0_3.size; simp at this; omega); clear hc0_2 hf0_2; have b2_3 := hb3; obtain ⟨hc2_3, hf2_3⟩ := bcell b2_3; have z2_0_3 : w2.heap.size < w3.heap.size := (by have := b2_3.size; simp at this; omega))
      | (have chk := hb1; clear chk; go_at_call 10; refine (k2 _).mono ?_; rintro e w2 ⟨rfl, hb2⟩; have b0_2 := bthen (b0_1) hb2; obtain ⟨hc0_2, hf0_2⟩ := bcell b0_2; have z0_0_2 : w.heap.size < w2.heap.size := (by have := b0_2.size; simp at this; omega); have z0_1_2 : w.heap.size + 1 < w2.heap.size := (by have := b0_2.size; simp at this; omega); clear hc0_1 hf0_1)
      | (go_at_call 9; refine (hup_any _).mono ?_; rintro e w1 ⟨rfl, hb1⟩; have b0_1 := hb1; obtain ⟨hc0_1, hf0_1⟩ := bcell b0_1; have z0_0_1 : w.heap.size < w1.heap.size := (by have := b0_1.size; simp at this; omega); have z0_1_1 : w.heap.size + 1 < w1.heap.size := (by have := b0_1.size; simp at this; omega)))
    refine wpC_region (fun W => W.cell? ⟨w5.heap.size, 0, none⟩ = some (.int .u64 hm) ∧ W.cell? ⟨w5.heap.size, 1, none⟩ = some (.int .u64 lm)) (by kernel_rfl) ?_
    refine wpC_take 0 (v := ?_) rfl (by kernel_rfl) (fun _ _ _ h => h) (by kernel_rfl) ?_ ?_; rotate_left; · (intro wC hC; obtain ⟨c1, c2⟩ := hC; go_simp <;> with_reducible rfl)
    refine wpC_take 1 (v := ?_) rfl (by kernel_rfl) (fun _ _ _ h => h) (by kernel_rfl) ?_ ?_; rotate_left; · (intro wC hC; obtain ⟨c1, c2⟩ := hC; go_simp <;> with_reducible rfl)
    refine wpC_take 2 (v := ?_) rfl (by kernel_rfl) (fun _ _ _ h => h) (by kernel_rfl) ?_ ?_; rotate_left; · (intro wC hC; obtain ⟨c1, c2⟩ := hC; go_simp <;> with_reducible rfl)
    refine wpC_step 3 rfl (by kernel_rfl) (by kernel_rfl) (by simp [go_sem]) (fun K hK => ?_)
    go_simp
    go_wp2_with ((go_at_call 12; refine (k6 _).mono ?_; rintro e w6 ⟨rfl, hb6⟩; obtain ⟨hc6, hf6⟩ := bcell hb6))
    try (refine hK _ _ ?_; clear hK K)
    refine wpC_step 4 rfl (by kernel_rfl) (by kernel_rfl) (by simp [go_sem, hc6]) (fun K hK => ?_)
    go_simp
    try (refine hK _ _ ?_; clear hK K)
    refine wpC_done (by kernel_rfl) (by simp [go_sem, hc6]) ?_
    go_wp2
    refine wpC_region (fun W => W.cell? ⟨w5.heap.size, 0, none⟩ = some (.int .u64 hm) ∧ W.cell? ⟨w5.heap.size, 1, none⟩ = some (.int .u64 lm)) (by kernel_rfl) ?_
    have H5 := bmore (bthen (bmore (bmore (Below.refl _ _) _) _) b0_5) (.cells #[.int .u64 hm, .int .u64 lm] 24)
    have H6 := bthen (bdrew H5) hb6
    have q56 : w5.heap.size < w6.heap.size := by have := hb6.size; simp at this; omega
    refine wpC_take 0 (v := ?_) rfl (by kernel_rfl) (fun _ _ _ h => h) (by kernel_rfl) ?_ ?_; rotate_left; · (intro wC hC; obtain ⟨c1, c2⟩ := hC; go_simp <;> with_reducible rfl)
    refine wpC_take 1 (v := ?_) rfl (by kernel_rfl) (fun _ _ _ h => h) (by kernel_rfl) ?_ ?_; rotate_left; · (intro wC hC; obtain ⟨c1, c2⟩ := hC; go_simp <;> with_reducible rfl)
    refine wpC_take 2 (v := ?_) rfl (by kernel_rfl) (fun _ _ _ h => h) (by kernel_rfl) ?_ ?_; rotate_left; · (intro wC hC; obtain ⟨c1, c2⟩ := hC; go_simp <;> with_reducible rfl)
    refine wpC_two 3 8 rfl rfl (by kernel_rfl) (by kernel_rfl) (by kernel_rfl) (by simp [go_sem, hc6]) (fun K hK => ?_) (fun K hK => ?_)
    · skip
      go_simp
      go_wp2_with ((go_at_call 12; refine (k7 _).mono ?_; rintro e w7 ⟨rfl, hb7⟩; have hb67 := bthen (bdrew hb6) hb7; obtain ⟨hc7, hf7⟩ := bcell hb67))
      try (refine hK _ _ ?_; clear hK K)
      have H7 := bthen (bdrew H6) hb7
      have q57 : w5.heap.size < w7.heap.size := by have := hb67.size; simp at this; omega
      have q0 : w.heap.size ≤ w7.heap.size := H7.size
      refine wpC_two 4 8 rfl rfl (by kernel_rfl) (by kernel_rfl) (by kernel_rfl) (by simp [go_sem, hc7]) (fun K hK => ?_) (fun K hK => ?_)
      · skip
        go_simp
        go_wp2_with ((go_at_call 10; refine (k8 _).mono ?_; rintro e w8 ⟨rfl, hb8⟩; have hb68 := bthen hb67 hb8; obtain ⟨hc8, hf8⟩ := bcell hb68))
        try (refine hK _ _ ?_; clear hK K)
        have q58 : w5.heap.size < w8.heap.size := by have := hb68.size; simp at this; omega
        refine wpC_take 5 (v := ?_) rfl (by kernel_rfl) (fun _ _ _ h => h) (by kernel_rfl) ?_ ?_; rotate_left; · (intro wC hC; obtain ⟨c1, c2⟩ := hC; go_simp <;> with_reducible rfl)
        refine wpC_take 6 (v := ?_) rfl (by kernel_rfl) (fun _ _ _ h => h) (by kernel_rfl) ?_ ?_; rotate_left; · (intro wC hC; obtain ⟨c1, c2⟩ := hC; go_simp <;> with_reducible rfl)
        refine wpC_take 7 (v := ?_) rfl (by kernel_rfl) (fun _ _ _ h => h) (by kernel_rfl) ?_ ?_; rotate_left; · (intro wC hC; obtain ⟨c1, c2⟩ := hC; go_simp <;> with_reducible rfl)
        refine wpC_step 8 rfl (by kernel_rfl) (by kernel_rfl) (by simp [go_sem, hc8]) (fun K hK => ?_)
        go_simp
        try (refine hK _ _ ?_; clear hK K)
        refine wpC_step 9 rfl (by kernel_rfl) (by kernel_rfl) (by simp [go_sem, hc8, q58]) (fun K hK => ?_)
        go_simp
        try (refine hK _ _ ?_; clear hK K)
        refine wpC_step 10 rfl (by kernel_rfl) (by kernel_rfl) (by simp [go_sem, hc8, q58]) (fun K hK => ?_)
        go_simp
        try (refine hK _ _ ?_; clear hK K)
        refine wpC_done (by kernel_rfl) (by simp [go_sem, hc8, q58]) ?_
        go_wp2
        refine wpC_region (fun W => W.cell? ⟨w8.heap.size, 0, none⟩ = some (.int .u64 hq) ∧ W.cell? ⟨w8.heap.size, 1, none⟩ = some (.int .u64 lq)) (by kernel_rfl) ?_
        refine wpC_step 0 rfl (by kernel_rfl) (by kernel_rfl) (by simp [go_sem]) (fun K hK => ?_)
        go_simp
        try (refine hK _ _ ?_; clear hK K)
        refine wpC_step 1 rfl (by kernel_rfl) (by kernel_rfl) (by simp [go_sem]) (fun K hK => ?_)
        go_simp
        try (refine hK _ _ ?_; clear hK K)
        refine wpC_step 2 rfl (by kernel_rfl) (by kernel_rfl) (by simp [go_sem]) (fun K hK => ?_)
        go_simp
        try (refine hK _ _ ?_; clear hK K)
        refine wpC_take 3 (v := ?_) rfl (by kernel_rfl) (fun _ _ _ h => h) (by kernel_rfl) ?_ ?_; rotate_left; · (intro wC hC; obtain ⟨c1, c2⟩ := hC; go_simp <;> with_reducible rfl)
        refine wpC_take 4 (v := ?_) rfl (by kernel_rfl) (fun _ _ _ h => h) (by kernel_rfl) ?_ ?_; rotate_left; · (intro wC hC; obtain ⟨c1, c2⟩ := hC; go_simp <;> with_reducible rfl)
        refine wpC_take 5 (v := ?_) rfl (by kernel_rfl) (fun _ _ _ h => h) (by kernel_rfl) ?_ ?_; rotate_left; · (intro wC hC; obtain ⟨c1, c2⟩ := hC; go_simp <;> with_reducible rfl)
        refine wpC_take 6 (v := ?_) rfl (by kernel_rfl) (fun _ _ _ h => h) (by kernel_rfl) ?_ ?_; rotate_left; · (intro wC hC; obtain ⟨c1, c2⟩ := hC; go_simp <;> with_reducible rfl)
        refine wpC_step 7 rfl (by kernel_rfl) (by kernel_rfl) (by simp [go_sem]) (fun K hK => ?_)
        go_simp
        try (refine hK _ _ ?_; clear hK K)
        refine wpC_step 8 rfl (by kernel_rfl) (by kernel_rfl) (by simp [go_sem]) (fun K hK => ?_)
        go_simp
        go_wp2_with ((go_at_call 12; refine (k9 _).mono ?_; rintro e w9 ⟨rfl, hb9⟩; obtain ⟨hc9, hf9⟩ := bcell hb9))
        try (refine hK _ _ ?_; clear hK K)
        refine wpC_step 9 rfl (by kernel_rfl) (by kernel_rfl) (by simp [go_sem, hc9]) (fun K hK => ?_)
        go_simp
        try (refine hK _ _ ?_; clear hK K)
        refine wpC_step 10 rfl (by kernel_rfl) (by kernel_rfl) (by simp [go_sem, hc9]) (fun K hK => ?_)
        go_simp
        try (refine hK _ _ ?_; clear hK K)
        refine wpC_step 11 rfl (by kernel_rfl) (by kernel_rfl) (by simp [go_sem, hc9]) (fun K hK => ?_)
        go_simp
        try (refine hK _ _ ?_; clear hK K)
        refine wpC_done (by kernel_rfl) (by simp [go_sem, hc9]) ?_
        go_wp2
        refine hQ.out _ _ ⟨by simp, ?_⟩
        exact bthen (bdrew (bmore (bthen H7 hb8) _)) hb9
      · skip
        go_simp
        try (refine hK _ _ ?_; clear hK K)
        refine wpC_step 4 rfl (by kernel_rfl) (by kernel_rfl) (by simp [go_sem, hc7, q57]) (fun K hK => ?_)
        go_simp
        go_wp2_with ((go_at_call 10; refine (k8 _).mono ?_; rintro e w8 ⟨rfl, hb8⟩; have hb68 := bthen (bmore hb67 _) hb8; obtain ⟨hc8, hf8⟩ := bcell hb68; obtain ⟨hd8, he8⟩ := bcell hb8; have q78 : w7.heap.size < w8.heap.size := (by have := hb8.size; simp at this; omega)))
        try (refine hK _ _ ?_; clear hK K)
        refine wpC_step 5 rfl (by kernel_rfl) (by kernel_rfl) (by simp [go_sem, hc8]) (fun K hK => ?_)
        go_simp
        try (refine hK _ _ ?_; clear hK K)
        refine wpC_take 6 (v := ?_) rfl (by kernel_rfl) (fun _ _ _ h => h) (by kernel_rfl) ?_ ?_; rotate_left; · (intro wC hC; obtain ⟨c1, c2⟩ := hC; go_simp <;> with_reducible rfl)
        refine wpC_take 7 (v := ?_) rfl (by kernel_rfl) (fun _ _ _ h => h) (by kernel_rfl) ?_ ?_; rotate_left; · (intro wC hC; obtain ⟨c1, c2⟩ := hC; go_simp <;> with_reducible rfl)
        refine wpC_step 9 rfl (by kernel_rfl) (by kernel_rfl) (by simp [go_sem, hc8]) (fun K hK => ?_)
        go_simp
        try (refine hK _ _ ?_; clear hK K)
        refine wpC_step 10 rfl (by kernel_rfl) (by kernel_rfl) (by simp [go_sem, hc8]) (fun K hK => ?_)
        go_simp
        try (refine hK _ _ ?_; clear hK K)
        refine wpC_done (by kernel_rfl) (by simp [go_sem, hc8]) ?_
        go_wp2
        refine wpC_region (fun W => W.cell? ⟨w7.heap.size, 0, none⟩ = some (.int .u64 hq) ∧ W.cell? ⟨w7.heap.size, 1, none⟩ = some (.int .u64 lq)) (by kernel_rfl) ?_
        refine wpC_step 0 rfl (by kernel_rfl) (by kernel_rfl) (by simp [go_sem, hd8]) (fun K hK => ?_)
        go_simp
        try (refine hK _ _ ?_; clear hK K)
        refine wpC_step 1 rfl (by kernel_rfl) (by kernel_rfl) (by simp [go_sem, hd8]) (fun K hK => ?_)
        go_simp
        try (refine hK _ _ ?_; clear hK K)
        refine wpC_step 2 rfl (by kernel_rfl) (by kernel_rfl) (by simp [go_sem, hd8]) (fun K hK => ?_)
        go_simp
        try (refine hK _ _ ?_; clear hK K)
        refine wpC_take 3 (v := ?_) rfl (by kernel_rfl) (fun _ _ _ h => h) (by kernel_rfl) ?_ ?_; rotate_left; · (intro wC hC; obtain ⟨c1, c2⟩ := hC; go_simp <;> with_reducible rfl)
        refine wpC_take 4 (v := ?_) rfl (by kernel_rfl) (fun _ _ _ h => h) (by kernel_rfl) ?_ ?_; rotate_left; · (intro wC hC; obtain ⟨c1, c2⟩ := hC; go_simp <;> with_reducible rfl)
        refine wpC_take 5 (v := ?_) rfl (by kernel_rfl) (fun _ _ _ h => h) (by kernel_rfl) ?_ ?_; rotate_left; · (intro wC hC; obtain ⟨c1, c2⟩ := hC; go_simp <;> with_reducible rfl)
        refine wpC_take 6 (v := ?_) rfl (by kernel_rfl) (fun _ _ _ h => h) (by kernel_rfl) ?_ ?_; rotate_left; · (intro wC hC; obtain ⟨c1, c2⟩ := hC; go_simp <;> with_reducible rfl)
        refine wpC_step 7 rfl (by kernel_rfl) (by kernel_rfl) (by simp [go_sem, hd8]) (fun K hK => ?_)
        go_simp
        try (refine hK _ _ ?_; clear hK K)
        refine wpC_step 8 rfl (by kernel_rfl) (by kernel_rfl) (by simp [go_sem, hd8]) (fun K hK => ?_)
        go_simp
        go_wp2_with ((go_at_call 12; refine (k9 _).mono ?_; rintro e w9 ⟨rfl, hb9⟩; obtain ⟨hc9, hf9⟩ := bcell hb9))
        try (refine hK _ _ ?_; clear hK K)
        refine wpC_step 9 rfl (by kernel_rfl) (by kernel_rfl) (by simp [go_sem, hc9, hd8, q78]) (fun K hK => ?_)
        go_simp
        try (refine hK _ _ ?_; clear hK K)
        refine wpC_step 10 rfl (by kernel_rfl) (by kernel_rfl) (by simp [go_sem, hc9, hd8, q78]) (fun K hK => ?_)
        go_simp
        try (refine hK _ _ ?_; clear hK K)
        refine wpC_step 11 rfl (by kernel_rfl) (by kernel_rfl) (by simp [go_sem, hc9, hd8, q78]) (fun K hK => ?_)
        go_simp
        try (refine hK _ _ ?_; clear hK K)
        refine wpC_done (by kernel_rfl) (by simp [go_sem, hc9, hd8, q78]) ?_
        go_wp2
        refine hQ.out _ _ ⟨by simp, ?_⟩
        exact bthen (bdrew (bset (bset (bthen (bmore H7 _) hb8) q0 _ _) q0 _ _)) hb9
    · skip
      go_simp
      try (refine hK _ _ ?_; clear hK K)
      have q0 : w.heap.size ≤ w6.heap.size := H6.size
      refine wpC_step 3 rfl (by kernel_rfl) (by kernel_rfl) (by simp [go_sem, hc6, q56]) (fun K hK => ?_)
      go_simp
      go_wp2_with ((go_at_call 12; refine (k7 _).mono ?_; rintro e w7 ⟨rfl, hb7⟩; have hb67 := bthen (bdrew (bmore hb6 _)) hb7; obtain ⟨hc7, hf7⟩ := bcell hb67))
      try (refine hK _ _ ?_; clear hK K)
      refine wpC_step 4 rfl (by kernel_rfl) (by kernel_rfl) (by simp [go_sem, hc7]) (fun K hK => ?_)
      go_simp
      go_wp2_with ((go_at_call 10; refine (k8 _).mono ?_; rintro e w8 ⟨rfl, hb8⟩; have hb68 := bthen hb67 hb8; obtain ⟨hc8, hf8⟩ := bcell hb68; have hb78 := bthen hb7 hb8; obtain ⟨hd8, he8⟩ := bcell hb78; have q78 : w6.heap.size < w8.heap.size := (by have := hb78.size; simp at this; omega)))
      try (refine hK _ _ ?_; clear hK K)
      refine wpC_step 5 rfl (by kernel_rfl) (by kernel_rfl) (by simp [go_sem, hc8]) (fun K hK => ?_)
      go_simp
      try (refine hK _ _ ?_; clear hK K)
      refine wpC_take 6 (v := ?_) rfl (by kernel_rfl) (fun _ _ _ h => h) (by kernel_rfl) ?_ ?_; rotate_left; · (intro wC hC; obtain ⟨c1, c2⟩ := hC; go_simp <;> with_reducible rfl)
      refine wpC_take 7 (v := ?_) rfl (by kernel_rfl) (fun _ _ _ h => h) (by kernel_rfl) ?_ ?_; rotate_left; · (intro wC hC; obtain ⟨c1, c2⟩ := hC; go_simp <;> with_reducible rfl)
      refine wpC_step 9 rfl (by kernel_rfl) (by kernel_rfl) (by simp [go_sem, hc8]) (fun K hK => ?_)
      go_simp
      try (refine hK _ _ ?_; clear hK K)
      refine wpC_step 10 rfl (by kernel_rfl) (by kernel_rfl) (by simp [go_sem, hc8]) (fun K hK => ?_)
      go_simp
      try (refine hK _ _ ?_; clear hK K)
      refine wpC_done (by kernel_rfl) (by simp [go_sem, hc8]) ?_
      go_wp2
      refine wpC_region (fun W => W.cell? ⟨w6.heap.size, 0, none⟩ = some (.int .u64 hq) ∧ W.cell? ⟨w6.heap.size, 1, none⟩ = some (.int .u64 lq)) (by kernel_rfl) ?_
      refine wpC_step 0 rfl (by kernel_rfl) (by kernel_rfl) (by simp [go_sem, hd8]) (fun K hK => ?_)
      go_simp
      try (refine hK _ _ ?_; clear hK K)
      refine wpC_step 1 rfl (by kernel_rfl) (by kernel_rfl) (by simp [go_sem, hd8]) (fun K hK => ?_)
      go_simp
      try (refine hK _ _ ?_; clear hK K)
      refine wpC_step 2 rfl (by kernel_rfl) (by kernel_rfl) (by simp [go_sem, hd8]) (fun K hK => ?_)
      go_simp
      try (refine hK _ _ ?_; clear hK K)
      refine wpC_take 3 (v := ?_) rfl (by kernel_rfl) (fun _ _ _ h => h) (by kernel_rfl) ?_ ?_; rotate_left; · (intro wC hC; obtain ⟨c1, c2⟩ := hC; go_simp <;> with_reducible rfl)
      refine wpC_take 4 (v := ?_) rfl (by kernel_rfl) (fun _ _ _ h => h) (by kernel_rfl) ?_ ?_; rotate_left; · (intro wC hC; obtain ⟨c1, c2⟩ := hC; go_simp <;> with_reducible rfl)
      refine wpC_take 5 (v := ?_) rfl (by kernel_rfl) (fun _ _ _ h => h) (by kernel_rfl) ?_ ?_; rotate_left; · (intro wC hC; obtain ⟨c1, c2⟩ := hC; go_simp <;> with_reducible rfl)
      refine wpC_take 6 (v := ?_) rfl (by kernel_rfl) (fun _ _ _ h => h) (by kernel_rfl) ?_ ?_; rotate_left; · (intro wC hC; obtain ⟨c1, c2⟩ := hC; go_simp <;> with_reducible rfl)
      refine wpC_step 7 rfl (by kernel_rfl) (by kernel_rfl) (by simp [go_sem, hd8]) (fun K hK => ?_)
      go_simp
      try (refine hK _ _ ?_; clear hK K)
      refine wpC_step 8 rfl (by kernel_rfl) (by kernel_rfl) (by simp [go_sem, hd8]) (fun K hK => ?_)
      go_simp
      go_wp2_with ((go_at_call 12; refine (k9 _).mono ?_; rintro e w9 ⟨rfl, hb9⟩; obtain ⟨hc9, hf9⟩ := bcell hb9))
      try (refine hK _ _ ?_; clear hK K)
      refine wpC_step 9 rfl (by kernel_rfl) (by kernel_rfl) (by simp [go_sem, hc9, hd8, q78]) (fun K hK => ?_)
      go_simp
      try (refine hK _ _ ?_; clear hK K)
      refine wpC_step 10 rfl (by kernel_rfl) (by kernel_rfl) (by simp [go_sem, hc9, hd8, q78]) (fun K hK => ?_)
      go_simp
      try (refine hK _ _ ?_; clear hK K)
      refine wpC_step 11 rfl (by kernel_rfl) (by kernel_rfl) (by simp [go_sem, hc9, hd8, q78]) (fun K hK => ?_)
      go_simp
      try (refine hK _ _ ?_; clear hK K)
      refine wpC_done (by kernel_rfl) (by simp [go_sem, hc9, hd8, q78]) ?_
      go_wp2
      refine hQ.out _ _ ⟨by simp, ?_⟩
      exact bthen (bdrew (bset (bset (bthen (bdrew (bmore H6 _)) hb78) q0 _ _) q0 _ _)) hb9
  · have hyz : IntKind.u64.wrap ((y : Int) + z) < y := by rw [IntKind.wrap_u64]; omega
    clear hlast
    go_enter Try.func3, Try.ntmps3
    go_wp2_with (first
      | (have chk := hb4; clear chk; go_at_call 12; refine (k5 _).mono ?_; rintro e w5 ⟨rfl, hb5⟩; have b0_5 := bthen (bmore b0_4 _) hb5; obtain ⟨hc0_5, hf0_5⟩ := bcell b0_5; have z0_0_5 : w.heap.size < w5.heap.size := (by have := b0_5.size; simp at this; omega); have z0_1_5 : w.heap.size + 1 < w5.heap.size := (by have := b0_5.size; simp at this; omega); clear hc0_4 hf0_4; have b2_5 := bthen (bmore b2_4 _) hb5; obtain ⟨hc2_5, hf2_5⟩ := bcell b2_5; have z2_0_5 : w2.heap.size < w5.heap.size := (by have := b2_5.size; simp at this; omega); clear hc2_4 hf2_4; have b3_5 := bthen (bmore b3_4 _) hb5; obtain ⟨hc3_5, hf3_5⟩ := bcell b3_5; have z3_0_5 : w3.heap.size < w5.heap.size := (by have := b3_5.size; simp at this; omega); clear hc3_4 hf3_4; have b4_5 := hb5; obtain ⟨hc4_5, hf4_5⟩ := bcell b4_5; have z4_0_5 : w4.heap.size < w5.heap.size := (by have := b4_5.size; simp at this; omega))
      | (have chk := hb3; clear chk; go_at_call 11; refine (k4 _).mono ?_; rintro e w4 ⟨rfl, hb4⟩; have b0_4 := bthen (bmore b0_3 _) hb4; obtain ⟨hc0_4, hf0_4⟩ := bcell b0_4; have z0_0_4 : w.heap.size < w4.heap.size := (by have := b0_4.size; simp at this; omega); have z0_1_4 : w.heap.size + 1 < w4.heap.size := (by have := b0_4.size; simp at this; omega); clear hc0_3 hf0_3; have b2_4 := bthen (bmore b2_3 _) hb4; obtain ⟨hc2_4, hf2_4⟩ := bcell b2_4; have z2_0_4 : w2.heap.size < w4.heap.size := (by have := b2_4.size; simp at this; omega); clear hc2_3 hf2_3; have b3_4 := hb4; obtain ⟨hc3_4, hf3_4⟩ := bcell b3_4; have z3_0_4 : w3.heap.size < w4.heap.size := (by have := b3_4.size; simp at this; omega))
      | (have chk := hb2; clear chk; go_at_call 10; refine (k3 _).mono ?_; rintro e w3 ⟨rfl, hb3⟩; have b0_3 := bthen (bmore b0_2 _) hb3; obtain ⟨hc0_3, hf0_3⟩ := bcell b0_3; have z0_0_3 : w.heap.size < w3.heap.size := (by have := b0_3.size; simp at this; omega); have z0_1_3 : w.heap.size + 1 < w3.heap.size := (by have := b0_3.size; simp at this; omega); clear hc0_2 hf0_2; have b2_3 := hb3; obtain ⟨hc2_3, hf2_3⟩ := bcell b2_3; have z2_0_3 : w2.heap.size < w3.heap.size := (by have := b2_3.size; simp at this; omega))
      | (have chk := hb1; clear chk; go_at_call 10; refine (k2 _).mono ?_; rintro e w2 ⟨rfl, hb2⟩; have b0_2 := bthen (b0_1) hb2; obtain ⟨hc0_2, hf0_2⟩ := bcell b0_2; have z0_0_2 : w.heap.size < w2.heap.size := (by have := b0_2.size; simp at this; omega); have z0_1_2 : w.heap.size + 1 < w2.heap.size := (by have := b0_2.size; simp at this; omega); clear hc0_1 hf0_1)
      | (go_at_call 9; refine (hup_any _).mono ?_; rintro e w1 ⟨rfl, hb1⟩; have b0_1 := hb1; obtain ⟨hc0_1, hf0_1⟩ := bcell b0_1; have z0_0_1 : w.heap.size < w1.heap.size := (by have := b0_1.size; simp at this; omega); have z0_1_1 : w.heap.size + 1 < w1.heap.size := (by have := b0_1.size; simp at this; omega)))
    refine wpC_region (fun W => W.cell? ⟨w5.heap.size, 0, none⟩ = some (.int .u64 hm) ∧ W.cell? ⟨w5.heap.size, 1, none⟩ = some (.int .u64 lm)) (by kernel_rfl) ?_
    refine wpC_take 0 (v := ?_) rfl (by kernel_rfl) (fun _ _ _ h => h) (by kernel_rfl) ?_ ?_; rotate_left; · (intro wC hC; obtain ⟨c1, c2⟩ := hC; go_simp <;> with_reducible rfl)
    refine wpC_take 1 (v := ?_) rfl (by kernel_rfl) (fun _ _ _ h => h) (by kernel_rfl) ?_ ?_; rotate_left; · (intro wC hC; obtain ⟨c1, c2⟩ := hC; go_simp <;> with_reducible rfl)
    refine wpC_take 2 (v := ?_) rfl (by kernel_rfl) (fun _ _ _ h => h) (by kernel_rfl) ?_ ?_; rotate_left; · (intro wC hC; obtain ⟨c1, c2⟩ := hC; go_simp <;> with_reducible rfl)
    refine wpC_step 3 rfl (by kernel_rfl) (by kernel_rfl) (by simp [go_sem]) (fun K hK => ?_)
    go_simp
    go_wp2_with ((go_at_call 12; refine (k6 _).mono ?_; rintro e w6 ⟨rfl, hb6⟩; obtain ⟨hc6, hf6⟩ := bcell hb6))
    try (refine hK _ _ ?_; clear hK K)
    refine wpC_step 4 rfl (by kernel_rfl) (by kernel_rfl) (by simp [go_sem, hc6]) (fun K hK => ?_)
    go_simp
    try (refine hK _ _ ?_; clear hK K)
    refine wpC_done (by kernel_rfl) (by simp [go_sem, hc6]) ?_
    go_wp2
    refine hQ.out _ _ ⟨by simp, ?_⟩
    exact bthen (bdrew (bmore (bthen (bmore (bmore (Below.refl _ _) _) _) b0_5) _)) hb6
end Go.Proofs.Ytpjegpgnelfeeab
