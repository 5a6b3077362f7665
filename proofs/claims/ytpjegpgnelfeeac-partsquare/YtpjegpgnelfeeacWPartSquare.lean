import Derived.Test.YtpjegpgnelfeeacJoin2
import Derived.Test.YtpjegpgnelfeeacWPartRoots
namespace Go.Proofs.Ytpjegpgnelfeeac
open Go.ChangeShapes Go.WideShapes Go.ChangeAt Go.RowKit
set_option linter.unusedVariables false

set_option maxHeartbeats 4000000 in
theorem partSquare_walk (p1 p2 p3 : Int) (wp1 : (Lit.int .u64 p1).wf = true) (wp2 : (Lit.int .u64 p2).wf = true) (wp3 : (Lit.int .u64 p3).wf = true) (w : World) :
    Calls Try.prog 4 #[.agg #[.int .u64 p1, .int .u64 p2], .int .u64 p3] w fun e w' => e = .returned (.bool true) ∧ Below w.heap.size w w' := by
  refine cps fun Q hQ => ?_
  obtain ⟨p1, rfl, bp1⟩ := nat_of_u64 wp1
  obtain ⟨p2, rfl, bp2⟩ := nat_of_u64 wp2
  obtain ⟨a, ea⟩ : ∃ n, n = p1 * 18446744073709551616 + p2 := ⟨_, rfl⟩
  have ta : Tw a p1 p2 := ⟨ea, by omega, by omega⟩
  obtain ⟨x, rfl, bx⟩ := nat_of_u64 wp3
  obtain ⟨r, r1, r2⟩ := sq_some a
  have la := ta.lt
  have lr := sq_lt r1 la
  obtain ⟨h3, l3, t3⟩ := tw_some (n := a - r * r) (by omega)
  obtain ⟨h4, l4, t4⟩ := tw_some (n := r * r) (by omega)
  obtain ⟨h5, l5, t5⟩ := tw_some (n := r * 2 ^ 1) (by omega)
  obtain ⟨h6, l6, t6⟩ := tw_some (n := x * x) (by have := Nat.mul_le_mul (show x ≤ 18446744073709551615 by omega) (show x ≤ 18446744073709551615 by omega); omega)
  have k2 := fun w => proot_any ta r1 r2 t3 w
  have k3 := fun w => tmul_any (show r ≤ 18446744073709551615 by omega) (show r ≤ 18446744073709551615 by omega) t4 w
  have k4 := fun w => tadd_any (c := false) t4 t3 (h := p1) (l := p2) (by rw [show r * r + (a - r * r) = a by omega, Nat.mod_eq_of_lt la]; exact ta) (decide_eq_false (by omega)).symm w
  have k5 := fun w => tshl_any (a := r) (h1 := 0) (l1 := r) (c := false) 1 (by decide) ⟨by omega, by decide, by omega⟩ (h := h5) (l := l5) (by rw [Nat.mod_eq_of_lt (by omega)]; exact t5) (decide_eq_false (by omega)).symm w
  have k6 := fun w => tmul_any (show x ≤ 18446744073709551615 by omega) (show x ≤ 18446744073709551615 by omega) t6 w
  have k7 := fun w => proot_any t6 (r := x) (h := 0) (l := 0) (Nat.le_refl _) (by rw [Nat.mul_add, Nat.add_mul]; omega) (by rw [Nat.sub_self]; exact ⟨by decide, by decide, by decide⟩) w
  have k8 := fun w => tcmp_any t3 t5 w
  obtain ⟨y, hy⟩ : ∃ y, y = cmpN (a - r * r) (r * 2 ^ 1) := ⟨_, rfl⟩
  rw [← hy] at k8
  have y0 : y ≤ 0 := by
    rw [hy]
    have h : a - r * r ≤ r * 2 ^ 1 := by
      rw [Nat.mul_add, Nat.add_mul] at r2
      omega
    rcases Nat.lt_or_eq_of_le h with g | g
    · rw [cmpN_lt g]; decide
    · rw [g, cmpN_eq]; decide
  clear ta ea r1 r2 la lr t3 t4 t5 t6 hy
  go_enter Try.func4, Try.ntmps4
  go_upto_region 3 with (first
    | (go_at_call 5; refine (hup3_any _).mono ?_; rintro e w1 ⟨rfl, hb1⟩; have b0_1 := hb1; obtain ⟨hc0_1, hf0_1⟩ := bcell b0_1; have z0_0_1 : w.heap.size < w1.heap.size := (by have := b0_1.size; simp at this; omega))
    | (go_at_call 12; refine (k2 _).mono ?_; rintro e w2 ⟨rfl, hb2⟩; have b0_2 := bthen b0_1 hb2; obtain ⟨hc0_2, hf0_2⟩ := bcell b0_2; have z0_0_2 : w.heap.size < w2.heap.size := (by have := b0_2.size; simp at this; omega); clear hc0_1 hf0_1))
  obtain ⟨V, hV⟩ : ∃ V, V = w2.alloc (.cells #[.int .u64 h3, .int .u64 l3] 24) := ⟨_, rfl⟩
  have u0 : w.heap.size < V.heap.size := by rw [hV]; simp; omega
  have u2 : w2.heap.size < V.heap.size := by rw [hV]; simp
  have uw : w.heap.size < w2.heap.size := z0_0_2
  have cls : ∀ W, Below V.heap.size V W → W.cell? ⟨w.heap.size, 0, none⟩ = some (.int .u64 p1) ∧ W.cell? ⟨w.heap.size, 1, none⟩ = some (.int .u64 p2) ∧ W.cell? ⟨w2.heap.size, 0, none⟩ = some (.int .u64 h3) ∧ W.cell? ⟨w2.heap.size, 1, none⟩ = some (.int .u64 l3) := fun W hW => by
    obtain ⟨c, _⟩ := bcell hW
    rw [c _ _ u0, c _ _ u0, c _ _ u2, c _ _ u2, hV]
    simp [go_sem, hc0_2, uw]
  have r1 : Below V.heap.size V V := Below.refl _ _
  have H0 : Below w.heap.size w V := by rw [hV]; exact bmore (bthen (bmore (Below.refl _ _) _) b0_2) _
  rw [← hV]
  clear hV hc0_2 hf0_2
  go_cut [8, 9] from 21 (fun s11 s12 wx => ∃ n : Nat, s11 = .pointer (some ⟨n, 0, none⟩) ∧ s12 = .bool false ∧ Below V.heap.size V wx ∧ V.heap.size ≤ n ∧ n < wx.heap.size ∧
    wx.cell? ⟨n, 0, none⟩ = some (.int .u64 p1) ∧ wx.cell? ⟨n, 1, none⟩ = some (.int .u64 p2))
  case first =>
    refine wpC_region (fun W => W.cell? ⟨w.heap.size, 0, none⟩ = some (.int .u64 p1) ∧ W.cell? ⟨w.heap.size, 1, none⟩ = some (.int .u64 p2) ∧ W.cell? ⟨w2.heap.size, 0, none⟩ = some (.int .u64 h3) ∧ W.cell? ⟨w2.heap.size, 1, none⟩ = some (.int .u64 l3)) (by kernel_rfl) ?_
    refine wpC_take 0 (v := ?_) rfl (by kernel_rfl) (fun _ _ _ h => h) (by kernel_rfl) ?_ ?_; rotate_left; · (intro wC hC; obtain ⟨c1, c2, c3, c4⟩ := hC; go_simp <;> with_reducible rfl)
    refine wpC_take 1 (v := ?_) rfl (by kernel_rfl) (fun _ _ _ h => h) (by kernel_rfl) ?_ ?_; rotate_left; · (intro wC hC; obtain ⟨c1, c2, c3, c4⟩ := hC; go_simp <;> with_reducible rfl)
    refine wpC_take 3 (v := ?_) rfl (by kernel_rfl) (fun _ _ _ h => h) (by kernel_rfl) ?_ ?_; rotate_left; · (intro wC hC; obtain ⟨c1, c2, c3, c4⟩ := hC; go_simp <;> with_reducible rfl)
    refine wpC_two 2 8 rfl rfl (by kernel_rfl) (by kernel_rfl) (by kernel_rfl) (cls _ (bdrew r1)) (fun K hK => ?_) (fun K hK => ?_)
    · skip
      go_simp
      go_wp2_with ((go_at_call 9; refine (k3 _).mono ?_; rintro e w3 ⟨rfl, hb3⟩; have B3 := bthen (bdrew r1) hb3))
      try (refine hK _ _ ?_; clear hK K)
      have y3 : V.heap.size ≤ w3.heap.size := B3.size
      refine wpC_two 4 8 rfl rfl (by kernel_rfl) (by kernel_rfl) (by kernel_rfl) (cls _ B3) (fun K hK => ?_) (fun K hK => ?_)
      · skip
        go_simp
        go_wp2_with ((go_at_call 11; refine (k4 _).mono ?_; rintro e w4 ⟨rfl, hb4⟩; have B4 := bthen B3 hb4))
        try (refine hK _ _ ?_; clear hK K)
        have y4 : V.heap.size ≤ w4.heap.size := B4.size
        refine wpC_take 5 (v := ?_) rfl (by kernel_rfl) (fun _ _ _ h => h) (by kernel_rfl) ?_ ?_; rotate_left; · (intro wC hC; obtain ⟨c1, c2, c3, c4⟩ := hC; go_simp <;> with_reducible rfl)
        refine wpC_take 6 (v := ?_) rfl (by kernel_rfl) (fun _ _ _ h => h) (by kernel_rfl) ?_ ?_; rotate_left; · (intro wC hC; obtain ⟨c1, c2, c3, c4⟩ := hC; go_simp <;> with_reducible rfl)
        refine wpC_take 7 (v := ?_) rfl (by kernel_rfl) (fun _ _ _ h => h) (by kernel_rfl) ?_ ?_; rotate_left; · (intro wC hC; obtain ⟨c1, c2, c3, c4⟩ := hC; go_simp <;> with_reducible rfl)
        refine wpC_step 8 rfl (by kernel_rfl) (by kernel_rfl) (cls _ B4) (fun K hK => ?_)
        go_simp
        try (refine hK _ _ ?_; clear hK K)
        refine wpC_step 9 rfl (by kernel_rfl) (by kernel_rfl) (cls _ (bmore B4 _)) (fun K hK => ?_)
        go_simp
        try (refine hK _ _ ?_; clear hK K)
        refine wpC_step 10 rfl (by kernel_rfl) (by kernel_rfl) (cls _ (bmore B4 _)) (fun K hK => ?_)
        go_simp
        try (refine hK _ _ ?_; clear hK K)
        refine wpC_done (by kernel_rfl) (cls _ (bmore B4 _)) ?_
        go_wp2_with fail
        go_meet
        case rel =>
          refine ⟨_, rfl, rfl, bmore B4 _, y4, by simp, ?_, ?_⟩ <;> simp [go_sem]
      · skip
        go_simp
        try (refine hK _ _ ?_; clear hK K)
        refine wpC_step 4 rfl (by kernel_rfl) (by kernel_rfl) (cls _ (bmore B3 _)) (fun K hK => ?_)
        go_simp
        go_wp2_with ((go_at_call 11; refine (k4 _).mono ?_; rintro e w4 ⟨rfl, hb4⟩; have B4 := bthen (bmore B3 _) hb4; obtain ⟨hc4, hf4⟩ := bcell hb4; have y5 : w3.heap.size < w4.heap.size := (by have := hb4.size; simp at this; omega)))
        try (refine hK _ _ ?_; clear hK K)
        refine wpC_step 5 rfl (by kernel_rfl) (by kernel_rfl) (cls _ B4) (fun K hK => ?_)
        go_simp
        try (refine hK _ _ ?_; clear hK K)
        refine wpC_take 6 (v := ?_) rfl (by kernel_rfl) (fun _ _ _ h => h) (by kernel_rfl) ?_ ?_; rotate_left; · (intro wC hC; obtain ⟨c1, c2, c3, c4⟩ := hC; go_simp <;> with_reducible rfl)
        refine wpC_take 7 (v := ?_) rfl (by kernel_rfl) (fun _ _ _ h => h) (by kernel_rfl) ?_ ?_; rotate_left; · (intro wC hC; obtain ⟨c1, c2, c3, c4⟩ := hC; go_simp <;> with_reducible rfl)
        refine wpC_step 9 rfl (by kernel_rfl) (by kernel_rfl) (cls _ B4) (fun K hK => ?_)
        go_simp
        try (refine hK _ _ ?_; clear hK K)
        refine wpC_step 10 rfl (by kernel_rfl) (by kernel_rfl) (cls _ (bset (bset B4 y3 _ _) y3 _ _)) (fun K hK => ?_)
        go_simp
        try (refine hK _ _ ?_; clear hK K)
        refine wpC_done (by kernel_rfl) (cls _ (bset (bset B4 y3 _ _) y3 _ _)) ?_
        go_wp2_with fail
        go_meet
        case rel =>
          refine ⟨_, rfl, rfl, bset (bset B4 y3 _ _) y3 _ _, y3, by simp [y5], ?_, ?_⟩ <;> simp [go_sem, hc4]
    · skip
      go_simp
      try (refine hK _ _ ?_; clear hK K)
      refine wpC_step 2 rfl (by kernel_rfl) (by kernel_rfl) (cls _ (bmore (bdrew r1) _)) (fun K hK => ?_)
      go_simp
      go_wp2_with ((go_at_call 9; refine (k3 _).mono ?_; rintro e w3 ⟨rfl, hb3⟩; obtain ⟨hc3, hf3⟩ := bcell hb3; have B3 := bthen (bmore (bdrew r1) _) hb3; have y3 : V.heap.size < w3.heap.size := (by have := hb3.size; simp at this; omega)))
      try (refine hK _ _ ?_; clear hK K)
      refine wpC_step 4 rfl (by kernel_rfl) (by kernel_rfl) (cls _ B3) (fun K hK => ?_)
      go_simp
      go_wp2_with ((go_at_call 11; refine (k4 _).mono ?_; rintro e w4 ⟨rfl, hb4⟩; have B4 := bthen B3 hb4; obtain ⟨hc4, hf4⟩ := bcell hb4; have y5 : V.heap.size < w4.heap.size := (by have := hb4.size; omega)))
      try (refine hK _ _ ?_; clear hK K)
      refine wpC_step 5 rfl (by kernel_rfl) (by kernel_rfl) (cls _ B4) (fun K hK => ?_)
      go_simp
      try (refine hK _ _ ?_; clear hK K)
      refine wpC_take 6 (v := ?_) rfl (by kernel_rfl) (fun _ _ _ h => h) (by kernel_rfl) ?_ ?_; rotate_left; · (intro wC hC; obtain ⟨c1, c2, c3, c4⟩ := hC; go_simp <;> with_reducible rfl)
      refine wpC_take 7 (v := ?_) rfl (by kernel_rfl) (fun _ _ _ h => h) (by kernel_rfl) ?_ ?_; rotate_left; · (intro wC hC; obtain ⟨c1, c2, c3, c4⟩ := hC; go_simp <;> with_reducible rfl)
      refine wpC_step 9 rfl (by kernel_rfl) (by kernel_rfl) (cls _ B4) (fun K hK => ?_)
      go_simp
      try (refine hK _ _ ?_; clear hK K)
      refine wpC_step 10 rfl (by kernel_rfl) (by kernel_rfl) (cls _ (bset (bset B4 (Nat.le_refl _) _ _) (Nat.le_refl _) _ _)) (fun K hK => ?_)
      go_simp
      try (refine hK _ _ ?_; clear hK K)
      refine wpC_done (by kernel_rfl) (cls _ (bset (bset B4 (Nat.le_refl _) _ _) (Nat.le_refl _) _ _)) ?_
      go_wp2_with fail
      go_meet
      case rel =>
        refine ⟨_, rfl, rfl, bset (bset B4 (Nat.le_refl _) _ _) (Nat.le_refl _) _ _, Nat.le_refl _, by simp [y5], ?_, ?_⟩ <;> simp [go_sem, hc3, hc4, y3]
  case rest =>
    obtain ⟨n, rfl, rfl, HB, n1, n2, c5, c6⟩ := hcut
    obtain ⟨c1, c2, c3, c4⟩ := cls _ HB
    have H2 := bthen H0 HB
    have v0 : w.heap.size < wc.heap.size := by omega
    have v2 : w2.heap.size < wc.heap.size := by omega
    clear cls HB r1 H0 k2 k3 k4
    go_wp2_with (first
      | (go_at_call 10; refine (k5 _).mono ?_; rintro e w11 ⟨rfl, hb11⟩; have b0_11 := hb11; obtain ⟨hc0_11, hf0_11⟩ := bcell b0_11; have z0_0_11 : w.heap.size < w11.heap.size := (by have := b0_11.size; (try simp at this); omega); have z0_1_11 : w2.heap.size < w11.heap.size := (by have := b0_11.size; (try simp at this); omega); have z0_2_11 : n < w11.heap.size := (by have := b0_11.size; (try simp at this); omega))
      | (go_at_call 9; refine (k6 _).mono ?_; rintro e w12 ⟨rfl, hb12⟩; have b0_12 := bthen (bmore b0_11 _) hb12; obtain ⟨hc0_12, hf0_12⟩ := bcell b0_12; have z0_0_12 : w.heap.size < w12.heap.size := (by have := b0_12.size; (try simp at this); omega); have z0_1_12 : w2.heap.size < w12.heap.size := (by have := b0_12.size; (try simp at this); omega); have z0_2_12 : n < w12.heap.size := (by have := b0_12.size; (try simp at this); omega); clear hc0_11 hf0_11; have b11_12 := hb12; obtain ⟨hc11_12, hf11_12⟩ := bcell b11_12; have z11_0_12 : w11.heap.size < w12.heap.size := (by have := b11_12.size; (try simp at this); omega))
      | (go_at_call 12; refine (k7 _).mono ?_; rintro e w13 ⟨rfl, hb13⟩; have b0_13 := bthen b0_12 hb13; obtain ⟨hc0_13, hf0_13⟩ := bcell b0_13; have z0_0_13 : w.heap.size < w13.heap.size := (by have := b0_13.size; (try simp at this); omega); have z0_1_13 : w2.heap.size < w13.heap.size := (by have := b0_13.size; (try simp at this); omega); have z0_2_13 : n < w13.heap.size := (by have := b0_13.size; (try simp at this); omega); clear hc0_12 hf0_12; have b11_13 := bthen b11_12 hb13; obtain ⟨hc11_13, hf11_13⟩ := bcell b11_13; have z11_0_13 : w11.heap.size < w13.heap.size := (by have := b11_13.size; (try simp at this); omega); clear hc11_12 hf11_12)
      | (go_at_call 13; refine (k8 _).mono ?_; rintro e w14 ⟨rfl, hb14⟩; have b0_14 := bthen (bmore b0_13 _) hb14; obtain ⟨hc0_14, hf0_14⟩ := bcell b0_14; have z0_0_14 : w.heap.size < w14.heap.size := (by have := b0_14.size; (try simp at this); omega); have z0_1_14 : w2.heap.size < w14.heap.size := (by have := b0_14.size; (try simp at this); omega); have z0_2_14 : n < w14.heap.size := (by have := b0_14.size; (try simp at this); omega); clear hc0_13 hf0_13; have b11_14 := bthen (bmore b11_13 _) hb14; obtain ⟨hc11_14, hf11_14⟩ := bcell b11_14; have z11_0_14 : w11.heap.size < w14.heap.size := (by have := b11_14.size; (try simp at this); omega); clear hc11_13 hf11_13; have b13_14 := hb14; obtain ⟨hc13_14, hf13_14⟩ := bcell b13_14; have z13_0_14 : w13.heap.size < w14.heap.size := (by have := b13_14.size; (try simp at this); omega)))
    refine hQ.out _ _ ⟨by simp, ?_⟩
    exact bthen (bmore (bthen (bthen (bmore (bthen H2 hb11) _) hb12) hb13) _) hb14
end Go.Proofs.Ytpjegpgnelfeeac
