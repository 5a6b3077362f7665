import Derived.Test.YtajlgpamcpgalaaRkB
namespace Go.Proofs.Ytajlgpamcpgalaa
open Go.ChangeShapes Go.WideShapes Go.ChangeAt Go.RowKit
set_option linter.unusedVariables false
set_option linter.unusedSimpArgs false
set_option maxRecDepth 100000

/-! ### the string, cut -/
theorem pow_join (R room n : Nat) (h : room ≤ 62) : R * 2 ^ room < 2 ^ 64 → IntKind.u64.wrap ((R : Int) * 2 ^ room) = ((R * 2 ^ room : Nat) : Int) := by
  intro h2
  have e : ((R : Int) * 2 ^ room) = ((R * 2 ^ room : Nat) : Int) := by simp
  rw [e, wrapN, Nat.mod_eq_of_lt h2]
theorem tail_half (s : Int) (M : Nat) (h : Mant M) : tailN s M / 2 < 340282366920938463463374607431768211456 := by
  have := tail_lt s M h
  rw [show (2 : Nat) ^ 129 = 340282366920938463463374607431768211456 * 2 by decide] at this
  exact Nat.div_lt_of_lt_mul (by rw [Nat.mul_comm]; exact this)
theorem half_pow (x y : Nat) : (x * (2 ^ 127) + y) / 2 = x * 2 ^ 126 + y / 2 := by
  rw [show (2 : Nat) ^ 127 = 2 * 2 ^ 126 by decide, show x * (2 * 2 ^ 126) = 2 * (x * 2 ^ 126) by rw [Nat.mul_left_comm], Nat.mul_add_div (by decide)]
theorem tw_of {x : Nat} (h : x < 340282366920938463463374607431768211456) : ∃ a b, Tw x a b := ⟨x / 18446744073709551616, x % 18446744073709551616, by omega, by omega, by omega⟩
set_option maxHeartbeats 2000000 in
theorem rcutstr_any (n : Nat) (neg : Bool) (s : Int) (hi lo : Nat) (rest : Bool) (hn : Wd n) (h : WordsX hi lo) (h1 : s < 4 * n - 8) (h2 : 8 - 4 * (n : Int) ≤ s) (w : World) :
    Calls Try.prog 34 #[.int .i64 n, exV 1 neg s hi lo rest] w fun e w' => e = .returned (.tuple #[.int .u64 (numOf ((strX s hi lo).take (n - 1)) : Nat), .int .i64 (leftL ((strX s hi lo).drop (n - 1)) rest : Nat)]) ∧ Below w.heap.size w w' := by
  have hw := wd_le hn
  obtain ⟨hr1, hr2⟩ := head_room n s hn h1 h2
  obtain ⟨room, hroom⟩ : ∃ r, r = n - 1 - (headK (s / 4)).length := ⟨_, rfl⟩
  obtain ⟨B, hB⟩ : ∃ B, B = tailN s (manX hi lo) / 2 := ⟨_, rfl⟩
  obtain ⟨c1, c2, c3⟩ := cut_parts n s hi lo rest h hr1 hw.2 B room hB hroom
  have hrl := numOf_lt (headK (s / 4))
  have hBe : B = (s % 4).toNat * 2 ^ 126 + (manX hi lo - 2 ^ 127) / 2 := by
    rw [hB]; unfold tailN
    exact half_pow _ _
  have hBl : B < 340282366920938463463374607431768211456 := hB ▸ tail_half s (manX hi lo) h.mant
  obtain ⟨bh, bl, hTB⟩ : ∃ bh bl, Tw B bh bl := tw_of hBl
  have k2 := fun w => rtail_any (s % 4).toNat (by omega) 1 neg s hi lo rest h (hBe ▸ hTB) w
  have k1 := rrow_any (s / 4) (by omega) (by omega)
  obtain ⟨F, hF⟩ : ∃ F, F = B / 2 ^ (128 - room) := ⟨_, rfl⟩
  rw [← hF] at c1 c2
  have hr62 : room ≤ 62 := by omega
  have hF62 : F < 4611686018427387904 := Nat.lt_of_lt_of_le c2 (Nat.le_trans (Nat.pow_le_pow_right (by decide) hr62) (by decide))
  have hTF : Tw (B / 2 ^ (128 - room)) 0 F := ⟨by rw [← hF]; omega, by omega, by omega⟩
  have k3 := fun w => tshr_any (c := decide (B % 2 ^ (128 - room) ≠ 0)) (128 - room) (by omega) hTB hTF rfl w
  obtain ⟨L, hL⟩ : ∃ L, L = B * 2 ^ room % 2 ^ 128 := ⟨_, rfl⟩
  rw [← hL] at c3
  have hLl : L < 340282366920938463463374607431768211456 := by rw [hL]; exact Nat.mod_lt _ (by decide)
  obtain ⟨lh, ll, hTL⟩ : ∃ lh ll, Tw L lh ll := tw_of hLl
  have k4 := fun w => tshl_any (c := decide (340282366920938463463374607431768211456 ≤ B * 2 ^ room)) room (by omega) hTB (hL ▸ hTL) rfl w
  have k5 := rcompare_any (decide (lo % 2 = 1) || rest) hTL
  rw [← c3] at k5
  have hrun : numOf (headK (s / 4)) * 2 ^ room + 2 ^ room ≤ 2 ^ 63 := by
    rw [← Nat.succ_mul]
    refine Nat.le_trans (Nat.mul_le_mul_right _ hrl) ?_
    rw [← Nat.pow_add]
    exact Nat.pow_le_pow_right (by decide) (by omega)
  have w1 := pow_join (numOf (headK (s / 4))) room n hr62 (by omega)
  have w2 := u64_or_nat (numOf (headK (s / 4)) * 2 ^ room) F (by omega) (by omega)
  have w3 : (numOf (headK (s / 4)) * 2 ^ room) ||| F = numOf (headK (s / 4)) * 2 ^ room + F := by
    have := Nat.two_pow_add_eq_or_of_lt (i := room) (b := F) c2 (numOf (headK (s / 4)))
    rw [Nat.mul_comm (2 ^ room)] at this
    exact this.symm
  rw [w3, ← c1] at w2
  have e1 : IntKind.i64.wrap (s / 4 * 4) = s / 4 * 4 := wrapI (by omega)
  have e2 : IntKind.i64.wrap (s - s / 4 * 4) = (((s % 4).toNat : Nat) : Int) := by rw [wrapI (by omega)]; omega
  have e3 : IntKind.i64.wrap ((n : Int) - 1) = (n : Int) - 1 := wrapI (by omega)
  have e4 : IntKind.i64.wrap ((n : Int) - 1 - ((headK (s / 4)).length : Nat)) = (room : Int) := by rw [wrapI (by omega)]; omega
  have e5 : IntKind.i64.wrap (128 - (room : Int)) = ((128 - room : Nat) : Int) := by rw [wrapI (by omega)]; omega
  have g0 : (0 : Int) ≤ (room : Int) := by omega
  have gm : min room 64 = room := by omega
  clear hF hL hB hBe hBl hTB hTF hTL hLl hrun w3 hrl c1 c2 c3 hr1 hr2 hroom h1 h2 h hn
  generalize numOf (headK (s / 4)) * 2 ^ room = RR at *
  generalize numOf (headK (s / 4)) = R at *
  generalize (headK (s / 4)).length = size at *
  generalize leftL ((strX s hi lo).drop (n - 1)) rest = LF at *
  generalize numOf ((strX s hi lo).take (n - 1)) = P at *
  generalize decide (B % 2 ^ (128 - room) ≠ 0) = q1 at *
  generalize decide (340282366920938463463374607431768211456 ≤ B * 2 ^ room) = q2 at *
  generalize (decide (lo % 2 = 1) || rest) = rr at *
  generalize (s % 4).toNat = ee at *
  generalize 128 - room = j at *
  unfold exV at *
  refine cps fun Q hQ => ?_
  go_enter Try.func34, Try.ntmps34
  go_wp2_with (first
    | (go_at_call 60; refine (k1 _).mono ?_; rintro e wx ⟨rfl, hwx⟩; rw [hwx]; clear hwx wx)
    | (go_at_call 61; refine (k2 _).mono ?_; rintro e w1 ⟨rfl, hb1⟩; have z1 : w.heap.size < w1.heap.size := (by have := hb1.size; simp at this; omega); have HB1 : Hid (Below _ _ _) := cthen (cmore (Below.refl _ _) _) hb1; clear hb1)
    | (go_at_call 62; refine (k3 _).mono ?_; rintro e w2 ⟨rfl, hb2⟩; have R9 := (hb2.block w1.heap.size (by simp)).trans (rownew w1 _ _); have z2 : w1.heap.size < w2.heap.size := (by have := hb2.size; simp at this; omega); have x0 := rowcell R9 0; have x1 := rowcell R9 1; simp only [List.getElem?_toArray, List.getElem?_cons_zero, List.getElem?_cons_succ] at x0 x1; have HB2 : Hid (Below _ _ _) := cthen (cmore HB1.out _) hb2; have HR9 : Hid _ := R9; clear hb2 R9)
    | (go_at_call 63; refine (k4 _).mono ?_; rintro e w3 ⟨rfl, hb3⟩; have R12 := (hb3.block w2.heap.size (by simp)).trans (rownew w2 _ _); have z3 : w2.heap.size < w3.heap.size := (by have := hb3.size; simp at this; omega); have y0 := rowcell R12 0; have y1 := rowcell R12 1; simp only [List.getElem?_toArray, List.getElem?_cons_zero, List.getElem?_cons_succ] at y0 y1; have HB3 : Hid (Below _ _ _) := cthen (cmore HB2.out _) hb3; have HR12 : Hid _ := R12; clear hb3 R12))
  have R15 := rownew w3 #[.int .u64 lh, .int .u64 ll] 60
  have BW : Hid (Below _ _ _) := cmore HB3.out (.cells #[.int .u64 lh, .int .u64 ll] 60)
  have x120 := (Below.heap_alloc w3 (.cells #[.int .u64 lh, .int .u64 ll] 60) _ z3).trans HR12.out
  obtain ⟨W, hW⟩ : ∃ W, W = w3.alloc (.cells #[.int .u64 lh, .int .u64 ll] 60) := ⟨_, rfl⟩
  rw [← hW] at R15 x120 BW ⊢
  have u1 := rowcell x120 1
  have v0 := rowcell R15 0
  have v1 := rowcell R15 1
  simp only [List.getElem?_toArray, List.getElem?_cons_zero, List.getElem?_cons_succ] at u1 v0 v1
  clear hW
  refine wpC_region (fun W => W.cell? ⟨w2.heap.size, 1, none⟩ = some (.int .u64 F) ∧ W.cell? ⟨w3.heap.size, 0, none⟩ = some (.int .u64 lh) ∧ W.cell? ⟨w3.heap.size, 1, none⟩ = some (.int .u64 ll)) (by kernel_rfl) ?_
  refine wpC_take 0 (v := ?_) rfl (by kernel_rfl) (fun _ _ _ h => h) (by kernel_rfl) ?_ ?_; rotate_left; · (intro wC hC; obtain ⟨c1, c2, c3⟩ := hC; go_simp <;> with_reducible rfl)
  refine wpC_take 1 (v := ?_) rfl (by kernel_rfl) (fun _ _ _ h => h) (by kernel_rfl) ?_ ?_; rotate_left; · (intro wC hC; obtain ⟨c1, c2, c3⟩ := hC; go_simp <;> with_reducible rfl)
  refine wpC_take 2 (v := ?_) rfl (by kernel_rfl) (fun _ _ _ h => h) (by kernel_rfl) ?_ ?_; rotate_left; · (intro wC hC; obtain ⟨c1, c2, c3⟩ := hC; go_simp <;> with_reducible rfl)
  refine wpC_take 3 (v := ?_) rfl (by kernel_rfl) (fun _ _ _ h => h) (by kernel_rfl) ?_ ?_; rotate_left; · (intro wC hC; obtain ⟨c1, c2, c3⟩ := hC; go_simp <;> with_reducible rfl)
  refine wpC_take 4 (v := ?_) rfl (by kernel_rfl) (fun _ _ _ h => h) (by kernel_rfl) ?_ ?_; rotate_left; · (intro wC hC; obtain ⟨c1, c2, c3⟩ := hC; go_simp <;> with_reducible rfl)
  refine wpC_take 5 (v := ?_) rfl (by kernel_rfl) (fun _ _ _ h => h) (by kernel_rfl) ?_ ?_; rotate_left; · (intro wC hC; obtain ⟨c1, c2, c3⟩ := hC; go_simp <;> with_reducible rfl)
  refine wpC_take 6 (v := ?_) rfl (by kernel_rfl) (fun _ _ _ h => h) (by kernel_rfl) ?_ ?_; rotate_left; · (intro wC hC; obtain ⟨c1, c2, c3⟩ := hC; go_simp <;> with_reducible rfl)
  refine wpC_take 7 (v := ?_) rfl (by kernel_rfl) (fun _ _ _ h => h) (by kernel_rfl) ?_ ?_; rotate_left; · (intro wC hC; obtain ⟨c1, c2, c3⟩ := hC; go_simp <;> with_reducible rfl)
  refine wpC_step 8 rfl (by kernel_rfl) (by kernel_rfl) ⟨u1, v0, v1⟩ (fun K hK => ?_)
  go_simp
  go_wp2_with ((go_at_call 64; refine (k5 _).mono ?_; rintro e w5 ⟨rfl, hb5⟩))
  try (refine hK _ _ ?_; clear hK K)
  refine wpC_take 9 (v := ?_) rfl (by kernel_rfl) (fun _ _ _ h => h) (by kernel_rfl) ?_ ?_; rotate_left; · (intro wC hC; obtain ⟨c1, c2, c3⟩ := hC; go_simp <;> with_reducible rfl)
  refine wpC_take 10 (v := ?_) rfl (by kernel_rfl) (fun _ _ _ h => h) (by kernel_rfl) ?_ ?_; rotate_left; · (intro wC hC; obtain ⟨c1, c2, c3⟩ := hC; go_simp <;> with_reducible rfl)
  have bcl := cdrew (Below.refl W.heap.size W)
  refine wpC_done (by kernel_rfl) (by have z4 : w2.heap.size < W.heap.size := rowlt x120; have z5 : w3.heap.size < W.heap.size := rowlt R15; exact ⟨(hb5.cell (p := ⟨w2.heap.size, 1, none⟩) z4).trans u1, (hb5.cell (p := ⟨w3.heap.size, 0, none⟩) z5).trans v0, (hb5.cell (p := ⟨w3.heap.size, 1, none⟩) z5).trans v1⟩) ?_
  go_wp2
  go_ret2
  exact hQ.out _ _ ⟨rfl, cthen BW.out (cthen bcl hb5)⟩
end Go.Proofs.Ytajlgpamcpgalaa
