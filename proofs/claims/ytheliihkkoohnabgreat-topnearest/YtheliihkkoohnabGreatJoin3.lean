import Derived.Test.YtheliihkkoohnabGreatJoin2
import Derived.Test.YtheliihkkoohnabGreatJoin1
import Derived.Laws.AppendOwnNone
namespace Go.Proofs.YtheliihkkoohnabGreat
open Go.ChangeShapes Go.WideShapes Go.ChangeAt Go.RowKit
set_option linter.unusedVariables false
set_option linter.unusedSimpArgs false
set_option maxRecDepth 100000

/-! ### the string, cut -/
theorem pow_join (R room n : Nat) (h : room ≤ 62) : R * 2 ^ room < 2 ^ 64 → IntKind.u64.wrap ((R : Int) * 2 ^ room) = ((R * 2 ^ room : Nat) : Int) := by
  intro h2
  have e : ((R : Int) * 2 ^ room) = ((R * 2 ^ room : Nat) : Int) := by simp
  rw [e, wrapN, Nat.mod_eq_of_lt h2]
theorem tail_half (s : Int) (M : Nat) (h : Mant M) : tailN s M / 2 < 340282366920938463463374607431768211456 := by
  have := tail_lt s M h
  rw [show (2 : Nat) ^ 129 = 340282366920938463463374607431768211456 * 2 by decide] at this
  exact Nat.div_lt_of_lt_mul (by rw [Nat.mul_comm]; exact this)
theorem half_pow (x y : Nat) : (x * (2 ^ 127) + y) / 2 = x * 2 ^ 126 + y / 2 := by
  rw [show (2 : Nat) ^ 127 = 2 * 2 ^ 126 by decide, show x * (2 * 2 ^ 126) = 2 * (x * 2 ^ 126) by rw [Nat.mul_left_comm], Nat.mul_add_div (by decide)]
theorem tw_of {x : Nat} (h : x < 340282366920938463463374607431768211456) : ∃ a b, Tw x a b := ⟨x / 18446744073709551616, x % 18446744073709551616, by omega, by omega, by omega⟩
set_option maxHeartbeats 2000000 in
theorem rcutstr_any (n : Nat) (neg : Bool) (s : Int) (hi lo : Nat) (rest : Bool) (hn : Wd n) (h : WordsX hi lo) (h1 : s < 4 * n - 8) (h2 : 8 - 4 * (n : Int) ≤ s) (w : World) :
    Calls Tryz.prog 76 #[.int .i64 n, exV 1 neg s hi lo rest] w fun e w' => e = .returned (.tuple #[.int .u64 (numOf ((strX s hi lo).take (n - 1)) : Nat), .int .i64 (leftL ((strX s hi lo).drop (n - 1)) rest : Nat)]) ∧ Below w.heap.size w w' := by
  have hw := wd_le hn
  obtain ⟨hr1, hr2⟩ := head_room n s hn h1 h2
  obtain ⟨room, hroom⟩ : ∃ r, r = n - 1 - (headK (s / 4)).length := ⟨_, rfl⟩
  obtain ⟨B, hB⟩ : ∃ B, B = tailN s (manX hi lo) / 2 := ⟨_, rfl⟩
  obtain ⟨c1, c2, c3⟩ := cut_parts n s hi lo rest h hr1 hw.2 B room hB hroom
  have hrl := numOf_lt (headK (s / 4))
  have hBe : B = (s % 4).toNat * 2 ^ 126 + (manX hi lo - 2 ^ 127) / 2 := by
    rw [hB]; unfold tailN
    exact half_pow _ _
  have hBl : B < 340282366920938463463374607431768211456 := hB ▸ tail_half s (manX hi lo) h.mant
  obtain ⟨bh, bl, hTB⟩ : ∃ bh bl, Tw B bh bl := tw_of hBl
  have k2 := fun w => rtail_any (s % 4).toNat (by omega) 1 neg s hi lo rest h (hBe ▸ hTB) w
  have k1 := rrow_any (s / 4) (by omega) (by omega)
  obtain ⟨F, hF⟩ : ∃ F, F = B / 2 ^ (128 - room) := ⟨_, rfl⟩
  rw [← hF] at c1 c2
  have hr62 : room ≤ 62 := by omega
  have hF62 : F < 4611686018427387904 := Nat.lt_of_lt_of_le c2 (Nat.le_trans (Nat.pow_le_pow_right (by decide) hr62) (by decide))
  have hTF : Tw (B / 2 ^ (128 - room)) 0 F := ⟨by rw [← hF]; omega, by omega, by omega⟩
  have k3 := fun w => tshr_any (c := decide (B % 2 ^ (128 - room) ≠ 0)) (128 - room) (by omega) hTB hTF rfl w
  obtain ⟨L, hL⟩ : ∃ L, L = B * 2 ^ room % 2 ^ 128 := ⟨_, rfl⟩
  rw [← hL] at c3
  have hLl : L < 340282366920938463463374607431768211456 := by rw [hL]; exact Nat.mod_lt _ (by decide)
  obtain ⟨lh, ll, hTL⟩ : ∃ lh ll, Tw L lh ll := tw_of hLl
  have k4 := fun w => tshl_any (c := decide (340282366920938463463374607431768211456 ≤ B * 2 ^ room)) room (by omega) hTB (hL ▸ hTL) rfl w
  have k5 := rcompare_any (decide (lo % 2 = 1) || rest) hTL
  rw [← c3] at k5
  have hrun : numOf (headK (s / 4)) * 2 ^ room + 2 ^ room ≤ 2 ^ 63 := by
    rw [← Nat.succ_mul]
    refine Nat.le_trans (Nat.mul_le_mul_right _ hrl) ?_
    rw [← Nat.pow_add]
    exact Nat.pow_le_pow_right (by decide) (by omega)
  have w1 := pow_join (numOf (headK (s / 4))) room n hr62 (by omega)
  have w2 := u64_or_nat (numOf (headK (s / 4)) * 2 ^ room) F (by omega) (by omega)
  have w3 : (numOf (headK (s / 4)) * 2 ^ room) ||| F = numOf (headK (s / 4)) * 2 ^ room + F := by
    have := Nat.two_pow_add_eq_or_of_lt (i := room) (b := F) c2 (numOf (headK (s / 4)))
    rw [Nat.mul_comm (2 ^ room)] at this
    exact this.symm
  rw [w3, ← c1] at w2
  have e1 : IntKind.i64.wrap (s / 4 * 4) = s / 4 * 4 := wrapI (by omega)
  have e2 : IntKind.i64.wrap (s - s / 4 * 4) = (((s % 4).toNat : Nat) : Int) := by rw [wrapI (by omega)]; omega
  have e3 : IntKind.i64.wrap ((n : Int) - 1) = (n : Int) - 1 := wrapI (by omega)
  have e4 : IntKind.i64.wrap ((n : Int) - 1 - ((headK (s / 4)).length : Nat)) = (room : Int) := by rw [wrapI (by omega)]; omega
  have e5 : IntKind.i64.wrap (128 - (room : Int)) = ((128 - room : Nat) : Int) := by rw [wrapI (by omega)]; omega
  have g0 : (0 : Int) ≤ (room : Int) := by omega
  have gm : min room 64 = room := by omega
  clear hF hL hB hBe hBl hTB hTF hTL hLl hrun w3 hrl c1 c2 c3 hr1 hr2 hroom h1 h2 h hn
  generalize numOf (headK (s / 4)) * 2 ^ room = RR at *
  generalize numOf (headK (s / 4)) = R at *
  generalize (headK (s / 4)).length = size at *
  generalize leftL ((strX s hi lo).drop (n - 1)) rest = LF at *
  generalize numOf ((strX s hi lo).take (n - 1)) = P at *
  generalize decide (B % 2 ^ (128 - room) ≠ 0) = q1 at *
  generalize decide (340282366920938463463374607431768211456 ≤ B * 2 ^ room) = q2 at *
  generalize (decide (lo % 2 = 1) || rest) = rr at *
  generalize (s % 4).toNat = ee at *
  generalize 128 - room = j at *
  unfold exV at *
  refine cps fun Q hQ => ?_
  go_enter Tryz.func76, Tryz.ntmps76
  go_wp2_with (first
    | (go_at_call 99; refine (k1 _).mono ?_; rintro e wx ⟨rfl, hwx⟩; rw [hwx]; clear hwx wx)
    | (go_at_call 100; refine (k2 _).mono ?_; rintro e w1 ⟨rfl, hb1⟩; have z1 : w.heap.size < w1.heap.size := (by have := hb1.size; simp at this; omega); have HB1 : Hid (Below _ _ _) := cthen (cmore (Below.refl _ _) _) hb1; clear hb1)
    | (go_at_call 80; refine (k3 _).mono ?_; rintro e w2 ⟨rfl, hb2⟩; have R9 := (hb2.block w1.heap.size (by simp)).trans (rownew w1 _ _); have z2 : w1.heap.size < w2.heap.size := (by have := hb2.size; simp at this; omega); have x0 := rowcell R9 0; have x1 := rowcell R9 1; simp only [List.getElem?_toArray, List.getElem?_cons_zero, List.getElem?_cons_succ] at x0 x1; have HB2 : Hid (Below _ _ _) := cthen (cmore HB1.out _) hb2; have HR9 : Hid _ := R9; clear hb2 R9)
    | (go_at_call 96; refine (k4 _).mono ?_; rintro e w3 ⟨rfl, hb3⟩; have R12 := (hb3.block w2.heap.size (by simp)).trans (rownew w2 _ _); have z3 : w2.heap.size < w3.heap.size := (by have := hb3.size; simp at this; omega); have y0 := rowcell R12 0; have y1 := rowcell R12 1; simp only [List.getElem?_toArray, List.getElem?_cons_zero, List.getElem?_cons_succ] at y0 y1; have HB3 : Hid (Below _ _ _) := cthen (cmore HB2.out _) hb3; have HR12 : Hid _ := R12; clear hb3 R12))
  have R15 := rownew w3 #[.int .u64 lh, .int .u64 ll] 91
  have BW : Hid (Below _ _ _) := cmore HB3.out (.cells #[.int .u64 lh, .int .u64 ll] 91)
  have x120 := (Below.heap_alloc w3 (.cells #[.int .u64 lh, .int .u64 ll] 91) _ z3).trans HR12.out
  obtain ⟨W, hW⟩ : ∃ W, W = w3.alloc (.cells #[.int .u64 lh, .int .u64 ll] 91) := ⟨_, rfl⟩
  rw [← hW] at R15 x120 BW ⊢
  have u1 := rowcell x120 1
  have v0 := rowcell R15 0
  have v1 := rowcell R15 1
  simp only [List.getElem?_toArray, List.getElem?_cons_zero, List.getElem?_cons_succ] at u1 v0 v1
  clear hW
  refine wpC_region (fun W => W.cell? ⟨w2.heap.size, 1, none⟩ = some (.int .u64 F) ∧ W.cell? ⟨w3.heap.size, 0, none⟩ = some (.int .u64 lh) ∧ W.cell? ⟨w3.heap.size, 1, none⟩ = some (.int .u64 ll)) (by kernel_rfl) ?_
  refine wpC_take 0 (v := ?_) rfl (by kernel_rfl) (fun _ _ _ h => h) (by kernel_rfl) ?_ ?_; rotate_left; · (intro wC hC; obtain ⟨c1, c2, c3⟩ := hC; go_simp <;> with_reducible rfl)
  refine wpC_take 1 (v := ?_) rfl (by kernel_rfl) (fun _ _ _ h => h) (by kernel_rfl) ?_ ?_; rotate_left; · (intro wC hC; obtain ⟨c1, c2, c3⟩ := hC; go_simp <;> with_reducible rfl)
  refine wpC_take 2 (v := ?_) rfl (by kernel_rfl) (fun _ _ _ h => h) (by kernel_rfl) ?_ ?_; rotate_left; · (intro wC hC; obtain ⟨c1, c2, c3⟩ := hC; go_simp <;> with_reducible rfl)
  refine wpC_take 3 (v := ?_) rfl (by kernel_rfl) (fun _ _ _ h => h) (by kernel_rfl) ?_ ?_; rotate_left; · (intro wC hC; obtain ⟨c1, c2, c3⟩ := hC; go_simp <;> with_reducible rfl)
  refine wpC_take 4 (v := ?_) rfl (by kernel_rfl) (fun _ _ _ h => h) (by kernel_rfl) ?_ ?_; rotate_left; · (intro wC hC; obtain ⟨c1, c2, c3⟩ := hC; go_simp <;> with_reducible rfl)
  refine wpC_take 5 (v := ?_) rfl (by kernel_rfl) (fun _ _ _ h => h) (by kernel_rfl) ?_ ?_; rotate_left; · (intro wC hC; obtain ⟨c1, c2, c3⟩ := hC; go_simp <;> with_reducible rfl)
  refine wpC_take 6 (v := ?_) rfl (by kernel_rfl) (fun _ _ _ h => h) (by kernel_rfl) ?_ ?_; rotate_left; · (intro wC hC; obtain ⟨c1, c2, c3⟩ := hC; go_simp <;> with_reducible rfl)
  refine wpC_take 7 (v := ?_) rfl (by kernel_rfl) (fun _ _ _ h => h) (by kernel_rfl) ?_ ?_; rotate_left; · (intro wC hC; obtain ⟨c1, c2, c3⟩ := hC; go_simp <;> with_reducible rfl)
  refine wpC_step 8 rfl (by kernel_rfl) (by kernel_rfl) ⟨u1, v0, v1⟩ (fun K hK => ?_)
  go_simp
  go_wp2_with ((go_at_call 101; refine (k5 _).mono ?_; rintro e w5 ⟨rfl, hb5⟩))
  try (refine hK _ _ ?_; clear hK K)
  refine wpC_take 9 (v := ?_) rfl (by kernel_rfl) (fun _ _ _ h => h) (by kernel_rfl) ?_ ?_; rotate_left; · (intro wC hC; obtain ⟨c1, c2, c3⟩ := hC; go_simp <;> with_reducible rfl)
  refine wpC_take 10 (v := ?_) rfl (by kernel_rfl) (fun _ _ _ h => h) (by kernel_rfl) ?_ ?_; rotate_left; · (intro wC hC; obtain ⟨c1, c2, c3⟩ := hC; go_simp <;> with_reducible rfl)
  have bcl := cdrew (Below.refl W.heap.size W)
  refine wpC_done (by kernel_rfl) (by have z4 : w2.heap.size < W.heap.size := rowlt x120; have z5 : w3.heap.size < W.heap.size := rowlt R15; exact ⟨(hb5.cell (p := ⟨w2.heap.size, 1, none⟩) z4).trans u1, (hb5.cell (p := ⟨w3.heap.size, 0, none⟩) z5).trans v0, (hb5.cell (p := ⟨w3.heap.size, 1, none⟩) z5).trans v1⟩) ?_
  go_wp2
  go_ret2
  exact hQ.out _ _ ⟨rfl, cthen BW.out (cthen bcl hb5)⟩
end Go.Proofs.YtheliihkkoohnabGreat

namespace Go.Proofs.YtheliihkkoohnabGreat
open Go.ChangeShapes Go.WideShapes Go.ChangeAt Go.RowKit
set_option linter.unusedVariables false
set_option linter.unusedSimpArgs false
set_option maxRecDepth 100000

/-! ### Cut -/
theorem rcut_zero (n : Nat) (hn : Wd n) (w : World) :
    Calls Tryz.prog 53 #[.int .i64 n, exV 0 false 0 0 0 false] w fun e w' => e = .returned (.tuple #[.int .u64 0, .int .i64 0, .nilIface]) ∧ Below w.heap.size w w' := by
  have k1 := of_ok n hn
  have k2 := rsound_any 0 false 0 0 0 false 1099511627776 (by decide) (by decide)
  rw [soundF_X, show soundX 0 false 0 0 0 false = true from rfl] at k2
  unfold exV at *
  unfold shp at k1
  rw [show ((0 : Nat) : Int) = 0 from rfl] at *
  generalize ((2 ^ (n - 1) : Nat) : Int) = nv at *
  generalize ((2 ^ (n - 1) - 1 : Nat) : Int) = mv at *
  generalize ((4 * n - 8 : Nat) : Int) = tv at *
  clear hn
  refine cps fun Q hQ => ?_
  go_enter Tryz.func53, Tryz.ntmps53
  go_wp2_with (first
    | (go_at_call 75; go_must (refine (k1 _).mono ?_); rintro e w1 ⟨rfl, hb1⟩; have R1 := (hb1.block w.heap.size (by simp)).trans (rownew w _ _); have z1 : w.heap.size < w1.heap.size := (by have := hb1.size; simp at this; omega); have hne1 : ¬ w.heap.size = w1.heap.size := (by omega); have hne2 : ¬ w1.heap.size = w.heap.size := (by omega); have b0 := rowcell R1 0; have b1 := rowcell R1 1; have b2 := rowcell R1 2; have b3 := rowcell R1 3; have b4 := rowcell R1 4; have b5 := rowcell R1 5; simp only [List.getElem?_toArray, List.getElem?_cons_zero, List.getElem?_cons_succ] at b0 b1 b2 b3 b4 b5; have HR1 : Hid _ := R1; have HB1 : Hid (Below _ _ _) := hb1; clear hb1 R1)
    | (go_at_call 58; go_must (refine (k2 _).mono ?_); rintro e w2 ⟨rfl, hb2⟩; have R2 := (hb2.block w.heap.size (by simp; omega)).trans ((Below.heap_alloc w1 _ _ z1).trans HR1.out); have S2 := (hb2.block w1.heap.size (by simp)).trans (rownew w1 _ _); have z2 : w1.heap.size < w2.heap.size := (by have := hb2.size; simp at this; omega); have y2 : w.heap.size < w2.heap.size := (Nat.lt_trans z1 z2); have c0 := rowcell R2 0; have c1 := rowcell R2 1; have c2 := rowcell R2 2; simp only [List.getElem?_toArray, List.getElem?_cons_zero, List.getElem?_cons_succ] at c0 c1 c2; have s1 := rowcell S2 1; have s2 := rowcell S2 2; have s3 := rowcell S2 3; have s4 := rowcell S2 4; simp only [List.getElem?_toArray, List.getElem?_cons_zero, List.getElem?_cons_succ] at s1 s2 s3 s4; have HB2 : Hid (Below _ _ _) := hb2; clear hb2 R2 S2))
  go_ret3
  exact hQ.out _ _ ⟨rfl, cthen (cmore (cthen (cmore (Below.refl _ _) _) HB1.out) _) HB2.out⟩
theorem rcut_nar (n : Nat) (hn : Wd n) (w : World) :
    Calls Tryz.prog 53 #[.int .i64 n, exV 2 false 0 0 0 false] w fun e w' => e = .returned (.tuple #[.int .u64 (2 ^ (n - 1) : Nat), .int .i64 0, .nilIface]) ∧ Below w.heap.size w w' := by
  have k1 := of_ok n hn
  have k2 := rsound_any 2 false 0 0 0 false 1099511627776 (by decide) (by decide)
  rw [soundF_X, show soundX 2 false 0 0 0 false = true from rfl] at k2
  unfold exV at *
  unfold shp at k1
  rw [show ((0 : Nat) : Int) = 0 from rfl] at *
  generalize ((2 ^ (n - 1) : Nat) : Int) = nv at *
  generalize ((2 ^ (n - 1) - 1 : Nat) : Int) = mv at *
  generalize ((4 * n - 8 : Nat) : Int) = tv at *
  clear hn
  refine cps fun Q hQ => ?_
  go_enter Tryz.func53, Tryz.ntmps53
  go_wp2_with (first
    | (go_at_call 75; go_must (refine (k1 _).mono ?_); rintro e w1 ⟨rfl, hb1⟩; have R1 := (hb1.block w.heap.size (by simp)).trans (rownew w _ _); have z1 : w.heap.size < w1.heap.size := (by have := hb1.size; simp at this; omega); have hne1 : ¬ w.heap.size = w1.heap.size := (by omega); have hne2 : ¬ w1.heap.size = w.heap.size := (by omega); have b0 := rowcell R1 0; have b1 := rowcell R1 1; have b2 := rowcell R1 2; have b3 := rowcell R1 3; have b4 := rowcell R1 4; have b5 := rowcell R1 5; simp only [List.getElem?_toArray, List.getElem?_cons_zero, List.getElem?_cons_succ] at b0 b1 b2 b3 b4 b5; have HR1 : Hid _ := R1; have HB1 : Hid (Below _ _ _) := hb1; clear hb1 R1)
    | (go_at_call 58; go_must (refine (k2 _).mono ?_); rintro e w2 ⟨rfl, hb2⟩; have R2 := (hb2.block w.heap.size (by simp; omega)).trans ((Below.heap_alloc w1 _ _ z1).trans HR1.out); have S2 := (hb2.block w1.heap.size (by simp)).trans (rownew w1 _ _); have z2 : w1.heap.size < w2.heap.size := (by have := hb2.size; simp at this; omega); have y2 : w.heap.size < w2.heap.size := (Nat.lt_trans z1 z2); have c0 := rowcell R2 0; have c1 := rowcell R2 1; have c2 := rowcell R2 2; simp only [List.getElem?_toArray, List.getElem?_cons_zero, List.getElem?_cons_succ] at c0 c1 c2; have s1 := rowcell S2 1; have s2 := rowcell S2 2; have s3 := rowcell S2 3; have s4 := rowcell S2 4; simp only [List.getElem?_toArray, List.getElem?_cons_zero, List.getElem?_cons_succ] at s1 s2 s3 s4; have HB2 : Hid (Below _ _ _) := hb2; clear hb2 R2 S2))
  go_ret3
  exact hQ.out _ _ ⟨rfl, cthen (cmore (cthen (cmore (Below.refl _ _) _) HB1.out) _) HB2.out⟩
theorem least_kind (n : Nat) (hn : Wd n) : kindOf n (1 % 2 ^ n) = 1 := by rcases hn with rfl | rfl | rfl | rfl <;> decide
theorem least_scale (n : Nat) (hn : Wd n) : scaleL (strS n 1) = 8 - 4 * (n : Int) := by rcases hn with rfl | rfl | rfl | rfl <;> decide +kernel
/-- the least value's own string: all of it before the cut -/
theorem least_cut (n : Nat) (hi lo : Nat) (rest : Bool) (hn : Wd n) (h : justX hi lo rest = true) :
    numOf ((strX (8 - 4 * (n : Int)) hi lo).take (n - 1)) = 1 ∧ leftL ((strX (8 - 4 * (n : Int)) hi lo).drop (n - 1)) rest = 0 := by
  have hw := wd_le hn
  have e1 : (8 - 4 * (n : Int)) / 4 = 2 - n := by omega
  have e2 : ((8 - 4 * (n : Int)) % 4).toNat = 0 := by omega
  have hk : headK (2 - (n : Int)) = noughts (n - 2) ++ [true] := by
    unfold headK
    rw [if_neg (by omega), show (-(2 - (n : Int))).toNat = n - 2 by omega]
    try rfl
  have hl : (noughts (n - 2) ++ [true]).length = n - 1 := by simp [noughts]; omega
  have e : strX (8 - 4 * (n : Int)) hi lo = (noughts (n - 2) ++ [true]) ++ (bitsOf 0 2 ++ digX hi lo) := by
    unfold strX; rw [e1, e2, hk]; simp
  unfold justX at h
  have hr : rest = false := by cases rest <;> simp at h ⊢
  have ha : (digX hi lo).any id = false := by rw [hr] at h; simpa using h
  rw [e]
  refine ⟨?_, ?_⟩
  · rw [List.take_append, List.take_of_length_le (by omega), hl, Nat.sub_self, List.take_zero, List.append_nil, numOf_append, numOf_noughts]
    rfl
  · rw [List.drop_append, List.drop_of_length_le (by omega), hl, Nat.sub_self, List.drop_zero, List.nil_append]
    have : bitsOf 0 2 = [false, false] := rfl
    rw [this]
    unfold leftL
    show (if false = true then _ else _) = 0
    have hd : (([false, false] ++ digX hi lo).drop 1).any id = false := by
      show (false :: digX hi lo).any id = false
      rw [List.any_cons, ha]; rfl
    rw [hd, hr]; rfl
set_option maxHeartbeats 2000000 in
theorem rcut_real (n : Nat) (neg : Bool) (s : Int) (hi lo : Nat) (rest : Bool) (hn : Wd n) (hs : soundX 1 neg s hi lo rest = true) (h : WordsX hi lo) (w : World) :
    Calls Tryz.prog 53 #[.int .i64 n, exV 1 neg s hi lo rest] w fun e w' => e = .returned (.tuple #[.int .u64 (cutX n s hi lo rest).1, .int .i64 (cutX n s hi lo rest).2, .nilIface]) ∧ Below w.heap.size w w' := by
  have hw := wd_le hn
  have k1 := of_ok n hn
  have k2 := rsound_any 1 neg s hi lo rest 1099511627776 h.hi64 (by decide)
  rw [soundF_X, hs] at k2
  have k3 := cdecode_real n 1 hn (by decide) (least_kind n hn)
  rw [least_scale n hn] at k3
  have htv : ((4 * n - 8 : Nat) : Int) = 4 * (n : Int) - 8 := by omega
  unfold shp at k1
  rw [htv] at k1
  unfold numV at k3
  generalize Nat.testBit 1 (n - 1) = ng at *
  generalize wordL (strS n 1) = wl at *
  rw [show ((1 : Nat) : Int) = 1 from rfl] at *
  have key : (4 * (n : Int) - 8 ≤ s ∧ cutX n s hi lo rest = (2 ^ (n - 1) - 1, 0)) ∨ (¬ 4 * (n : Int) - 8 ≤ s ∧ s < 8 - 4 * (n : Int) ∧ cutX n s hi lo rest = (1, 0)) ∨
      (¬ 4 * (n : Int) - 8 ≤ s ∧ ¬ s < 8 - 4 * (n : Int) ∧ cutX n s hi lo rest = (numOf ((strX s hi lo).take (n - 1)), leftL ((strX s hi lo).drop (n - 1)) rest)) := by
    unfold cutX
    by_cases ct : 4 * (n : Int) - 8 ≤ s
    · exact .inl ⟨ct, by rw [if_pos ct]⟩
    · by_cases cl : s < 8 - 4 * (n : Int)
      · exact .inr (.inl ⟨ct, cl, by rw [if_neg ct, if_pos (.inl cl)]⟩)
      · refine .inr (.inr ⟨ct, cl, ?_⟩)
        by_cases cj : s = 8 - 4 * (n : Int) ∧ justX hi lo rest = true
        · rw [if_neg ct, if_pos (.inr cj)]
          obtain ⟨rfl, hj⟩ := cj
          obtain ⟨a, b⟩ := least_cut n hi lo rest hn hj
          rw [a, b]
        · rw [if_neg ct, if_neg (by rintro (c | c); exact cl c; exact cj c)]
  refine cps fun Q hQ => ?_
  rcases key with ⟨ct, hc⟩ | ⟨ct, cl, hc⟩ | ⟨ct, cl, hc⟩
  · rw [hc] at hQ
    have g1 : decide (4 * (n : Int) - 8 ≤ s) = true := decide_eq_true ct
    generalize 4 * (n : Int) - 8 = tv at *
    generalize 8 - 4 * (n : Int) = lv at *
    generalize 2 ^ (n - 1) - 1 = mv at *
    generalize 2 ^ (n - 1) = nv at *
    unfold exV at *
    clear hc ct hn hs h hw htv
    go_enter Tryz.func53, Tryz.ntmps53
    go_wp2_with (first
      | (go_at_call 75; go_must (refine (k1 _).mono ?_); rintro e w1 ⟨rfl, hb1⟩; have R1 := (hb1.block w.heap.size (by simp)).trans (rownew w _ _); have z1 : w.heap.size < w1.heap.size := (by have := hb1.size; simp at this; omega); have hne1 : ¬ w.heap.size = w1.heap.size := (by omega); have hne2 : ¬ w1.heap.size = w.heap.size := (by omega); have b0 := rowcell R1 0; have b1 := rowcell R1 1; have b2 := rowcell R1 2; have b3 := rowcell R1 3; have b4 := rowcell R1 4; have b5 := rowcell R1 5; simp only [List.getElem?_toArray, List.getElem?_cons_zero, List.getElem?_cons_succ] at b0 b1 b2 b3 b4 b5; have HR1 : Hid _ := R1; have HB1 : Hid (Below _ _ _) := hb1; clear hb1 R1)
      | (go_at_call 58; go_must (refine (k2 _).mono ?_); rintro e w2 ⟨rfl, hb2⟩; have R2 := (hb2.block w.heap.size (by simp; omega)).trans ((Below.heap_alloc w1 _ _ z1).trans HR1.out); have S2 := (hb2.block w1.heap.size (by simp)).trans (rownew w1 _ _); have z2 : w1.heap.size < w2.heap.size := (by have := hb2.size; simp at this; omega); have y2 : w.heap.size < w2.heap.size := (Nat.lt_trans z1 z2); have c0 := rowcell R2 0; have c2 := rowcell R2 2; simp only [List.getElem?_toArray, List.getElem?_cons_zero, List.getElem?_cons_succ] at c0 c2; have s1 := rowcell S2 1; have s2 := rowcell S2 2; have s4 := rowcell S2 4; simp only [List.getElem?_toArray, List.getElem?_cons_zero, List.getElem?_cons_succ] at s1 s2 s4; have HR2 : Hid _ := R2; have HS2 : Hid _ := S2; have HB2 : Hid (Below _ _ _) := hb2; clear hb2 R2 S2)
      | (go_at_call 31; go_must (refine (k3 _).mono ?_); rintro e w3 ⟨rfl, hb3⟩; have R3 := (hb3.block w.heap.size y2).trans HR2.out; have S3 := (hb3.block w1.heap.size z2).trans HS2.out; have z3 : w1.heap.size < w3.heap.size := rowlt S3; have y3 : w.heap.size < w3.heap.size := rowlt R3; have d2 := rowcell R3 2; simp only [List.getElem?_toArray, List.getElem?_cons_zero, List.getElem?_cons_succ] at d2; have t1 := rowcell S3 1; have t2 := rowcell S3 2; have t4 := rowcell S3 4; simp only [List.getElem?_toArray, List.getElem?_cons_zero, List.getElem?_cons_succ] at t1 t2 t4; have HB3 : Hid (Below _ _ _) := hb3; clear hb3 R3 S3))
    go_ret3
    exact hQ.out _ _ ⟨rfl, cmore (cthen (cthen (cmore (cthen (cmore (Below.refl _ _) _) HB1.out) _) HB2.out) HB3.out) _⟩
  · rw [hc] at hQ
    have g1 : decide (4 * (n : Int) - 8 ≤ s) = false := decide_eq_false ct
    have g2 : decide (s < 8 - 4 * (n : Int)) = true := decide_eq_true cl
    generalize 4 * (n : Int) - 8 = tv at *
    generalize 8 - 4 * (n : Int) = lv at *
    generalize 2 ^ (n - 1) - 1 = mv at *
    generalize 2 ^ (n - 1) = nv at *
    unfold exV at *
    clear hc ct cl hn hs h hw htv
    go_enter Tryz.func53, Tryz.ntmps53
    go_wp2_with (first
      | (go_at_call 75; go_must (refine (k1 _).mono ?_); rintro e w1 ⟨rfl, hb1⟩; have R1 := (hb1.block w.heap.size (by simp)).trans (rownew w _ _); have z1 : w.heap.size < w1.heap.size := (by have := hb1.size; simp at this; omega); have hne1 : ¬ w.heap.size = w1.heap.size := (by omega); have hne2 : ¬ w1.heap.size = w.heap.size := (by omega); have b0 := rowcell R1 0; have b1 := rowcell R1 1; have b2 := rowcell R1 2; have b3 := rowcell R1 3; have b4 := rowcell R1 4; have b5 := rowcell R1 5; simp only [List.getElem?_toArray, List.getElem?_cons_zero, List.getElem?_cons_succ] at b0 b1 b2 b3 b4 b5; have HR1 : Hid _ := R1; have HB1 : Hid (Below _ _ _) := hb1; clear hb1 R1)
      | (go_at_call 58; go_must (refine (k2 _).mono ?_); rintro e w2 ⟨rfl, hb2⟩; have R2 := (hb2.block w.heap.size (by simp; omega)).trans ((Below.heap_alloc w1 _ _ z1).trans HR1.out); have S2 := (hb2.block w1.heap.size (by simp)).trans (rownew w1 _ _); have z2 : w1.heap.size < w2.heap.size := (by have := hb2.size; simp at this; omega); have y2 : w.heap.size < w2.heap.size := (Nat.lt_trans z1 z2); have c0 := rowcell R2 0; have c2 := rowcell R2 2; simp only [List.getElem?_toArray, List.getElem?_cons_zero, List.getElem?_cons_succ] at c0 c2; have s1 := rowcell S2 1; have s2 := rowcell S2 2; have s4 := rowcell S2 4; simp only [List.getElem?_toArray, List.getElem?_cons_zero, List.getElem?_cons_succ] at s1 s2 s4; have HR2 : Hid _ := R2; have HS2 : Hid _ := S2; have HB2 : Hid (Below _ _ _) := hb2; clear hb2 R2 S2)
      | (go_at_call 31; go_must (refine (k3 _).mono ?_); rintro e w3 ⟨rfl, hb3⟩; have R3 := (hb3.block w.heap.size y2).trans HR2.out; have S3 := (hb3.block w1.heap.size z2).trans HS2.out; have z3 : w1.heap.size < w3.heap.size := rowlt S3; have y3 : w.heap.size < w3.heap.size := rowlt R3; have d2 := rowcell R3 2; simp only [List.getElem?_toArray, List.getElem?_cons_zero, List.getElem?_cons_succ] at d2; have t1 := rowcell S3 1; have t2 := rowcell S3 2; have t4 := rowcell S3 4; simp only [List.getElem?_toArray, List.getElem?_cons_zero, List.getElem?_cons_succ] at t1 t2 t4; have HB3 : Hid (Below _ _ _) := hb3; clear hb3 R3 S3))
    go_ret3
    exact hQ.out _ _ ⟨rfl, cmore (cthen (cthen (cmore (cthen (cmore (Below.refl _ _) _) HB1.out) _) HB2.out) HB3.out) _⟩
  · rw [hc] at hQ
    have k4 := rcutstr_any n neg s hi lo rest hn h (by omega) (by omega)
    have g1 : decide (4 * (n : Int) - 8 ≤ s) = false := decide_eq_false ct
    have g2 : decide (s < 8 - 4 * (n : Int)) = false := decide_eq_false cl
    generalize 4 * (n : Int) - 8 = tv at *
    generalize 8 - 4 * (n : Int) = lv at *
    generalize numOf ((strX s hi lo).take (n - 1)) = P at *
    generalize leftL ((strX s hi lo).drop (n - 1)) rest = L at *
    generalize 2 ^ (n - 1) - 1 = mv at *
    generalize 2 ^ (n - 1) = nv at *
    unfold exV at *
    clear hc ct cl hn hs h hw htv
    go_enter Tryz.func53, Tryz.ntmps53
    go_wp2_with (first
      | (go_at_call 75; go_must (refine (k1 _).mono ?_); rintro e w1 ⟨rfl, hb1⟩; have R1 := (hb1.block w.heap.size (by simp)).trans (rownew w _ _); have z1 : w.heap.size < w1.heap.size := (by have := hb1.size; simp at this; omega); have hne1 : ¬ w.heap.size = w1.heap.size := (by omega); have hne2 : ¬ w1.heap.size = w.heap.size := (by omega); have b0 := rowcell R1 0; have b1 := rowcell R1 1; have b2 := rowcell R1 2; have b3 := rowcell R1 3; have b4 := rowcell R1 4; have b5 := rowcell R1 5; simp only [List.getElem?_toArray, List.getElem?_cons_zero, List.getElem?_cons_succ] at b0 b1 b2 b3 b4 b5; have HR1 : Hid _ := R1; have HB1 : Hid (Below _ _ _) := hb1; clear hb1 R1)
      | (go_at_call 58; go_must (refine (k2 _).mono ?_); rintro e w2 ⟨rfl, hb2⟩; have R2 := (hb2.block w.heap.size (by simp; omega)).trans ((Below.heap_alloc w1 _ _ z1).trans HR1.out); have S2 := (hb2.block w1.heap.size (by simp)).trans (rownew w1 _ _); have z2 : w1.heap.size < w2.heap.size := (by have := hb2.size; simp at this; omega); have y2 : w.heap.size < w2.heap.size := (Nat.lt_trans z1 z2); have c0 := rowcell R2 0; have c2 := rowcell R2 2; simp only [List.getElem?_toArray, List.getElem?_cons_zero, List.getElem?_cons_succ] at c0 c2; have s1 := rowcell S2 1; have s2 := rowcell S2 2; have s4 := rowcell S2 4; simp only [List.getElem?_toArray, List.getElem?_cons_zero, List.getElem?_cons_succ] at s1 s2 s4; have HR2 : Hid _ := R2; have HS2 : Hid _ := S2; have HB2 : Hid (Below _ _ _) := hb2; clear hb2 R2 S2)
      | (go_at_call 31; go_must (refine (k3 _).mono ?_); rintro e w3 ⟨rfl, hb3⟩; have R3 := (hb3.block w.heap.size y2).trans HR2.out; have S3 := (hb3.block w1.heap.size z2).trans HS2.out; have z3 : w1.heap.size < w3.heap.size := rowlt S3; have y3 : w.heap.size < w3.heap.size := rowlt R3; have d0 := rowcell R3 0; have d1 := rowcell R3 1; have d2 := rowcell R3 2; have d3 := rowcell R3 3; have d4 := rowcell R3 4; have d5 := rowcell R3 5; simp only [List.getElem?_toArray, List.getElem?_cons_zero, List.getElem?_cons_succ] at d0 d1 d2 d3 d4 d5; have t1 := rowcell S3 1; have t2 := rowcell S3 2; have t4 := rowcell S3 4; simp only [List.getElem?_toArray, List.getElem?_cons_zero, List.getElem?_cons_succ] at t1 t2 t4; have HB3 : Hid (Below _ _ _) := hb3; clear hb3 R3 S3)
      | (go_at_call 76; go_must (refine (k4 _).mono ?_); rintro e w4 ⟨rfl, hb4⟩; have HB4 : Hid (Below _ _ _) := hb4; clear hb4))
    go_ret3
    exact hQ.out _ _ ⟨rfl, cthen (cmore (cthen (cthen (cmore (cthen (cmore (Below.refl _ _) _) HB1.out) _) HB2.out) HB3.out) _) HB4.out⟩
end Go.Proofs.YtheliihkkoohnabGreat

namespace Go.Proofs.YtheliihkkoohnabGreat
open Go.ChangeShapes Go.WideShapes Go.ChangeAt Go.RowKit
set_option linter.unusedVariables false
set_option linter.unusedSimpArgs false
set_option maxRecDepth 100000

/-! ### Of -/
theorem rndof_ok (k : Int) (neg : Bool) (s : Int) (f : Nat) (hf : f < 2 ^ 64) (hs : soundN k neg s f = true) (w : World) :
    Calls Tryz.prog 36 #[numV k neg s f] w fun e w' => e = .returned (.tuple #[exV k neg s f 0 false, .nilIface]) ∧ Below w.heap.size w w' := by
  have k2 := rsound_any k neg s f 0 false 1073741824 hf (by decide)
  rw [soundF_N, hs] at k2
  unfold numV exV at *
  rw [show ((0 : Nat) : Int) = 0 from rfl] at *
  clear hs
  refine cps fun Q hQ => ?_
  go_enter Tryz.func36, Tryz.ntmps36
  go_wp2_with (go_at_call 58; refine (k2 _).mono ?_; rintro e w2 ⟨rfl, hb2⟩; have RR := (hb2.block (w.heap.size + 1) (by simp)).trans ((Below.heap_alloc ((w.alloc _).alloc _) _ _ (by simp)).trans (rownew' _ _ _ _ (by simp))); have r0 := rowcell RR 0; have r1 := rowcell RR 1; have r2 := rowcell RR 2; have r3 := rowcell RR 3; have r4 := rowcell RR 4; have r5 := rowcell RR 5; have rf := rowfree RR; simp only [List.getElem?_toArray, List.getElem?_cons_zero, List.getElem?_cons_succ] at r0 r1 r2 r3 r4 r5; have RY := (hb2.block (w.heap.size + 2) (by simp)).trans (rownew' _ _ _ _ (by simp)); have y0 := rowcell RY 0; have y1 := rowcell RY 1; have y2 := rowcell RY 2; have y3 := rowcell RY 3; have y4 := rowcell RY 4; have y5 := rowcell RY 5; simp only [List.getElem?_toArray, List.getElem?_cons_zero, List.getElem?_cons_succ] at y0 y1 y2 y3 y4 y5; have HB2 : Hid (Below _ _ _) := cthen (cmore (cmore (cmore (Below.refl _ _) _) _) _) hb2; clear hb2 RR RY)
  refine bodyPost_ret (v := .tuple #[.agg #[.int .i64 k, .bool neg, .int .i64 s, .int .u64 f, .int .u64 0, .bool false], .nilIface]) (by simp [results, Tryz.results36, go_sem, r0, r1, r2, r3, r4, r5]) rfl (hQ.out _ _ ⟨rfl, ?_⟩)
  have hle : w.heap.size ≤ w.heap.size + 1 := by omega
  exact cset (cset (cset (cset (cset (cset HB2.out hle _ _) hle _ _) hle _ _) hle _ _) hle _ _) hle _ _
/-! ### Round -/
theorem rround_plain (n : Int) (k : Int) (P : Nat) (w : World)
    (k1 : ∀ w, Calls Tryz.prog 53 #[.int .i64 n, exV k false 0 0 0 false] w fun e w' => e = .returned (.tuple #[.int .u64 P, .int .i64 0, .nilIface]) ∧ Below w.heap.size w w') :
    Calls Tryz.prog 33 #[.int .i64 n, exV k false 0 0 0 false] w fun e w' => e = .returned (.tuple #[.int .u64 P, .nilIface]) ∧ Below w.heap.size w w' := by
  unfold exV at *
  refine cps fun Q hQ => ?_
  go_enter Tryz.func33, Tryz.ntmps33
  go_wp2_with (go_at_call 53; refine (k1 _).mono ?_; rintro e w2 ⟨rfl, hb2⟩; have hc := fun b o h => hb2.cell (p := ⟨b, o, none⟩) h; have z1 : w.heap.size < w2.heap.size := (by have := hb2.size; simp at this; omega))
  exact hQ.out _ _ ⟨rfl, cthen (cmore (Below.refl _ _) _) hb2⟩
theorem rround_zero (n : Nat) (hn : Wd n) (w : World) :
    Calls Tryz.prog 33 #[.int .i64 n, exV 0 false 0 0 0 false] w fun e w' => e = .returned (.tuple #[.int .u64 0, .nilIface]) ∧ Below w.heap.size w w' :=
  rround_plain n 0 0 w (rcut_zero n hn)
theorem rround_nar (n : Nat) (hn : Wd n) (w : World) :
    Calls Tryz.prog 33 #[.int .i64 n, exV 2 false 0 0 0 false] w fun e w' => e = .returned (.tuple #[.int .u64 (2 ^ (n - 1) : Nat), .nilIface]) ∧ Below w.heap.size w w' :=
  rround_plain n 2 (2 ^ (n - 1)) w (rcut_nar n hn)
set_option maxHeartbeats 2000000 in
theorem rround_real (n : Nat) (neg : Bool) (s : Int) (hi lo : Nat) (rest : Bool) (hn : Wd n) (hs : soundX 1 neg s hi lo rest = true) (h : WordsX hi lo) (w : World) :
    Calls Tryz.prog 33 #[.int .i64 n, exV 1 neg s hi lo rest] w fun e w' => e = .returned (.tuple #[.int .u64 (patR n neg (rndX n s hi lo rest)), .nilIface]) ∧ Below w.heap.size w w' := by
  have k1 := rcut_real n neg s hi lo rest hn hs h
  obtain ⟨r1, r2⟩ := rnd_range n s hi lo rest hn h
  obtain ⟨H, e1, e2, e3, _⟩ := wd_pows hn
  have hw := wd_le hn
  have hH : H ≤ 2 ^ 63 := by rw [← e2]; exact Nat.pow_le_pow_right (by decide) (by omega)
  have k2 := fold_ok n (minusU (rndX n s hi lo rest)) hn (minusU_lt _)
  have hneg : minusU (rndX n s hi lo rest) % 2 ^ n = 2 ^ n - rndX n s hi lo rest := by
    rw [minusU_mod n _ hn (by omega), Nat.mod_eq_of_lt (a := rndX n s hi lo rest) (by omega), Nat.mod_eq_of_lt (by omega)]
  rw [hneg] at k2
  have hmw := minusU_wrap (rndX n s hi lo rest) (by omega)
  have HR : Hid (rndX n s hi lo rest = roundP (cutX n s hi lo rest).1 (cutX n s hi lo rest).2) := rfl
  have hle := (roundP_le (cutX n s hi lo rest).1 (cutX n s hi lo rest).2).1
  have hle2 : (cutX n s hi lo rest).1 ≤ rndX n s hi lo rest := hle
  unfold patR
  generalize 2 ^ n - rndX n s hi lo rest = M at *
  generalize minusU (rndX n s hi lo rest) = U at *
  generalize (cutX n s hi lo rest).1 = P at *
  generalize (cutX n s hi lo rest).2 = l at *
  generalize rndX n s hi lo rest = R at *
  unfold exV at *
  rw [e2] at r2
  have hR63 : R < 2 ^ 63 := by omega
  clear hn hs h hneg e1 e2 e3 hle r2 hH
  have hup : (l = 3 ∨ (l = 2 ∧ P % 2 = 1)) → P + 1 = R := fun c => by rw [HR.out]; unfold roundP; rw [if_pos c]
  have hst : ¬ (l = 3 ∨ (l = 2 ∧ P % 2 = 1)) → P = R := fun c => by rw [HR.out]; unfold roundP; rw [if_neg c]
  have ew : IntKind.u64.wrap ((P : Int) + 1) = (P : Int) + 1 := by rw [IntKind.wrap_u64]; omega
  refine cps fun Q hQ => ?_
  by_cases c : l = 3 ∨ (l = 2 ∧ P % 2 = 1)
  · have hP := hup c
    have hc2 : ((P : Int) + 1) = (R : Int) := by omega
    have ew2 : IntKind.u64.wrap ((P : Int) + 1) = (R : Int) := by rw [ew, hc2]
    clear hup hst hP hc2 ew
    rcases c with rfl | ⟨rfl, c⟩
    · cases neg
      · go_enter Tryz.func33, Tryz.ntmps33
        go_wp2_with (first
          | (go_at_call 53; refine (k1 _).mono ?_; rintro e w2 ⟨rfl, hb2⟩; have a1 := ((hb2.cell (p := ⟨w.heap.size, 1, none⟩) (by simp)).trans (rowcell (rownew w _ _) 1)); simp only [List.getElem?_toArray, List.getElem?_cons_zero, List.getElem?_cons_succ] at a1; have z1 : w.heap.size < w2.heap.size := (by have := hb2.size; simp at this; omega)))
        exact hQ.out _ _ ⟨rfl, cthen (cmore (Below.refl _ _) _) hb2⟩
      · go_enter Tryz.func33, Tryz.ntmps33
        go_wp2_with (first
          | (go_at_call 53; refine (k1 _).mono ?_; rintro e w2 ⟨rfl, hb2⟩; have a1 := ((hb2.cell (p := ⟨w.heap.size, 1, none⟩) (by simp)).trans (rowcell (rownew w _ _) 1)); simp only [List.getElem?_toArray, List.getElem?_cons_zero, List.getElem?_cons_succ] at a1; have z1 : w.heap.size < w2.heap.size := (by have := hb2.size; simp at this; omega))
          | (go_at_call 54; refine (k2 _).mono ?_; rintro e w4 ⟨rfl, hb4⟩))
        exact hQ.out _ _ ⟨rfl, cthen (cthen (cmore (Below.refl _ _) _) hb2) hb4⟩
    · have m2 : (Int.tmod (P : Int) 2) = (P : Int) % 2 := Int.tmod_eq_emod_of_nonneg (by omega)
      have m3 : (P : Int) % 2 = 1 := by omega
      clear c
      cases neg
      · go_enter Tryz.func33, Tryz.ntmps33
        go_wp2_with (first
          | (go_at_call 53; refine (k1 _).mono ?_; rintro e w2 ⟨rfl, hb2⟩; have a1 := ((hb2.cell (p := ⟨w.heap.size, 1, none⟩) (by simp)).trans (rowcell (rownew w _ _) 1)); simp only [List.getElem?_toArray, List.getElem?_cons_zero, List.getElem?_cons_succ] at a1; have z1 : w.heap.size < w2.heap.size := (by have := hb2.size; simp at this; omega)))
        exact hQ.out _ _ ⟨rfl, cthen (cmore (Below.refl _ _) _) hb2⟩
      · go_enter Tryz.func33, Tryz.ntmps33
        go_wp2_with (first
          | (go_at_call 53; refine (k1 _).mono ?_; rintro e w2 ⟨rfl, hb2⟩; have a1 := ((hb2.cell (p := ⟨w.heap.size, 1, none⟩) (by simp)).trans (rowcell (rownew w _ _) 1)); simp only [List.getElem?_toArray, List.getElem?_cons_zero, List.getElem?_cons_succ] at a1; have z1 : w.heap.size < w2.heap.size := (by have := hb2.size; simp at this; omega))
          | (go_at_call 54; refine (k2 _).mono ?_; rintro e w4 ⟨rfl, hb4⟩))
        exact hQ.out _ _ ⟨rfl, cthen (cthen (cmore (Below.refl _ _) _) hb2) hb4⟩
  · have hP := hst c
    subst hP
    clear hup hst
    have d3 : ((l : Int) == 3) = false := beq_eq_false_iff_ne.2 (by omega)
    by_cases h2 : l = 2
    · subst h2
      have m3 : (P : Int) % 2 = 0 := by omega
      have m2 : (Int.tmod (P : Int) 2) = (P : Int) % 2 := Int.tmod_eq_emod_of_nonneg (by omega)
      clear c
      cases neg
      · go_enter Tryz.func33, Tryz.ntmps33
        go_wp2_with (first
          | (go_at_call 53; refine (k1 _).mono ?_; rintro e w2 ⟨rfl, hb2⟩; have a1 := ((hb2.cell (p := ⟨w.heap.size, 1, none⟩) (by simp)).trans (rowcell (rownew w _ _) 1)); simp only [List.getElem?_toArray, List.getElem?_cons_zero, List.getElem?_cons_succ] at a1; have z1 : w.heap.size < w2.heap.size := (by have := hb2.size; simp at this; omega)))
        exact hQ.out _ _ ⟨rfl, cthen (cmore (Below.refl _ _) _) hb2⟩
      · go_enter Tryz.func33, Tryz.ntmps33
        go_wp2_with (first
          | (go_at_call 53; refine (k1 _).mono ?_; rintro e w2 ⟨rfl, hb2⟩; have a1 := ((hb2.cell (p := ⟨w.heap.size, 1, none⟩) (by simp)).trans (rowcell (rownew w _ _) 1)); simp only [List.getElem?_toArray, List.getElem?_cons_zero, List.getElem?_cons_succ] at a1; have z1 : w.heap.size < w2.heap.size := (by have := hb2.size; simp at this; omega))
          | (go_at_call 54; refine (k2 _).mono ?_; rintro e w4 ⟨rfl, hb4⟩))
        exact hQ.out _ _ ⟨rfl, cthen (cthen (cmore (Below.refl _ _) _) hb2) hb4⟩
    · have d2 : ((l : Int) == 2) = false := beq_eq_false_iff_ne.2 (by omega)
      clear c h2
      cases neg
      · go_enter Tryz.func33, Tryz.ntmps33
        go_wp2_with (first
          | (go_at_call 53; refine (k1 _).mono ?_; rintro e w2 ⟨rfl, hb2⟩; have a1 := ((hb2.cell (p := ⟨w.heap.size, 1, none⟩) (by simp)).trans (rowcell (rownew w _ _) 1)); simp only [List.getElem?_toArray, List.getElem?_cons_zero, List.getElem?_cons_succ] at a1; have z1 : w.heap.size < w2.heap.size := (by have := hb2.size; simp at this; omega)))
        exact hQ.out _ _ ⟨rfl, cthen (cmore (Below.refl _ _) _) hb2⟩
      · go_enter Tryz.func33, Tryz.ntmps33
        go_wp2_with (first
          | (go_at_call 53; refine (k1 _).mono ?_; rintro e w2 ⟨rfl, hb2⟩; have a1 := ((hb2.cell (p := ⟨w.heap.size, 1, none⟩) (by simp)).trans (rowcell (rownew w _ _) 1)); simp only [List.getElem?_toArray, List.getElem?_cons_zero, List.getElem?_cons_succ] at a1; have z1 : w.heap.size < w2.heap.size := (by have := hb2.size; simp at this; omega))
          | (go_at_call 54; refine (k2 _).mono ?_; rintro e w4 ⟨rfl, hb4⟩))
        exact hQ.out _ _ ⟨rfl, cthen (cthen (cmore (Below.refl _ _) _) hb2) hb4⟩
end Go.Proofs.YtheliihkkoohnabGreat

namespace Go.Proofs.YtheliihkkoohnabGreat
open Go.ChangeShapes Go.WideShapes Go.ChangeAt Go.RowKit
set_option linter.unusedVariables false
set_option linter.unusedSimpArgs false
set_option maxRecDepth 100000

/-! ### Make -/
theorem rmake_zero (neg : Bool) (exp : Int) (w : World) :
    Calls Tryz.prog 56 #[.bool neg, .int .u64 0, .int .u64 0, .int .i64 exp, .bool false] w fun e w' => e = .returned (.tuple #[exV 0 false 0 0 0 false, .nilIface]) ∧ Below w.heap.size w w' := by
  have k1 := tnorm_zero
  unfold exV
  refine cps fun Q hQ => ?_
  go_enter Tryz.func56, Tryz.ntmps56
  go_wp2_with (go_at_call 79; refine (k1 _).mono ?_; rintro e w2 ⟨rfl, hb2⟩; have RR := (hb2.block w.heap.size (by simp)).trans (rownew' _ _ _ _ rfl); have z2 : w.heap.size < w2.heap.size := (by have := hb2.size; simp at this; omega); have r0 := rowcell RR 0; have r1 := rowcell RR 1; have r2 := rowcell RR 2; have r3 := rowcell RR 3; have r4 := rowcell RR 4; have r5 := rowcell RR 5; have rf := rowfree RR; simp only [List.getElem?_toArray, List.getElem?_cons_zero, List.getElem?_cons_succ] at r0 r1 r2 r3 r4 r5; have HB2 : Hid (Below _ _ _) := cthen (cmore (Below.refl _ _) _) hb2; clear hb2 RR)
  refine bodyPost_ret (v := .tuple #[.agg #[.int .i64 0, .bool false, .int .i64 0, .int .u64 0, .int .u64 0, .bool false], .nilIface]) (by simp [results, Tryz.results56, go_sem, r0, r1, r2, r3, r4, r5, z2]) rfl (hQ.out _ _ ⟨rfl, ?_⟩)
  exact cmore (cset6 HB2.out (Nat.le_refl _)) _
theorem norm_shift {M k : Nat} (hM : blen M ≤ 128) (hk : k + blen M = 128) : normN M = M * 2 ^ k ∧ lostN M = false := by
  constructor
  · unfold normN
    by_cases h : blen M < 128
    · rw [if_pos h, show 128 - blen M = k by omega]
    · rw [if_neg h, show blen M - 128 = 0 by omega, show k = 0 by omega, Nat.pow_zero, Nat.div_one, Nat.mul_one]
  · unfold lostN
    rw [decide_eq_false (show ¬ 128 < blen M by omega), Bool.false_and]
set_option maxHeartbeats 1000000 in
theorem rmake_walk (neg : Bool) (hi lo : Nat) (exp : Int) (rest : Bool) (nh nl k : Nat) (m x hv : Int) (hne : ¬ (nh : Int) = 0) (g : rest = false ∨ ((hi : Int) / 9223372036854775808 == 0) = false)
    (k1 : ∀ w, Calls Tryz.prog 79 #[.agg #[.int .u64 hi, .int .u64 lo]] w fun e w' => e = .returned (.tuple #[.agg #[.int .u64 nh, .int .u64 nl], .int .i64 k]) ∧ Below w.heap.size w w')
    (hm : (if 1099511627776 < exp then 1099511627776 else exp) = m) (q1 : IntKind.i64.wrap (m + 127) = m + 127) (q2 : IntKind.i64.wrap (m + 127 - (k : Int)) = m + 127 - (k : Int))
    (hx : (if m + 127 - (k : Int) < -1099511627776 then -1099511627776 else m + 127 - (k : Int)) = x) (hy : (if 1099511627776 < x then 1099511627776 else x) = hv) (w : World) :
    Calls Tryz.prog 56 #[.bool neg, .int .u64 hi, .int .u64 lo, .int .i64 exp, .bool rest] w fun e w' => e = .returned (.tuple #[exV 1 neg hv nh nl rest, .nilIface]) ∧ Below w.heap.size w w' := by
  unfold exV
  refine cps fun Q hQ => ?_
  cases rest
  · clear g
    go_enter Tryz.func56, Tryz.ntmps56
    go_wp2_with (go_at_call 79; refine (k1 _).mono ?_; rintro e w2 ⟨rfl, hb2⟩; have RR := (hb2.block w.heap.size (by simp)).trans (rownew' _ _ _ _ rfl); have z2 : w.heap.size < w2.heap.size := (by have := hb2.size; simp at this; omega); have r0 := rowcell RR 0; have r1 := rowcell RR 1; have r2 := rowcell RR 2; have r3 := rowcell RR 3; have r4 := rowcell RR 4; have r5 := rowcell RR 5; have rf := rowfree RR; simp only [List.getElem?_toArray, List.getElem?_cons_zero, List.getElem?_cons_succ] at r0 r1 r2 r3 r4 r5; have HB2 : Hid (Below _ _ _) := cthen (cmore (Below.refl _ _) _) hb2; clear hb2 RR)
    all_goals
      refine bodyPost_ret (v := .tuple #[.agg #[.int .i64 1, .bool neg, .int .i64 hv, .int .u64 nh, .int .u64 nl, .bool false], .nilIface]) (by simp [results, Tryz.results56, go_sem, r0, r1, r2, r3, r4, r5, z2]) rfl (hQ.out _ _ ⟨rfl, ?_⟩)
      exact cmore (cset6 HB2.out (Nat.le_refl _)) _
  · have g : ((hi : Int) / 9223372036854775808 == 0) = false := by rcases g with g | g; cases g; exact g
    go_enter Tryz.func56, Tryz.ntmps56
    go_wp2_with (go_at_call 79; refine (k1 _).mono ?_; rintro e w2 ⟨rfl, hb2⟩; have RR := (hb2.block w.heap.size (by simp)).trans (rownew' _ _ _ _ rfl); have z2 : w.heap.size < w2.heap.size := (by have := hb2.size; simp at this; omega); have r0 := rowcell RR 0; have r1 := rowcell RR 1; have r2 := rowcell RR 2; have r3 := rowcell RR 3; have r4 := rowcell RR 4; have r5 := rowcell RR 5; have rf := rowfree RR; simp only [List.getElem?_toArray, List.getElem?_cons_zero, List.getElem?_cons_succ] at r0 r1 r2 r3 r4 r5; have HB2 : Hid (Below _ _ _) := cthen (cmore (Below.refl _ _) _) hb2; clear hb2 RR)
    all_goals
      refine bodyPost_ret (v := .tuple #[.agg #[.int .i64 1, .bool neg, .int .i64 hv, .int .u64 nh, .int .u64 nl, .bool true], .nilIface]) (by simp [results, Tryz.results56, go_sem, r0, r1, r2, r3, r4, r5, z2]) rfl (hQ.out _ _ ⟨rfl, ?_⟩)
      exact cmore (cset6 HB2.out (Nat.le_refl _)) _
theorem norm_tw {M : Nat} (h : M < 340282366920938463463374607431768211456) : Tw M (M / 2 ^ 64 % 2 ^ 64) (M % 2 ^ 64) := ⟨by omega, by omega, by omega⟩
theorem rmake_real (neg : Bool) (hi lo : Nat) (exp : Int) (rest : Bool) (hh : hi < 2 ^ 64) (hl : lo < 2 ^ 64) (he : -9223372036854775808 ≤ exp ∧ exp ≤ 9223372036854775807) (h : rest = false ∨ 9223372036854775808 ≤ hi) (h0 : manX hi lo ≠ 0) (w : World) :
    Calls Tryz.prog 56 #[.bool neg, .int .u64 hi, .int .u64 lo, .int .i64 exp, .bool rest] w fun e w' => e = .returned (.tuple #[exactV neg (manX hi lo) exp rest, .nilIface]) ∧ Below w.heap.size w w' := by
  have hM := manX_lt hh hl
  have hbl : blen (manX hi lo) ≤ 128 := blen_le.2 hM
  have hb1 : 1 ≤ blen (manX hi lo) := by rw [blen_pos h0]; omega
  obtain ⟨k, hk⟩ : ∃ k, k + blen (manX hi lo) = 128 := ⟨128 - blen (manX hi lo), by omega⟩
  obtain ⟨n1, n2⟩ := norm_shift hbl hk
  have hmt := (normN_mant h0).2
  have htop := (normN_words h0).top
  have hTM : Tw (manX hi lo) hi lo := ⟨rfl, by omega, by omega⟩
  have hN : normN (manX hi lo) < 340282366920938463463374607431768211456 := hmt
  have hTN := norm_tw hN
  have hTk : Tw ((manX hi lo * 2 ^ k) % 340282366920938463463374607431768211456) (normN (manX hi lo) / 2 ^ 64 % 2 ^ 64) (normN (manX hi lo) % 2 ^ 64) := by
    rw [← n1, Nat.mod_eq_of_lt hN]; exact hTN
  have k1 := fun w => tnorm_any hTM h0 hk hTk w
  have hv : exactV neg (manX hi lo) exp rest = exV 1 neg (heldX (exp + blen (manX hi lo) - 1)) (normN (manX hi lo) / 2 ^ 64 % 2 ^ 64) (normN (manX hi lo) % 2 ^ 64) rest := by
    unfold exactV; rw [if_neg h0, n2, Bool.or_false]
  rw [hv]
  have hkr : k ≤ 127 := by omega
  have hsc : exp + blen (manX hi lo) - 1 = exp + 127 - k := by omega
  rw [hsc]
  have hm : ∃ m, (if 1099511627776 < exp then 1099511627776 else exp) = m := ⟨_, rfl⟩
  obtain ⟨m, hm⟩ := hm
  have hmr : -9223372036854775808 ≤ m ∧ m ≤ 1099511627776 := by rw [← hm]; clear hTM hTN hTk k1 hmt hN htop; split <;> omega
  obtain ⟨x, hx⟩ : ∃ x, (if m + 127 - (k : Int) < -1099511627776 then -1099511627776 else m + 127 - (k : Int)) = x := ⟨_, rfl⟩
  have hy : (if 1099511627776 < x then 1099511627776 else x) = heldX (exp + 127 - k) := by
    clear hTM hTN hTk k1 hmt hN htop
    rw [← hx, ← hm]; unfold heldX
    by_cases c : 1099511627776 < exp
    · rw [if_pos c]
      repeat' split
      all_goals omega
    · rw [if_neg c]
      repeat' split
      all_goals omega
  have q1 : IntKind.i64.wrap (m + 127) = m + 127 := wrapI (by omega)
  have q2 : IntKind.i64.wrap (m + 127 - (k : Int)) = m + 127 - (k : Int) := wrapI (by omega)
  refine rmake_walk neg hi lo exp rest _ _ k m x _ ?_ ?_ k1 hm q1 q2 hx hy w
  · intro c; have c2 := Int.ofNat_eq_zero.1 c; rw [c2] at htop; exact absurd htop (by decide)
  · rcases h with h | h
    · exact .inl h
    · exact .inr (beq_eq_false_iff_ne.2 (by omega))
theorem rmake_ok (neg : Bool) (hi lo : Nat) (exp : Int) (rest : Bool) (hh : hi < 2 ^ 64) (hl : lo < 2 ^ 64) (he : -9223372036854775808 ≤ exp ∧ exp ≤ 9223372036854775807) (h : rest = false ∨ 9223372036854775808 ≤ hi) (w : World) :
    Calls Tryz.prog 56 #[.bool neg, .int .u64 hi, .int .u64 lo, .int .i64 exp, .bool rest] w fun e w' => e = .returned (.tuple #[exactV neg (manX hi lo) exp rest, .nilIface]) ∧ Below w.heap.size w w' := by
  by_cases h0 : manX hi lo = 0
  · have hz : hi = 0 ∧ lo = 0 := by unfold manX at h0; omega
    obtain ⟨rfl, rfl⟩ := hz
    have hr : rest = false := by rcases h with h | h; exact h; omega
    subst hr
    have hv : exactV neg (manX 0 0) exp false = exV 0 false 0 0 0 false := by unfold exactV; rw [if_pos h0]
    rw [hv]
    exact rmake_zero neg exp w
  · exact rmake_real neg hi lo exp rest hh hl he h h0 w
end Go.Proofs.YtheliihkkoohnabGreat

namespace Go.Proofs.YtheliihkkoohnabGreat
set_option maxRecDepth 100000
/-! ### the contracts of package round stand in RkD (Cut), RkE (Of, Round), RkF (Make) -/
end Go.Proofs.YtheliihkkoohnabGreat

namespace Go.Proofs.YtheliihkkoohnabGreat
open Go.ChangeShapes Go.WideShapes Go.ChangeAt Go.RowKit
set_option linter.unusedVariables false
set_option linter.unusedSimpArgs false
set_option maxRecDepth 100000

end Go.Proofs.YtheliihkkoohnabGreat

namespace Go.Proofs.YtheliihkkoohnabGreat
set_option maxRecDepth 100000
set_option linter.unusedVariables false
set_option linter.unusedSimpArgs false

/-! ### what a string means, as the number of its string (plain mathematics: P7.5's ties) -/
theorem scaleL_range (t : List Bool) (hl : t.length ≤ 63) : -256 ≤ scaleL t ∧ scaleL t ≤ 255 := by
  have hex : expL t < 4 := by
    have := numOf_lt ((restL t ++ noughts 2).take 2)
    rw [show ((restL t ++ noughts 2).take 2).length = 2 by simp] at this
    exact this
  have h1 := runL_le t
  unfold scaleL regL
  split <;> omega
theorem words_of (t : List Bool) : WordsX (wordL t) 0 := ⟨(wordL_bounds t).1, (wordL_bounds t).2, by decide⟩
theorem strX_canon (s : Int) (f : Nat) : strX s f 0 = canon s f ++ noughts 64 := by
  have : bitsOf 0 64 = noughts 64 := by decide
  unfold strX canon digX
  rw [this]; simp
theorem zed_parse (t : List Bool) (ht : true ∈ t) (hl : t.length ≤ 63) : zed (scaleL t) (manX (wordL t) 0) = numOf t * 2 ^ (209 - t.length) := by
  obtain ⟨z, hz, _⟩ := canon_parse t ht (by omega)
  have hr := scaleL_range t hl
  obtain ⟨h1, h2⟩ := zed_str (scaleL t) (manX (wordL t) 0) (digX (wordL t) 0) (digX_length _ _) (digX_num (words_of t)) (by omega) (by omega)
  have e : headK (scaleL t / 4) ++ bitsOf (scaleL t % 4).toNat 2 ++ digX (wordL t) 0 = t ++ noughts (z + 64) := by
    have := strX_canon (scaleL t) (wordL t)
    rw [hz, List.append_assoc, noughts_add] at this
    exact this
  rw [e, List.length_append, List.length_replicate] at h1 h2
  rw [← h2, numOf_append, numOf_noughts, Nat.add_zero, List.length_replicate, Nat.mul_assoc, ← Nat.pow_add]
  congr 2; omega
end Go.Proofs.YtheliihkkoohnabGreat

namespace Go.Proofs.YtheliihkkoohnabGreat
open Go.ChangeShapes Go.WideShapes Go.ChangeAt Go.RowKit
set_option linter.unusedVariables false
set_option linter.unusedSimpArgs false
set_option maxRecDepth 100000

/-! ### what a pattern means is rounded to it (plain mathematics) -/
theorem rhe_mul (H p : Nat) (hH : 0 < H) : rhe H (p * (2 * H)) = p := by
  unfold rhe
  rw [Nat.mul_div_cancel _ (by omega), Nat.mul_mod_left, if_pos rfl]
  unfold roundP
  rw [if_neg (by omega)]
theorem str_ends (m : Nat) (t : List Bool) (hm : Wd m) (hl : t.length = m - 1) (ht : true ∈ t) :
    (scaleL t = 4 * (m : Int) - 8 → numOf t = 2 ^ (m - 1) - 1) ∧ (scaleL t = 8 - 4 * (m : Int) → numOf t = 1) := by
  have hw := wd_le hm
  have hne : t ≠ [] := by rintro rfl; cases ht
  have hex : expL t < 4 := by
    have := numOf_lt ((restL t ++ noughts 2).take 2)
    rw [show ((restL t ++ noughts 2).take 2).length = 2 by simp] at this
    exact this
  obtain ⟨b, r, tl, rfl, htl⟩ := split_run t hne
  rw [List.length_append, List.length_replicate] at hl
  unfold scaleL regL
  rw [runL_rep b r tl htl, onesL_rep]
  generalize expL (List.replicate (r + 1) b ++ tl) = ex at *
  constructor
  · intro h
    cases b
    · simp at h; omega
    · simp at h
      have hr : r + 1 = m - 1 := by omega
      have htl0 : tl = [] := List.length_eq_zero_iff.1 (by omega)
      rw [htl0, List.append_nil, numOf_ones, hr]
  · intro h
    cases b
    · simp at h
      have hr : r + 1 = m - 2 ∨ r + 1 = m - 1 := by omega
      rcases htl with rfl | ⟨u, rfl⟩
      · rw [List.append_nil, List.mem_replicate] at ht
        exact absurd ht.2 (by decide)
      · rw [List.length_cons] at hl
        have hu : u = [] := List.length_eq_zero_iff.1 (by omega)
        subst hu
        rw [show List.replicate (r + 1) false = noughts (r + 1) from rfl, numOf_noughts_append]
        rfl
    · simp at h; omega
theorem rnd_home (m : Nat) (t : List Bool) (hm : Wd m) (hl : t.length = m - 1) (ht : true ∈ t) : rndX m (scaleL t) (wordL t) 0 false = numOf t := by
  have hw := wd_le hm
  have hr := of_decide_eq_true (inR_of m t hm hl ht)
  obtain ⟨e1, e2⟩ := str_ends m t hm hl ht
  rcases mid_or m (scaleL t) (justX (wordL t) 0 false) with h | h | ⟨h0, h⟩
  · rw [(rnd_mid m _ _ _ _ hm (words_of t) h).1]
    unfold zX
    rw [zed_parse t ht (by omega), hl, show 209 - (m - 1) = 210 - m by omega]
    have := rhe_mul (2 ^ (210 - m)) (numOf t) (Nat.pow_pos (by decide))
    rw [show numOf t * (2 * 2 ^ (210 - m)) = 2 * (numOf t * 2 ^ (210 - m)) by rw [Nat.mul_left_comm]] at this
    simpa using this
  · rw [rnd_top m _ _ _ _ h, e1 (by omega)]
  · rw [rnd_low m _ _ _ _ h0 h, e2 (by rcases h with h | h <;> omega)]
/-! ### ranks of patterns that are rounded -/
end Go.Proofs.YtheliihkkoohnabGreat

namespace Go.Proofs.YtheliihkkoohnabGreat
set_option maxRecDepth 100000
set_option linter.unusedVariables false
set_option linter.unusedSimpArgs false

/-! ### exact whole numbers times a power of 2, and their first 128 digits (plain mathematics) -/
theorem blen_two {N : Nat} (j : Nat) (h : N ≠ 0) : blen (N * 2 ^ j) = blen N + j := by
  have hp : 0 < 2 ^ j := Nat.pow_pos (by decide)
  have e : N * 2 ^ j / 2 ^ j = N := Nat.mul_div_cancel _ hp
  have := @blen_shift (N * 2 ^ j) j (by rw [e]; exact h)
  rw [e] at this
  exact this
theorem blen_at {N m : Nat} (h1 : 2 ^ m ≤ N) (h2 : N < 2 ^ (m + 1)) : blen N = m + 1 := by
  have a := blen_le.2 h2
  have b : ¬ blen N ≤ m := fun c => by have := blen_le.1 c; omega
  omega
/-- what the first 128 digits are, and what is lost -/
theorem norm_at {N j : Nat} (h1 : 2 ^ (127 + j) ≤ N) (h2 : N < 2 ^ (128 + j)) : blen N = 128 + j ∧ normN N = N / 2 ^ j ∧ lostN N = decide (N % 2 ^ j ≠ 0) := by
  have hb : blen N = 128 + j := by
    have := @blen_at N (127 + j) h1 (by rw [show 127 + j + 1 = 128 + j by omega]; exact h2)
    omega
  refine ⟨hb, ?_, ?_⟩
  · unfold normN; rw [hb, if_neg (by omega), show 128 + j - 128 = j by omega]
  · unfold lostN; rw [hb, show 128 + j - 128 = j by omega]
    rcases Nat.eq_zero_or_pos j with rfl | hj
    · rw [Nat.pow_zero, Nat.mod_one]; rfl
    · rw [decide_eq_true (show 128 < 128 + j by omega), Bool.true_and]
theorem norm_two {N : Nat} (j : Nat) (h : N ≠ 0) : normN (N * 2 ^ j) = normN N ∧ lostN (N * 2 ^ j) = lostN N := by
  have hb := blen_two j h
  have hp : 0 < 2 ^ j := Nat.pow_pos (by decide)
  unfold normN lostN
  rw [hb]
  by_cases h1 : blen N < 128
  · rw [if_pos h1, decide_eq_false (show ¬ 128 < blen N by omega), Bool.false_and]
    by_cases h2 : blen N + j < 128
    · rw [if_pos h2, decide_eq_false (show ¬ 128 < blen N + j by omega), Bool.false_and, Nat.mul_assoc, ← Nat.pow_add, show j + (128 - (blen N + j)) = 128 - blen N by omega]
      exact ⟨rfl, rfl⟩
    · have e : 2 ^ j = 2 ^ (128 - blen N) * 2 ^ (blen N + j - 128) := by rw [← Nat.pow_add, show 128 - blen N + (blen N + j - 128) = j by omega]
      have hq : 0 < 2 ^ (blen N + j - 128) := Nat.pow_pos (by decide)
      rw [if_neg h2, e, ← Nat.mul_assoc, Nat.mul_div_cancel _ hq, Nat.mul_mod_left]
      refine ⟨rfl, ?_⟩
      simp
  · have e : 2 ^ (blen N + j - 128) = 2 ^ (blen N - 128) * 2 ^ j := by rw [← Nat.pow_add, show blen N - 128 + j = blen N + j - 128 by omega]
    rw [if_neg h1, if_neg (by omega), e, Nat.mul_div_mul_right _ _ hp, Nat.mul_mod_mul_right]
    refine ⟨rfl, ?_⟩
    by_cases h3 : 128 < blen N
    · rw [decide_eq_true h3, decide_eq_true (show 128 < blen N + j by omega), Bool.true_and, Bool.true_and]
      generalize N % 2 ^ (blen N - 128) = x at *
      generalize 2 ^ j = y at *
      by_cases hx : x = 0
      · rw [hx, Nat.zero_mul]
      · have : x * y ≠ 0 := fun c => by rcases Nat.mul_eq_zero.1 c with c | c; exact hx c; omega
        rw [decide_eq_true this, decide_eq_true hx]
    · rw [decide_eq_false h3, Bool.false_and, show blen N - 128 = 0 by omega, Nat.pow_zero, Nat.mod_one, Nat.zero_mul]
      simp
theorem exactV_two (neg : Bool) {N : Nat} (j : Nat) (e : Int) (r : Bool) : exactV neg (N * 2 ^ j) (e - j) r = exactV neg N e r := by
  have hp : 0 < 2 ^ j := Nat.pow_pos (by decide)
  by_cases h : N = 0
  · subst h; rw [Nat.zero_mul]; unfold exactV; rw [if_pos rfl, if_pos rfl]
  · have h2 : N * 2 ^ j ≠ 0 := fun c => by rcases Nat.mul_eq_zero.1 c with c | c; exact h c; omega
    obtain ⟨a, b⟩ := norm_two j h
    unfold exactV
    rw [if_neg h, if_neg h2, a, b, blen_two j h, show e - (j : Int) + ((blen N + j : Nat) : Int) - 1 = e + (blen N : Int) - 1 by omega]
/-- the first 128 digits of a sum don't hang on a far lesser number -/
theorem far_add (neg : Bool) (s : Int) {M B d : Nat} (hM : Mant M) (hB : 1 ≤ B) (hd : B < 2 ^ d) :
    exactV neg (M * 2 ^ d + B) (s - 127 - d) false = exV 1 neg (heldX s) (M / 2 ^ 64 % 2 ^ 64) (M % 2 ^ 64) true := by
  obtain ⟨m1, m2⟩ := hM
  have hp : 0 < 2 ^ d := Nat.pow_pos (by decide)
  have l1 : 2 ^ (127 + d) ≤ M * 2 ^ d + B := by rw [Nat.pow_add]; exact Nat.le_trans (Nat.mul_le_mul_right _ m1) (Nat.le_add_right _ _)
  have l2 : M * 2 ^ d + B < 2 ^ (128 + d) := by
    rw [Nat.pow_add]
    have := Nat.mul_le_mul_right (2 ^ d) (show M + 1 ≤ 2 ^ 128 from m2)
    rw [Nat.add_mul, Nat.one_mul] at this
    omega
  obtain ⟨b, nn, ll⟩ := norm_at l1 l2
  have e1 : (M * 2 ^ d + B) / 2 ^ d = M := by rw [Nat.mul_comm, Nat.mul_add_div hp, Nat.div_eq_of_lt hd, Nat.add_zero]
  have e2 : (M * 2 ^ d + B) % 2 ^ d = B := by rw [Nat.mul_comm, Nat.mul_add_mod, Nat.mod_eq_of_lt hd]
  unfold exactV
  rw [if_neg (by omega), b, nn, ll, e1, e2, decide_eq_true (show B ≠ 0 by omega), show s - 127 - (d : Int) + ((128 + d : Nat) : Int) - 1 = s by omega]
  rfl
theorem far_sub (neg : Bool) (s : Int) {M B d : Nat} (hM : Mant M) (hB : 1 ≤ B) (hd : B < 2 ^ d) :
    exactV neg (M * 2 ^ (d + 1) - B) (s - 127 - (d + 1 : Nat)) false = if M = 2 ^ 127 then exV 1 neg (heldX (s - 1)) (2 ^ 64 - 1) (2 ^ 64 - 1) true else exV 1 neg (heldX s) ((M - 1) / 2 ^ 64 % 2 ^ 64) ((M - 1) % 2 ^ 64) true := by
  obtain ⟨m1, m2⟩ := hM
  have hp : 0 < 2 ^ d := Nat.pow_pos (by decide)
  by_cases h : M = 2 ^ 127
  · rw [if_pos h]
    have eN : M * 2 ^ (d + 1) - B = (2 ^ 128 - 1) * 2 ^ d + (2 ^ d - B) := by
      rw [h, Nat.pow_succ 2 d, Nat.sub_mul, Nat.one_mul, Nat.mul_comm (2 ^ d) 2, ← Nat.mul_assoc, ← Nat.pow_succ]
      have : 2 ^ d ≤ 2 ^ 128 * 2 ^ d := Nat.le_mul_of_pos_left _ (by decide)
      show 2 ^ 128 * 2 ^ d - B = _
      omega
    have hlt : 2 ^ d - B < 2 ^ d := by omega
    have l1 : 2 ^ (127 + d) ≤ (2 ^ 128 - 1) * 2 ^ d + (2 ^ d - B) := by
      rw [Nat.pow_add]; exact Nat.le_trans (Nat.mul_le_mul_right _ (by decide)) (Nat.le_add_right _ _)
    have l2 : (2 ^ 128 - 1) * 2 ^ d + (2 ^ d - B) < 2 ^ (128 + d) := by
      rw [Nat.pow_add, Nat.sub_mul, Nat.one_mul]
      have : 2 ^ d ≤ 2 ^ 128 * 2 ^ d := Nat.le_mul_of_pos_left _ (by decide)
      omega
    obtain ⟨b, nn, ll⟩ := norm_at l1 l2
    have e1 : ((2 ^ 128 - 1) * 2 ^ d + (2 ^ d - B)) / 2 ^ d = 2 ^ 128 - 1 := by rw [Nat.mul_comm, Nat.mul_add_div hp, Nat.div_eq_of_lt hlt, Nat.add_zero]
    have e2 : ((2 ^ 128 - 1) * 2 ^ d + (2 ^ d - B)) % 2 ^ d = 2 ^ d - B := by rw [Nat.mul_comm, Nat.mul_add_mod, Nat.mod_eq_of_lt hlt]
    rw [eN]
    have h0 : ¬ ((2 ^ 128 - 1) * 2 ^ d + (2 ^ d - B) = 0) := by
      have := Nat.pow_pos (n := 127 + d) (show 0 < 2 by decide); omega
    unfold exactV
    rw [if_neg h0, b, nn, ll, e1, e2, decide_eq_true (show 2 ^ d - B ≠ 0 by omega), show s - 127 - ((d + 1 : Nat) : Int) + ((128 + d : Nat) : Int) - 1 = s - 1 by omega]
    rfl
  · rw [if_neg h]
    have hd2 : 2 ^ d ≤ 2 ^ (d + 1) := Nat.pow_le_pow_right (by decide) (by omega)
    have hp2 : 0 < 2 ^ (d + 1) := Nat.pow_pos (by decide)
    obtain ⟨m, rfl⟩ : ∃ m, M = m + 1 := ⟨M - 1, by have := Nat.pow_pos (n := 127) (show 0 < 2 by decide); omega⟩
    rw [Nat.add_sub_cancel]
    have hm1 : 2 ^ 127 ≤ m := by omega
    have hm2 : m + 1 ≤ 2 ^ 128 := by omega
    generalize hD : d + 1 = D at *
    have eN : (m + 1) * 2 ^ D - B = m * 2 ^ D + (2 ^ D - B) := by rw [Nat.add_mul, Nat.one_mul]; omega
    have hlt : 2 ^ D - B < 2 ^ D := by omega
    have l1 : 2 ^ (127 + D) ≤ m * 2 ^ D + (2 ^ D - B) := by
      rw [Nat.pow_add]; exact Nat.le_trans (Nat.mul_le_mul_right _ hm1) (Nat.le_add_right _ _)
    have l2 : m * 2 ^ D + (2 ^ D - B) < 2 ^ (128 + D) := by
      rw [Nat.pow_add]
      have := Nat.mul_le_mul_right (2 ^ D) hm2
      rw [Nat.add_mul, Nat.one_mul] at this
      omega
    obtain ⟨b, nn, ll⟩ := norm_at l1 l2
    have e1 : (m * 2 ^ D + (2 ^ D - B)) / 2 ^ D = m := by rw [Nat.mul_comm, Nat.mul_add_div hp2, Nat.div_eq_of_lt hlt, Nat.add_zero]
    have e2 : (m * 2 ^ D + (2 ^ D - B)) % 2 ^ D = 2 ^ D - B := by rw [Nat.mul_comm, Nat.mul_add_mod, Nat.mod_eq_of_lt hlt]
    rw [eN]
    have h0 : ¬ (m * 2 ^ D + (2 ^ D - B) = 0) := by
      have := Nat.pow_pos (n := 127 + D) (show 0 < 2 by decide); omega
    unfold exactV
    rw [if_neg h0, b, nn, ll, e1, e2, decide_eq_true (show 2 ^ D - B ≠ 0 by omega), show s - 127 - (D : Int) + ((128 + D : Nat) : Int) - 1 = s by omega]
    rfl
end Go.Proofs.YtheliihkkoohnabGreat

namespace Go.Proofs.YtheliihkkoohnabGreat
set_option maxRecDepth 100000
set_option linter.unusedVariables false
set_option linter.unusedSimpArgs false

/-! ### sums as whole numbers times a power of 2 (plain mathematics) -/
/-- a whole number times 2^e, its first 128 digits -/
def exI (T : Int) (e : Int) : Value := exactV (decide (T < 0)) T.natAbs e false
def sg (neg : Bool) (N : Nat) : Int := if neg then -(N : Int) else N
theorem exactV_zero (neg : Bool) (e : Int) (r : Bool) : exactV neg 0 e r = exV 0 false 0 0 0 false := by unfold exactV; rw [if_pos rfl]
theorem exI_sg (neg : Bool) (N : Nat) (e : Int) : exI (sg neg N) e = exactV neg N e false := by
  by_cases h : N = 0
  · subst h
    have : sg neg 0 = 0 := by unfold sg; cases neg <;> rfl
    rw [this, exactV_zero]
    show exactV _ 0 e false = _
    rw [exactV_zero]
  · unfold exI sg
    cases neg
    · rw [if_neg (by decide), Int.natAbs_natCast, decide_eq_false (by omega)]
    · rw [if_pos rfl, Int.natAbs_neg, Int.natAbs_natCast, decide_eq_true (by omega)]
theorem sg_mul (neg : Bool) (N c : Nat) : sg neg (N * c) = sg neg N * c := by unfold sg; cases neg <;> simp [Int.neg_mul]
theorem exI_two (T : Int) (j : Nat) (e : Int) : exI (T * ((2 ^ j : Nat) : Int)) (e - j) = exI T e := by
  have h : ∃ neg N, T = sg neg N := by
    by_cases h : T < 0
    · exact ⟨true, T.natAbs, by unfold sg; rw [if_pos rfl]; omega⟩
    · exact ⟨false, T.natAbs, by unfold sg; rw [if_neg (by decide)]; omega⟩
  obtain ⟨neg, N, rfl⟩ := h
  rw [← sg_mul, exI_sg, exI_sg, exactV_two]
def farD : Nat := 400
theorem farD_eq : farD = 400 := rfl
/-- what the document's Sum answers where the first scale is no less -/
def sumD (neg : Bool) (s : Int) (M : Nat) (neg' : Bool) (s' : Int) (M' : Nat) : Value :=
  let d := if 400 < s - s' then farD else (s - s').toNat
  let b := if 400 < s - s' then 1 else M'
  if neg = neg' then exactV neg (M * 2 ^ d + b) (s - 127 - d) false
  else if b ≤ M * 2 ^ d then exactV neg (M * 2 ^ d - b) (s - 127 - d) false
  else exactV neg' (b - M * 2 ^ d) (s - 127 - d) false
/-- without the bound on the distance -/
theorem sumD_near (neg : Bool) (s : Int) (M : Nat) (neg' : Bool) (s' : Int) (M' : Nat) (hM : Mant M) (hM' : Mant M') (h : s' ≤ s) (d : Nat) (hd : (d : Int) = s - s') :
    sumD neg s M neg' s' M' = if neg = neg' then exactV neg (M * 2 ^ d + M') (s - 127 - d) false else if M' ≤ M * 2 ^ d then exactV neg (M * 2 ^ d - M') (s - 127 - d) false else exactV neg' (M' - M * 2 ^ d) (s - 127 - d) false := by
  unfold sumD
  by_cases hf : 400 < s - s'
  · simp only [if_pos hf]
    have hd4 : 400 < d := by omega
    obtain ⟨m1, m2⟩ := hM'
    have m0 : 1 ≤ M' := Nat.le_trans Nat.one_le_two_pow m1
    have hlt : ∀ k, 128 ≤ k → M' < 2 ^ k := fun k hk => Nat.lt_of_lt_of_le m2 (Nat.pow_le_pow_right (by decide) hk)
    have h1k : ∀ k, 1 ≤ k → 1 < 2 ^ k := fun k hk => Nat.lt_of_lt_of_le (by decide : 1 < 2 ^ 1) (Nat.pow_le_pow_right (by decide) hk)
    have hbig : ∀ k B, 128 ≤ k → B < 2 ^ k → B ≤ M * 2 ^ k := fun k B hk hB => Nat.le_trans (Nat.le_of_lt hB) (Nat.le_mul_of_pos_left _ (by have := hM.1; have := Nat.pow_pos (n := 127) (show 0 < 2 by decide); omega))
    by_cases hn : neg = neg'
    · rw [if_pos hn, if_pos hn]
      have a := far_add neg s (M := M) (B := 1) (d := farD) hM (Nat.le_refl _) (h1k farD (by rw [farD_eq]; omega))
      have b := far_add neg s (M := M) (B := M') (d := d) hM m0 (hlt _ (by omega))
      rw [b]
      exact a
    · rw [if_neg hn, if_neg hn, if_pos (hbig farD 1 (by rw [farD_eq]; omega) (h1k farD (by rw [farD_eq]; omega))), if_pos (hbig d M' (by omega) (hlt _ (by omega)))]
      have a := far_sub neg s (M := M) (B := 1) (d := farD - 1) hM (Nat.le_refl _) (h1k (farD - 1) (by rw [farD_eq]; omega))
      rw [show farD - 1 + 1 = farD by rw [farD_eq]] at a
      have b := far_sub neg s (M := M) (B := M') (d := d - 1) hM m0 (hlt _ (by omega))
      rw [show d - 1 + 1 = d by omega] at b
      rw [b]
      exact a
  · simp only [if_neg hf]
    rw [show (s - s').toNat = d by omega]
theorem sg_add (neg : Bool) (A B : Nat) : sg neg A + sg neg B = sg neg (A + B) := by unfold sg; cases neg <;> simp <;> omega
theorem sg_sub (neg neg' : Bool) (A B : Nat) (h : neg ≠ neg') : sg neg A + sg neg' B = if B ≤ A then sg neg (A - B) else sg neg' (B - A) := by
  unfold sg
  cases neg <;> cases neg' <;> simp at h ⊢ <;> split <;> omega
/-- it is the sum of two whole numbers times a power of 2 -/
theorem sumD_int (neg : Bool) (s : Int) (M : Nat) (neg' : Bool) (s' : Int) (M' : Nat) (hM : Mant M) (hM' : Mant M') (h : s' ≤ s) (e : Int) (j j' : Nat) (hj : e + j = s) (hj' : e + j' = s') :
    sumD neg s M neg' s' M' = exI (sg neg M * ((2 ^ j : Nat) : Int) + sg neg' M' * ((2 ^ j' : Nat) : Int)) (e - 127) := by
  obtain ⟨d, hd⟩ : ∃ d : Nat, (d : Int) = s - s' := ⟨(s - s').toNat, by omega⟩
  rw [sumD_near neg s M neg' s' M' hM hM' h d hd]
  have hjd : j = d + j' := by omega
  have e1 : sg neg M * ((2 ^ j : Nat) : Int) + sg neg' M' * ((2 ^ j' : Nat) : Int) = (sg neg (M * 2 ^ d) + sg neg' M') * ((2 ^ j' : Nat) : Int) := by
    rw [hjd, Nat.pow_add, sg_mul, Int.add_mul, Int.natCast_mul, Int.mul_assoc]
  have e2 : e - 127 = s - 127 - d - j' := by omega
  rw [e1, e2, exI_two]
  by_cases hn : neg = neg'
  · subst hn
    rw [if_pos rfl, sg_add, exI_sg]
  · rw [if_neg hn, sg_sub _ _ _ _ hn]
    split
    · rw [exI_sg]
    · rw [exI_sg]
/-- the document's Sum of two numbers -/
def sumR (neg : Bool) (s : Int) (M : Nat) (neg' : Bool) (s' : Int) (M' : Nat) : Value := if s < s' then sumD neg' s' M' neg s M else sumD neg s M neg' s' M'
theorem sumR_int (neg : Bool) (s : Int) (M : Nat) (neg' : Bool) (s' : Int) (M' : Nat) (hM : Mant M) (hM' : Mant M') (e : Int) (j j' : Nat) (hj : e + j = s) (hj' : e + j' = s') :
    sumR neg s M neg' s' M' = exI (sg neg M * ((2 ^ j : Nat) : Int) + sg neg' M' * ((2 ^ j' : Nat) : Int)) (e - 127) := by
  unfold sumR
  by_cases h : s < s'
  · rw [if_pos h, sumD_int neg' s' M' neg s M hM' hM (by omega) e j' j hj' hj, Int.add_comm]
  · rw [if_neg h, sumD_int neg s M neg' s' M' hM hM' (by omega) e j j' hj hj']
/-- a number itself -/
theorem exI_real (neg : Bool) (s : Int) (hi lo : Nat) (h : WordsX hi lo) (hs : -1099511627776 ≤ s ∧ s ≤ 1099511627776) (e : Int) (j : Nat) (hj : e + j = s) :
    exI (sg neg (manX hi lo) * ((2 ^ j : Nat) : Int)) (e - 127) = exV 1 neg s hi lo false := by
  rw [show e - 127 = s - 127 - j by omega, exI_two, exI_sg]
  have hm := h.mant
  obtain ⟨b, nn, ll⟩ := @norm_at (manX hi lo) 0 hm.1 hm.2
  have h0 : manX hi lo ≠ 0 := by have := hm.1; have := Nat.pow_pos (n := 127) (show 0 < 2 by decide); omega
  unfold exactV
  rw [if_neg h0, b, nn, ll, Nat.pow_zero, Nat.div_one, Nat.mod_one]
  obtain ⟨a1, a2, a3⟩ := h
  have hx : heldX (s - 127 + ((128 + 0 : Nat) : Int) - 1) = s := by unfold heldX; rw [if_neg (by omega), if_neg (by omega)]; omega
  have w1 : manX hi lo / 2 ^ 64 % 2 ^ 64 = hi := by unfold manX; omega
  have w2 : manX hi lo % 2 ^ 64 = lo := by unfold manX; omega
  rw [hx, w1, w2]
  rfl
end Go.Proofs.YtheliihkkoohnabGreat

namespace Go.Proofs.YtheliihkkoohnabGreat
set_option maxRecDepth 100000
set_option linter.unusedVariables false
set_option linter.unusedSimpArgs false

/-! ### rounding whole numbers times a power of 2: it rises (plain mathematics) -/
/-- a whole number above 0 times 2^e, rounded -/
def mgI (n N : Nat) (e : Int) (r : Bool) : Nat := rndX n (heldX (e + blen N - 1)) (normN N / 2 ^ 64 % 2 ^ 64) (normN N % 2 ^ 64) (r || lostN N)
theorem man_norm {N : Nat} (h : N ≠ 0) : manX (normN N / 2 ^ 64 % 2 ^ 64) (normN N % 2 ^ 64) = normN N := by
  have h2 := (normN_mant h).2
  unfold manX
  generalize normN N = M at *
  omega
theorem blen_mono {N N' : Nat} (h : N ≤ N') : blen N ≤ blen N' := blen_le.2 (Nat.lt_of_le_of_lt h (blen_hi N'))
theorem mgI_range {n N : Nat} (e : Int) (r : Bool) (hn : Wd n) (h0 : N ≠ 0) : 1 ≤ mgI n N e r ∧ mgI n N e r ≤ 2 ^ (n - 1) - 1 := rnd_range n _ _ _ _ hn (normN_words h0)
def patI (n : Nat) (T e : Int) : Nat := if T = 0 then 0 else patR n (decide (T < 0)) (mgI n T.natAbs e false)
end Go.Proofs.YtheliihkkoohnabGreat

namespace Go.Proofs.YtheliihkkoohnabGreat
open Go.ChangeShapes Go.WideShapes Go.ChangeAt Go.RowKit
set_option linter.unusedVariables false
set_option linter.unusedSimpArgs false
set_option maxRecDepth 100000

/-! ### ranks, neighbours, signs: what is answered -/
def negO (n p : Nat) : Nat := minusU p % 2 ^ n
/-! ### steps -/
end Go.Proofs.YtheliihkkoohnabGreat

namespace Go.Proofs.YtheliihkkoohnabGreat
open Go.ChangeShapes Go.WideShapes Go.ChangeAt Go.RowKit
set_option linter.unusedVariables false
set_option linter.unusedSimpArgs false
set_option maxRecDepth 100000

end Go.Proofs.YtheliihkkoohnabGreat

namespace Go.Proofs.YtheliihkkoohnabGreat
open Go.ChangeShapes Go.WideShapes Go.ChangeAt Go.RowKit
set_option linter.unusedVariables false
set_option linter.unusedSimpArgs false
set_option maxRecDepth 100000

/-! ### ranks (plain mathematics) -/
end Go.Proofs.YtheliihkkoohnabGreat

namespace Go.Proofs.YtheliihkkoohnabGreat
open Go.ChangeShapes Go.WideShapes Go.ChangeAt Go.RowKit
set_option linter.unusedVariables false
set_option linter.unusedSimpArgs false
set_option maxRecDepth 100000

/-! ### ties (plain mathematics) -/
end Go.Proofs.YtheliihkkoohnabGreat

namespace Go.Proofs.YtheliihkkoohnabGreat
open Go.ChangeShapes Go.WideShapes Go.ChangeAt Go.RowKit
set_option linter.unusedVariables false
set_option linter.unusedSimpArgs false
set_option maxRecDepth 100000

/-! ### the order of ranks is the order of values -/
def vK (n x : Nat) : Int := kindOf n (x % 2 ^ n)
def vB (n x : Nat) : Bool := if kindOf n (x % 2 ^ n) = 1 then x.testBit (n - 1) else false
def vS (n x : Nat) : Int := if kindOf n (x % 2 ^ n) = 1 then scaleL (strS n x) else 0
def vF (n x : Nat) : Nat := if kindOf n (x % 2 ^ n) = 1 then wordL (strS n x) else 0
theorem decode6_v (n x : Nat) (hn : Wd n) (hx : x < 2 ^ 64) (w : World) :
    Calls Tryz.prog 7 #[.int .i64 n, .int .u64 x] w fun e w' => e = .returned (numV (vK n x) (vB n x) (vS n x) (vF n x)) ∧ Below w.heap.size w w' := by
  unfold vK vB vS vF
  by_cases hk : kindOf n (x % 2 ^ n) = 1
  · rw [if_pos hk, if_pos hk, if_pos hk]
    have := decode6_real n x hn hx hk w
    rwa [← hk] at this
  · rw [if_neg hk, if_neg hk, if_neg hk]
    exact decode6_other n x hn hk w
theorem sound_v (n x : Nat) (hn : Wd n) (hx : x < 2 ^ 64) : soundN (vK n x) (vB n x) (vS n x) (vF n x) = true := by
  unfold vK vB vS vF
  by_cases hk : kindOf n (x % 2 ^ n) = 1
  · rw [if_pos hk, if_pos hk, if_pos hk, hk]
    exact sound_home n _ _ hn (strS_length n x) (patOf_str n x hn hx hk).1
  · rw [if_neg hk, if_neg hk, if_neg hk]
    rcases kind_cases n _ hk with ⟨h, _⟩ | ⟨h, _⟩ <;> rw [h] <;> rfl
end Go.Proofs.YtheliihkkoohnabGreat

namespace Go.Proofs.YtheliihkkoohnabGreat
set_option maxRecDepth 100000
set_option linter.unusedVariables false
set_option linter.unusedSimpArgs false

/-! ### what patterns mean, as whole numbers times 2^(-375) (plain mathematics) -/
def eN : Int := -375
def valI (n x : Nat) : Int := if vK n x = 1 then sg (vB n x) (manX (vF n x) 0) * ((2 ^ (vS n x + 248).toNat : Nat) : Int) else 0
theorem v_real (n x : Nat) (hn : Wd n) (hx : x < 2 ^ 64) (hk : vK n x = 1) : vB n x = x.testBit (n - 1) ∧ vS n x = scaleL (strS n x) ∧ vF n x = wordL (strS n x) ∧ true ∈ strS n x ∧ (strS n x).length = n - 1 ∧ kindOf n (x % 2 ^ n) = 1 ∧ WordsX (vF n x) 0 ∧ 8 - 4 * (n : Int) ≤ vS n x ∧ vS n x ≤ 4 * n - 8 := by
  have hk' : kindOf n (x % 2 ^ n) = 1 := hk
  obtain ⟨ht, hp⟩ := patOf_str n x hn hx hk'
  have e1 : vB n x = x.testBit (n - 1) := by unfold vB; rw [if_pos hk']
  have e2 : vS n x = scaleL (strS n x) := by unfold vS; rw [if_pos hk']
  have e3 : vF n x = wordL (strS n x) := by unfold vF; rw [if_pos hk']
  refine ⟨e1, e2, e3, ht, strS_length n x, hk', by rw [e3]; exact words_of _, ?_⟩
  rw [e2]
  have := of_decide_eq_true (inR_of n _ hn (strS_length n x) ht)
  exact ⟨by omega, by omega⟩
theorem v_kinds (n x : Nat) (hn : Wd n) : vK n x = 0 ∧ x % 2 ^ n = 0 ∨ vK n x = 1 ∨ vK n x = 2 ∧ x % 2 ^ n = 2 ^ (n - 1) := by
  by_cases hk : kindOf n (x % 2 ^ n) = 1
  · exact .inr (.inl hk)
  · rcases kind_cases n _ hk with ⟨h, h2⟩ | ⟨h, h2⟩
    · exact .inl ⟨h, h2⟩
    · exact .inr (.inr ⟨h, h2⟩)
/-- a real's value, ahead of its rounding -/
theorem val_real (n x : Nat) (hn : Wd n) (hx : x < 2 ^ 64) (hk : vK n x = 1) : exI (valI n x) eN = exV 1 (vB n x) (vS n x) (vF n x) 0 false := by
  obtain ⟨_, _, _, _, _, _, hwd, h1, h2⟩ := v_real n x hn hx hk
  have hw := wd_le hn
  unfold valI
  rw [if_pos hk]
  have e := exI_real (vB n x) (vS n x) (vF n x) 0 hwd (by omega) (-248) (vS n x + 248).toNat (by omega)
  rw [show (-248 : Int) - 127 = eN from rfl] at e
  exact e
theorem val_zero (n x : Nat) (hk : vK n x ≠ 1) : valI n x = 0 := by unfold valI; rw [if_neg hk]
theorem sg_abs (neg : Bool) (N : Nat) : (sg neg N).natAbs = N := by unfold sg; cases neg <;> simp
theorem blen_add {N N' k : Nat} (h : blen N ≤ k) (h' : blen N' ≤ k) : blen (N + N') ≤ k + 1 := by
  have a := blen_le.1 h
  have b := blen_le.1 h'
  exact blen_le.2 (by rw [Nat.pow_succ]; omega)
theorem val_blen (n x : Nat) (hn : Wd n) (hx : x < 2 ^ 64) : blen (valI n x).natAbs ≤ 624 := by
  by_cases hk : vK n x = 1
  · obtain ⟨_, _, _, _, _, _, hwd, h1, h2⟩ := v_real n x hn hx hk
    have hw := wd_le hn
    unfold valI
    rw [if_pos hk, Int.natAbs_mul, sg_abs, Int.natAbs_natCast]
    have hm : (vS n x + 248).toNat ≤ 496 := by omega
    generalize (vS n x + 248).toNat = m at *
    have : blen (manX (vF n x) 0 * 2 ^ m) ≤ 128 + m := blen_le.2 (by rw [Nat.pow_add]; exact Nat.mul_lt_mul_of_pos_right hwd.mant.2 (Nat.pow_pos (by decide)))
    omega
  · rw [val_zero n x hk]
    show blen 0 ≤ 624
    rw [blen_zero]; omega
theorem val_inj {k k' : Int} {neg neg' : Bool} {s s' : Int} {hi lo hi' lo' : Nat} {r r' : Bool} (h : exV k neg s hi lo r = exV k' neg' s' hi' lo' r') : neg = neg' ∧ s = s' ∧ hi = hi' ∧ lo = lo' ∧ r = r' := by
  unfold exV at h
  simp only [Value.agg.injEq, Array.mk.injEq, List.cons.injEq, Value.int.injEq, Value.bool.injEq, true_and, and_true] at h
  obtain ⟨_, h1, h2, h3, h4, h5⟩ := h
  exact ⟨h1, h2, by omega, by omega, h5⟩
/-- the magnitude that is rounded, from the number ahead of its rounding -/
theorem patI_of {n : Nat} {T e : Int} {neg : Bool} {s : Int} {hi lo : Nat} {r : Bool} (h0 : T ≠ 0) (h : exI T e = exV 1 neg s hi lo r) : patI n T e = patR n neg (rndX n s hi lo r) := by
  unfold exI exactV at h
  rw [if_neg (by omega)] at h
  obtain ⟨h1, h2, h3, h4, h5⟩ := val_inj h
  unfold patI mgI
  rw [if_neg h0, h1, h2, h3, h4, h5]
/-- the negative pattern means the negative number -/
theorem val_neg (n x y : Nat) (hn : Wd n) (hx : x < 2 ^ 64) (hy : y < 2 ^ 64) (h : y % 2 ^ n = (2 ^ n - x % 2 ^ n) % 2 ^ n) : vK n y = vK n x ∧ valI n y = -valI n x ∧ (vK n x = 1 → vB n y = !vB n x) ∧ vS n y = vS n x ∧ vF n y = vF n x := by
  obtain ⟨H, p1, p2, p3, _⟩ := wd_pows hn
  have hm := Nat.mod_lt x (show 0 < 2 ^ n by omega)
  have hw := wd_le hn
  have hkk : vK n y = vK n x := by
    unfold vK kindOf
    rw [h, p2]
    by_cases c0 : x % 2 ^ n = 0
    · rw [c0, Nat.sub_zero, Nat.mod_self, if_pos rfl]
    · rw [Nat.mod_eq_of_lt (by omega), if_neg c0, if_neg (by omega)]
      by_cases c1 : x % 2 ^ n = H
      · rw [if_pos c1, if_pos (by omega)]
      · rw [if_neg c1, if_neg (by omega)]
  by_cases hk : vK n x = 1
  · have hk2 : vK n y = 1 := by rw [hkk, hk]
    obtain ⟨a1, a2, a3, at_, al, ak, _⟩ := v_real n x hn hx hk
    obtain ⟨b1, b2, b3, bt, bl, bk, _⟩ := v_real n y hn hy hk2
    have hne : x % 2 ^ n ≠ 0 ∧ x % 2 ^ n ≠ H := by
      unfold kindOf at ak
      constructor
      · intro c; rw [if_pos c] at ak; exact absurd ak (by decide)
      · intro c; rw [if_neg (by omega), p2, if_pos c] at ak; exact absurd ak (by decide)
    have hy2 : y % 2 ^ n = 2 ^ n - x % 2 ^ n := by rw [h, Nat.mod_eq_of_lt (by omega)]
    have tx := top_of n (x % 2 ^ n) hn hm
    have ty := top_of n (y % 2 ^ n) hn (Nat.mod_lt _ (by omega))
    rw [← testBit_low x n (by omega), p2] at tx
    rw [← testBit_low y n (by omega), p2, hy2] at ty
    have hs : strS n y = strS n x := by
      refine numOf_inj (by rw [al, bl]) ?_
      rw [strS_num n y hn hy, strS_num n x hn hx, tx, ty, hy2]
      by_cases c : H ≤ x % 2 ^ n
      · rw [decide_eq_true c, decide_eq_false (show ¬ H ≤ 2 ^ n - x % 2 ^ n by omega)]; rfl
      · rw [decide_eq_false c, decide_eq_true (show H ≤ 2 ^ n - x % 2 ^ n by omega)]
        simp only [Bool.false_eq_true, if_false, if_true]
        congr 1
        omega
    have hB : vB n y = !vB n x := by
      rw [a1, b1, tx, ty]
      by_cases c : H ≤ x % 2 ^ n
      · rw [decide_eq_true c, decide_eq_false (by omega)]; rfl
      · rw [decide_eq_false c, decide_eq_true (by omega)]; rfl
    have hS : vS n y = vS n x := by rw [a2, b2, hs]
    have hF : vF n y = vF n x := by rw [a3, b3, hs]
    refine ⟨hkk, ?_, fun _ => hB, hS, hF⟩
    unfold valI
    rw [if_pos hk, if_pos hk2, hB, hS, hF, ← Int.neg_mul]
    congr 1
    unfold sg
    cases vB n x <;> simp
  · have hk2 : vK n y ≠ 1 := by rw [hkk]; exact hk
    have ak : ¬ kindOf n (x % 2 ^ n) = 1 := hk
    have bk : ¬ kindOf n (y % 2 ^ n) = 1 := hk2
    refine ⟨hkk, by rw [val_zero n x hk, val_zero n y hk2]; rfl, fun c => absurd c hk, ?_, ?_⟩
    · unfold vS; rw [if_neg ak, if_neg bk]
    · unfold vF; rw [if_neg ak, if_neg bk]
end Go.Proofs.YtheliihkkoohnabGreat

namespace Go.Proofs.YtheliihkkoohnabGreat
open Go.ChangeShapes Go.WideShapes Go.ChangeAt Go.RowKit
set_option linter.unusedVariables false
set_option linter.unusedSimpArgs false
set_option maxRecDepth 100000

/-! ### values and ranks (plain mathematics) -/
theorem val_mod (n x y : Nat) (hn : Wd n) (hx : x < 2 ^ 64) (hy : y < 2 ^ 64) (h : x % 2 ^ n = y % 2 ^ n) : valI n x = valI n y := by
  have e : minusU x % 2 ^ n = (2 ^ n - x % 2 ^ n) % 2 ^ n := minusU_mod n x hn hx
  have a := (val_neg n x (minusU x) hn hx (minusU_lt x) e).2.1
  have b := (val_neg n y (minusU x) hn hy (minusU_lt x) (by rw [e, h])).2.1
  omega
/-! ### numbers ahead of their rounding -/
theorem exI_cases (T e : Int) : (T = 0 ∧ exI T e = exV 0 false 0 0 0 false) ∨ (T ≠ 0 ∧ ∃ neg s hi lo r, exI T e = exV 1 neg s hi lo r ∧ WordsX hi lo ∧ soundX 1 neg s hi lo r = true) := by
  by_cases h : T = 0
  · subst h; exact .inl ⟨rfl, exactV_zero _ _ _⟩
  · refine .inr ⟨h, ?_⟩
    have h0 : T.natAbs ≠ 0 := by omega
    have hwd := normN_words h0
    have hb := heldX_bounds (e + blen T.natAbs - 1)
    refine ⟨decide (T < 0), heldX (e + blen T.natAbs - 1), normN T.natAbs / 2 ^ 64 % 2 ^ 64, normN T.natAbs % 2 ^ 64, (false || lostN T.natAbs), by unfold exI exactV; rw [if_neg h0], hwd, ?_⟩
    unfold soundX
    rw [if_neg (by decide)]
    exact decide_eq_true ⟨rfl, hwd.top, hb.1, hb.2⟩
theorem rround_exI (n : Nat) (T e : Int) (hn : Wd n) (w : World) :
    Calls Tryz.prog 33 #[.int .i64 n, exI T e] w fun r w' => r = .returned (.tuple #[.int .u64 (patI n T e : Nat), .nilIface]) ∧ Below w.heap.size w w' := by
  rcases exI_cases T e with ⟨h, h2⟩ | ⟨h, neg, s, hi, lo, r, h2, hwd, hs⟩
  · rw [h2]
    have : patI n T e = 0 := by unfold patI; rw [if_pos h]
    rw [this]
    exact rround_zero n hn w
  · rw [h2, patI_of h h2]
    exact rround_real n neg s hi lo r hn hs hwd w
theorem exI_form (T e : Int) : ∃ k b s h l r, exI T e = exV k b s h l r := exactV_form _ _ _ _
/-! ### the document's Sum of any two -/
def sum9 (k : Int) (neg : Bool) (s : Int) (hi lo : Nat) (k' : Int) (neg' : Bool) (s' : Int) (hi' lo' : Nat) : Value :=
  if k = 2 ∨ k' = 2 then exV 2 false 0 0 0 false
  else if k = 0 then exV k' neg' s' hi' lo' false
  else if k' = 0 then exV k neg s hi lo false
  else sumR neg s (manX hi lo) neg' s' (manX hi' lo')
theorem v_other (n x : Nat) (h : vK n x ≠ 1) : vB n x = false ∧ vS n x = 0 ∧ vF n x = 0 := by
  have h2 : ¬ kindOf n (x % 2 ^ n) = 1 := h
  refine ⟨?_, ?_, ?_⟩
  · unfold vB; rw [if_neg h2]
  · unfold vS; rw [if_neg h2]
  · unfold vF; rw [if_neg h2]
/-- a pattern's value, as it is ahead of its rounding -/
theorem val_exV (n x : Nat) (hn : Wd n) (hx : x < 2 ^ 64) (hk : vK n x ≠ 2) : exV (vK n x) (vB n x) (vS n x) (vF n x) 0 false = exI (valI n x) eN := by
  rcases v_kinds n x hn with ⟨h, _⟩ | h | ⟨h, _⟩
  · obtain ⟨a, b, c⟩ := v_other n x (by rw [h]; decide)
    rw [h, a, b, c, val_zero n x (by rw [h]; decide)]
    exact (exactV_zero _ _ _).symm
  · rw [val_real n x hn hx h, h]
  · exact absurd h hk
theorem sum9_val (n a b : Nat) (hn : Wd n) (ha : a < 2 ^ 64) (hb : b < 2 ^ 64) :
    sum9 (vK n a) (vB n a) (vS n a) (vF n a) 0 (vK n b) (vB n b) (vS n b) (vF n b) 0 = if vK n a = 2 ∨ vK n b = 2 then exV 2 false 0 0 0 false else exI (valI n a + valI n b) eN := by
  unfold sum9
  by_cases h2 : vK n a = 2 ∨ vK n b = 2
  · rw [if_pos h2, if_pos h2]
  · rw [if_neg h2, if_neg h2]
    have na : vK n a ≠ 2 := fun c => h2 (.inl c)
    have nb : vK n b ≠ 2 := fun c => h2 (.inr c)
    by_cases a0 : vK n a = 0
    · rw [if_pos a0, val_exV n b hn hb nb, val_zero n a (by rw [a0]; decide), Int.zero_add]
    · rw [if_neg a0]
      by_cases b0 : vK n b = 0
      · rw [if_pos b0, val_exV n a hn ha na, val_zero n b (by rw [b0]; decide), Int.add_zero]
      · rw [if_neg b0]
        have a1 : vK n a = 1 := by rcases v_kinds n a hn with ⟨h, _⟩ | h | ⟨h, _⟩; exact absurd h a0; exact h; exact absurd h na
        have b1 : vK n b = 1 := by rcases v_kinds n b hn with ⟨h, _⟩ | h | ⟨h, _⟩; exact absurd h b0; exact h; exact absurd h nb
        obtain ⟨_, _, _, _, _, _, wa, sa1, sa2⟩ := v_real n a hn ha a1
        obtain ⟨_, _, _, _, _, _, wb, sb1, sb2⟩ := v_real n b hn hb b1
        have hw := wd_le hn
        have e := sumR_int (vB n a) (vS n a) (manX (vF n a) 0) (vB n b) (vS n b) (manX (vF n b) 0) wa.mant wb.mant (-248) (vS n a + 248).toNat (vS n b + 248).toNat (by omega) (by omega)
        rw [show (-248 : Int) - 127 = eN from rfl] at e
        unfold valI
        rw [if_pos a1, if_pos b1]
        exact e
/-- the pattern of a sum -/
def patS (n a b : Nat) : Nat := if vK n a = 2 ∨ vK n b = 2 then 2 ^ (n - 1) else patI n (valI n a + valI n b) eN
end Go.Proofs.YtheliihkkoohnabGreat

namespace Go.Proofs.YtheliihkkoohnabGreat
set_option maxRecDepth 100000
set_option linter.unusedVariables false
set_option linter.unusedSimpArgs false

/-! ### sums of patterns: what follows (plain mathematics) -/
theorem negO_eq (n x : Nat) (hn : Wd n) (hx : x < 2 ^ 64) : negO n x = (2 ^ n - x % 2 ^ n) % 2 ^ n := minusU_mod n x hn hx
theorem lt64_of {n y : Nat} (hn : Wd n) (h : y < 2 ^ n) : y < 2 ^ 64 := Nat.lt_of_lt_of_le h (Nat.pow_le_pow_right (by decide) (wd_le hn).2)
theorem negO_lt (n x : Nat) (hn : Wd n) : negO n x < 2 ^ n := Nat.mod_lt _ (Nat.pow_pos (by decide))
theorem negO_lt64 (n x : Nat) (hn : Wd n) : negO n x < 2 ^ 64 := lt64_of hn (negO_lt n x hn)
theorem val_negO (n x : Nat) (hn : Wd n) (hx : x < 2 ^ 64) : vK n (negO n x) = vK n x ∧ valI n (negO n x) = -valI n x := by
  have h := negO_eq n x hn hx
  have a := val_neg n x (negO n x) hn hx (negO_lt64 n x hn) (by rw [Nat.mod_eq_of_lt (negO_lt n x hn), h])
  exact ⟨a.1, a.2.1⟩
theorem vK_zero (n : Nat) : vK n 0 = 0 := by unfold vK kindOf; rw [Nat.zero_mod, if_pos rfl]
end Go.Proofs.YtheliihkkoohnabGreat

namespace Go.Proofs.YtheliihkkoohnabGreat
set_option maxRecDepth 100000
set_option linter.unusedVariables false
set_option linter.unusedSimpArgs false

/-! ### products (plain mathematics) -/
def xorB (a b : Bool) : Bool := decide (a ≠ b)
theorem sg_times (a b : Bool) (N M : Nat) : sg a N * sg b M = sg (xorB a b) (N * M) := by
  unfold sg xorB
  cases a <;> cases b <;> simp [Int.neg_mul, Int.mul_neg]
/-- the product ahead of its rounding -/
def prod10 (k : Int) (neg : Bool) (s : Int) (f : Nat) (k' : Int) (neg' : Bool) (s' : Int) (g : Nat) : Value :=
  if k = 2 ∨ k' = 2 then exV 2 false 0 0 0 false
  else if k = 0 ∨ k' = 0 then exV 0 false 0 0 0 false
  else exactV (xorB neg neg') (f * g) (s + s' - 126) false
theorem manX_zero (f : Nat) : manX f 0 = f * 2 ^ 64 := by unfold manX; rw [Nat.add_zero, show (2 : Nat) ^ 64 = 18446744073709551616 by decide]
theorem prod_val (n a b : Nat) (hn : Wd n) (ha : a < 2 ^ 64) (hb : b < 2 ^ 64) (ka : vK n a = 1) (kb : vK n b = 1) :
    exactV (xorB (vB n a) (vB n b)) (vF n a * vF n b) (vS n a + vS n b - 126) false = exI (valI n a * valI n b) (eN + eN) := by
  obtain ⟨_, _, _, _, _, _, _, sa1, sa2⟩ := v_real n a hn ha ka
  obtain ⟨_, _, _, _, _, _, _, sb1, sb2⟩ := v_real n b hn hb kb
  have hw := wd_le hn
  unfold valI
  rw [if_pos ka, if_pos kb, manX_zero, manX_zero, ← exI_sg]
  obtain ⟨j, hj⟩ : ∃ j : Nat, (j : Int) = vS n a + 248 := ⟨(vS n a + 248).toNat, by omega⟩
  obtain ⟨j', hj'⟩ : ∃ j' : Nat, (j' : Int) = vS n b + 248 := ⟨(vS n b + 248).toNat, by omega⟩
  rw [show (vS n a + 248).toNat = j by omega, show (vS n b + 248).toNat = j' by omega]
  have e1 : sg (vB n a) (vF n a * 2 ^ 64) * ((2 ^ j : Nat) : Int) * (sg (vB n b) (vF n b * 2 ^ 64) * ((2 ^ j' : Nat) : Int)) = sg (xorB (vB n a) (vB n b)) (vF n a * vF n b) * ((2 ^ (64 + j + (64 + j')) : Nat) : Int) := by
    rw [← sg_mul, ← sg_mul, sg_times, ← sg_mul]
    congr 1
    rw [Nat.mul_assoc (vF n a), ← Nat.pow_add, Nat.mul_assoc (vF n b), ← Nat.pow_add, Nat.pow_add 2 (64 + j)]
    simp only [Nat.mul_assoc, Nat.mul_left_comm, Nat.mul_comm]
  rw [e1]
  have e2 : eN + eN = vS n a + vS n b - 126 - ((64 + j + (64 + j') : Nat) : Int) := by unfold eN; omega
  rw [e2, exI_two]
theorem prod10_val (n a b : Nat) (hn : Wd n) (ha : a < 2 ^ 64) (hb : b < 2 ^ 64) :
    prod10 (vK n a) (vB n a) (vS n a) (vF n a) (vK n b) (vB n b) (vS n b) (vF n b) = if vK n a = 2 ∨ vK n b = 2 then exV 2 false 0 0 0 false else exI (valI n a * valI n b) (eN + eN) := by
  unfold prod10
  by_cases h2 : vK n a = 2 ∨ vK n b = 2
  · rw [if_pos h2, if_pos h2]
  · rw [if_neg h2, if_neg h2]
    have na : vK n a ≠ 2 := fun c => h2 (.inl c)
    have nb : vK n b ≠ 2 := fun c => h2 (.inr c)
    by_cases h0 : vK n a = 0 ∨ vK n b = 0
    · rw [if_pos h0]
      have hz : valI n a * valI n b = 0 := by
        rcases h0 with c | c
        · rw [val_zero n a (by rw [c]; decide), Int.zero_mul]
        · rw [val_zero n b (by rw [c]; decide), Int.mul_zero]
      rw [hz]
      exact (exactV_zero _ _ _).symm
    · rw [if_neg h0]
      have a1 : vK n a = 1 := by rcases v_kinds n a hn with ⟨h, _⟩ | h | ⟨h, _⟩; exact absurd (.inl h) h0; exact h; exact absurd h na
      have b1 : vK n b = 1 := by rcases v_kinds n b hn with ⟨h, _⟩ | h | ⟨h, _⟩; exact absurd (.inr h) h0; exact h; exact absurd h nb
      exact prod_val n a b hn ha hb a1 b1
/-- the pattern of a product -/
def patP (n a b : Nat) : Nat := if vK n a = 2 ∨ vK n b = 2 then 2 ^ (n - 1) else patI n (valI n a * valI n b) (eN + eN)
end Go.Proofs.YtheliihkkoohnabGreat

namespace Go.Proofs.YtheliihkkoohnabGreat
open Go.ChangeShapes Go.WideShapes Go.ChangeAt Go.RowKit
set_option linter.unusedVariables false
set_option linter.unusedSimpArgs false
set_option maxRecDepth 100000

/-! ### the document's Sum -/
theorem Row.cset {w : World} {v : Value} {l : List Nat} (h : Row w v l) (m k : Nat) (u u' : Value) (hc : w.cell? ⟨m, k, none⟩ = some u) (hu : ∀ x, u ≠ .int .i64 x) : Row (w.setCell ⟨m, k, none⟩ u') v l := h.setU m k u u' hc hu
theorem cmp_ge {a b : Nat} (h : b ≤ a) : decide ((0 : Int) ≤ cmpN a b) = true := by
  refine decide_eq_true ?_
  rcases Nat.lt_or_ge b a with x | x
  · rw [cmpN_gt x]; decide
  · have e : b = a := Nat.le_antisymm h x
    rw [e, cmpN_eq]; decide
theorem sumD_form (neg : Bool) (s : Int) (M : Nat) (neg' : Bool) (s' : Int) (M' : Nat) : ∃ k b s2 h l r, sumD neg s M neg' s' M' = exV k b s2 h l r := by
  unfold sumD
  simp only
  generalize (if 400 < s - s' then farD else (s - s').toNat) = d
  generalize (if 400 < s - s' then 1 else M') = b
  by_cases hn : neg = neg'
  · rw [if_pos hn]; exact exactV_form _ _ _ _
  · rw [if_neg hn]
    by_cases hc : b ≤ M * 2 ^ d
    · rw [if_pos hc]; exact exactV_form _ _ _ _
    · rw [if_neg hc]; exact exactV_form _ _ _ _
end Go.Proofs.YtheliihkkoohnabGreat

namespace Go.Proofs.YtheliihkkoohnabGreat
open Go.ChangeShapes Go.WideShapes Go.ChangeAt Go.RowKit
set_option linter.unusedVariables false
set_option linter.unusedSimpArgs false
set_option maxRecDepth 100000

theorem sumR_form (neg : Bool) (s : Int) (M : Nat) (neg' : Bool) (s' : Int) (M' : Nat) : ∃ k b s2 h l r, sumR neg s M neg' s' M' = exV k b s2 h l r := by
  unfold sumR
  by_cases c : s < s'
  · rw [if_pos c]; exact sumD_form _ _ _ _ _ _
  · rw [if_neg c]; exact sumD_form _ _ _ _ _ _
theorem vF_lt (n x : Nat) : vF n x < 2 ^ 64 := by
  unfold vF
  split
  · exact (wordL_bounds _).2
  · decide
end Go.Proofs.YtheliihkkoohnabGreat

namespace Go.Proofs.YtheliihkkoohnabGreat
open Go.ChangeShapes Go.WideShapes Go.ChangeAt Go.RowKit
set_option linter.unusedVariables false
set_option linter.unusedSimpArgs false
set_option maxRecDepth 100000

/-! ### the document's products -/
theorem prod10_form (k : Int) (neg : Bool) (s : Int) (f : Nat) (k' : Int) (neg' : Bool) (s' : Int) (g : Nat) : ∃ k2 b s2 h l r, prod10 k neg s f k' neg' s' g = exV k2 b s2 h l r := by
  unfold prod10
  by_cases h : k = 2 ∨ k' = 2
  · rw [if_pos h]; exact ⟨_, _, _, _, _, _, rfl⟩
  · rw [if_neg h]
    by_cases h0 : k = 0 ∨ k' = 0
    · rw [if_pos h0]; exact ⟨_, _, _, _, _, _, rfl⟩
    · rw [if_neg h0]; exact exactV_form _ _ _ _
end Go.Proofs.YtheliihkkoohnabGreat

namespace Go.Proofs.YtheliihkkoohnabGreat
open Go.ChangeShapes Go.WideShapes Go.ChangeAt Go.RowKit
set_option linter.unusedVariables false
set_option linter.unusedSimpArgs false
set_option maxRecDepth 100000

/-! ### powers of 2 as patterns -/
def P63 : Nat := 9223372036854775808
theorem P63_man : manX P63 0 = 2 ^ 127 := by unfold manX P63; decide
theorem P63_words : WordsX P63 0 := ⟨by decide, by decide, by decide⟩
def okT (n : Nat) (s : Int) : Bool := inR n s && fitsN n s P63
def patT (n : Nat) (s : Int) : Nat := if okT n s then patOf n false (cutL n s P63) else 0
theorem okT_facts (n : Nat) (s : Int) (hn : Wd n) (h : okT n s = true) :
    patT n s < 2 ^ n ∧ vK n (patT n s) = 1 ∧ valI n (patT n s) = sg false (manX P63 0) * ((2 ^ (s + 248).toNat : Nat) : Int) ∧ 8 - 4 * (n : Int) ≤ s ∧ s ≤ 4 * n - 8 ∧ patT n s = rndX n s P63 0 false := by
  obtain ⟨h1, h2⟩ := Bool.and_eq_true_iff.1 h
  obtain ⟨ht, hl⟩ := cut_true n s P63 hn h1
  obtain ⟨p1, p2, p3, p4⟩ := patOf_facts n hn false (cutL n s P63) hl ht
  obtain ⟨f1, f2⟩ := of_decide_eq_true h2
  have hr := of_decide_eq_true h1
  have e : patT n s = patOf n false (cutL n s P63) := by unfold patT; rw [if_pos h]
  rw [e]
  refine ⟨p1, p2, ?_, hr.1, hr.2, ?_⟩
  · unfold valI
    have k1 : vK n (patOf n false (cutL n s P63)) = 1 := p2
    have k2 : vB n (patOf n false (cutL n s P63)) = false := by unfold vB; rw [if_pos p2, p3]
    have k3 : vS n (patOf n false (cutL n s P63)) = s := by unfold vS; rw [if_pos p2, p4, f1]
    have k4 : vF n (patOf n false (cutL n s P63)) = P63 := by unfold vF; rw [if_pos p2, p4, f2]
    rw [if_pos k1, k2, k3, k4]
  · have := rnd_home n (cutL n s P63) hn hl ht
    rw [f1, f2] at this
    rw [this]; rfl
theorem two_mul (n : Nat) (s t : Int) (hn : Wd n) (hs : okT n s = true) (ht : okT n t = true) : patP n (patT n s) (patT n t) = rndX n (s + t) P63 0 false := by
  obtain ⟨_, a2, a3, a4, a5, _⟩ := okT_facts n s hn hs
  obtain ⟨_, b2, b3, b4, b5, _⟩ := okT_facts n t hn ht
  have hw := wd_le hn
  unfold patP
  rw [if_neg (by rw [a2, b2]; decide), a3, b3]
  have e1 : sg false (manX P63 0) * ((2 ^ (s + 248).toNat : Nat) : Int) * (sg false (manX P63 0) * ((2 ^ (t + 248).toNat : Nat) : Int)) = sg false (manX P63 0) * ((2 ^ (s + t + 623).toNat : Nat) : Int) := by
    rw [← sg_mul, ← sg_mul, ← sg_mul, sg_times]
    have hx : xorB false false = false := rfl
    rw [hx]
    congr 1
    rw [P63_man, ← Nat.pow_add, ← Nat.pow_add, ← Nat.pow_add, ← Nat.pow_add]
    congr 1
    omega
  rw [e1]
  have h := exI_real false (s + t) P63 0 P63_words (by omega) (-623) (s + t + 623).toNat (by omega)
  rw [show (-623 : Int) - 127 = eN + eN from rfl] at h
  have h0 : sg false (manX P63 0) * ((2 ^ (s + t + 623).toNat : Nat) : Int) ≠ 0 := by
    rw [← sg_mul, P63_man]
    have : 0 < 2 ^ 127 * 2 ^ (s + t + 623).toNat := Nat.mul_pos (Nat.pow_pos (by decide)) (Nat.pow_pos (by decide))
    unfold sg
    rw [if_neg (by decide)]
    generalize 2 ^ 127 * 2 ^ (s + t + 623).toNat = x at *
    omega
  rw [patI_of h0 h]
  rfl
end Go.Proofs.YtheliihkkoohnabGreat

namespace Go.Proofs.YtheliihkkoohnabGreat
set_option maxRecDepth 100000
set_option linter.unusedVariables false
set_option linter.unusedSimpArgs false

/-! ### quotients (plain mathematics) -/
def quoN (f g : Nat) : Nat := f * 2 ^ 200 / g
def quoR (f g : Nat) : Bool := decide (f * 2 ^ 200 % g ≠ 0)
/-- the first 64 digits alone -/
def cutV (neg : Bool) (M : Nat) (e : Int) (r : Bool) : Value := exV 1 neg (heldX (e + blen M - 1)) (normN M / 2 ^ 64 % 2 ^ 64) 0 ((r || lostN M) || decide (normN M % 2 ^ 64 ≠ 0))
def mgC (n M : Nat) (e : Int) (r : Bool) : Nat := rndX n (heldX (e + blen M - 1)) (normN M / 2 ^ 64 % 2 ^ 64) 0 ((r || lostN M) || decide (normN M % 2 ^ 64 ≠ 0))
def quot11 (k : Int) (neg : Bool) (s : Int) (f : Nat) (k' : Int) (neg' : Bool) (s' : Int) (g : Nat) : Value :=
  if k = 2 ∨ k' ≠ 1 then exV 2 false 0 0 0 false
  else if k = 0 then exV 0 false 0 0 0 false
  else cutV (xorB neg neg') (quoN f g) (s - s' - 200) (quoR f g)
def patQ (n a b : Nat) : Nat :=
  if vK n a = 2 ∨ vK n b ≠ 1 then 2 ^ (n - 1)
  else if vK n a = 0 then 0
  else patR n (xorB (vB n a) (vB n b)) (mgC n (quoN (vF n a) (vF n b)) (vS n a - vS n b - 200) (quoR (vF n a) (vF n b)))
theorem word_blen {f : Nat} (h : WordsX f 0) : blen f = 64 := by
  have h1 := h.top
  have h2 := h.hi64
  exact blen_at (m := 63) h1 h2
theorem mgC_range {n M : Nat} (e : Int) (r : Bool) (hn : Wd n) (h0 : M ≠ 0) : 1 ≤ mgC n M e r ∧ mgC n M e r ≤ 2 ^ (n - 1) - 1 := by
  have h := normN_words h0
  exact rnd_range n _ _ _ _ hn ⟨h.top, h.hi64, by decide⟩
theorem quo_pos {f g : Nat} (hf : 9223372036854775808 ≤ f) (hg : g < 2 ^ 64) (h0 : 0 < g) : quoN f g ≠ 0 := by
  unfold quoN
  have h1 : g ≤ f * 2 ^ 200 := by
    have : 2 ^ 64 ≤ f * 2 ^ 200 := Nat.le_trans (by decide) (Nat.mul_le_mul_right (2 ^ 200) hf)
    omega
  have := (Nat.le_div_iff_mul_le h0).2 (by rw [Nat.one_mul]; exact h1)
  omega
theorem real_or (n a : Nat) (hn : Wd n) (h2 : vK n a ≠ 2) (h0 : vK n a ≠ 0) : vK n a = 1 := by
  rcases v_kinds n a hn with ⟨h, _⟩ | h | ⟨h, _⟩
  · exact absurd h h0
  · exact h
  · exact absurd h h2
end Go.Proofs.YtheliihkkoohnabGreat

namespace Go.Proofs.YtheliihkkoohnabGreat
set_option linter.unusedVariables false
set_option linter.unusedSimpArgs false
set_option maxRecDepth 100000

/-! ### roots (plain mathematics) -/
def rtF (m : Nat) : Nat → Nat → Nat
  | r, 0 => r
  | r, k + 1 => rtF m (if (r + 2 ^ k) * (r + 2 ^ k) ≤ m then r + 2 ^ k else r) k
theorem rtF_ok (m : Nat) : ∀ k r, r * r ≤ m → m < (r + 2 ^ k) * (r + 2 ^ k) → rtF m r k * rtF m r k ≤ m ∧ m < (rtF m r k + 1) * (rtF m r k + 1) := by
  intro k
  induction k with
  | zero => intro r h1 h2; exact ⟨h1, h2⟩
  | succ k ih =>
    intro r h1 h2
    unfold rtF
    by_cases h : (r + 2 ^ k) * (r + 2 ^ k) ≤ m
    · rw [if_pos h]
      refine ih _ h ?_
      rw [Nat.add_assoc, ← Nat.two_mul, ← Nat.pow_succ']
      exact h2
    · rw [if_neg h]
      exact ih _ h1 (by omega)
def rtN (m : Nat) : Nat := rtF m 0 71
theorem rtN_ok {m : Nat} (h : m < 2 ^ 142) : rtN m * rtN m ≤ m ∧ m < (rtN m + 1) * (rtN m + 1) :=
  rtF_ok m 71 0 (by omega) (by rw [Nat.zero_add, ← Nat.pow_add]; exact h)
theorem sq_le' {a b : Nat} (h : a * a < (b + 1) * (b + 1)) : a ≤ b := by
  refine Nat.le_of_not_lt fun c => ?_
  have := Nat.mul_le_mul (show b + 1 ≤ a by omega) (show b + 1 ≤ a by omega)
  omega
def rtH (m : Nat) : Nat := rtN m / 2 ^ 7
def rtR (m : Nat) : Bool := decide (rtH m * rtH m * 2 ^ 14 ≠ m)
theorem sq_shift (a : Nat) : (a * 2 ^ 7) * (a * 2 ^ 7) = a * a * 2 ^ 14 := by rw [Nat.mul_mul_mul_comm, ← Nat.pow_add]
theorem rtH_ok {m : Nat} (h : m < 2 ^ 142) : rtH m * rtH m * 2 ^ 14 ≤ m ∧ m < (rtH m + 1) * (rtH m + 1) * 2 ^ 14 := by
  obtain ⟨h1, h2⟩ := rtN_ok h
  have hd := Nat.div_add_mod (rtN m) (2 ^ 7)
  have hm := Nat.mod_lt (rtN m) (show 0 < 2 ^ 7 by decide)
  rw [show rtN m / 2 ^ 7 = rtH m from rfl] at hd
  rw [← sq_shift, ← sq_shift]
  constructor
  · exact Nat.le_trans (Nat.mul_le_mul (show rtH m * 2 ^ 7 ≤ rtN m by omega) (show rtH m * 2 ^ 7 ≤ rtN m by omega)) h1
  · exact Nat.lt_of_lt_of_le h2 (Nat.mul_le_mul (by omega) (by omega))
/-- the number whose root is taken, times 2^14 -/
def mR (s : Int) (M : Nat) : Nat := M * 2 ^ (13 + (s % 2).toNat)
theorem mR_two (s : Int) (M : Nat) : (s % 2 = 0 ∧ mR s M = M * 2 ^ 13) ∨ (s % 2 = 1 ∧ mR s M = M * 2 ^ 14) := by
  rcases Int.emod_two_eq s with h | h
  · exact .inl ⟨h, by unfold mR; rw [h]; rfl⟩
  · exact .inr ⟨h, by unfold mR; rw [h]; rfl⟩
theorem mR_size (s : Int) {M : Nat} (h : Mant M) : 2 ^ 140 ≤ mR s M ∧ mR s M < 2 ^ 142 := by
  obtain ⟨h1, h2⟩ := h
  rcases mR_two s M with ⟨_, e⟩ | ⟨_, e⟩ <;> rw [e] <;> omega
theorem rt_words {m : Nat} (h1 : 2 ^ 140 ≤ m) (h2 : m < 2 ^ 142) : 2 ^ 70 ≤ rtN m ∧ rtN m < 2 ^ 71 ∧ WordsX (rtH m) 0 := by
  obtain ⟨a, b⟩ := rtN_ok h2
  have c1 : 2 ^ 70 ≤ rtN m := sq_le' (by rw [← Nat.pow_add]; exact Nat.lt_of_le_of_lt h1 b)
  have c2 : rtN m < 2 ^ 71 := by
    have : rtN m ≤ 2 ^ 71 - 1 := sq_le' (by rw [Nat.sub_add_cancel (by decide), ← Nat.pow_add]; exact Nat.lt_of_le_of_lt a h2)
    have h0 : 0 < 2 ^ 71 := by decide
    omega
  refine ⟨c1, c2, ⟨?_, ?_, by decide⟩⟩
  · unfold rtH; omega
  · unfold rtH; omega
def root12 (k : Int) (neg : Bool) (s : Int) (hi lo : Nat) (rest : Bool) : Value :=
  if k = 2 ∨ neg = true then exV 2 false 0 0 0 false
  else if k = 0 then exV 0 false 0 0 0 false
  else exV 1 false (s / 2) (rtH (mR s (manX hi lo))) 0 (rtR (mR s (manX hi lo)) || rest)
theorem root12_form (k : Int) (neg : Bool) (s : Int) (hi lo : Nat) (rest : Bool) : ∃ k2 b s2 h l r, root12 k neg s hi lo rest = exV k2 b s2 h l r := by
  unfold root12
  split
  · exact ⟨_, _, _, _, _, _, rfl⟩
  · split <;> exact ⟨_, _, _, _, _, _, rfl⟩
def mgT (n : Nat) (s : Int) (M : Nat) : Nat := rndX n (s / 2) (rtH (mR s M)) 0 (rtR (mR s M))
def patT2 (n a : Nat) : Nat := if vK n a = 2 ∨ vB n a = true then 2 ^ (n - 1) else if vK n a = 0 then 0 else mgT n (vS n a) (manX (vF n a) 0)
theorem mgT_range {n : Nat} (s : Int) {M : Nat} (hn : Wd n) (h : Mant M) : 1 ≤ mgT n s M ∧ mgT n s M ≤ 2 ^ (n - 1) - 1 := by
  obtain ⟨a, b⟩ := mR_size s h
  exact rnd_range n _ _ _ _ hn (rt_words a b).2.2
end Go.Proofs.YtheliihkkoohnabGreat

namespace Go.Proofs.YtheliihkkoohnabGreat
set_option linter.unusedVariables false
set_option linter.unusedSimpArgs false
set_option maxRecDepth 100000

/-! ### the root of a square, as patterns (plain mathematics) -/
end Go.Proofs.YtheliihkkoohnabGreat

namespace Go.Proofs.YtheliihkkoohnabGreat
set_option linter.unusedVariables false
set_option linter.unusedSimpArgs false
set_option maxRecDepth 100000

/-! ### sums of products, exactly (plain mathematics) -/
/-- what is told of a number T times 2^e of at most 128 digits -/
def Prt (e T k : Int) (neg : Bool) (s : Int) (hi lo : Nat) : Prop :=
  (k = 0 ∧ neg = false ∧ s = 0 ∧ hi = 0 ∧ lo = 0 ∧ T = 0) ∨
  (k = 1 ∧ WordsX hi lo ∧ (-1099511627776 ≤ s ∧ s ≤ 1099511627776) ∧ ∃ j : Nat, e + 127 + j = s ∧ T = sg neg (manX hi lo) * ((2 ^ j : Nat) : Int))
theorem Prt.exv {e T k : Int} {neg : Bool} {s : Int} {hi lo : Nat} (h : Prt e T k neg s hi lo) : exV k neg s hi lo false = exI T e := by
  rcases h with ⟨rfl, rfl, rfl, rfl, rfl, rfl⟩ | ⟨rfl, wd, hs, j, hj, rfl⟩
  · exact (exactV_zero _ _ _).symm
  · have := exI_real neg s hi lo wd hs (e + 127) j hj
    rw [show e + 127 - 127 = e by omega] at this
    exact this.symm
theorem Prt.kind {e T k : Int} {neg : Bool} {s : Int} {hi lo : Nat} (h : Prt e T k neg s hi lo) : k = 0 ∨ k = 1 := by
  rcases h with ⟨h, _⟩ | ⟨h, _⟩
  · exact .inl h
  · exact .inr h
theorem Prt.words {e T k : Int} {neg : Bool} {s : Int} {hi lo : Nat} (h : Prt e T k neg s hi lo) : hi < 2 ^ 64 ∧ lo < 2 ^ 64 := by
  rcases h with ⟨rfl, rfl, rfl, rfl, rfl, rfl⟩ | ⟨rfl, wd, _⟩
  · exact ⟨by decide, by decide⟩
  · exact ⟨wd.hi64, wd.lo64⟩
theorem Prt.sound {e T k : Int} {neg : Bool} {s : Int} {hi lo : Nat} (h : Prt e T k neg s hi lo) : soundX k neg s hi lo false = true := by
  rcases h with ⟨rfl, rfl, rfl, rfl, rfl, rfl⟩ | ⟨rfl, wd, hs, _⟩
  · rfl
  · unfold soundX
    rw [if_neg (by decide)]
    exact decide_eq_true ⟨rfl, wd.top, hs.1, hs.2⟩
theorem Prt.sum {e T k : Int} {neg : Bool} {s : Int} {hi lo : Nat} {T' k' : Int} {neg' : Bool} {s' : Int} {hi' lo' : Nat} (h : Prt e T k neg s hi lo) (h' : Prt e T' k' neg' s' hi' lo') :
    sum9 k neg s hi lo k' neg' s' hi' lo' = exI (T + T') e := by
  have q := h.kind
  have q' := h'.kind
  unfold sum9
  rw [if_neg (by omega)]
  rcases h with ⟨rfl, rfl, rfl, rfl, rfl, rfl⟩ | ⟨rfl, wd, hs, j, hj, rfl⟩
  · rw [if_pos rfl, h'.exv, Int.zero_add]
  · rw [if_neg (by decide)]
    rcases h' with ⟨rfl, rfl, rfl, rfl, rfl, rfl⟩ | ⟨rfl, wd', hs', j', hj', rfl⟩
    · rw [if_pos rfl, Int.add_zero]
      exact Prt.exv (.inr ⟨rfl, wd, hs, j, hj, rfl⟩)
    · rw [if_neg (by decide)]
      have := sumR_int neg s (manX hi lo) neg' s' (manX hi' lo') wd.mant wd'.mant (e + 127) j j' hj hj'
      rw [show e + 127 - 127 = e by omega] at this
      exact this
theorem val_prt2 (n a : Nat) (hn : Wd n) (ha : a < 2 ^ 64) (ka : vK n a ≠ 2) : Prt (eN + eN) (valI n a * ((2 ^ 375 : Nat) : Int)) (vK n a) (vB n a) (vS n a) (vF n a) 0 := by
  by_cases h0 : vK n a = 0
  · obtain ⟨a1, a2, a3⟩ := v_other n a (by rw [h0]; decide)
    exact .inl ⟨h0, a1, a2, a3, rfl, by rw [val_zero n a (by rw [h0]; decide), Int.zero_mul]⟩
  · have k1 := real_or n a hn ka h0
    obtain ⟨_, _, _, _, _, _, wd, s1, s2⟩ := v_real n a hn ha k1
    have hw := wd_le hn
    refine .inr ⟨k1, wd, by omega, (vS n a + 623).toNat, by unfold eN; omega, ?_⟩
    unfold valI
    obtain ⟨q, hq⟩ : ∃ q : Nat, q = 375 := ⟨_, rfl⟩
    rw [if_pos k1, Int.mul_assoc, ← hq, ← Int.natCast_mul, ← Nat.pow_add]
    congr 3
    omega
theorem val_mul (n a b : Nat) (hn : Wd n) (ha : a < 2 ^ 64) (hb : b < 2 ^ 64) (ka : vK n a = 1) (kb : vK n b = 1) :
    valI n a * valI n b = sg (xorB (vB n a) (vB n b)) (vF n a * vF n b) * ((2 ^ (vS n a + vS n b + 624).toNat : Nat) : Int) := by
  obtain ⟨_, _, _, _, _, _, _, sa1, sa2⟩ := v_real n a hn ha ka
  obtain ⟨_, _, _, _, _, _, _, sb1, sb2⟩ := v_real n b hn hb kb
  have hw := wd_le hn
  unfold valI
  rw [if_pos ka, if_pos kb, manX_zero, manX_zero, ← sg_mul, ← sg_mul, sg_times, ← sg_mul]
  congr 1
  rw [Nat.mul_assoc (vF n a), ← Nat.pow_add, Nat.mul_assoc (vF n b), ← Nat.pow_add]
  rw [show (vS n a + vS n b + 624).toNat = 64 + (vS n a + 248).toNat + (64 + (vS n b + 248).toNat) by omega, Nat.pow_add 2 (64 + (vS n a + 248).toNat)]
  simp only [Nat.mul_assoc, Nat.mul_left_comm, Nat.mul_comm]
theorem prod_prt (n a b : Nat) (hn : Wd n) (ha : a < 2 ^ 64) (hb : b < 2 ^ 64) (ka : vK n a ≠ 2) (kb : vK n b ≠ 2) :
    ∃ k neg s hi lo, prod10 (vK n a) (vB n a) (vS n a) (vF n a) (vK n b) (vB n b) (vS n b) (vF n b) = exV k neg s hi lo false ∧ Prt (eN + eN) (valI n a * valI n b) k neg s hi lo := by
  unfold prod10
  rw [if_neg (by rintro (c | c); exact ka c; exact kb c)]
  by_cases h0 : vK n a = 0 ∨ vK n b = 0
  · rw [if_pos h0]
    refine ⟨0, false, 0, 0, 0, rfl, .inl ⟨rfl, rfl, rfl, rfl, rfl, ?_⟩⟩
    rcases h0 with c | c
    · rw [val_zero n a (by rw [c]; decide), Int.zero_mul]
    · rw [val_zero n b (by rw [c]; decide), Int.mul_zero]
  · rw [if_neg h0]
    have a1 := real_or n a hn ka (fun c => h0 (.inl c))
    have b1 := real_or n b hn kb (fun c => h0 (.inr c))
    obtain ⟨_, _, _, _, _, _, wa, sa1, sa2⟩ := v_real n a hn ha a1
    obtain ⟨_, _, _, _, _, _, wb, sb1, sb2⟩ := v_real n b hn hb b1
    have hw := wd_le hn
    have hT := val_mul n a b hn ha hb a1 b1
    have hl : 2 ^ 126 ≤ vF n a * vF n b := Nat.le_trans (by decide) (Nat.mul_le_mul wa.top wb.top)
    have hu : vF n a * vF n b < 2 ^ 128 := Nat.lt_of_lt_of_le (Nat.mul_lt_mul_of_lt_of_lt wa.hi64 wb.hi64) (by decide)
    generalize vF n a * vF n b = N at *
    generalize xorB (vB n a) (vB n b) = x at *
    have hN : N ≠ 0 := by
      have : 0 < 2 ^ 126 := by decide
      omega
    have hwd := normN_words hN
    have hman := man_norm hN
    by_cases c : N < 2 ^ 127
    · have hb : blen N = 127 := blen_at (m := 126) hl c
      have hn2 : normN N = N * 2 ^ 1 := by unfold normN; rw [hb, if_pos (by decide)]
      have hlo : lostN N = false := by unfold lostN; rw [hb, decide_eq_false (by decide), Bool.false_and]
      refine ⟨1, x, vS n a + vS n b, normN N / 2 ^ 64 % 2 ^ 64, normN N % 2 ^ 64, ?_, .inr ⟨rfl, hwd, by omega, (vS n a + vS n b + 623).toNat, by unfold eN; omega, ?_⟩⟩
      · unfold exactV
        rw [if_neg hN, hb, hlo, show heldX (vS n a + vS n b - 126 + ((127 : Nat) : Int) - 1) = vS n a + vS n b by unfold heldX; rw [if_neg (by omega), if_neg (by omega)]; omega]
        rfl
      · rw [hman, hT, hn2, sg_mul, Int.mul_assoc, ← Int.natCast_mul, ← Nat.pow_add]
        congr 3
        omega
    · have hb : blen N = 128 := blen_at (m := 127) (by omega) hu
      have hn2 : normN N = N := by unfold normN; rw [hb, if_neg (by decide)]; simp
      have hlo : lostN N = false := by unfold lostN; rw [hb, decide_eq_false (by decide), Bool.false_and]
      refine ⟨1, x, vS n a + vS n b + 1, normN N / 2 ^ 64 % 2 ^ 64, normN N % 2 ^ 64, ?_, .inr ⟨rfl, hwd, by omega, (vS n a + vS n b + 624).toNat, by unfold eN; omega, ?_⟩⟩
      · unfold exactV
        rw [if_neg hN, hb, hlo, show heldX (vS n a + vS n b - 126 + ((128 : Nat) : Int) - 1) = vS n a + vS n b + 1 by unfold heldX; rw [if_neg (by omega), if_neg (by omega)]; omega]
        rfl
      · rw [hman, hT, hn2]
/-! ### the patterns of what is rounded once -/
def patF (n a b c : Nat) : Nat := if vK n a = 2 ∨ vK n b = 2 ∨ vK n c = 2 then 2 ^ (n - 1) else patI n (valI n a * valI n b + valI n c * ((2 ^ 375 : Nat) : Int)) (eN + eN)
end Go.Proofs.YtheliihkkoohnabGreat

namespace Go.Proofs.YtheliihkkoohnabGreat
set_option linter.unusedVariables false
set_option linter.unusedSimpArgs false
set_option maxRecDepth 100000

/-! ### where a number lies beside a tie, at every width (plain mathematics) -/
/-- the tie behind the pattern q: its string and a 1 -/
def tieT (n q : Nat) : List Bool := bitsOf q (n - 1) ++ [true]
theorem tieT_length (n q : Nat) (h : 1 ≤ n) : (tieT n q).length = n := by
  unfold tieT; rw [List.length_append, bitsOf_length, List.length_singleton]; omega
theorem tieT_true (n q : Nat) : true ∈ tieT n q := by unfold tieT; simp
theorem scaleL_range4 (t : List Bool) (hl : t.length ≤ 64) : -260 ≤ scaleL t ∧ scaleL t ≤ 259 := by
  have hex : expL t < 4 := by
    have := numOf_lt ((restL t ++ noughts 2).take 2)
    rw [show ((restL t ++ noughts 2).take 2).length = 2 by simp] at this
    exact this
  have h1 := runL_le t
  unfold scaleL regL
  split <;> omega
theorem zed_parse4 (t : List Bool) (ht : true ∈ t) (hl : t.length ≤ 64) : zed (scaleL t) (manX (wordL t) 0) = numOf t * 2 ^ (209 - t.length) := by
  obtain ⟨z, hz, _⟩ := canon_parse t ht hl
  have hr := scaleL_range4 t hl
  obtain ⟨h1, h2⟩ := zed_str (scaleL t) (manX (wordL t) 0) (digX (wordL t) 0) (digX_length _ _) (digX_num (words_of t)) (by omega) (by omega)
  have e : headK (scaleL t / 4) ++ bitsOf (scaleL t % 4).toNat 2 ++ digX (wordL t) 0 = t ++ noughts (z + 64) := by
    have := strX_canon (scaleL t) (wordL t)
    rw [hz, List.append_assoc, noughts_add] at this
    exact this
  rw [e, List.length_append, List.length_replicate] at h1 h2
  rw [← h2, numOf_append, numOf_noughts, Nat.add_zero, List.length_replicate, Nat.mul_assoc, ← Nat.pow_add]
  congr 2; omega
theorem tieT_zed (n q : Nat) (hn : Wd n) (hq : q < 2 ^ (n - 1)) :
    2 * zed (scaleL (tieT n q)) (manX (wordL (tieT n q)) 0) = q * (2 * 2 ^ (210 - n)) + 2 ^ (210 - n) := by
  have hw := wd_le hn
  have hl := tieT_length n q (by omega)
  rw [zed_parse4 _ (tieT_true n q) (by omega), hl]
  have hn2 : numOf (tieT n q) = 2 * q + 1 := by
    unfold tieT
    rw [numOf_append, numOf_bits, Nat.mod_eq_of_lt hq, List.length_singleton, show numOf [true] = 1 by decide, Nat.pow_one]; omega
  have e1 : 2 ^ (210 - n) = 2 * 2 ^ (209 - n) := by rw [← Nat.pow_succ']; congr 1; omega
  rw [hn2, e1]
  generalize 2 ^ (209 - n) = B
  rw [Nat.add_mul, Nat.one_mul, Nat.mul_add]
  congr 1
  simp only [Nat.mul_assoc, Nat.mul_left_comm, Nat.mul_comm]
/-- a number's scale and digits beside another's: less, alike, more -/
def ltX (s : Int) (hi lo : Nat) (r : Bool) (E : Int) (W : Nat) : Prop := s < E ∨ (s = E ∧ 2 * manX hi lo + r.toNat < 2 * manX W 0)
def eqX (s : Int) (hi lo : Nat) (r : Bool) (E : Int) (W : Nat) : Prop := s = E ∧ 2 * manX hi lo + r.toNat = 2 * manX W 0
def gtX (s : Int) (hi lo : Nat) (r : Bool) (E : Int) (W : Nat) : Prop := E < s ∨ (s = E ∧ 2 * manX W 0 < 2 * manX hi lo + r.toNat)
theorem triX (s : Int) (hi lo : Nat) (r : Bool) (E : Int) (W : Nat) : ltX s hi lo r E W ∨ eqX s hi lo r E W ∨ gtX s hi lo r E W := by
  unfold ltX eqX gtX
  generalize 2 * manX hi lo + r.toNat = x
  generalize 2 * manX W 0 = y
  omega
theorem zX_ltX {s E : Int} {hi lo W : Nat} {r : Bool} (h : WordsX hi lo) (h' : WordsX W 0) (h1 : -316 ≤ s) (h2 : E < 312) (hlt : ltX s hi lo r E W) : zX s hi lo r < 2 * zed E (manX W 0) := by
  unfold zX
  have b1 : r.toNat ≤ 1 := by cases r <;> decide
  rcases hlt with hl | ⟨rfl, hM⟩
  · have := zed_lt h.mant h'.mant h1 h2 (.inl hl)
    omega
  · have := zed_lt h.mant h'.mant h1 h2 (.inr ⟨rfl, show manX hi lo < manX W 0 by omega⟩)
    omega
theorem zX_gtX {s E : Int} {hi lo W : Nat} {r : Bool} (h : WordsX hi lo) (h' : WordsX W 0) (h1 : -316 ≤ E) (h2 : s < 312) (hgt : gtX s hi lo r E W) : 2 * zed E (manX W 0) < zX s hi lo r := by
  unfold zX
  have b1 : r.toNat ≤ 1 := by cases r <;> decide
  rcases hgt with hl | ⟨rfl, hM⟩
  · have := zed_lt h'.mant h.mant h1 h2 (.inl hl)
    omega
  · by_cases c : manX W 0 < manX hi lo
    · have := zed_lt h'.mant h.mant h1 h2 (.inr ⟨rfl, c⟩)
      omega
    · have e : manX hi lo = manX W 0 := by omega
      rw [e] at hM ⊢
      omega
theorem zX_eqX {s E : Int} {hi lo W : Nat} {r : Bool} (he : eqX s hi lo r E W) : zX s hi lo r = 2 * zed E (manX W 0) := by
  obtain ⟨rfl, hM⟩ := he
  have b1 : r.toNat ≤ 1 := by cases r <;> decide
  unfold zX
  rw [show manX hi lo = manX W 0 by omega, show r.toNat = 0 by omega]
  omega
theorem tie_top (n : Nat) (hn : Wd n) : scaleL (tieT n (2 ^ (n - 1) - 1 - 1)) < 4 * (n : Int) - 8 := by
  rcases hn with rfl | rfl | rfl | rfl <;> decide +kernel
theorem tie_low (n : Nat) (hn : Wd n) : 8 - 4 * (n : Int) < scaleL (tieT n 1) := by
  rcases hn with rfl | rfl | rfl | rfl <;> decide +kernel
/-- a number goes to the pattern on whose side of both ties it lies, at a tie to the even one -/
theorem near_ties (n : Nat) (s : Int) (hi lo : Nat) (r : Bool) (hn : Wd n) (h : WordsX hi lo) (p : Nat) (hp : p = rndX n s hi lo r) :
    (p < 2 ^ (n - 1) - 1 → ltX s hi lo r (scaleL (tieT n p)) (wordL (tieT n p)) ∨ (eqX s hi lo r (scaleL (tieT n p)) (wordL (tieT n p)) ∧ p % 2 = 0)) ∧
    (1 < p → gtX s hi lo r (scaleL (tieT n (p - 1))) (wordL (tieT n (p - 1))) ∨ (eqX s hi lo r (scaleL (tieT n (p - 1))) (wordL (tieT n (p - 1))) ∧ p % 2 = 0)) := by
  have hw := wd_le hn
  obtain ⟨r1, r2⟩ := rnd_range n s hi lo r hn h
  rw [← hp] at r1 r2
  have tr : ∀ q, -316 ≤ scaleL (tieT n q) ∧ scaleL (tieT n q) < 312 := fun q => by
    have := scaleL_range4 (tieT n q) (by rw [tieT_length n q (by omega)]; omega)
    omega
  have pw : 0 < 2 ^ (n - 1) := Nat.pow_pos (by decide)
  rcases mid_or n s (justX hi lo r) with hm | hm | ⟨hm0, hm⟩
  · obtain ⟨e1, _, _⟩ := rnd_mid n s hi lo r hn h hm
    rw [← hp] at e1
    have hsr : -316 ≤ s ∧ s < 312 := by
      obtain ⟨a, b, _⟩ := hm
      omega
    obtain ⟨s1, s2⟩ := rhe_side (2 ^ (210 - n)) (zX s hi lo r) p (Nat.pow_pos (by decide)) e1.symm
    constructor
    · intro hle
      have tz := tieT_zed n p hn (by omega)
      rw [← tz] at s1
      rcases triX s hi lo r (scaleL (tieT n p)) (wordL (tieT n p)) with c | c | c
      · exact .inl c
      · have := zX_eqX c
        rcases s1 with s1 | ⟨_, s1⟩
        · omega
        · exact .inr ⟨c, s1⟩
      · have := zX_gtX h (words_of _) (tr p).1 hsr.2 c
        rcases s1 with s1 | ⟨s1, _⟩ <;> omega
    · intro hge
      have tz := tieT_zed n (p - 1) hn (by omega)
      rw [← tz] at s2
      rcases triX s hi lo r (scaleL (tieT n (p - 1))) (wordL (tieT n (p - 1))) with c | c | c
      · have := zX_ltX h (words_of _) hsr.1 (tr (p - 1)).2 c
        rcases s2 (by omega) with s2 | ⟨s2, _⟩ <;> omega
      · have := zX_eqX c
        rcases s2 (by omega) with s2 | ⟨_, s2⟩
        · omega
        · exact .inr ⟨c, s2⟩
      · exact .inl c
  · have e := rnd_top n s hi lo r hm
    rw [← hp] at e
    refine ⟨fun hlt => by omega, fun _ => .inl (.inl ?_)⟩
    rw [e]
    have := tie_top n hn
    omega
  · have e := rnd_low n s hi lo r hm0 hm
    rw [← hp] at e
    refine ⟨fun _ => .inl (.inl ?_), fun hlt => by omega⟩
    rw [e]
    have := tie_low n hn
    rcases hm with hm | hm <;> omega
/-! ### a quotient N / D times 2^e, and its first digits -/
/-- Y times 2^(S - 127) is the most that isn't above N / D times 2^e in steps of w; r: there is more -/
def Lies (N D : Nat) (e S : Int) (Y : Nat) (r : Bool) (w : Nat) : Prop :=
  ∀ a b : Nat, (a : Int) - b = e - S + 127 → Y * D * 2 ^ b ≤ N * 2 ^ a ∧ N * 2 ^ a < (Y + w) * D * 2 ^ b ∧ (r = false ↔ N * 2 ^ a = Y * D * 2 ^ b)
theorem pow_cmp {X Y : Nat} (k : Nat) : (X * 2 ^ k < Y * 2 ^ k ↔ X < Y) ∧ (X * 2 ^ k = Y * 2 ^ k ↔ X = Y) := by
  have hp : 0 < 2 ^ k := Nat.pow_pos (by decide)
  exact ⟨Nat.mul_lt_mul_right hp, ⟨fun h => Nat.eq_of_mul_eq_mul_right hp h, fun h => by rw [h]⟩⟩
theorem mul_stepK {x y K : Nat} (h : x * K < y * K) : x * K + K ≤ y * K := by
  have h1 := Nat.lt_of_mul_lt_mul_right h
  rw [← Nat.succ_mul]
  exact Nat.mul_le_mul_right _ h1
theorem mul_room {x K : Nat} (h : x < K) : x * K + K ≤ K * K := by
  rw [← Nat.succ_mul]
  exact Nat.mul_le_mul_right _ h
theorem twice_le {B x k : Nat} (h : B ≤ 2 * x) : B ≤ x * 2 ^ (1 + k) := by
  have e : x * 2 ^ (1 + k) = 2 * x * 2 ^ k := by rw [Nat.pow_add, Nat.pow_one, ← Nat.mul_assoc, Nat.mul_comm x 2]
  rw [e]
  exact Nat.le_trans h (Nat.le_mul_of_pos_right _ (Nat.pow_pos (by decide)))
/-- the three ways, over plain numbers -/
theorem lies_core {N D Y Z w r B : Nat} (hD : 0 < D) (hY : B ≤ 2 * Y) (hY2 : Y + w ≤ B) (hZ : B ≤ 2 * Z) (hZ2 : Z < B) (hstep : Y < Z → Y + w ≤ Z) (hr : r ≤ 1) (a b : Nat) :
    ((Y * D * 2 ^ b ≤ N * 2 ^ a ∧ N * 2 ^ a < (Y + w) * D * 2 ^ b ∧ (r = 0 ↔ N * 2 ^ a = Y * D * 2 ^ b)) → (2 * Y + r < 2 * Z → N * 2 ^ a < Z * D * 2 ^ b) ∧ (2 * Y + r = 2 * Z → N * 2 ^ a = Z * D * 2 ^ b) ∧ (2 * Z < 2 * Y + r → Z * D * 2 ^ b < N * 2 ^ a)) ∧
    (∀ k, N * 2 ^ (a + (1 + k)) < (Y + w) * D * 2 ^ b → N * 2 ^ a < Z * D * 2 ^ b) ∧
    (∀ k, Y * D * 2 ^ (b + (1 + k)) ≤ N * 2 ^ a → Z * D * 2 ^ b < N * 2 ^ a) := by
  have hDb : 0 < D * 2 ^ b := Nat.mul_pos hD (Nat.pow_pos (by decide))
  refine ⟨?_, ?_, ?_⟩
  · rintro ⟨l1, l2, l3⟩
    have q1 : Y < Z → N * 2 ^ a < Z * D * 2 ^ b := fun c => by
      refine Nat.lt_of_lt_of_le l2 ?_
      rw [Nat.mul_assoc, Nat.mul_assoc]
      exact Nat.mul_le_mul_right _ (hstep c)
    have q3 : Z < Y → Z * D * 2 ^ b < N * 2 ^ a := fun c => by
      refine Nat.lt_of_lt_of_le ?_ l1
      rw [Nat.mul_assoc, Nat.mul_assoc]
      exact Nat.mul_lt_mul_of_pos_right c hDb
    refine ⟨fun c => q1 (by omega), fun c => ?_, fun c => ?_⟩
    · rw [show Z = Y by omega]; exact l3.1 (by omega)
    · by_cases e : Z < Y
      · exact q3 e
      · have e2 : Z = Y := by omega
        rw [e2]
        refine Nat.lt_of_le_of_ne l1 (fun x => ?_)
        have := l3.2 x.symm
        omega
  · intro k l2
    rw [Nat.pow_add, ← Nat.mul_assoc] at l2
    refine (pow_cmp (1 + k)).1.1 (Nat.lt_of_lt_of_le l2 ?_)
    have e1 : Z * D * 2 ^ b * 2 ^ (1 + k) = Z * 2 ^ (1 + k) * (D * 2 ^ b) := by simp only [Nat.mul_assoc, Nat.mul_left_comm, Nat.mul_comm]
    rw [e1, Nat.mul_assoc]
    exact Nat.mul_le_mul_right _ (Nat.le_trans hY2 (twice_le hZ))
  · intro k l1
    refine Nat.lt_of_lt_of_le ?_ l1
    have e1 : Y * D * 2 ^ (b + (1 + k)) = Y * 2 ^ (1 + k) * (D * 2 ^ b) := by rw [Nat.pow_add]; simp only [Nat.mul_assoc, Nat.mul_left_comm, Nat.mul_comm]
    rw [e1, Nat.mul_assoc]
    exact Nat.mul_lt_mul_of_pos_right (Nat.lt_of_lt_of_le hZ2 (twice_le hY)) hDb
theorem lies_lt {N D : Nat} {e S E : Int} {hi lo : Nat} {r : Bool} {w W : Nat} (hL : Lies N D e S (manX hi lo) r w) (h : WordsX hi lo) (h' : WordsX W 0) (hD : 0 < D) (hw : w = 1 ∨ (w = 2 ^ 64 ∧ lo = 0))
    (a b : Nat) (hab : (a : Int) - b = e - E + 127) :
    (ltX S hi lo r E W → N * 2 ^ a < manX W 0 * D * 2 ^ b) ∧ (eqX S hi lo r E W → N * 2 ^ a = manX W 0 * D * 2 ^ b) ∧ (gtX S hi lo r E W → manX W 0 * D * 2 ^ b < N * 2 ^ a) := by
  obtain ⟨m1, m2⟩ := h.mant
  obtain ⟨t1, t2⟩ := h'.mant
  have hstep : manX hi lo < manX W 0 → manX hi lo + w ≤ manX W 0 := fun c => by
    rcases hw with rfl | ⟨rfl, rfl⟩
    · exact c
    · rw [manX_zero, manX_zero] at c
      rw [manX_zero, manX_zero]
      exact mul_stepK c
  have hwle : manX hi lo + w ≤ 2 ^ 128 := by
    rcases hw with rfl | ⟨rfl, rfl⟩
    · exact m2
    · rw [manX_zero, show (2 : Nat) ^ 128 = 2 ^ 64 * 2 ^ 64 by rw [← Nat.pow_add]]
      exact mul_room h.hi64
  have b1 : r.toNat ≤ 1 := by cases r <;> decide
  have br : r.toNat = 0 ↔ r = false := by cases r <;> decide
  have e2 : (2 : Nat) ^ 128 = 2 * 2 ^ 127 := by rw [← Nat.pow_succ']
  obtain ⟨c1, c2, c3⟩ := @lies_core N D (manX hi lo) (manX W 0) w r.toNat (2 ^ 128) hD (by rw [e2]; exact Nat.mul_le_mul_left _ m1) hwle (by rw [e2]; exact Nat.mul_le_mul_left _ t1) t2 hstep b1 a b
  have same : S = E → _ := fun hse => c1 (by rw [br]; exact hL a b (by omega))
  refine ⟨fun c => ?_, fun c => ?_, fun c => ?_⟩
  · rcases c with c | ⟨c, d⟩
    · obtain ⟨k, hk⟩ : ∃ k : Nat, E = S + 1 + k := ⟨(E - S - 1).toNat, by omega⟩
      exact c2 k (hL (a + (1 + k)) b (by omega)).2.1
    · exact (same c).1 d
  · exact (same c.1).2.1 c.2
  · rcases c with c | ⟨c, d⟩
    · obtain ⟨k, hk⟩ : ∃ k : Nat, S = E + 1 + k := ⟨(S - E - 1).toNat, by omega⟩
      exact c3 k (hL a (b + (1 + k)) (by omega)).1
    · exact (same c).2.2 d
/-- a whole number's first 128 digits -/
theorem lies_nat {N : Nat} (h0 : N ≠ 0) (e : Int) : Lies N 1 e (e + blen N - 1) (normN N) (lostN N) 1 := by
  intro a b hab
  rw [Nat.mul_one, Nat.mul_one]
  by_cases hb : blen N < 128
  · obtain ⟨d, hd⟩ : ∃ d, d = 128 - blen N := ⟨_, rfl⟩
    have hn : normN N = N * 2 ^ d := by unfold normN; rw [if_pos hb, hd]
    have hl : lostN N = false := by unfold lostN; rw [decide_eq_false (by omega), Bool.false_and]
    have ha : a = d + b := by omega
    rw [hn, hl, ha, Nat.pow_add, ← Nat.mul_assoc]
    refine ⟨Nat.le_refl _, Nat.mul_lt_mul_of_pos_right (Nat.lt_succ_self _) (Nat.pow_pos (by decide)), by simp⟩
  · obtain ⟨d, hd⟩ : ∃ d, d = blen N - 128 := ⟨_, rfl⟩
    have hn : normN N = N / 2 ^ d := by unfold normN; rw [if_neg hb, hd]
    have hl : lostN N = decide (N % 2 ^ d ≠ 0) := by
      unfold lostN
      rw [← hd]
      by_cases c : 128 < blen N
      · rw [decide_eq_true c, Bool.true_and]
      · rw [decide_eq_false c, Bool.false_and, show d = 0 by omega, Nat.pow_zero, Nat.mod_one]; rfl
    have hbb : b = a + d := by omega
    have hp : 0 < 2 ^ d := Nat.pow_pos (by decide)
    have hdm := Nat.div_add_mod N (2 ^ d)
    have hm := Nat.mod_lt N hp
    have e1 : N / 2 ^ d * 2 ^ (a + d) = N / 2 ^ d * 2 ^ d * 2 ^ a := by rw [Nat.pow_add]; simp only [Nat.mul_assoc, Nat.mul_left_comm, Nat.mul_comm]
    have e2 : (N / 2 ^ d + 1) * 2 ^ (a + d) = (N / 2 ^ d * 2 ^ d + 2 ^ d) * 2 ^ a := by rw [Nat.pow_add, ← Nat.succ_mul]; simp only [Nat.mul_assoc, Nat.mul_left_comm, Nat.mul_comm]
    rw [hn, hl, hbb, e1, e2]
    rw [Nat.mul_comm (2 ^ d)] at hdm
    have hpa : 0 < 2 ^ a := Nat.pow_pos (by decide)
    refine ⟨Nat.mul_le_mul_right _ (by omega), Nat.mul_lt_mul_of_pos_right (by omega) hpa, ?_⟩
    rw [(pow_cmp a).2, decide_eq_false_iff_not]
    omega
theorem quo_core {F g q rr Y P lo2 Z lo1 K A : Nat} (h0 : 0 < g) (hqd : g * q + rr = F) (hrm : rr < g) (hdm : P * Y + lo2 = q) (hm : lo2 < P) (hdm2 : K * Z + lo1 = Y) (hm2 : lo1 < K) (hA : 0 < A) :
    Z * K * P * g * A ≤ F * A ∧ F * A < (Z * K + K) * P * g * A ∧ (((rr = 0 ∧ lo2 = 0) ∧ lo1 = 0) ↔ F * A = Z * K * P * g * A) := by
  have hP : 0 < P := by omega
  rw [Nat.mul_comm K] at hdm2
  rw [Nat.mul_comm P] at hdm
  rw [Nat.mul_comm g] at hqd
  have hY : Z * K ≤ Y := by omega
  have hY2 : Y + 1 ≤ Z * K + K := by omega
  have c1 : Z * K * P ≤ q := Nat.le_trans (Nat.mul_le_mul_right _ hY) (by omega)
  have c2 : q + 1 ≤ (Z * K + K) * P := by
    refine Nat.le_trans ?_ (Nat.mul_le_mul_right _ hY2)
    rw [Nat.succ_mul]; omega
  have c3 : Z * K * P * g ≤ F := Nat.le_trans (Nat.mul_le_mul_right _ c1) (by omega)
  have c4 : F < (Z * K + K) * P * g := by
    refine Nat.lt_of_lt_of_le ?_ (Nat.mul_le_mul_right _ c2)
    rw [Nat.succ_mul]; omega
  refine ⟨Nat.mul_le_mul_right _ c3, Nat.mul_lt_mul_of_pos_right c4 hA, ?_⟩
  have hc : F * A = Z * K * P * g * A ↔ F = Z * K * P * g := ⟨fun h => Nat.eq_of_mul_eq_mul_right hA h, fun h => by rw [h]⟩
  rw [hc]
  constructor
  · rintro ⟨⟨rfl, rfl⟩, rfl⟩
    rw [← hqd, ← hdm, ← hdm2]
    simp only [Nat.add_zero]
  · intro hF
    have f1 : q = Z * K * P := by
      refine Nat.le_antisymm ?_ c1
      refine Nat.le_of_mul_le_mul_right (c := g) ?_ h0
      rw [← hF]; omega
    have f2 : rr = 0 := by rw [hF, f1] at hqd; omega
    have f3 : Y = Z * K := by
      refine Nat.le_antisymm ?_ hY
      refine Nat.le_of_mul_le_mul_right (c := P) ?_ hP
      rw [← f1]; omega
    have f4 : lo2 = 0 := by rw [f1, f3] at hdm; omega
    exact ⟨⟨f2, f4⟩, by omega⟩
/-- a quotient's first 64 digits -/
theorem lies_quo {f g : Nat} (hf : 9223372036854775808 ≤ f) (hg : g < 2 ^ 64) (h0 : 0 < g) (e : Int) (q : Nat) (hq : q = quoN f g) :
    Lies (f * 2 ^ 200) g e (e + blen q - 1) (manX (normN q / 2 ^ 64 % 2 ^ 64) 0) ((quoR f g || lostN q) || decide (normN q % 2 ^ 64 ≠ 0)) (2 ^ 64) := by
  have hq0 : q ≠ 0 := by rw [hq]; exact quo_pos hf hg h0
  have hqd := Nat.div_add_mod (f * 2 ^ 200) g
  have hrm := Nat.mod_lt (f * 2 ^ 200) h0
  rw [show f * 2 ^ 200 / g = q from hq.symm] at hqd
  have hbl : 128 ≤ blen q := by
    have h1 : 2 ^ 199 * g ≤ f * 2 ^ 200 := by
      have : g ≤ 2 * f := by omega
      calc 2 ^ 199 * g ≤ 2 ^ 199 * (2 * f) := Nat.mul_le_mul_left _ this
        _ = f * 2 ^ 200 := by rw [← Nat.mul_assoc, ← Nat.pow_succ, Nat.mul_comm]
    have h2 : 2 ^ 199 ≤ q := by rw [hq]; exact (Nat.le_div_iff_mul_le h0).2 h1
    refine Nat.le_of_not_lt fun c => ?_
    have := Nat.lt_of_lt_of_le (blen_hi q) (Nat.pow_le_pow_right (show 0 < 2 by decide) (show blen q ≤ 127 by omega))
    have h3 : 2 ^ 127 ≤ 2 ^ 199 := Nat.pow_le_pow_right (by decide) (by decide)
    omega
  obtain ⟨d, hd⟩ : ∃ d, d = blen q - 128 := ⟨_, rfl⟩
  have hn : normN q = q / 2 ^ d := by unfold normN; rw [if_neg (by omega), hd]
  have hl : lostN q = decide (q % 2 ^ d ≠ 0) := by
    unfold lostN
    rw [← hd]
    by_cases c : 128 < blen q
    · rw [decide_eq_true c, Bool.true_and]
    · rw [decide_eq_false c, Bool.false_and, show d = 0 by omega, Nat.pow_zero, Nat.mod_one]; rfl
  have hmt := (normN_words hq0).mant
  rw [man_norm hq0] at hmt
  have hhi : normN q / 2 ^ 64 % 2 ^ 64 = normN q / 2 ^ 64 := by
    refine Nat.mod_eq_of_lt (Nat.div_lt_of_lt_mul ?_)
    rw [← Nat.pow_add]
    exact hmt.2
  rw [hhi, manX_zero, hl]
  intro a b hab
  have hbb : b = d + a := by omega
  have hdm := Nat.div_add_mod q (2 ^ d)
  rw [← hn] at hdm
  obtain ⟨g1, g2, g3⟩ := quo_core h0 hqd hrm hdm (Nat.mod_lt q (Nat.pow_pos (by decide))) (Nat.div_add_mod (normN q) (2 ^ 64)) (Nat.mod_lt (normN q) (Nat.pow_pos (by decide))) (show 0 < 2 ^ a from Nat.pow_pos (by decide))
  have e1 : ∀ X : Nat, X * g * 2 ^ b = X * 2 ^ d * g * 2 ^ a := fun X => by rw [hbb, Nat.pow_add]; simp only [Nat.mul_assoc, Nat.mul_left_comm, Nat.mul_comm]
  rw [e1, e1]
  refine ⟨g1, g2, ?_⟩
  rw [← g3]
  unfold quoR
  simp only [Bool.or_eq_false_iff, decide_eq_false_iff_not, Classical.not_not]
end Go.Proofs.YtheliihkkoohnabGreat

namespace Go.Proofs.YtheliihkkoohnabGreat
set_option linter.unusedVariables false
set_option linter.unusedSimpArgs false
set_option maxRecDepth 100000

/-! ### what is rounded once rises and falls as it must (plain mathematics) -/
/-! ### quotients -/
def qmag (n a b : Nat) : Nat := mgC n (quoN (vF n a) (vF n b)) (vS n a - vS n b - 200) (quoR (vF n a) (vF n b))
theorem qmag_range (n a b : Nat) (hn : Wd n) (ha : a < 2 ^ 64) (hb : b < 2 ^ 64) (ka : vK n a = 1) (kb : vK n b = 1) : 1 ≤ qmag n a b ∧ qmag n a b ≤ 2 ^ (n - 1) - 1 := by
  obtain ⟨_, _, _, _, _, _, wa, _⟩ := v_real n a hn ha ka
  obtain ⟨_, _, _, _, _, _, wb, _⟩ := v_real n b hn hb kb
  exact mgC_range _ _ hn (quo_pos wa.top wb.hi64 (by have := wb.top; omega))
/-! ### fused products -/
theorem blen_mul' (x y : Nat) {i j : Nat} (hx : blen x ≤ i) (hy : blen y ≤ j) : blen (x * y) ≤ i + j := by
  refine blen_le.2 ?_
  rw [Nat.pow_add]
  have h1 := Nat.lt_of_lt_of_le (blen_hi x) (Nat.pow_le_pow_right (show 0 < 2 by decide) hx)
  have h2 := Nat.lt_of_lt_of_le (blen_hi y) (Nat.pow_le_pow_right (show 0 < 2 by decide) hy)
  exact Nat.mul_lt_mul_of_lt_of_lt h1 h2
end Go.Proofs.YtheliihkkoohnabGreat

namespace Go.Proofs.YtheliihkkoohnabGreat
open Go.ChangeShapes Go.WideShapes Go.ChangeAt Go.RowKit
set_option linter.unusedVariables false
set_option maxRecDepth 100000

theorem Row.other {w : World} {v u : Value} {l : List Nat} {g j : Nat} (h : Row w v l) (hne : v.ownBlock ≠ some g) : Row (w.setCell ⟨g, j, none⟩ u) v l := by
  obtain ⟨ao, c, rfl, hc, hl, h⟩ := h
  refine ⟨ao, c, rfl, hc, hl, ?_⟩
  rcases h with h | ⟨b, off, rfl, hlt, h⟩
  · exact .inl h
  · have hb : b ≠ g := fun e => hne (by rw [e]; rfl)
    refine .inr ⟨b, off, rfl, hlt.set, fun i hi => ?_⟩
    rw [World.cell?_setCell_other w ⟨g, j, none⟩ ⟨b, off + i, none⟩ u (by intro e; exact hb (by injection e with e1; exact e1.symm)), h i hi]
theorem bdrewN' {B : Nat} {a W : World} (h : Below B a W) (q : Nat) : Below B a (W.drewN q) := below_drewN h q

end Go.Proofs.YtheliihkkoohnabGreat

namespace Go.Proofs.YtheliihkkoohnabGreat
open Go.ChangeShapes Go.WideShapes Go.ChangeAt Go.RowKit
set_option linter.unusedVariables false
set_option linter.unusedSimpArgs false
set_option maxRecDepth 100000

/-! ### the document's quotients -/
theorem quot11_form (k : Int) (neg : Bool) (s : Int) (f : Nat) (k' : Int) (neg' : Bool) (s' : Int) (g : Nat) : ∃ k2 b s2 h l r, quot11 k neg s f k' neg' s' g = exV k2 b s2 h l r := by
  unfold quot11
  by_cases h : k = 2 ∨ k' ≠ 1
  · rw [if_pos h]; exact ⟨_, _, _, _, _, _, rfl⟩
  · rw [if_neg h]
    by_cases h0 : k = 0
    · rw [if_pos h0]; exact ⟨_, _, _, _, _, _, rfl⟩
    · rw [if_neg h0]; exact ⟨_, _, _, _, _, _, rfl⟩
theorem dlen_le_blen (M : Nat) : dlen M ≤ blen M := by
  refine dlen_le_of_lt (Nat.lt_of_lt_of_le (blen_hi M) ?_)
  rw [show (16777216 : Nat) = 2 ^ 24 by decide, ← Nat.pow_mul]
  exact Nat.pow_le_pow_right (by decide) (by omega)
end Go.Proofs.YtheliihkkoohnabGreat

namespace Go.Proofs.YtheliihkkoohnabGreat
open Go.ChangeShapes Go.WideShapes Go.ChangeAt Go.RowKit
set_option linter.unusedVariables false
set_option linter.unusedSimpArgs false
set_option maxRecDepth 100000

/-! ### the document's roots -/
theorem one_lit (w : World) : Row (w.alloc (.cells #[.int .i64 1] 3)) (.slice (some ⟨w.heap.size, 0, none⟩) 1 1) (dig 1) := by
  have hlit : (w.alloc (.cells #[.int .i64 1] 3)).ownsRow w.heap.size 3 1 (.slice (some ⟨w.heap.size, 0, none⟩) 1 1) 1 [.int .i64 1] := World.ownsRow_lit w #[.int .i64 1] 1 (Nat.le_refl _) (by decide) rfl
  have h1 : dig 1 = [1] := by unfold dig; simp [dig_zero]
  rw [h1]
  exact row_own (l := [1]) hlit
end Go.Proofs.YtheliihkkoohnabGreat

namespace Go.Proofs.YtheliihkkoohnabGreat
open Go.ChangeShapes Go.WideShapes Go.ChangeAt Go.RowKit
set_option linter.unusedVariables false
set_option linter.unusedSimpArgs false
set_option maxRecDepth 100000

end Go.Proofs.YtheliihkkoohnabGreat

namespace Go.Proofs.YtheliihkkoohnabGreat
open Go.ChangeShapes Go.WideShapes Go.ChangeAt Go.RowKit
set_option linter.unusedVariables false
set_option linter.unusedSimpArgs false
set_option maxRecDepth 100000

/-! ### the document's sums of products -/
theorem soundX_v (n a : Nat) (hn : Wd n) (ha : a < 2 ^ 64) : soundX (vK n a) (vB n a) (vS n a) (vF n a) 0 false = true := by
  by_cases k1' : vK n a = 1
  · obtain ⟨_, _, _, _, _, _, wa, s1, s2⟩ := v_real n a hn ha k1'
    have hw := wd_le hn
    unfold soundX
    rw [k1', if_neg (by decide)]
    exact decide_eq_true ⟨rfl, wa.top, by omega, by omega⟩
  · obtain ⟨e1, e2, e3⟩ := v_other n a k1'
    unfold soundX
    rw [e1, e2, e3]
    rcases v_kinds n a hn with ⟨c, _⟩ | c | ⟨c, _⟩
    · rw [c]; rfl
    · exact absurd c k1'
    · rw [c]; rfl
/-- a product's parts, with what Sum asks of them -/
theorem prod_parts (n a b : Nat) (hn : Wd n) (ha : a < 2 ^ 64) (hb : b < 2 ^ 64) : ∃ K N S H L, prod10 (vK n a) (vB n a) (vS n a) (vF n a) (vK n b) (vB n b) (vS n b) (vF n b) = exV K N S H L false ∧
    soundX K N S H L false = true ∧ H < 2 ^ 64 ∧ L < 2 ^ 64 ∧ ((K = 2 ∧ (vK n a = 2 ∨ vK n b = 2)) ∨ (¬ (vK n a = 2 ∨ vK n b = 2) ∧ Prt (eN + eN) (valI n a * valI n b) K N S H L)) := by
  by_cases h : vK n a = 2 ∨ vK n b = 2
  · refine ⟨2, false, 0, 0, 0, ?_, rfl, by decide, by decide, .inl ⟨rfl, h⟩⟩
    unfold prod10; rw [if_pos h]
  · obtain ⟨K, N, S, H, L, e, hp⟩ := prod_prt n a b hn ha hb (fun c => h (.inl c)) (fun c => h (.inr c))
    exact ⟨K, N, S, H, L, e, hp.sound, hp.words.1, hp.words.2, .inr ⟨h, hp⟩⟩
theorem sum_parts {e T T' K K' : Int} {N N' : Bool} {S S' : Int} {H L H' L' : Nat} {A B : Prop} [Decidable A] [Decidable B] (h : (K = 2 ∧ A) ∨ (¬ A ∧ Prt e T K N S H L)) (h' : (K' = 2 ∧ B) ∨ (¬ B ∧ Prt e T' K' N' S' H' L')) :
    sum9 K N S H L K' N' S' H' L' = if A ∨ B then exV 2 false 0 0 0 false else exI (T + T') e := by
  rcases h with ⟨rfl, ha⟩ | ⟨ha, hp⟩
  · unfold sum9; rw [if_pos (.inl rfl), if_pos (.inl ha)]
  · rcases h' with ⟨rfl, hb⟩ | ⟨hb, hp'⟩
    · unfold sum9; rw [if_pos (.inr rfl), if_pos (.inr hb)]
    · rw [if_neg (by rintro (c | c); exact ha c; exact hb c), hp.sum hp']
theorem val_parts (n c : Nat) (hn : Wd n) (hc : c < 2 ^ 64) : (vK n c = 2 ∧ vK n c = 2) ∨ (¬ vK n c = 2 ∧ Prt (eN + eN) (valI n c * ((2 ^ 375 : Nat) : Int)) (vK n c) (vB n c) (vS n c) (vF n c) 0) := by
  by_cases h : vK n c = 2
  · exact .inl ⟨h, h⟩
  · exact .inr ⟨h, val_prt2 n c hn hc h⟩
theorem form_if {A : Prop} [Decidable A] {U V : Value} (h : ∃ k b s h l r, U = exV k b s h l r) (h' : ∃ k b s h l r, V = exV k b s h l r) : ∃ k b s h l r, (if A then U else V) = exV k b s h l r := by
  by_cases a : A
  · rw [if_pos a]; exact h
  · rw [if_neg a]; exact h'
theorem patF_if (n a b c : Nat) : patF n a b c = if (vK n a = 2 ∨ vK n b = 2) ∨ vK n c = 2 then 2 ^ (n - 1) else patI n (valI n a * valI n b + valI n c * ((2 ^ 375 : Nat) : Int)) (eN + eN) := by
  unfold patF
  by_cases h : (vK n a = 2 ∨ vK n b = 2) ∨ vK n c = 2
  · rw [if_pos h, if_pos (by rcases h with (h | h) | h <;> simp [h])]
  · rw [if_neg h, if_neg (by rintro (q | q | q) <;> exact h (by simp [q]))]
theorem exI_form' (T e : Int) : ∃ k b s h l r, exI T e = exV k b s h l r := exactV_form _ _ _ _
end Go.Proofs.YtheliihkkoohnabGreat
