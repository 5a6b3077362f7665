import Derived.Test.YthchcocolclpoabShapeC
namespace Go.Proofs.Ythchcocolclpoab
open Go.ChangeShapes Go.WideShapes Go.ChangeAt Go.RowKit
set_option linter.unusedVariables false
set_option linter.unusedSimpArgs false
set_option maxRecDepth 100000

theorem ext_val (x n : Nat) (h1 : 1 ≤ n) : extOf x n = if 2 ^ (n - 1) ≤ x % 2 ^ n then ((x % 2 ^ n : Nat) : Int) - ((2 ^ n : Nat) : Int) else ((x % 2 ^ n : Nat) : Int) := by
  have hnn : 2 ^ n = 2 * 2 ^ (n - 1) := by rw [← Nat.pow_succ']; congr 1; omega
  have hy : x % 2 ^ n < 2 ^ n := Nat.mod_lt _ (Nat.pos_of_ne_zero (by simp))
  have hb : x.testBit (n - 1) = decide (2 ^ (n - 1) ≤ x % 2 ^ n) := by
    rw [← top_bit _ _ (by omega), Nat.testBit_mod_two_pow]; simp; omega
  rw [extOf, hb]
  split
  · rename_i h; simp [h]
  · rename_i h; simp [h]
theorem ext_lo (n : Nat) (hn : Wd n) (x : Nat) : -((2 ^ (n - 1) : Nat) : Int) ≤ extOf x n ∧ extOf x n ≤ ((2 ^ (n - 1) : Nat) : Int) - 1 := by
  rcases hn with rfl | rfl | rfl | rfl <;> (rw [ext_val _ _ (by decide)]; simp only [Nat.reducePow, Nat.reduceSub]; split <;> omega)
theorem ext_nar (n : Nat) (hn : Wd n) : extOf (2 ^ (n - 1)) n = -((2 ^ (n - 1) : Nat) : Int) := by
  rcases hn with rfl | rfl | rfl | rfl <;> (rw [ext_val _ _ (by decide)]; decide)
theorem ext_most (n : Nat) (hn : Wd n) : extOf (2 ^ (n - 1) - 1) n = ((2 ^ (n - 1) : Nat) : Int) - 1 := by
  rcases hn with rfl | rfl | rfl | rfl <;> (rw [ext_val _ _ (by decide)]; decide)
theorem ext_home (n : Nat) (hn : Wd n) (x : Nat) : u64Of (extOf x n) % 2 ^ n = x % 2 ^ n := by
  rcases hn with rfl | rfl | rfl | rfl <;> (rw [ext_val _ _ (by decide)]; unfold u64Of; simp only [Nat.reducePow, Nat.reduceSub]; split <;> omega)
theorem ext_mod (n : Nat) (hn : Wd n) (x : Nat) : extOf (x % 2 ^ n) n = extOf x n := by
  rcases hn with rfl | rfl | rfl | rfl <;> (rw [ext_val _ _ (by decide), ext_val _ _ (by decide)]; simp only [Nat.reducePow, Nat.reduceSub]; rw [Nat.mod_mod])
theorem pat_ext (n : Nat) (hn : Wd n) (x : Nat) : patOk n (extOf x n) = true := by
  unfold patOk
  rw [ext_home n hn, ext_mod n hn]
  simp
theorem pat_range (n : Nat) (hn : Wd n) (r : Int) : patOk n r = decide (-((2 ^ (n - 1) : Nat) : Int) ≤ r ∧ r ≤ ((2 ^ (n - 1) : Nat) : Int) - 1) := by
  unfold patOk
  refine decide_eq_decide.2 ?_
  rcases hn with rfl | rfl | rfl | rfl <;> (rw [ext_val _ _ (by decide)]; unfold u64Of; simp only [Nat.reducePow, Nat.reduceSub]; split <;> omega)

set_option maxHeartbeats 4000000 in
theorem shapeBack_walk (n p r : Int) (wn : (Lit.int .i64 n).wf = true) (wp : (Lit.int .u64 p).wf = true) (wr : (Lit.int .i64 r).wf = true) (w : World) :
    Calls Try.prog 5 #[.int .i64 n, .int .u64 p, .int .i64 r] w fun e w' => e = .returned (.bool true) ∧ Below w.heap.size w w' := by
  have he := fun w a b => Lib.run_eql_iface_int (P := Try.prog) w (t := 25) (tx := 41) (k := .i64) a b Try.underlying25 (by kernel_rfl) Try.underlying41
  obtain ⟨x, rfl, hx⟩ := nat_of_u64 wp
  refine cps fun Q hQ => ?_
  cases hb : isW n
  · have k1 := fun w => of_no n hb w
    have k2 := fun w => rank_no n x hb w
    simp only [shp0] at k1
    clear hb wn wp wr hx
    go_enter Try.func5, Try.ntmps5
    go_wp2_with (first
      | (go_at_call 6; refine (sup_any _).mono ?_; rintro e w1 ⟨rfl, hb1⟩)
      | (go_at_call 12; refine (k1 _).mono ?_; rintro e w2 ⟨rfl, hb2⟩)
      | (go_at_call 7; refine (k2 _).mono ?_; rintro e w3 ⟨rfl, hb3⟩))
    exact hQ.out _ _ ⟨by simp, bthenS (bmoreS (bthenS hb1 hb2) _) hb3⟩
  · obtain ⟨m, rfl, hm⟩ := isW_yes hb
    have k1 := fun w => of_ok m hm w
    simp only [shp] at k1
    have k2 := fun w => fold_ok m x hm hx w
    have hX : x % 2 ^ m < 2 ^ 64 := Nat.lt_of_lt_of_le (Nat.mod_lt _ (Nat.pow_pos (by decide))) (Nat.pow_le_pow_right (by decide) (wd_le hm).2)
    have k3 := fun w => fold_ok m (x % 2 ^ m) hm hX w
    rw [Nat.mod_mod] at k3
    have k4 := fun w => rank_ok m x hm w
    have k5 := fun w => pattern_ok m (extOf x m) hm (pat_ext m hm x) w
    rw [ext_home m hm] at k5
    have k6 := fun w => rank_ok m (2 ^ (m - 1)) hm w
    have k7 := fun w => rank_ok m (2 ^ (m - 1) - 1) hm w
    rw [ext_nar m hm] at k6
    rw [ext_most m hm] at k7
    obtain ⟨o1, o2⟩ := ext_lo m hm x
    have hpr := pat_range m hm r
    have hpos := (two_pow_lt hm).1
    have k8 := fun w h => pattern_bad m r hm h w
    have k9 := fun w h => pattern_ok m r hm h w
    have k10 := fun w => rank_ok m (u64Of r % 2 ^ m) hm w
    have hback : patOk m r = true → extOf (u64Of r % 2 ^ m) m = r := fun h => of_decide_eq_true h
    clear hb wn wp wr hx hX
    generalize hI : extOf x m = I at *
    generalize x % 2 ^ m = X at *
    generalize u64Of r % 2 ^ m = q at *
    generalize extOf q m = bk at *
    generalize 2 ^ (m - 1) = M at *
    obtain ⟨M1, hM1⟩ : ∃ M1, M = M1 + 1 := ⟨M - 1, by omega⟩
    subst hM1
    rw [Nat.add_sub_cancel] at k1 k7
    obtain ⟨lo, hlo⟩ : ∃ lo : Int, -((M1 + 1 : Nat) : Int) = lo := ⟨_, rfl⟩
    obtain ⟨hi, hhi⟩ : ∃ hi : Int, ((M1 + 1 : Nat) : Int) - 1 = hi := ⟨_, rfl⟩
    rw [hlo] at k6 o1 hpr
    rw [hhi] at k7 o2 hpr
    have o3 : decide (I < lo) = false := decide_eq_false (by omega)
    have o4 : decide (hi < I) = false := decide_eq_false (by omega)
    clear hlo hhi hI hpos o1 o2 hm
    obtain ⟨M2, hM2⟩ : ∃ M2, M1 + 1 = M2 := ⟨_, rfl⟩
    rw [hM2] at k1 k6
    clear hM2
    cases hp : patOk m r
    · have k8 := fun w => k8 w hp
      rw [hp] at hpr
      have o5 : r < lo ∨ hi < r := by
        have := of_decide_eq_false hpr.symm
        omega
      clear k9 k10 hback hpr hp
      go_enter Try.func5, Try.ntmps5
      go_wp2_with (first
        | (have chk := hb8; clear chk; go_at_call 10; refine (k8 _).mono ?_; rintro e w9 ⟨rfl, hb9⟩)
        | (have chk := hb7; clear chk; go_at_call 7; refine (k7 _).mono ?_; rintro e w8 ⟨rfl, hb8⟩; have hc8 := fun b o h => hb8.cell (p := ⟨b, o, none⟩) h)
        | (have chk := hb6; clear chk; go_at_call 7; refine (k6 _).mono ?_; rintro e w7 ⟨rfl, hb7⟩; have z7 := hb7.size; have y7 : w2.heap.size < w7.heap.size := Nat.lt_of_lt_of_le y6 z7; have hc7 := fun b o h => hb7.cell (p := ⟨b, o, none⟩) h)
        | (have chk := hb5; clear chk; go_at_call 10; refine (k5 _).mono ?_; rintro e w6 ⟨rfl, hb6⟩; have z6 := hb6.size; have y6 : w2.heap.size < w6.heap.size := Nat.lt_of_lt_of_le y5 z6; have hc6 := fun b o h => hb6.cell (p := ⟨b, o, none⟩) h)
        | (have chk := hb4; clear chk; go_at_call 7; refine (k4 _).mono ?_; rintro e w5 ⟨rfl, hb5⟩; have z5 := hb5.size; have y5 : w2.heap.size < w5.heap.size := Nat.lt_of_lt_of_le y4 z5; have hc5 := fun b o h => hb5.cell (p := ⟨b, o, none⟩) h)
        | (have chk := hb3; clear chk; go_at_call 13; refine (k3 _).mono ?_; rintro e w4 ⟨rfl, hb4⟩; have z4 := hb4.size; have y4 : w2.heap.size < w4.heap.size := Nat.lt_of_lt_of_le y3 z4; have hc4 := fun b o h => hb4.cell (p := ⟨b, o, none⟩) h)
        | (have chk := hb2; clear chk; go_at_call 13; refine (k2 _).mono ?_; rintro e w3 ⟨rfl, hb3⟩; have z3 := hb3.size; simp at z3; have y3 : w2.heap.size < w3.heap.size := z3; have hc3 := fun b o h => hb3.cell (p := ⟨b, o, none⟩) h)
        | (go_at_call 12; refine (k1 _).mono ?_; rintro e w2 ⟨rfl, hb2⟩)
        | (go_at_call 6; refine (sup_any _).mono ?_; rintro e w1 ⟨rfl, hb1⟩))
      all_goals
        refine hQ.out _ _ ⟨by first | rfl | (simp; omega) | simp, ?_⟩
        exact bthenS (bthenS (bthenS (bthenS (bthenS (bthenS (bthenS (bmoreS (bthenS hb1 hb2) _) hb3) hb4) hb5) hb6) hb7) hb8) hb9
    · have k9 := fun w => k9 w hp
      have hback := hback hp
      subst hback
      rw [hp] at hpr
      obtain ⟨o5, o6⟩ := of_decide_eq_true hpr.symm
      clear k8 hpr hp
      go_enter Try.func5, Try.ntmps5
      go_wp2_with (first
        | (have chk := hb9; clear chk; go_at_call 7; refine (k10 _).mono ?_; rintro e w10 ⟨rfl, hb10⟩)
        | (have chk := hb8; clear chk; go_at_call 10; refine (k9 _).mono ?_; rintro e w9 ⟨rfl, hb9⟩)
        | (have chk := hb7; clear chk; go_at_call 7; refine (k7 _).mono ?_; rintro e w8 ⟨rfl, hb8⟩; have hc8 := fun b o h => hb8.cell (p := ⟨b, o, none⟩) h)
        | (have chk := hb6; clear chk; go_at_call 7; refine (k6 _).mono ?_; rintro e w7 ⟨rfl, hb7⟩; have z7 := hb7.size; have y7 : w2.heap.size < w7.heap.size := Nat.lt_of_lt_of_le y6 z7; have hc7 := fun b o h => hb7.cell (p := ⟨b, o, none⟩) h)
        | (have chk := hb5; clear chk; go_at_call 10; refine (k5 _).mono ?_; rintro e w6 ⟨rfl, hb6⟩; have z6 := hb6.size; have y6 : w2.heap.size < w6.heap.size := Nat.lt_of_lt_of_le y5 z6; have hc6 := fun b o h => hb6.cell (p := ⟨b, o, none⟩) h)
        | (have chk := hb4; clear chk; go_at_call 7; refine (k4 _).mono ?_; rintro e w5 ⟨rfl, hb5⟩; have z5 := hb5.size; have y5 : w2.heap.size < w5.heap.size := Nat.lt_of_lt_of_le y4 z5; have hc5 := fun b o h => hb5.cell (p := ⟨b, o, none⟩) h)
        | (have chk := hb3; clear chk; go_at_call 13; refine (k3 _).mono ?_; rintro e w4 ⟨rfl, hb4⟩; have z4 := hb4.size; have y4 : w2.heap.size < w4.heap.size := Nat.lt_of_lt_of_le y3 z4; have hc4 := fun b o h => hb4.cell (p := ⟨b, o, none⟩) h)
        | (have chk := hb2; clear chk; go_at_call 13; refine (k2 _).mono ?_; rintro e w3 ⟨rfl, hb3⟩; have z3 := hb3.size; simp at z3; have y3 : w2.heap.size < w3.heap.size := z3; have hc3 := fun b o h => hb3.cell (p := ⟨b, o, none⟩) h)
        | (go_at_call 12; refine (k1 _).mono ?_; rintro e w2 ⟨rfl, hb2⟩)
        | (go_at_call 6; refine (sup_any _).mono ?_; rintro e w1 ⟨rfl, hb1⟩))
      refine hQ.out _ _ ⟨by first | (simp; omega) | simp | rfl, ?_⟩
      exact bthenS (bthenS (bthenS (bthenS (bthenS (bthenS (bthenS (bthenS (bmoreS (bthenS hb1 hb2) _) hb3) hb4) hb5) hb6) hb7) hb8) hb9) hb10
end Go.Proofs.Ythchcocolclpoab
