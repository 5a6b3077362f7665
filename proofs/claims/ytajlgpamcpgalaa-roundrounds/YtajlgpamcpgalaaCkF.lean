import Derived.Test.YtajlgpamcpgalaaCkE
namespace Go.Proofs.Ytajlgpamcpgalaa
open Go.ChangeShapes Go.WideShapes Go.ChangeAt Go.RowKit
set_option linter.unusedVariables false
set_option linter.unusedSimpArgs false
set_option maxRecDepth 100000

theorem csplit_other (n x : Nat) (hn : Wd n) (hx : x < 2 ^ 64) (hk : kindOf n (x % 2 ^ n) ≠ 1) (w : World) :
    Calls Try.prog 44 #[.int .i64 n, .int .u64 x] w fun e w' => e = .returned (.tuple #[fd0, .nilIface]) ∧ Below w.heap.size w w' := by
  have k1 := kind_ok n x hn hx
  obtain ⟨k, hkk⟩ : ∃ k, k = kindOf n (x % 2 ^ n) := ⟨_, rfl⟩
  rw [← hkk] at k1 hk
  clear hn hkk
  refine cps fun Q hQ => ?_
  have hd : (k == 1) = false := beq_eq_false_iff_ne.2 hk
  go_enter Try.func44, Try.ntmps44
  go_wp2_with (go_at_call 43; refine (k1 _).mono ?_; rintro e w1 ⟨rfl, hb1⟩; have HB1 : Hid (Below _ _ _) := hb1; have R0 := (hb1.block w.heap.size (by simp)).trans (rownew w _ _); have b0 := rowcell R0 0; have b1 := rowcell R0 1; have b2 := rowcell R0 2; have b3 := rowcell R0 3; have b4 := rowcell R0 4; have b5 := rowcell R0 5; have b6 := rowcell R0 6; have b7 := rowcell R0 7; have bf := rowfree R0; simp only [List.getElem?_toArray, List.getElem?_cons_zero, List.getElem?_cons_succ] at b0 b1 b2 b3 b4 b5 b6 b7; clear hb1 R0)
  refine bodyPost_ret (v := .tuple #[fd0, .nilIface]) (by simp [results, Try.results44, go_sem, b0, b1, b2, b3, b4, b5, b6, b7, fd0]) rfl (hQ.out _ _ ⟨rfl, ?_⟩)
  exact cset8 (cthen (cmore (Below.refl _ _) _) HB1.out) (Nat.le_refl _)
theorem csplit_no (n : Int) (x : Nat) (hn : isW n = false) (w : World) :
    Calls Try.prog 44 #[.int .i64 n, .int .u64 x] w fun e w' => e = .returned (.tuple #[fd0, codeV 2]) ∧ Below w.heap.size w w' := by
  have k1 := kind_no n x hn
  clear hn
  refine cps fun Q hQ => ?_
  go_enter Try.func44, Try.ntmps44
  go_wp2_with (go_at_call 43; refine (k1 _).mono ?_; rintro e w1 ⟨rfl, hb1⟩; have HB1 : Hid (Below _ _ _) := hb1; have R0 := (hb1.block w.heap.size (by simp)).trans (rownew w _ _); have b0 := rowcell R0 0; have b1 := rowcell R0 1; have b2 := rowcell R0 2; have b3 := rowcell R0 3; have b4 := rowcell R0 4; have b5 := rowcell R0 5; have b6 := rowcell R0 6; have b7 := rowcell R0 7; have bf := rowfree R0; simp only [List.getElem?_toArray, List.getElem?_cons_zero, List.getElem?_cons_succ] at b0 b1 b2 b3 b4 b5 b6 b7; clear hb1 R0)
  refine bodyPost_ret (v := .tuple #[fd0, codeV 2]) (by simp [results, Try.results44, go_sem, b0, b1, b2, b3, b4, b5, b6, b7, fd0]) rfl (hQ.out _ _ ⟨rfl, ?_⟩)
  exact cset8 (cthen (cmore (Below.refl _ _) _) HB1.out) (Nat.le_refl _)
/-! ### Decode -/
theorem cdecode_other (n x : Nat) (hn : Wd n) (hx : x < 2 ^ 64) (hk : kindOf n (x % 2 ^ n) ≠ 1) (w : World) :
    Calls Try.prog 19 #[.int .i64 n, .int .u64 x] w fun e w' => e = .returned (.tuple #[numV (kindOf n (x % 2 ^ n)) false 0 0, .nilIface]) ∧ Below w.heap.size w w' := by
  have k1 := kind_ok n x hn hx
  generalize kindOf n (x % 2 ^ n) = k at *
  clear hn
  refine cps fun Q hQ => ?_
  have hd : (k == 1) = false := beq_eq_false_iff_ne.2 hk
  go_enter Try.func19, Try.ntmps19
  go_wp2_with (go_at_call 43; refine (k1 _).mono ?_; rintro e w1 ⟨rfl, hb1⟩; have hc := fun b o h => hb1.cell (p := ⟨b, o, none⟩) h; have hf := fun b o h => hb1.frozen (p := ⟨b, o, none⟩) h; have hz := hb1.size; simp at hz; have hz' : w.heap.size < w1.heap.size := hz)
  refine bodyPost_ret (v := .tuple #[numV k false 0 0, .nilIface]) (by simp [results, Try.results19, go_sem, hc, hz', numV]) rfl (hQ.out _ _ ⟨rfl, ?_⟩)
  exact cset4 (cthen (cmore (Below.refl _ _) _) hb1) (Nat.le_refl _)
theorem cdecode_no (n : Int) (x : Nat) (hn : isW n = false) (w : World) :
    Calls Try.prog 19 #[.int .i64 n, .int .u64 x] w fun e w' => e = .returned (.tuple #[numV 0 false 0 0, codeV 2]) ∧ Below w.heap.size w w' := by
  have k1 := kind_no n x hn
  clear hn
  refine cps fun Q hQ => ?_
  go_enter Try.func19, Try.ntmps19
  go_wp2_with (go_at_call 43; refine (k1 _).mono ?_; rintro e w1 ⟨rfl, hb1⟩; have hc := fun b o h => hb1.cell (p := ⟨b, o, none⟩) h; have hf := fun b o h => hb1.frozen (p := ⟨b, o, none⟩) h; have hz := hb1.size; simp at hz; have hz' : w.heap.size < w1.heap.size := hz)
  refine bodyPost_ret (v := .tuple #[numV 0 false 0 0, codeV 2]) (by simp [results, Try.results19, go_sem, hc, hz', numV]) rfl (hQ.out _ _ ⟨rfl, ?_⟩)
  exact cset4 (cthen (cmore (Below.refl _ _) _) hb1) (Nat.le_refl _)
theorem word_frac (t : List Bool) (h : (restL t).length ≤ 63) : wordL t = 9223372036854775808 + fracL t * 2 ^ (63 - ((restL t).length - 2)) ∧ fracL t * 2 ^ (63 - ((restL t).length - 2)) < 9223372036854775808 := by
  have hl : ((restL t).drop 2).length = (restL t).length - 2 := by rw [List.length_drop]
  have e : ((restL t).drop 2 ++ noughts 63).take 63 = (restL t).drop 2 ++ noughts (63 - ((restL t).length - 2)) := by
    rw [List.take_append, List.take_of_length_le (by omega), take_noughts _ _ (by omega), hl]
  have h2 := numOf_lt ((restL t).drop 2 ++ noughts (63 - ((restL t).length - 2)))
  have h3 : ((restL t).drop 2 ++ noughts (63 - ((restL t).length - 2))).length = 63 := by
    rw [List.length_append, hl, List.length_replicate]; omega
  rw [h3, numOf_append, numOf_noughts, List.length_replicate] at h2
  refine ⟨?_, h2⟩
  unfold wordL fracL
  rw [e, numOf_cons, h3, numOf_append, numOf_noughts, List.length_replicate]
  rfl
theorem word_or (X : Nat) (h : X < 9223372036854775808) : bits BinOp.or IntKind.u64 9223372036854775808 (X : Int) = ((9223372036854775808 + X : Nat) : Int) := by
  have := u64_or_nat 9223372036854775808 X (by decide) (by omega)
  rw [show ((9223372036854775808 : Nat) : Int) = 9223372036854775808 from rfl] at this
  rw [this]
  congr 1
  have e := Nat.two_pow_add_eq_or_of_lt (i := 63) (b := X) h 1
  rw [show 2 ^ 63 * 1 = 9223372036854775808 by decide] at e
  exact e.symm
set_option maxHeartbeats 1000000 in
theorem cdecode_real (n x : Nat) (hn : Wd n) (hx : x < 2 ^ 64) (hk : kindOf n (x % 2 ^ n) = 1) (w : World) :
    Calls Try.prog 19 #[.int .i64 n, .int .u64 x] w fun e w' => e = .returned (.tuple #[numV 1 (x.testBit (n - 1)) (scaleL (strS n x)) (wordL (strS n x)), .nilIface]) ∧ Below w.heap.size w w' := by
  have k1 := kind_ok n x hn hx
  have k2 := csplit_real n x hn hx hk
  rw [hk] at k1
  have hw := wd_le hn
  have hlen := strS_length n x
  obtain ⟨hw1, hw2⟩ := word_frac (strS n x) (by rw [restL_length, hlen]; omega)
  have hfb : (restL (strS n x)).length - 2 ≤ 61 := by rw [restL_length, hlen]; omega
  have hrg : -64 ≤ regL (strS n x) ∧ regL (strS n x) ≤ 64 := by
    have := runL_le (strS n x)
    unfold regL; split <;> omega
  have hex : expL (strS n x) < 4 := by
    have := numOf_lt ((restL (strS n x) ++ noughts 2).take 2)
    rw [show ((restL (strS n x) ++ noughts 2).take 2).length = 2 by simp] at this
    exact this
  unfold fdV at k2
  unfold scaleL
  have hor := word_or _ hw2
  rw [← hw1] at hor
  obtain ⟨d, hd⟩ : ∃ d, d = 63 - ((restL (strS n x)).length - 2) := ⟨_, rfl⟩
  rw [← hd] at hor hw2
  have hdd : (63 : Int) - (((restL (strS n x)).length - 2 : Nat) : Int) = (d : Int) := by omega
  have hd63 : d ≤ 63 := by omega
  clear hn hx hk hlen hw hw1 hd
  generalize onesL (strS n x) = o at *
  generalize runL (strS n x) = r at *
  generalize regL (strS n x) = reg at *
  generalize expL (strS n x) = ex at *
  generalize fracL (strS n x) = fr at *
  generalize wordL (strS n x) = wd at *
  generalize (restL (strS n x)).length - 2 = fb at *
  generalize min (restL (strS n x)).length 2 = eb at *
  have hsc : IntKind.i64.wrap (IntKind.i64.wrap (reg * 4) + (ex : Int)) = 4 * reg + ex := by
    rw [wrapI (n := reg * 4) (by omega), wrapI (by omega)]; omega
  have hsh : IntKind.u64.wrap ((fr : Int) * 2 ^ d) = ((fr * 2 ^ d : Nat) : Int) := by
    have e : ((fr : Int) * 2 ^ d) = ((fr * 2 ^ d : Nat) : Int) := by simp
    rw [e, wrapN, Nat.mod_eq_of_lt (by omega)]
  generalize fr * 2 ^ d = X at *
  refine cps fun Q hQ => ?_
  generalize x.testBit (n - 1) = b at *
  go_enter Try.func19, Try.ntmps19
  go_wp2_with (first
    | (go_at_call 43; refine (k1 _).mono ?_; rintro e w1 ⟨rfl, hb1⟩; have HB1 : Hid (Below _ _ _) := hb1; clear hb1)
    | (go_at_call 44; refine (k2 _).mono ?_; rintro e w2 ⟨rfl, hb2⟩; have z1 : w.heap.size < w1.heap.size := (by have := HB1.out.size; simp at this; omega); have z2 := hb2.size; have R0 := (Below.heap_alloc w2 (.cells #[.bool b, .bool o, .int .i64 r, .int .i64 reg, .int .i64 (eb : Nat), .int .i64 ex, .int .i64 (fb : Nat), .int .u64 fr] 83) _ (by omega)).trans ((hb2.block _ z1).trans ((HB1.out.block _ (by simp)).trans (rownew w _ _))); have BW : Hid (Below _ _ _) := cmore (cthen (cthen (cmore (Below.refl _ _) _) HB1.out) hb2) (.cells #[.bool b, .bool o, .int .i64 r, .int .i64 reg, .int .i64 (eb : Nat), .int .i64 ex, .int .i64 (fb : Nat), .int .u64 fr] 83); have z3 : w.heap.size < w2.heap.size := (by omega); clear hb2 z2; have HR0 : Hid _ := R0; clear R0))
  obtain ⟨g, hg⟩ : ∃ g, g = w2.heap.size := ⟨_, rfl⟩
  have RF := rownew' w2 #[.bool b, .bool o, .int .i64 r, .int .i64 reg, .int .i64 (eb : Nat), .int .i64 ex, .int .i64 (fb : Nat), .int .u64 fr] 83 g hg
  rw [← hg]
  generalize w2.alloc (.cells #[.bool b, .bool o, .int .i64 r, .int .i64 reg, .int .i64 (eb : Nat), .int .i64 ex, .int .i64 (fb : Nat), .int .u64 fr] 83) = W at *
  have x0 := rowcell RF 0
  have x3 := rowcell RF 3
  have x5 := rowcell RF 5
  have x6 := rowcell RF 6
  have x7 := rowcell RF 7
  have b0 := rowcell HR0.out 0
  have b1 := rowcell HR0.out 1
  have b2 := rowcell HR0.out 2
  have b3 := rowcell HR0.out 3
  have bf := rowfree HR0.out
  simp only [List.getElem?_toArray, List.getElem?_cons_zero, List.getElem?_cons_succ] at x0 x3 x5 x6 x7 b0 b1 b2 b3
  have gw : IntKind.i64.wrap (63 - (fb : Int)) = (d : Int) := by rw [wrapI (by omega), hdd]
  have hgw : w.heap.size ≠ g := by omega
  have hab : ∀ o o' : Nat, (⟨w.heap.size, o, none⟩ : Addr) ≠ ⟨g, o', none⟩ := fun o o' e => hgw (congrArg Addr.block e)
  have far : ∀ (W1 : World) (u0 u1 u2 u3 : Value) (o : Nat), ((((W1.setCell ⟨w.heap.size, 0, none⟩ u0).setCell ⟨w.heap.size, 1, none⟩ u1).setCell ⟨w.heap.size, 2, none⟩ u2).setCell ⟨w.heap.size, 3, none⟩ u3).drew.cell? ⟨g, o, none⟩ = W1.cell? ⟨g, o, none⟩ := fun W1 u0 u1 u2 u3 o => by
    show ((((W1.setCell ⟨w.heap.size, 0, none⟩ u0).setCell ⟨w.heap.size, 1, none⟩ u1).setCell ⟨w.heap.size, 2, none⟩ u2).setCell ⟨w.heap.size, 3, none⟩ u3).cell? ⟨g, o, none⟩ = W1.cell? ⟨g, o, none⟩
    rw [World.cell?_setCell_other _ _ _ _ (hab _ _), World.cell?_setCell_other _ _ _ _ (hab _ _), World.cell?_setCell_other _ _ _ _ (hab _ _), World.cell?_setCell_other _ _ _ _ (hab _ _)]
  clear k1 k2 hg hdd
  have gd : (0 : Int) ≤ (d : Int) := Int.natCast_nonneg d
  refine wpC_region (fun W => W.cell? ⟨g, 0, none⟩ = some (.bool b) ∧ W.cell? ⟨g, 3, none⟩ = some (.int .i64 reg) ∧ W.cell? ⟨g, 5, none⟩ = some (.int .i64 ex) ∧ W.cell? ⟨g, 6, none⟩ = some (.int .i64 (fb : Nat)) ∧ W.cell? ⟨g, 7, none⟩ = some (.int .u64 fr)) (by kernel_rfl) ?_
  refine wpC_take 0 (v := ?_) rfl (by kernel_rfl) (fun _ _ _ h => h) (by kernel_rfl) ?_ ?_; rotate_left; · (intro wC hC; obtain ⟨c0, c3, c5, c6, c7⟩ := hC; go_simp <;> with_reducible rfl)
  refine wpC_take 1 (v := ?_) rfl (by kernel_rfl) (fun _ _ _ h => h) (by kernel_rfl) ?_ ?_; rotate_left; · (intro wC hC; obtain ⟨c0, c3, c5, c6, c7⟩ := hC; go_simp <;> with_reducible rfl)
  refine wpC_take 2 (v := ?_) rfl (by kernel_rfl) (fun _ _ _ h => h) (by kernel_rfl) ?_ ?_; rotate_left; · (intro wC hC; obtain ⟨c0, c3, c5, c6, c7⟩ := hC; go_simp <;> with_reducible rfl)
  refine wpC_take 3 (v := ?_) rfl (by kernel_rfl) (fun _ _ _ h => h) (by kernel_rfl) ?_ ?_; rotate_left; · (intro wC hC; obtain ⟨c0, c3, c5, c6, c7⟩ := hC; go_simp <;> with_reducible rfl)
  refine wpC_take 4 (v := ?_) rfl (by kernel_rfl) (fun _ _ _ h => h) (by kernel_rfl) ?_ ?_; rotate_left; · (intro wC hC; obtain ⟨c0, c3, c5, c6, c7⟩ := hC; go_simp <;> with_reducible rfl)
  refine wpC_take 5 (v := ?_) rfl (by kernel_rfl) (fun _ _ _ h => h) (by kernel_rfl) ?_ ?_; rotate_left; · (intro wC hC; obtain ⟨c0, c3, c5, c6, c7⟩ := hC; go_simp <;> with_reducible rfl)
  refine wpC_take 6 (v := ?_) rfl (by kernel_rfl) (fun _ _ _ h => h) (by kernel_rfl) ?_ ?_; rotate_left; · (intro wC hC; obtain ⟨c0, c3, c5, c6, c7⟩ := hC; go_simp <;> with_reducible rfl)
  refine wpC_take 7 (v := ?_) rfl (by kernel_rfl) (fun _ _ _ h => h) (by kernel_rfl) ?_ ?_; rotate_left; · (intro wC hC; obtain ⟨c0, c3, c5, c6, c7⟩ := hC; go_simp <;> with_reducible rfl)
  refine wpC_take 8 (v := ?_) rfl (by kernel_rfl) (fun _ _ _ h => h) (by kernel_rfl) ?_ ?_; rotate_left; · (intro wC hC; obtain ⟨c0, c3, c5, c6, c7⟩ := hC; go_simp <;> with_reducible rfl)
  refine wpC_take 9 (v := ?_) rfl (by kernel_rfl) (fun _ _ _ h => h) (by kernel_rfl) ?_ ?_; rotate_left; · (intro wC hC; obtain ⟨c0, c3, c5, c6, c7⟩ := hC; go_simp <;> with_reducible rfl)
  refine wpC_take 10 (v := ?_) rfl (by kernel_rfl) (fun _ _ _ h => h) (by kernel_rfl) ?_ ?_; rotate_left; · (intro wC hC; obtain ⟨c0, c3, c5, c6, c7⟩ := hC; go_simp <;> with_reducible rfl)
  refine wpC_take 11 (v := ?_) rfl (by kernel_rfl) (fun _ _ _ h => h) (by kernel_rfl) ?_ ?_; rotate_left; · (intro wC hC; obtain ⟨c0, c3, c5, c6, c7⟩ := hC; go_simp <;> with_reducible rfl)
  refine wpC_take 12 (v := ?_) rfl (by kernel_rfl) (fun _ _ _ h => h) (by kernel_rfl) ?_ ?_; rotate_left; · (intro wC hC; obtain ⟨c0, c3, c5, c6, c7⟩ := hC; go_simp <;> with_reducible rfl)
  refine wpC_take 13 (v := ?_) rfl (by kernel_rfl) (fun _ _ _ h => h) (by kernel_rfl) ?_ ?_; rotate_left; · (intro wC hC; obtain ⟨c0, c3, c5, c6, c7⟩ := hC; go_simp <;> with_reducible rfl)
  refine wpC_take 14 (v := ?_) rfl (by kernel_rfl) (fun _ _ _ h => h) (by kernel_rfl) ?_ ?_; rotate_left; · (intro wC hC; obtain ⟨c0, c3, c5, c6, c7⟩ := hC; go_simp <;> with_reducible rfl)
  refine wpC_take 15 (v := ?_) rfl (by kernel_rfl) (fun _ _ _ h => h) (by kernel_rfl) ?_ ?_; rotate_left; · (intro wC hC; obtain ⟨c0, c3, c5, c6, c7⟩ := hC; go_simp <;> with_reducible rfl)
  refine wpC_step 16 rfl (by kernel_rfl) (by kernel_rfl) ⟨x0, x3, x5, x6, x7⟩ (fun K hK => ?_)
  go_simp
  try (refine hK _ _ ?_; clear hK K)
  refine wpC_take 17 (v := ?_) rfl (by kernel_rfl) (fun _ _ _ h => h) (by kernel_rfl) ?_ ?_; rotate_left; · (intro wC hC; obtain _ := hC; go_simp <;> with_reducible rfl)
  refine wpC_done (by kernel_rfl) ⟨(far _ _ _ _ _ _).trans x0, (far _ _ _ _ _ _).trans x3, (far _ _ _ _ _ _).trans x5, (far _ _ _ _ _ _).trans x6, (far _ _ _ _ _ _).trans x7⟩ ?_
  go_wp2
  refine bodyPost_ret (v := .tuple #[numV 1 b (4 * reg + ex) wd, .nilIface]) (by simp [results, Try.results19, go_sem, b0, b1, b2, b3, numV]) rfl (hQ.out _ _ ⟨rfl, ?_⟩)
  exact cdrew (cset4 BW.out (Nat.le_refl _))
end Go.Proofs.Ytajlgpamcpgalaa
