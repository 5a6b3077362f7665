import Derived.Test.YthbhcdokjlpjbaaCodC
namespace Go.Proofs.Ythbhcdokjlpjbaa
open Go.ChangeShapes Go.WideShapes Go.ChangeAt Go.RowKit
set_option linter.unusedVariables false
set_option linter.unusedSimpArgs false
set_option maxRecDepth 100000

theorem split6_other (n x : Nat) (hn : Wd n) (hk : kindOf n (x % 2 ^ n) ≠ 1) (w : World) :
    Calls Try.prog 11 #[.int .i64 n, .int .u64 x] w fun e w' => e = .returned (.tuple #[fd0, .int .i64 0]) ∧ Below w.heap.size w w' := by
  have k1 := rkind_ok n x hn
  obtain ⟨k, hkk⟩ : ∃ k, k = kindOf n (x % 2 ^ n) := ⟨_, rfl⟩
  rw [← hkk] at k1 hk
  clear hn hkk
  refine cps fun Q hQ => ?_
  have hd : (k == 1) = false := beq_eq_false_iff_ne.2 hk
  go_enter Try.func11, Try.ntmps11
  go_wp2_with (go_at_call 27; refine (k1 _).mono ?_; rintro e w1 ⟨rfl, hb1⟩; have HB1 : Hid (Below _ _ _) := hb1; have R0 := (hb1.block w.heap.size (by simp)).trans (rownew w _ _); have b0 := rowcell R0 0; have b1 := rowcell R0 1; have b2 := rowcell R0 2; have b3 := rowcell R0 3; have b4 := rowcell R0 4; have b5 := rowcell R0 5; have b6 := rowcell R0 6; have b7 := rowcell R0 7; have bf := rowfree R0; simp only [List.getElem?_toArray, List.getElem?_cons_zero, List.getElem?_cons_succ] at b0 b1 b2 b3 b4 b5 b6 b7; clear hb1 R0)
  refine bodyPost_ret (v := .tuple #[fd0, .int .i64 0]) (by simp [results, Try.results11, go_sem, b0, b1, b2, b3, b4, b5, b6, b7, fd0]) rfl (hQ.out _ _ ⟨rfl, ?_⟩)
  exact cset8 (cthen (cmore (Below.refl _ _) _) HB1.out) (Nat.le_refl _)
theorem split6_no (n : Int) (x : Nat) (hn : isW n = false) (w : World) :
    Calls Try.prog 11 #[.int .i64 n, .int .u64 x] w fun e w' => e = .returned (.tuple #[fd0, .int .i64 2]) ∧ Below w.heap.size w w' := by
  have k1 := rkind_no n x hn
  clear hn
  refine cps fun Q hQ => ?_
  go_enter Try.func11, Try.ntmps11
  go_wp2_with (go_at_call 27; refine (k1 _).mono ?_; rintro e w1 ⟨rfl, rfl⟩)
  refine bodyPost_ret (v := .tuple #[fd0, .int .i64 2]) (by simp [results, Try.results11, go_sem, fd0]) rfl (hQ.out _ _ ⟨rfl, ?_⟩)
  exact cmore (Below.refl _ _) _
theorem row4 {w : World} {m : Nat} {u0 u1 u2 u3 v0 v1 v2 v3 : Value} {t : TypeId} (h : w.heap[m]? = some (.cells #[u0, u1, u2, u3] t (0, 0))) :
    ((((w.setCell ⟨m, 0, none⟩ v0).setCell ⟨m, 1, none⟩ v1).setCell ⟨m, 2, none⟩ v2).setCell ⟨m, 3, none⟩ v3).heap[m]? = some (.cells #[v0, v1, v2, v3] t (0, 0)) := by
  have h := rowset h 0 v0
  simp only [List.setIfInBounds_toArray, List.set_cons_zero, List.set_cons_succ] at h
  have h := rowset h 1 v1
  simp only [List.setIfInBounds_toArray, List.set_cons_zero, List.set_cons_succ] at h
  have h := rowset h 2 v2
  simp only [List.setIfInBounds_toArray, List.set_cons_zero, List.set_cons_succ] at h
  have h := rowset h 3 v3
  simp only [List.setIfInBounds_toArray, List.set_cons_zero, List.set_cons_succ] at h
  exact h
theorem cset4 {a W : World} {m : Nat} {v0 v1 v2 v3 : Value} (h : Below a.heap.size a W) (hb : a.heap.size ≤ m) :
    Below a.heap.size a ((((W.setCell ⟨m, 0, none⟩ v0).setCell ⟨m, 1, none⟩ v1).setCell ⟨m, 2, none⟩ v2).setCell ⟨m, 3, none⟩ v3) :=
  cset (cset (cset (cset h hb 0 v0) hb 1 v1) hb 2 v2) hb 3 v3
/-! ### Decode -/
def numV (k : Int) (neg : Bool) (s : Int) (f : Nat) : Value := .agg #[.int .i64 k, .bool neg, .int .i64 s, .int .u64 f]
theorem decodes6_other (n x : Nat) (hn : Wd n) (hk : kindOf n (x % 2 ^ n) ≠ 1) (w : World) :
    Calls Try.prog 16 #[.int .i64 n, .int .u64 x] w fun e w' => e = .returned (.tuple #[numV (kindOf n (x % 2 ^ n)) false 0 0, .int .i64 0]) ∧ Below w.heap.size w w' := by
  have k1 := rkind_ok n x hn
  generalize kindOf n (x % 2 ^ n) = k at *
  clear hn
  refine cps fun Q hQ => ?_
  have hd : (k == 1) = false := beq_eq_false_iff_ne.2 hk
  go_enter Try.func16, Try.ntmps16
  go_wp2_with (go_at_call 27; refine (k1 _).mono ?_; rintro e w1 ⟨rfl, hb1⟩; have hc := fun b o h => hb1.cell (p := ⟨b, o, none⟩) h; have hf := fun b o h => hb1.frozen (p := ⟨b, o, none⟩) h; have hz := hb1.size; simp at hz; have hz' : w.heap.size < w1.heap.size := hz)
  refine bodyPost_ret (v := .tuple #[numV k false 0 0, .int .i64 0]) (by simp [results, Try.results16, go_sem, hc, hz', numV]) rfl (hQ.out _ _ ⟨rfl, ?_⟩)
  exact cset4 (cthen (cmore (Below.refl _ _) _) hb1) (Nat.le_refl _)
theorem decodes6_no (n : Int) (x : Nat) (hn : isW n = false) (w : World) :
    Calls Try.prog 16 #[.int .i64 n, .int .u64 x] w fun e w' => e = .returned (.tuple #[numV 0 false 0 0, .int .i64 2]) ∧ Below w.heap.size w w' := by
  have k1 := rkind_no n x hn
  clear hn
  refine cps fun Q hQ => ?_
  go_enter Try.func16, Try.ntmps16
  go_wp2_with (go_at_call 27; refine (k1 _).mono ?_; rintro e w1 ⟨rfl, rfl⟩)
  refine bodyPost_ret (v := .tuple #[numV 0 false 0 0, .int .i64 2]) (by simp [results, Try.results16, go_sem, numV]) rfl (hQ.out _ _ ⟨rfl, ?_⟩)
  exact cmore (Below.refl _ _) _
def strLen (v : Value) : Nat := match v with | .string S => S.size | _ => 0
theorem decodes6_real (n x : Nat) (hn : Wd n) (hx : x < 2 ^ 64) (hk : kindOf n (x % 2 ^ n) = 1) (w : World) :
    Calls Try.prog 16 #[.int .i64 n, .int .u64 x] w fun e w' => e = .returned (.tuple #[numV 1 (x.testBit (n - 1)) (scaleL (strS n x)) (wordL (strS n x)), .int .i64 0]) ∧ Below w.heap.size w w' := by
  have k1 := rkind_ok n x hn
  rw [hk] at k1
  have k2 := split6_real n x hn hx hk
  have hw := wd_le hn
  have hlen := strS_length n x
  have hfl : bitsOf (fracL (strS n x)) ((restL (strS n x)).length - 2) = (restL (strS n x)).drop 2 := by
    have := bitsOf_numOf ((restL (strS n x)).drop 2)
    rw [List.length_drop] at this; exact this
  have hfb : (restL (strS n x)).length - 2 ≤ 61 := by rw [restL_length, hlen]; omega
  have hrg : -64 ≤ regL (strS n x) ∧ regL (strS n x) ≤ 64 := by
    have := runL_le (strS n x)
    unfold regL; split <;> omega
  have hex : expL (strS n x) < 4 := by
    have := numOf_lt ((restL (strS n x) ++ noughts 2).take 2)
    rw [show ((restL (strS n x) ++ noughts 2).take 2).length = 2 by simp] at this
    exact this
  have hwl : wordL (strS n x) = numOf (true :: ((restL (strS n x)).drop 2 ++ noughts (63 - ((restL (strS n x)).length - 2)))) := by
    unfold wordL
    rw [List.take_append, List.take_of_length_le (by rw [List.length_drop]; omega), take_noughts _ _ (by omega), List.length_drop]
  unfold fdV at k2
  unfold scaleL at *
  clear hn hx hk hlen hw
  generalize onesL (strS n x) = o at *
  generalize runL (strS n x) = r at *
  generalize regL (strS n x) = reg at *
  generalize expL (strS n x) = ex at *
  generalize fracL (strS n x) = fr at *
  generalize wordL (strS n x) = wd at *
  generalize hu : (restL (strS n x)).drop 2 = u at *
  generalize hub : (restL (strS n x)).length - 2 = fb at *
  generalize min (restL (strS n x)).length 2 = eb at *
  have hul : u.length = fb := by rw [← hu, ← hub, List.length_drop]
  have HU : Hid (bitsOf fr fb = u ∧ u.length = fb ∧ wd = numOf (true :: (u ++ noughts (63 - fb)))) := ⟨hfl, hul, hwl⟩
  clear hfl hwl hu hub hul
  refine cps fun Q hQ => ?_
  generalize x.testBit (n - 1) = b at *
  go_enter Try.func16, Try.ntmps16
  go_wp2_with (first
    | (go_at_call 27; refine (k1 _).mono ?_; rintro e w1 ⟨rfl, hb1⟩)
    | (go_at_call 11; refine (k2 _).mono ?_; rintro e w2 ⟨rfl, hb2⟩; have HB1 : Hid (Below _ _ _) := hb1; have HB2 : Hid (Below _ _ _) := hb2; clear hb1 hb2))
  refine (text_any fr fb (by omega) _).mono ?_
  rintro e w3 ⟨t, rfl, ht, hb3⟩
  have z1 : w.heap.size < w1.heap.size := by have := HB1.out.size; simp at this; omega
  have z2 := HB2.out.size
  have RX := (hb3.block (w2.heap.size + 1) (by simp)).trans (rownew' _ _ _ _ (by simp))
  have R0 := (hb3.block w.heap.size (by simp; omega)).trans ((Below.heap_alloc (w2.alloc _) _ _ (by simp; omega)).trans ((Below.heap_alloc w2 _ _ (by omega)).trans ((HB2.out.block _ z1).trans ((HB1.out.block _ (by simp)).trans (rownew w _ _)))))
  have BW : Below w.heap.size w w3 := cthen (cmore (cmore (cthen (cthen (cmore (Below.refl _ _) _) HB1.out) HB2.out) _) _) hb3
  have HBW : Hid (Below w.heap.size w w3) := BW
  have x0 := rowcell RX 0
  have x1 := rowcell RX 1
  have x2 := rowcell RX 2
  have x3 := rowcell RX 3
  have xf := rowfree RX
  have b0 := rowcell R0 0
  have b1 := rowcell R0 1
  have b2 := rowcell R0 2
  have b3 := rowcell R0 3
  have bf := rowfree R0
  simp only [List.getElem?_toArray, List.getElem?_cons_zero, List.getElem?_cons_succ] at x0 x1 x2 x3 b0 b1 b2 b3
  have hne1 : ¬ w2.heap.size + 1 = w.heap.size := by omega
  have hne2 : ¬ w.heap.size = w2.heap.size + 1 := by omega
  have hmw : w.heap.size ≤ w2.heap.size + 1 := by omega
  have htz := isBits_size ht
  rw [HU.out.1, HU.out.2.1] at htz
  have HT : Hid (IsBits t u) := by rw [HU.out.1] at ht; exact ht
  have h49 : (⟨#[49]⟩ : ByteArray).size = 1 := rfl
  have g1 := fun wx => run_string_add_sum (P := Try.prog) wx ⟨#[49]⟩ t (by rw [htz, h49]; omega)
  have h1z : (⟨#[49]⟩ ++ t : ByteArray).size = 1 + fb := by rw [ByteArray.size_append, htz, h49]
  have h1b : IsBits (⟨#[49]⟩ ++ t) (true :: u) := isBits_append (show IsBits ⟨#[49]⟩ [true] from rfl) HT.out
  have H1B : Hid (IsBits (⟨#[49]⟩ ++ t) (true :: u)) := h1b
  clear RX R0 BW HB1 HB2 hb3 z1 z2 k1 k2 ht h1b h49
  generalize ⟨#[49]⟩ ++ t = S1 at *
  go_wp2
  go_loop [11] (fun sv => ∃ (S : ByteArray) (j : Nat), sv = .string S ∧ S.size = 1 + fb + j ∧ 1 + fb + j ≤ 64 ∧ Hid (IsBits S (true :: (u ++ noughts j)))) (fun sv => 64 - strLen sv)
  case atStart => exact ⟨S1, 0, rfl, h1z, by omega, by show IsBits _ _; simpa using H1B.out⟩
  case round =>
    obtain ⟨S, j, rfl, hS, hj, hI⟩ := hrel
    have h48 : (⟨#[48]⟩ : ByteArray).size = 1 := rfl
    by_cases hlt : 1 + fb + j < 64
    · have g2 := fun wx => run_string_add_sum (P := Try.prog) wx S ⟨#[48]⟩ (by rw [hS, h48]; omega)
      have h2z : (S ++ ⟨#[48]⟩ : ByteArray).size = 1 + fb + (j + 1) := by rw [ByteArray.size_append, hS, h48]; omega
      have H2B : Hid (IsBits (S ++ ⟨#[48]⟩) (true :: (u ++ noughts (j + 1)))) := by
        have := isBits_append hI.out (show IsBits ⟨#[48]⟩ [false] from rfl)
        rw [show true :: (u ++ noughts j) ++ [false] = true :: (u ++ noughts (j + 1)) by simp [noughts, List.replicate_succ']] at this
        exact this
      generalize S ++ ⟨#[48]⟩ = S2 at *
      clear h48
      go_wp2
      go_round
      case rel => exact ⟨S2, j + 1, rfl, h2z, by omega, H2B.out⟩
      case measure => simp [strLen, h2z, hS]; omega
    · have hj2 : j = 63 - fb := by omega
      have hl : (true :: (u ++ noughts j)).length ≤ 64 := by rw [← isBits_size hI.out, hS]; omega
      have k5 := number_any S _ hI.out hl
      rw [show numOf (true :: (u ++ noughts j)) = wd by rw [hj2]; exact HU.out.2.2.symm] at k5
      have hS64 : S.size = 64 := by omega
      clear hS hj2 hl hI h48 hj hlt
      go_wp2_with (go_at_call 31; refine (k5 _).mono ?_; rintro e w6 ⟨rfl, rfl⟩)
      refine bodyPost_ret (v := .tuple #[numV 1 b (4 * reg + ex) wd, .int .i64 0]) (by simp [results, Try.results16, go_sem, b0, b1, b2, b3, x0, x1, x2, x3, hne1, hne2, numV]) rfl (hQ.out _ _ ⟨rfl, ?_⟩)
      exact cset4 (cset HBW.out hmw _ _) (Nat.le_refl _)
end Go.Proofs.Ythbhcdokjlpjbaa
