import Derived.Test.YtajlgpamcpgalaaJoin1
import Derived.WalkKit
import Derived.Test.YtajlgpamcpgalaaProg
import Derived.OwnWalk
import Derived.Lib.SmallJoins
namespace Go.Proofs.Ytajlgpamcpgalaa
open Go.ChangeShapes Go.WideShapes Go.ChangeAt Go.RowKit
set_option linter.unusedVariables false
set_option linter.unusedSimpArgs false
set_option maxRecDepth 100000

/-! ### what is assembled -/
theorem asmV_nat (n run x : Nat) (h : x < 4) : asmV n run (x : Int) = x / 2 ^ (2 - min (n - 2 - run) 2) := by
  unfold asmV u64Of
  obtain ⟨j, hj⟩ : ∃ j, j = 2 ^ (2 - min (n - 2 - run) 2) := ⟨_, rfl⟩
  have e : ((2 : Int) ^ (2 - min (n - 2 - run) 2)) = ((j : Nat) : Int) := by rw [hj]; simp
  rw [e, ← hj, ← Int.natCast_ediv]
  have hq := Nat.div_le_self x j
  generalize x / j = q at *
  omega
theorem asmP_parts (n : Nat) (hn : Wd n) (neg : Bool) (t : List Bool) (hl : t.length = n - 1) (ht : true ∈ t) : asmP n neg (onesL t) (runL t) (expL t : Nat) (fracL t) = patOf n neg t := by
  have hw := wd_le hn
  have hex : expL t < 4 := by
    have := numOf_lt ((restL t ++ noughts 2).take 2)
    rw [show ((restL t ++ noughts 2).take 2).length = 2 by simp] at this
    exact this
  unfold asmP
  rw [asmV_nat n _ _ hex, asm_parts n t (by omega) hl _ rfl]
  exact pat_neg n hn neg t hl ht (Nat.lt_of_lt_of_le (numOf_lt _) (Nat.pow_le_pow_right (by decide) (by omega)))
theorem asmP_cut (n : Nat) (hn : Wd n) (neg : Bool) (s : Int) (f : Nat) (hr : inR n s = true) (ones : Bool) (run F : Nat) (hk : headK (s / 4) = List.replicate run ones ++ [!ones]) (hF : F = n - 2 - run - 2) :
    run ≤ n - 1 ∧ asmP n neg ones run (((s % 4).toNat : Nat) : Int) (fieldOf f (63 - F) F) = patOf n neg (cutL n s f) := by
  have hw := wd_le hn
  obtain ⟨h1, h2⟩ := asm_cut n hn s f hr ones run _ _ F hk hF rfl rfl
  obtain ⟨ht, hl⟩ := cut_true n s f hn hr
  refine ⟨h1, ?_⟩
  unfold asmP
  rw [asmV_nat n _ _ (by omega), h2]
  exact pat_neg n hn neg (cutL n s f) hl ht (Nat.lt_of_lt_of_le (numOf_lt _) (Nat.pow_le_pow_right (by decide) (by rw [hl]; omega)))
theorem asmP_lt (n : Nat) (hn : Wd n) (neg ones : Bool) (run : Nat) (h : run ≤ n - 1) (ex : Int) (fr : Nat) : asmP n neg ones run ex fr < 2 ^ 64 := by
  have hw := wd_le hn
  unfold asmP
  split
  · exact Nat.lt_of_le_of_lt (Nat.mod_le _ _) (minusU_lt _)
  · exact Nat.lt_of_lt_of_le (numOf_lt _) (Nat.pow_le_pow_right (by decide) (by rw [asmL_length n ones run _ _ h]; omega))
/-! ### parts -/
end Go.Proofs.Ytajlgpamcpgalaa

namespace Go.Proofs.Ytajlgpamcpgalaa
open Go.ChangeShapes Go.WideShapes Go.ChangeAt Go.RowKit
set_option linter.unusedVariables false
set_option linter.unusedSimpArgs false
set_option maxRecDepth 100000

/-! ### what a width is -/
theorem bmoreS {a w : World} (h : Below a.heap.size a w) (o : Obj) : Below a.heap.size a (w.alloc o) := h.alloc h.size o
theorem bthenS {a W w : World} (h : Below a.heap.size a W) (hb : Below W.heap.size W w) : Below a.heap.size a w := h.trans (hb.mono h.size)
theorem bsetS {a W : World} {b : Nat} (h : Below a.heap.size a W) (hb : a.heap.size ≤ b) (o : Nat) (v : Value) : Below a.heap.size a (W.setCell ⟨b, o, none⟩ v) := h.setCell hb _
def shp (n m : Nat) : Value := .agg #[.int .i64 n, .int .u64 (m - 1 : Nat), .int .u64 1, .int .u64 m, .int .i64 (4 * n - 8 : Nat)]
def shp0 : Value := .agg #[.int .i64 0, .int .u64 0, .int .u64 0, .int .u64 0, .int .i64 0]
theorem two_pow_lt {n : Nat} (h : Wd n) : 1 ≤ 2 ^ (n - 1) ∧ 2 ^ (n - 1) ≤ 9223372036854775808 := by rcases h with rfl | rfl | rfl | rfl <;> decide
theorem of_no (n : Int) (hn : isW n = false) (w : World) :
    Calls Try.prog 33 #[.int .i64 n] w fun e w' => e = .returned (.tuple #[shp0, .iface 51 (.int .i64 2)]) ∧ Below w.heap.size w w' := by
  have k1 := known_any n
  rw [hn] at k1
  clear hn
  refine cps fun Q hQ => ?_
  go_enter Try.func33, Try.ntmps33
  go_wp2_with (go_at_call 58; refine (k1 _).mono ?_; rintro e w1 ⟨rfl, hb1⟩; have hc := fun b o h => hb1.cell (p := ⟨b, o, none⟩) h; have hf := fun b o h => hb1.frozen (p := ⟨b, o, none⟩) h; have hz := hb1.size; simp at hz)
  have hz' : w.heap.size < w1.heap.size := hz
  refine bodyPost_ret (v := .tuple #[shp0, .iface 51 (.int .i64 2)]) (by simp [results, Try.results33, go_sem, hc, hz', shp0]) rfl (hQ.out _ _ ⟨rfl, ?_⟩)
  exact bsetS (bsetS (bsetS (bsetS (bsetS (bthenS (bmoreS (Below.refl _ _) _) hb1) (Nat.le_refl _) _ _) (Nat.le_refl _) _ _) (Nat.le_refl _) _ _) (Nat.le_refl _) _ _) (Nat.le_refl _) _ _
theorem of_ok (n : Nat) (hn : Wd n) (w : World) :
    Calls Try.prog 33 #[.int .i64 n] w fun e w' => e = .returned (.tuple #[shp n (2 ^ (n - 1)), .nilIface]) ∧ Below w.heap.size w w' := by
  have k1 := known_any n
  rw [isW_of hn] at k1
  have hw := wd_le hn
  have k2 := nar_any n (by omega) hw.2
  have hm := two_pow_lt hn
  clear hn
  refine cps fun Q hQ => ?_
  generalize 2 ^ (n - 1) = m at *
  have e1 : (m : Int) - 1 = ((m - 1 : Nat) : Int) := by omega
  have e2 : 4 * (n : Int) - 8 = ((4 * n - 8 : Nat) : Int) := by omega
  go_enter Try.func33, Try.ntmps33
  go_wp2_with (first
    | (go_at_call 58; refine (k1 _).mono ?_; rintro e w1 ⟨rfl, hb1⟩; have hc := fun b o h => hb1.cell (p := ⟨b, o, none⟩) h; have hf := fun b o h => hb1.frozen (p := ⟨b, o, none⟩) h; have hz := hb1.size; simp at hz)
    | (go_at_call 59; refine (k2 _).mono ?_; rintro e w1 ⟨rfl, rfl⟩))
  have hz' : w.heap.size < w1.heap.size := hz
  refine bodyPost_ret (v := .tuple #[shp n m, .nilIface]) (by simp [results, Try.results33, go_sem, hc, hz', shp]) rfl (hQ.out _ _ ⟨rfl, ?_⟩)
  exact bsetS (bsetS (bsetS (bsetS (bsetS (bthenS (bmoreS (Below.refl _ _) _) hb1) (Nat.le_refl _) _ _) (Nat.le_refl _) _ _) (Nat.le_refl _) _ _) (Nat.le_refl _) _ _) (Nat.le_refl _) _ _
end Go.Proofs.Ytajlgpamcpgalaa

namespace Go.Proofs.Ytajlgpamcpgalaa
open Go.ChangeShapes Go.WideShapes Go.ChangeAt Go.RowKit
set_option linter.unusedVariables false
set_option linter.unusedSimpArgs false
set_option maxRecDepth 100000

/-! ### Join -/
end Go.Proofs.Ytajlgpamcpgalaa

namespace Go.Proofs.Ytajlgpamcpgalaa
open Go.ChangeShapes Go.WideShapes Go.ChangeAt Go.RowKit
set_option linter.unusedVariables false
set_option linter.unusedSimpArgs false
set_option maxRecDepth 100000

/-! ### sound -/
end Go.Proofs.Ytajlgpamcpgalaa

namespace Go.Proofs.Ytajlgpamcpgalaa
open Go.ChangeShapes Go.WideShapes Go.ChangeAt Go.RowKit
set_option linter.unusedVariables false
set_option linter.unusedSimpArgs false
set_option maxRecDepth 100000

/-! ### Encode -/
end Go.Proofs.Ytajlgpamcpgalaa

namespace Go.Proofs.Ytajlgpamcpgalaa
/-! ### the contracts of package codec stand in CkE (Split), CkF (Decode), CkH (Join), CkI (Encode) -/
end Go.Proofs.Ytajlgpamcpgalaa

namespace Go.Proofs.Ytajlgpamcpgalaa
open Go.ChangeShapes Go.WideShapes Go.ChangeAt Go.RowKit
set_option linter.unusedVariables false
set_option linter.unusedSimpArgs false
set_option maxRecDepth 100000

end Go.Proofs.Ytajlgpamcpgalaa

namespace Go.Proofs.Ytajlgpamcpgalaa
set_option linter.unusedVariables false
set_option linter.unusedSimpArgs false

/-! ### patterns come back (plain mathematics) -/
theorem inR_of (m : Nat) (t : List Bool) (hm : Wd m) (hl : t.length = m - 1) (ht : true ∈ t) : inR m (scaleL t) = true := by
  have hw := wd_le hm
  have hne : t ≠ [] := by rintro rfl; cases ht
  have hex : expL t < 4 := by
    have := numOf_lt ((restL t ++ noughts 2).take 2)
    rw [show ((restL t ++ noughts 2).take 2).length = 2 by simp] at this
    exact this
  refine decide_eq_true ?_
  obtain ⟨b, r, tl, rfl, htl⟩ := split_run t hne
  rw [List.length_append, List.length_replicate] at hl
  unfold scaleL regL
  rw [runL_rep b r tl htl, onesL_rep]
  rcases htl with rfl | ⟨u, rfl⟩
  · rw [List.append_nil] at *
    have hb : b = true := (List.mem_replicate.1 ht).2.symm
    subst hb
    have h0 : expL (List.replicate (r + 1) true) = 0 := by
      unfold expL; rw [restL_end]; decide
    rw [h0]
    simp at hl ⊢; omega
  · rw [List.length_cons] at hl
    generalize expL (List.replicate (r + 1) b ++ (!b) :: u) = ex at *
    cases b <;> simp <;> omega
theorem cut_home (m : Nat) (t : List Bool) (hm : Wd m) (hl : t.length = m - 1) (ht : true ∈ t) : cutL m (scaleL t) (wordL t) = t := by
  have hw := wd_le hm
  obtain ⟨z, hz, _⟩ := canon_parse t ht (by omega)
  unfold cutL
  rw [hz, List.take_append_of_le_length (by omega), List.take_of_length_le (by omega)]
theorem fits_home (m : Nat) (t : List Bool) (hm : Wd m) (hl : t.length = m - 1) (ht : true ∈ t) : fitsN m (scaleL t) (wordL t) = true := by
  unfold fitsN
  rw [cut_home m t hm hl ht]
  simp
theorem sound_home (m : Nat) (neg : Bool) (t : List Bool) (hm : Wd m) (hl : t.length = m - 1) (ht : true ∈ t) : soundN 1 neg (scaleL t) (wordL t) = true := by
  have hw := wd_le hm
  have h1 := of_decide_eq_true (inR_of m t hm hl ht)
  have h2 := wordL_bounds t
  unfold soundN
  rw [if_neg (by decide)]
  exact decide_eq_true ⟨rfl, h2.1, by omega, by omega⟩
theorem parts_none (m : Nat) (t : List Bool) (hm : Wd m) (hl : t.length = m - 1) (ht : true ∈ t) : ¬ isParts t false 0 0 0 0 0 0 := by
  rintro ⟨_, h, _⟩
  cases t with
  | nil => cases ht
  | cons b t => rw [runL] at h; omega
theorem kind_cases (m y : Nat) (hk : kindOf m y ≠ 1) : (kindOf m y = 0 ∧ y = 0) ∨ (kindOf m y = 2 ∧ y = 2 ^ (m - 1)) := by
  unfold kindOf at *
  by_cases h : y = 0
  · rw [if_pos h] at *; exact .inl ⟨rfl, h⟩
  · rw [if_neg h] at *
    by_cases h2 : y = 2 ^ (m - 1)
    · rw [if_pos h2] at *; exact .inr ⟨rfl, h2⟩
    · rw [if_neg h2] at *; exact absurd rfl hk
end Go.Proofs.Ytajlgpamcpgalaa

namespace Go.Proofs.Ytajlgpamcpgalaa
set_option linter.unusedVariables false
set_option linter.unusedSimpArgs false

/-! ### noughts behind a pattern (plain mathematics) -/
theorem wider_pows (n d : Nat) (hn : 1 ≤ n) : 2 ^ (n + d) = 2 ^ n * 2 ^ d ∧ 2 ^ (n + d - 1) = 2 ^ (n - 1) * 2 ^ d := by
  refine ⟨Nat.pow_add .., ?_⟩
  rw [← Nat.pow_add]; congr 1; omega
theorem wider_mod (n d x : Nat) (h : n + d ≤ 64) : (x * 2 ^ d % 2 ^ 64) % 2 ^ (n + d) = x % 2 ^ n * 2 ^ d := by
  rw [Nat.mod_mod_of_dvd _ (Nat.pow_dvd_pow 2 h), Nat.pow_add, Nat.mul_mod_mul_right]
theorem wider_kind (n d x : Nat) (hn : Wd n) (h : n + d ≤ 64) : kindOf (n + d) ((x * 2 ^ d % 2 ^ 64) % 2 ^ (n + d)) = kindOf n (x % 2 ^ n) := by
  have hw := wd_le hn
  rw [wider_mod n d x h]
  unfold kindOf
  rw [(wider_pows n d (by omega)).2]
  have hD : 0 < 2 ^ d := Nat.pow_pos (by decide)
  generalize 2 ^ d = D at *
  generalize x % 2 ^ n = y at *
  generalize 2 ^ (n - 1) = H at *
  by_cases h0 : y = 0
  · subst h0; rw [Nat.zero_mul, if_pos rfl, if_pos rfl]
  · have : ¬ y * D = 0 := by
      intro e
      rcases Nat.mul_eq_zero.1 e with e | e <;> omega
    rw [if_neg h0, if_neg this]
    by_cases h1 : y = H
    · subst h1; rw [if_pos rfl, if_pos rfl]
    · rw [if_neg h1, if_neg fun e => h1 (Nat.eq_of_mul_eq_mul_right hD e)]
theorem wider_top (n d x : Nat) (hn : Wd n) (h : n + d ≤ 64) : (x * 2 ^ d % 2 ^ 64).testBit (n + d - 1) = x.testBit (n - 1) := by
  have hw := wd_le hn
  rw [Nat.testBit_mod_two_pow, Nat.testBit_mul_two_pow]
  have h1 : n + d - 1 < 64 := by omega
  have h2 : d ≤ n + d - 1 := by omega
  rw [show n + d - 1 - d = n - 1 by omega]
  simp [h1, h2]
theorem wider_str (n d x : Nat) (hn : Wd n) (hm : Wd (n + d)) (hx : x < 2 ^ 64) : strS (n + d) (x * 2 ^ d % 2 ^ 64) = strS n x ++ noughts d := by
  have hw := wd_le hn
  have hv := wd_le hm
  refine numOf_inj (by rw [List.length_append, strS_length, strS_length]; simp; omega) ?_
  rw [strS_num _ _ hm (Nat.mod_lt _ (by decide)), numOf_append, numOf_noughts, strS_num n x hn hx, wider_top n d x hn hv.2, wider_mod n d x hv.2, (wider_pows n d (by omega)).1, (wider_pows n d (by omega)).2]
  simp only [List.length_replicate, Nat.add_zero]
  split
  · rw [← Nat.sub_mul, Nat.mul_mod_mul_right]
  · rw [Nat.mul_mod_mul_right]
/-- what a pattern means -/
def decK (n x : Nat) : Int := kindOf n (x % 2 ^ n)
def decB (n x : Nat) : Bool := if kindOf n (x % 2 ^ n) = 1 then x.testBit (n - 1) else false
def decS (n x : Nat) : Int := if kindOf n (x % 2 ^ n) = 1 then scaleL (strS n x) else 0
def decF (n x : Nat) : Nat := if kindOf n (x % 2 ^ n) = 1 then wordL (strS n x) else 0
theorem wider_all (n d x : Nat) (hn : Wd n) (hm : Wd (n + d)) (hx : x < 2 ^ 64) :
    decK (n + d) (x * 2 ^ d % 2 ^ 64) = decK n x ∧ decB (n + d) (x * 2 ^ d % 2 ^ 64) = decB n x ∧ decS (n + d) (x * 2 ^ d % 2 ^ 64) = decS n x ∧ decF (n + d) (x * 2 ^ d % 2 ^ 64) = decF n x := by
  have hv := wd_le hm
  have hk := wider_kind n d x hn hv.2
  unfold decK decB decS decF
  rw [hk]
  by_cases h1 : kindOf n (x % 2 ^ n) = 1
  · rw [h1]
    simp only [if_true]
    have ht := (patOf_str n x hn hx h1).1
    rw [wider_str n d x hn hm hx, wider_top n d x hn hv.2]
    have hs := same_pad (strS n x) d ht
    exact ⟨trivial, rfl, hs.scale, hs.word⟩
  · simp only [h1, if_false]
    exact ⟨trivial, trivial, trivial, trivial⟩
end Go.Proofs.Ytajlgpamcpgalaa

namespace Go.Proofs.Ytajlgpamcpgalaa
set_option linter.unusedVariables false
set_option linter.unusedSimpArgs false

/-! ### the string of an exact number as one natural number of 209 bits: it rises with the number (plain mathematics) -/
def hdA (k : Int) : Nat := if 0 ≤ k then 2 ^ 80 - 2 ^ (79 - k.toNat) else 2 ^ (79 - (-k).toNat)
def hdS (k : Int) : Nat := if 0 ≤ k then 2 ^ (78 - k.toNat) else 2 ^ (79 - (-k).toNat)
theorem hd_step (k : Int) (h1 : -79 ≤ k) (h2 : k ≤ 77) : hdA k + hdS k = hdA (k + 1) := by
  unfold hdA hdS
  by_cases h0 : 0 ≤ k
  · obtain ⟨j, rfl⟩ := Int.eq_ofNat_of_zero_le h0
    rw [if_pos h0, if_pos h0, if_pos (by omega), show (((j : Nat) : Int) + 1).toNat = j + 1 by omega, Int.toNat_natCast]
    have e : 2 ^ (79 - j) = 2 * 2 ^ (78 - j) := by rw [← Nat.pow_succ']; congr 1; omega
    have e2 : 79 - (j + 1) = 78 - j := by omega
    have e3 : 2 ^ (79 - j) ≤ 2 ^ 80 := Nat.pow_le_pow_right (by decide) (by omega)
    rw [e2]
    rw [e] at e3 ⊢
    generalize 2 ^ (78 - j) = x at *
    omega
  · rw [if_neg h0, if_neg h0]
    by_cases h3 : k = -1
    · subst h3; decide
    · rw [if_neg (by omega)]
      have e : 2 ^ (79 - (-(k + 1)).toNat) = 2 * 2 ^ (79 - (-k).toNat) := by rw [← Nat.pow_succ']; congr 1; omega
      rw [e]; omega
theorem hd_pos (k : Int) : 0 < hdS k := by unfold hdS; split <;> exact Nat.pow_pos (by decide)
theorem hd_rise (k : Int) (d : Nat) (h1 : -79 ≤ k) (h2 : k + d ≤ 77) : hdA k + hdS k ≤ hdA (k + 1 + d) := by
  induction d with
  | zero => rw [hd_step k h1 (by omega)]; simp
  | succ d ih =>
    have := ih (by omega)
    have h3 := hd_step (k + 1 + d) (by omega) (by omega)
    rw [show k + 1 + ((d + 1 : Nat) : Int) = k + 1 + d + 1 by omega, ← h3]
    omega
theorem hd_mono {k k' : Int} (h1 : -79 ≤ k) (h : k < k') (h2 : k' ≤ 78) : hdA k + hdS k ≤ hdA k' := by
  have := hd_rise k (k' - k - 1).toNat h1 (by omega)
  rw [show k + 1 + (((k' - k - 1).toNat : Nat) : Int) = k' by omega] at this
  exact this
/-- e and the digits behind the first -/
def tailN (s : Int) (M : Nat) : Nat := (s % 4).toNat * 2 ^ 127 + (M - 2 ^ 127)
def zed (s : Int) (M : Nat) : Nat := hdA (s / 4) * 2 ^ 129 + hdS (s / 4) * tailN s M
def Mant (M : Nat) : Prop := 2 ^ 127 ≤ M ∧ M < 2 ^ 128
theorem tail_lt (s : Int) (M : Nat) (h : Mant M) : tailN s M < 2 ^ 129 := by
  obtain ⟨h1, h2⟩ := h
  unfold tailN
  have : (s % 4).toNat < 4 := by omega
  generalize (s % 4).toNat = e at *
  omega
theorem zed_hi (s : Int) (M : Nat) (h : Mant M) : zed s M < (hdA (s / 4) + hdS (s / 4)) * 2 ^ 129 := by
  unfold zed
  rw [Nat.add_mul]
  exact Nat.add_lt_add_left (Nat.mul_lt_mul_of_pos_left (tail_lt s M h) (hd_pos _)) _
theorem zed_lo (s : Int) (M : Nat) : hdA (s / 4) * 2 ^ 129 ≤ zed s M := Nat.le_add_right _ _
/-- it rises with the scale, and with the digits -/
theorem zed_lt {s s' : Int} {M M' : Nat} (h : Mant M) (h' : Mant M') (h1 : -316 ≤ s) (h2 : s' < 312) (hlt : s < s' ∨ (s = s' ∧ M < M')) : zed s M < zed s' M' := by
  have key : s / 4 = s' / 4 → tailN s M < tailN s' M' → zed s M < zed s' M' := fun e ht => by
    unfold zed
    rw [e]
    exact Nat.add_lt_add_left (Nat.mul_lt_mul_of_pos_left ht (hd_pos _)) _
  rcases hlt with hlt | ⟨rfl, hM⟩
  · by_cases e : s / 4 = s' / 4
    · refine key e ?_
      unfold tailN
      obtain ⟨a1, a2⟩ := h
      obtain ⟨b1, b2⟩ := h'
      have : (s % 4).toNat + 1 ≤ (s' % 4).toNat := by omega
      generalize (s % 4).toNat = x at *
      generalize (s' % 4).toNat = y at *
      omega
    · have hk : s / 4 < s' / 4 := by omega
      have h3 := hd_mono (k := s / 4) (k' := s' / 4) (by omega) hk (by omega)
      exact Nat.lt_of_lt_of_le (zed_hi s M h) (Nat.le_trans (Nat.mul_le_mul_right _ h3) (zed_lo s' M'))
  · refine key rfl ?_
    unfold tailN
    have := h.1
    omega
theorem zed_le {s s' : Int} {M M' : Nat} (h : Mant M) (h' : Mant M') (h1 : -316 ≤ s) (h2 : s' < 312) (hle : s < s' ∨ (s = s' ∧ M ≤ M')) : zed s M ≤ zed s' M' := by
  rcases hle with hl | ⟨rfl, hM⟩
  · exact Nat.le_of_lt (zed_lt h h' h1 h2 (.inl hl))
  · rcases Nat.lt_or_ge M M' with hlt | hge
    · exact Nat.le_of_lt (zed_lt h h' h1 h2 (.inr ⟨rfl, hlt⟩))
    · have : M = M' := by omega
      subst this; exact Nat.le_refl _
theorem numOf_ones (k : Nat) : numOf (List.replicate k true) = 2 ^ k - 1 := by
  induction k with
  | zero => rfl
  | succ k ih =>
    rw [List.replicate_succ, numOf_cons, ih, List.length_replicate, Nat.pow_succ]
    have : 0 < 2 ^ k := Nat.pow_pos (by decide)
    simp; omega
/-- the string, written out, is that number -/
theorem zed_str (s : Int) (M : Nat) (D : List Bool) (hD : D.length = 127) (hM : numOf D = M - 2 ^ 127) (h1 : -76 * 4 ≤ s) (h2 : s < 76 * 4) :
    (headK (s / 4) ++ bitsOf (s % 4).toNat 2 ++ D).length ≤ 209 ∧ numOf (headK (s / 4) ++ bitsOf (s % 4).toNat 2 ++ D) * 2 ^ (209 - (headK (s / 4) ++ bitsOf (s % 4).toNat 2 ++ D).length) = zed s M := by
  have hl : (headK (s / 4) ++ bitsOf (s % 4).toNat 2 ++ D).length = (headK (s / 4)).length + 129 := by simp [bitsOf_length, hD]
  have hn : numOf (headK (s / 4) ++ bitsOf (s % 4).toNat 2 ++ D) = numOf (headK (s / 4)) * 2 ^ 129 + tailN s M := by
    rw [numOf_append, numOf_append, numOf_bits, hD, bitsOf_length, hM, Nat.mod_eq_of_lt (a := (s % 4).toNat) (by omega), Nat.add_mul, Nat.mul_assoc, ← Nat.pow_add]
    unfold tailN; omega
  rw [hl, hn]
  have hh : numOf (headK (s / 4)) * 2 ^ (80 - (headK (s / 4)).length) = hdA (s / 4) ∧ 2 ^ (80 - (headK (s / 4)).length) = hdS (s / 4) ∧ (headK (s / 4)).length ≤ 80 := by
    unfold headK hdA hdS
    by_cases h0 : 0 ≤ s / 4
    · rw [if_pos h0, if_pos h0, if_pos h0]
      obtain ⟨j, hj⟩ := Int.eq_ofNat_of_zero_le h0
      rw [hj, Int.toNat_natCast]
      have hj2 : j < 76 := by omega
      rw [numOf_append, numOf_ones, List.length_append, List.length_replicate]
      simp only [List.length_singleton]
      refine ⟨?_, by congr 1; omega, by omega⟩
      have e1 : numOf [false] = 0 := rfl
      rw [e1, Nat.add_zero, Nat.pow_one, show 80 - (j + 1 + 1) = 78 - j by omega, Nat.mul_assoc, ← Nat.pow_succ', show (78 - j).succ = 79 - j by omega, Nat.sub_mul, ← Nat.pow_add, show j + 1 + (79 - j) = 80 by omega, Nat.one_mul]
    · rw [if_neg h0, if_neg h0, if_neg h0]
      have hj2 : (-(s / 4)).toNat ≤ 76 := by omega
      rw [numOf_append, List.length_append, List.length_replicate]
      simp only [List.length_singleton]
      have e0 := numOf_noughts (-(s / 4)).toNat
      refine ⟨?_, by congr 1; omega, by omega⟩
      rw [show List.replicate (-(s / 4)).toNat false = noughts (-(s / 4)).toNat from rfl, e0, show 80 - ((-(s / 4)).toNat + 1) = 79 - (-(s / 4)).toNat by omega, show numOf [true] = 1 from rfl]
      simp
  obtain ⟨a, b, c⟩ := hh
  refine ⟨by omega, ?_⟩
  rw [show 209 - ((headK (s / 4)).length + 129) = 80 - (headK (s / 4)).length by omega, Nat.add_mul, Nat.mul_right_comm, a, b, Nat.mul_comm (tailN s M)]
  rfl
end Go.Proofs.Ytajlgpamcpgalaa

namespace Go.Proofs.Ytajlgpamcpgalaa
set_option linter.unusedVariables false
set_option linter.unusedSimpArgs false

/-! ### what is left behind a cut, and rounding: to the nearer, of a tie to the even one (plain mathematics) -/
def leftL (l : List Bool) (rest : Bool) : Nat :=
  if l.getD 0 false then (if (l.drop 1).any id || rest then 3 else 2) else (if (l.drop 1).any id || rest then 1 else 0)
def roundP (P left : Nat) : Nat := if left = 3 ∨ (left = 2 ∧ P % 2 = 1) then P + 1 else P
/-- P times 2 H and R: to the nearer -/
def rhe (H Z : Nat) : Nat := roundP (Z / (2 * H)) (if Z % (2 * H) = 0 then 0 else if Z % (2 * H) < H then 1 else if Z % (2 * H) = H then 2 else 3)
theorem roundP_le (P l : Nat) : P ≤ roundP P l ∧ roundP P l ≤ P + 1 := by unfold roundP; split <;> omega
theorem rhe_mono (H : Nat) (hH : 0 < H) {Z Z' : Nat} (h : Z ≤ Z') : rhe H Z ≤ rhe H Z' := by
  have e1 := Nat.div_add_mod Z (2 * H)
  have e2 := Nat.div_add_mod Z' (2 * H)
  have m1 := Nat.mod_lt Z (show 0 < 2 * H by omega)
  have m2 := Nat.mod_lt Z' (show 0 < 2 * H by omega)
  have hp : Z / (2 * H) ≤ Z' / (2 * H) := Nat.div_le_div_right h
  unfold rhe
  rcases Nat.lt_or_ge (Z / (2 * H)) (Z' / (2 * H)) with hlt | hge
  · exact Nat.le_trans (roundP_le _ _).2 (Nat.le_trans hlt (roundP_le _ _).1)
  · have he : Z / (2 * H) = Z' / (2 * H) := by omega
    rw [he] at e1 ⊢
    generalize Z' / (2 * H) = P at *
    generalize 2 * H * P = B at *
    generalize Z % (2 * H) = R at *
    generalize Z' % (2 * H) = R' at *
    have hR : R ≤ R' := by omega
    unfold roundP
    repeat' split
    all_goals omega
/-- on which side of the ties a number lies -/
theorem rhe_side (H Z p : Nat) (hH : 0 < H) (h : rhe H Z = p) : (Z < p * (2 * H) + H ∨ (Z = p * (2 * H) + H ∧ p % 2 = 0)) ∧ (1 ≤ p → (p - 1) * (2 * H) + H < Z ∨ ((p - 1) * (2 * H) + H = Z ∧ p % 2 = 0)) := by
  have e1 := Nat.div_add_mod Z (2 * H)
  have m1 := Nat.mod_lt Z (show 0 < 2 * H by omega)
  unfold rhe roundP at h
  rw [Nat.mul_comm] at e1
  generalize Z % (2 * H) = R at *
  generalize hP : Z / (2 * H) = P at *
  have hsub : 1 ≤ p → (p - 1) * (2 * H) + 2 * H = p * (2 * H) := fun hp => by
    rw [← Nat.succ_mul]; congr 1; omega
  by_cases hup : ((if R = 0 then 0 else if R < H then 1 else if R = H then 2 else 3) = 3 ∨ ((if R = 0 then 0 else if R < H then 1 else if R = H then 2 else 3) = 2 ∧ P % 2 = 1))
  · rw [if_pos hup] at h
    subst h
    have hRH : H ≤ R ∧ (R = H → P % 2 = 1) := by
      rcases hup with hup | ⟨hup, h2⟩
      · repeat' split at hup
        all_goals first | omega | exact ⟨by omega, by omega⟩
      · repeat' split at hup
        all_goals first | omega | exact ⟨by omega, fun _ => h2⟩
    have hs := hsub (by omega)
    rw [Nat.add_sub_cancel] at hs ⊢
    generalize (P + 1) * (2 * H) = C at *
    generalize P * (2 * H) = B at *
    refine ⟨by omega, fun _ => ?_⟩
    by_cases e : R = H
    · have := hRH.2 e; exact .inr ⟨by omega, by omega⟩
    · exact .inl (by omega)
  · rw [if_neg hup] at h
    subst h
    have hRH : R ≤ H ∧ (R = H → P % 2 = 0) := by
      refine ⟨Nat.le_of_not_lt fun hlt => hup (.inl ?_), fun e => ?_⟩
      · rw [if_neg (by omega), if_neg (by omega), if_neg (by omega)]
      · rcases Nat.mod_two_eq_zero_or_one P with h0 | h1
        · exact h0
        · exact absurd (.inr ⟨by rw [if_neg (by omega), if_neg (by omega), if_pos e], h1⟩) hup
    generalize P * (2 * H) = B at *
    refine ⟨?_, fun hp => ?_⟩
    · by_cases e : R = H
      · exact .inr ⟨by omega, hRH.2 e⟩
      · exact .inl (by omega)
    · have := hsub hp
      exact .inl (by omega)
/-! ### a string, cut -/
theorem any_num (l : List Bool) : l.any id = decide (numOf l ≠ 0) := by
  cases h : l.any id
  · refine (decide_eq_false fun hn => ?_).symm
    have := mem_of_pos l hn
    rw [List.any_eq_false] at h
    exact h true this rfl
  · refine (decide_eq_true ?_).symm
    obtain ⟨b, hb, hb2⟩ := List.any_eq_true.1 h
    have : b = true := hb2
    subst this
    have := numOf_pos l hb
    omega
theorem cut_num (l : List Bool) (m : Nat) (hm : m ≤ l.length) : numOf l = numOf (l.take m) * 2 ^ (l.length - m) + numOf (l.drop m) := by
  conv => lhs; rw [← List.take_append_drop m l]
  rw [numOf_append, List.length_drop]
/-- the first m bits, and what is left, of a string that is followed by noughts, and perhaps by something more -/
theorem cut_left (l : List Bool) (m : Nat) (rest : Bool) (hm : m < l.length) (hl : l.length ≤ 209) :
    roundP (numOf (l.take m)) (leftL (l.drop m) rest) = rhe (2 ^ (209 - m)) (2 * (numOf l * 2 ^ (209 - l.length)) + rest.toNat) := by
  have hc := cut_num l m (by omega)
  have hd : (l.drop m).length = l.length - m := List.length_drop ..
  have hlt := numOf_lt (l.drop m)
  rw [hd] at hlt
  cases hs : l.drop m with
  | nil => rw [hs] at hd; simp at hd; omega
  | cons b t =>
    rw [hs] at hd hlt hc
    have ht : t.length = l.length - m - 1 := by simp at hd; omega
    have htl := numOf_lt t
    rw [numOf_cons, ht] at hc hlt
    rw [ht] at htl
    -- powers
    have p1 : 2 ^ (l.length - m) = 2 * 2 ^ (l.length - m - 1) := by rw [← Nat.pow_succ']; congr 1; omega
    have p2 : 2 ^ (209 - m) = 2 ^ (l.length - m) * 2 ^ (209 - l.length) := by rw [← Nat.pow_add]; congr 1; omega
    have p3 : 0 < 2 ^ (l.length - m - 1) := Nat.pow_pos (by decide)
    have p4 : 0 < 2 ^ (209 - l.length) := Nat.pow_pos (by decide)
    rw [hc, p2, p1]
    rw [p1] at hlt
    have hany := any_num t
    unfold leftL
    rw [show (b :: t).getD 0 false = b from rfl, show (b :: t).drop 1 = t from rfl, hany]
    generalize numOf (l.take m) = P at *
    generalize 2 ^ (l.length - m - 1) = A at *
    generalize 2 ^ (209 - l.length) = C at *
    generalize numOf t = V at *
    -- the number is P times 2 H and R
    have hVC : V * C + C ≤ A * C := by rw [← Nat.succ_mul]; exact Nat.mul_le_mul_right _ htl
    have hV0 : V = 0 ∨ C ≤ V * C := by
      rcases Nat.eq_zero_or_pos V with h | h
      · exact .inl h
      · exact .inr (Nat.le_mul_of_pos_left _ h)
    have hAC : 0 < A * C := Nat.mul_pos p3 p4
    have hZ : 2 * ((P * (2 * A) + (b.toNat * A + V)) * C) + rest.toNat = P * (2 * (2 * A * C)) + (2 * (b.toNat * (A * C) + V * C) + rest.toNat) := by
      rw [Nat.add_mul, Nat.add_mul, Nat.mul_assoc b.toNat, Nat.mul_add, ← Nat.mul_assoc 2 (P * (2 * A)) C]
      have : 2 * (P * (2 * A)) * C = P * (2 * (2 * A * C)) := by
        simp only [Nat.mul_assoc, Nat.mul_left_comm]
      rw [this]; omega
    have hR : 2 * (b.toNat * (A * C) + V * C) + rest.toNat < 2 * (2 * A * C) := by
      rw [Nat.mul_assoc 2 A C]
      generalize A * C = D at *
      generalize V * C = E at *
      cases b <;> cases rest <;> simp <;> omega
    rw [hZ]
    unfold rhe
    have hpos : 0 < 2 * (2 * A * C) := by omega
    rw [Nat.mul_comm P, Nat.mul_add_div hpos, Nat.div_eq_of_lt hR, Nat.add_zero, Nat.mul_add_mod, Nat.mod_eq_of_lt hR]
    rw [Nat.mul_assoc 2 A C]
    congr 1
    generalize A * C = D at *
    rcases hV0 with rfl | hV0
    · cases b <;> cases rest <;> simp <;> (try omega)
      all_goals (repeat' split) <;> omega
    · have hne : V ≠ 0 := by rintro rfl; omega
      generalize hE : V * C = E at *
      cases b <;> cases rest <;> simp [hne] <;> (try omega)
      all_goals (repeat' split) <;> omega
end Go.Proofs.Ytajlgpamcpgalaa

namespace Go.Proofs.Ytajlgpamcpgalaa
set_option linter.unusedVariables false
set_option linter.unusedSimpArgs false

/-! ### an exact number's string, cut and rounded (plain mathematics) -/
def digX (hi lo : Nat) : List Bool := (bitsOf hi 64).drop 1 ++ bitsOf lo 64
def strX (s : Int) (hi lo : Nat) : List Bool := headK (s / 4) ++ bitsOf (s % 4).toNat 2 ++ digX hi lo
def manX (hi lo : Nat) : Nat := hi * 18446744073709551616 + lo
structure WordsX (hi lo : Nat) : Prop where
  top : 9223372036854775808 ≤ hi
  hi64 : hi < 18446744073709551616
  lo64 : lo < 18446744073709551616
theorem WordsX.mant {hi lo : Nat} (h : WordsX hi lo) : Mant (manX hi lo) := by
  obtain ⟨a, b, c⟩ := h
  unfold Mant manX
  have e1 : (2 : Nat) ^ 127 = 9223372036854775808 * 18446744073709551616 := by decide
  have e2 : (2 : Nat) ^ 128 = 18446744073709551616 * 18446744073709551616 := by decide
  omega
theorem digX_length (hi lo : Nat) : (digX hi lo).length = 127 := by simp [digX, bitsOf_length]
theorem digX_num {hi lo : Nat} (h : WordsX hi lo) : numOf (digX hi lo) = manX hi lo - 2 ^ 127 := by
  obtain ⟨a, b, c⟩ := h
  have h1 := top_word hi a b
  have h2 : numOf (bitsOf hi 64) = hi := by rw [numOf_bits]; exact Nat.mod_eq_of_lt b
  rw [h1, numOf_cons] at h2
  have h3 : ((bitsOf hi 64).drop 1).length = 63 := by rw [List.length_drop, bitsOf_length]
  rw [h3] at h2
  have h4 : numOf (bitsOf lo 64) = lo := by rw [numOf_bits]; exact Nat.mod_eq_of_lt c
  unfold digX manX
  rw [numOf_append, bitsOf_length, h4]
  have e1 : (2 : Nat) ^ 127 = 9223372036854775808 * 18446744073709551616 := by decide
  have e2 : (2 : Nat) ^ 64 = 18446744073709551616 := by decide
  have e3 : (2 : Nat) ^ 63 = 9223372036854775808 := by decide
  rw [e3] at h2
  simp only [Bool.toNat_true, Nat.one_mul] at h2
  generalize numOf ((bitsOf hi 64).drop 1) = x at *
  rw [e1, e2]
  omega
/-- is nothing left behind the first digit? -/
def justX (hi lo : Nat) (rest : Bool) : Bool := !rest && !(digX hi lo).any id
theorem justX_iff {hi lo : Nat} (h : WordsX hi lo) (rest : Bool) : justX hi lo rest = true ↔ rest = false ∧ manX hi lo = 2 ^ 127 := by
  unfold justX
  rw [any_num, digX_num h]
  have := h.mant.1
  cases rest <;> simp
  omega
/-- the scales that are neither at the greatest value nor at the least -/
def midX (n : Nat) (s : Int) (just : Bool) : Prop := s < 4 * n - 8 ∧ 8 - 4 * (n : Int) ≤ s ∧ ¬ (s = 8 - 4 * n ∧ just = true)
def cutX (n : Nat) (s : Int) (hi lo : Nat) (rest : Bool) : Nat × Nat :=
  if 4 * (n : Int) - 8 ≤ s then (2 ^ (n - 1) - 1, 0)
  else if s < 8 - 4 * (n : Int) ∨ (s = 8 - 4 * n ∧ justX hi lo rest = true) then (1, 0)
  else (numOf ((strX s hi lo).take (n - 1)), leftL ((strX s hi lo).drop (n - 1)) rest)
def rndX (n : Nat) (s : Int) (hi lo : Nat) (rest : Bool) : Nat := roundP (cutX n s hi lo rest).1 (cutX n s hi lo rest).2
def zX (s : Int) (hi lo : Nat) (rest : Bool) : Nat := 2 * zed s (manX hi lo) + rest.toNat
theorem numOf_false (t : List Bool) (h : false ∈ t) : numOf t + 2 ≤ 2 ^ t.length := by
  induction t with
  | nil => cases h
  | cons b t ih =>
    rw [numOf_cons, List.length_cons, Nat.pow_succ]
    have hlt := numOf_lt t
    have hp : 0 < 2 ^ t.length := Nat.pow_pos (by decide)
    cases b
    · simp; omega
    · have := ih (by simpa using h)
      simp; omega
theorem strX_mid (n : Nat) (s : Int) (hi lo : Nat) (hn : Wd n) (h1 : s < 4 * n - 8) (h2 : 8 - 4 * (n : Int) ≤ s) :
    true ∈ (strX s hi lo).take (n - 1) ∧ false ∈ (strX s hi lo).take (n - 1) ∧ ((strX s hi lo).take (n - 1)).length = n - 1 ∧ n - 1 < (strX s hi lo).length := by
  have hw := wd_le hn
  have hlen : 128 < (strX s hi lo).length := by
    unfold strX
    obtain ⟨b, r, hh, _⟩ := headK_form (s / 4)
    rw [hh]; simp [bitsOf_length, digX_length]
  have key : ∀ (b : Bool) (j : Nat) (R : List Bool), strX s hi lo = List.replicate (j + 1) b ++ (!b) :: R → j + 1 ≤ n - 2 → true ∈ (strX s hi lo).take (n - 1) ∧ false ∈ (strX s hi lo).take (n - 1) := by
    intro b j R e hj
    rw [e, List.take_append, List.length_replicate, show n - 1 - (j + 1) = (n - 1 - (j + 1) - 1) + 1 by omega, List.take_succ_cons, List.take_of_length_le (by rw [List.length_replicate]; omega)]
    cases b
    · exact ⟨List.mem_append_right _ (List.mem_cons_self ..), List.mem_append_left _ (by simp)⟩
    · exact ⟨List.mem_append_left _ (by simp), List.mem_append_right _ (List.mem_cons_self ..)⟩
  have hk : true ∈ (strX s hi lo).take (n - 1) ∧ false ∈ (strX s hi lo).take (n - 1) := by
    obtain ⟨b, r, hh, hk⟩ := headK_form (s / 4)
    refine key b r (bitsOf (s % 4).toNat 2 ++ digX hi lo) (by unfold strX; rw [hh]; simp) ?_
    cases b <;> simp at hk <;> omega
  exact ⟨hk.1, hk.2, by rw [List.length_take]; omega, by omega⟩
/-- in the middle the rounded pattern is the number's string, rounded -/
theorem rnd_mid (n : Nat) (s : Int) (hi lo : Nat) (rest : Bool) (hn : Wd n) (h : WordsX hi lo) (hm : midX n s (justX hi lo rest)) :
    rndX n s hi lo rest = rhe (2 ^ (210 - n)) (zX s hi lo rest) ∧ 1 ≤ rndX n s hi lo rest ∧ rndX n s hi lo rest ≤ 2 ^ (n - 1) - 1 := by
  have hw := wd_le hn
  obtain ⟨h1, h2, h3⟩ := hm
  obtain ⟨t1, t2, t3, t4⟩ := strX_mid n s hi lo hn h1 h2
  have hc : cutX n s hi lo rest = (numOf ((strX s hi lo).take (n - 1)), leftL ((strX s hi lo).drop (n - 1)) rest) := by
    unfold cutX
    rw [if_neg (by omega), if_neg (by rintro (h | h); omega; exact h3 h)]
  have p1 := numOf_pos _ t1
  have p2 := numOf_false _ t2
  rw [t3] at p2
  obtain ⟨z1, z2⟩ := zed_str s (manX hi lo) (digX hi lo) (digX_length hi lo) (digX_num h) (by omega) (by omega)
  have hcl := cut_left (strX s hi lo) (n - 1) rest t4 z1
  unfold rndX
  rw [hc]
  have hr := roundP_le (numOf ((strX s hi lo).take (n - 1))) (leftL ((strX s hi lo).drop (n - 1)) rest)
  refine ⟨?_, Nat.le_trans p1 hr.1, Nat.le_trans hr.2 (by omega)⟩
  show roundP _ _ = _
  rw [hcl, show 209 - (n - 1) = 210 - n by omega]
  unfold zX strX
  rw [z2]
theorem rnd_range (n : Nat) (s : Int) (hi lo : Nat) (rest : Bool) (hn : Wd n) (h : WordsX hi lo) : 1 ≤ rndX n s hi lo rest ∧ rndX n s hi lo rest ≤ 2 ^ (n - 1) - 1 := by
  obtain ⟨H, e1, e2, e3, _⟩ := wd_pows hn
  by_cases hm : midX n s (justX hi lo rest)
  · exact (rnd_mid n s hi lo rest hn h hm).2
  · unfold rndX cutX
    rw [e2]
    by_cases c1 : 4 * (n : Int) - 8 ≤ s
    · rw [if_pos c1]; simp only [roundP]; simp; omega
    · rw [if_neg c1]
      have c2 : s < 8 - 4 * (n : Int) ∨ (s = 8 - 4 * n ∧ justX hi lo rest = true) := by
        unfold midX at hm
        by_cases c3 : s < 8 - 4 * (n : Int)
        · exact .inl c3
        · refine .inr ?_
          by_cases c4 : s = 8 - 4 * n ∧ justX hi lo rest = true
          · exact c4
          · exact absurd ⟨by omega, by omega, c4⟩ hm
      rw [if_pos c2]; simp only [roundP]; simp; omega
theorem rnd_top (n : Nat) (s : Int) (hi lo : Nat) (rest : Bool) (c : 4 * (n : Int) - 8 ≤ s) : rndX n s hi lo rest = 2 ^ (n - 1) - 1 := by
  unfold rndX cutX; rw [if_pos c]; rfl
theorem rnd_low (n : Nat) (s : Int) (hi lo : Nat) (rest : Bool) (c0 : ¬ 4 * (n : Int) - 8 ≤ s) (c : s < 8 - 4 * (n : Int) ∨ (s = 8 - 4 * n ∧ justX hi lo rest = true)) : rndX n s hi lo rest = 1 := by
  unfold rndX cutX; rw [if_neg c0, if_pos c]; rfl
theorem mid_or (n : Nat) (s : Int) (j : Bool) : midX n s j ∨ 4 * (n : Int) - 8 ≤ s ∨ (¬ 4 * (n : Int) - 8 ≤ s ∧ (s < 8 - 4 * (n : Int) ∨ (s = 8 - 4 * n ∧ j = true))) := by
  unfold midX
  by_cases c1 : 4 * (n : Int) - 8 ≤ s
  · exact .inr (.inl c1)
  · by_cases c3 : s < 8 - 4 * (n : Int)
    · exact .inr (.inr ⟨c1, .inl c3⟩)
    · by_cases c4 : s = 8 - 4 * n ∧ j = true
      · exact .inr (.inr ⟨c1, .inr c4⟩)
      · exact .inl ⟨by omega, by omega, c4⟩
theorem mid_rise (n : Nat) (s s' : Int) (hi lo hi' lo' : Nat) (hn : Wd n) (h : WordsX hi lo) (h' : WordsX hi' lo') (hm : midX n s (justX hi lo false)) (hm' : midX n s' (justX hi' lo' false))
    (hle : s < s' ∨ (s = s' ∧ manX hi lo ≤ manX hi' lo')) : rndX n s hi lo false ≤ rndX n s' hi' lo' false := by
  have hw := wd_le hn
  rw [(rnd_mid n s hi lo false hn h hm).1, (rnd_mid n s' hi' lo' false hn h' hm').1]
  obtain ⟨a1, a2, _⟩ := hm
  obtain ⟨b1, b2, _⟩ := hm'
  have hz := zed_le h.mant h'.mant (by omega) (by omega) hle
  refine rhe_mono _ (Nat.pow_pos (by decide)) ?_
  unfold zX
  exact Nat.add_le_add_right (Nat.mul_le_mul_left 2 hz) _
/-- of two numbers the greater one is not rounded to less -/
theorem rnd_rise (n : Nat) (s s' : Int) (hi lo hi' lo' : Nat) (hn : Wd n) (h : WordsX hi lo) (h' : WordsX hi' lo')
    (hle : s < s' ∨ (s = s' ∧ manX hi lo ≤ manX hi' lo')) : rndX n s hi lo false ≤ rndX n s' hi' lo' false := by
  have r1 := rnd_range n s hi lo false hn h
  have r2 := rnd_range n s' hi' lo' false hn h'
  rcases mid_or n s (justX hi lo false) with hm | c1 | ⟨c0, c1⟩
  · rcases mid_or n s' (justX hi' lo' false) with hm' | c2 | ⟨c3, c2⟩
    · exact mid_rise n s s' hi lo hi' lo' hn h h' hm hm' hle
    · rw [rnd_top n s' hi' lo' false c2]; exact r1.2
    · exfalso
      obtain ⟨a1, a2, a3⟩ := hm
      have hs : s = 8 - 4 * (n : Int) ∧ s' = s := by
        clear r1 r2 a3 h h'
        rcases hle with hl | ⟨hl, _⟩ <;> rcases c2 with c2 | ⟨c2, _⟩ <;> omega
      have hM : manX hi lo ≤ manX hi' lo' := by
        clear r1 r2 a3 h h'
        rcases hle with hl | ⟨_, hl⟩
        · omega
        · exact hl
      have hj : justX hi' lo' false = true := by
        rcases c2 with c2 | ⟨_, c2⟩
        · exfalso; clear r1 r2 a3 h h'; omega
        · exact c2
      have e1 := ((justX_iff h' false).1 hj).2
      have h3 := h.mant.1
      exact a3 ⟨hs.1, (justX_iff h false).2 ⟨rfl, Nat.le_antisymm (e1 ▸ hM) h3⟩⟩
  · have c2 : 4 * (n : Int) - 8 ≤ s' := by clear r1 r2 h h'; omega
    rw [rnd_top n s' hi' lo' false c2]; exact r1.2
  · rw [rnd_low n s hi lo false c0 c1]; exact r2.1
end Go.Proofs.Ytajlgpamcpgalaa

namespace Go.Proofs.Ytajlgpamcpgalaa
set_option linter.unusedVariables false
set_option linter.unusedSimpArgs false

/-! ### what the program cuts off a number's string, and what it finds behind (plain mathematics) -/
def cmpX (left : Nat) (rest : Bool) : Nat := if left = 2 ^ 127 then (if rest then 3 else 2) else if 2 ^ 127 < left then 3 else if left = 0 ∧ rest = false then 0 else 1
theorem left_num (l : List Bool) (j : Nat) (rest : Bool) (hj : 1 ≤ j) (hj2 : j ≤ 128) (hl : l.length = j + 1) :
    leftL l rest = cmpX (numOf l / 2 * 2 ^ (128 - j)) (decide (numOf l % 2 = 1) || rest) := by
  cases l with
  | nil => simp at hl
  | cons b t =>
    have ht : t.length = j := by simpa using hl
    have hV := numOf_lt t
    rw [ht] at hV
    rw [numOf_cons, ht]
    have hany := any_num t
    unfold leftL cmpX
    rw [show (b :: t).getD 0 false = b from rfl, show (b :: t).drop 1 = t from rfl, hany]
    have p1 : 2 ^ j = 2 * 2 ^ (j - 1) := by rw [← Nat.pow_succ']; congr 1; omega
    have p2 : 2 ^ (j - 1) * 2 ^ (128 - j) = 2 ^ 127 := by rw [← Nat.pow_add]; congr 1; omega
    have p3 : 0 < 2 ^ (128 - j) := Nat.pow_pos (by decide)
    rw [p1] at hV ⊢
    generalize numOf t = V at *
    generalize 2 ^ (j - 1) = A at *
    generalize 2 ^ (128 - j) = C at *
    have hh : (b.toNat * (2 * A) + V) / 2 = b.toNat * A + V / 2 := by cases b <;> simp <;> omega
    have hm : (b.toNat * (2 * A) + V) % 2 = V % 2 := by cases b <;> simp <;> omega
    rw [hh, hm, Nat.add_mul, Nat.mul_assoc b.toNat A C, ← p2]
    have hlt : V / 2 * C < A * C := Nat.mul_lt_mul_of_pos_right (by omega) p3
    have h0 : V / 2 * C = 0 ↔ V / 2 = 0 := by
      constructor
      · intro h; rcases Nat.mul_eq_zero.1 h with h | h <;> omega
      · intro h; rw [h]; simp
    generalize V / 2 * C = X at *
    generalize A * C = D at *
    cases b
    · simp only [Bool.toNat_false, Nat.zero_mul, Nat.zero_add]
      have n1 : ¬ X = D := by omega
      have n2 : ¬ D < X := by omega
      rw [if_neg n1, if_neg n2]
      by_cases hx : X = 0
      · have := h0.1 hx
        rcases Nat.mod_two_eq_zero_or_one V with hv | hv
        · have : V = 0 := by omega
          subst this
          cases rest <;> simp [hx]
        · have : V ≠ 0 := by omega
          cases rest <;> simp [hx, hv, this]
      · have : ¬ V / 2 = 0 := fun h => hx (h0.2 h)
        have : V ≠ 0 := by omega
        cases rest <;> simp [hx, this]
    · simp only [Bool.toNat_true, Nat.one_mul]
      by_cases hx : X = 0
      · have := h0.1 hx
        have n1 : D + X = D := by omega
        rw [if_pos n1]
        rcases Nat.mod_two_eq_zero_or_one V with hv | hv
        · have : V = 0 := by omega
          subst this
          cases rest <;> simp
        · have : V ≠ 0 := by omega
          cases rest <;> simp [hv, this]
      · have : ¬ V / 2 = 0 := fun h => hx (h0.2 h)
        have : V ≠ 0 := by omega
        have n1 : ¬ D + X = D := by omega
        have n2 : D < D + X := by omega
        rw [if_neg n1, if_pos n2]
        cases rest <;> simp [this]
theorem headK_num (k : Int) : numOf (headK k) = (if 0 ≤ k then 2 ^ (k.toNat + 2) - 2 else 1) ∧ (headK k).length = (if 0 ≤ k then k.toNat + 2 else (1 - k).toNat) := by
  unfold headK
  by_cases h : 0 ≤ k
  · rw [if_pos h, if_pos h, if_pos h, numOf_append, numOf_ones]
    have : 1 ≤ 2 ^ (k.toNat + 1) := Nat.one_le_two_pow
    rw [Nat.pow_succ 2 (k.toNat + 1)]
    refine ⟨?_, by simp⟩
    show (2 ^ (k.toNat + 1) - 1) * 2 ^ 1 + 0 = _
    omega
  · rw [if_neg h, if_neg h, if_neg h, numOf_append, show List.replicate (-k).toNat false = noughts (-k).toNat from rfl, numOf_noughts]
    refine ⟨by simp; rfl, ?_⟩
    simp [noughts]; omega
def tailL (s : Int) (hi lo : Nat) : List Bool := bitsOf (s % 4).toNat 2 ++ digX hi lo
theorem tailL_num (s : Int) {hi lo : Nat} (h : WordsX hi lo) : (tailL s hi lo).length = 129 ∧ numOf (tailL s hi lo) = tailN s (manX hi lo) := by
  unfold tailL
  refine ⟨by simp [bitsOf_length, digX_length], ?_⟩
  rw [numOf_append, digX_num h, digX_length, numOf_bits, Nat.mod_eq_of_lt (by omega)]
  rfl
theorem room_pows (room : Nat) (h : room ≤ 64) : 2 ^ (129 - room) = 2 * 2 ^ (128 - room) ∧ 2 ^ 128 = 2 ^ (128 - room) * 2 ^ room := by
  refine ⟨?_, ?_⟩
  · rw [← Nat.pow_succ']; congr 1; omega
  · rw [← Nat.pow_add]; congr 1; omega
/-- the first n - 1 bits of the string, and what is left, from the run and from what stands behind it but for the last bit -/
theorem cut_parts (n : Nat) (s : Int) (hi lo : Nat) (rest : Bool) (h : WordsX hi lo) (hr : (headK (s / 4)).length ≤ n - 1) (hn : n ≤ 64) (B room : Nat)
    (hB : B = tailN s (manX hi lo) / 2) (hroom : room = n - 1 - (headK (s / 4)).length) :
    numOf ((strX s hi lo).take (n - 1)) = numOf (headK (s / 4)) * 2 ^ room + B / 2 ^ (128 - room) ∧ B / 2 ^ (128 - room) < 2 ^ room ∧ leftL ((strX s hi lo).drop (n - 1)) rest = cmpX (B * 2 ^ room % 2 ^ 128) (decide (lo % 2 = 1) || rest) := by
  obtain ⟨t1, t2⟩ := tailL_num s h
  have e : strX s hi lo = headK (s / 4) ++ tailL s hi lo := by unfold strX tailL; simp
  have hr2 : room ≤ 64 := by omega
  have e1 : (strX s hi lo).take (n - 1) = headK (s / 4) ++ (tailL s hi lo).take room := by
    rw [e, List.take_append, List.take_of_length_le hr, ← hroom]
  have e2 : (strX s hi lo).drop (n - 1) = (tailL s hi lo).drop room := by
    rw [e, List.drop_append, List.drop_of_length_le hr, ← hroom, List.nil_append]
  have hc := cut_num (tailL s hi lo) room (by omega)
  have hlt := numOf_lt ((tailL s hi lo).drop room)
  rw [List.length_drop, t1] at hlt
  rw [t1, t2] at hc
  have hpar : tailN s (manX hi lo) % 2 = lo % 2 := by
    unfold tailN manX
    have := h.top
    rw [show (2 : Nat) ^ 127 = 2 * 85070591730234615865843651857942052864 by decide]
    omega
  obtain ⟨p1, p3⟩ := room_pows room hr2
  have hdl : ((tailL s hi lo).drop room).length = (128 - room) + 1 := by rw [List.length_drop, t1]; omega
  have htl : ((tailL s hi lo).take room).length = room := by rw [List.length_take, t1]; omega
  have hlf := left_num ((tailL s hi lo).drop room) (128 - room) rest (by omega) (by omega) hdl
  have htk := numOf_lt ((tailL s hi lo).take room)
  rw [htl] at htk
  rw [e1, e2, hlf, numOf_append, htl, p3, Nat.mul_mod_mul_right, show 128 - (128 - room) = room by omega]
  rw [p1] at hc hlt
  generalize numOf ((tailL s hi lo).drop room) = R at *
  generalize numOf ((tailL s hi lo).take room) = P at *
  generalize tailN s (manX hi lo) = T at *
  have hpos : 0 < 2 ^ (128 - room) := Nat.pow_pos (by decide)
  generalize 2 ^ (128 - room) = G at *
  have hB2 : B = P * G + R / 2 := by
    have : P * (2 * G) = 2 * (P * G) := by rw [Nat.mul_left_comm]
    omega
  have hRG : R / 2 < G := by omega
  have d1 : B / G = P := by rw [hB2, Nat.mul_comm, Nat.mul_add_div hpos, Nat.div_eq_of_lt hRG]; rfl
  have d2 : B % G = R / 2 := by rw [hB2, Nat.mul_comm, Nat.mul_add_mod, Nat.mod_eq_of_lt hRG]
  have hR2 : R % 2 = lo % 2 := by
    have : P * (2 * G) = 2 * (P * G) := by rw [Nat.mul_left_comm]
    omega
  rw [d1, d2, hR2]
  exact ⟨rfl, htk, rfl⟩
/-- within the ends the run has room -/
theorem head_room (n : Nat) (s : Int) (hn : Wd n) (h1 : s < 4 * n - 8) (h2 : 8 - 4 * (n : Int) ≤ s) : (headK (s / 4)).length ≤ n - 1 ∧ 2 ≤ (headK (s / 4)).length := by
  have hw := wd_le hn
  rw [(headK_num (s / 4)).2]
  split <;> omega
end Go.Proofs.Ytajlgpamcpgalaa

namespace Go.Proofs.Ytajlgpamcpgalaa
open Go.ChangeShapes Go.WideShapes Go.ChangeAt Go.RowKit
set_option linter.unusedVariables false
set_option linter.unusedSimpArgs false
set_option maxRecDepth 100000

/-! ### the document's round: which Exacts are sound; what is left -/
def exV (k : Int) (neg : Bool) (s : Int) (hi lo : Nat) (rest : Bool) : Value := .agg #[.int .i64 k, .bool neg, .int .i64 s, .int .u64 hi, .int .u64 lo, .bool rest]
def soundX (k : Int) (neg : Bool) (s : Int) (hi lo : Nat) (rest : Bool) : Bool :=
  if k = 0 ∨ k = 2 then decide (neg = false ∧ s = 0 ∧ hi = 0 ∧ lo = 0 ∧ rest = false) else decide (k = 1 ∧ 9223372036854775808 ≤ hi ∧ -1099511627776 ≤ s ∧ s ≤ 1099511627776)
set_option maxHeartbeats 1000000 in
theorem sound7_any (k : Int) (neg : Bool) (s : Int) (hi lo : Nat) (rest : Bool) (w : World) :
    Calls Try.prog 22 #[exV k neg s hi lo rest] w fun e w' => e = .returned (.bool (soundX k neg s hi lo rest)) ∧ Below w.heap.size w w' := by
  unfold exV soundX
  refine cps fun Q hQ => ?_
  by_cases h0 : k = 0
  · subst h0
    go_enter Try.func22, Try.ntmps22
    go_wp2
    all_goals exact hQ.out _ _ ⟨ret_b (by simp_all), cmore (Below.refl _ _) _⟩
  · by_cases h2 : k = 2
    · subst h2
      go_enter Try.func22, Try.ntmps22
      go_wp2
      all_goals exact hQ.out _ _ ⟨ret_b (by simp_all), cmore (Below.refl _ _) _⟩
    · by_cases h1 : k = 1
      · subst h1
        go_enter Try.func22, Try.ntmps22
        go_wp2
        all_goals exact hQ.out _ _ ⟨ret_b (by simp_all <;> omega), cmore (Below.refl _ _) _⟩
      · have d0 : (k == 0) = false := beq_eq_false_iff_ne.2 h0
        have d1 : (k == 1) = false := beq_eq_false_iff_ne.2 h1
        have d2 : (k == 2) = false := beq_eq_false_iff_ne.2 h2
        have HN : Hid (¬ k = 0 ∧ ¬ k = 1 ∧ ¬ k = 2) := ⟨h0, h1, h2⟩
        clear h0 h1 h2
        go_enter Try.func22, Try.ntmps22
        go_wp2
        all_goals exact hQ.out _ _ ⟨ret_b (by have := HN.out; simp_all), cmore (Below.refl _ _) _⟩
theorem some7_any (s : ByteArray) (l : List Bool) (hs : IsBits s l) (hl : l.length ≤ 1048576) (w : World) :
    Calls Try.prog 37 #[.string s] w fun e w' => e = .returned (.bool (l.any id)) ∧ ∃ q, w' = w.drewN q := by
  have hsz := isBits_size hs
  obtain ⟨n, hn⟩ : ∃ n, n = l.length := ⟨_, rfl⟩
  have HN : Hid (n = l.length) := hn
  rw [← hn] at hsz hl
  clear hn
  have heq : Hid (∀ k (hk : k < n), (((s[k]'(by omega)).toNat : Int) == 49) = l.getD k false) := fun k hk => by
    rw [isBits_get hs k (by omega)]
    cases l.getD k false <;> rfl
  clear hs
  refine cps fun Q hQ => ?_
  go_enter Try.func37, Try.ntmps37
  go_wp2
  go_loopw [3] (fun i wr => ∃ k q : Nat, k ≤ n ∧ i = .int .i64 k ∧ Hid (∀ j, j < k → l.getD j false = false) ∧ wr = w.drewN q) (fun i _ => n - (intOf i).toNat)
  case atStart => exact ⟨0, 0, Nat.zero_le _, rfl, fun j hj => absurd hj (by omega), rfl⟩
  case round =>
    obtain ⟨k, q, hk, rfl, hsame, rfl⟩ := hrel
    by_cases hlt : k < n
    · have hlt' : (k : Int) < n := by omega
      have he := heq.out k hlt
      cases hb : l.getD k false with
      | true =>
        rw [hb] at he
        have hR : l.any id = true := by
          refine List.any_eq_true.2 ⟨true, ?_, rfl⟩
          have h2 : k < l.length := by rw [← HN.out]; exact hlt
          rw [List.getD_eq_getElem?_getD, List.getElem?_eq_getElem h2] at hb
          have : l[k] = true := hb
          rw [← this]; exact List.getElem_mem _
        rw [hR] at hQ
        clear hR hb
        go_wp2
        exact hQ.out _ _ ⟨rfl, _, rfl⟩
      | false =>
        rw [hb] at he
        have HBK : Hid (l.getD k false = false) := hb
        clear hb
        go_wp2
        go_roundw
        case rel => exact ⟨k + 1, _, by omega, by go_num, fun j hj => by rcases Nat.lt_succ_iff_lt_or_eq.1 hj with c | c; exact hsame.out j c; subst c; exact HBK.out, rfl⟩
        case measure => simp [intOf]; omega
    · have hkn : k = n := by omega
      have hR : l.any id = false := by
        refine List.any_eq_false.2 fun x hx => ?_
        obtain ⟨j, hj, e⟩ := List.getElem_of_mem hx
        have := hsame.out j (by rw [hkn, HN.out]; exact hj)
        rw [List.getD_eq_getElem?_getD, List.getElem?_eq_getElem hj] at this
        have h2 : l[j] = false := this
        rw [← e, h2]; decide
      rw [hR] at hQ
      clear hR hkn
      go_wp2
      exact hQ.out _ _ ⟨rfl, _, rfl⟩
theorem left7_any (s : ByteArray) (l : List Bool) (rest : Bool) (hs : IsBits s l) (h0 : 0 < l.length) (hl : l.length ≤ 1048576) (w : World) :
    Calls Try.prog 40 #[.string s, .bool rest] w fun e w' => e = .returned (.int .i64 (leftL l rest : Nat)) ∧ Below w.heap.size w w' := by
  have hsz := isBits_size hs
  obtain ⟨n, hn⟩ : ∃ n, n = l.length := ⟨_, rfl⟩
  have HN : Hid (n = l.length) := hn
  rw [← hn] at hsz hl h0
  have hi : IsBits (s.extract 1 n) (l.drop 1) := by
    have := isBits_extract hs 1 n
    rw [List.take_of_length_le (by rw [List.length_drop, hn]; exact Nat.le_refl _)] at this
    exact this
  have r1 := slice_l (P := Try.prog) (s := s) Try.underlying9 1 1 rfl (by omega)
  rw [hsz] at r1
  have k1 := some7_any _ _ hi (by rw [List.length_drop, ← hn]; omega)
  clear hn
  have hs0 : (((s[0]'(by omega)).toNat : Int) == 49) = l.getD 0 false := by
    rw [isBits_get hs 0 (by omega)]; cases l.getD 0 false <;> rfl
  have hne : s.toList.isEmpty = false := by
    rw [← decide_eq_emptyBytes]
    refine decide_eq_false fun h => ?_
    rw [h] at hsz
    have : (0 : Nat) = n := hsz
    omega
  unfold leftL
  generalize s.extract 1 n = s1 at *
  generalize (l.drop 1).any id = more at *
  generalize l.getD 0 false = b at *
  clear hi hs
  refine cps fun Q hQ => ?_
  cases b <;> cases more <;> cases rest
  all_goals
    go_enter Try.func40, Try.ntmps40
    go_wp2_with (go_at_call 37; refine (k1 _).mono ?_; rintro e w1 ⟨rfl, q1, rfl⟩)
    first
      | exact hQ.out _ _ ⟨rfl, below_drewN (Below.refl _ _) _⟩
      | skip
end Go.Proofs.Ytajlgpamcpgalaa

namespace Go.Proofs.Ytajlgpamcpgalaa
open Go.ChangeShapes Go.WideShapes Go.ChangeAt Go.RowKit
set_option linter.unusedVariables false
set_option linter.unusedSimpArgs false
set_option maxRecDepth 100000

/-! ### the document's Cut -/
theorem cut7_no (n : Int) (k : Int) (neg : Bool) (s : Int) (hi lo : Nat) (rest : Bool) (hn : isW n = false) (w : World) :
    Calls Try.prog 16 #[.int .i64 n, exV k neg s hi lo rest] w fun e w' => e = .returned (.tuple #[.int .u64 0, .int .i64 0, .int .i64 2]) ∧ Below w.heap.size w w' := by
  have k1 := is_width n
  rw [hn] at k1
  have k2 := sound7_any k neg s hi lo rest
  generalize soundX k neg s hi lo rest = so at *
  unfold exV at *
  clear hn
  refine cps fun Q hQ => ?_
  go_enter Try.func16, Try.ntmps16
  go_wp2_with (first
    | (go_at_call 20; refine (k1 _).mono ?_; rintro e w1 ⟨rfl, hw⟩; rw [hw]; clear hw w1)
    | (go_at_call 22; refine (k2 _).mono ?_; rintro e w2 ⟨rfl, hb2⟩))
  go_ret3
  exact hQ.out _ _ ⟨rfl, cthen (cmore (Below.refl _ _) _) hb2⟩
theorem cut7_bad (n : Nat) (k : Int) (neg : Bool) (s : Int) (hi lo : Nat) (rest : Bool) (hn : Wd n) (hs : soundX k neg s hi lo rest = false) (w : World) :
    Calls Try.prog 16 #[.int .i64 n, exV k neg s hi lo rest] w fun e w' => e = .returned (.tuple #[.int .u64 0, .int .i64 0, .int .i64 1]) ∧ Below w.heap.size w w' := by
  have k1 := is_width n
  rw [isW_of hn] at k1
  have k2 := sound7_any k neg s hi lo rest
  rw [hs] at k2
  unfold exV at *
  clear hn hs
  refine cps fun Q hQ => ?_
  go_enter Try.func16, Try.ntmps16
  go_wp2_with (first
    | (go_at_call 20; refine (k1 _).mono ?_; rintro e w1 ⟨rfl, hw⟩; rw [hw]; clear hw w1)
    | (go_at_call 22; refine (k2 _).mono ?_; rintro e w2 ⟨rfl, hb2⟩))
  go_ret3
  exact hQ.out _ _ ⟨rfl, cthen (cmore (Below.refl _ _) _) hb2⟩
theorem cut7_zero (n : Nat) (hn : Wd n) (w : World) :
    Calls Try.prog 16 #[.int .i64 n, exV 0 false 0 0 0 false] w fun e w' => e = .returned (.tuple #[.int .u64 0, .int .i64 0, .int .i64 0]) ∧ Below w.heap.size w w' := by
  have k1 := is_width n
  rw [isW_of hn] at k1
  have k2 := sound7_any 0 false 0 0 0 false
  rw [show soundX 0 false 0 0 0 false = true from rfl] at k2
  unfold exV at *
  clear hn
  refine cps fun Q hQ => ?_
  go_enter Try.func16, Try.ntmps16
  go_wp2_with (first
    | (go_at_call 20; refine (k1 _).mono ?_; rintro e w1 ⟨rfl, hw⟩; rw [hw]; clear hw w1)
    | (go_at_call 22; refine (k2 _).mono ?_; rintro e w2 ⟨rfl, hb2⟩; have hc := fun b o h => hb2.cell (p := ⟨b, o, none⟩) h; have z1 : w.heap.size < w2.heap.size := (by have := hb2.size; simp at this; omega)))
  go_ret3
  exact hQ.out _ _ ⟨rfl, cthen (cmore (Below.refl _ _) _) hb2⟩
theorem cut7_nar (n : Nat) (hn : Wd n) (w : World) :
    Calls Try.prog 16 #[.int .i64 n, exV 2 false 0 0 0 false] w fun e w' => e = .returned (.tuple #[.int .u64 (2 ^ (n - 1) : Nat), .int .i64 0, .int .i64 0]) ∧ Below w.heap.size w w' := by
  have k1 := is_width n
  rw [isW_of hn] at k1
  have k2 := sound7_any 2 false 0 0 0 false
  rw [show soundX 2 false 0 0 0 false = true from rfl] at k2
  have hw := wd_le hn
  have k3 := power_sub n (by omega) hw.2
  generalize 2 ^ (n - 1) = pw at *
  unfold exV at *
  clear hn
  refine cps fun Q hQ => ?_
  go_enter Try.func16, Try.ntmps16
  go_wp2_with (first
    | (go_at_call 20; refine (k1 _).mono ?_; rintro e w1 ⟨rfl, hw⟩; rw [hw]; clear hw w1)
    | (go_at_call 35; refine (k3 _).mono ?_; rintro e w1 ⟨rfl, hw⟩; rw [hw]; clear hw w1)
    | (go_at_call 22; refine (k2 _).mono ?_; rintro e w2 ⟨rfl, hb2⟩; have hc := fun b o h => hb2.cell (p := ⟨b, o, none⟩) h; have z1 : w.heap.size < w2.heap.size := (by have := hb2.size; simp at this; omega)))
  go_ret3
  exact hQ.out _ _ ⟨rfl, cthen (cmore (Below.refl _ _) _) hb2⟩
set_option maxHeartbeats 8000000 in
theorem cut7_real (n : Nat) (neg : Bool) (s : Int) (hi lo : Nat) (rest : Bool) (hn : Wd n) (hs : soundX 1 neg s hi lo rest = true) (h : WordsX hi lo) (w : World) :
    Calls Try.prog 16 #[.int .i64 n, exV 1 neg s hi lo rest] w fun e w' => e = .returned (.tuple #[.int .u64 (cutX n s hi lo rest).1, .int .i64 (cutX n s hi lo rest).2, .int .i64 0]) ∧ Below w.heap.size w w' := by
  have k1 := is_width n
  rw [isW_of hn] at k1
  have k2 := sound7_any 1 neg s hi lo rest
  rw [hs] at k2
  have hw := wd_le hn
  have k3 := power_sub n (by omega) hw.2
  have k6 := text_any hi 64 (by decide)
  have k7 := text_any lo 64 (by decide)
  unfold exV at *
  refine cps fun Q hQ => ?_
  go_enter Try.func16, Try.ntmps16
  go_wp2_with (first
    | (go_at_call 20; refine (k1 _).mono ?_; rintro e w1 ⟨rfl, hw⟩; rw [hw]; clear hw w1)
    | (go_at_call 22; refine (k2 _).mono ?_; rintro e w2 ⟨rfl, hb2⟩; have R0 := (hb2.block w.heap.size (by simp)).trans (rownew w _ _); have z1 : w.heap.size < w2.heap.size := (by have := hb2.size; simp at this; omega); have b0 := rowcell R0 0; have b1 := rowcell R0 1; have b2 := rowcell R0 2; have b3 := rowcell R0 3; have b4 := rowcell R0 4; have b5 := rowcell R0 5; simp only [List.getElem?_toArray, List.getElem?_cons_zero, List.getElem?_cons_succ] at b0 b1 b2 b3 b4 b5; have HR0 : Hid _ := R0; have HB2 : Hid (Below _ _ _) := hb2; clear R0 hb2))
  have cls : ∀ W, Below w2.heap.size w2 W → W.cell? ⟨w.heap.size, 3, none⟩ = some (.int .u64 hi) ∧ W.cell? ⟨w.heap.size, 4, none⟩ = some (.int .u64 lo) := fun W hW =>
    ⟨(hW.cell (p := ⟨w.heap.size, 3, none⟩) z1).trans b3, (hW.cell (p := ⟨w.heap.size, 4, none⟩) z1).trans b4⟩
  refine wpC_region (fun W => W.cell? ⟨w.heap.size, 3, none⟩ = some (.int .u64 hi) ∧ W.cell? ⟨w.heap.size, 4, none⟩ = some (.int .u64 lo)) (by kernel_rfl) ?_
  refine wpC_take 0 (v := ?_) rfl (by kernel_rfl) (fun _ _ _ h => h) (by kernel_rfl) ?_ ?_; rotate_left; · (intro wC hC; obtain ⟨c1, c2⟩ := hC; go_simp <;> with_reducible rfl)
  refine wpC_take 1 (v := ?_) rfl (by kernel_rfl) (fun _ _ _ h => h) (by kernel_rfl) ?_ ?_; rotate_left; · (intro wC hC; obtain ⟨c1, c2⟩ := hC; go_simp <;> with_reducible rfl)
  refine wpC_take 4 (v := ?_) rfl (by kernel_rfl) (fun _ _ _ h => h) (by kernel_rfl) ?_ ?_; rotate_left; · (intro wC hC; obtain ⟨c1, c2⟩ := hC; go_simp <;> with_reducible rfl)
  refine wpC_take 5 (v := ?_) rfl (by kernel_rfl) (fun _ _ _ h => h) (by kernel_rfl) ?_ ?_; rotate_left; · (intro wC hC; obtain ⟨c1, c2⟩ := hC; go_simp <;> with_reducible rfl)
  refine wpC_step 2 rfl (by kernel_rfl) (by kernel_rfl) (cls _ (cdrew (Below.refl _ _))) (fun K hK => ?_)
  go_simp
  go_wp2_with ((go_at_call 36; refine (k6 _).mono ?_; rintro e w3 ⟨u1, rfl, hu1, hb3⟩))
  try (refine hK _ _ ?_; clear hK K)
  have B3 := cthen (cdrew (Below.refl w2.heap.size w2)) hb3
  have hz1 := isBits_size hu1
  rw [bitsOf_length] at hz1
  have g1 := slice_l (P := Try.prog) (s := u1) Try.underlying9 1 1 rfl (by omega)
  rw [hz1] at g1
  have hi1 : IsBits (u1.extract 1 64) ((bitsOf hi 64).drop 1) := by
    have := isBits_extract hu1 1 64
    rw [List.take_of_length_le (by rw [List.length_drop, bitsOf_length]; exact Nat.le_refl _)] at this
    exact this
  generalize u1.extract 1 64 = u2 at *
  refine wpC_take 3 (v := ?_) rfl (by kernel_rfl) (fun _ _ _ h => h) (by kernel_rfl) ?_ ?_; rotate_left; · (intro wC hC; obtain ⟨c1, c2⟩ := hC; go_simp <;> with_reducible rfl)
  refine wpC_step 6 rfl (by kernel_rfl) (by kernel_rfl) (cls _ B3) (fun K hK => ?_)
  go_simp
  go_wp2_with ((go_at_call 36; refine (k7 _).mono ?_; rintro e w4 ⟨u3, rfl, hu3, hb4⟩))
  try (refine hK _ _ ?_; clear hK K)
  have B4 := cthen B3 hb4
  have hi3 : IsBits (u2 ++ u3) (digX hi lo) := isBits_append hi1 hu3
  have hz3 := isBits_size hi3
  rw [digX_length] at hz3
  have hzz : u2.size + u3.size ≤ 9223372036854775807 := by rw [ByteArray.size_append] at hz3; omega
  have g2 := fun wx => run_string_add_sum (P := Try.prog) wx u2 u3 hzz
  have HI3 : Hid _ := hi3
  have HB4 : Hid (Below w2.heap.size w2 w4) := B4
  refine wpC_take 7 (v := ?_) rfl (by kernel_rfl) (fun _ _ _ h => h) (by kernel_rfl) ?_ ?_; rotate_left; · (intro wC hC; obtain ⟨c1, c2⟩ := hC; go_simp <;> with_reducible rfl)
  generalize u2 ++ u3 = dg at *
  refine wpC_step 8 rfl (by kernel_rfl) (by kernel_rfl) (cls _ B4) (fun K hK => ?_)
  go_simp
  try (refine hK _ _ ?_; clear hK K)
  refine wpC_done (by kernel_rfl) (cls _ B4) ?_
  have k8 := fun w => some7_any dg (digX hi lo) HI3.out (by rw [digX_length]; decide) w
  have n0 := (HB4.out.block w.heap.size z1).trans HR0.out
  have a2 := rowcell n0 2
  have a5 := rowcell n0 5
  simp only [List.getElem?_toArray, List.getElem?_cons_zero, List.getElem?_cons_succ] at a2 a5
  have HN0 : Hid _ := n0
  have z4 : w.heap.size < w4.heap.size := Nat.lt_of_lt_of_le z1 HB4.out.size
  have HBW : Hid (Below w.heap.size w w4) := cthen (cthen (cmore (Below.refl _ _) _) HB2.out) HB4.out
  clear n0 b0 b1 b2 b3 b4 b5 B3 B4 cls g1 g2 hi1 hi3 hzz hu1 hu3 hb3 hb4 k1 k2 k6 k7 HR0 hs hz1
  obtain ⟨an, han⟩ : ∃ an, an = (digX hi lo).any id := ⟨_, rfl⟩
  rw [← han] at k8
  have HJ : Hid (justX hi lo rest = (!rest && !an)) := by show _ = _; rw [han]; rfl
  clear han
  by_cases ct : 4 * (n : Int) - 8 ≤ s
  · have hc : cutX n s hi lo rest = (2 ^ (n - 1) - 1, 0) := by unfold cutX; rw [if_pos ct]
    rw [hc] at hQ
    have hp1 : 1 ≤ 2 ^ (n - 1) := Nat.one_le_two_pow
    have hp2 : ((2 ^ (n - 1) : Nat) : Int) - 1 = ((2 ^ (n - 1) - 1 : Nat) : Int) := by omega
    have hp3 : IntKind.u64.wrap ((2 ^ (n - 1) - 1 : Nat) : Int) = ((2 ^ (n - 1) - 1 : Nat) : Int) := by
      have : 2 ^ (n - 1) ≤ 2 ^ 63 := Nat.pow_le_pow_right (by decide) (by omega)
      rw [IntKind.wrap_u64]; omega
    generalize 2 ^ (n - 1) = pw at *
    clear hc hn h
    cases rest
    · go_wp2_with (first
        | (go_at_call 37; refine (k8 _).mono ?_; rintro e w5 ⟨rfl, q5, rfl⟩)
        | (go_at_call 35; refine (k3 _).mono ?_; rintro e w1 ⟨rfl, hw⟩; rw [hw]; clear hw w1))
      all_goals
        go_ret3
        exact hQ.out _ _ ⟨rfl, below_drewN HBW.out _⟩
    · go_wp2_with (go_at_call 35; refine (k3 _).mono ?_; rintro e w1 ⟨rfl, hw⟩; rw [hw]; clear hw w1)
      all_goals
        go_ret3
        exact hQ.out _ _ ⟨rfl, HBW.out⟩
  · have et : decide (4 * (n : Int) - 8 ≤ s) = false := decide_eq_false ct
    by_cases cl : s < 8 - 4 * (n : Int) ∨ (s = 8 - 4 * n ∧ justX hi lo rest = true)
    · have hc : cutX n s hi lo rest = (1, 0) := by unfold cutX; rw [if_neg ct, if_pos cl]
      rw [hc] at hQ
      rw [HJ.out] at cl
      clear hc hn h k3
      by_cases c1 : s < 8 - 4 * (n : Int)
      · have e1 : decide (s < -(4 * (n : Int) - 8)) = true := decide_eq_true (by omega)
        cases rest
        · go_wp2_with (go_at_call 37; refine (k8 _).mono ?_; rintro e w5 ⟨rfl, q5, rfl⟩)
          all_goals
            go_ret3
            exact hQ.out _ _ ⟨rfl, below_drewN HBW.out _⟩
        · go_wp2
          all_goals
            go_ret3
            exact hQ.out _ _ ⟨rfl, HBW.out⟩
      · have c2 : s = 8 - 4 * (n : Int) ∧ rest = false ∧ an = false := by
          rcases cl with h | ⟨h1, h2⟩
          · exact absurd h c1
          · cases rest <;> cases an <;> simp_all
        obtain ⟨c3, rfl, rfl⟩ := c2
        have e1 : decide (s < -(4 * (n : Int) - 8)) = false := decide_eq_false (by omega)
        have e2 : (s == -(4 * (n : Int) - 8)) = true := beq_iff_eq.2 (by omega)
        clear cl
        go_wp2_with (go_at_call 37; refine (k8 _).mono ?_; rintro e w5 ⟨rfl, q5, rfl⟩)
        all_goals
          go_ret3
          exact hQ.out _ _ ⟨rfl, below_drewN HBW.out _⟩
    · have hc : cutX n s hi lo rest = (numOf ((strX s hi lo).take (n - 1)), leftL ((strX s hi lo).drop (n - 1)) rest) := by unfold cutX; rw [if_neg ct, if_neg cl]
      rw [hc] at hQ
      rw [HJ.out] at cl
      have hr1 : ¬ s < 8 - 4 * (n : Int) := fun c => cl (.inl c)
      have e1 : decide (s < -(4 * (n : Int) - 8)) = false := decide_eq_false (by omega)
      have k5 := head6_any s (by omega) (by omega)
      obtain ⟨t1, t2, t3, t4⟩ := strX_mid n s hi lo hn (by omega) (by omega)
      obtain ⟨L, hL⟩ : ∃ L, L = strX s hi lo := ⟨_, rfl⟩
      have HL : Hid (L = headK (s / 4) ++ bitsOf (s % 4).toNat 2 ++ digX hi lo) := hL
      have hlen : (strX s hi lo).length ≤ 209 := (zed_str s (manX hi lo) (digX hi lo) (digX_length hi lo) (digX_num h) (by omega) (by omega)).1
      rw [← hL] at t3 t4 hlen hQ
      have HT : Hid ((L.take (n - 1)).length = n - 1 ∧ n - 1 < L.length ∧ L.length ≤ 209) := ⟨t3, t4, hlen⟩
      clear hc hn h k3 t1 t2 t3 t4 hL hlen hr1
      by_cases c2 : s = 8 - 4 * (n : Int)
      · have e2 : (s == -(4 * (n : Int) - 8)) = true := beq_iff_eq.2 (by omega)
        have hj : rest = true ∨ an = true := by
          cases rest <;> cases an <;> simp_all
        clear cl c2
        cases rest
        · have han2 : an = true := by simpa using hj
          subst han2
          clear hj
          go_wp2_with (first
            | (go_at_call 37; refine (k8 _).mono ?_; rintro e w5 ⟨rfl, q5, rfl⟩)
            | (go_at_call 38; refine (k5 _).mono ?_; rintro e w6 ⟨u4, rfl, hu4, hb6⟩; have HU4 : Hid _ := isBits_append hu4 HI3.out; have hz4 := isBits_size HU4.out; rw [← HL.out] at hz4; have n6 := (hb6.block w.heap.size z4).trans HN0.out; have f5 := rowcell n6 5; simp only [List.getElem?_toArray, List.getElem?_cons_zero, List.getElem?_cons_succ] at f5; have z6 : w.heap.size < w6.heap.size := (Nat.lt_of_lt_of_le z4 hb6.size); have HB6 : Hid (Below _ _ _) := hb6; have hsz6 : u4.size + dg.size ≤ 9223372036854775807 := (by have := HT.out.2.2; rw [ByteArray.size_append] at hz4; omega); have g6 := (fun wx => run_string_add_sum (P := Try.prog) wx u4 dg hsz6); clear n6 hu4 hb6))
          have hsz4 := isBits_size HU4.out
          rw [← HL.out] at hsz4
          have HU5 : Hid (IsBits (u4 ++ dg) L) := by show IsBits _ _; rw [HL.out]; exact HU4.out
          generalize u4 ++ dg = st at *
          have hst : n ≤ st.size := by rw [hsz4]; have := HT.out.2.1; omega
          have g3 := slice_h (P := Try.prog) (s := st) Try.underlying9 ((n : Int) - 1) (n - 1) (by omega) (by omega)
          have g4 := slice_l (P := Try.prog) (s := st) Try.underlying9 ((n : Int) - 1) (n - 1) (by omega) (by omega)
          have k9 := number_any _ (L.take (n - 1)) (by have := isBits_extract HU5.out 0 (n - 1); exact this) (by rw [HT.out.1]; omega)
          have k10 := left7_any (st.extract (n - 1) st.size) (L.drop (n - 1)) false (by
            have := isBits_extract HU5.out (n - 1) st.size
            rw [List.take_of_length_le (by rw [List.length_drop, hsz4]; exact Nat.le_refl _)] at this
            exact this) (by rw [List.length_drop]; have := HT.out.2.1; omega) (by rw [List.length_drop]; have := HT.out.2.2; omega)
          have q1 : IntKind.i64.wrap ((n : Int) - 1) = (n : Int) - 1 := wrapI (by omega)
          clear hsz4 hz4
          have k9' : ∀ w, Calls Try.prog 39 #[.string (st.extract 0 (n - 1))] w fun e w' => e = .returned (.int .u64 (numOf (L.take (n - 1)) : Nat)) ∧ w' = w := k9
          clear k9
          generalize numOf (L.take (n - 1)) = P at *
          generalize leftL (L.drop (n - 1)) false = lf at *
          have cl6 : ∀ W, Below w6.heap.size w6 W → W.cell? ⟨w.heap.size, 5, none⟩ = some (.bool false) := fun W hW => (hW.cell (p := ⟨w.heap.size, 5, none⟩) z6).trans f5
          refine wpC_region (fun W => W.cell? ⟨w.heap.size, 5, none⟩ = some (.bool false)) (by kernel_rfl) ?_
          refine wpC_take 0 (v := ?_) rfl (by kernel_rfl) (fun _ _ _ h => h) (by kernel_rfl) ?_ ?_; rotate_left; · (intro wC hC; obtain c1 := hC; go_simp <;> with_reducible rfl)
          refine wpC_take 1 (v := ?_) rfl (by kernel_rfl) (fun _ _ _ h => h) (by kernel_rfl) ?_ ?_; rotate_left; · (intro wC hC; obtain c1 := hC; go_simp <;> with_reducible rfl)
          refine wpC_take 2 (v := ?_) rfl (by kernel_rfl) (fun _ _ _ h => h) (by kernel_rfl) ?_ ?_; rotate_left; · (intro wC hC; obtain c1 := hC; go_simp <;> with_reducible rfl)
          refine wpC_take 3 (v := ?_) rfl (by kernel_rfl) (fun _ _ _ h => h) (by kernel_rfl) ?_ ?_; rotate_left; · (intro wC hC; obtain c1 := hC; go_simp <;> with_reducible rfl)
          refine wpC_take 5 (v := ?_) rfl (by kernel_rfl) (fun _ _ _ h => h) (by kernel_rfl) ?_ ?_; rotate_left; · (intro wC hC; obtain c1 := hC; go_simp <;> with_reducible rfl)
          refine wpC_take 6 (v := ?_) rfl (by kernel_rfl) (fun _ _ _ h => h) (by kernel_rfl) ?_ ?_; rotate_left; · (intro wC hC; obtain c1 := hC; go_simp <;> with_reducible rfl)
          refine wpC_take 7 (v := ?_) rfl (by kernel_rfl) (fun _ _ _ h => h) (by kernel_rfl) ?_ ?_; rotate_left; · (intro wC hC; obtain c1 := hC; go_simp <;> with_reducible rfl)
          refine wpC_take 8 (v := ?_) rfl (by kernel_rfl) (fun _ _ _ h => h) (by kernel_rfl) ?_ ?_; rotate_left; · (intro wC hC; obtain c1 := hC; go_simp <;> with_reducible rfl)
          refine wpC_take 9 (v := ?_) rfl (by kernel_rfl) (fun _ _ _ h => h) (by kernel_rfl) ?_ ?_; rotate_left; · (intro wC hC; obtain c1 := hC; go_simp <;> with_reducible rfl)
          refine wpC_take 10 (v := ?_) rfl (by kernel_rfl) (fun _ _ _ h => h) (by kernel_rfl) ?_ ?_; rotate_left; · (intro wC hC; obtain c1 := hC; go_simp <;> with_reducible rfl)
          refine wpC_step 4 rfl (by kernel_rfl) (by kernel_rfl) (cl6 _ (cdrew (Below.refl _ _))) (fun K hK => ?_)
          go_simp
          go_wp2_with ((go_at_call 39; refine (k9' _).mono ?_; rintro e w8 ⟨rfl, hw8⟩; rw [hw8]; clear hw8 w8))
          try (refine hK _ _ ?_; clear hK K)
          refine wpC_step 11 rfl (by kernel_rfl) (by kernel_rfl) (cl6 _ (cdrew (Below.refl _ _))) (fun K hK => ?_)
          go_simp
          go_wp2_with ((go_at_call 40; refine (k10 _).mono ?_; rintro e w9 ⟨rfl, hb9⟩))
          try (refine hK _ _ ?_; clear hK K)
          have B9 := cthen (cdrew (Below.refl w6.heap.size w6)) hb9
          refine wpC_step 12 rfl (by kernel_rfl) (by kernel_rfl) (cl6 _ B9) (fun K hK => ?_)
          go_simp
          try (refine hK _ _ ?_; clear hK K)
          refine wpC_step 13 rfl (by kernel_rfl) (by kernel_rfl) (cl6 _ B9) (fun K hK => ?_)
          go_simp
          try (refine hK _ _ ?_; clear hK K)
          refine wpC_step 14 rfl (by kernel_rfl) (by kernel_rfl) (cl6 _ B9) (fun K hK => ?_)
          go_simp
          try (refine hK _ _ ?_; clear hK K)
          refine wpC_done (by kernel_rfl) (cl6 _ B9) ?_
          go_wp2_with fail
          go_ret3
          exact hQ.out _ _ ⟨rfl, cthen (cthen (below_drewN HBW.out q5) HB6.out) B9⟩
        · clear hj
          go_wp2_with (go_at_call 38; refine (k5 _).mono ?_; rintro e w6 ⟨u4, rfl, hu4, hb6⟩; have HU4 : Hid _ := isBits_append hu4 HI3.out; have hz4 := isBits_size HU4.out; rw [← HL.out] at hz4; have n6 := (hb6.block w.heap.size z4).trans HN0.out; have f5 := rowcell n6 5; simp only [List.getElem?_toArray, List.getElem?_cons_zero, List.getElem?_cons_succ] at f5; have z6 : w.heap.size < w6.heap.size := (Nat.lt_of_lt_of_le z4 hb6.size); have HB6 : Hid (Below _ _ _) := hb6; have hsz6 : u4.size + dg.size ≤ 9223372036854775807 := (by have := HT.out.2.2; rw [ByteArray.size_append] at hz4; omega); have g6 := (fun wx => run_string_add_sum (P := Try.prog) wx u4 dg hsz6); clear n6 hu4 hb6)
          have hsz4 := isBits_size HU4.out
          rw [← HL.out] at hsz4
          have HU5 : Hid (IsBits (u4 ++ dg) L) := by show IsBits _ _; rw [HL.out]; exact HU4.out
          generalize u4 ++ dg = st at *
          have hst : n ≤ st.size := by rw [hsz4]; have := HT.out.2.1; omega
          have g3 := slice_h (P := Try.prog) (s := st) Try.underlying9 ((n : Int) - 1) (n - 1) (by omega) (by omega)
          have g4 := slice_l (P := Try.prog) (s := st) Try.underlying9 ((n : Int) - 1) (n - 1) (by omega) (by omega)
          have k9 := number_any _ (L.take (n - 1)) (by have := isBits_extract HU5.out 0 (n - 1); exact this) (by rw [HT.out.1]; omega)
          have k10 := left7_any (st.extract (n - 1) st.size) (L.drop (n - 1)) true (by
            have := isBits_extract HU5.out (n - 1) st.size
            rw [List.take_of_length_le (by rw [List.length_drop, hsz4]; exact Nat.le_refl _)] at this
            exact this) (by rw [List.length_drop]; have := HT.out.2.1; omega) (by rw [List.length_drop]; have := HT.out.2.2; omega)
          have q1 : IntKind.i64.wrap ((n : Int) - 1) = (n : Int) - 1 := wrapI (by omega)
          clear hsz4 hz4
          have k9' : ∀ w, Calls Try.prog 39 #[.string (st.extract 0 (n - 1))] w fun e w' => e = .returned (.int .u64 (numOf (L.take (n - 1)) : Nat)) ∧ w' = w := k9
          clear k9
          generalize numOf (L.take (n - 1)) = P at *
          generalize leftL (L.drop (n - 1)) true = lf at *
          have cl6 : ∀ W, Below w6.heap.size w6 W → W.cell? ⟨w.heap.size, 5, none⟩ = some (.bool true) := fun W hW => (hW.cell (p := ⟨w.heap.size, 5, none⟩) z6).trans f5
          refine wpC_region (fun W => W.cell? ⟨w.heap.size, 5, none⟩ = some (.bool true)) (by kernel_rfl) ?_
          refine wpC_take 0 (v := ?_) rfl (by kernel_rfl) (fun _ _ _ h => h) (by kernel_rfl) ?_ ?_; rotate_left; · (intro wC hC; obtain c1 := hC; go_simp <;> with_reducible rfl)
          refine wpC_take 1 (v := ?_) rfl (by kernel_rfl) (fun _ _ _ h => h) (by kernel_rfl) ?_ ?_; rotate_left; · (intro wC hC; obtain c1 := hC; go_simp <;> with_reducible rfl)
          refine wpC_take 2 (v := ?_) rfl (by kernel_rfl) (fun _ _ _ h => h) (by kernel_rfl) ?_ ?_; rotate_left; · (intro wC hC; obtain c1 := hC; go_simp <;> with_reducible rfl)
          refine wpC_take 3 (v := ?_) rfl (by kernel_rfl) (fun _ _ _ h => h) (by kernel_rfl) ?_ ?_; rotate_left; · (intro wC hC; obtain c1 := hC; go_simp <;> with_reducible rfl)
          refine wpC_take 5 (v := ?_) rfl (by kernel_rfl) (fun _ _ _ h => h) (by kernel_rfl) ?_ ?_; rotate_left; · (intro wC hC; obtain c1 := hC; go_simp <;> with_reducible rfl)
          refine wpC_take 6 (v := ?_) rfl (by kernel_rfl) (fun _ _ _ h => h) (by kernel_rfl) ?_ ?_; rotate_left; · (intro wC hC; obtain c1 := hC; go_simp <;> with_reducible rfl)
          refine wpC_take 7 (v := ?_) rfl (by kernel_rfl) (fun _ _ _ h => h) (by kernel_rfl) ?_ ?_; rotate_left; · (intro wC hC; obtain c1 := hC; go_simp <;> with_reducible rfl)
          refine wpC_take 8 (v := ?_) rfl (by kernel_rfl) (fun _ _ _ h => h) (by kernel_rfl) ?_ ?_; rotate_left; · (intro wC hC; obtain c1 := hC; go_simp <;> with_reducible rfl)
          refine wpC_take 9 (v := ?_) rfl (by kernel_rfl) (fun _ _ _ h => h) (by kernel_rfl) ?_ ?_; rotate_left; · (intro wC hC; obtain c1 := hC; go_simp <;> with_reducible rfl)
          refine wpC_take 10 (v := ?_) rfl (by kernel_rfl) (fun _ _ _ h => h) (by kernel_rfl) ?_ ?_; rotate_left; · (intro wC hC; obtain c1 := hC; go_simp <;> with_reducible rfl)
          refine wpC_step 4 rfl (by kernel_rfl) (by kernel_rfl) (cl6 _ (cdrew (Below.refl _ _))) (fun K hK => ?_)
          go_simp
          go_wp2_with ((go_at_call 39; refine (k9' _).mono ?_; rintro e w8 ⟨rfl, hw8⟩; rw [hw8]; clear hw8 w8))
          try (refine hK _ _ ?_; clear hK K)
          refine wpC_step 11 rfl (by kernel_rfl) (by kernel_rfl) (cl6 _ (cdrew (Below.refl _ _))) (fun K hK => ?_)
          go_simp
          go_wp2_with ((go_at_call 40; refine (k10 _).mono ?_; rintro e w9 ⟨rfl, hb9⟩))
          try (refine hK _ _ ?_; clear hK K)
          have B9 := cthen (cdrew (Below.refl w6.heap.size w6)) hb9
          refine wpC_step 12 rfl (by kernel_rfl) (by kernel_rfl) (cl6 _ B9) (fun K hK => ?_)
          go_simp
          try (refine hK _ _ ?_; clear hK K)
          refine wpC_step 13 rfl (by kernel_rfl) (by kernel_rfl) (cl6 _ B9) (fun K hK => ?_)
          go_simp
          try (refine hK _ _ ?_; clear hK K)
          refine wpC_step 14 rfl (by kernel_rfl) (by kernel_rfl) (cl6 _ B9) (fun K hK => ?_)
          go_simp
          try (refine hK _ _ ?_; clear hK K)
          refine wpC_done (by kernel_rfl) (cl6 _ B9) ?_
          go_wp2_with fail
          go_ret3
          exact hQ.out _ _ ⟨rfl, cthen (cthen HBW.out HB6.out) B9⟩
      · have e2 : (s == -(4 * (n : Int) - 8)) = false := beq_eq_false_iff_ne.2 (by omega)
        clear cl c2
        cases rest
        · go_wp2_with (first
            | (go_at_call 37; refine (k8 _).mono ?_; rintro e w5 ⟨rfl, q5, rfl⟩)
            | (go_at_call 38; refine (k5 _).mono ?_; rintro e w6 ⟨u4, rfl, hu4, hb6⟩; have HU4 : Hid _ := isBits_append hu4 HI3.out; have hz4 := isBits_size HU4.out; rw [← HL.out] at hz4; have n6 := (hb6.block w.heap.size z4).trans HN0.out; have f5 := rowcell n6 5; simp only [List.getElem?_toArray, List.getElem?_cons_zero, List.getElem?_cons_succ] at f5; have z6 : w.heap.size < w6.heap.size := (Nat.lt_of_lt_of_le z4 hb6.size); have HB6 : Hid (Below _ _ _) := hb6; have hsz6 : u4.size + dg.size ≤ 9223372036854775807 := (by have := HT.out.2.2; rw [ByteArray.size_append] at hz4; omega); have g6 := (fun wx => run_string_add_sum (P := Try.prog) wx u4 dg hsz6); clear n6 hu4 hb6))
          have hsz4 := isBits_size HU4.out
          rw [← HL.out] at hsz4
          have HU5 : Hid (IsBits (u4 ++ dg) L) := by show IsBits _ _; rw [HL.out]; exact HU4.out
          generalize u4 ++ dg = st at *
          have hst : n ≤ st.size := by rw [hsz4]; have := HT.out.2.1; omega
          have g3 := slice_h (P := Try.prog) (s := st) Try.underlying9 ((n : Int) - 1) (n - 1) (by omega) (by omega)
          have g4 := slice_l (P := Try.prog) (s := st) Try.underlying9 ((n : Int) - 1) (n - 1) (by omega) (by omega)
          have k9 := number_any _ (L.take (n - 1)) (by have := isBits_extract HU5.out 0 (n - 1); exact this) (by rw [HT.out.1]; omega)
          have k10 := left7_any (st.extract (n - 1) st.size) (L.drop (n - 1)) false (by
            have := isBits_extract HU5.out (n - 1) st.size
            rw [List.take_of_length_le (by rw [List.length_drop, hsz4]; exact Nat.le_refl _)] at this
            exact this) (by rw [List.length_drop]; have := HT.out.2.1; omega) (by rw [List.length_drop]; have := HT.out.2.2; omega)
          have q1 : IntKind.i64.wrap ((n : Int) - 1) = (n : Int) - 1 := wrapI (by omega)
          clear hsz4 hz4
          have k9' : ∀ w, Calls Try.prog 39 #[.string (st.extract 0 (n - 1))] w fun e w' => e = .returned (.int .u64 (numOf (L.take (n - 1)) : Nat)) ∧ w' = w := k9
          clear k9
          generalize numOf (L.take (n - 1)) = P at *
          generalize leftL (L.drop (n - 1)) false = lf at *
          have cl6 : ∀ W, Below w6.heap.size w6 W → W.cell? ⟨w.heap.size, 5, none⟩ = some (.bool false) := fun W hW => (hW.cell (p := ⟨w.heap.size, 5, none⟩) z6).trans f5
          refine wpC_region (fun W => W.cell? ⟨w.heap.size, 5, none⟩ = some (.bool false)) (by kernel_rfl) ?_
          refine wpC_take 0 (v := ?_) rfl (by kernel_rfl) (fun _ _ _ h => h) (by kernel_rfl) ?_ ?_; rotate_left; · (intro wC hC; obtain c1 := hC; go_simp <;> with_reducible rfl)
          refine wpC_take 1 (v := ?_) rfl (by kernel_rfl) (fun _ _ _ h => h) (by kernel_rfl) ?_ ?_; rotate_left; · (intro wC hC; obtain c1 := hC; go_simp <;> with_reducible rfl)
          refine wpC_take 2 (v := ?_) rfl (by kernel_rfl) (fun _ _ _ h => h) (by kernel_rfl) ?_ ?_; rotate_left; · (intro wC hC; obtain c1 := hC; go_simp <;> with_reducible rfl)
          refine wpC_take 3 (v := ?_) rfl (by kernel_rfl) (fun _ _ _ h => h) (by kernel_rfl) ?_ ?_; rotate_left; · (intro wC hC; obtain c1 := hC; go_simp <;> with_reducible rfl)
          refine wpC_take 5 (v := ?_) rfl (by kernel_rfl) (fun _ _ _ h => h) (by kernel_rfl) ?_ ?_; rotate_left; · (intro wC hC; obtain c1 := hC; go_simp <;> with_reducible rfl)
          refine wpC_take 6 (v := ?_) rfl (by kernel_rfl) (fun _ _ _ h => h) (by kernel_rfl) ?_ ?_; rotate_left; · (intro wC hC; obtain c1 := hC; go_simp <;> with_reducible rfl)
          refine wpC_take 7 (v := ?_) rfl (by kernel_rfl) (fun _ _ _ h => h) (by kernel_rfl) ?_ ?_; rotate_left; · (intro wC hC; obtain c1 := hC; go_simp <;> with_reducible rfl)
          refine wpC_take 8 (v := ?_) rfl (by kernel_rfl) (fun _ _ _ h => h) (by kernel_rfl) ?_ ?_; rotate_left; · (intro wC hC; obtain c1 := hC; go_simp <;> with_reducible rfl)
          refine wpC_take 9 (v := ?_) rfl (by kernel_rfl) (fun _ _ _ h => h) (by kernel_rfl) ?_ ?_; rotate_left; · (intro wC hC; obtain c1 := hC; go_simp <;> with_reducible rfl)
          refine wpC_take 10 (v := ?_) rfl (by kernel_rfl) (fun _ _ _ h => h) (by kernel_rfl) ?_ ?_; rotate_left; · (intro wC hC; obtain c1 := hC; go_simp <;> with_reducible rfl)
          refine wpC_step 4 rfl (by kernel_rfl) (by kernel_rfl) (cl6 _ (cdrew (Below.refl _ _))) (fun K hK => ?_)
          go_simp
          go_wp2_with ((go_at_call 39; refine (k9' _).mono ?_; rintro e w8 ⟨rfl, hw8⟩; rw [hw8]; clear hw8 w8))
          try (refine hK _ _ ?_; clear hK K)
          refine wpC_step 11 rfl (by kernel_rfl) (by kernel_rfl) (cl6 _ (cdrew (Below.refl _ _))) (fun K hK => ?_)
          go_simp
          go_wp2_with ((go_at_call 40; refine (k10 _).mono ?_; rintro e w9 ⟨rfl, hb9⟩))
          try (refine hK _ _ ?_; clear hK K)
          have B9 := cthen (cdrew (Below.refl w6.heap.size w6)) hb9
          refine wpC_step 12 rfl (by kernel_rfl) (by kernel_rfl) (cl6 _ B9) (fun K hK => ?_)
          go_simp
          try (refine hK _ _ ?_; clear hK K)
          refine wpC_step 13 rfl (by kernel_rfl) (by kernel_rfl) (cl6 _ B9) (fun K hK => ?_)
          go_simp
          try (refine hK _ _ ?_; clear hK K)
          refine wpC_step 14 rfl (by kernel_rfl) (by kernel_rfl) (cl6 _ B9) (fun K hK => ?_)
          go_simp
          try (refine hK _ _ ?_; clear hK K)
          refine wpC_done (by kernel_rfl) (cl6 _ B9) ?_
          go_wp2_with fail
          go_ret3
          exact hQ.out _ _ ⟨rfl, cthen (cthen (below_drewN HBW.out q5) HB6.out) B9⟩
        · go_wp2_with (go_at_call 38; refine (k5 _).mono ?_; rintro e w6 ⟨u4, rfl, hu4, hb6⟩; have HU4 : Hid _ := isBits_append hu4 HI3.out; have hz4 := isBits_size HU4.out; rw [← HL.out] at hz4; have n6 := (hb6.block w.heap.size z4).trans HN0.out; have f5 := rowcell n6 5; simp only [List.getElem?_toArray, List.getElem?_cons_zero, List.getElem?_cons_succ] at f5; have z6 : w.heap.size < w6.heap.size := (Nat.lt_of_lt_of_le z4 hb6.size); have HB6 : Hid (Below _ _ _) := hb6; have hsz6 : u4.size + dg.size ≤ 9223372036854775807 := (by have := HT.out.2.2; rw [ByteArray.size_append] at hz4; omega); have g6 := (fun wx => run_string_add_sum (P := Try.prog) wx u4 dg hsz6); clear n6 hu4 hb6)
          have hsz4 := isBits_size HU4.out
          rw [← HL.out] at hsz4
          have HU5 : Hid (IsBits (u4 ++ dg) L) := by show IsBits _ _; rw [HL.out]; exact HU4.out
          generalize u4 ++ dg = st at *
          have hst : n ≤ st.size := by rw [hsz4]; have := HT.out.2.1; omega
          have g3 := slice_h (P := Try.prog) (s := st) Try.underlying9 ((n : Int) - 1) (n - 1) (by omega) (by omega)
          have g4 := slice_l (P := Try.prog) (s := st) Try.underlying9 ((n : Int) - 1) (n - 1) (by omega) (by omega)
          have k9 := number_any _ (L.take (n - 1)) (by have := isBits_extract HU5.out 0 (n - 1); exact this) (by rw [HT.out.1]; omega)
          have k10 := left7_any (st.extract (n - 1) st.size) (L.drop (n - 1)) true (by
            have := isBits_extract HU5.out (n - 1) st.size
            rw [List.take_of_length_le (by rw [List.length_drop, hsz4]; exact Nat.le_refl _)] at this
            exact this) (by rw [List.length_drop]; have := HT.out.2.1; omega) (by rw [List.length_drop]; have := HT.out.2.2; omega)
          have q1 : IntKind.i64.wrap ((n : Int) - 1) = (n : Int) - 1 := wrapI (by omega)
          clear hsz4 hz4
          have k9' : ∀ w, Calls Try.prog 39 #[.string (st.extract 0 (n - 1))] w fun e w' => e = .returned (.int .u64 (numOf (L.take (n - 1)) : Nat)) ∧ w' = w := k9
          clear k9
          generalize numOf (L.take (n - 1)) = P at *
          generalize leftL (L.drop (n - 1)) true = lf at *
          have cl6 : ∀ W, Below w6.heap.size w6 W → W.cell? ⟨w.heap.size, 5, none⟩ = some (.bool true) := fun W hW => (hW.cell (p := ⟨w.heap.size, 5, none⟩) z6).trans f5
          refine wpC_region (fun W => W.cell? ⟨w.heap.size, 5, none⟩ = some (.bool true)) (by kernel_rfl) ?_
          refine wpC_take 0 (v := ?_) rfl (by kernel_rfl) (fun _ _ _ h => h) (by kernel_rfl) ?_ ?_; rotate_left; · (intro wC hC; obtain c1 := hC; go_simp <;> with_reducible rfl)
          refine wpC_take 1 (v := ?_) rfl (by kernel_rfl) (fun _ _ _ h => h) (by kernel_rfl) ?_ ?_; rotate_left; · (intro wC hC; obtain c1 := hC; go_simp <;> with_reducible rfl)
          refine wpC_take 2 (v := ?_) rfl (by kernel_rfl) (fun _ _ _ h => h) (by kernel_rfl) ?_ ?_; rotate_left; · (intro wC hC; obtain c1 := hC; go_simp <;> with_reducible rfl)
          refine wpC_take 3 (v := ?_) rfl (by kernel_rfl) (fun _ _ _ h => h) (by kernel_rfl) ?_ ?_; rotate_left; · (intro wC hC; obtain c1 := hC; go_simp <;> with_reducible rfl)
          refine wpC_take 5 (v := ?_) rfl (by kernel_rfl) (fun _ _ _ h => h) (by kernel_rfl) ?_ ?_; rotate_left; · (intro wC hC; obtain c1 := hC; go_simp <;> with_reducible rfl)
          refine wpC_take 6 (v := ?_) rfl (by kernel_rfl) (fun _ _ _ h => h) (by kernel_rfl) ?_ ?_; rotate_left; · (intro wC hC; obtain c1 := hC; go_simp <;> with_reducible rfl)
          refine wpC_take 7 (v := ?_) rfl (by kernel_rfl) (fun _ _ _ h => h) (by kernel_rfl) ?_ ?_; rotate_left; · (intro wC hC; obtain c1 := hC; go_simp <;> with_reducible rfl)
          refine wpC_take 8 (v := ?_) rfl (by kernel_rfl) (fun _ _ _ h => h) (by kernel_rfl) ?_ ?_; rotate_left; · (intro wC hC; obtain c1 := hC; go_simp <;> with_reducible rfl)
          refine wpC_take 9 (v := ?_) rfl (by kernel_rfl) (fun _ _ _ h => h) (by kernel_rfl) ?_ ?_; rotate_left; · (intro wC hC; obtain c1 := hC; go_simp <;> with_reducible rfl)
          refine wpC_take 10 (v := ?_) rfl (by kernel_rfl) (fun _ _ _ h => h) (by kernel_rfl) ?_ ?_; rotate_left; · (intro wC hC; obtain c1 := hC; go_simp <;> with_reducible rfl)
          refine wpC_step 4 rfl (by kernel_rfl) (by kernel_rfl) (cl6 _ (cdrew (Below.refl _ _))) (fun K hK => ?_)
          go_simp
          go_wp2_with ((go_at_call 39; refine (k9' _).mono ?_; rintro e w8 ⟨rfl, hw8⟩; rw [hw8]; clear hw8 w8))
          try (refine hK _ _ ?_; clear hK K)
          refine wpC_step 11 rfl (by kernel_rfl) (by kernel_rfl) (cl6 _ (cdrew (Below.refl _ _))) (fun K hK => ?_)
          go_simp
          go_wp2_with ((go_at_call 40; refine (k10 _).mono ?_; rintro e w9 ⟨rfl, hb9⟩))
          try (refine hK _ _ ?_; clear hK K)
          have B9 := cthen (cdrew (Below.refl w6.heap.size w6)) hb9
          refine wpC_step 12 rfl (by kernel_rfl) (by kernel_rfl) (cl6 _ B9) (fun K hK => ?_)
          go_simp
          try (refine hK _ _ ?_; clear hK K)
          refine wpC_step 13 rfl (by kernel_rfl) (by kernel_rfl) (cl6 _ B9) (fun K hK => ?_)
          go_simp
          try (refine hK _ _ ?_; clear hK K)
          refine wpC_step 14 rfl (by kernel_rfl) (by kernel_rfl) (cl6 _ B9) (fun K hK => ?_)
          go_simp
          try (refine hK _ _ ?_; clear hK K)
          refine wpC_done (by kernel_rfl) (cl6 _ B9) ?_
          go_wp2_with fail
          go_ret3
          exact hQ.out _ _ ⟨rfl, cthen (cthen HBW.out HB6.out) B9⟩
end Go.Proofs.Ytajlgpamcpgalaa

namespace Go.Proofs.Ytajlgpamcpgalaa
open Go.ChangeShapes Go.WideShapes Go.ChangeAt Go.RowKit
set_option linter.unusedVariables false
set_option linter.unusedSimpArgs false
set_option maxRecDepth 100000

/-! ### the document's Round -/
theorem rounds7_err (n : Int) (k : Int) (neg : Bool) (s : Int) (hi lo : Nat) (rest : Bool) (c : Int) (hc : c ≠ 0) (w : World)
    (k1 : ∀ w, Calls Try.prog 16 #[.int .i64 n, exV k neg s hi lo rest] w fun e w' => e = .returned (.tuple #[.int .u64 0, .int .i64 0, .int .i64 c]) ∧ Below w.heap.size w w') :
    Calls Try.prog 18 #[.int .i64 n, exV k neg s hi lo rest] w fun e w' => e = .returned (.tuple #[.int .u64 0, .int .i64 c]) ∧ Below w.heap.size w w' := by
  unfold exV at *
  have hd : (c == 0) = false := beq_eq_false_iff_ne.2 hc
  clear hc
  refine cps fun Q hQ => ?_
  go_enter Try.func18, Try.ntmps18
  go_wp2_with (go_at_call 16; refine (k1 _).mono ?_; rintro e w2 ⟨rfl, hb2⟩)
  exact hQ.out _ _ ⟨rfl, cthen (cmore (Below.refl _ _) _) hb2⟩
theorem rounds7_plain (n : Int) (k : Int) (P : Nat) (w : World)
    (k1 : ∀ w, Calls Try.prog 16 #[.int .i64 n, exV k false 0 0 0 false] w fun e w' => e = .returned (.tuple #[.int .u64 P, .int .i64 0, .int .i64 0]) ∧ Below w.heap.size w w') :
    Calls Try.prog 18 #[.int .i64 n, exV k false 0 0 0 false] w fun e w' => e = .returned (.tuple #[.int .u64 P, .int .i64 0]) ∧ Below w.heap.size w w' := by
  unfold exV at *
  refine cps fun Q hQ => ?_
  go_enter Try.func18, Try.ntmps18
  go_wp2_with (go_at_call 16; refine (k1 _).mono ?_; rintro e w2 ⟨rfl, hb2⟩; have hc := fun b o h => hb2.cell (p := ⟨b, o, none⟩) h; have z1 : w.heap.size < w2.heap.size := (by have := hb2.size; simp at this; omega))
  exact hQ.out _ _ ⟨rfl, cthen (cmore (Below.refl _ _) _) hb2⟩
def patR (n : Nat) (neg : Bool) (R : Nat) : Nat := if neg then 2 ^ n - R else R
set_option maxHeartbeats 2000000 in
theorem rounds7_real (n : Nat) (neg : Bool) (s : Int) (hi lo : Nat) (rest : Bool) (hn : Wd n) (hs : soundX 1 neg s hi lo rest = true) (h : WordsX hi lo) (w : World) :
    Calls Try.prog 18 #[.int .i64 n, exV 1 neg s hi lo rest] w fun e w' => e = .returned (.tuple #[.int .u64 (patR n neg (rndX n s hi lo rest)), .int .i64 0]) ∧ Below w.heap.size w w' := by
  have k1 := cut7_real n neg s hi lo rest hn hs h
  obtain ⟨r1, r2⟩ := rnd_range n s hi lo rest hn h
  obtain ⟨H, e1, e2, e3, _⟩ := wd_pows hn
  have hw := wd_le hn
  have hH : H ≤ 2 ^ 63 := by rw [← e2]; exact Nat.pow_le_pow_right (by decide) (by omega)
  have k2 := neg6_any n (rndX n s hi lo rest) hn (by omega)
  have hneg : minusU (rndX n s hi lo rest) % 2 ^ n = 2 ^ n - rndX n s hi lo rest := by
    rw [minusU_mod n _ hn (by omega), Nat.mod_eq_of_lt (a := rndX n s hi lo rest) (by omega), Nat.mod_eq_of_lt (by omega)]
  rw [hneg] at k2
  have HR : Hid (rndX n s hi lo rest = roundP (cutX n s hi lo rest).1 (cutX n s hi lo rest).2) := rfl
  have hle := (roundP_le (cutX n s hi lo rest).1 (cutX n s hi lo rest).2).1
  have hle2 : (cutX n s hi lo rest).1 ≤ rndX n s hi lo rest := hle
  unfold patR
  generalize 2 ^ n - rndX n s hi lo rest = M at *
  generalize (cutX n s hi lo rest).1 = P at *
  generalize (cutX n s hi lo rest).2 = l at *
  generalize rndX n s hi lo rest = R at *
  unfold exV at *
  rw [e2] at r2
  have hR63 : R < 2 ^ 63 := by omega
  clear hn hs h hneg e1 e2 e3 hle r2 hH
  have hup : (l = 3 ∨ (l = 2 ∧ P % 2 = 1)) → P + 1 = R := fun c => by rw [HR.out]; unfold roundP; rw [if_pos c]
  have hst : ¬ (l = 3 ∨ (l = 2 ∧ P % 2 = 1)) → P = R := fun c => by rw [HR.out]; unfold roundP; rw [if_neg c]
  have ew : IntKind.u64.wrap ((P : Int) + 1) = (P : Int) + 1 := by rw [IntKind.wrap_u64]; omega
  refine cps fun Q hQ => ?_
  by_cases c : l = 3 ∨ (l = 2 ∧ P % 2 = 1)
  · have hP := hup c
    have hc2 : ((P : Int) + 1) = (R : Int) := by omega
    have ew2 : IntKind.u64.wrap ((P : Int) + 1) = (R : Int) := by rw [ew, hc2]
    clear hup hst hP hc2 ew
    rcases c with rfl | ⟨rfl, c⟩
    · cases neg
      · go_enter Try.func18, Try.ntmps18
        go_wp2_with (first
          | (go_at_call 16; refine (k1 _).mono ?_; rintro e w2 ⟨rfl, hb2⟩; have a1 := ((hb2.cell (p := ⟨w.heap.size, 1, none⟩) (by simp)).trans (rowcell (rownew w _ _) 1)); simp only [List.getElem?_toArray, List.getElem?_cons_zero, List.getElem?_cons_succ] at a1; have z1 : w.heap.size < w2.heap.size := (by have := hb2.size; simp at this; omega)))
        exact hQ.out _ _ ⟨rfl, cthen (cmore (Below.refl _ _) _) hb2⟩
      · go_enter Try.func18, Try.ntmps18
        go_wp2_with (first
          | (go_at_call 16; refine (k1 _).mono ?_; rintro e w2 ⟨rfl, hb2⟩; have a1 := ((hb2.cell (p := ⟨w.heap.size, 1, none⟩) (by simp)).trans (rowcell (rownew w _ _) 1)); simp only [List.getElem?_toArray, List.getElem?_cons_zero, List.getElem?_cons_succ] at a1; have z1 : w.heap.size < w2.heap.size := (by have := hb2.size; simp at this; omega))
          | (go_at_call 42; refine (k2 _).mono ?_; rintro e w4 ⟨rfl, hb4⟩))
        exact hQ.out _ _ ⟨rfl, cthen (cthen (cmore (Below.refl _ _) _) hb2) hb4⟩
    · have m1 : ((P : Int) % 2 == 1) = true := beq_iff_eq.2 (by omega)
      have m2 : (Int.tmod (P : Int) 2) = (P : Int) % 2 := Int.tmod_eq_emod_of_nonneg (by omega)
      have m3 : (P : Int) % 2 = 1 := by omega
      clear c
      cases neg
      · go_enter Try.func18, Try.ntmps18
        go_wp2_with (first
          | (go_at_call 16; refine (k1 _).mono ?_; rintro e w2 ⟨rfl, hb2⟩; have a1 := ((hb2.cell (p := ⟨w.heap.size, 1, none⟩) (by simp)).trans (rowcell (rownew w _ _) 1)); simp only [List.getElem?_toArray, List.getElem?_cons_zero, List.getElem?_cons_succ] at a1; have z1 : w.heap.size < w2.heap.size := (by have := hb2.size; simp at this; omega)))
        exact hQ.out _ _ ⟨rfl, cthen (cmore (Below.refl _ _) _) hb2⟩
      · go_enter Try.func18, Try.ntmps18
        go_wp2_with (first
          | (go_at_call 16; refine (k1 _).mono ?_; rintro e w2 ⟨rfl, hb2⟩; have a1 := ((hb2.cell (p := ⟨w.heap.size, 1, none⟩) (by simp)).trans (rowcell (rownew w _ _) 1)); simp only [List.getElem?_toArray, List.getElem?_cons_zero, List.getElem?_cons_succ] at a1; have z1 : w.heap.size < w2.heap.size := (by have := hb2.size; simp at this; omega))
          | (go_at_call 42; refine (k2 _).mono ?_; rintro e w4 ⟨rfl, hb4⟩))
        exact hQ.out _ _ ⟨rfl, cthen (cthen (cmore (Below.refl _ _) _) hb2) hb4⟩
  · have hP := hst c
    subst hP
    clear hup hst
    have d3 : ((l : Int) == 3) = false := beq_eq_false_iff_ne.2 (by omega)
    by_cases h2 : l = 2
    · subst h2
      have m3 : (P : Int) % 2 = 0 := by omega
      have m2 : (Int.tmod (P : Int) 2) = (P : Int) % 2 := Int.tmod_eq_emod_of_nonneg (by omega)
      clear c
      cases neg
      · go_enter Try.func18, Try.ntmps18
        go_wp2_with (first
          | (go_at_call 16; refine (k1 _).mono ?_; rintro e w2 ⟨rfl, hb2⟩; have a1 := ((hb2.cell (p := ⟨w.heap.size, 1, none⟩) (by simp)).trans (rowcell (rownew w _ _) 1)); simp only [List.getElem?_toArray, List.getElem?_cons_zero, List.getElem?_cons_succ] at a1; have z1 : w.heap.size < w2.heap.size := (by have := hb2.size; simp at this; omega)))
        exact hQ.out _ _ ⟨rfl, cthen (cmore (Below.refl _ _) _) hb2⟩
      · go_enter Try.func18, Try.ntmps18
        go_wp2_with (first
          | (go_at_call 16; refine (k1 _).mono ?_; rintro e w2 ⟨rfl, hb2⟩; have a1 := ((hb2.cell (p := ⟨w.heap.size, 1, none⟩) (by simp)).trans (rowcell (rownew w _ _) 1)); simp only [List.getElem?_toArray, List.getElem?_cons_zero, List.getElem?_cons_succ] at a1; have z1 : w.heap.size < w2.heap.size := (by have := hb2.size; simp at this; omega))
          | (go_at_call 42; refine (k2 _).mono ?_; rintro e w4 ⟨rfl, hb4⟩))
        exact hQ.out _ _ ⟨rfl, cthen (cthen (cmore (Below.refl _ _) _) hb2) hb4⟩
    · have d2 : ((l : Int) == 2) = false := beq_eq_false_iff_ne.2 (by omega)
      clear c h2
      cases neg
      · go_enter Try.func18, Try.ntmps18
        go_wp2_with (first
          | (go_at_call 16; refine (k1 _).mono ?_; rintro e w2 ⟨rfl, hb2⟩; have a1 := ((hb2.cell (p := ⟨w.heap.size, 1, none⟩) (by simp)).trans (rowcell (rownew w _ _) 1)); simp only [List.getElem?_toArray, List.getElem?_cons_zero, List.getElem?_cons_succ] at a1; have z1 : w.heap.size < w2.heap.size := (by have := hb2.size; simp at this; omega)))
        exact hQ.out _ _ ⟨rfl, cthen (cmore (Below.refl _ _) _) hb2⟩
      · go_enter Try.func18, Try.ntmps18
        go_wp2_with (first
          | (go_at_call 16; refine (k1 _).mono ?_; rintro e w2 ⟨rfl, hb2⟩; have a1 := ((hb2.cell (p := ⟨w.heap.size, 1, none⟩) (by simp)).trans (rowcell (rownew w _ _) 1)); simp only [List.getElem?_toArray, List.getElem?_cons_zero, List.getElem?_cons_succ] at a1; have z1 : w.heap.size < w2.heap.size := (by have := hb2.size; simp at this; omega))
          | (go_at_call 42; refine (k2 _).mono ?_; rintro e w4 ⟨rfl, hb4⟩))
        exact hQ.out _ _ ⟨rfl, cthen (cthen (cmore (Below.refl _ _) _) hb2) hb4⟩
end Go.Proofs.Ytajlgpamcpgalaa

namespace Go.Proofs.Ytajlgpamcpgalaa
open Go.ChangeShapes Go.WideShapes Go.ChangeAt Go.RowKit
set_option linter.unusedVariables false
set_option linter.unusedSimpArgs false
set_option maxRecDepth 100000

/-! ### the document's Of -/
theorem of7_bad (k : Int) (neg : Bool) (s : Int) (f : Nat) (hs : soundN k neg s f = false) (w : World) :
    Calls Try.prog 14 #[numV k neg s f] w fun e w' => e = .returned (.tuple #[exV 0 false 0 0 0 false, .int .i64 1]) ∧ Below w.heap.size w w' := by
  have k2 := sound6_any k neg s f
  rw [hs] at k2
  unfold numV exV at *
  clear hs
  refine cps fun Q hQ => ?_
  go_enter Try.func14, Try.ntmps14
  go_wp2_with (go_at_call 32; refine (k2 _).mono ?_; rintro e w2 ⟨rfl, hb2⟩; have RX := (hb2.block w.heap.size (by simp; omega)).trans ((Below.heap_alloc (w.alloc _) _ _ (by simp)).trans (rownew w _ _)); have RR := (hb2.block (w.heap.size + 1) (by simp)).trans (rownew' _ _ _ _ (by simp)); have x0 := rowcell RX 0; have x1 := rowcell RX 1; have x2 := rowcell RX 2; have x3 := rowcell RX 3; have xf := rowfree RX; simp only [List.getElem?_toArray, List.getElem?_cons_zero, List.getElem?_cons_succ] at x0 x1 x2 x3; have r0 := rowcell RR 0; have r1 := rowcell RR 1; have r2 := rowcell RR 2; have r3 := rowcell RR 3; have r4 := rowcell RR 4; have r5 := rowcell RR 5; have rf := rowfree RR; simp only [List.getElem?_toArray, List.getElem?_cons_zero, List.getElem?_cons_succ] at r0 r1 r2 r3 r4 r5; have HB2 : Hid (Below _ _ _) := cthen (cmore (cmore (Below.refl _ _) _) _) hb2; clear hb2 RX RR)
  refine bodyPost_ret (v := .tuple #[.agg #[.int .i64 0, .bool false, .int .i64 0, .int .u64 0, .int .u64 0, .bool false], .int .i64 1]) (by simp [results, Try.results14, go_sem, r0, r1, r2, r3, r4, r5]) rfl (hQ.out _ _ ⟨rfl, ?_⟩)
  have hle : w.heap.size ≤ w.heap.size + 1 := by omega
  exact cset (cset (cset (cset (cset (cset HB2.out hle _ _) hle _ _) hle _ _) hle _ _) hle _ _) hle _ _
theorem of7_ok (k : Int) (neg : Bool) (s : Int) (f : Nat) (hs : soundN k neg s f = true) (w : World) :
    Calls Try.prog 14 #[numV k neg s f] w fun e w' => e = .returned (.tuple #[exV k neg s f 0 false, .int .i64 0]) ∧ Below w.heap.size w w' := by
  have k2 := sound6_any k neg s f
  rw [hs] at k2
  unfold numV exV at *
  clear hs
  refine cps fun Q hQ => ?_
  go_enter Try.func14, Try.ntmps14
  go_wp2_with (go_at_call 32; refine (k2 _).mono ?_; rintro e w2 ⟨rfl, hb2⟩; have RX := (hb2.block w.heap.size (by simp; omega)).trans ((Below.heap_alloc (w.alloc _) _ _ (by simp)).trans (rownew w _ _)); have RR := (hb2.block (w.heap.size + 1) (by simp)).trans (rownew' _ _ _ _ (by simp)); have x0 := rowcell RX 0; have x1 := rowcell RX 1; have x2 := rowcell RX 2; have x3 := rowcell RX 3; have xf := rowfree RX; simp only [List.getElem?_toArray, List.getElem?_cons_zero, List.getElem?_cons_succ] at x0 x1 x2 x3; have r0 := rowcell RR 0; have r1 := rowcell RR 1; have r2 := rowcell RR 2; have r3 := rowcell RR 3; have r4 := rowcell RR 4; have r5 := rowcell RR 5; have rf := rowfree RR; simp only [List.getElem?_toArray, List.getElem?_cons_zero, List.getElem?_cons_succ] at r0 r1 r2 r3 r4 r5; have HB2 : Hid (Below _ _ _) := cthen (cmore (cmore (Below.refl _ _) _) _) hb2; clear hb2 RX RR)
  refine bodyPost_ret (v := .tuple #[.agg #[.int .i64 k, .bool neg, .int .i64 s, .int .u64 f, .int .u64 0, .bool false], .int .i64 0]) (by simp [results, Try.results14, go_sem, r0, r1, r2, r3, r4, r5]) rfl (hQ.out _ _ ⟨rfl, ?_⟩)
  have hle : w.heap.size ≤ w.heap.size + 1 := by omega
  exact cset (cset (cset (cset (cset (cset HB2.out hle _ _) hle _ _) hle _ _) hle _ _) hle _ _) hle _ _
end Go.Proofs.Ytajlgpamcpgalaa

namespace Go.Proofs.Ytajlgpamcpgalaa
open Go.ChangeShapes Go.WideShapes Go.ChangeAt Go.RowKit
set_option linter.unusedVariables false
set_option linter.unusedSimpArgs false
set_option maxRecDepth 100000

/-! ### the document's order of exact numbers -/
def sgnX (k : Int) (neg : Bool) : Int := if k = 1 then (if neg then -1 else 1) else 0
theorem sign7_any (k : Int) (neg : Bool) (s : Int) (hi lo : Nat) (rest : Bool) (w : World) :
    Calls Try.prog 46 #[exV k neg s hi lo rest] w fun e w' => e = .returned (.int .i64 (sgnX k neg)) ∧ Below w.heap.size w w' := by
  unfold exV sgnX
  refine cps fun Q hQ => ?_
  by_cases h1 : k = 1
  · subst h1
    cases neg
    all_goals
      go_enter Try.func46, Try.ntmps46
      go_wp2
      exact hQ.out _ _ ⟨rfl, cmore (Below.refl _ _) _⟩
  · have d1 : (k == 1) = false := beq_eq_false_iff_ne.2 h1
    rw [if_neg h1] at hQ
    clear h1
    go_enter Try.func46, Try.ntmps46
    go_wp2
    exact hQ.out _ _ ⟨rfl, cmore (Below.refl _ _) _⟩
set_option maxHeartbeats 2000000 in
theorem cmp7_sgn (k k' : Int) (neg neg' : Bool) (s s' : Int) (hi lo hi' lo' : Nat) (rest rest' : Bool) (hne : sgnX k neg ≠ sgnX k' neg') (w : World) :
    Calls Try.prog 23 #[exV k neg s hi lo rest, exV k' neg' s' hi' lo' rest'] w fun e w' => e = .returned (.int .i64 (if sgnX k neg < sgnX k' neg' then -1 else 1)) ∧ Below w.heap.size w w' := by
  have k1 := sign7_any k neg s hi lo rest
  have k2 := sign7_any k' neg' s' hi' lo' rest'
  unfold exV at *
  generalize sgnX k neg = a at *
  generalize sgnX k' neg' = b at *
  refine cps fun Q hQ => ?_
  rcases Int.lt_or_gt_of_ne hne with hlt | hlt
  · rw [if_pos hlt] at hQ
    have d1 : decide (a < b) = true := decide_eq_true hlt
    clear hne
    go_enter Try.func23, Try.ntmps23
    go_wp2_with (first
      | (have chk := T1; clear chk; go_at_call 46; refine (k2 _).mono ?_; rintro e w3 ⟨rfl, hb3⟩; have RX3 := (hb3.block w.heap.size z2).trans RX2.out; have RY3 := (hb3.block (w.heap.size + 1) z2').trans RY2.out; have x0 := rowcell RX3 0; have x1 := rowcell RX3 1; have x2 := rowcell RX3 2; have x3 := rowcell RX3 3; have x4 := rowcell RX3 4; have x5 := rowcell RX3 5; have xf := rowfree RX3; simp only [List.getElem?_toArray, List.getElem?_cons_zero, List.getElem?_cons_succ] at x0 x1 x2 x3 x4 x5; have y0 := rowcell RY3 0; have y1 := rowcell RY3 1; have y2 := rowcell RY3 2; have y3 := rowcell RY3 3; have y4 := rowcell RY3 4; have y5 := rowcell RY3 5; have yf := rowfree RY3; simp only [List.getElem?_toArray, List.getElem?_cons_zero, List.getElem?_cons_succ] at y0 y1 y2 y3 y4 y5; have HB3 : Hid (Below _ _ _) := cthen B2.out hb3; clear hb3 RX3 RY3)
      | (go_at_call 46; refine (k1 _).mono ?_; rintro e w2 ⟨rfl, hb2⟩; have RX2 : Hid _ := (hb2.block w.heap.size (by simp; omega)).trans ((Below.heap_alloc (w.alloc _) _ _ (by simp)).trans (rownew w _ _)); have RY2 : Hid _ := (hb2.block (w.heap.size + 1) (by simp)).trans (rownew' _ _ _ _ (by simp)); have z2 : w.heap.size < w2.heap.size := (by have := hb2.size; simp at this; omega); have z2' : w.heap.size + 1 < w2.heap.size := (by have := hb2.size; simp at this; omega); have NX := rowcell RX2.out 0; have B2 : Hid (Below _ _ _) := cthen (cmore (cmore (Below.refl _ _) _) _) hb2; have T1 : True := trivial; have p0 := rowcell RX2.out 0; have p1 := rowcell RX2.out 1; have p2 := rowcell RX2.out 2; have p3 := rowcell RX2.out 3; have p4 := rowcell RX2.out 4; have p5 := rowcell RX2.out 5; have pf := rowfree RX2.out; simp only [List.getElem?_toArray, List.getElem?_cons_zero, List.getElem?_cons_succ] at p0 p1 p2 p3 p4 p5; have q0 := rowcell RY2.out 0; have q1 := rowcell RY2.out 1; have q2 := rowcell RY2.out 2; have q3 := rowcell RY2.out 3; have q4 := rowcell RY2.out 4; have q5 := rowcell RY2.out 5; have qf := rowfree RY2.out; simp only [List.getElem?_toArray, List.getElem?_cons_zero, List.getElem?_cons_succ] at q0 q1 q2 q3 q4 q5; clear hb2 NX))
    all_goals exact hQ.out _ _ ⟨rfl, HB3.out⟩
  · rw [if_neg (by omega)] at hQ
    have d1 : decide (a < b) = false := decide_eq_false (by omega)
    have d2 : decide (b < a) = true := decide_eq_true hlt
    clear hne
    go_enter Try.func23, Try.ntmps23
    go_wp2_with (first
      | (have chk := T1; clear chk; go_at_call 46; refine (k2 _).mono ?_; rintro e w3 ⟨rfl, hb3⟩; have RX3 := (hb3.block w.heap.size z2).trans RX2.out; have RY3 := (hb3.block (w.heap.size + 1) z2').trans RY2.out; have x0 := rowcell RX3 0; have x1 := rowcell RX3 1; have x2 := rowcell RX3 2; have x3 := rowcell RX3 3; have x4 := rowcell RX3 4; have x5 := rowcell RX3 5; have xf := rowfree RX3; simp only [List.getElem?_toArray, List.getElem?_cons_zero, List.getElem?_cons_succ] at x0 x1 x2 x3 x4 x5; have y0 := rowcell RY3 0; have y1 := rowcell RY3 1; have y2 := rowcell RY3 2; have y3 := rowcell RY3 3; have y4 := rowcell RY3 4; have y5 := rowcell RY3 5; have yf := rowfree RY3; simp only [List.getElem?_toArray, List.getElem?_cons_zero, List.getElem?_cons_succ] at y0 y1 y2 y3 y4 y5; have HB3 : Hid (Below _ _ _) := cthen B2.out hb3; clear hb3 RX3 RY3)
      | (go_at_call 46; refine (k1 _).mono ?_; rintro e w2 ⟨rfl, hb2⟩; have RX2 : Hid _ := (hb2.block w.heap.size (by simp; omega)).trans ((Below.heap_alloc (w.alloc _) _ _ (by simp)).trans (rownew w _ _)); have RY2 : Hid _ := (hb2.block (w.heap.size + 1) (by simp)).trans (rownew' _ _ _ _ (by simp)); have z2 : w.heap.size < w2.heap.size := (by have := hb2.size; simp at this; omega); have z2' : w.heap.size + 1 < w2.heap.size := (by have := hb2.size; simp at this; omega); have NX := rowcell RX2.out 0; have B2 : Hid (Below _ _ _) := cthen (cmore (cmore (Below.refl _ _) _) _) hb2; have T1 : True := trivial; have p0 := rowcell RX2.out 0; have p1 := rowcell RX2.out 1; have p2 := rowcell RX2.out 2; have p3 := rowcell RX2.out 3; have p4 := rowcell RX2.out 4; have p5 := rowcell RX2.out 5; have pf := rowfree RX2.out; simp only [List.getElem?_toArray, List.getElem?_cons_zero, List.getElem?_cons_succ] at p0 p1 p2 p3 p4 p5; have q0 := rowcell RY2.out 0; have q1 := rowcell RY2.out 1; have q2 := rowcell RY2.out 2; have q3 := rowcell RY2.out 3; have q4 := rowcell RY2.out 4; have q5 := rowcell RY2.out 5; have qf := rowfree RY2.out; simp only [List.getElem?_toArray, List.getElem?_cons_zero, List.getElem?_cons_succ] at q0 q1 q2 q3 q4 q5; clear hb2 NX))
    all_goals exact hQ.out _ _ ⟨rfl, HB3.out⟩
theorem cmp7_zero (k k' : Int) (neg neg' : Bool) (s s' : Int) (hi lo hi' lo' : Nat) (rest rest' : Bool) (h1 : sgnX k neg = 0) (h2 : sgnX k' neg' = 0) (w : World) :
    Calls Try.prog 23 #[exV k neg s hi lo rest, exV k' neg' s' hi' lo' rest'] w fun e w' => e = .returned (.int .i64 0) ∧ Below w.heap.size w w' := by
  have k1 := sign7_any k neg s hi lo rest
  have k2 := sign7_any k' neg' s' hi' lo' rest'
  rw [h1] at k1
  rw [h2] at k2
  clear h1 h2
  unfold exV at *
  refine cps fun Q hQ => ?_
  go_enter Try.func23, Try.ntmps23
  go_wp2_with (first
    | (have chk := T1; clear chk; go_at_call 46; refine (k2 _).mono ?_; rintro e w3 ⟨rfl, hb3⟩; have RX3 := (hb3.block w.heap.size z2).trans RX2.out; have RY3 := (hb3.block (w.heap.size + 1) z2').trans RY2.out; have x0 := rowcell RX3 0; have x1 := rowcell RX3 1; have x2 := rowcell RX3 2; have x3 := rowcell RX3 3; have x4 := rowcell RX3 4; have x5 := rowcell RX3 5; have xf := rowfree RX3; simp only [List.getElem?_toArray, List.getElem?_cons_zero, List.getElem?_cons_succ] at x0 x1 x2 x3 x4 x5; have y0 := rowcell RY3 0; have y1 := rowcell RY3 1; have y2 := rowcell RY3 2; have y3 := rowcell RY3 3; have y4 := rowcell RY3 4; have y5 := rowcell RY3 5; have yf := rowfree RY3; simp only [List.getElem?_toArray, List.getElem?_cons_zero, List.getElem?_cons_succ] at y0 y1 y2 y3 y4 y5; have HB3 : Hid (Below _ _ _) := cthen B2.out hb3; clear hb3 RX3 RY3)
    | (go_at_call 46; refine (k1 _).mono ?_; rintro e w2 ⟨rfl, hb2⟩; have RX2 : Hid _ := (hb2.block w.heap.size (by simp; omega)).trans ((Below.heap_alloc (w.alloc _) _ _ (by simp)).trans (rownew w _ _)); have RY2 : Hid _ := (hb2.block (w.heap.size + 1) (by simp)).trans (rownew' _ _ _ _ (by simp)); have z2 : w.heap.size < w2.heap.size := (by have := hb2.size; simp at this; omega); have z2' : w.heap.size + 1 < w2.heap.size := (by have := hb2.size; simp at this; omega); have NX := rowcell RX2.out 0; have B2 : Hid (Below _ _ _) := cthen (cmore (cmore (Below.refl _ _) _) _) hb2; have T1 : True := trivial; have p0 := rowcell RX2.out 0; have p1 := rowcell RX2.out 1; have p2 := rowcell RX2.out 2; have p3 := rowcell RX2.out 3; have p4 := rowcell RX2.out 4; have p5 := rowcell RX2.out 5; have pf := rowfree RX2.out; simp only [List.getElem?_toArray, List.getElem?_cons_zero, List.getElem?_cons_succ] at p0 p1 p2 p3 p4 p5; have q0 := rowcell RY2.out 0; have q1 := rowcell RY2.out 1; have q2 := rowcell RY2.out 2; have q3 := rowcell RY2.out 3; have q4 := rowcell RY2.out 4; have q5 := rowcell RY2.out 5; have qf := rowfree RY2.out; simp only [List.getElem?_toArray, List.getElem?_cons_zero, List.getElem?_cons_succ] at q0 q1 q2 q3 q4 q5; clear hb2 NX))
  all_goals exact hQ.out _ _ ⟨rfl, HB3.out⟩
end Go.Proofs.Ytajlgpamcpgalaa

namespace Go.Proofs.Ytajlgpamcpgalaa
open Go.ChangeShapes Go.WideShapes Go.ChangeAt Go.RowKit
set_option linter.unusedVariables false
set_option linter.unusedSimpArgs false
set_option maxRecDepth 100000

/-! ### two numbers of one sign, compared -/
set_option maxHeartbeats 4000000 in
theorem cmp7_real (neg : Bool) (s s' : Int) (hi lo hi' lo' : Nat) (w : World) :
    Calls Try.prog 23 #[exV 1 neg s hi lo false, exV 1 neg s' hi' lo' false] w fun e w' => e = .returned (.int .i64 (if s = s' ∧ hi = hi' ∧ lo = lo' then 0 else if s < s' ∨ (s = s' ∧ (hi < hi' ∨ (hi = hi' ∧ lo < lo'))) then -(if neg then -1 else 1) else (if neg then -1 else 1))) ∧ Below w.heap.size w w' := by
  have k1 := sign7_any 1 neg s hi lo false
  have k2 := sign7_any 1 neg s' hi' lo' false
  unfold exV sgnX at *
  rw [if_pos rfl] at k1 k2
  refine cps fun Q hQ => ?_
  rcases Int.lt_trichotomy s s' with c | rfl | c
  · rw [if_neg (by omega), if_pos (by omega)] at hQ
    have d1 : decide (s < s') = true := decide_eq_true c
    have d2 : (s == s') = false := beq_eq_false_iff_ne.2 (by omega)
    cases neg
    all_goals
        go_enter Try.func23, Try.ntmps23
        go_wp2_with (first
          | (have chk := T1; clear chk; go_at_call 46; refine (k2 _).mono ?_; rintro e w3 ⟨rfl, hb3⟩; have RX3 := (hb3.block w.heap.size z2).trans RX2.out; have RY3 := (hb3.block (w.heap.size + 1) z2').trans RY2.out; have x0 := rowcell RX3 0; have x1 := rowcell RX3 1; have x2 := rowcell RX3 2; have x3 := rowcell RX3 3; have x4 := rowcell RX3 4; have x5 := rowcell RX3 5; have xf := rowfree RX3; simp only [List.getElem?_toArray, List.getElem?_cons_zero, List.getElem?_cons_succ] at x0 x1 x2 x3 x4 x5; have y0 := rowcell RY3 0; have y1 := rowcell RY3 1; have y2 := rowcell RY3 2; have y3 := rowcell RY3 3; have y4 := rowcell RY3 4; have y5 := rowcell RY3 5; have yf := rowfree RY3; simp only [List.getElem?_toArray, List.getElem?_cons_zero, List.getElem?_cons_succ] at y0 y1 y2 y3 y4 y5; have HB3 : Hid (Below _ _ _) := cthen B2.out hb3; clear hb3 RX3 RY3)
          | (go_at_call 46; refine (k1 _).mono ?_; rintro e w2 ⟨rfl, hb2⟩; have RX2 : Hid _ := (hb2.block w.heap.size (by simp; omega)).trans ((Below.heap_alloc (w.alloc _) _ _ (by simp)).trans (rownew w _ _)); have RY2 : Hid _ := (hb2.block (w.heap.size + 1) (by simp)).trans (rownew' _ _ _ _ (by simp)); have z2 : w.heap.size < w2.heap.size := (by have := hb2.size; simp at this; omega); have z2' : w.heap.size + 1 < w2.heap.size := (by have := hb2.size; simp at this; omega); have NX := rowcell RX2.out 0; have B2 : Hid (Below _ _ _) := cthen (cmore (cmore (Below.refl _ _) _) _) hb2; have T1 : True := trivial; have p0 := rowcell RX2.out 0; have p1 := rowcell RX2.out 1; have p2 := rowcell RX2.out 2; have p3 := rowcell RX2.out 3; have p4 := rowcell RX2.out 4; have p5 := rowcell RX2.out 5; have pf := rowfree RX2.out; simp only [List.getElem?_toArray, List.getElem?_cons_zero, List.getElem?_cons_succ] at p0 p1 p2 p3 p4 p5; have q0 := rowcell RY2.out 0; have q1 := rowcell RY2.out 1; have q2 := rowcell RY2.out 2; have q3 := rowcell RY2.out 3; have q4 := rowcell RY2.out 4; have q5 := rowcell RY2.out 5; have qf := rowfree RY2.out; simp only [List.getElem?_toArray, List.getElem?_cons_zero, List.getElem?_cons_succ] at q0 q1 q2 q3 q4 q5; clear hb2 NX))
        all_goals first | (refine hQ.out _ _ ⟨?_, HB3.out⟩; rfl) | (exfalso; omega)
  · rcases Nat.lt_trichotomy hi hi' with c | rfl | c
    · rw [if_neg (by omega), if_pos (by omega)] at hQ
      have d1 : decide ((hi : Int) < (hi' : Int)) = true := decide_eq_true (by omega)
      have d2 : ((hi : Int) == (hi' : Int)) = false := beq_eq_false_iff_ne.2 (by omega)
      cases neg
      all_goals
          go_enter Try.func23, Try.ntmps23
          go_wp2_with (first
            | (have chk := T1; clear chk; go_at_call 46; refine (k2 _).mono ?_; rintro e w3 ⟨rfl, hb3⟩; have RX3 := (hb3.block w.heap.size z2).trans RX2.out; have RY3 := (hb3.block (w.heap.size + 1) z2').trans RY2.out; have x0 := rowcell RX3 0; have x1 := rowcell RX3 1; have x2 := rowcell RX3 2; have x3 := rowcell RX3 3; have x4 := rowcell RX3 4; have x5 := rowcell RX3 5; have xf := rowfree RX3; simp only [List.getElem?_toArray, List.getElem?_cons_zero, List.getElem?_cons_succ] at x0 x1 x2 x3 x4 x5; have y0 := rowcell RY3 0; have y1 := rowcell RY3 1; have y2 := rowcell RY3 2; have y3 := rowcell RY3 3; have y4 := rowcell RY3 4; have y5 := rowcell RY3 5; have yf := rowfree RY3; simp only [List.getElem?_toArray, List.getElem?_cons_zero, List.getElem?_cons_succ] at y0 y1 y2 y3 y4 y5; have HB3 : Hid (Below _ _ _) := cthen B2.out hb3; clear hb3 RX3 RY3)
            | (go_at_call 46; refine (k1 _).mono ?_; rintro e w2 ⟨rfl, hb2⟩; have RX2 : Hid _ := (hb2.block w.heap.size (by simp; omega)).trans ((Below.heap_alloc (w.alloc _) _ _ (by simp)).trans (rownew w _ _)); have RY2 : Hid _ := (hb2.block (w.heap.size + 1) (by simp)).trans (rownew' _ _ _ _ (by simp)); have z2 : w.heap.size < w2.heap.size := (by have := hb2.size; simp at this; omega); have z2' : w.heap.size + 1 < w2.heap.size := (by have := hb2.size; simp at this; omega); have NX := rowcell RX2.out 0; have B2 : Hid (Below _ _ _) := cthen (cmore (cmore (Below.refl _ _) _) _) hb2; have T1 : True := trivial; have p0 := rowcell RX2.out 0; have p1 := rowcell RX2.out 1; have p2 := rowcell RX2.out 2; have p3 := rowcell RX2.out 3; have p4 := rowcell RX2.out 4; have p5 := rowcell RX2.out 5; have pf := rowfree RX2.out; simp only [List.getElem?_toArray, List.getElem?_cons_zero, List.getElem?_cons_succ] at p0 p1 p2 p3 p4 p5; have q0 := rowcell RY2.out 0; have q1 := rowcell RY2.out 1; have q2 := rowcell RY2.out 2; have q3 := rowcell RY2.out 3; have q4 := rowcell RY2.out 4; have q5 := rowcell RY2.out 5; have qf := rowfree RY2.out; simp only [List.getElem?_toArray, List.getElem?_cons_zero, List.getElem?_cons_succ] at q0 q1 q2 q3 q4 q5; clear hb2 NX))
          all_goals first | (refine hQ.out _ _ ⟨?_, HB3.out⟩; rfl) | (exfalso; omega)
    · rcases Nat.lt_trichotomy lo lo' with c | rfl | c
      · rw [if_neg (by omega), if_pos (by omega)] at hQ
        have d1 : decide ((lo : Int) < (lo' : Int)) = true := decide_eq_true (by omega)
        have d2 : ((lo : Int) == (lo' : Int)) = false := beq_eq_false_iff_ne.2 (by omega)
        cases neg
        all_goals
            go_enter Try.func23, Try.ntmps23
            go_wp2_with (first
              | (have chk := T1; clear chk; go_at_call 46; refine (k2 _).mono ?_; rintro e w3 ⟨rfl, hb3⟩; have RX3 := (hb3.block w.heap.size z2).trans RX2.out; have RY3 := (hb3.block (w.heap.size + 1) z2').trans RY2.out; have x0 := rowcell RX3 0; have x1 := rowcell RX3 1; have x2 := rowcell RX3 2; have x3 := rowcell RX3 3; have x4 := rowcell RX3 4; have x5 := rowcell RX3 5; have xf := rowfree RX3; simp only [List.getElem?_toArray, List.getElem?_cons_zero, List.getElem?_cons_succ] at x0 x1 x2 x3 x4 x5; have y0 := rowcell RY3 0; have y1 := rowcell RY3 1; have y2 := rowcell RY3 2; have y3 := rowcell RY3 3; have y4 := rowcell RY3 4; have y5 := rowcell RY3 5; have yf := rowfree RY3; simp only [List.getElem?_toArray, List.getElem?_cons_zero, List.getElem?_cons_succ] at y0 y1 y2 y3 y4 y5; have HB3 : Hid (Below _ _ _) := cthen B2.out hb3; clear hb3 RX3 RY3)
              | (go_at_call 46; refine (k1 _).mono ?_; rintro e w2 ⟨rfl, hb2⟩; have RX2 : Hid _ := (hb2.block w.heap.size (by simp; omega)).trans ((Below.heap_alloc (w.alloc _) _ _ (by simp)).trans (rownew w _ _)); have RY2 : Hid _ := (hb2.block (w.heap.size + 1) (by simp)).trans (rownew' _ _ _ _ (by simp)); have z2 : w.heap.size < w2.heap.size := (by have := hb2.size; simp at this; omega); have z2' : w.heap.size + 1 < w2.heap.size := (by have := hb2.size; simp at this; omega); have NX := rowcell RX2.out 0; have B2 : Hid (Below _ _ _) := cthen (cmore (cmore (Below.refl _ _) _) _) hb2; have T1 : True := trivial; have p0 := rowcell RX2.out 0; have p1 := rowcell RX2.out 1; have p2 := rowcell RX2.out 2; have p3 := rowcell RX2.out 3; have p4 := rowcell RX2.out 4; have p5 := rowcell RX2.out 5; have pf := rowfree RX2.out; simp only [List.getElem?_toArray, List.getElem?_cons_zero, List.getElem?_cons_succ] at p0 p1 p2 p3 p4 p5; have q0 := rowcell RY2.out 0; have q1 := rowcell RY2.out 1; have q2 := rowcell RY2.out 2; have q3 := rowcell RY2.out 3; have q4 := rowcell RY2.out 4; have q5 := rowcell RY2.out 5; have qf := rowfree RY2.out; simp only [List.getElem?_toArray, List.getElem?_cons_zero, List.getElem?_cons_succ] at q0 q1 q2 q3 q4 q5; clear hb2 NX))
            all_goals first | (refine hQ.out _ _ ⟨?_, HB3.out⟩; rfl) | (exfalso; omega)
      · rw [if_pos ⟨rfl, rfl, rfl⟩] at hQ
        cases neg
        all_goals
            go_enter Try.func23, Try.ntmps23
            go_wp2_with (first
              | (have chk := T1; clear chk; go_at_call 46; refine (k2 _).mono ?_; rintro e w3 ⟨rfl, hb3⟩; have RX3 := (hb3.block w.heap.size z2).trans RX2.out; have RY3 := (hb3.block (w.heap.size + 1) z2').trans RY2.out; have x0 := rowcell RX3 0; have x1 := rowcell RX3 1; have x2 := rowcell RX3 2; have x3 := rowcell RX3 3; have x4 := rowcell RX3 4; have x5 := rowcell RX3 5; have xf := rowfree RX3; simp only [List.getElem?_toArray, List.getElem?_cons_zero, List.getElem?_cons_succ] at x0 x1 x2 x3 x4 x5; have y0 := rowcell RY3 0; have y1 := rowcell RY3 1; have y2 := rowcell RY3 2; have y3 := rowcell RY3 3; have y4 := rowcell RY3 4; have y5 := rowcell RY3 5; have yf := rowfree RY3; simp only [List.getElem?_toArray, List.getElem?_cons_zero, List.getElem?_cons_succ] at y0 y1 y2 y3 y4 y5; have HB3 : Hid (Below _ _ _) := cthen B2.out hb3; clear hb3 RX3 RY3)
              | (go_at_call 46; refine (k1 _).mono ?_; rintro e w2 ⟨rfl, hb2⟩; have RX2 : Hid _ := (hb2.block w.heap.size (by simp; omega)).trans ((Below.heap_alloc (w.alloc _) _ _ (by simp)).trans (rownew w _ _)); have RY2 : Hid _ := (hb2.block (w.heap.size + 1) (by simp)).trans (rownew' _ _ _ _ (by simp)); have z2 : w.heap.size < w2.heap.size := (by have := hb2.size; simp at this; omega); have z2' : w.heap.size + 1 < w2.heap.size := (by have := hb2.size; simp at this; omega); have NX := rowcell RX2.out 0; have B2 : Hid (Below _ _ _) := cthen (cmore (cmore (Below.refl _ _) _) _) hb2; have T1 : True := trivial; have p0 := rowcell RX2.out 0; have p1 := rowcell RX2.out 1; have p2 := rowcell RX2.out 2; have p3 := rowcell RX2.out 3; have p4 := rowcell RX2.out 4; have p5 := rowcell RX2.out 5; have pf := rowfree RX2.out; simp only [List.getElem?_toArray, List.getElem?_cons_zero, List.getElem?_cons_succ] at p0 p1 p2 p3 p4 p5; have q0 := rowcell RY2.out 0; have q1 := rowcell RY2.out 1; have q2 := rowcell RY2.out 2; have q3 := rowcell RY2.out 3; have q4 := rowcell RY2.out 4; have q5 := rowcell RY2.out 5; have qf := rowfree RY2.out; simp only [List.getElem?_toArray, List.getElem?_cons_zero, List.getElem?_cons_succ] at q0 q1 q2 q3 q4 q5; clear hb2 NX))
            all_goals first | (refine hQ.out _ _ ⟨?_, HB3.out⟩; rfl) | (exfalso; omega)
      · rw [if_neg (by omega), if_neg (by omega)] at hQ
        have d1 : decide ((lo : Int) < (lo' : Int)) = false := decide_eq_false (by omega)
        have d2 : ((lo : Int) == (lo' : Int)) = false := beq_eq_false_iff_ne.2 (by omega)
        cases neg
        all_goals
            go_enter Try.func23, Try.ntmps23
            go_wp2_with (first
              | (have chk := T1; clear chk; go_at_call 46; refine (k2 _).mono ?_; rintro e w3 ⟨rfl, hb3⟩; have RX3 := (hb3.block w.heap.size z2).trans RX2.out; have RY3 := (hb3.block (w.heap.size + 1) z2').trans RY2.out; have x0 := rowcell RX3 0; have x1 := rowcell RX3 1; have x2 := rowcell RX3 2; have x3 := rowcell RX3 3; have x4 := rowcell RX3 4; have x5 := rowcell RX3 5; have xf := rowfree RX3; simp only [List.getElem?_toArray, List.getElem?_cons_zero, List.getElem?_cons_succ] at x0 x1 x2 x3 x4 x5; have y0 := rowcell RY3 0; have y1 := rowcell RY3 1; have y2 := rowcell RY3 2; have y3 := rowcell RY3 3; have y4 := rowcell RY3 4; have y5 := rowcell RY3 5; have yf := rowfree RY3; simp only [List.getElem?_toArray, List.getElem?_cons_zero, List.getElem?_cons_succ] at y0 y1 y2 y3 y4 y5; have HB3 : Hid (Below _ _ _) := cthen B2.out hb3; clear hb3 RX3 RY3)
              | (go_at_call 46; refine (k1 _).mono ?_; rintro e w2 ⟨rfl, hb2⟩; have RX2 : Hid _ := (hb2.block w.heap.size (by simp; omega)).trans ((Below.heap_alloc (w.alloc _) _ _ (by simp)).trans (rownew w _ _)); have RY2 : Hid _ := (hb2.block (w.heap.size + 1) (by simp)).trans (rownew' _ _ _ _ (by simp)); have z2 : w.heap.size < w2.heap.size := (by have := hb2.size; simp at this; omega); have z2' : w.heap.size + 1 < w2.heap.size := (by have := hb2.size; simp at this; omega); have NX := rowcell RX2.out 0; have B2 : Hid (Below _ _ _) := cthen (cmore (cmore (Below.refl _ _) _) _) hb2; have T1 : True := trivial; have p0 := rowcell RX2.out 0; have p1 := rowcell RX2.out 1; have p2 := rowcell RX2.out 2; have p3 := rowcell RX2.out 3; have p4 := rowcell RX2.out 4; have p5 := rowcell RX2.out 5; have pf := rowfree RX2.out; simp only [List.getElem?_toArray, List.getElem?_cons_zero, List.getElem?_cons_succ] at p0 p1 p2 p3 p4 p5; have q0 := rowcell RY2.out 0; have q1 := rowcell RY2.out 1; have q2 := rowcell RY2.out 2; have q3 := rowcell RY2.out 3; have q4 := rowcell RY2.out 4; have q5 := rowcell RY2.out 5; have qf := rowfree RY2.out; simp only [List.getElem?_toArray, List.getElem?_cons_zero, List.getElem?_cons_succ] at q0 q1 q2 q3 q4 q5; clear hb2 NX))
            all_goals first | (refine hQ.out _ _ ⟨?_, HB3.out⟩; rfl) | (exfalso; omega)
    · rw [if_neg (by omega), if_neg (by omega)] at hQ
      have d1 : decide ((hi : Int) < (hi' : Int)) = false := decide_eq_false (by omega)
      have d2 : ((hi : Int) == (hi' : Int)) = false := beq_eq_false_iff_ne.2 (by omega)
      cases neg
      all_goals
          go_enter Try.func23, Try.ntmps23
          go_wp2_with (first
            | (have chk := T1; clear chk; go_at_call 46; refine (k2 _).mono ?_; rintro e w3 ⟨rfl, hb3⟩; have RX3 := (hb3.block w.heap.size z2).trans RX2.out; have RY3 := (hb3.block (w.heap.size + 1) z2').trans RY2.out; have x0 := rowcell RX3 0; have x1 := rowcell RX3 1; have x2 := rowcell RX3 2; have x3 := rowcell RX3 3; have x4 := rowcell RX3 4; have x5 := rowcell RX3 5; have xf := rowfree RX3; simp only [List.getElem?_toArray, List.getElem?_cons_zero, List.getElem?_cons_succ] at x0 x1 x2 x3 x4 x5; have y0 := rowcell RY3 0; have y1 := rowcell RY3 1; have y2 := rowcell RY3 2; have y3 := rowcell RY3 3; have y4 := rowcell RY3 4; have y5 := rowcell RY3 5; have yf := rowfree RY3; simp only [List.getElem?_toArray, List.getElem?_cons_zero, List.getElem?_cons_succ] at y0 y1 y2 y3 y4 y5; have HB3 : Hid (Below _ _ _) := cthen B2.out hb3; clear hb3 RX3 RY3)
            | (go_at_call 46; refine (k1 _).mono ?_; rintro e w2 ⟨rfl, hb2⟩; have RX2 : Hid _ := (hb2.block w.heap.size (by simp; omega)).trans ((Below.heap_alloc (w.alloc _) _ _ (by simp)).trans (rownew w _ _)); have RY2 : Hid _ := (hb2.block (w.heap.size + 1) (by simp)).trans (rownew' _ _ _ _ (by simp)); have z2 : w.heap.size < w2.heap.size := (by have := hb2.size; simp at this; omega); have z2' : w.heap.size + 1 < w2.heap.size := (by have := hb2.size; simp at this; omega); have NX := rowcell RX2.out 0; have B2 : Hid (Below _ _ _) := cthen (cmore (cmore (Below.refl _ _) _) _) hb2; have T1 : True := trivial; have p0 := rowcell RX2.out 0; have p1 := rowcell RX2.out 1; have p2 := rowcell RX2.out 2; have p3 := rowcell RX2.out 3; have p4 := rowcell RX2.out 4; have p5 := rowcell RX2.out 5; have pf := rowfree RX2.out; simp only [List.getElem?_toArray, List.getElem?_cons_zero, List.getElem?_cons_succ] at p0 p1 p2 p3 p4 p5; have q0 := rowcell RY2.out 0; have q1 := rowcell RY2.out 1; have q2 := rowcell RY2.out 2; have q3 := rowcell RY2.out 3; have q4 := rowcell RY2.out 4; have q5 := rowcell RY2.out 5; have qf := rowfree RY2.out; simp only [List.getElem?_toArray, List.getElem?_cons_zero, List.getElem?_cons_succ] at q0 q1 q2 q3 q4 q5; clear hb2 NX))
          all_goals first | (refine hQ.out _ _ ⟨?_, HB3.out⟩; rfl) | (exfalso; omega)
  · rw [if_neg (by omega), if_neg (by omega)] at hQ
    have d1 : decide (s < s') = false := decide_eq_false (by omega)
    have d2 : (s == s') = false := beq_eq_false_iff_ne.2 (by omega)
    cases neg
    all_goals
        go_enter Try.func23, Try.ntmps23
        go_wp2_with (first
          | (have chk := T1; clear chk; go_at_call 46; refine (k2 _).mono ?_; rintro e w3 ⟨rfl, hb3⟩; have RX3 := (hb3.block w.heap.size z2).trans RX2.out; have RY3 := (hb3.block (w.heap.size + 1) z2').trans RY2.out; have x0 := rowcell RX3 0; have x1 := rowcell RX3 1; have x2 := rowcell RX3 2; have x3 := rowcell RX3 3; have x4 := rowcell RX3 4; have x5 := rowcell RX3 5; have xf := rowfree RX3; simp only [List.getElem?_toArray, List.getElem?_cons_zero, List.getElem?_cons_succ] at x0 x1 x2 x3 x4 x5; have y0 := rowcell RY3 0; have y1 := rowcell RY3 1; have y2 := rowcell RY3 2; have y3 := rowcell RY3 3; have y4 := rowcell RY3 4; have y5 := rowcell RY3 5; have yf := rowfree RY3; simp only [List.getElem?_toArray, List.getElem?_cons_zero, List.getElem?_cons_succ] at y0 y1 y2 y3 y4 y5; have HB3 : Hid (Below _ _ _) := cthen B2.out hb3; clear hb3 RX3 RY3)
          | (go_at_call 46; refine (k1 _).mono ?_; rintro e w2 ⟨rfl, hb2⟩; have RX2 : Hid _ := (hb2.block w.heap.size (by simp; omega)).trans ((Below.heap_alloc (w.alloc _) _ _ (by simp)).trans (rownew w _ _)); have RY2 : Hid _ := (hb2.block (w.heap.size + 1) (by simp)).trans (rownew' _ _ _ _ (by simp)); have z2 : w.heap.size < w2.heap.size := (by have := hb2.size; simp at this; omega); have z2' : w.heap.size + 1 < w2.heap.size := (by have := hb2.size; simp at this; omega); have NX := rowcell RX2.out 0; have B2 : Hid (Below _ _ _) := cthen (cmore (cmore (Below.refl _ _) _) _) hb2; have T1 : True := trivial; have p0 := rowcell RX2.out 0; have p1 := rowcell RX2.out 1; have p2 := rowcell RX2.out 2; have p3 := rowcell RX2.out 3; have p4 := rowcell RX2.out 4; have p5 := rowcell RX2.out 5; have pf := rowfree RX2.out; simp only [List.getElem?_toArray, List.getElem?_cons_zero, List.getElem?_cons_succ] at p0 p1 p2 p3 p4 p5; have q0 := rowcell RY2.out 0; have q1 := rowcell RY2.out 1; have q2 := rowcell RY2.out 2; have q3 := rowcell RY2.out 3; have q4 := rowcell RY2.out 4; have q5 := rowcell RY2.out 5; have qf := rowfree RY2.out; simp only [List.getElem?_toArray, List.getElem?_cons_zero, List.getElem?_cons_succ] at q0 q1 q2 q3 q4 q5; clear hb2 NX))
        all_goals first | (refine hQ.out _ _ ⟨?_, HB3.out⟩; rfl) | (exfalso; omega)
end Go.Proofs.Ytajlgpamcpgalaa

namespace Go.Proofs.Ytajlgpamcpgalaa
open Go.ChangeShapes Go.WideShapes Go.ChangeAt Go.RowKit
set_option linter.unusedVariables false
set_option linter.unusedSimpArgs false
set_option maxRecDepth 100000

/-! ### a scale within the bound -/
def heldX (s : Int) : Int := if s < -1099511627776 then -1099511627776 else if s > 1099511627776 then 1099511627776 else s
theorem held7_any (s : Int) (w : World) :
    Calls Try.prog 54 #[.int .i64 s] w fun e w' => e = .returned (.int .i64 (heldX s)) ∧ w' = w := by
  unfold heldX
  refine cps fun Q hQ => ?_
  by_cases h1 : s < -1099511627776
  · rw [if_pos h1] at hQ
    go_enter Try.func54, Try.ntmps54
    go_wp2
    exact hQ.out _ _ ⟨rfl, rfl⟩
  · rw [if_neg h1] at hQ
    have d1 : decide (s < -1099511627776) = false := decide_eq_false h1
    by_cases h2 : s > 1099511627776
    · rw [if_pos h2] at hQ
      have d2 : decide ((1099511627776 : Int) < s) = true := decide_eq_true h2
      go_enter Try.func54, Try.ntmps54
      go_wp2
      exact hQ.out _ _ ⟨rfl, rfl⟩
    · rw [if_neg h2] at hQ
      have d2 : decide ((1099511627776 : Int) < s) = false := decide_eq_false (by omega)
      go_enter Try.func54, Try.ntmps54
      go_wp2
      exact hQ.out _ _ ⟨rfl, rfl⟩
end Go.Proofs.Ytajlgpamcpgalaa

namespace Go.Proofs.Ytajlgpamcpgalaa

/-! ### numbers as rows of digits of 24 bits, the lowest first -/
/-- what stands from digit k on -/
def top (n : Nat) : Nat → Nat
  | 0 => n
  | k + 1 => top n k / 16777216
theorem top_zero (n : Nat) : top n 0 = n := rfl
theorem top_succ (n k : Nat) : top n (k + 1) = top n k / 16777216 := rfl
theorem top_succ' (n k : Nat) : top n (k + 1) = top (n / 16777216) k := by
  induction k with
  | zero => rfl
  | succ k ih => rw [top_succ, ih, top_succ]
theorem top_eq (n k : Nat) : top n k = n / 16777216 ^ k := by
  induction k with
  | zero => simp [top]
  | succ k ih => rw [top_succ, ih, Nat.div_div_eq_div_mul, Nat.pow_succ]
theorem top_add (n j k : Nat) : top n (j + k) = top (top n j) k := by
  induction k with
  | zero => rfl
  | succ k ih => rw [← Nat.add_assoc, top_succ, ih, top_succ]
theorem top_zero_left (k : Nat) : top 0 k = 0 := by
  induction k with
  | zero => rfl
  | succ k ih => rw [top_succ, ih]
theorem top_mono (n : Nat) {j k : Nat} (h : j ≤ k) : top n k ≤ top n j := by
  obtain ⟨i, rfl⟩ := Nat.exists_eq_add_of_le h
  induction i with
  | zero => exact Nat.le_refl _
  | succ i ih => have := ih (by omega); rw [← Nat.add_assoc, top_succ]; omega
theorem top_div (n m k : Nat) : top (n / m) k = top n k / m := by
  rw [top_eq, top_eq, Nat.div_div_eq_div_mul, Nat.div_div_eq_div_mul, Nat.mul_comm]

/-- the lowest k digits -/
def low (n k : Nat) : List Nat := (List.range k).map fun i => top n i % 16777216
theorem low_length (n k : Nat) : (low n k).length = k := by simp [low]
theorem low_zero (n : Nat) : low n 0 = [] := rfl
theorem low_snoc (n k : Nat) : low n (k + 1) = low n k ++ [top n k % 16777216] := by simp [low, List.range_succ]
theorem low_cons (n k : Nat) : low n (k + 1) = n % 16777216 :: low (n / 16777216) k := by
  simp only [low, List.range_succ_eq_map, List.map_cons, List.map_map, top_zero]
  congr 1
  apply List.map_congr_left
  intro i _
  simp [top_succ']
theorem low_get (n k i : Nat) (h : i < k) : (low n k).getD i 0 = top n i % 16777216 := by
  simp [low, h]

def dig (n : Nat) : List Nat := if h : n = 0 then [] else n % 16777216 :: dig (n / 16777216)
theorem dig_zero : dig 0 = [] := by unfold dig; simp
theorem dig_pos {n : Nat} (h : n ≠ 0) : dig n = n % 16777216 :: dig (n / 16777216) := by
  conv => lhs; unfold dig
  simp [h]
/-- how many digits -/
def dlen (n : Nat) : Nat := (dig n).length
theorem dlen_zero : dlen 0 = 0 := by simp [dlen, dig_zero]
theorem dlen_pos {n : Nat} (h : n ≠ 0) : dlen n = dlen (n / 16777216) + 1 := by simp [dlen, dig_pos h]
theorem dlen_eq_zero {n : Nat} : dlen n = 0 ↔ n = 0 := by
  constructor
  · intro h; by_cases h0 : n = 0
    · exact h0
    · rw [dlen_pos h0] at h; omega
  · rintro rfl; exact dlen_zero
theorem top_pos_iff (n k : Nat) : 0 < top n k ↔ k < dlen n := by
  induction k generalizing n with
  | zero =>
    rw [top_zero]
    by_cases h : n = 0
    · subst h; simp [dlen_zero]
    · rw [dlen_pos h]; omega
  | succ k ih =>
    rw [top_succ', ih]
    by_cases h : n = 0
    · subst h; simp [dlen_zero]
    · rw [dlen_pos h]; omega
theorem top_eq_zero {n k : Nat} (h : dlen n ≤ k) : top n k = 0 := by
  by_cases hc : 0 < top n k
  · have := (top_pos_iff n k).1 hc; omega
  · omega
theorem low_dlen (n : Nat) : low n (dlen n) = dig n := by
  induction n using Nat.strongRecOn with
  | _ n ih =>
    by_cases h : n = 0
    · subst h; simp [dlen_zero, low_zero, dig_zero]
    · rw [dlen_pos h, low_cons, ih _ (by omega), ← dig_pos h]
theorem low_more (n k : Nat) : low n (dlen n + k) = dig n ++ List.replicate k 0 := by
  induction k with
  | zero => simp [low_dlen]
  | succ k ih => rw [← Nat.add_assoc, low_snoc, ih, top_eq_zero (by omega), List.append_assoc, List.replicate_succ']
theorem low_ge {n m : Nat} (h : dlen n ≤ m) : low n m = dig n ++ List.replicate (m - dlen n) 0 := by
  obtain ⟨k, rfl⟩ := Nat.exists_eq_add_of_le h
  rw [low_more]; congr 2; omega
theorem dig_get (n k : Nat) : (dig n).getD k 0 = top n k % 16777216 := by
  by_cases h : k < dlen n
  · rw [← low_dlen, low_get _ _ _ h]
  · rw [top_eq_zero (by omega), List.getD_eq_getElem?_getD, List.getElem?_eq_none (by unfold dlen at h; omega)]; rfl
theorem dig_length (n : Nat) : (dig n).length = dlen n := rfl
theorem dlen_mono {a b : Nat} (h : a ≤ b) : dlen a ≤ dlen b := by
  by_cases hc : dlen a ≤ dlen b
  · exact hc
  · have h1 : 0 < top a (dlen b) := (top_pos_iff a _).2 (by omega)
    have h2 : top b (dlen b) = 0 := top_eq_zero (Nat.le_refl _)
    rw [top_eq] at h1 h2
    have := Nat.div_le_div_right (c := 16777216 ^ dlen b) h
    omega
theorem dlen_le_of_lt {n k : Nat} (h : n < 16777216 ^ k) : dlen n ≤ k := by
  by_cases hc : dlen n ≤ k
  · exact hc
  · have h1 : 0 < top n k := (top_pos_iff n _).2 (by omega)
    rw [top_eq, Nat.div_eq_of_lt h] at h1; omega
theorem lt_of_dlen_le {n k : Nat} (h : dlen n ≤ k) : n < 16777216 ^ k := by
  have h1 := top_eq_zero h
  rw [top_eq] at h1
  exact (Nat.div_eq_zero_iff.1 h1).resolve_left (Nat.ne_of_gt (Nat.pow_pos (by decide)))
/-- the last digit is not nought -/
theorem dig_last {n : Nat} (h : n ≠ 0) : top n (dlen n - 1) % 16777216 ≠ 0 ∧ top n (dlen n - 1) = top n (dlen n - 1) % 16777216 := by
  have h1 : 0 < dlen n := by rw [dlen_pos h]; omega
  have h2 : 0 < top n (dlen n - 1) := (top_pos_iff _ _).2 (by omega)
  have h3 : top n (dlen n - 1 + 1) = 0 := top_eq_zero (by omega)
  rw [top_succ] at h3
  omega

/-- the number that a row of digits is -/
def val : List Nat → Nat
  | [] => 0
  | d :: l => d + 16777216 * val l
theorem val_cons (d : Nat) (l : List Nat) : val (d :: l) = d + 16777216 * val l := rfl
theorem val_append (l m : List Nat) : val (l ++ m) = val l + 16777216 ^ l.length * val m := by
  induction l with
  | nil => simp [val]
  | cons d l ih => simp only [List.cons_append, val_cons, ih, List.length_cons, Nat.pow_succ, Nat.mul_add]; rw [Nat.mul_comm (16777216 ^ l.length) 16777216, Nat.mul_assoc]; omega
theorem val_low (l : List Nat) (h : ∀ d ∈ l, d < 16777216) : low (val l) l.length = l := by
  induction l with
  | nil => rfl
  | cons d l ih =>
    have hd := h d (by simp)
    rw [List.length_cons, low_cons]
    have e1 : val (d :: l) % 16777216 = d := by rw [val_cons]; omega
    have e2 : val (d :: l) / 16777216 = val l := by rw [val_cons]; omega
    rw [e1, e2, ih (fun x hx => h x (by simp [hx]))]
theorem val_dig (n : Nat) : val (dig n) = n := by
  induction n using Nat.strongRecOn with
  | _ n ih =>
    by_cases h : n = 0
    · subst h; simp [dig_zero, val]
    · rw [dig_pos h, val_cons, ih _ (by omega)]; omega
theorem val_lt (l : List Nat) (h : ∀ d ∈ l, d < 16777216) : val l < 16777216 ^ l.length := by
  induction l with
  | nil => simp [val]
  | cons d l ih =>
    have hd := h d (by simp)
    have := ih (fun x hx => h x (by simp [hx]))
    rw [val_cons, List.length_cons, Nat.pow_succ]
    omega
theorem low_mem (n k d : Nat) (h : d ∈ low n k) : d < 16777216 := by
  simp only [low, List.mem_map] at h
  obtain ⟨i, _, rfl⟩ := h
  omega
theorem dig_mem (n d : Nat) (h : d ∈ dig n) : d < 16777216 := by rw [← low_dlen] at h; exact low_mem _ _ _ h
theorem dig_drop (n q : Nat) : (dig n).drop q = dig (top n q) := by
  induction q generalizing n with
  | zero => rfl
  | succ q ih =>
    by_cases h : n = 0
    · subst h; simp [dig_zero, top_zero_left]
    · rw [dig_pos h, List.drop_succ_cons, ih, top_succ']
theorem dig_shift {n : Nat} (h : n ≠ 0) (q : Nat) : dig (n * 16777216 ^ q) = List.replicate q 0 ++ dig n := by
  induction q with
  | zero => simp
  | succ q ih =>
    have hp : 0 < 16777216 ^ q := Nat.pow_pos (by decide)
    have h1 : n * 16777216 ^ (q + 1) ≠ 0 := Nat.mul_ne_zero h (Nat.ne_of_gt (Nat.pow_pos (by decide)))
    have e : n * 16777216 ^ (q + 1) = (n * 16777216 ^ q) * 16777216 := by rw [Nat.pow_succ, Nat.mul_assoc]
    rw [dig_pos h1, e, Nat.mul_mod_left, Nat.mul_div_cancel _ (by decide), ih, List.replicate_succ, List.cons_append]
theorem low_zeros (k : Nat) : low 0 k = List.replicate k 0 := by
  have := low_more 0 k
  rw [dlen_zero, dig_zero] at this; simpa using this
theorem dlen_top (n q : Nat) : dlen (top n q) = dlen n - q := by
  have := congrArg List.length (dig_drop n q)
  rw [List.length_drop] at this; unfold dlen; omega
/-- comparing: the first digit from above that differs -/
theorem cmp_len {a b : Nat} (h : dlen a < dlen b) : a < b := by
  by_cases hc : a < b
  · exact hc
  · have := dlen_mono (a := b) (b := a) (by omega); omega
theorem cmp_top {a b k : Nat} (h : top a k < top b k) : a < b := by
  by_cases hc : a < b
  · exact hc
  · rw [top_eq, top_eq] at h
    have := Nat.div_le_div_right (a := b) (b := a) (c := 16777216 ^ k) (by omega)
    omega
end Go.Proofs.Ytajlgpamcpgalaa

namespace Go.Proofs.Ytajlgpamcpgalaa
open Go.ChangeShapes Go.WideShapes Go.ChangeAt Go.RowKit
set_option linter.unusedVariables false
set_option maxRecDepth 100000

/-! ### rows of ints that are read -/
def enc (d : Nat) : Value := .int .i64 (d : Int)
/-- v is a slice of ints that reads as l in w -/
def Row (w : World) (v : Value) (l : List Nat) : Prop :=
  ∃ ao c, v = .slice ao l.length c ∧ c ≤ 9223372036854775807 ∧ l.length ≤ c ∧
    ((ao = none ∧ l = [] ∧ c = 0) ∨ ∃ b off, ao = some ⟨b, off, none⟩ ∧ b < w.heap.size ∧ ∀ j, j < l.length → w.cell? ⟨b, off + j, none⟩ = some (.int .i64 (l.getD j 0 : Nat)))
theorem Row.below {w w' : World} {v : Value} {l : List Nat} (h : Row w v l) (hb : Below w.heap.size w w') : Row w' v l := by
  obtain ⟨ao, c, rfl, hc, hl, h⟩ := h
  refine ⟨ao, c, rfl, hc, hl, ?_⟩
  rcases h with h | ⟨b, off, rfl, hlt, h⟩
  · exact .inl h
  · exact .inr ⟨b, off, rfl, Nat.lt_of_lt_of_le hlt hb.size, fun j hj => (hb.cell (p := ⟨b, off + j, none⟩) hlt).trans (h j hj)⟩
theorem row_nil (w : World) : Row w (.slice none 0 0) [] := ⟨none, 0, rfl, by decide, by decide, .inl ⟨rfl, rfl, rfl⟩⟩
theorem row_own {w : World} {base n : Nat} {e : TypeId} {v : Value} {l : List Nat} (h : w.ownsRow base e 1 v n (l.map enc)) : Row w v l := by
  obtain ⟨h1, h2⟩ := h
  rcases h2 with ⟨rfl, rfl⟩ | ⟨g, cap, cur, rfl, _, hg, hn, hcap, hsz, ht⟩
  · have : l = [] := by simpa using h1
    subst this; exact row_nil w
  · have hl : l.length = n := by simpa using h1
    subst hl
    unfold maxLen at hcap
    refine ⟨_, cap, rfl, by omega, hn, .inr ⟨g, 0, rfl, ?_, ?_⟩⟩
    · exact (Array.getElem?_eq_some_iff.1 hg).1
    · intro j hj
      have hc : cur[j]? = some (.int .i64 (l.getD j 0 : Nat)) := by
        have e1 : (cur.toList.take (l.length * 1))[j]? = (l.map enc)[j]? := by rw [ht]
        rw [List.getElem?_take_of_lt (by omega)] at e1
        simpa [hj, enc] using e1
      simp [World.cell?, hg, hc]
/-- how a row goes into a walk -/
theorem Row.out {w : World} {v : Value} {l : List Nat} (h : Row w v l) : ∃ ao c, v = .slice ao l.length c ∧ c ≤ 9223372036854775807 ∧ l.length ≤ c ∧
    (l.length = 0 ∨ ∃ b off, ao = some ⟨b, off, none⟩ ∧ ∀ j, j < l.length → w.cell? ⟨b, off + j, none⟩ = some (.int .i64 (l.getD j 0 : Nat))) := by
  obtain ⟨ao, c, rfl, hc, hl, h⟩ := h
  refine ⟨ao, c, rfl, hc, hl, ?_⟩
  rcases h with ⟨_, rfl, _⟩ | ⟨b, off, rfl, _, h⟩
  · exact .inl rfl
  · exact .inr ⟨b, off, rfl, h⟩

theorem infoInt : (Try.prog.info? 3).map (fun i => (i.zero, i.size, i.bytes)) = some (some (.int .i64 0), 1, 8) := by kernel_rfl

theorem digit_any (v : Value) (l : List Nat) (i : Nat) (hi : i < 4611686018427387904) (w : World) (hr : Row w v l) :
    Calls Try.prog 50 #[v, .int .i64 i] w fun e w' => e = .returned (.int .i64 (l.getD i 0 : Nat)) ∧ w' = w := by
  obtain ⟨ao, c, rfl, hc, hl, h⟩ := hr.out
  clear hr
  refine cps fun Q hQ => ?_
  by_cases hlt : i < l.length
  · rcases h with h | ⟨b, off, rfl, h⟩
    · omega
    have hcell := h i hlt
    generalize l.getD i 0 = d at *
    generalize l.length = n at *
    go_enter Try.func50, Try.ntmps50
    go_wp2
    exact hQ.out _ _ ⟨rfl, rfl⟩
  · have hz : l.getD i 0 = 0 := by rw [List.getD_eq_getElem?_getD, List.getElem?_eq_none (by omega)]; rfl
    rw [hz] at hQ
    generalize l.length = n at *
    go_enter Try.func50, Try.ntmps50
    go_wp2
    exact hQ.out _ _ ⟨rfl, rfl⟩

theorem digit_dig (v : Value) (n i d : Nat) (hi : i < 4611686018427387904) (w : World) (hr : Row w v (dig n)) (hd : d = top n i % 16777216) :
    Calls Try.prog 50 #[v, .int .i64 i] w fun e w' => e = .returned (.int .i64 d) ∧ w' = w := by
  rw [hd, ← dig_get]; exact digit_any v _ i hi w hr
/-- a number's slice, as the walk wants it -/
theorem Row.num {w : World} {v : Value} {n : Nat} (h : Row w v (dig n)) : ∃ ao c, v = .slice ao (dlen n) c ∧ c ≤ 9223372036854775807 ∧ dlen n ≤ c := by
  obtain ⟨ao, c, rfl, hc, hl, _⟩ := h
  exact ⟨ao, c, rfl, hc, hl⟩

set_option maxHeartbeats 1000000 in
theorem of_any (x : Nat) (hx : x < 2 ^ 64) (w : World) :
    Calls Try.prog 28 #[.int .u64 x] w fun e w' => ∃ v, e = .returned v ∧ Row w' v (dig x) ∧ Below w.heap.size w w' := by
  refine cps fun Q hQ => ?_
  have hx : x ≤ 18446744073709551615 := by omega
  obtain ⟨i0, hi, hz0, hz1, hz2⟩ := info_parts infoInt
  have hd3 : dlen x ≤ 3 := dlen_le_of_lt (by omega)
  go_enter Try.func28, Try.ntmps28
  go_wp2
  go_loopw [0, 3] (fun a v wr => ∃ k V : Nat, k ≤ dlen x ∧ V = top x k ∧ V ≤ 18446744073709551615 ∧ a = .int .u64 V ∧ wr.ownsRow w.heap.size 3 1 v k ((low x k).map enc) ∧ Below w.heap.size w wr) (fun a _ _ => (intOf a).toNat)
  case atStart => exact ⟨0, x, Nat.zero_le _, rfl, hx, rfl, World.ownsRow_nil _ _ _ _, Below.refl _ _⟩
  case round =>
    obtain ⟨k, V, hk, hV, hb, rfl, hown, hbel⟩ := hrel
    have hp := top_pos_iff x k
    have HV : Hid (V = top x k) := hV
    rw [← hV] at hp
    clear hV
    by_cases h0 : 0 < V
    · have hk1 := hp.1 h0
      have HK : Hid (dlen x ≤ 3) := hd3
      have hsz := hbel.size
      clear hp hd3
      go_wp2_with (at_builtin; go_must (refine append1 rfl _ _ _ rfl w.heap.size 3 i0 (.int .i64 0) 8 Try.underlying63 hi hz0 hz1 hz2 rfl _ _ _ hown rfl rfl rfl (by have := HK.out; omega) (by decide) hsz ?_); intro v' w1 hown' hbel' _ _)
      go_roundw
      case rel => 
        refine ⟨k + 1, V / 16777216, by omega, ?_, by omega, by go_num, ?_, hbel.trans hbel'⟩
        · rw [HV.out]; rfl
        · rw [low_snoc, ← HV.out, List.map_append]; exact hown'
      case measure => simp [intOf]; omega
    · have hk1 : k = dlen x := by have := hp.2; omega
      subst hk1
      rw [low_dlen] at hown
      go_wp2
      exact hQ.out _ _ ⟨_, rfl, row_own hown, hbel⟩

/-- 'l[:n]' of a row -/
theorem Row.take {w : World} {ao : Option Addr} {c k : Nat} {l : List Nat} (h : Row w (.slice ao k c) l) (n : Nat) (hn : n ≤ l.length) : Row w (.slice ao n c) (l.take n) := by
  obtain ⟨ao', c', he, hc, hl, h⟩ := h
  injection he with e1 e2 e3
  subst e1 e2 e3
  have e : (l.take n).length = n := by rw [List.length_take]; omega
  refine ⟨ao, c, by rw [e], hc, by omega, ?_⟩
  rcases h with ⟨h1, h2, h3⟩ | ⟨b, off, h1, h2, h3⟩
  · exact .inl ⟨h1, by rw [h2]; simp, h3⟩
  · refine .inr ⟨b, off, h1, h2, fun j hj => ?_⟩
    rw [e] at hj
    rw [h3 j (by omega), List.getD_eq_getElem?_getD, List.getD_eq_getElem?_getD, List.getElem?_take_of_lt hj]

set_option maxHeartbeats 1000000 in
theorem cut_own (v : Value) (l : List Nat) (D z : Nat) (hD : l = dig D ++ List.replicate z 0) (w : World) (hr : Row w v l) :
    Calls Try.prog 73 #[v] w fun e w' => ∃ v', e = .returned v' ∧ Row w v' (dig D) ∧ w' = w ∧ v'.ownBlock = v.ownBlock := by
  have HT : Hid (l.take (dlen D) = dig D) := by rw [hD]; exact List.take_left' rfl
  have hlen : l.length = dlen D + z := by rw [hD]; simp [dlen]
  have hget : ∀ j, j < l.length → l.getD j 0 = (dig D).getD j 0 := by
    intro j hj
    rw [hD, List.getD_eq_getElem?_getD, List.getElem?_append]
    split
    · rw [List.getD_eq_getElem?_getD]
    · rename_i h
      rw [List.getElem?_replicate, List.getD_eq_getElem?_getD, List.getElem?_eq_none (by omega)]
      split <;> rfl
  have HR : Hid (Row w v l) := hr
  obtain ⟨ao, c, rfl, hc, hl, h⟩ := hr.out
  clear hr
  refine cps fun Q hQ => ?_
  have HG : Hid (∀ j, j < l.length → l.getD j 0 = (dig D).getD j 0) := hget
  clear hget hD
  have hle : dlen D ≤ l.length := by omega
  have HL : Hid (l.length = dlen D + z) := hlen
  clear hlen
  generalize hdD : dlen D = m at *
  have HM : Hid (dlen D = m) := hdD
  clear hdD
  go_enter Try.func73, Try.ntmps73
  go_wp2
  go_loop [3] (fun a => ∃ n : Nat, m ≤ n ∧ n ≤ l.length ∧ a = .int .i64 n) (fun a => (intOf a).toNat)
  case atStart => exact ⟨l.length, by omega, by omega, rfl⟩
  case round =>
    obtain ⟨n, hn1, hn2, rfl⟩ := hrel
    by_cases h0 : 0 < n
    · rcases h with h | ⟨b, off, rfl, h⟩
      · omega
      have hcell := h (n - 1) (by omega)
      have hg := HG.out (n - 1) (by omega)
      rw [hg] at hcell
      clear hg
      by_cases hlt : m < n
      · have hz : (dig D).getD (n - 1) 0 = 0 := by
          rw [dig_get, top_eq_zero (by have := HM.out; omega)]
        rw [hz] at hcell
        clear hz h
        go_wp2
        go_round
        case rel => exact ⟨n - 1, by omega, by omega, by go_num⟩
        case measure => simp [intOf]; omega
      · have hnm : n = m := by omega
        subst hnm
        have hne : (dig D).getD (n - 1) 0 ≠ 0 := by
          rw [dig_get]
          have := HM.out
          have hD0 : D ≠ 0 := by intro h; rw [h, dlen_zero] at this; omega
          have := (dig_last hD0).1
          rw [HM.out] at this
          exact this
        generalize (dig D).getD (n - 1) 0 = d at *
        clear h
        have hne' : 0 < d := by omega
        go_wp2
        have HT' := HR.out.take n (by omega)
        rw [HT.out] at HT'
        exact hQ.out _ _ ⟨_, rfl, HT', rfl, rfl⟩
    · have hn0 : n = 0 := by omega
      subst hn0
      go_wp2
      have HT' := HR.out.take 0 (by omega)
      have e0 : 0 = m := by omega
      rw [e0, HT.out] at HT'
      rw [e0]
      exact hQ.out _ _ ⟨_, rfl, HT', rfl, by cases ao <;> rfl⟩

theorem cut_any (v : Value) (l : List Nat) (D z : Nat) (hD : l = dig D ++ List.replicate z 0) (w : World) (hr : Row w v l) :
    Calls Try.prog 73 #[v] w fun e w' => ∃ v', e = .returned v' ∧ Row w v' (dig D) ∧ w' = w :=
  (cut_own v l D z hD w hr).mono fun _ _ ⟨v', h1, h2, h3, _⟩ => ⟨v', h1, h2, h3⟩

set_option maxHeartbeats 2000000 in
theorem nadd_any (va vb : Value) (a b : Nat) (hS : dlen (a + b) ≤ 1099511627776) (w : World) (ha : Row w va (dig a)) (hb : Row w vb (dig b)) :
    Calls Try.prog 26 #[va, vb] w fun e w' => ∃ v, e = .returned v ∧ Row w' v (dig (a + b)) ∧ Below w.heap.size w w' := by
  refine cps fun Q hQ => ?_
  have hla : dlen a ≤ dlen (a + b) := dlen_mono (by omega)
  have hlb : dlen b ≤ dlen (a + b) := dlen_mono (by omega)
  have HA : Hid (Row w va (dig a)) := ha
  have HB : Hid (Row w vb (dig b)) := hb
  obtain ⟨aa, ca, rfl, h1, h2⟩ := ha.num
  obtain ⟨ab, cb, rfl, h3, h4⟩ := hb.num
  clear ha hb
  obtain ⟨i0, hi, hz0, hz1, hz2⟩ := info_parts infoInt
  have HP : Hid (∀ n k, 0 < top n k ↔ k < dlen n) := top_pos_iff
  generalize hs : a + b = s at *
  have HS : Hid (a + b = s) := hs
  clear hs
  go_enter Try.func26, Try.ntmps26
  go_wp2
  go_loopw [5, 6, 7] (fun o cv iv wr => ∃ k A B C : Nat, k ≤ dlen s ∧ C ≤ 1 ∧ Hid (A = top a k) ∧ Hid (B = top b k) ∧ Hid (A + B + C = top s k) ∧ iv = .int .i64 k ∧ cv = .int .i64 C ∧ wr.ownsRow w.heap.size 3 1 o k ((low s k).map enc) ∧ Below w.heap.size w wr) (fun _ _ i _ => dlen s - (intOf i).toNat)
  case atStart => exact ⟨0, a, b, 0, Nat.zero_le _, by decide, rfl, rfl, HS.out, rfl, rfl, World.ownsRow_nil _ _ _ _, Below.refl _ _⟩
  case round =>
    obtain ⟨k, A, B, C, hk, hC, hA, hB, hT, rfl, rfl, hown, hbel⟩ := hrel
    have pa := HP.out a k
    have pb := HP.out b k
    have ps := HP.out s k
    rw [← hA.out] at pa
    rw [← hB.out] at pb
    rw [← hT.out] at ps
    have hsz := hbel.size
    by_cases hc : k < dlen a ∨ k < dlen b ∨ 0 < C
    · have hks : k < dlen s := ps.1 (by omega)
      have hra := HA.out.below hbel
      have hrb := HB.out.below hbel
      obtain ⟨da, hda⟩ : ∃ d, d = A % 16777216 := ⟨_, rfl⟩
      obtain ⟨db, hdb⟩ : ∃ d, d = B % 16777216 := ⟨_, rfl⟩
      have bda : da ≤ 16777215 := by omega
      have bdb : db ≤ 16777215 := by omega
      have Hda : Hid (da = A % 16777216) := hda
      have Hdb : Hid (db = B % 16777216) := hdb
      have h3 : k < dlen a ∨ (¬ k < dlen a ∧ k < dlen b) ∨ (¬ k < dlen a ∧ ¬ k < dlen b ∧ 0 < C) := by omega
      have HRA : Hid (Row wr _ _) := hra
      have HRB : Hid (Row wr _ _) := hrb
      clear hc pa pb ps hda hdb hra hrb
      rcases h3 with h3 | ⟨h3, h4⟩ | ⟨h3, h4, h5⟩
      all_goals
        go_wp2_with (first
          | (go_at_call_of 50 aa; refine (digit_dig _ a k da (by omega) _ HRA.out (by rw [Hda.out, hA.out])).mono ?_; rintro e w' ⟨rfl, rfl⟩)
          | (go_at_call_of 50 ab; refine (digit_dig _ b k db (by omega) _ HRB.out (by rw [Hdb.out, hB.out])).mono ?_; rintro e w' ⟨rfl, rfl⟩)
          | (at_builtin; refine append1 rfl _ _ _ rfl w.heap.size 3 i0 (.int .i64 0) 8 Try.underlying63 hi hz0 hz1 hz2 rfl _ _ _ hown rfl rfl rfl (by omega) (by decide) hsz ?_; intro v' w1 hown' hbel' _ _))
        go_roundw
        case rel =>
          refine ⟨k + 1, A / 16777216, B / 16777216, (da + db + C) / 16777216, by omega, by omega, ?_, ?_, ?_, by go_num, by go_num, ?_, hbel.trans hbel'⟩
          · show _ = _; rw [hA.out]; rfl
          · show _ = _; rw [hB.out]; rfl
          · show _ = _; rw [top_succ, ← hT.out]; have := Hda.out; have := Hdb.out; omega
          · rw [low_snoc, ← hT.out, List.map_append]
            have e : (((da : Int) + db + C) % 16777216) = (((A + B + C) % 16777216 : Nat) : Int) := by have := Hda.out; have := Hdb.out; omega
            rw [e] at hown'
            exact hown'
        case measure => simp [intOf]; omega
    · have hks : ¬ k < dlen s := fun h => by have := ps.2 h; omega
      have hk1 : k = dlen s := by omega
      have e : low s k = dig s := by rw [hk1, low_dlen]
      rw [e] at hown
      have h3 : ¬ k < dlen a := by omega
      have h4 : ¬ k < dlen b := by omega
      have h5 : ¬ 0 < C := by omega
      clear hk1 e pa pb ps hc
      go_wp2
      exact hQ.out _ _ ⟨_, rfl, row_own hown, hbel⟩
end Go.Proofs.Ytajlgpamcpgalaa

namespace Go.Proofs.Ytajlgpamcpgalaa
open Go.ChangeShapes Go.WideShapes Go.ChangeAt Go.RowKit
set_option linter.unusedVariables false
set_option maxRecDepth 100000

/-- how a number's slice goes into a walk that reads its elements -/
theorem Row.reads {w : World} {v : Value} {n : Nat} (h : Row w v (dig n)) : ∃ ao c, v = .slice ao (dlen n) c ∧ c ≤ 9223372036854775807 ∧ dlen n ≤ c ∧
    (dlen n = 0 ∨ ∃ b off, ao = some ⟨b, off, none⟩ ∧ b < w.heap.size ∧ ∀ j, j < dlen n → w.cell? ⟨b, off + j, none⟩ = some (.int .i64 (top n j % 16777216 : Nat))) := by
  obtain ⟨ao, c, rfl, hc, hl, h⟩ := h
  refine ⟨ao, c, rfl, hc, hl, ?_⟩
  rcases h with ⟨_, h, _⟩ | ⟨b, off, rfl, hb, h⟩
  · exact .inl (by unfold dlen; rw [h]; rfl)
  · exact .inr ⟨b, off, rfl, hb, fun j hj => by rw [h j hj, dig_get]⟩
theorem owns_drewN {w : World} {base n sz : Nat} {e : TypeId} {v : Value} {xs : List Value} (h : w.ownsRow base e sz v n xs) (q : Nat) : (w.drewN q).ownsRow base e sz v n xs := h

set_option maxHeartbeats 1000000 in
theorem two_any (k : Nat) (hk : k ≤ 24) (w : World) :
    Calls Try.prog 52 #[.int .i64 k] w fun e w' => e = .returned (.int .i64 (2 ^ k : Nat)) ∧ w' = w := by
  refine cps fun Q hQ => ?_
  go_enter Try.func52, Try.ntmps52
  go_wp2
  go_loop [3, 4] (fun n i => ∃ j V : Nat, j ≤ k ∧ Hid (V = 2 ^ j) ∧ V ≤ 16777216 ∧ i = .int .i64 j ∧ n = .int .i64 V) (fun _ i => k - (intOf i).toNat)
  case atStart => exact ⟨0, 1, Nat.zero_le _, rfl, by decide, rfl, rfl⟩
  case round =>
    obtain ⟨j, V, hj, hV, hb, rfl, rfl⟩ := hrel
    by_cases hlt : j < k
    · go_wp2
      go_round
      case rel =>
        have h1 : 2 ^ (j + 1) = 2 * V := by rw [hV.out, Nat.pow_succ, Nat.mul_comm]
        have h2 : 2 ^ (j + 1) ≤ 2 ^ 24 := Nat.pow_le_pow_right (by decide) (by omega)
        exact ⟨j + 1, 2 * V, by omega, h1.symm, by omega, by go_num, by go_num⟩
      case measure => simp [intOf]; omega
    · have e : j = k := by omega
      subst e
      go_wp2
      refine hQ.out _ _ ⟨?_, rfl⟩
      rw [hV.out]

theorem mul_part (A q : Nat) : A * q = 16777216 * (A / 16777216 * q) + A % 16777216 * q := by
  conv => lhs; rw [← Nat.div_add_mod A 16777216]
  rw [Nat.add_mul, Nat.mul_assoc]

set_option maxHeartbeats 2000000 in
theorem times_any (va : Value) (a q : Nat) (hq : q ≤ 16777216) (hS : dlen a ≤ 1099511627776) (w : World) (ha : Row w va (dig a)) :
    Calls Try.prog 51 #[va, .int .i64 q] w fun e w' => ∃ v, e = .returned v ∧ Row w' v (dig (a * q)) ∧ Below w.heap.size w w' := by
  refine cps fun Q hQ => ?_
  have hls : dlen (a * q) ≤ dlen a + 2 := by
    refine dlen_le_of_lt ?_
    have h1 := lt_of_dlen_le (n := a) (Nat.le_refl _)
    rw [Nat.pow_add]
    refine Nat.lt_of_le_of_lt (Nat.mul_le_mul (Nat.le_of_lt h1) hq) ?_
    exact Nat.mul_lt_mul_of_pos_left (by decide) (Nat.pow_pos (by decide))
  have HA : Hid (Row w va (dig a)) := ha
  obtain ⟨aa, ca, rfl, h1, h2⟩ := ha.num
  clear ha
  obtain ⟨i0, hi, hz0, hz1, hz2⟩ := info_parts infoInt
  have HP : Hid (∀ n k, 0 < top n k ↔ k < dlen n) := top_pos_iff
  generalize hs : a * q = s at *
  have HS : Hid (a * q + 0 = s) := hs
  clear hs
  go_enter Try.func51, Try.ntmps51
  go_wp2
  go_loopw [5, 6, 7] (fun o cv iv wr => ∃ k A C : Nat, k ≤ dlen s ∧ C ≤ q ∧ Hid (A = top a k) ∧ Hid (A * q + C = top s k) ∧ iv = .int .i64 k ∧ cv = .int .i64 C ∧ wr.ownsRow w.heap.size 3 1 o k ((low s k).map enc) ∧ Below w.heap.size w wr) (fun _ _ i _ => dlen s - (intOf i).toNat)
  case atStart => exact ⟨0, a, 0, Nat.zero_le _, Nat.zero_le _, rfl, HS.out, rfl, rfl, World.ownsRow_nil _ _ _ _, Below.refl _ _⟩
  case round =>
    obtain ⟨k, A, C, hk, hC, hA, hT, rfl, rfl, hown, hbel⟩ := hrel
    have pa := HP.out a k
    have ps := HP.out s k
    rw [← hA.out] at pa
    have hpos : 0 < A * q ↔ 0 < A ∧ 0 < q := ⟨fun h => ⟨Nat.pos_of_mul_pos_right h, Nat.pos_of_mul_pos_left h⟩, fun h => Nat.mul_pos h.1 h.2⟩
    rw [← hT.out] at ps
    have hsz := hbel.size
    by_cases hc : (k < dlen a ∧ 0 < q) ∨ 0 < C
    · have hks : k < dlen s := ps.1 (by have := hpos.2; omega)
      have hra := HA.out.below hbel
      obtain ⟨da, hda⟩ : ∃ d, d = A % 16777216 := ⟨_, rfl⟩
      have bda : da ≤ 16777215 := by omega
      have Hda : Hid (da = A % 16777216) := hda
      have HRA : Hid (Row wr _ _) := hra
      obtain ⟨m, hm⟩ : ∃ m : Nat, m = da * q := ⟨_, rfl⟩
      have bm : m ≤ 16777215 * q := by rw [hm]; exact Nat.mul_le_mul bda (Nat.le_refl _)
      have HM : Hid (m = da * q) := hm
      have hmi : (da : Int) * (q : Int) = (m : Int) := by rw [hm]; simp
      have h3 : (k < dlen a ∧ 0 < q) ∨ (¬ k < dlen a ∧ 0 < C) := by omega
      clear hc pa ps hda hra hpos hm
      rcases h3 with ⟨h3, h4⟩ | ⟨h3, h4⟩
      all_goals
        go_wp2_with (first
          | (go_at_call_of 50 aa; refine (digit_dig _ a k da (by omega) _ HRA.out (by rw [Hda.out, hA.out])).mono ?_; rintro e w' ⟨rfl, rfl⟩)
          | (at_builtin; refine append1 rfl _ _ _ rfl w.heap.size 3 i0 (.int .i64 0) 8 Try.underlying63 hi hz0 hz1 hz2 rfl _ _ _ hown rfl rfl rfl (by omega) (by decide) hsz ?_; intro v' w1 hown' hbel' _ _))
        go_roundw
        case rel =>
          have hp := mul_part A q
          rw [← Hda.out, ← HM.out] at hp
          refine ⟨k + 1, A / 16777216, (m + C) / 16777216, by omega, by omega, ?_, ?_, by go_num, by go_num, ?_, hbel.trans hbel'⟩
          · show _ = _; rw [hA.out]; rfl
          · show _ = _; rw [top_succ, ← hT.out]; omega
          · rw [low_snoc, ← hT.out, List.map_append]
            have e : (((m : Int) + C) % 16777216) = (((A * q + C) % 16777216 : Nat) : Int) := by omega
            rw [e] at hown'
            exact hown'
        case measure => simp [intOf]; omega
    · have hks : ¬ k < dlen s := fun h => by have := ps.2 h; have := hpos.1; omega
      have hk1 : k = dlen s := by omega
      have e : low s k = dig s := by rw [hk1, low_dlen]
      rw [e] at hown
      have h5 : ¬ 0 < C := by omega
      have h3 : ¬ (k < dlen a ∧ 0 < q) := by omega
      by_cases h4 : k < dlen a
      · have h6 : ¬ 0 < q := by omega
        clear hk1 e pa ps hc hpos h3
        go_wp2
        exact hQ.out _ _ ⟨_, rfl, row_own hown, hbel⟩
      · clear hk1 e pa ps hc hpos h3
        go_wp2
        exact hQ.out _ _ ⟨_, rfl, row_own hown, hbel⟩
end Go.Proofs.Ytajlgpamcpgalaa

namespace Go.Proofs.Ytajlgpamcpgalaa
open Go.ChangeShapes Go.WideShapes Go.ChangeAt Go.RowKit
set_option linter.unusedVariables false
set_option maxRecDepth 100000

theorem owns_below {w w' : World} {base n sz : Nat} {e : TypeId} {v : Value} {xs : List Value} (h : w.ownsRow base e sz v n xs) (hb : Below w.heap.size w w') : w'.ownsRow base e sz v n xs := by
  refine ⟨h.1, ?_⟩
  rcases h.2 with hn | ⟨g, cap, cur, rfl, hg, hgg, rest⟩
  · exact .inl hn
  · refine .inr ⟨g, cap, cur, rfl, hg, ?_, rest⟩
    rw [hb.block g (Array.getElem?_eq_some_iff.1 hgg).1]; exact hgg
theorem made_ints (n : Nat) : (madeCells (Value.int .i64 0).cells (n * 1)).toList = (List.replicate n 0).map enc := by
  have e : ∀ x : Nat, [Value.int .i64 0][x % 1]?.getD default = .int .i64 0 := fun x => by rw [Nat.mod_one]; rfl
  simp [madeCells, enc, Value.cells, e, List.map_const']
/-- 'l[q:]' of a row -/
theorem Row.drop {w : World} {b off c : Nat} {n k : Nat} (h : Row w (.slice (some ⟨b, off, none⟩) k c) (dig n)) (q : Nat) (hq : q ≤ dlen n) : Row w (.slice (some ⟨b, off + q, none⟩) (dlen n - q) (c - q)) (dig (top n q)) := by
  obtain ⟨ao', c', he, hc, hl, h⟩ := h
  injection he with e1 e2 e3
  subst e1 e2 e3
  have hl' : dlen n ≤ c := hl
  refine ⟨_, c - q, by rw [dig_length, dlen_top], by omega, by rw [dig_length, dlen_top]; omega, ?_⟩
  rcases h with ⟨h1, h2⟩ | ⟨b', off', h1, h2, h3⟩
  · simp at h1
  · simp at h1
    obtain ⟨rfl, rfl⟩ := h1
    refine .inr ⟨_, _, rfl, h2, fun j hj => ?_⟩
    rw [dig_length, dlen_top] at hj
    rw [Nat.add_assoc, h3 (q + j) (by rw [dig_length]; omega), dig_get, dig_get, top_add]

set_option maxHeartbeats 1000000 in
theorem nshl_any (va : Value) (a k : Nat) (hk : k ≤ 1099511627776) (hS : dlen a ≤ 1099511627776) (w : World) (ha : Row w va (dig a)) :
    Calls Try.prog 27 #[va, .int .i64 k] w fun e w' => ∃ v, e = .returned v ∧ Row w' v (dig (a * 2 ^ k)) ∧ Below w.heap.size w w' := by
  refine cps fun Q hQ => ?_
  have HA : Hid (Row w va (dig a)) := ha
  obtain ⟨aa, ca, rfl, h1, h2⟩ := ha.num
  clear ha
  obtain ⟨i0, hi, hz0, hz1, hz2⟩ := info_parts infoInt
  have hz := @dlen_eq_zero a
  have e0 : 2 ^ k = 2 ^ (k % 24) * 16777216 ^ (k / 24) := by
    have : (16777216 : Nat) = 2 ^ 24 := by decide
    rw [this, ← Nat.pow_mul, ← Nat.pow_add]; congr 1; omega
  by_cases h0 : dlen a = 0
  · have hn := hz.1 h0
    subst hn
    have HQ : Hid _ := hQ.out _ w ⟨.slice none 0 0, rfl, by rw [Nat.zero_mul, dig_zero]; exact row_nil w, Below.refl _ _⟩
    clear hz HA e0
    go_enter Try.func27, Try.ntmps27
    go_wp2
    exact HQ.out
  · have hn : a ≠ 0 := fun h => h0 (hz.2 h)
    have hq : 0 < 2 ^ (k % 24) := Nat.pow_pos (by decide)
    have hq2 : 2 ^ (k % 24) ≤ 2 ^ 24 := Nat.pow_le_pow_right (by decide) (by omega)
    have hne : a * 2 ^ (k % 24) ≠ 0 := Nat.mul_ne_zero hn (by omega)
    have hD : Hid (dig (a * 2 ^ k) = List.replicate (k / 24) 0 ++ dig (a * 2 ^ (k % 24))) := by
      show _ = _
      rw [e0, ← Nat.mul_assoc, dig_shift hne]
    have hT := two_any (k % 24) (by omega)
    have hlen : dlen (a * 2 ^ (k % 24)) ≤ 2199023255552 := by
      have h3 := lt_of_dlen_le (n := a) (Nat.le_refl _)
      refine Nat.le_trans (dlen_le_of_lt (k := dlen a + 2) ?_) (by omega)
      rw [Nat.pow_add]
      refine Nat.lt_of_le_of_lt (Nat.mul_le_mul (Nat.le_of_lt h3) hq2) ?_
      exact Nat.mul_lt_mul_of_pos_left (by decide) (Nat.pow_pos (by decide))
    have hdl : dlen (a * 2 ^ (k % 24)) ≠ 0 := fun h => hne (dlen_eq_zero.1 h)
    generalize hp : 2 ^ (k % 24) = p at *
    have HP : Hid (p ≤ 16777216) := by show _ ≤ _; omega
    clear hp e0 hq hq2 hz hn hne
    have hq : k / 24 ≤ 1099511627776 := by omega
    have hr24 : k % 24 ≤ 23 := by omega
    have hki : ((k : Int) / 24) = ((k / 24 : Nat) : Int) := by omega
    have hki2 : ((k : Int) % 24) = ((k % 24 : Nat) : Int) := by omega
    generalize k / 24 = q at *
    generalize k % 24 = r at *
    go_enter Try.func27, Try.ntmps27
    go_wp2_with (at_make; go_must (refine wpList_make_full _ rfl _ _ 63 rfl w.heap.size 3 i0 (.int .i64 0) 1 Try.underlying63 hi hz0 hz1 .i64 .i64 _ _ q rfl rfl (by omega) (by omega) (by rw [hz2]; omega) (by unfold maxLen; omega) (Nat.le_refl _) ?_); intro w1 hown hg)
    have hb0 := (Below.refl w.heap.size w).grown hg (Nat.le_refl _) (fun k hk => by cases hk)
    rw [made_ints] at hown
    have hs1 := hb0.size
    clear hg
    go_wp2_with (first
      | (go_at_call 52; refine (hT _).mono ?_; rintro e w' ⟨rfl, rfl⟩)
      | (go_at_call 51; refine (times_any _ a p HP.out hS _ (HA.out.below hb0)).mono ?_; rintro e w2 ⟨v2, rfl, hr2, hb2⟩
         obtain ⟨ao2, c2, rfl, hc2, hl2, hr2⟩ := hr2.reads
         obtain ⟨b2, o2, rfl, hlt2, hr2⟩ := hr2.resolve_left hdl
         have hown2 := owns_below hown hb2
         have hb3 := hb0.trans (hb2.mono hs1)
         have hs3 := hb3.size)
      | (at_builtin; go_must (refine wpList_append_own _ rfl _ _ 63 rfl w.heap.size 3 i0 (.int .i64 0) 1 8 Try.underlying63 hi hz0 hz1 hz2 rfl (by decide) _ _ _ rfl hown2 ⟨b2, o2, none⟩ (dlen (a * p)) c2 ((dig (a * p)).map enc) rfl (by simp [dlen]) ?_ (by simp [enc]; intros; rfl) (by unfold maxLen; omega) (by omega) hs3 ?_)))
    · intro j u hj
      rw [List.getElem?_map, Option.map_eq_some_iff] at hj
      obtain ⟨d, hd, rfl⟩ := hj
      have hlt : j < dlen (a * p) := (List.getElem?_eq_some_iff.1 hd).1
      have := hr2 j hlt
      rw [← dig_get, List.getD_eq_getElem?_getD, hd] at this
      have this : w2.cell? ⟨b2, o2 + j, none⟩ = some (.int .i64 (d : Nat)) := by simpa using this
      unfold Addr.add
      split
      · rename_i h; have hj0 : j = 0 := by simpa using h
        subst hj0; exact this
      · exact this
    · intro v' w3 hown3 hg3 _
      have hb4 := hb3.grown hg3 hs3 (fun k hk => by cases hk; exact Nat.le_refl _)
      have hr3 : Row w3 v' (List.replicate q 0 ++ dig (a * p)) := row_own (by rw [List.map_append, List.map_replicate]; exact hown3)
      rw [← hD.out] at hr3
      go_wp2
      exact hQ.out _ _ ⟨_, rfl, hr3, hb4⟩
theorem row_lit (w : World) (e : TypeId) (d : Nat) (hd : d ≠ 0) (hd2 : d < 16777216) : Row (w.alloc (.cells #[.int .i64 (d : Int)] e)) (.slice (some ⟨w.heap.size, 0, none⟩) 1 1) (dig d) := by
  have hl : dig d = [d] := by rw [dig_pos hd, show d / 16777216 = 0 by omega, dig_zero, Nat.mod_eq_of_lt hd2]
  rw [hl]
  refine ⟨_, 1, rfl, by decide, Nat.le_refl _, .inr ⟨_, 0, rfl, by simp, fun j hj => ?_⟩⟩
  have : j = 0 := by simpa using hj
  subst this
  exact World.cell?_alloc_at _ _ _ _ rfl

end Go.Proofs.Ytajlgpamcpgalaa
