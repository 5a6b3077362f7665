import Derived.Test.YtajlgpamcpgalaaLeadC
namespace Go.Proofs.Ytajlgpamcpgalaa
open Go.ChangeShapes Go.WideShapes Go.ChangeAt Go.RowKit

/-! ### Show -/
def showCells (x n k : Nat) : List Value := (List.range n).map fun j => if n - 1 - j < k then .int .u8 (bitByte (x.testBit (n - 1 - j))).toNat else .int .u8 0
theorem showCells_zero (x n : Nat) : showCells x n 0 = (madeCells (Value.int .u8 0).cells (n * 1)).toList := by
  apply List.ext_getElem?
  intro j
  by_cases hn : j < n
  · simp [showCells, madeCells, Value.cells, hn, Nat.mod_one]
  · simp [showCells, madeCells, Value.cells, hn]
theorem showCells_step (x n k : Nat) (h : k < n) : (showCells x n k).set (n - 1 - k) (.int .u8 (bitByte (x.testBit k)).toNat) = showCells x n (k + 1) := by
  apply List.ext_getElem?
  intro j
  rw [List.getElem?_set]
  by_cases hj : n - 1 - k = j
  · subst hj
    have e : n - 1 - (n - 1 - k) = k := by omega
    have e1 : n - 1 - k < n := by omega
    rw [if_pos rfl, if_pos (by simpa [showCells] using e1)]
    simp only [showCells, List.getElem?_map, List.getElem?_range e1, Option.map_some, e]
    simp
  · rw [if_neg hj]
    by_cases hn : j < n
    · simp only [showCells, List.getElem?_map, List.getElem?_range hn, Option.map_some]
      have : (n - 1 - j < k) ↔ (n - 1 - j < k + 1) := by omega
      simp [this]
    · simp [showCells, hn]
theorem showCells_all (x n : Nat) : showCells x n n = ((bitsOf x n).map bitByte).map fun b : UInt8 => Value.int .u8 b.toNat := by
  simp only [showCells, bitsOf, List.map_map]
  apply List.map_congr_left
  intro j hj
  simp at hj
  have : n - 1 - j < n := by omega
  simp [this]
theorem show_char (x k : Nat) (hx : x < 2 ^ 64) : ((48 + bits BinOp.and IntKind.u64 ((x : Int) / 2 ^ k) 1) % 256) = ((bitByte (x.testBit k)).toNat : Int) := by
  rw [shrN]
  have e := u64_and_nat (x >>> k) 1 (Nat.lt_of_le_of_lt (Nat.shiftRight_le _ _) hx) (by decide)
  rw [show ((1 : Nat) : Int) = 1 from rfl] at e
  rw [e, nat_mask1, Nat.testBit_eq_decide_div_mod_eq, Nat.shiftRight_eq_div_pow]
  generalize x / 2 ^ k = y
  rcases Nat.mod_two_eq_zero_or_one y with h | h <;> rw [h] <;> simp [bitByte]
/-! ### Run -/
/-- a run: the highest bit of the lowest n, and how many like it -/
structure IsRun (x n : Nat) (b : Bool) (k : Nat) : Prop where
  bit : b = x.testBit (n - 1)
  low : 1 ≤ k
  high : k ≤ n
  same : ∀ j, j < k → x.testBit (n - 1 - j) = b
  ends : k < n → x.testBit (n - 1 - k) ≠ b
theorem IsRun.one {x n : Nat} {b b' : Bool} {k k' : Nat} (h : IsRun x n b k) (h' : IsRun x n b' k') : b = b' ∧ k = k' := by
  have e : b = b' := by rw [h.bit, h'.bit]
  subst e
  refine ⟨rfl, ?_⟩
  rcases Nat.lt_trichotomy k k' with c | c | c
  · exact absurd (h'.same k c) (h.ends (by have := h'.high; omega))
  · exact c
  · exact absurd (h.same k' c) (h'.ends (by have := h.high; omega))
theorem lrun_no (x : Nat) (n : Int) (hn : n < 1 ∨ 64 < n) (w : World) :
    Calls Try.prog 68 #[.int .u64 x, .int .i64 n] w fun e w' => e = .returned (.tuple #[.bool false, .int .i64 0, .iface 51 (.int .i64 1)]) ∧ w' = w := by
  refine cps fun Q hQ => ?_
  rcases hn with hn | hn
  · go_enter Try.func68, Try.ntmps68
    go_wp2
    go_ret3
    refine hQ.out _ _ ⟨rfl, rfl⟩
  · have : ¬ n < 1 := by omega
    go_enter Try.func68, Try.ntmps68
    go_wp2
    go_ret3
    refine hQ.out _ _ ⟨rfl, rfl⟩
/-- how many bits a number has -/
structure IsLen (x L : Nat) : Prop where
  le : L ≤ 64
  lt : x < 2 ^ L
  top : 0 < L → x.testBit (L - 1) = true
theorem bitLen_zero : Lib.bitLen 0 = 0 := by decide
theorem isLen_bitLen (x : Nat) (hx : x < 2 ^ 64) : IsLen x (Lib.bitLen x) := by
  by_cases h0 : x = 0
  · subst h0
    rw [bitLen_zero]
    exact ⟨by omega, by simp, fun h => absurd h (by omega)⟩
  · have hl : 2 ^ x.log2 ≤ x := Nat.log2_self_le h0
    have hu : x < 2 ^ (x.log2 + 1) := Nat.lt_log2_self
    have h64 : x.log2 < 64 := (Nat.log2_lt h0).2 hx
    have e : Lib.bitLen x = x.log2 + 1 := by
      rw [Lib.bitLen_shift x.log2 x hl hx]
      have h1 : x / 2 ^ x.log2 = 1 := by
        have hp : 0 < 2 ^ x.log2 := Nat.pos_of_ne_zero (by simp)
        have a : 1 ≤ x / 2 ^ x.log2 := (Nat.le_div_iff_mul_le hp).2 (by omega)
        have b : x / 2 ^ x.log2 < 2 := (Nat.div_lt_iff_lt_mul hp).2 (by rw [Nat.mul_comm, ← Nat.pow_succ]; exact hu)
        omega
      rw [h1, show Lib.bitLen 1 = 1 by decide]
    rw [e]
    refine ⟨by omega, hu, fun _ => ?_⟩
    rw [Nat.add_sub_cancel, top_bit x x.log2 (by rw [← Nat.pow_succ']; exact hu)]
    simpa using hl
theorem lz_any (x : Nat) (hx : x < 2 ^ 64) (w : World) :
    Calls Try.prog 81 #[.int .u64 x] w fun e w' => ∃ L : Nat, e = .returned (.int .i64 (64 - (L : Int))) ∧ IsLen x L ∧ w' = w := by
  have hl : Lib.bitLen x ≤ 64 := Lib.bitLen_le x 64 (by decide) hx
  refine cps fun Q hQ => ?_
  go_enter Try.func81, Try.ntmps81
  go_wp2_with (go_at_call 72; refine (len64_any x hx _).mono ?_; rintro e w' ⟨rfl, rfl⟩)
  exact hQ.out _ _ ⟨_, rfl, isLen_bitLen x hx, rfl⟩
theorem xorMax (H : Nat) (h : H < 2 ^ 64) : bits BinOp.xor IntKind.u64 IntKind.u64.max (H : Int) = ((18446744073709551615 - H : Nat) : Int) := by
  have e : IntKind.u64.max = ((18446744073709551615 : Nat) : Int) := by decide
  rw [e, u64_xor_nat _ _ (by decide) h]
  congr 1
  apply ext64 (Nat.xor_lt_two_pow (by decide) h) (by omega)
  intro i hi
  rw [Nat.testBit_xor, not_bit H i h hi]
  have : (18446744073709551615 : Nat).testBit i = true := by
    rw [show (18446744073709551615 : Nat) = 2 ^ 64 - 1 from rfl, Nat.testBit_two_pow_sub_one]; simpa using hi
  rw [this]; simp
theorem head_bit (x n j : Nat) (hn : n ≤ 64) (hj : j < 64) : ((x <<< (64 - n)) % 2 ^ 64).testBit (63 - j) = (decide (j < n) && x.testBit (n - 1 - j)) := by
  rw [Nat.testBit_mod_two_pow, Nat.testBit_shiftLeft]
  by_cases h : j < n
  · have e : 63 - j - (64 - n) = n - 1 - j := by omega
    have e1 : 63 - j < 64 := by omega
    have e2 : 63 - j ≥ 64 - n := by omega
    simp [h, e, e1, e2]
  · have e2 : ¬ 63 - j ≥ 64 - n := by omega
    simp [h, e2]
/-- the run, off the length of what was shifted up (and turned, where it is of ones) -/
theorem isRun_of (x n H L : Nat) (b : Bool) (h1 : 1 ≤ n) (h2 : n ≤ 64) (hb : b = x.testBit (n - 1)) (hH : ∀ j, j < 64 → H.testBit (63 - j) = ((decide (j < n) && x.testBit (n - 1 - j)) ^^ b)) (hL : IsLen H L) :
    ∃ k : Nat, ((64 - (L : Int)) ≤ n → 64 - (L : Int) = k) ∧ ((n : Int) < 64 - (L : Int) → n = k) ∧ IsRun x n b k := by
  have hz : ∀ j, j < 64 - L → H.testBit (63 - j) = false := fun j hj => Nat.testBit_lt_two_pow (Nat.lt_of_lt_of_le hL.lt (Nat.pow_le_pow_right (by decide) (by omega)))
  have hlow : 1 ≤ 64 - L := by
    rcases Nat.lt_or_ge L 64 with h | h
    · omega
    · have hl := hL.le
      have : L = 64 := by omega
      have ht := hL.top (by omega)
      rw [this] at ht
      have h0 := hH 0 (by omega)
      rw [show 63 - 0 = 64 - 1 from rfl, ht] at h0
      have hn : 0 < n := h1
      simp [hn, ← hb] at h0
  have same : ∀ j, j < n → j < 64 - L → x.testBit (n - 1 - j) = b := by
    intro j hj hj2
    have e := hH j (by omega)
    rw [hz j hj2] at e
    simp [hj] at e
    cases b <;> simp_all
  rcases Nat.lt_or_ge (64 - L) n with h | h
  · refine ⟨64 - L, by omega, by omega, hb, hlow, by omega, fun j hj => same j (by omega) hj, fun _ => ?_⟩
    have ht := hL.top (by omega)
    have e := hH (64 - L) (by omega)
    rw [show 63 - (64 - L) = L - 1 by omega, ht] at e
    simp [h] at e
    cases b <;> simp_all
  · refine ⟨n, by omega, fun _ => rfl, hb, h1, Nat.le_refl _, fun j hj => same j hj (by omega), fun h => absurd h (by omega)⟩
theorem lrun_ok (x n : Nat) (h1 : 1 ≤ n) (h2 : n ≤ 64) (w : World) :
    Calls Try.prog 68 #[.int .u64 x, .int .i64 n] w fun e w' => ∃ b k, e = .returned (.tuple #[.bool b, .int .i64 (k : Nat), .nilIface]) ∧ IsRun x n b k ∧ w' = w := by
  obtain ⟨H, hH⟩ : ∃ H, H = (x <<< (64 - n)) % 2 ^ 64 := ⟨_, rfl⟩
  have hlt : H < 2 ^ 64 := by rw [hH]; exact Nat.mod_lt _ (by decide)
  have hw : IntKind.u64.wrap ((x : Int) * 2 ^ (64 - n)) = (H : Int) := by rw [hH]; exact wrapShl x (64 - n)
  have hbits : Hid (∀ j, j < 64 → H.testBit (63 - j) = (decide (j < n) && x.testBit (n - 1 - j))) := fun j hj => by rw [hH]; exact head_bit x n j h2 hj
  obtain ⟨C, hC⟩ : ∃ C, C = 18446744073709551615 - H := ⟨_, rfl⟩
  have hCl : C < 2 ^ 64 := by omega
  have hxor := xorMax H hlt
  rw [← hC] at hxor
  have htop : Hid (x.testBit (n - 1) = decide (2 ^ 63 ≤ H)) := by
    have e := hbits.out 0 (by omega)
    have hn : 0 < n := h1
    rw [show 63 - 0 = 63 from rfl, top_bit H 63 (by omega)] at e
    exact (show x.testBit (n - 1) = _ by simpa [hn] using e.symm)
  have htop' : (((H : Int) / 9223372036854775808 == 1) = decide (2 ^ 63 ≤ H)) := by
    rw [Bool.eq_iff_iff]; simp; omega
  have hbC : Hid (∀ j, j < 64 → C.testBit (63 - j) = !H.testBit (63 - j)) := fun j hj => by rw [hC]; exact not_bit H _ hlt (by omega)
  clear hH hC
  have HL : Hid (H < 2 ^ 64) := hlt
  have CL : Hid (C < 2 ^ 64) := hCl
  clear hlt hCl
  refine cps fun Q hQ => ?_
  cases hc : decide (2 ^ 63 ≤ H)
  · rw [hc] at htop' htop
    clear hc
    go_enter Try.func68, Try.ntmps68
    go_wp2_with (go_at_call 81; refine (lz_any H HL.out _).mono ?_; rintro e w' ⟨L, rfl, hL, rfl⟩)
    all_goals
      obtain ⟨k, hk1, hk2, hr⟩ := isRun_of x n H L false h1 h2 htop.out.symm (fun j hj => by rw [hbits.out j hj]; simp) hL
      go_ret3
      exact hQ.out _ _ ⟨false, k, ret_bix rfl (by omega), hr, rfl⟩
  · rw [hc] at htop' htop
    clear hc
    go_enter Try.func68, Try.ntmps68
    go_wp2_with (go_at_call 81; refine (lz_any C CL.out _).mono ?_; rintro e w' ⟨L, rfl, hL, rfl⟩)
    all_goals
      obtain ⟨k, hk1, hk2, hr⟩ := isRun_of x n C L true h1 h2 htop.out.symm (fun j hj => by rw [hbC.out j hj, hbits.out j hj]; simp) hL
      go_ret3
      exact hQ.out _ _ ⟨true, k, ret_bix rfl (by omega), hr, rfl⟩
end Go.Proofs.Ytajlgpamcpgalaa
