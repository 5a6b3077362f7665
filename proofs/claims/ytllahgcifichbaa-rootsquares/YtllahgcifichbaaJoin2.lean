import Derived.Test.YtllahgcifichbaaJoin1
import Derived.WalkKit
namespace Go.Proofs.Ytllahgcifichbaa
set_option maxRecDepth 100000
open Go.ChangeShapes Go.WideShapes Go.ChangeAt Go.RowKit

/-! ### Show -/
def showCells (x n k : Nat) : List Value := (List.range n).map fun j => if n - 1 - j < k then .int .u8 (bitByte (x.testBit (n - 1 - j))).toNat else .int .u8 0
theorem showCells_zero (x n : Nat) : showCells x n 0 = (madeCells (Value.int .u8 0).cells (n * 1)).toList := by
  apply List.ext_getElem?
  intro j
  by_cases hn : j < n
  · simp [showCells, madeCells, Value.cells, hn, Nat.mod_one]
  · simp [showCells, madeCells, Value.cells, hn]
theorem showCells_step (x n k : Nat) (h : k < n) : (showCells x n k).set (n - 1 - k) (.int .u8 (bitByte (x.testBit k)).toNat) = showCells x n (k + 1) := by
  apply List.ext_getElem?
  intro j
  rw [List.getElem?_set]
  by_cases hj : n - 1 - k = j
  · subst hj
    have e : n - 1 - (n - 1 - k) = k := by omega
    have e1 : n - 1 - k < n := by omega
    rw [if_pos rfl, if_pos (by simpa [showCells] using e1)]
    simp only [showCells, List.getElem?_map, List.getElem?_range e1, Option.map_some, e]
    simp
  · rw [if_neg hj]
    by_cases hn : j < n
    · simp only [showCells, List.getElem?_map, List.getElem?_range hn, Option.map_some]
      have : (n - 1 - j < k) ↔ (n - 1 - j < k + 1) := by omega
      simp [this]
    · simp [showCells, hn]
theorem showCells_all (x n : Nat) : showCells x n n = ((bitsOf x n).map bitByte).map fun b : UInt8 => Value.int .u8 b.toNat := by
  simp only [showCells, bitsOf, List.map_map]
  apply List.map_congr_left
  intro j hj
  simp at hj
  have : n - 1 - j < n := by omega
  simp [this]
theorem show_char (x k : Nat) (hx : x < 2 ^ 64) : ((48 + bits BinOp.and IntKind.u64 ((x : Int) / 2 ^ k) 1) % 256) = ((bitByte (x.testBit k)).toNat : Int) := by
  rw [shrN]
  have e := u64_and_nat (x >>> k) 1 (Nat.lt_of_le_of_lt (Nat.shiftRight_le _ _) hx) (by decide)
  rw [show ((1 : Nat) : Int) = 1 from rfl] at e
  rw [e, nat_mask1, Nat.testBit_eq_decide_div_mod_eq, Nat.shiftRight_eq_div_pow]
  generalize x / 2 ^ k = y
  rcases Nat.mod_two_eq_zero_or_one y with h | h <;> rw [h] <;> simp [bitByte]
/-! ### Run -/
/-- a run: the highest bit of the lowest n, and how many like it -/
structure IsRun (x n : Nat) (b : Bool) (k : Nat) : Prop where
  bit : b = x.testBit (n - 1)
  low : 1 ≤ k
  high : k ≤ n
  same : ∀ j, j < k → x.testBit (n - 1 - j) = b
  ends : k < n → x.testBit (n - 1 - k) ≠ b
theorem IsRun.one {x n : Nat} {b b' : Bool} {k k' : Nat} (h : IsRun x n b k) (h' : IsRun x n b' k') : b = b' ∧ k = k' := by
  have e : b = b' := by rw [h.bit, h'.bit]
  subst e
  refine ⟨rfl, ?_⟩
  rcases Nat.lt_trichotomy k k' with c | c | c
  · exact absurd (h'.same k c) (h.ends (by have := h'.high; omega))
  · exact c
  · exact absurd (h.same k' c) (h'.ends (by have := h.high; omega))
theorem lrun_no (x : Nat) (n : Int) (hn : n < 1 ∨ 64 < n) (w : World) :
    Calls Try.prog 87 #[.int .u64 x, .int .i64 n] w fun e w' => e = .returned (.tuple #[.bool false, .int .i64 0, .iface 41 (.int .i64 1)]) ∧ w' = w := by
  refine cps fun Q hQ => ?_
  rcases hn with hn | hn
  · go_enter Try.func87, Try.ntmps87
    go_wp2
    go_ret3
    refine hQ.out _ _ ⟨rfl, rfl⟩
  · have : ¬ n < 1 := by omega
    go_enter Try.func87, Try.ntmps87
    go_wp2
    go_ret3
    refine hQ.out _ _ ⟨rfl, rfl⟩
/-- how many bits a number has -/
structure IsLen (x L : Nat) : Prop where
  le : L ≤ 64
  lt : x < 2 ^ L
  top : 0 < L → x.testBit (L - 1) = true
theorem bitLen_zero : Lib.bitLen 0 = 0 := by decide
theorem isLen_bitLen (x : Nat) (hx : x < 2 ^ 64) : IsLen x (Lib.bitLen x) := by
  by_cases h0 : x = 0
  · subst h0
    rw [bitLen_zero]
    exact ⟨by omega, by simp, fun h => absurd h (by omega)⟩
  · have hl : 2 ^ x.log2 ≤ x := Nat.log2_self_le h0
    have hu : x < 2 ^ (x.log2 + 1) := Nat.lt_log2_self
    have h64 : x.log2 < 64 := (Nat.log2_lt h0).2 hx
    have e : Lib.bitLen x = x.log2 + 1 := by
      rw [Lib.bitLen_shift x.log2 x hl hx]
      have h1 : x / 2 ^ x.log2 = 1 := by
        have hp : 0 < 2 ^ x.log2 := Nat.pos_of_ne_zero (by simp)
        have a : 1 ≤ x / 2 ^ x.log2 := (Nat.le_div_iff_mul_le hp).2 (by omega)
        have b : x / 2 ^ x.log2 < 2 := (Nat.div_lt_iff_lt_mul hp).2 (by rw [Nat.mul_comm, ← Nat.pow_succ]; exact hu)
        omega
      rw [h1, show Lib.bitLen 1 = 1 by decide]
    rw [e]
    refine ⟨by omega, hu, fun _ => ?_⟩
    rw [Nat.add_sub_cancel, top_bit x x.log2 (by rw [← Nat.pow_succ']; exact hu)]
    simpa using hl
theorem lz_any (x : Nat) (hx : x < 2 ^ 64) (w : World) :
    Calls Try.prog 107 #[.int .u64 x] w fun e w' => ∃ L : Nat, e = .returned (.int .i64 (64 - (L : Int))) ∧ IsLen x L ∧ w' = w := by
  have hl : Lib.bitLen x ≤ 64 := Lib.bitLen_le x 64 (by decide) hx
  refine cps fun Q hQ => ?_
  go_enter Try.func107, Try.ntmps107
  go_wp2_with (go_at_call 105; refine (len64_any x hx _).mono ?_; rintro e w' ⟨rfl, rfl⟩)
  exact hQ.out _ _ ⟨_, rfl, isLen_bitLen x hx, rfl⟩
theorem xorMax (H : Nat) (h : H < 2 ^ 64) : bits BinOp.xor IntKind.u64 IntKind.u64.max (H : Int) = ((18446744073709551615 - H : Nat) : Int) := by
  have e : IntKind.u64.max = ((18446744073709551615 : Nat) : Int) := by decide
  rw [e, u64_xor_nat _ _ (by decide) h]
  congr 1
  apply ext64 (Nat.xor_lt_two_pow (by decide) h) (by omega)
  intro i hi
  rw [Nat.testBit_xor, not_bit H i h hi]
  have : (18446744073709551615 : Nat).testBit i = true := by
    rw [show (18446744073709551615 : Nat) = 2 ^ 64 - 1 from rfl, Nat.testBit_two_pow_sub_one]; simpa using hi
  rw [this]; simp
theorem head_bit (x n j : Nat) (hn : n ≤ 64) (hj : j < 64) : ((x <<< (64 - n)) % 2 ^ 64).testBit (63 - j) = (decide (j < n) && x.testBit (n - 1 - j)) := by
  rw [Nat.testBit_mod_two_pow, Nat.testBit_shiftLeft]
  by_cases h : j < n
  · have e : 63 - j - (64 - n) = n - 1 - j := by omega
    have e1 : 63 - j < 64 := by omega
    have e2 : 63 - j ≥ 64 - n := by omega
    simp [h, e, e1, e2]
  · have e2 : ¬ 63 - j ≥ 64 - n := by omega
    simp [h, e2]
/-- the run, off the length of what was shifted up (and turned, where it is of ones) -/
theorem isRun_of (x n H L : Nat) (b : Bool) (h1 : 1 ≤ n) (h2 : n ≤ 64) (hb : b = x.testBit (n - 1)) (hH : ∀ j, j < 64 → H.testBit (63 - j) = ((decide (j < n) && x.testBit (n - 1 - j)) ^^ b)) (hL : IsLen H L) :
    ∃ k : Nat, ((64 - (L : Int)) ≤ n → 64 - (L : Int) = k) ∧ ((n : Int) < 64 - (L : Int) → n = k) ∧ IsRun x n b k := by
  have hz : ∀ j, j < 64 - L → H.testBit (63 - j) = false := fun j hj => Nat.testBit_lt_two_pow (Nat.lt_of_lt_of_le hL.lt (Nat.pow_le_pow_right (by decide) (by omega)))
  have hlow : 1 ≤ 64 - L := by
    rcases Nat.lt_or_ge L 64 with h | h
    · omega
    · have hl := hL.le
      have : L = 64 := by omega
      have ht := hL.top (by omega)
      rw [this] at ht
      have h0 := hH 0 (by omega)
      rw [show 63 - 0 = 64 - 1 from rfl, ht] at h0
      have hn : 0 < n := h1
      simp [hn, ← hb] at h0
  have same : ∀ j, j < n → j < 64 - L → x.testBit (n - 1 - j) = b := by
    intro j hj hj2
    have e := hH j (by omega)
    rw [hz j hj2] at e
    simp [hj] at e
    cases b <;> simp_all
  rcases Nat.lt_or_ge (64 - L) n with h | h
  · refine ⟨64 - L, by omega, by omega, hb, hlow, by omega, fun j hj => same j (by omega) hj, fun _ => ?_⟩
    have ht := hL.top (by omega)
    have e := hH (64 - L) (by omega)
    rw [show 63 - (64 - L) = L - 1 by omega, ht] at e
    simp [h] at e
    cases b <;> simp_all
  · refine ⟨n, by omega, fun _ => rfl, hb, h1, Nat.le_refl _, fun j hj => same j hj (by omega), fun h => absurd h (by omega)⟩
theorem lrun_ok (x n : Nat) (h1 : 1 ≤ n) (h2 : n ≤ 64) (w : World) :
    Calls Try.prog 87 #[.int .u64 x, .int .i64 n] w fun e w' => ∃ b k, e = .returned (.tuple #[.bool b, .int .i64 (k : Nat), .nilIface]) ∧ IsRun x n b k ∧ w' = w := by
  obtain ⟨H, hH⟩ : ∃ H, H = (x <<< (64 - n)) % 2 ^ 64 := ⟨_, rfl⟩
  have hlt : H < 2 ^ 64 := by rw [hH]; exact Nat.mod_lt _ (by decide)
  have hw : IntKind.u64.wrap ((x : Int) * 2 ^ (64 - n)) = (H : Int) := by rw [hH]; exact wrapShl x (64 - n)
  have hbits : Hid (∀ j, j < 64 → H.testBit (63 - j) = (decide (j < n) && x.testBit (n - 1 - j))) := fun j hj => by rw [hH]; exact head_bit x n j h2 hj
  obtain ⟨C, hC⟩ : ∃ C, C = 18446744073709551615 - H := ⟨_, rfl⟩
  have hCl : C < 2 ^ 64 := by omega
  have hxor := xorMax H hlt
  rw [← hC] at hxor
  have htop : Hid (x.testBit (n - 1) = decide (2 ^ 63 ≤ H)) := by
    have e := hbits.out 0 (by omega)
    have hn : 0 < n := h1
    rw [show 63 - 0 = 63 from rfl, top_bit H 63 (by omega)] at e
    exact (show x.testBit (n - 1) = _ by simpa [hn] using e.symm)
  have htop' : (((H : Int) / 9223372036854775808 == 1) = decide (2 ^ 63 ≤ H)) := by
    rw [Bool.eq_iff_iff]; simp; omega
  have hbC : Hid (∀ j, j < 64 → C.testBit (63 - j) = !H.testBit (63 - j)) := fun j hj => by rw [hC]; exact not_bit H _ hlt (by omega)
  clear hH hC
  have HL : Hid (H < 2 ^ 64) := hlt
  have CL : Hid (C < 2 ^ 64) := hCl
  clear hlt hCl
  refine cps fun Q hQ => ?_
  cases hc : decide (2 ^ 63 ≤ H)
  · rw [hc] at htop' htop
    clear hc
    go_enter Try.func87, Try.ntmps87
    go_wp2_with (go_at_call 107; refine (lz_any H HL.out _).mono ?_; rintro e w' ⟨L, rfl, hL, rfl⟩)
    all_goals
      obtain ⟨k, hk1, hk2, hr⟩ := isRun_of x n H L false h1 h2 htop.out.symm (fun j hj => by rw [hbits.out j hj]; simp) hL
      go_ret3
      exact hQ.out _ _ ⟨false, k, ret_bix rfl (by omega), hr, rfl⟩
  · rw [hc] at htop' htop
    clear hc
    go_enter Try.func87, Try.ntmps87
    go_wp2_with (go_at_call 107; refine (lz_any C CL.out _).mono ?_; rintro e w' ⟨L, rfl, hL, rfl⟩)
    all_goals
      obtain ⟨k, hk1, hk2, hr⟩ := isRun_of x n C L true h1 h2 htop.out.symm (fun j hj => by rw [hbC.out j hj, hbits.out j hj]; simp) hL
      go_ret3
      exact hQ.out _ _ ⟨true, k, ret_bix rfl (by omega), hr, rfl⟩
end Go.Proofs.Ytllahgcifichbaa

namespace Go.Proofs.Ytllahgcifichbaa
set_option maxRecDepth 100000
set_option linter.unusedVariables false
set_option linter.unusedSimpArgs false

/-! ### bits put, bits read, of a word that is a string (plain mathematics) -/
theorem numOf_noughts_append (z : Nat) (l : List Bool) : numOf (noughts z ++ l) = numOf l := by
  rw [numOf_append, numOf_noughts]; simp
theorem bits64_numOf (l : List Bool) (h : l.length ≤ 64) : bitsOf (numOf l) 64 = noughts (64 - l.length) ++ l := by
  refine numOf_inj (by rw [bitsOf_length, List.length_append, List.length_replicate]; omega) ?_
  rw [numOf_bits, numOf_noughts_append]
  exact Nat.mod_eq_of_lt (Nat.lt_of_lt_of_le (numOf_lt l) (Nat.pow_le_pow_right (by decide) h))
/-- bits put into a string -/
theorem put_list (a b c : List Bool) (v at_ m : Nat) (hb : b.length = m) (hc : c.length = at_) (hl : (a ++ b ++ c).length ≤ 64) :
    putOf (numOf (a ++ b ++ c)) at_ m v = numOf (a ++ bitsOf v m ++ c) := by
  have hlen : a.length + m + at_ ≤ 64 := by simp only [List.length_append] at hl; omega
  have hlt : numOf (a ++ b ++ c) < 2 ^ 64 := Nat.lt_of_lt_of_le (numOf_lt _) (Nat.pow_le_pow_right (by decide) hl)
  rw [put_eq _ at_ m v hlt (by omega), rputL, bits64_numOf _ hl]
  have hl2 : (a ++ b ++ c).length = a.length + m + at_ := by simp only [List.length_append]; omega
  rw [hl2]
  obtain ⟨z, hz⟩ : ∃ z, z = 64 - (a.length + m + at_) := ⟨_, rfl⟩
  rw [← hz]
  have e1 : (noughts z ++ (a ++ b ++ c)).take (64 - at_ - m) = noughts z ++ a := by
    rw [show noughts z ++ (a ++ b ++ c) = (noughts z ++ a) ++ (b ++ c) by simp, List.take_append_of_le_length (by simp; omega), List.take_of_length_le (by simp; omega)]
  have e2 : (noughts z ++ (a ++ b ++ c)).drop (64 - at_) = c := by
    rw [show noughts z ++ (a ++ b ++ c) = (noughts z ++ a ++ b) ++ c by simp, List.drop_append_of_le_length (by simp; omega), List.drop_of_length_le (by simp; omega), List.nil_append]
  rw [e1, e2, List.take_of_length_le (by omega), List.append_assoc, numOf_noughts_append, List.append_assoc]
theorem bits_ones (m : Nat) (hm : m ≤ 64) : bitsOf 18446744073709551615 m = List.replicate m true := by
  apply List.ext_getElem?
  intro j
  by_cases hj : j < m
  · rw [bitsOf_get _ _ _ hj, show (18446744073709551615 : Nat) = 2 ^ 64 - 1 by decide, Nat.testBit_two_pow_sub_one, List.getElem?_replicate, if_pos hj, decide_eq_true (by omega)]
  · rw [List.getElem?_eq_none (by rw [bitsOf_length]; omega), List.getElem?_eq_none (by simp; omega)]
theorem bits_none (m : Nat) : bitsOf 0 m = noughts m := by
  apply List.ext_getElem?
  intro j
  by_cases hj : j < m
  · rw [bitsOf_get _ _ _ hj, noughts, List.getElem?_replicate, if_pos hj, Nat.zero_testBit]
  · rw [List.getElem?_eq_none (by rw [bitsOf_length]; omega), List.getElem?_eq_none (by simp; omega)]
/-- the word of a run: all ones, or nought -/
def wordB (b : Bool) : Nat := if b then 18446744073709551615 else 0
theorem bits_wordB (b : Bool) (m : Nat) (hm : m ≤ 64) : bitsOf (wordB b) m = List.replicate m b := by
  cases b
  · exact bits_none m
  · exact bits_ones m hm
/-- the string that is assembled, of n - 1 bits -/
def asmL (n : Nat) (ones : Bool) (run v1 v2 : Nat) : List Bool :=
  List.replicate run ones ++ (if n - 1 - run = 0 then [] else (!ones) :: (bitsOf v1 (min (n - 2 - run) 2) ++ bitsOf v2 (n - 2 - run - 2)))
theorem asmL_length (n : Nat) (ones : Bool) (run v1 v2 : Nat) (h : run ≤ n - 1) : (asmL n ones run v1 v2).length = n - 1 := by
  unfold asmL
  split
  · simp; omega
  · simp [bitsOf_length]; omega
theorem asm_end (n : Nat) (ones : Bool) (run v1 v2 : Nat) (hn : n ≤ 64) (h1 : run = n - 1) :
    putOf (putOf (putOf 0 0 run (wordB ones)) 0 0 v1) 0 0 v2 = numOf (asmL n ones run v1 v2) := by
  have hz : ∀ (l : List Bool) v, l.length ≤ 64 → putOf (numOf l) 0 0 v = numOf l := fun l v hl => by
    have := put_list l [] [] v 0 0 rfl rfl (by simpa using hl)
    simpa [bitsOf] using this
  have h0 := put_list [] (noughts run) [] (wordB ones) 0 run (by simp) rfl (by simp; omega)
  rw [List.nil_append, List.append_nil, numOf_noughts, bits_wordB _ _ (by omega), List.nil_append, List.append_nil] at h0
  rw [h0, hz _ _ (by simp; omega), hz _ _ (by simp; omega)]
  unfold asmL
  rw [if_pos (by omega), List.append_nil]
theorem asm_all (n : Nat) (ones : Bool) (run v1 v2 behind E F : Nat) (hn : n ≤ 64) (hb : behind = n - 1 - run) (h1 : 0 < behind) (hE : E = min (n - 2 - run) 2) (hF : F = n - 2 - run - E) :
    putOf (putOf (putOf (putOf 0 behind run (wordB ones)) (behind - 1) 1 (wordB (!ones))) F E v1) 0 F v2 = numOf (asmL n ones run v1 v2) := by
  have h0 := put_list [] (noughts run) (noughts behind) (wordB ones) behind run (by simp) (by simp) (by simp; omega)
  rw [List.nil_append, noughts_add, numOf_noughts, bits_wordB _ _ (by omega), List.nil_append] at h0
  have e1 : noughts behind = [false] ++ noughts (behind - 1) := by
    rw [show [false] = noughts 1 from rfl, noughts_add]; congr 1; omega
  have h2 := put_list (List.replicate run ones) [false] (noughts (behind - 1)) (wordB (!ones)) (behind - 1) 1 rfl (by simp) (by simp; omega)
  rw [List.append_assoc, ← e1, bits_wordB _ _ (by omega)] at h2
  have e2 : noughts (behind - 1) = noughts E ++ noughts F := by rw [noughts_add]; congr 1; omega
  have h3 := put_list (List.replicate run ones ++ [!ones]) (noughts E) (noughts F) v1 F E (by simp) (by simp) (by simp; omega)
  rw [List.append_assoc, ← e2] at h3
  have h4 := put_list (List.replicate run ones ++ [!ones] ++ bitsOf v1 E) (noughts F) [] v2 0 F (by simp) rfl (by simp [bitsOf_length]; omega)
  rw [List.append_nil, List.append_nil] at h4
  rw [h0, h2, show List.replicate 1 (!ones) = [!ones] from rfl, h3, h4]
  unfold asmL
  rw [if_neg (by omega), show n - 2 - run - 2 = F by omega, ← hE]
  simp
/-- bits read out of a word that ends with a string -/
theorem fieldOf_mod (y at_ m k : Nat) (h : at_ + m ≤ k) : fieldOf y at_ m = fieldOf (y % 2 ^ k) at_ m := by
  apply Nat.eq_of_testBit_eq
  intro i
  rw [fieldOf, fieldOf, Nat.testBit_mod_two_pow, Nat.testBit_mod_two_pow, Nat.testBit_shiftRight, Nat.testBit_shiftRight, Nat.testBit_mod_two_pow]
  by_cases hi : i < m
  · rw [decide_eq_true (show at_ + i < k by omega)]; simp
  · simp [hi]
theorem fieldOf_list (a b c : List Bool) : fieldOf (numOf (a ++ b ++ c)) c.length b.length = numOf b := by
  have hc := numOf_lt c
  have hb := numOf_lt b
  have h0 : 0 < 2 ^ c.length := Nat.pos_of_ne_zero (by simp)
  rw [fieldOf, numOf_append, numOf_append, Nat.shiftRight_eq_div_pow, Nat.mul_comm, Nat.mul_add_div h0, Nat.div_eq_of_lt hc, Nat.add_zero, Nat.mul_comm, Nat.mul_add_mod, Nat.mod_eq_of_lt hb]
/-- the parts of a string, read off a word that ends with it -/
theorem exp_field (t : List Bool) (y m E F : Nat) (hl : t.length = m) (hy : y % 2 ^ m = numOf t) (hE : E = min (restL t).length 2) (hF : F = (restL t).length - E) :
    fieldOf y F E * 2 ^ (2 - E) = expL t ∧ fieldOf y 0 F = fracL t := by
  have hr := restL_length t
  have ht : t = t.take (runL t + 1) ++ (restL t).take E ++ (restL t).drop E := by
    rw [List.append_assoc, List.take_append_drop, restL, List.take_append_drop]
  have l1 : ((restL t).take E).length = E := by rw [List.length_take]; omega
  have l2 : ((restL t).drop E).length = F := by rw [List.length_drop]; omega
  have hEu : (E = (restL t).length ∧ (restL t).length ≤ 2) ∨ (E = 2 ∧ 2 < (restL t).length) := by omega
  have f1 := fieldOf_list (t.take (runL t + 1)) ((restL t).take E) ((restL t).drop E)
  have f2 := fieldOf_list (t.take (runL t + 1) ++ (restL t).take E) ((restL t).drop E) []
  rw [List.append_nil, List.length_nil] at f2
  rw [← ht, l1, l2] at f1
  rw [← ht, l2] at f2
  constructor
  · rw [fieldOf_mod y F E m (by omega), hy, f1]
    unfold expL
    have : (restL t ++ noughts 2).take 2 = (restL t).take E ++ noughts (2 - E) := by
      rcases hEu with ⟨h1, h2⟩ | ⟨h1, h2⟩
      · rw [List.take_append, List.take_of_length_le h2, h1, List.take_of_length_le (Nat.le_refl _), take_noughts _ _ (by omega)]
      · rw [h1, List.take_append_of_le_length (by omega)]; simp [noughts]
    rw [this, numOf_append, numOf_noughts]; simp
  · rw [fieldOf_mod y 0 F m (by omega), hy, f2, frac_drop _ _ hEu]; rfl
/-- the run of a string, read off a word that ends with it -/
theorem run_field (t : List Bool) (y m : Nat) (h0 : 0 < m) (hl : t.length = m) (hy : y % 2 ^ m = numOf t) : IsRun y m (onesL t) (runL t) := by
  have hne : t ≠ [] := by rintro rfl; simp at hl; omega
  obtain ⟨b, r, tl, rfl, htl⟩ := split_run t hne
  have hbit : ∀ j, j < m → y.testBit (m - 1 - j) = (List.replicate (r + 1) b ++ tl).getD j false := fun j hj => by
    have : (y % 2 ^ m).testBit (m - 1 - j) = y.testBit (m - 1 - j) := by
      rw [Nat.testBit_mod_two_pow, decide_eq_true (by omega)]; rfl
    rw [← this, hy, numOf_testBit, hl, decide_eq_true (by omega), show m - 1 - (m - 1 - j) = j by omega]; rfl
  rw [runL_rep b r tl htl, onesL_rep]
  have hl' : r + 1 + tl.length = m := by simpa using hl
  refine ⟨?_, by omega, by omega, ?_, ?_⟩
  · have := hbit 0 h0
    rw [Nat.sub_zero] at this
    rw [this, List.replicate_succ]; rfl
  · intro j hj
    rw [hbit j (by omega), List.getD_eq_getElem?_getD, List.getElem?_append_left (by simpa using hj), List.getElem?_replicate, if_pos hj]; rfl
  · intro hk
    rw [hbit (r + 1) hk, List.getD_eq_getElem?_getD, List.getElem?_append_right (by simp)]
    rcases htl with rfl | ⟨u, rfl⟩
    · simp at hl'; omega
    · simp
/-- a string is what is assembled of its parts -/
theorem asm_parts (n : Nat) (t : List Bool) (h2 : 2 ≤ n) (hl : t.length = n - 1) (v : Nat) (hv : v = expL t / 2 ^ (2 - min (n - 2 - runL t) 2)) : asmL n (onesL t) (runL t) v (fracL t) = t := by
  have hne : t ≠ [] := by rintro rfl; simp at hl; omega
  obtain ⟨b, r, tl, rfl, htl⟩ := split_run t hne
  unfold asmL
  have h1 := runL_rep b r tl htl
  have hl' : r + 1 + tl.length = n - 1 := by simpa using hl
  rw [h1] at hv ⊢
  rw [onesL_rep]
  rcases htl with rfl | ⟨u, rfl⟩
  · rw [if_pos (by simp at hl'; omega)]
  · have hu : u.length = n - 2 - (r + 1) := by simp at hl'; omega
    rw [if_neg (by simp at hl'; omega)]
    congr 2
    rw [← hu]
    have hr : restL (List.replicate (r + 1) b ++ (!b) :: u) = u := restL_rep b r u
    have hf : fracL (List.replicate (r + 1) b ++ (!b) :: u) = numOf (u.drop 2) := by unfold fracL; rw [hr]
    have he : expL (List.replicate (r + 1) b ++ (!b) :: u) = numOf ((u ++ noughts 2).take 2) := by unfold expL; rw [hr]
    have e1 : bitsOf (numOf (u.drop 2)) (u.length - 2) = u.drop 2 := by
      have := bitsOf_numOf (u.drop 2)
      rwa [List.length_drop] at this
    obtain ⟨E, hE⟩ : ∃ E, E = min u.length 2 := ⟨_, rfl⟩
    have hEu : (E = u.length ∧ u.length ≤ 2) ∨ (E = 2 ∧ 2 < u.length) := by omega
    have e2 : (u ++ noughts 2).take 2 = u.take E ++ noughts (2 - E) := by
      rcases hEu with ⟨h1, h2⟩ | ⟨h1, h2⟩
      · rw [List.take_append, List.take_of_length_le h2, h1, List.take_of_length_le (Nat.le_refl _), take_noughts _ _ (by omega)]
      · rw [h1, List.take_append_of_le_length (by omega)]; simp [noughts]
    have e3 : v = numOf (u.take E) := by
      rw [hv, he, e2, numOf_append, numOf_noughts, ← hu, ← hE, Nat.add_zero, List.length_replicate]
      exact Nat.mul_div_cancel _ (Nat.pos_of_ne_zero (by simp))
    have e4 : bitsOf (numOf (u.take E)) E = u.take E := by
      have := bitsOf_numOf (u.take E)
      rwa [List.length_take, Nat.min_eq_left (by omega)] at this
    rw [hf, e1, ← hE, e3, e4]
    rcases hEu with ⟨h1, h2⟩ | ⟨h1, h2⟩
    · rw [List.drop_of_length_le h2, List.append_nil, h1, List.take_of_length_le (Nat.le_refl _)]
    · rw [h1, List.take_append_drop]
theorem bits_drop1 (x m : Nat) (h : 1 ≤ m) : (bitsOf x m).drop 1 = bitsOf x (m - 1) := by
  apply List.ext_getElem?
  intro j
  by_cases hj : j < m - 1
  · rw [List.getElem?_drop, bitsOf_get _ _ _ (by omega), bitsOf_get _ _ _ hj]
    congr 2; omega
  · rw [List.getElem?_eq_none (by rw [List.length_drop, bitsOf_length]; omega), List.getElem?_eq_none (by rw [bitsOf_length]; omega)]
theorem bits_take (x m k : Nat) (h : k ≤ m) : (bitsOf x m).take k = bitsOf (x >>> (m - k)) k := by
  apply List.ext_getElem?
  intro j
  by_cases hj : j < k
  · rw [List.getElem?_take_of_lt hj, bitsOf_get _ _ _ (by omega), bitsOf_get _ _ _ hj, Nat.testBit_shiftRight]
    congr 2; omega
  · rw [List.getElem?_eq_none (by rw [List.length_take, bitsOf_length]; omega), List.getElem?_eq_none (by rw [bitsOf_length]; omega)]
theorem bits_field (f F : Nat) (h : F ≤ 63) : ((bitsOf f 64).drop 1).take F = bitsOf (fieldOf f (63 - F) F) F := by
  apply List.ext_getElem?
  intro j
  by_cases hj : j < F
  · rw [List.getElem?_take_of_lt hj, List.getElem?_drop, bitsOf_get _ _ _ (by omega), bitsOf_get _ _ _ hj, fieldOf, Nat.testBit_mod_two_pow, Nat.testBit_shiftRight, decide_eq_true (by omega), Bool.true_and]
    congr 2; omega
  · rw [List.getElem?_eq_none (by rw [List.length_take, List.length_drop, bitsOf_length]; omega), List.getElem?_eq_none (by rw [bitsOf_length]; omega)]
/-- a number's string, cut, is what is assembled of its parts -/
theorem asm_cut (n : Nat) (hn : Wd n) (s : Int) (f : Nat) (hr : inR n s = true) (ones : Bool) (run v1 v2 F : Nat)
    (hk : headK (s / 4) = List.replicate run ones ++ [!ones]) (hF : F = n - 2 - run - 2) (hv1 : v1 = (s % 4).toNat / 2 ^ (2 - min (n - 2 - run) 2)) (hv2 : v2 = fieldOf f (63 - F) F) :
    run ≤ n - 1 ∧ asmL n ones run v1 v2 = cutL n s f := by
  have hw := wd_le hn
  have hr' := of_decide_eq_true hr
  have hrun : run ≤ n - 1 := by
    have hl := congrArg List.length hk
    unfold headK at hl
    split at hl <;> simp at hl <;> omega
  refine ⟨hrun, ?_⟩
  unfold asmL cutL canon
  rw [hk]
  by_cases he : n - 1 - run = 0
  · rw [if_pos he, List.append_nil, List.append_assoc, List.append_assoc, List.take_append_of_le_length (by simp; omega), List.take_of_length_le (by simp; omega)]
  · rw [if_neg he, List.append_assoc, List.append_assoc, List.take_append, List.take_of_length_le (by simp; omega), List.length_replicate, show n - 1 - run = (n - 2 - run) + 1 by omega, List.cons_append, List.take_succ_cons, List.nil_append]
    congr 2
    obtain ⟨q, hq⟩ : ∃ q, q = n - 2 - run := ⟨_, rfl⟩
    rw [← hq] at hF hv1 ⊢
    have hm : min q 2 ≤ 2 := Nat.min_le_right _ _
    rw [List.take_append, bitsOf_length, hv1, hv2, ← Nat.shiftRight_eq_div_pow, ← bits_take _ 2 (min q 2) hm, ← hF, bits_field f F (by omega)]
    congr 1
    · by_cases h2 : q ≤ 2
      · rw [Nat.min_eq_left h2]
      · rw [Nat.min_eq_right (by omega), List.take_of_length_le (by rw [bitsOf_length]; exact Nat.le_refl _), List.take_of_length_le (by rw [bitsOf_length]; omega)]
end Go.Proofs.Ytllahgcifichbaa

namespace Go.Proofs.Ytllahgcifichbaa
open Go.ChangeShapes Go.WideShapes Go.ChangeAt Go.RowKit
set_option linter.unusedVariables false
set_option linter.unusedSimpArgs false
set_option maxRecDepth 100000

theorem ret_ii {k : IntKind} {a b c d : Int} (h : a = b) (g : c = d) : Ending.returned (.tuple #[.int k a, .int k c]) = .returned (.tuple #[.int k b, .int k d]) := by rw [h, g]
/-! ### the code's helpers: regime, row, room, assemble -/
theorem cregime_any (ones : Bool) (run : Int) (h1 : -1000 ≤ run) (h2 : run ≤ 1000) (w : World) :
    Calls Try.prog 88 #[.bool ones, .int .i64 run] w fun e w' => e = .returned (.int .i64 (if ones then run - 1 else -run)) ∧ w' = w := by
  refine cps fun Q hQ => ?_
  cases ones
  · go_enter Try.func88, Try.ntmps88
    go_wp2
    exact hQ.out _ _ ⟨ret_i rfl, rfl⟩
  · go_enter Try.func88, Try.ntmps88
    go_wp2
    exact hQ.out _ _ ⟨ret_i rfl, rfl⟩
theorem croom_any (n run : Nat) (hn : n ≤ 64) (h2 : run ≤ 64) (w : World) :
    Calls Try.prog 89 #[.int .i64 n, .int .i64 run] w fun e w' => e = .returned (.tuple #[.int .i64 (min (n - 2 - run) 2 : Nat), .int .i64 (n - 2 - run - min (n - 2 - run) 2 : Nat)]) ∧ w' = w := by
  refine cps fun Q hQ => ?_
  obtain ⟨q, hq⟩ : ∃ q, q = n - 2 - run := ⟨_, rfl⟩
  rw [← hq] at hQ
  obtain ⟨E, hE⟩ : ∃ E, E = min q 2 := ⟨_, rfl⟩
  rw [← hE] at hQ
  have HQ2 : Hid (q = n - 2 - run ∧ E = min q 2) := ⟨hq, hE⟩
  clear hq hE
  go_enter Try.func89, Try.ntmps89
  go_wp2
  all_goals
    obtain ⟨h3, h4⟩ := HQ2.out
    exact hQ.out _ _ ⟨ret_ii (by omega) (by omega), rfl⟩
end Go.Proofs.Ytllahgcifichbaa

namespace Go.Proofs.Ytllahgcifichbaa
open Go.ChangeShapes Go.WideShapes Go.ChangeAt Go.RowKit
set_option linter.unusedVariables false
set_option linter.unusedSimpArgs false
set_option maxRecDepth 100000

/-! ### assemble -/
theorem putOf_lt (x at_ m v : Nat) (hx : x < 2 ^ 64) : putOf x at_ m v < 2 ^ 64 := by
  unfold putOf
  exact Nat.or_lt_two_pow (Nat.lt_of_le_of_lt Nat.and_le_left hx) (Nat.lt_of_le_of_lt Nat.and_le_left (Nat.mod_lt _ (by decide)))
def asmV (n run : Nat) (ex : Int) : Nat := u64Of (ex / 2 ^ (2 - min (n - 2 - run) 2))
def asmP (n : Nat) (neg ones : Bool) (run : Nat) (ex : Int) (fr : Nat) : Nat :=
  if neg then minusU (numOf (asmL n ones run (asmV n run ex) fr)) % 2 ^ n else numOf (asmL n ones run (asmV n run ex) fr)
theorem isField_nat {a m : Nat} (h : a + m ≤ 64) : isField a m = true := by simp [isField]; omega
end Go.Proofs.Ytllahgcifichbaa

namespace Go.Proofs.Ytllahgcifichbaa
open Go.ChangeShapes Go.WideShapes Go.ChangeAt Go.RowKit
set_option linter.unusedVariables false
set_option linter.unusedSimpArgs false
set_option maxRecDepth 100000

/-! ### Split -/
abbrev codeV (c : Int) : Value := .iface 41 (.int .i64 c)
theorem crun_str (n y : Nat) (hn : Wd n) (t : List Bool) (hl : t.length = n - 1) (hy : y % 2 ^ (n - 1) = numOf t) (M : Int) (hM : M = (n : Int) - 1) (w : World) :
    Calls Try.prog 87 #[.int .u64 y, .int .i64 M] w fun e w' => e = .returned (.tuple #[.bool (onesL t), .int .i64 (runL t : Nat), .nilIface]) ∧ w' = w := by
  have hw := wd_le hn
  have := lrun_ok y (n - 1) (by omega) (by omega) w
  rw [show (((n - 1 : Nat) : Int)) = M by omega] at this
  refine this.mono ?_
  rintro e w' ⟨b, k, rfl, hr, rfl⟩
  obtain ⟨rfl, rfl⟩ := hr.one (run_field t y (n - 1) (by omega) hl hy)
  exact ⟨rfl, rfl⟩
theorem cfield_nat (y a m : Nat) (hy : y < 2 ^ 64) (h : a + m ≤ 64) (A : Int) (hA : A = a) (w : World) :
    Calls Try.prog 76 #[.int .u64 y, .int .i64 A, .int .i64 m] w fun e w' => e = .returned (.tuple #[.int .u64 (fieldOf y a m : Nat), .nilIface]) ∧ ∃ q, w' = w.drewN q := by
  subst hA
  have := lfield_ok y a m hy (isField_nat h) w
  rwa [Int.toNat_natCast, Int.toNat_natCast] at this
theorem strS_word (n x : Nat) (hn : Wd n) (hx : x < 2 ^ 64) : (if x.testBit (n - 1) then minusU x else x) % 2 ^ (n - 1) = numOf (strS n x) := by
  have hw := wd_le hn
  have drop1 : ∀ y, numOf ((bitsOf y n).drop 1) = y % 2 ^ (n - 1) := fun y => by
    have := bits_drop1 y n (by omega)
    rw [this, numOf_bits]
  unfold strS
  cases x.testBit (n - 1)
  · simp only [Bool.false_eq_true, if_false]; rw [drop1]
  · simp only [if_true]; rw [drop1]
theorem ext_neg (n x : Nat) (hn : Wd n) : decide (extOf x n < 0) = x.testBit (n - 1) := by
  have h := Nat.mod_lt x (show 0 < 2 ^ n from Nat.pos_of_ne_zero (by simp))
  unfold extOf
  cases x.testBit (n - 1)
  · exact decide_eq_false (by simp only [Bool.toNat_false, Nat.zero_mul]; omega)
  · exact decide_eq_true (by simp only [Bool.toNat_true, Nat.one_mul]; omega)
set_option maxHeartbeats 1000000 in
theorem csplit_real (n x : Nat) (hn : Wd n) (hx : x < 2 ^ 64) (hk : kindOf n (x % 2 ^ n) = 1) (w : World) :
    Calls Try.prog 64 #[.int .i64 n, .int .u64 x] w fun e w' => e = .returned (.tuple #[fdV (x.testBit (n - 1)) (strS n x), .nilIface]) ∧ Below w.heap.size w w' := by
  have k1 := kind_ok n x hn hx
  rw [hk] at k1
  have hw := wd_le hn
  have hlen := strS_length n x
  have k2 := rank_ok n x hn
  have hneg := ext_neg n x hn
  have hm := minusU_wrap x hx
  have hyw := strS_word n x hn hx
  obtain ⟨y, hy⟩ : ∃ y, y = (if x.testBit (n - 1) then minusU x else x) := ⟨_, rfl⟩
  rw [← hy] at hyw
  have hy64 : y < 2 ^ 64 := by rw [hy]; split; exact minusU_lt _; exact hx
  have k3 := fun M hM w => crun_str n y hn (strS n x) hlen hyw M hM w
  replace k3 := k3 ((n : Int) - 1) rfl
  have hrl := runL_le (strS n x)
  have hrl2 := restL_length (strS n x)
  have hr1 : 1 ≤ runL (strS n x) := by
    have := (run_field (strS n x) y (n - 1) (by omega) hlen hyw).low
    exact this
  rw [hlen] at hrl hrl2
  obtain ⟨r, hr⟩ : ∃ r, r = runL (strS n x) := ⟨_, rfl⟩
  obtain ⟨E, hE⟩ : ∃ E, E = min (n - 2 - r) 2 := ⟨_, rfl⟩
  obtain ⟨F, hF⟩ : ∃ F, F = n - 2 - r - E := ⟨_, rfl⟩
  obtain ⟨d, hd⟩ : ∃ d, d = 2 - E := ⟨_, rfl⟩
  have hE' : E = min (restL (strS n x)).length 2 := by rw [hrl2, hE, ← hr]; congr 1; omega
  have hF' : F = (restL (strS n x)).length - E := by rw [hrl2, hF, ← hr]; omega
  obtain ⟨f1, f2⟩ := exp_field (strS n x) y (n - 1) E F hlen hyw hE' hF'
  have hex : expL (strS n x) < 4 := by
    have := numOf_lt ((restL (strS n x) ++ noughts 2).take 2)
    rw [show ((restL (strS n x) ++ noughts 2).take 2).length = 2 by simp] at this
    exact this
  have k4 := cregime_any (onesL (strS n x)) (runL (strS n x)) (by omega) (by omega)
  have k5 := croom_any n (runL (strS n x)) hw.2 (by omega)
  rw [← hr] at k3 k4 k5 hrl hr1
  rw [← hE, ← hF] at k5
  have k6 := cfield_nat y F E hy64 (by omega) F rfl
  have k7 := cfield_nat y 0 F hy64 (by omega) 0 rfl
  rw [f2] at k7
  have hev : fieldOf y F E < 4 := by
    have : 0 < 2 ^ (2 - E) := Nat.pos_of_ne_zero (by simp)
    have h := Nat.le_mul_of_pos_right (fieldOf y F E) this
    omega
  have hdd : (2 : Int) - (E : Int) = (d : Int) := by omega
  have hv : fdV (x.testBit (n - 1)) (strS n x) = .agg #[.bool (x.testBit (n - 1)), .bool (onesL (strS n x)), .int .i64 r, .int .i64 (if onesL (strS n x) then (r : Int) - 1 else -(r : Int)), .int .i64 (E : Nat), .int .i64 (expL (strS n x)), .int .i64 (F : Nat), .int .u64 (fracL (strS n x))] := by
    unfold fdV regL
    rw [← hr, ← hE', show (restL (strS n x)).length - 2 = F by omega]
  rw [hv]
  rw [← hd] at f1
  obtain ⟨ex, hexx⟩ : ∃ ex, ex = expL (strS n x) := ⟨_, rfl⟩
  rw [← hexx] at f1 hex
  rw [← hexx]
  have hsh : ((fieldOf y F E : Nat) : Int) * 2 ^ d = (ex : Int) := by rw [← f1]; simp
  have hshw : wrap64 (((fieldOf y F E : Nat) : Int) * 2 ^ d) = (ex : Int) := by rw [hsh]; unfold wrap64; omega
  clear hsh
  have hd2 : d ≤ 2 := by omega
  have hE2 : E ≤ 2 := by omega
  have hF2 : F ≤ 62 := by omega
  have hr2 : r ≤ 63 := by omega
  clear f1 f2 hv hE hF hE' hF' hd hrl hrl2 hr hexx hyw hlen hk
  obtain ⟨b, hb⟩ : ∃ b, b = x.testBit (n - 1) := ⟨_, rfl⟩
  rw [← hb] at hneg hy
  rw [← hb]
  clear hb
  generalize onesL (strS n x) = o at *
  generalize fracL (strS n x) = fr at *
  generalize fieldOf y F E = ev at *
  obtain ⟨rg, hrg⟩ : ∃ rg : Int, rg = (if o then (r : Int) - 1 else -(r : Int)) := ⟨_, rfl⟩
  rw [← hrg] at k4
  rw [← hrg]
  clear hrg
  generalize extOf x n = ext at *
  refine cps fun Q hQ => ?_
  clear hn
  cases b
  · simp only [Bool.false_eq_true, if_false] at hy
    subst hy
    go_enter Try.func64, Try.ntmps64
    go_wp2_with (first
      | (go_at_call 63; go_must (refine (k1 _).mono ?_); rintro e w1 ⟨rfl, hb1⟩; have R1 := (hb1.block w.heap.size (by simp)).trans (rownew w _ _); have z1 : w.heap.size < w1.heap.size := (by have := hb1.size; simp at this; omega); have HR1 : Hid _ := R1; have HB1 : Hid (Below _ _ _) := hb1; clear hb1 R1)
      | (go_at_call 86; go_must (refine (k2 _).mono ?_); rintro e w2 ⟨rfl, hb2⟩; have R0 := (hb2.block w.heap.size z1).trans HR1.out; have z2 : w.heap.size < w2.heap.size := (Nat.lt_of_lt_of_le z1 hb2.size); have HR0 : Hid _ := R0; have hne1 : ¬ w.heap.size = w2.heap.size := (by omega); have hne2 : ¬ w2.heap.size = w.heap.size := (by omega); have HB2 : Hid (Below _ _ _) := hb2; clear hb2 R0)
      | (go_at_call 87; go_must (refine (k3 _).mono ?_); rintro e w3 ⟨rfl, rfl⟩)
      | (go_at_call 88; go_must (refine (k4 _).mono ?_); rintro e w3 ⟨rfl, rfl⟩)
      | (go_at_call 89; go_must (refine (k5 _).mono ?_); rintro e w3 ⟨rfl, rfl⟩)
      | (go_at_call_of 76 E; go_must (refine (k6 _).mono ?_); rintro e w6 ⟨rfl, q6, hw6⟩; have R6 : w6.heap[w2.heap.size]? = some (.cells #[.bool false, .bool o, .int .i64 r, .int .i64 rg, .int .i64 (E : Nat), .int .i64 0, .int .i64 (F : Nat), .int .u64 0] 94 (0, 0)) := (by rw [hw6]; exact rownew w2 _ _); have B6 : Below w2.heap.size w2 w6 := (by rw [hw6]; exact below_drewN (cmore (Below.refl _ _) _) _); have e0 := rowcell R6 0; have e1 := rowcell R6 1; have e2 := rowcell R6 2; have e3 := rowcell R6 3; have e4 := rowcell R6 4; have e5 := rowcell R6 5; have e6 := rowcell R6 6; have e7 := rowcell R6 7; have ef := rowfree R6; simp only [List.getElem?_toArray, List.getElem?_cons_zero, List.getElem?_cons_succ] at e0 e1 e2 e3 e4 e5 e6 e7; have HR6 : Hid _ := R6; have HB6 : Hid (Below _ _ _) := B6; clear R6 B6 hw6)
      | (go_at_call 76; go_must (refine (k7 _).mono ?_); rintro e w7 ⟨rfl, q7, hw7⟩; have R7 : w7.heap[w2.heap.size]? = some (.cells #[.bool false, .bool o, .int .i64 r, .int .i64 rg, .int .i64 (E : Nat), .int .i64 ex, .int .i64 (F : Nat), .int .u64 0] 94 (0, 0)) := (by rw [hw7]; refine (rowset HR6.out 5 _).trans ?_; simp only [List.setIfInBounds_toArray, List.set_cons_zero, List.set_cons_succ]); have B7 : Below w2.heap.size w2 w7 := (by rw [hw7]; exact below_drewN (cset HB6.out (Nat.le_refl _) _ _) _); have g0 := rowcell R7 0; have g1 := rowcell R7 1; have g2 := rowcell R7 2; have g3 := rowcell R7 3; have g4 := rowcell R7 4; have g5 := rowcell R7 5; have g6 := rowcell R7 6; have g7 := rowcell R7 7; have gf := rowfree R7; simp only [List.getElem?_toArray, List.getElem?_cons_zero, List.getElem?_cons_succ] at g0 g1 g2 g3 g4 g5 g6 g7; have R0 := (B7.block w.heap.size z2).trans HR0.out; have b0 := rowcell R0 0; have b1 := rowcell R0 1; have b2 := rowcell R0 2; have b3 := rowcell R0 3; have b4 := rowcell R0 4; have b5 := rowcell R0 5; have b6 := rowcell R0 6; have b7 := rowcell R0 7; have bf := rowfree R0; simp only [List.getElem?_toArray, List.getElem?_cons_zero, List.getElem?_cons_succ] at b0 b1 b2 b3 b4 b5 b6 b7; have HB7 : Hid (Below _ _ _) := B7; clear R7 B7 R0 hw7 e0 e1 e2 e3 e4 e5 e6 e7 ef))
    have B2 := cthen (cthen (cmore (Below.refl w.heap.size w) _) HB1.out) HB2.out
    have hmw : w.heap.size ≤ w2.heap.size := Nat.le_of_lt z2
    refine bodyPost_ret (v := .tuple #[.agg #[.bool false, .bool o, .int .i64 r, .int .i64 rg, .int .i64 (E : Nat), .int .i64 ex, .int .i64 (F : Nat), .int .u64 fr], .nilIface]) (by simp [results, Try.results64, go_sem, b0, b1, b2, b3, b4, b5, b6, b7, bf, hne1, hne2]) rfl (hQ.out _ _ ⟨rfl, ?_⟩)
    exact cset8 (cset (cthen B2 HB7.out) hmw _ _) (Nat.le_refl _)
  · simp only [if_true] at hy
    rw [← hy] at hm
    clear hy
    go_enter Try.func64, Try.ntmps64
    go_wp2_with (first
      | (go_at_call 63; go_must (refine (k1 _).mono ?_); rintro e w1 ⟨rfl, hb1⟩; have R1 := (hb1.block w.heap.size (by simp)).trans (rownew w _ _); have z1 : w.heap.size < w1.heap.size := (by have := hb1.size; simp at this; omega); have HR1 : Hid _ := R1; have HB1 : Hid (Below _ _ _) := hb1; clear hb1 R1)
      | (go_at_call 86; go_must (refine (k2 _).mono ?_); rintro e w2 ⟨rfl, hb2⟩; have R0 := (hb2.block w.heap.size z1).trans HR1.out; have z2 : w.heap.size < w2.heap.size := (Nat.lt_of_lt_of_le z1 hb2.size); have HR0 : Hid _ := R0; have hne1 : ¬ w.heap.size = w2.heap.size := (by omega); have hne2 : ¬ w2.heap.size = w.heap.size := (by omega); have HB2 : Hid (Below _ _ _) := hb2; clear hb2 R0)
      | (go_at_call 87; go_must (refine (k3 _).mono ?_); rintro e w3 ⟨rfl, rfl⟩)
      | (go_at_call 88; go_must (refine (k4 _).mono ?_); rintro e w3 ⟨rfl, rfl⟩)
      | (go_at_call 89; go_must (refine (k5 _).mono ?_); rintro e w3 ⟨rfl, rfl⟩)
      | (go_at_call_of 76 E; go_must (refine (k6 _).mono ?_); rintro e w6 ⟨rfl, q6, hw6⟩; have R6 : w6.heap[w2.heap.size]? = some (.cells #[.bool true, .bool o, .int .i64 r, .int .i64 rg, .int .i64 (E : Nat), .int .i64 0, .int .i64 (F : Nat), .int .u64 0] 94 (0, 0)) := (by rw [hw6]; exact rownew w2 _ _); have B6 : Below w2.heap.size w2 w6 := (by rw [hw6]; exact below_drewN (cmore (Below.refl _ _) _) _); have e0 := rowcell R6 0; have e1 := rowcell R6 1; have e2 := rowcell R6 2; have e3 := rowcell R6 3; have e4 := rowcell R6 4; have e5 := rowcell R6 5; have e6 := rowcell R6 6; have e7 := rowcell R6 7; have ef := rowfree R6; simp only [List.getElem?_toArray, List.getElem?_cons_zero, List.getElem?_cons_succ] at e0 e1 e2 e3 e4 e5 e6 e7; have HR6 : Hid _ := R6; have HB6 : Hid (Below _ _ _) := B6; clear R6 B6 hw6)
      | (go_at_call 76; go_must (refine (k7 _).mono ?_); rintro e w7 ⟨rfl, q7, hw7⟩; have R7 : w7.heap[w2.heap.size]? = some (.cells #[.bool true, .bool o, .int .i64 r, .int .i64 rg, .int .i64 (E : Nat), .int .i64 ex, .int .i64 (F : Nat), .int .u64 0] 94 (0, 0)) := (by rw [hw7]; refine (rowset HR6.out 5 _).trans ?_; simp only [List.setIfInBounds_toArray, List.set_cons_zero, List.set_cons_succ]); have B7 : Below w2.heap.size w2 w7 := (by rw [hw7]; exact below_drewN (cset HB6.out (Nat.le_refl _) _ _) _); have g0 := rowcell R7 0; have g1 := rowcell R7 1; have g2 := rowcell R7 2; have g3 := rowcell R7 3; have g4 := rowcell R7 4; have g5 := rowcell R7 5; have g6 := rowcell R7 6; have g7 := rowcell R7 7; have gf := rowfree R7; simp only [List.getElem?_toArray, List.getElem?_cons_zero, List.getElem?_cons_succ] at g0 g1 g2 g3 g4 g5 g6 g7; have R0 := (B7.block w.heap.size z2).trans HR0.out; have b0 := rowcell R0 0; have b1 := rowcell R0 1; have b2 := rowcell R0 2; have b3 := rowcell R0 3; have b4 := rowcell R0 4; have b5 := rowcell R0 5; have b6 := rowcell R0 6; have b7 := rowcell R0 7; have bf := rowfree R0; simp only [List.getElem?_toArray, List.getElem?_cons_zero, List.getElem?_cons_succ] at b0 b1 b2 b3 b4 b5 b6 b7; have HB7 : Hid (Below _ _ _) := B7; clear R7 B7 R0 hw7 e0 e1 e2 e3 e4 e5 e6 e7 ef))
    have B2 := cthen (cthen (cmore (Below.refl w.heap.size w) _) HB1.out) HB2.out
    have hmw : w.heap.size ≤ w2.heap.size := Nat.le_of_lt z2
    refine bodyPost_ret (v := .tuple #[.agg #[.bool true, .bool o, .int .i64 r, .int .i64 rg, .int .i64 (E : Nat), .int .i64 ex, .int .i64 (F : Nat), .int .u64 fr], .nilIface]) (by simp [results, Try.results64, go_sem, b0, b1, b2, b3, b4, b5, b6, b7, bf, hne1, hne2]) rfl (hQ.out _ _ ⟨rfl, ?_⟩)
    exact cset8 (cset (cthen B2 HB7.out) hmw _ _) (Nat.le_refl _)
end Go.Proofs.Ytllahgcifichbaa

namespace Go.Proofs.Ytllahgcifichbaa
open Go.ChangeShapes Go.WideShapes Go.ChangeAt Go.RowKit
set_option linter.unusedVariables false
set_option linter.unusedSimpArgs false
set_option maxRecDepth 100000

theorem csplit_other (n x : Nat) (hn : Wd n) (hx : x < 2 ^ 64) (hk : kindOf n (x % 2 ^ n) ≠ 1) (w : World) :
    Calls Try.prog 64 #[.int .i64 n, .int .u64 x] w fun e w' => e = .returned (.tuple #[fd0, .nilIface]) ∧ Below w.heap.size w w' := by
  have k1 := kind_ok n x hn hx
  obtain ⟨k, hkk⟩ : ∃ k, k = kindOf n (x % 2 ^ n) := ⟨_, rfl⟩
  rw [← hkk] at k1 hk
  clear hn hkk
  refine cps fun Q hQ => ?_
  have hd : (k == 1) = false := beq_eq_false_iff_ne.2 hk
  go_enter Try.func64, Try.ntmps64
  go_wp2_with (go_at_call 63; refine (k1 _).mono ?_; rintro e w1 ⟨rfl, hb1⟩; have HB1 : Hid (Below _ _ _) := hb1; have R0 := (hb1.block w.heap.size (by simp)).trans (rownew w _ _); have b0 := rowcell R0 0; have b1 := rowcell R0 1; have b2 := rowcell R0 2; have b3 := rowcell R0 3; have b4 := rowcell R0 4; have b5 := rowcell R0 5; have b6 := rowcell R0 6; have b7 := rowcell R0 7; have bf := rowfree R0; simp only [List.getElem?_toArray, List.getElem?_cons_zero, List.getElem?_cons_succ] at b0 b1 b2 b3 b4 b5 b6 b7; clear hb1 R0)
  refine bodyPost_ret (v := .tuple #[fd0, .nilIface]) (by simp [results, Try.results64, go_sem, b0, b1, b2, b3, b4, b5, b6, b7, fd0]) rfl (hQ.out _ _ ⟨rfl, ?_⟩)
  exact cset8 (cthen (cmore (Below.refl _ _) _) HB1.out) (Nat.le_refl _)
theorem csplit_no (n : Int) (x : Nat) (hn : isW n = false) (w : World) :
    Calls Try.prog 64 #[.int .i64 n, .int .u64 x] w fun e w' => e = .returned (.tuple #[fd0, codeV 2]) ∧ Below w.heap.size w w' := by
  have k1 := kind_no n x hn
  clear hn
  refine cps fun Q hQ => ?_
  go_enter Try.func64, Try.ntmps64
  go_wp2_with (go_at_call 63; refine (k1 _).mono ?_; rintro e w1 ⟨rfl, hb1⟩; have HB1 : Hid (Below _ _ _) := hb1; have R0 := (hb1.block w.heap.size (by simp)).trans (rownew w _ _); have b0 := rowcell R0 0; have b1 := rowcell R0 1; have b2 := rowcell R0 2; have b3 := rowcell R0 3; have b4 := rowcell R0 4; have b5 := rowcell R0 5; have b6 := rowcell R0 6; have b7 := rowcell R0 7; have bf := rowfree R0; simp only [List.getElem?_toArray, List.getElem?_cons_zero, List.getElem?_cons_succ] at b0 b1 b2 b3 b4 b5 b6 b7; clear hb1 R0)
  refine bodyPost_ret (v := .tuple #[fd0, codeV 2]) (by simp [results, Try.results64, go_sem, b0, b1, b2, b3, b4, b5, b6, b7, fd0]) rfl (hQ.out _ _ ⟨rfl, ?_⟩)
  exact cset8 (cthen (cmore (Below.refl _ _) _) HB1.out) (Nat.le_refl _)
/-! ### Decode -/
theorem cdecode_other (n x : Nat) (hn : Wd n) (hx : x < 2 ^ 64) (hk : kindOf n (x % 2 ^ n) ≠ 1) (w : World) :
    Calls Try.prog 35 #[.int .i64 n, .int .u64 x] w fun e w' => e = .returned (.tuple #[numV (kindOf n (x % 2 ^ n)) false 0 0, .nilIface]) ∧ Below w.heap.size w w' := by
  have k1 := kind_ok n x hn hx
  generalize kindOf n (x % 2 ^ n) = k at *
  clear hn
  refine cps fun Q hQ => ?_
  have hd : (k == 1) = false := beq_eq_false_iff_ne.2 hk
  go_enter Try.func35, Try.ntmps35
  go_wp2_with (go_at_call 63; refine (k1 _).mono ?_; rintro e w1 ⟨rfl, hb1⟩; have hc := fun b o h => hb1.cell (p := ⟨b, o, none⟩) h; have hf := fun b o h => hb1.frozen (p := ⟨b, o, none⟩) h; have hz := hb1.size; simp at hz; have hz' : w.heap.size < w1.heap.size := hz)
  refine bodyPost_ret (v := .tuple #[numV k false 0 0, .nilIface]) (by simp [results, Try.results35, go_sem, hc, hz', numV]) rfl (hQ.out _ _ ⟨rfl, ?_⟩)
  exact cset4 (cthen (cmore (Below.refl _ _) _) hb1) (Nat.le_refl _)
theorem cdecode_no (n : Int) (x : Nat) (hn : isW n = false) (w : World) :
    Calls Try.prog 35 #[.int .i64 n, .int .u64 x] w fun e w' => e = .returned (.tuple #[numV 0 false 0 0, codeV 2]) ∧ Below w.heap.size w w' := by
  have k1 := kind_no n x hn
  clear hn
  refine cps fun Q hQ => ?_
  go_enter Try.func35, Try.ntmps35
  go_wp2_with (go_at_call 63; refine (k1 _).mono ?_; rintro e w1 ⟨rfl, hb1⟩; have hc := fun b o h => hb1.cell (p := ⟨b, o, none⟩) h; have hf := fun b o h => hb1.frozen (p := ⟨b, o, none⟩) h; have hz := hb1.size; simp at hz; have hz' : w.heap.size < w1.heap.size := hz)
  refine bodyPost_ret (v := .tuple #[numV 0 false 0 0, codeV 2]) (by simp [results, Try.results35, go_sem, hc, hz', numV]) rfl (hQ.out _ _ ⟨rfl, ?_⟩)
  exact cset4 (cthen (cmore (Below.refl _ _) _) hb1) (Nat.le_refl _)
theorem word_frac (t : List Bool) (h : (restL t).length ≤ 63) : wordL t = 9223372036854775808 + fracL t * 2 ^ (63 - ((restL t).length - 2)) ∧ fracL t * 2 ^ (63 - ((restL t).length - 2)) < 9223372036854775808 := by
  have hl : ((restL t).drop 2).length = (restL t).length - 2 := by rw [List.length_drop]
  have e : ((restL t).drop 2 ++ noughts 63).take 63 = (restL t).drop 2 ++ noughts (63 - ((restL t).length - 2)) := by
    rw [List.take_append, List.take_of_length_le (by omega), take_noughts _ _ (by omega), hl]
  have h2 := numOf_lt ((restL t).drop 2 ++ noughts (63 - ((restL t).length - 2)))
  have h3 : ((restL t).drop 2 ++ noughts (63 - ((restL t).length - 2))).length = 63 := by
    rw [List.length_append, hl, List.length_replicate]; omega
  rw [h3, numOf_append, numOf_noughts, List.length_replicate] at h2
  refine ⟨?_, h2⟩
  unfold wordL fracL
  rw [e, numOf_cons, h3, numOf_append, numOf_noughts, List.length_replicate]
  rfl
theorem word_or (X : Nat) (h : X < 9223372036854775808) : bits BinOp.or IntKind.u64 9223372036854775808 (X : Int) = ((9223372036854775808 + X : Nat) : Int) := by
  have := u64_or_nat 9223372036854775808 X (by decide) (by omega)
  rw [show ((9223372036854775808 : Nat) : Int) = 9223372036854775808 from rfl] at this
  rw [this]
  congr 1
  have e := Nat.two_pow_add_eq_or_of_lt (i := 63) (b := X) h 1
  rw [show 2 ^ 63 * 1 = 9223372036854775808 by decide] at e
  exact e.symm
set_option maxHeartbeats 1000000 in
theorem cdecode_real (n x : Nat) (hn : Wd n) (hx : x < 2 ^ 64) (hk : kindOf n (x % 2 ^ n) = 1) (w : World) :
    Calls Try.prog 35 #[.int .i64 n, .int .u64 x] w fun e w' => e = .returned (.tuple #[numV 1 (x.testBit (n - 1)) (scaleL (strS n x)) (wordL (strS n x)), .nilIface]) ∧ Below w.heap.size w w' := by
  have k1 := kind_ok n x hn hx
  have k2 := csplit_real n x hn hx hk
  rw [hk] at k1
  have hw := wd_le hn
  have hlen := strS_length n x
  obtain ⟨hw1, hw2⟩ := word_frac (strS n x) (by rw [restL_length, hlen]; omega)
  have hfb : (restL (strS n x)).length - 2 ≤ 61 := by rw [restL_length, hlen]; omega
  have hrg : -64 ≤ regL (strS n x) ∧ regL (strS n x) ≤ 64 := by
    have := runL_le (strS n x)
    unfold regL; split <;> omega
  have hex : expL (strS n x) < 4 := by
    have := numOf_lt ((restL (strS n x) ++ noughts 2).take 2)
    rw [show ((restL (strS n x) ++ noughts 2).take 2).length = 2 by simp] at this
    exact this
  unfold fdV at k2
  unfold scaleL
  have hor := word_or _ hw2
  rw [← hw1] at hor
  obtain ⟨d, hd⟩ : ∃ d, d = 63 - ((restL (strS n x)).length - 2) := ⟨_, rfl⟩
  rw [← hd] at hor hw2
  have hdd : (63 : Int) - (((restL (strS n x)).length - 2 : Nat) : Int) = (d : Int) := by omega
  have hd63 : d ≤ 63 := by omega
  clear hn hx hk hlen hw hw1 hd
  generalize onesL (strS n x) = o at *
  generalize runL (strS n x) = r at *
  generalize regL (strS n x) = reg at *
  generalize expL (strS n x) = ex at *
  generalize fracL (strS n x) = fr at *
  generalize wordL (strS n x) = wd at *
  generalize (restL (strS n x)).length - 2 = fb at *
  generalize min (restL (strS n x)).length 2 = eb at *
  have hsc : IntKind.i64.wrap (IntKind.i64.wrap (reg * 4) + (ex : Int)) = 4 * reg + ex := by
    rw [wrapI (n := reg * 4) (by omega), wrapI (by omega)]; omega
  have hsh : IntKind.u64.wrap ((fr : Int) * 2 ^ d) = ((fr * 2 ^ d : Nat) : Int) := by
    have e : ((fr : Int) * 2 ^ d) = ((fr * 2 ^ d : Nat) : Int) := by simp
    rw [e, wrapN, Nat.mod_eq_of_lt (by omega)]
  generalize fr * 2 ^ d = X at *
  refine cps fun Q hQ => ?_
  generalize x.testBit (n - 1) = b at *
  go_enter Try.func35, Try.ntmps35
  go_wp2_with (first
    | (go_at_call 63; refine (k1 _).mono ?_; rintro e w1 ⟨rfl, hb1⟩; have HB1 : Hid (Below _ _ _) := hb1; clear hb1)
    | (go_at_call 64; refine (k2 _).mono ?_; rintro e w2 ⟨rfl, hb2⟩; have z1 : w.heap.size < w1.heap.size := (by have := HB1.out.size; simp at this; omega); have z2 := hb2.size; have R0 := (Below.heap_alloc w2 (.cells #[.bool b, .bool o, .int .i64 r, .int .i64 reg, .int .i64 (eb : Nat), .int .i64 ex, .int .i64 (fb : Nat), .int .u64 fr] 94) _ (by omega)).trans ((hb2.block _ z1).trans ((HB1.out.block _ (by simp)).trans (rownew w _ _))); have BW : Hid (Below _ _ _) := cmore (cthen (cthen (cmore (Below.refl _ _) _) HB1.out) hb2) (.cells #[.bool b, .bool o, .int .i64 r, .int .i64 reg, .int .i64 (eb : Nat), .int .i64 ex, .int .i64 (fb : Nat), .int .u64 fr] 94); have z3 : w.heap.size < w2.heap.size := (by omega); clear hb2 z2; have HR0 : Hid _ := R0; clear R0))
  obtain ⟨g, hg⟩ : ∃ g, g = w2.heap.size := ⟨_, rfl⟩
  have RF := rownew' w2 #[.bool b, .bool o, .int .i64 r, .int .i64 reg, .int .i64 (eb : Nat), .int .i64 ex, .int .i64 (fb : Nat), .int .u64 fr] 94 g hg
  rw [← hg]
  generalize w2.alloc (.cells #[.bool b, .bool o, .int .i64 r, .int .i64 reg, .int .i64 (eb : Nat), .int .i64 ex, .int .i64 (fb : Nat), .int .u64 fr] 94) = W at *
  have x0 := rowcell RF 0
  have x3 := rowcell RF 3
  have x5 := rowcell RF 5
  have x6 := rowcell RF 6
  have x7 := rowcell RF 7
  have b0 := rowcell HR0.out 0
  have b1 := rowcell HR0.out 1
  have b2 := rowcell HR0.out 2
  have b3 := rowcell HR0.out 3
  have bf := rowfree HR0.out
  simp only [List.getElem?_toArray, List.getElem?_cons_zero, List.getElem?_cons_succ] at x0 x3 x5 x6 x7 b0 b1 b2 b3
  have gw : IntKind.i64.wrap (63 - (fb : Int)) = (d : Int) := by rw [wrapI (by omega), hdd]
  have hgw : w.heap.size ≠ g := by omega
  have hab : ∀ o o' : Nat, (⟨w.heap.size, o, none⟩ : Addr) ≠ ⟨g, o', none⟩ := fun o o' e => hgw (congrArg Addr.block e)
  have far : ∀ (W1 : World) (u0 u1 u2 u3 : Value) (o : Nat), ((((W1.setCell ⟨w.heap.size, 0, none⟩ u0).setCell ⟨w.heap.size, 1, none⟩ u1).setCell ⟨w.heap.size, 2, none⟩ u2).setCell ⟨w.heap.size, 3, none⟩ u3).drew.cell? ⟨g, o, none⟩ = W1.cell? ⟨g, o, none⟩ := fun W1 u0 u1 u2 u3 o => by
    show ((((W1.setCell ⟨w.heap.size, 0, none⟩ u0).setCell ⟨w.heap.size, 1, none⟩ u1).setCell ⟨w.heap.size, 2, none⟩ u2).setCell ⟨w.heap.size, 3, none⟩ u3).cell? ⟨g, o, none⟩ = W1.cell? ⟨g, o, none⟩
    rw [World.cell?_setCell_other _ _ _ _ (hab _ _), World.cell?_setCell_other _ _ _ _ (hab _ _), World.cell?_setCell_other _ _ _ _ (hab _ _), World.cell?_setCell_other _ _ _ _ (hab _ _)]
  clear k1 k2 hg hdd
  have gd : (0 : Int) ≤ (d : Int) := Int.natCast_nonneg d
  refine wpC_region (fun W => W.cell? ⟨g, 0, none⟩ = some (.bool b) ∧ W.cell? ⟨g, 3, none⟩ = some (.int .i64 reg) ∧ W.cell? ⟨g, 5, none⟩ = some (.int .i64 ex) ∧ W.cell? ⟨g, 6, none⟩ = some (.int .i64 (fb : Nat)) ∧ W.cell? ⟨g, 7, none⟩ = some (.int .u64 fr)) (by kernel_rfl) ?_
  refine wpC_take 0 (v := ?_) rfl (by kernel_rfl) (fun _ _ _ h => h) (by kernel_rfl) ?_ ?_; rotate_left; · (intro wC hC; obtain ⟨c0, c3, c5, c6, c7⟩ := hC; go_simp <;> with_reducible rfl)
  refine wpC_take 1 (v := ?_) rfl (by kernel_rfl) (fun _ _ _ h => h) (by kernel_rfl) ?_ ?_; rotate_left; · (intro wC hC; obtain ⟨c0, c3, c5, c6, c7⟩ := hC; go_simp <;> with_reducible rfl)
  refine wpC_take 2 (v := ?_) rfl (by kernel_rfl) (fun _ _ _ h => h) (by kernel_rfl) ?_ ?_; rotate_left; · (intro wC hC; obtain ⟨c0, c3, c5, c6, c7⟩ := hC; go_simp <;> with_reducible rfl)
  refine wpC_take 3 (v := ?_) rfl (by kernel_rfl) (fun _ _ _ h => h) (by kernel_rfl) ?_ ?_; rotate_left; · (intro wC hC; obtain ⟨c0, c3, c5, c6, c7⟩ := hC; go_simp <;> with_reducible rfl)
  refine wpC_take 4 (v := ?_) rfl (by kernel_rfl) (fun _ _ _ h => h) (by kernel_rfl) ?_ ?_; rotate_left; · (intro wC hC; obtain ⟨c0, c3, c5, c6, c7⟩ := hC; go_simp <;> with_reducible rfl)
  refine wpC_take 5 (v := ?_) rfl (by kernel_rfl) (fun _ _ _ h => h) (by kernel_rfl) ?_ ?_; rotate_left; · (intro wC hC; obtain ⟨c0, c3, c5, c6, c7⟩ := hC; go_simp <;> with_reducible rfl)
  refine wpC_take 6 (v := ?_) rfl (by kernel_rfl) (fun _ _ _ h => h) (by kernel_rfl) ?_ ?_; rotate_left; · (intro wC hC; obtain ⟨c0, c3, c5, c6, c7⟩ := hC; go_simp <;> with_reducible rfl)
  refine wpC_take 7 (v := ?_) rfl (by kernel_rfl) (fun _ _ _ h => h) (by kernel_rfl) ?_ ?_; rotate_left; · (intro wC hC; obtain ⟨c0, c3, c5, c6, c7⟩ := hC; go_simp <;> with_reducible rfl)
  refine wpC_take 8 (v := ?_) rfl (by kernel_rfl) (fun _ _ _ h => h) (by kernel_rfl) ?_ ?_; rotate_left; · (intro wC hC; obtain ⟨c0, c3, c5, c6, c7⟩ := hC; go_simp <;> with_reducible rfl)
  refine wpC_take 9 (v := ?_) rfl (by kernel_rfl) (fun _ _ _ h => h) (by kernel_rfl) ?_ ?_; rotate_left; · (intro wC hC; obtain ⟨c0, c3, c5, c6, c7⟩ := hC; go_simp <;> with_reducible rfl)
  refine wpC_take 10 (v := ?_) rfl (by kernel_rfl) (fun _ _ _ h => h) (by kernel_rfl) ?_ ?_; rotate_left; · (intro wC hC; obtain ⟨c0, c3, c5, c6, c7⟩ := hC; go_simp <;> with_reducible rfl)
  refine wpC_take 11 (v := ?_) rfl (by kernel_rfl) (fun _ _ _ h => h) (by kernel_rfl) ?_ ?_; rotate_left; · (intro wC hC; obtain ⟨c0, c3, c5, c6, c7⟩ := hC; go_simp <;> with_reducible rfl)
  refine wpC_take 12 (v := ?_) rfl (by kernel_rfl) (fun _ _ _ h => h) (by kernel_rfl) ?_ ?_; rotate_left; · (intro wC hC; obtain ⟨c0, c3, c5, c6, c7⟩ := hC; go_simp <;> with_reducible rfl)
  refine wpC_take 13 (v := ?_) rfl (by kernel_rfl) (fun _ _ _ h => h) (by kernel_rfl) ?_ ?_; rotate_left; · (intro wC hC; obtain ⟨c0, c3, c5, c6, c7⟩ := hC; go_simp <;> with_reducible rfl)
  refine wpC_take 14 (v := ?_) rfl (by kernel_rfl) (fun _ _ _ h => h) (by kernel_rfl) ?_ ?_; rotate_left; · (intro wC hC; obtain ⟨c0, c3, c5, c6, c7⟩ := hC; go_simp <;> with_reducible rfl)
  refine wpC_take 15 (v := ?_) rfl (by kernel_rfl) (fun _ _ _ h => h) (by kernel_rfl) ?_ ?_; rotate_left; · (intro wC hC; obtain ⟨c0, c3, c5, c6, c7⟩ := hC; go_simp <;> with_reducible rfl)
  refine wpC_step 16 rfl (by kernel_rfl) (by kernel_rfl) ⟨x0, x3, x5, x6, x7⟩ (fun K hK => ?_)
  go_simp
  try (refine hK _ _ ?_; clear hK K)
  refine wpC_take 17 (v := ?_) rfl (by kernel_rfl) (fun _ _ _ h => h) (by kernel_rfl) ?_ ?_; rotate_left; · (intro wC hC; obtain _ := hC; go_simp <;> with_reducible rfl)
  refine wpC_done (by kernel_rfl) ⟨(far _ _ _ _ _ _).trans x0, (far _ _ _ _ _ _).trans x3, (far _ _ _ _ _ _).trans x5, (far _ _ _ _ _ _).trans x6, (far _ _ _ _ _ _).trans x7⟩ ?_
  go_wp2
  refine bodyPost_ret (v := .tuple #[numV 1 b (4 * reg + ex) wd, .nilIface]) (by simp [results, Try.results35, go_sem, b0, b1, b2, b3, numV]) rfl (hQ.out _ _ ⟨rfl, ?_⟩)
  exact cdrew (cset4 BW.out (Nat.le_refl _))
end Go.Proofs.Ytllahgcifichbaa

namespace Go.Proofs.Ytllahgcifichbaa
open Go.ChangeShapes Go.WideShapes Go.ChangeAt Go.RowKit
set_option linter.unusedVariables false
set_option linter.unusedSimpArgs false
set_option maxRecDepth 100000

/-! ### what is assembled -/
theorem asmV_nat (n run x : Nat) (h : x < 4) : asmV n run (x : Int) = x / 2 ^ (2 - min (n - 2 - run) 2) := by
  unfold asmV u64Of
  obtain ⟨j, hj⟩ : ∃ j, j = 2 ^ (2 - min (n - 2 - run) 2) := ⟨_, rfl⟩
  have e : ((2 : Int) ^ (2 - min (n - 2 - run) 2)) = ((j : Nat) : Int) := by rw [hj]; simp
  rw [e, ← hj, ← Int.natCast_ediv]
  have hq := Nat.div_le_self x j
  generalize x / j = q at *
  omega
theorem asmP_parts (n : Nat) (hn : Wd n) (neg : Bool) (t : List Bool) (hl : t.length = n - 1) (ht : true ∈ t) : asmP n neg (onesL t) (runL t) (expL t : Nat) (fracL t) = patOf n neg t := by
  have hw := wd_le hn
  have hex : expL t < 4 := by
    have := numOf_lt ((restL t ++ noughts 2).take 2)
    rw [show ((restL t ++ noughts 2).take 2).length = 2 by simp] at this
    exact this
  unfold asmP
  rw [asmV_nat n _ _ hex, asm_parts n t (by omega) hl _ rfl]
  exact pat_neg n hn neg t hl ht (Nat.lt_of_lt_of_le (numOf_lt _) (Nat.pow_le_pow_right (by decide) (by omega)))
theorem asmP_cut (n : Nat) (hn : Wd n) (neg : Bool) (s : Int) (f : Nat) (hr : inR n s = true) (ones : Bool) (run F : Nat) (hk : headK (s / 4) = List.replicate run ones ++ [!ones]) (hF : F = n - 2 - run - 2) :
    run ≤ n - 1 ∧ asmP n neg ones run (((s % 4).toNat : Nat) : Int) (fieldOf f (63 - F) F) = patOf n neg (cutL n s f) := by
  have hw := wd_le hn
  obtain ⟨h1, h2⟩ := asm_cut n hn s f hr ones run _ _ F hk hF rfl rfl
  obtain ⟨ht, hl⟩ := cut_true n s f hn hr
  refine ⟨h1, ?_⟩
  unfold asmP
  rw [asmV_nat n _ _ (by omega), h2]
  exact pat_neg n hn neg (cutL n s f) hl ht (Nat.lt_of_lt_of_le (numOf_lt _) (Nat.pow_le_pow_right (by decide) (by rw [hl]; omega)))
theorem asmP_lt (n : Nat) (hn : Wd n) (neg ones : Bool) (run : Nat) (h : run ≤ n - 1) (ex : Int) (fr : Nat) : asmP n neg ones run ex fr < 2 ^ 64 := by
  have hw := wd_le hn
  unfold asmP
  split
  · exact Nat.lt_of_le_of_lt (Nat.mod_le _ _) (minusU_lt _)
  · exact Nat.lt_of_lt_of_le (numOf_lt _) (Nat.pow_le_pow_right (by decide) (by rw [asmL_length n ones run _ _ h]; omega))
/-! ### parts -/
end Go.Proofs.Ytllahgcifichbaa

namespace Go.Proofs.Ytllahgcifichbaa
open Go.ChangeShapes Go.WideShapes Go.ChangeAt Go.RowKit
set_option linter.unusedVariables false
set_option linter.unusedSimpArgs false
set_option maxRecDepth 100000

/-! ### what a width is -/
theorem bmoreS {a w : World} (h : Below a.heap.size a w) (o : Obj) : Below a.heap.size a (w.alloc o) := h.alloc h.size o
theorem bthenS {a W w : World} (h : Below a.heap.size a W) (hb : Below W.heap.size W w) : Below a.heap.size a w := h.trans (hb.mono h.size)
theorem bsetS {a W : World} {b : Nat} (h : Below a.heap.size a W) (hb : a.heap.size ≤ b) (o : Nat) (v : Value) : Below a.heap.size a (W.setCell ⟨b, o, none⟩ v) := h.setCell hb _
def shp (n m : Nat) : Value := .agg #[.int .i64 n, .int .u64 (m - 1 : Nat), .int .u64 1, .int .u64 m, .int .i64 (4 * n - 8 : Nat)]
def shp0 : Value := .agg #[.int .i64 0, .int .u64 0, .int .u64 0, .int .u64 0, .int .i64 0]
theorem two_pow_lt {n : Nat} (h : Wd n) : 1 ≤ 2 ^ (n - 1) ∧ 2 ^ (n - 1) ≤ 9223372036854775808 := by rcases h with rfl | rfl | rfl | rfl <;> decide
theorem of_no (n : Int) (hn : isW n = false) (w : World) :
    Calls Try.prog 73 #[.int .i64 n] w fun e w' => e = .returned (.tuple #[shp0, .iface 41 (.int .i64 2)]) ∧ Below w.heap.size w w' := by
  have k1 := known_any n
  rw [hn] at k1
  clear hn
  refine cps fun Q hQ => ?_
  go_enter Try.func73, Try.ntmps73
  go_wp2_with (go_at_call 75; refine (k1 _).mono ?_; rintro e w1 ⟨rfl, hb1⟩; have hc := fun b o h => hb1.cell (p := ⟨b, o, none⟩) h; have hf := fun b o h => hb1.frozen (p := ⟨b, o, none⟩) h; have hz := hb1.size; simp at hz)
  have hz' : w.heap.size < w1.heap.size := hz
  refine bodyPost_ret (v := .tuple #[shp0, .iface 41 (.int .i64 2)]) (by simp [results, Try.results73, go_sem, hc, hz', shp0]) rfl (hQ.out _ _ ⟨rfl, ?_⟩)
  exact bsetS (bsetS (bsetS (bsetS (bsetS (bthenS (bmoreS (Below.refl _ _) _) hb1) (Nat.le_refl _) _ _) (Nat.le_refl _) _ _) (Nat.le_refl _) _ _) (Nat.le_refl _) _ _) (Nat.le_refl _) _ _
theorem of_ok (n : Nat) (hn : Wd n) (w : World) :
    Calls Try.prog 73 #[.int .i64 n] w fun e w' => e = .returned (.tuple #[shp n (2 ^ (n - 1)), .nilIface]) ∧ Below w.heap.size w w' := by
  have k1 := known_any n
  rw [isW_of hn] at k1
  have hw := wd_le hn
  have k2 := nar_any n (by omega) hw.2
  have hm := two_pow_lt hn
  clear hn
  refine cps fun Q hQ => ?_
  generalize 2 ^ (n - 1) = m at *
  have e1 : (m : Int) - 1 = ((m - 1 : Nat) : Int) := by omega
  have e2 : 4 * (n : Int) - 8 = ((4 * n - 8 : Nat) : Int) := by omega
  go_enter Try.func73, Try.ntmps73
  go_wp2_with (first
    | (go_at_call 75; refine (k1 _).mono ?_; rintro e w1 ⟨rfl, hb1⟩; have hc := fun b o h => hb1.cell (p := ⟨b, o, none⟩) h; have hf := fun b o h => hb1.frozen (p := ⟨b, o, none⟩) h; have hz := hb1.size; simp at hz)
    | (go_at_call 85; refine (k2 _).mono ?_; rintro e w1 ⟨rfl, rfl⟩))
  have hz' : w.heap.size < w1.heap.size := hz
  refine bodyPost_ret (v := .tuple #[shp n m, .nilIface]) (by simp [results, Try.results73, go_sem, hc, hz', shp]) rfl (hQ.out _ _ ⟨rfl, ?_⟩)
  exact bsetS (bsetS (bsetS (bsetS (bsetS (bthenS (bmoreS (Below.refl _ _) _) hb1) (Nat.le_refl _) _ _) (Nat.le_refl _) _ _) (Nat.le_refl _) _ _) (Nat.le_refl _) _ _) (Nat.le_refl _) _ _
end Go.Proofs.Ytllahgcifichbaa

namespace Go.Proofs.Ytllahgcifichbaa
open Go.ChangeShapes Go.WideShapes Go.ChangeAt Go.RowKit
set_option linter.unusedVariables false
set_option linter.unusedSimpArgs false
set_option maxRecDepth 100000

/-! ### Join -/
end Go.Proofs.Ytllahgcifichbaa

namespace Go.Proofs.Ytllahgcifichbaa
open Go.ChangeShapes Go.WideShapes Go.ChangeAt Go.RowKit
set_option linter.unusedVariables false
set_option linter.unusedSimpArgs false
set_option maxRecDepth 100000

/-! ### sound -/
end Go.Proofs.Ytllahgcifichbaa

namespace Go.Proofs.Ytllahgcifichbaa
open Go.ChangeShapes Go.WideShapes Go.ChangeAt Go.RowKit
set_option linter.unusedVariables false
set_option linter.unusedSimpArgs false
set_option maxRecDepth 100000

/-! ### Encode -/
end Go.Proofs.Ytllahgcifichbaa

namespace Go.Proofs.Ytllahgcifichbaa
set_option maxRecDepth 100000
/-! ### the contracts of package codec stand in CkE (Split), CkF (Decode), CkH (Join), CkI (Encode) -/
end Go.Proofs.Ytllahgcifichbaa

namespace Go.Proofs.Ytllahgcifichbaa
open Go.ChangeShapes Go.WideShapes Go.ChangeAt Go.RowKit
set_option linter.unusedVariables false
set_option linter.unusedSimpArgs false
set_option maxRecDepth 100000

end Go.Proofs.Ytllahgcifichbaa

namespace Go.Proofs.Ytllahgcifichbaa
set_option maxRecDepth 100000
set_option linter.unusedVariables false
set_option linter.unusedSimpArgs false

/-! ### patterns come back (plain mathematics) -/
theorem inR_of (m : Nat) (t : List Bool) (hm : Wd m) (hl : t.length = m - 1) (ht : true ∈ t) : inR m (scaleL t) = true := by
  have hw := wd_le hm
  have hne : t ≠ [] := by rintro rfl; cases ht
  have hex : expL t < 4 := by
    have := numOf_lt ((restL t ++ noughts 2).take 2)
    rw [show ((restL t ++ noughts 2).take 2).length = 2 by simp] at this
    exact this
  refine decide_eq_true ?_
  obtain ⟨b, r, tl, rfl, htl⟩ := split_run t hne
  rw [List.length_append, List.length_replicate] at hl
  unfold scaleL regL
  rw [runL_rep b r tl htl, onesL_rep]
  rcases htl with rfl | ⟨u, rfl⟩
  · rw [List.append_nil] at *
    have hb : b = true := (List.mem_replicate.1 ht).2.symm
    subst hb
    have h0 : expL (List.replicate (r + 1) true) = 0 := by
      unfold expL; rw [restL_end]; decide
    rw [h0]
    simp at hl ⊢; omega
  · rw [List.length_cons] at hl
    generalize expL (List.replicate (r + 1) b ++ (!b) :: u) = ex at *
    cases b <;> simp <;> omega
theorem cut_home (m : Nat) (t : List Bool) (hm : Wd m) (hl : t.length = m - 1) (ht : true ∈ t) : cutL m (scaleL t) (wordL t) = t := by
  have hw := wd_le hm
  obtain ⟨z, hz, _⟩ := canon_parse t ht (by omega)
  unfold cutL
  rw [hz, List.take_append_of_le_length (by omega), List.take_of_length_le (by omega)]
theorem fits_home (m : Nat) (t : List Bool) (hm : Wd m) (hl : t.length = m - 1) (ht : true ∈ t) : fitsN m (scaleL t) (wordL t) = true := by
  unfold fitsN
  rw [cut_home m t hm hl ht]
  simp
theorem sound_home (m : Nat) (neg : Bool) (t : List Bool) (hm : Wd m) (hl : t.length = m - 1) (ht : true ∈ t) : soundN 1 neg (scaleL t) (wordL t) = true := by
  have hw := wd_le hm
  have h1 := of_decide_eq_true (inR_of m t hm hl ht)
  have h2 := wordL_bounds t
  unfold soundN
  rw [if_neg (by decide)]
  exact decide_eq_true ⟨rfl, h2.1, by omega, by omega⟩
theorem parts_none (m : Nat) (t : List Bool) (hm : Wd m) (hl : t.length = m - 1) (ht : true ∈ t) : ¬ isParts t false 0 0 0 0 0 0 := by
  rintro ⟨_, h, _⟩
  cases t with
  | nil => cases ht
  | cons b t => rw [runL] at h; omega
theorem kind_cases (m y : Nat) (hk : kindOf m y ≠ 1) : (kindOf m y = 0 ∧ y = 0) ∨ (kindOf m y = 2 ∧ y = 2 ^ (m - 1)) := by
  unfold kindOf at *
  by_cases h : y = 0
  · rw [if_pos h] at *; exact .inl ⟨rfl, h⟩
  · rw [if_neg h] at *
    by_cases h2 : y = 2 ^ (m - 1)
    · rw [if_pos h2] at *; exact .inr ⟨rfl, h2⟩
    · rw [if_neg h2] at *; exact absurd rfl hk
end Go.Proofs.Ytllahgcifichbaa

namespace Go.Proofs.Ytllahgcifichbaa
set_option maxRecDepth 100000
set_option linter.unusedVariables false
set_option linter.unusedSimpArgs false

/-! ### noughts behind a pattern (plain mathematics) -/
theorem wider_pows (n d : Nat) (hn : 1 ≤ n) : 2 ^ (n + d) = 2 ^ n * 2 ^ d ∧ 2 ^ (n + d - 1) = 2 ^ (n - 1) * 2 ^ d := by
  refine ⟨Nat.pow_add .., ?_⟩
  rw [← Nat.pow_add]; congr 1; omega
theorem wider_mod (n d x : Nat) (h : n + d ≤ 64) : (x * 2 ^ d % 2 ^ 64) % 2 ^ (n + d) = x % 2 ^ n * 2 ^ d := by
  rw [Nat.mod_mod_of_dvd _ (Nat.pow_dvd_pow 2 h), Nat.pow_add, Nat.mul_mod_mul_right]
theorem wider_kind (n d x : Nat) (hn : Wd n) (h : n + d ≤ 64) : kindOf (n + d) ((x * 2 ^ d % 2 ^ 64) % 2 ^ (n + d)) = kindOf n (x % 2 ^ n) := by
  have hw := wd_le hn
  rw [wider_mod n d x h]
  unfold kindOf
  rw [(wider_pows n d (by omega)).2]
  have hD : 0 < 2 ^ d := Nat.pow_pos (by decide)
  generalize 2 ^ d = D at *
  generalize x % 2 ^ n = y at *
  generalize 2 ^ (n - 1) = H at *
  by_cases h0 : y = 0
  · subst h0; rw [Nat.zero_mul, if_pos rfl, if_pos rfl]
  · have : ¬ y * D = 0 := by
      intro e
      rcases Nat.mul_eq_zero.1 e with e | e <;> omega
    rw [if_neg h0, if_neg this]
    by_cases h1 : y = H
    · subst h1; rw [if_pos rfl, if_pos rfl]
    · rw [if_neg h1, if_neg fun e => h1 (Nat.eq_of_mul_eq_mul_right hD e)]
theorem wider_top (n d x : Nat) (hn : Wd n) (h : n + d ≤ 64) : (x * 2 ^ d % 2 ^ 64).testBit (n + d - 1) = x.testBit (n - 1) := by
  have hw := wd_le hn
  rw [Nat.testBit_mod_two_pow, Nat.testBit_mul_two_pow]
  have h1 : n + d - 1 < 64 := by omega
  have h2 : d ≤ n + d - 1 := by omega
  rw [show n + d - 1 - d = n - 1 by omega]
  simp [h1, h2]
theorem wider_str (n d x : Nat) (hn : Wd n) (hm : Wd (n + d)) (hx : x < 2 ^ 64) : strS (n + d) (x * 2 ^ d % 2 ^ 64) = strS n x ++ noughts d := by
  have hw := wd_le hn
  have hv := wd_le hm
  refine numOf_inj (by rw [List.length_append, strS_length, strS_length]; simp; omega) ?_
  rw [strS_num _ _ hm (Nat.mod_lt _ (by decide)), numOf_append, numOf_noughts, strS_num n x hn hx, wider_top n d x hn hv.2, wider_mod n d x hv.2, (wider_pows n d (by omega)).1, (wider_pows n d (by omega)).2]
  simp only [List.length_replicate, Nat.add_zero]
  split
  · rw [← Nat.sub_mul, Nat.mul_mod_mul_right]
  · rw [Nat.mul_mod_mul_right]
/-- what a pattern means -/
def decK (n x : Nat) : Int := kindOf n (x % 2 ^ n)
def decB (n x : Nat) : Bool := if kindOf n (x % 2 ^ n) = 1 then x.testBit (n - 1) else false
def dec6S (n x : Nat) : Int := if kindOf n (x % 2 ^ n) = 1 then scaleL (strS n x) else 0
def decF (n x : Nat) : Nat := if kindOf n (x % 2 ^ n) = 1 then wordL (strS n x) else 0
theorem wider_all (n d x : Nat) (hn : Wd n) (hm : Wd (n + d)) (hx : x < 2 ^ 64) :
    decK (n + d) (x * 2 ^ d % 2 ^ 64) = decK n x ∧ decB (n + d) (x * 2 ^ d % 2 ^ 64) = decB n x ∧ dec6S (n + d) (x * 2 ^ d % 2 ^ 64) = dec6S n x ∧ decF (n + d) (x * 2 ^ d % 2 ^ 64) = decF n x := by
  have hv := wd_le hm
  have hk := wider_kind n d x hn hv.2
  unfold decK decB dec6S decF
  rw [hk]
  by_cases h1 : kindOf n (x % 2 ^ n) = 1
  · rw [h1]
    simp only [if_true]
    have ht := (patOf_str n x hn hx h1).1
    rw [wider_str n d x hn hm hx, wider_top n d x hn hv.2]
    have hs := same_pad (strS n x) d ht
    exact ⟨trivial, rfl, hs.scale, hs.word⟩
  · simp only [h1, if_false]
    exact ⟨trivial, trivial, trivial, trivial⟩
end Go.Proofs.Ytllahgcifichbaa

namespace Go.Proofs.Ytllahgcifichbaa
set_option maxRecDepth 100000
set_option linter.unusedVariables false
set_option linter.unusedSimpArgs false

/-! ### the string of an exact number as one natural number of 209 bits: it rises with the number (plain mathematics) -/
def hdA (k : Int) : Nat := if 0 ≤ k then 2 ^ 80 - 2 ^ (79 - k.toNat) else 2 ^ (79 - (-k).toNat)
def hdS (k : Int) : Nat := if 0 ≤ k then 2 ^ (78 - k.toNat) else 2 ^ (79 - (-k).toNat)
theorem hd_step (k : Int) (h1 : -79 ≤ k) (h2 : k ≤ 77) : hdA k + hdS k = hdA (k + 1) := by
  unfold hdA hdS
  by_cases h0 : 0 ≤ k
  · obtain ⟨j, rfl⟩ := Int.eq_ofNat_of_zero_le h0
    rw [if_pos h0, if_pos h0, if_pos (by omega), show (((j : Nat) : Int) + 1).toNat = j + 1 by omega, Int.toNat_natCast]
    have e : 2 ^ (79 - j) = 2 * 2 ^ (78 - j) := by rw [← Nat.pow_succ']; congr 1; omega
    have e2 : 79 - (j + 1) = 78 - j := by omega
    have e3 : 2 ^ (79 - j) ≤ 2 ^ 80 := Nat.pow_le_pow_right (by decide) (by omega)
    rw [e2]
    rw [e] at e3 ⊢
    generalize 2 ^ (78 - j) = x at *
    omega
  · rw [if_neg h0, if_neg h0]
    by_cases h3 : k = -1
    · subst h3; decide
    · rw [if_neg (by omega)]
      have e : 2 ^ (79 - (-(k + 1)).toNat) = 2 * 2 ^ (79 - (-k).toNat) := by rw [← Nat.pow_succ']; congr 1; omega
      rw [e]; omega
theorem hd_pos (k : Int) : 0 < hdS k := by unfold hdS; split <;> exact Nat.pow_pos (by decide)
theorem hd_rise (k : Int) (d : Nat) (h1 : -79 ≤ k) (h2 : k + d ≤ 77) : hdA k + hdS k ≤ hdA (k + 1 + d) := by
  induction d with
  | zero => rw [hd_step k h1 (by omega)]; simp
  | succ d ih =>
    have := ih (by omega)
    have h3 := hd_step (k + 1 + d) (by omega) (by omega)
    rw [show k + 1 + ((d + 1 : Nat) : Int) = k + 1 + d + 1 by omega, ← h3]
    omega
theorem hd_mono {k k' : Int} (h1 : -79 ≤ k) (h : k < k') (h2 : k' ≤ 78) : hdA k + hdS k ≤ hdA k' := by
  have := hd_rise k (k' - k - 1).toNat h1 (by omega)
  rw [show k + 1 + (((k' - k - 1).toNat : Nat) : Int) = k' by omega] at this
  exact this
/-- e and the digits behind the first -/
def tailN (s : Int) (M : Nat) : Nat := (s % 4).toNat * 2 ^ 127 + (M - 2 ^ 127)
def zed (s : Int) (M : Nat) : Nat := hdA (s / 4) * 2 ^ 129 + hdS (s / 4) * tailN s M
def Mant (M : Nat) : Prop := 2 ^ 127 ≤ M ∧ M < 2 ^ 128
theorem tail_lt (s : Int) (M : Nat) (h : Mant M) : tailN s M < 2 ^ 129 := by
  obtain ⟨h1, h2⟩ := h
  unfold tailN
  have : (s % 4).toNat < 4 := by omega
  generalize (s % 4).toNat = e at *
  omega
theorem zed_hi (s : Int) (M : Nat) (h : Mant M) : zed s M < (hdA (s / 4) + hdS (s / 4)) * 2 ^ 129 := by
  unfold zed
  rw [Nat.add_mul]
  exact Nat.add_lt_add_left (Nat.mul_lt_mul_of_pos_left (tail_lt s M h) (hd_pos _)) _
theorem zed_lo (s : Int) (M : Nat) : hdA (s / 4) * 2 ^ 129 ≤ zed s M := Nat.le_add_right _ _
/-- it rises with the scale, and with the digits -/
theorem zed_lt {s s' : Int} {M M' : Nat} (h : Mant M) (h' : Mant M') (h1 : -316 ≤ s) (h2 : s' < 312) (hlt : s < s' ∨ (s = s' ∧ M < M')) : zed s M < zed s' M' := by
  have key : s / 4 = s' / 4 → tailN s M < tailN s' M' → zed s M < zed s' M' := fun e ht => by
    unfold zed
    rw [e]
    exact Nat.add_lt_add_left (Nat.mul_lt_mul_of_pos_left ht (hd_pos _)) _
  rcases hlt with hlt | ⟨rfl, hM⟩
  · by_cases e : s / 4 = s' / 4
    · refine key e ?_
      unfold tailN
      obtain ⟨a1, a2⟩ := h
      obtain ⟨b1, b2⟩ := h'
      have : (s % 4).toNat + 1 ≤ (s' % 4).toNat := by omega
      generalize (s % 4).toNat = x at *
      generalize (s' % 4).toNat = y at *
      omega
    · have hk : s / 4 < s' / 4 := by omega
      have h3 := hd_mono (k := s / 4) (k' := s' / 4) (by omega) hk (by omega)
      exact Nat.lt_of_lt_of_le (zed_hi s M h) (Nat.le_trans (Nat.mul_le_mul_right _ h3) (zed_lo s' M'))
  · refine key rfl ?_
    unfold tailN
    have := h.1
    omega
theorem zed_le {s s' : Int} {M M' : Nat} (h : Mant M) (h' : Mant M') (h1 : -316 ≤ s) (h2 : s' < 312) (hle : s < s' ∨ (s = s' ∧ M ≤ M')) : zed s M ≤ zed s' M' := by
  rcases hle with hl | ⟨rfl, hM⟩
  · exact Nat.le_of_lt (zed_lt h h' h1 h2 (.inl hl))
  · rcases Nat.lt_or_ge M M' with hlt | hge
    · exact Nat.le_of_lt (zed_lt h h' h1 h2 (.inr ⟨rfl, hlt⟩))
    · have : M = M' := by omega
      subst this; exact Nat.le_refl _
theorem numOf_ones (k : Nat) : numOf (List.replicate k true) = 2 ^ k - 1 := by
  induction k with
  | zero => rfl
  | succ k ih =>
    rw [List.replicate_succ, numOf_cons, ih, List.length_replicate, Nat.pow_succ]
    have : 0 < 2 ^ k := Nat.pow_pos (by decide)
    simp; omega
/-- the string, written out, is that number -/
theorem zed_str (s : Int) (M : Nat) (D : List Bool) (hD : D.length = 127) (hM : numOf D = M - 2 ^ 127) (h1 : -76 * 4 ≤ s) (h2 : s < 76 * 4) :
    (headK (s / 4) ++ bitsOf (s % 4).toNat 2 ++ D).length ≤ 209 ∧ numOf (headK (s / 4) ++ bitsOf (s % 4).toNat 2 ++ D) * 2 ^ (209 - (headK (s / 4) ++ bitsOf (s % 4).toNat 2 ++ D).length) = zed s M := by
  have hl : (headK (s / 4) ++ bitsOf (s % 4).toNat 2 ++ D).length = (headK (s / 4)).length + 129 := by simp [bitsOf_length, hD]
  have hn : numOf (headK (s / 4) ++ bitsOf (s % 4).toNat 2 ++ D) = numOf (headK (s / 4)) * 2 ^ 129 + tailN s M := by
    rw [numOf_append, numOf_append, numOf_bits, hD, bitsOf_length, hM, Nat.mod_eq_of_lt (a := (s % 4).toNat) (by omega), Nat.add_mul, Nat.mul_assoc, ← Nat.pow_add]
    unfold tailN; omega
  rw [hl, hn]
  have hh : numOf (headK (s / 4)) * 2 ^ (80 - (headK (s / 4)).length) = hdA (s / 4) ∧ 2 ^ (80 - (headK (s / 4)).length) = hdS (s / 4) ∧ (headK (s / 4)).length ≤ 80 := by
    unfold headK hdA hdS
    by_cases h0 : 0 ≤ s / 4
    · rw [if_pos h0, if_pos h0, if_pos h0]
      obtain ⟨j, hj⟩ := Int.eq_ofNat_of_zero_le h0
      rw [hj, Int.toNat_natCast]
      have hj2 : j < 76 := by omega
      rw [numOf_append, numOf_ones, List.length_append, List.length_replicate]
      simp only [List.length_singleton]
      refine ⟨?_, by congr 1; omega, by omega⟩
      have e1 : numOf [false] = 0 := rfl
      rw [e1, Nat.add_zero, Nat.pow_one, show 80 - (j + 1 + 1) = 78 - j by omega, Nat.mul_assoc, ← Nat.pow_succ', show (78 - j).succ = 79 - j by omega, Nat.sub_mul, ← Nat.pow_add, show j + 1 + (79 - j) = 80 by omega, Nat.one_mul]
    · rw [if_neg h0, if_neg h0, if_neg h0]
      have hj2 : (-(s / 4)).toNat ≤ 76 := by omega
      rw [numOf_append, List.length_append, List.length_replicate]
      simp only [List.length_singleton]
      have e0 := numOf_noughts (-(s / 4)).toNat
      refine ⟨?_, by congr 1; omega, by omega⟩
      rw [show List.replicate (-(s / 4)).toNat false = noughts (-(s / 4)).toNat from rfl, e0, show 80 - ((-(s / 4)).toNat + 1) = 79 - (-(s / 4)).toNat by omega, show numOf [true] = 1 from rfl]
      simp
  obtain ⟨a, b, c⟩ := hh
  refine ⟨by omega, ?_⟩
  rw [show 209 - ((headK (s / 4)).length + 129) = 80 - (headK (s / 4)).length by omega, Nat.add_mul, Nat.mul_right_comm, a, b, Nat.mul_comm (tailN s M)]
  rfl
end Go.Proofs.Ytllahgcifichbaa

namespace Go.Proofs.Ytllahgcifichbaa
set_option maxRecDepth 100000
set_option linter.unusedVariables false
set_option linter.unusedSimpArgs false

/-! ### what is left behind a cut, and rounding: to the nearer, of a tie to the even one (plain mathematics) -/
def leftL (l : List Bool) (rest : Bool) : Nat :=
  if l.getD 0 false then (if (l.drop 1).any id || rest then 3 else 2) else (if (l.drop 1).any id || rest then 1 else 0)
def roundP (P left : Nat) : Nat := if left = 3 ∨ (left = 2 ∧ P % 2 = 1) then P + 1 else P
/-- P times 2 H and R: to the nearer -/
def rhe (H Z : Nat) : Nat := roundP (Z / (2 * H)) (if Z % (2 * H) = 0 then 0 else if Z % (2 * H) < H then 1 else if Z % (2 * H) = H then 2 else 3)
theorem roundP_le (P l : Nat) : P ≤ roundP P l ∧ roundP P l ≤ P + 1 := by unfold roundP; split <;> omega
theorem rhe_mono (H : Nat) (hH : 0 < H) {Z Z' : Nat} (h : Z ≤ Z') : rhe H Z ≤ rhe H Z' := by
  have e1 := Nat.div_add_mod Z (2 * H)
  have e2 := Nat.div_add_mod Z' (2 * H)
  have m1 := Nat.mod_lt Z (show 0 < 2 * H by omega)
  have m2 := Nat.mod_lt Z' (show 0 < 2 * H by omega)
  have hp : Z / (2 * H) ≤ Z' / (2 * H) := Nat.div_le_div_right h
  unfold rhe
  rcases Nat.lt_or_ge (Z / (2 * H)) (Z' / (2 * H)) with hlt | hge
  · exact Nat.le_trans (roundP_le _ _).2 (Nat.le_trans hlt (roundP_le _ _).1)
  · have he : Z / (2 * H) = Z' / (2 * H) := by omega
    rw [he] at e1 ⊢
    generalize Z' / (2 * H) = P at *
    generalize 2 * H * P = B at *
    generalize Z % (2 * H) = R at *
    generalize Z' % (2 * H) = R' at *
    have hR : R ≤ R' := by omega
    unfold roundP
    repeat' split
    all_goals omega
/-- on which side of the ties a number lies -/
theorem rhe_side (H Z p : Nat) (hH : 0 < H) (h : rhe H Z = p) : (Z < p * (2 * H) + H ∨ (Z = p * (2 * H) + H ∧ p % 2 = 0)) ∧ (1 ≤ p → (p - 1) * (2 * H) + H < Z ∨ ((p - 1) * (2 * H) + H = Z ∧ p % 2 = 0)) := by
  have e1 := Nat.div_add_mod Z (2 * H)
  have m1 := Nat.mod_lt Z (show 0 < 2 * H by omega)
  unfold rhe roundP at h
  rw [Nat.mul_comm] at e1
  generalize Z % (2 * H) = R at *
  generalize hP : Z / (2 * H) = P at *
  have hsub : 1 ≤ p → (p - 1) * (2 * H) + 2 * H = p * (2 * H) := fun hp => by
    rw [← Nat.succ_mul]; congr 1; omega
  by_cases hup : ((if R = 0 then 0 else if R < H then 1 else if R = H then 2 else 3) = 3 ∨ ((if R = 0 then 0 else if R < H then 1 else if R = H then 2 else 3) = 2 ∧ P % 2 = 1))
  · rw [if_pos hup] at h
    subst h
    have hRH : H ≤ R ∧ (R = H → P % 2 = 1) := by
      rcases hup with hup | ⟨hup, h2⟩
      · repeat' split at hup
        all_goals first | omega | exact ⟨by omega, by omega⟩
      · repeat' split at hup
        all_goals first | omega | exact ⟨by omega, fun _ => h2⟩
    have hs := hsub (by omega)
    rw [Nat.add_sub_cancel] at hs ⊢
    generalize (P + 1) * (2 * H) = C at *
    generalize P * (2 * H) = B at *
    refine ⟨by omega, fun _ => ?_⟩
    by_cases e : R = H
    · have := hRH.2 e; exact .inr ⟨by omega, by omega⟩
    · exact .inl (by omega)
  · rw [if_neg hup] at h
    subst h
    have hRH : R ≤ H ∧ (R = H → P % 2 = 0) := by
      refine ⟨Nat.le_of_not_lt fun hlt => hup (.inl ?_), fun e => ?_⟩
      · rw [if_neg (by omega), if_neg (by omega), if_neg (by omega)]
      · rcases Nat.mod_two_eq_zero_or_one P with h0 | h1
        · exact h0
        · exact absurd (.inr ⟨by rw [if_neg (by omega), if_neg (by omega), if_pos e], h1⟩) hup
    generalize P * (2 * H) = B at *
    refine ⟨?_, fun hp => ?_⟩
    · by_cases e : R = H
      · exact .inr ⟨by omega, hRH.2 e⟩
      · exact .inl (by omega)
    · have := hsub hp
      exact .inl (by omega)
/-! ### a string, cut -/
theorem any_num (l : List Bool) : l.any id = decide (numOf l ≠ 0) := by
  cases h : l.any id
  · refine (decide_eq_false fun hn => ?_).symm
    have := mem_of_pos l hn
    rw [List.any_eq_false] at h
    exact h true this rfl
  · refine (decide_eq_true ?_).symm
    obtain ⟨b, hb, hb2⟩ := List.any_eq_true.1 h
    have : b = true := hb2
    subst this
    have := numOf_pos l hb
    omega
theorem cut_num (l : List Bool) (m : Nat) (hm : m ≤ l.length) : numOf l = numOf (l.take m) * 2 ^ (l.length - m) + numOf (l.drop m) := by
  conv => lhs; rw [← List.take_append_drop m l]
  rw [numOf_append, List.length_drop]
/-- the first m bits, and what is left, of a string that is followed by noughts, and perhaps by something more -/
theorem cut_left (l : List Bool) (m : Nat) (rest : Bool) (hm : m < l.length) (hl : l.length ≤ 209) :
    roundP (numOf (l.take m)) (leftL (l.drop m) rest) = rhe (2 ^ (209 - m)) (2 * (numOf l * 2 ^ (209 - l.length)) + rest.toNat) := by
  have hc := cut_num l m (by omega)
  have hd : (l.drop m).length = l.length - m := List.length_drop ..
  have hlt := numOf_lt (l.drop m)
  rw [hd] at hlt
  cases hs : l.drop m with
  | nil => rw [hs] at hd; simp at hd; omega
  | cons b t =>
    rw [hs] at hd hlt hc
    have ht : t.length = l.length - m - 1 := by simp at hd; omega
    have htl := numOf_lt t
    rw [numOf_cons, ht] at hc hlt
    rw [ht] at htl
    -- powers
    have p1 : 2 ^ (l.length - m) = 2 * 2 ^ (l.length - m - 1) := by rw [← Nat.pow_succ']; congr 1; omega
    have p2 : 2 ^ (209 - m) = 2 ^ (l.length - m) * 2 ^ (209 - l.length) := by rw [← Nat.pow_add]; congr 1; omega
    have p3 : 0 < 2 ^ (l.length - m - 1) := Nat.pow_pos (by decide)
    have p4 : 0 < 2 ^ (209 - l.length) := Nat.pow_pos (by decide)
    rw [hc, p2, p1]
    rw [p1] at hlt
    have hany := any_num t
    unfold leftL
    rw [show (b :: t).getD 0 false = b from rfl, show (b :: t).drop 1 = t from rfl, hany]
    generalize numOf (l.take m) = P at *
    generalize 2 ^ (l.length - m - 1) = A at *
    generalize 2 ^ (209 - l.length) = C at *
    generalize numOf t = V at *
    -- the number is P times 2 H and R
    have hVC : V * C + C ≤ A * C := by rw [← Nat.succ_mul]; exact Nat.mul_le_mul_right _ htl
    have hV0 : V = 0 ∨ C ≤ V * C := by
      rcases Nat.eq_zero_or_pos V with h | h
      · exact .inl h
      · exact .inr (Nat.le_mul_of_pos_left _ h)
    have hAC : 0 < A * C := Nat.mul_pos p3 p4
    have hZ : 2 * ((P * (2 * A) + (b.toNat * A + V)) * C) + rest.toNat = P * (2 * (2 * A * C)) + (2 * (b.toNat * (A * C) + V * C) + rest.toNat) := by
      rw [Nat.add_mul, Nat.add_mul, Nat.mul_assoc b.toNat, Nat.mul_add, ← Nat.mul_assoc 2 (P * (2 * A)) C]
      have : 2 * (P * (2 * A)) * C = P * (2 * (2 * A * C)) := by
        simp only [Nat.mul_assoc, Nat.mul_left_comm]
      rw [this]; omega
    have hR : 2 * (b.toNat * (A * C) + V * C) + rest.toNat < 2 * (2 * A * C) := by
      rw [Nat.mul_assoc 2 A C]
      generalize A * C = D at *
      generalize V * C = E at *
      cases b <;> cases rest <;> simp <;> omega
    rw [hZ]
    unfold rhe
    have hpos : 0 < 2 * (2 * A * C) := by omega
    rw [Nat.mul_comm P, Nat.mul_add_div hpos, Nat.div_eq_of_lt hR, Nat.add_zero, Nat.mul_add_mod, Nat.mod_eq_of_lt hR]
    rw [Nat.mul_assoc 2 A C]
    congr 1
    generalize A * C = D at *
    rcases hV0 with rfl | hV0
    · cases b <;> cases rest <;> simp <;> (try omega)
      all_goals (repeat' split) <;> omega
    · have hne : V ≠ 0 := by rintro rfl; omega
      generalize hE : V * C = E at *
      cases b <;> cases rest <;> simp [hne] <;> (try omega)
      all_goals (repeat' split) <;> omega
end Go.Proofs.Ytllahgcifichbaa

namespace Go.Proofs.Ytllahgcifichbaa
set_option maxRecDepth 100000
set_option linter.unusedVariables false
set_option linter.unusedSimpArgs false

/-! ### an exact number's string, cut and rounded (plain mathematics) -/
def digX (hi lo : Nat) : List Bool := (bitsOf hi 64).drop 1 ++ bitsOf lo 64
def strX (s : Int) (hi lo : Nat) : List Bool := headK (s / 4) ++ bitsOf (s % 4).toNat 2 ++ digX hi lo
def manX (hi lo : Nat) : Nat := hi * 18446744073709551616 + lo
structure WordsX (hi lo : Nat) : Prop where
  top : 9223372036854775808 ≤ hi
  hi64 : hi < 18446744073709551616
  lo64 : lo < 18446744073709551616
theorem WordsX.mant {hi lo : Nat} (h : WordsX hi lo) : Mant (manX hi lo) := by
  obtain ⟨a, b, c⟩ := h
  unfold Mant manX
  have e1 : (2 : Nat) ^ 127 = 9223372036854775808 * 18446744073709551616 := by decide
  have e2 : (2 : Nat) ^ 128 = 18446744073709551616 * 18446744073709551616 := by decide
  omega
theorem digX_length (hi lo : Nat) : (digX hi lo).length = 127 := by simp [digX, bitsOf_length]
theorem digX_num {hi lo : Nat} (h : WordsX hi lo) : numOf (digX hi lo) = manX hi lo - 2 ^ 127 := by
  obtain ⟨a, b, c⟩ := h
  have h1 := top_word hi a b
  have h2 : numOf (bitsOf hi 64) = hi := by rw [numOf_bits]; exact Nat.mod_eq_of_lt b
  rw [h1, numOf_cons] at h2
  have h3 : ((bitsOf hi 64).drop 1).length = 63 := by rw [List.length_drop, bitsOf_length]
  rw [h3] at h2
  have h4 : numOf (bitsOf lo 64) = lo := by rw [numOf_bits]; exact Nat.mod_eq_of_lt c
  unfold digX manX
  rw [numOf_append, bitsOf_length, h4]
  have e1 : (2 : Nat) ^ 127 = 9223372036854775808 * 18446744073709551616 := by decide
  have e2 : (2 : Nat) ^ 64 = 18446744073709551616 := by decide
  have e3 : (2 : Nat) ^ 63 = 9223372036854775808 := by decide
  rw [e3] at h2
  simp only [Bool.toNat_true, Nat.one_mul] at h2
  generalize numOf ((bitsOf hi 64).drop 1) = x at *
  rw [e1, e2]
  omega
/-- is nothing left behind the first digit? -/
def justX (hi lo : Nat) (rest : Bool) : Bool := !rest && !(digX hi lo).any id
theorem justX_iff {hi lo : Nat} (h : WordsX hi lo) (rest : Bool) : justX hi lo rest = true ↔ rest = false ∧ manX hi lo = 2 ^ 127 := by
  unfold justX
  rw [any_num, digX_num h]
  have := h.mant.1
  cases rest <;> simp
  omega
/-- the scales that are neither at the greatest value nor at the least -/
def midX (n : Nat) (s : Int) (just : Bool) : Prop := s < 4 * n - 8 ∧ 8 - 4 * (n : Int) ≤ s ∧ ¬ (s = 8 - 4 * n ∧ just = true)
def cutX (n : Nat) (s : Int) (hi lo : Nat) (rest : Bool) : Nat × Nat :=
  if 4 * (n : Int) - 8 ≤ s then (2 ^ (n - 1) - 1, 0)
  else if s < 8 - 4 * (n : Int) ∨ (s = 8 - 4 * n ∧ justX hi lo rest = true) then (1, 0)
  else (numOf ((strX s hi lo).take (n - 1)), leftL ((strX s hi lo).drop (n - 1)) rest)
def rndX (n : Nat) (s : Int) (hi lo : Nat) (rest : Bool) : Nat := roundP (cutX n s hi lo rest).1 (cutX n s hi lo rest).2
def zX (s : Int) (hi lo : Nat) (rest : Bool) : Nat := 2 * zed s (manX hi lo) + rest.toNat
theorem numOf_false (t : List Bool) (h : false ∈ t) : numOf t + 2 ≤ 2 ^ t.length := by
  induction t with
  | nil => cases h
  | cons b t ih =>
    rw [numOf_cons, List.length_cons, Nat.pow_succ]
    have hlt := numOf_lt t
    have hp : 0 < 2 ^ t.length := Nat.pow_pos (by decide)
    cases b
    · simp; omega
    · have := ih (by simpa using h)
      simp; omega
theorem strX_mid (n : Nat) (s : Int) (hi lo : Nat) (hn : Wd n) (h1 : s < 4 * n - 8) (h2 : 8 - 4 * (n : Int) ≤ s) :
    true ∈ (strX s hi lo).take (n - 1) ∧ false ∈ (strX s hi lo).take (n - 1) ∧ ((strX s hi lo).take (n - 1)).length = n - 1 ∧ n - 1 < (strX s hi lo).length := by
  have hw := wd_le hn
  have hlen : 128 < (strX s hi lo).length := by
    unfold strX
    obtain ⟨b, r, hh, _⟩ := headK_form (s / 4)
    rw [hh]; simp [bitsOf_length, digX_length]
  have key : ∀ (b : Bool) (j : Nat) (R : List Bool), strX s hi lo = List.replicate (j + 1) b ++ (!b) :: R → j + 1 ≤ n - 2 → true ∈ (strX s hi lo).take (n - 1) ∧ false ∈ (strX s hi lo).take (n - 1) := by
    intro b j R e hj
    rw [e, List.take_append, List.length_replicate, show n - 1 - (j + 1) = (n - 1 - (j + 1) - 1) + 1 by omega, List.take_succ_cons, List.take_of_length_le (by rw [List.length_replicate]; omega)]
    cases b
    · exact ⟨List.mem_append_right _ (List.mem_cons_self ..), List.mem_append_left _ (by simp)⟩
    · exact ⟨List.mem_append_left _ (by simp), List.mem_append_right _ (List.mem_cons_self ..)⟩
  have hk : true ∈ (strX s hi lo).take (n - 1) ∧ false ∈ (strX s hi lo).take (n - 1) := by
    obtain ⟨b, r, hh, hk⟩ := headK_form (s / 4)
    refine key b r (bitsOf (s % 4).toNat 2 ++ digX hi lo) (by unfold strX; rw [hh]; simp) ?_
    cases b <;> simp at hk <;> omega
  exact ⟨hk.1, hk.2, by rw [List.length_take]; omega, by omega⟩
/-- in the middle the rounded pattern is the number's string, rounded -/
theorem rnd_mid (n : Nat) (s : Int) (hi lo : Nat) (rest : Bool) (hn : Wd n) (h : WordsX hi lo) (hm : midX n s (justX hi lo rest)) :
    rndX n s hi lo rest = rhe (2 ^ (210 - n)) (zX s hi lo rest) ∧ 1 ≤ rndX n s hi lo rest ∧ rndX n s hi lo rest ≤ 2 ^ (n - 1) - 1 := by
  have hw := wd_le hn
  obtain ⟨h1, h2, h3⟩ := hm
  obtain ⟨t1, t2, t3, t4⟩ := strX_mid n s hi lo hn h1 h2
  have hc : cutX n s hi lo rest = (numOf ((strX s hi lo).take (n - 1)), leftL ((strX s hi lo).drop (n - 1)) rest) := by
    unfold cutX
    rw [if_neg (by omega), if_neg (by rintro (h | h); omega; exact h3 h)]
  have p1 := numOf_pos _ t1
  have p2 := numOf_false _ t2
  rw [t3] at p2
  obtain ⟨z1, z2⟩ := zed_str s (manX hi lo) (digX hi lo) (digX_length hi lo) (digX_num h) (by omega) (by omega)
  have hcl := cut_left (strX s hi lo) (n - 1) rest t4 z1
  unfold rndX
  rw [hc]
  have hr := roundP_le (numOf ((strX s hi lo).take (n - 1))) (leftL ((strX s hi lo).drop (n - 1)) rest)
  refine ⟨?_, Nat.le_trans p1 hr.1, Nat.le_trans hr.2 (by omega)⟩
  show roundP _ _ = _
  rw [hcl, show 209 - (n - 1) = 210 - n by omega]
  unfold zX strX
  rw [z2]
theorem rnd_range (n : Nat) (s : Int) (hi lo : Nat) (rest : Bool) (hn : Wd n) (h : WordsX hi lo) : 1 ≤ rndX n s hi lo rest ∧ rndX n s hi lo rest ≤ 2 ^ (n - 1) - 1 := by
  obtain ⟨H, e1, e2, e3, _⟩ := wd_pows hn
  by_cases hm : midX n s (justX hi lo rest)
  · exact (rnd_mid n s hi lo rest hn h hm).2
  · unfold rndX cutX
    rw [e2]
    by_cases c1 : 4 * (n : Int) - 8 ≤ s
    · rw [if_pos c1]; simp only [roundP]; simp; omega
    · rw [if_neg c1]
      have c2 : s < 8 - 4 * (n : Int) ∨ (s = 8 - 4 * n ∧ justX hi lo rest = true) := by
        unfold midX at hm
        by_cases c3 : s < 8 - 4 * (n : Int)
        · exact .inl c3
        · refine .inr ?_
          by_cases c4 : s = 8 - 4 * n ∧ justX hi lo rest = true
          · exact c4
          · exact absurd ⟨by omega, by omega, c4⟩ hm
      rw [if_pos c2]; simp only [roundP]; simp; omega
theorem rnd_top (n : Nat) (s : Int) (hi lo : Nat) (rest : Bool) (c : 4 * (n : Int) - 8 ≤ s) : rndX n s hi lo rest = 2 ^ (n - 1) - 1 := by
  unfold rndX cutX; rw [if_pos c]; rfl
theorem rnd_low (n : Nat) (s : Int) (hi lo : Nat) (rest : Bool) (c0 : ¬ 4 * (n : Int) - 8 ≤ s) (c : s < 8 - 4 * (n : Int) ∨ (s = 8 - 4 * n ∧ justX hi lo rest = true)) : rndX n s hi lo rest = 1 := by
  unfold rndX cutX; rw [if_neg c0, if_pos c]; rfl
theorem mid_or (n : Nat) (s : Int) (j : Bool) : midX n s j ∨ 4 * (n : Int) - 8 ≤ s ∨ (¬ 4 * (n : Int) - 8 ≤ s ∧ (s < 8 - 4 * (n : Int) ∨ (s = 8 - 4 * n ∧ j = true))) := by
  unfold midX
  by_cases c1 : 4 * (n : Int) - 8 ≤ s
  · exact .inr (.inl c1)
  · by_cases c3 : s < 8 - 4 * (n : Int)
    · exact .inr (.inr ⟨c1, .inl c3⟩)
    · by_cases c4 : s = 8 - 4 * n ∧ j = true
      · exact .inr (.inr ⟨c1, .inr c4⟩)
      · exact .inl ⟨by omega, by omega, c4⟩
theorem mid_rise (n : Nat) (s s' : Int) (hi lo hi' lo' : Nat) (hn : Wd n) (h : WordsX hi lo) (h' : WordsX hi' lo') (hm : midX n s (justX hi lo false)) (hm' : midX n s' (justX hi' lo' false))
    (hle : s < s' ∨ (s = s' ∧ manX hi lo ≤ manX hi' lo')) : rndX n s hi lo false ≤ rndX n s' hi' lo' false := by
  have hw := wd_le hn
  rw [(rnd_mid n s hi lo false hn h hm).1, (rnd_mid n s' hi' lo' false hn h' hm').1]
  obtain ⟨a1, a2, _⟩ := hm
  obtain ⟨b1, b2, _⟩ := hm'
  have hz := zed_le h.mant h'.mant (by omega) (by omega) hle
  refine rhe_mono _ (Nat.pow_pos (by decide)) ?_
  unfold zX
  exact Nat.add_le_add_right (Nat.mul_le_mul_left 2 hz) _
/-- of two numbers the greater one is not rounded to less -/
theorem rnd_rise (n : Nat) (s s' : Int) (hi lo hi' lo' : Nat) (hn : Wd n) (h : WordsX hi lo) (h' : WordsX hi' lo')
    (hle : s < s' ∨ (s = s' ∧ manX hi lo ≤ manX hi' lo')) : rndX n s hi lo false ≤ rndX n s' hi' lo' false := by
  have r1 := rnd_range n s hi lo false hn h
  have r2 := rnd_range n s' hi' lo' false hn h'
  rcases mid_or n s (justX hi lo false) with hm | c1 | ⟨c0, c1⟩
  · rcases mid_or n s' (justX hi' lo' false) with hm' | c2 | ⟨c3, c2⟩
    · exact mid_rise n s s' hi lo hi' lo' hn h h' hm hm' hle
    · rw [rnd_top n s' hi' lo' false c2]; exact r1.2
    · exfalso
      obtain ⟨a1, a2, a3⟩ := hm
      have hs : s = 8 - 4 * (n : Int) ∧ s' = s := by
        clear r1 r2 a3 h h'
        rcases hle with hl | ⟨hl, _⟩ <;> rcases c2 with c2 | ⟨c2, _⟩ <;> omega
      have hM : manX hi lo ≤ manX hi' lo' := by
        clear r1 r2 a3 h h'
        rcases hle with hl | ⟨_, hl⟩
        · omega
        · exact hl
      have hj : justX hi' lo' false = true := by
        rcases c2 with c2 | ⟨_, c2⟩
        · exfalso; clear r1 r2 a3 h h'; omega
        · exact c2
      have e1 := ((justX_iff h' false).1 hj).2
      have h3 := h.mant.1
      exact a3 ⟨hs.1, (justX_iff h false).2 ⟨rfl, Nat.le_antisymm (e1 ▸ hM) h3⟩⟩
  · have c2 : 4 * (n : Int) - 8 ≤ s' := by clear r1 r2 h h'; omega
    rw [rnd_top n s' hi' lo' false c2]; exact r1.2
  · rw [rnd_low n s hi lo false c0 c1]; exact r2.1
end Go.Proofs.Ytllahgcifichbaa

namespace Go.Proofs.Ytllahgcifichbaa
set_option maxRecDepth 100000
set_option linter.unusedVariables false
set_option linter.unusedSimpArgs false

/-! ### what the program cuts off a number's string, and what it finds behind (plain mathematics) -/
def cmpX (left : Nat) (rest : Bool) : Nat := if left = 2 ^ 127 then (if rest then 3 else 2) else if 2 ^ 127 < left then 3 else if left = 0 ∧ rest = false then 0 else 1
theorem left_num (l : List Bool) (j : Nat) (rest : Bool) (hj : 1 ≤ j) (hj2 : j ≤ 128) (hl : l.length = j + 1) :
    leftL l rest = cmpX (numOf l / 2 * 2 ^ (128 - j)) (decide (numOf l % 2 = 1) || rest) := by
  cases l with
  | nil => simp at hl
  | cons b t =>
    have ht : t.length = j := by simpa using hl
    have hV := numOf_lt t
    rw [ht] at hV
    rw [numOf_cons, ht]
    have hany := any_num t
    unfold leftL cmpX
    rw [show (b :: t).getD 0 false = b from rfl, show (b :: t).drop 1 = t from rfl, hany]
    have p1 : 2 ^ j = 2 * 2 ^ (j - 1) := by rw [← Nat.pow_succ']; congr 1; omega
    have p2 : 2 ^ (j - 1) * 2 ^ (128 - j) = 2 ^ 127 := by rw [← Nat.pow_add]; congr 1; omega
    have p3 : 0 < 2 ^ (128 - j) := Nat.pow_pos (by decide)
    rw [p1] at hV ⊢
    generalize numOf t = V at *
    generalize 2 ^ (j - 1) = A at *
    generalize 2 ^ (128 - j) = C at *
    have hh : (b.toNat * (2 * A) + V) / 2 = b.toNat * A + V / 2 := by cases b <;> simp <;> omega
    have hm : (b.toNat * (2 * A) + V) % 2 = V % 2 := by cases b <;> simp <;> omega
    rw [hh, hm, Nat.add_mul, Nat.mul_assoc b.toNat A C, ← p2]
    have hlt : V / 2 * C < A * C := Nat.mul_lt_mul_of_pos_right (by omega) p3
    have h0 : V / 2 * C = 0 ↔ V / 2 = 0 := by
      constructor
      · intro h; rcases Nat.mul_eq_zero.1 h with h | h <;> omega
      · intro h; rw [h]; simp
    generalize V / 2 * C = X at *
    generalize A * C = D at *
    cases b
    · simp only [Bool.toNat_false, Nat.zero_mul, Nat.zero_add]
      have n1 : ¬ X = D := by omega
      have n2 : ¬ D < X := by omega
      rw [if_neg n1, if_neg n2]
      by_cases hx : X = 0
      · have := h0.1 hx
        rcases Nat.mod_two_eq_zero_or_one V with hv | hv
        · have : V = 0 := by omega
          subst this
          cases rest <;> simp [hx]
        · have : V ≠ 0 := by omega
          cases rest <;> simp [hx, hv, this]
      · have : ¬ V / 2 = 0 := fun h => hx (h0.2 h)
        have : V ≠ 0 := by omega
        cases rest <;> simp [hx, this]
    · simp only [Bool.toNat_true, Nat.one_mul]
      by_cases hx : X = 0
      · have := h0.1 hx
        have n1 : D + X = D := by omega
        rw [if_pos n1]
        rcases Nat.mod_two_eq_zero_or_one V with hv | hv
        · have : V = 0 := by omega
          subst this
          cases rest <;> simp
        · have : V ≠ 0 := by omega
          cases rest <;> simp [hv, this]
      · have : ¬ V / 2 = 0 := fun h => hx (h0.2 h)
        have : V ≠ 0 := by omega
        have n1 : ¬ D + X = D := by omega
        have n2 : D < D + X := by omega
        rw [if_neg n1, if_pos n2]
        cases rest <;> simp [this]
theorem headK_num (k : Int) : numOf (headK k) = (if 0 ≤ k then 2 ^ (k.toNat + 2) - 2 else 1) ∧ (headK k).length = (if 0 ≤ k then k.toNat + 2 else (1 - k).toNat) := by
  unfold headK
  by_cases h : 0 ≤ k
  · rw [if_pos h, if_pos h, if_pos h, numOf_append, numOf_ones]
    have : 1 ≤ 2 ^ (k.toNat + 1) := Nat.one_le_two_pow
    rw [Nat.pow_succ 2 (k.toNat + 1)]
    refine ⟨?_, by simp⟩
    show (2 ^ (k.toNat + 1) - 1) * 2 ^ 1 + 0 = _
    omega
  · rw [if_neg h, if_neg h, if_neg h, numOf_append, show List.replicate (-k).toNat false = noughts (-k).toNat from rfl, numOf_noughts]
    refine ⟨by simp; rfl, ?_⟩
    simp [noughts]; omega
def tailL (s : Int) (hi lo : Nat) : List Bool := bitsOf (s % 4).toNat 2 ++ digX hi lo
theorem tailL_num (s : Int) {hi lo : Nat} (h : WordsX hi lo) : (tailL s hi lo).length = 129 ∧ numOf (tailL s hi lo) = tailN s (manX hi lo) := by
  unfold tailL
  refine ⟨by simp [bitsOf_length, digX_length], ?_⟩
  rw [numOf_append, digX_num h, digX_length, numOf_bits, Nat.mod_eq_of_lt (by omega)]
  rfl
theorem room_pows (room : Nat) (h : room ≤ 64) : 2 ^ (129 - room) = 2 * 2 ^ (128 - room) ∧ 2 ^ 128 = 2 ^ (128 - room) * 2 ^ room := by
  refine ⟨?_, ?_⟩
  · rw [← Nat.pow_succ']; congr 1; omega
  · rw [← Nat.pow_add]; congr 1; omega
/-- the first n - 1 bits of the string, and what is left, from the run and from what stands behind it but for the last bit -/
theorem cut_parts (n : Nat) (s : Int) (hi lo : Nat) (rest : Bool) (h : WordsX hi lo) (hr : (headK (s / 4)).length ≤ n - 1) (hn : n ≤ 64) (B room : Nat)
    (hB : B = tailN s (manX hi lo) / 2) (hroom : room = n - 1 - (headK (s / 4)).length) :
    numOf ((strX s hi lo).take (n - 1)) = numOf (headK (s / 4)) * 2 ^ room + B / 2 ^ (128 - room) ∧ B / 2 ^ (128 - room) < 2 ^ room ∧ leftL ((strX s hi lo).drop (n - 1)) rest = cmpX (B * 2 ^ room % 2 ^ 128) (decide (lo % 2 = 1) || rest) := by
  obtain ⟨t1, t2⟩ := tailL_num s h
  have e : strX s hi lo = headK (s / 4) ++ tailL s hi lo := by unfold strX tailL; simp
  have hr2 : room ≤ 64 := by omega
  have e1 : (strX s hi lo).take (n - 1) = headK (s / 4) ++ (tailL s hi lo).take room := by
    rw [e, List.take_append, List.take_of_length_le hr, ← hroom]
  have e2 : (strX s hi lo).drop (n - 1) = (tailL s hi lo).drop room := by
    rw [e, List.drop_append, List.drop_of_length_le hr, ← hroom, List.nil_append]
  have hc := cut_num (tailL s hi lo) room (by omega)
  have hlt := numOf_lt ((tailL s hi lo).drop room)
  rw [List.length_drop, t1] at hlt
  rw [t1, t2] at hc
  have hpar : tailN s (manX hi lo) % 2 = lo % 2 := by
    unfold tailN manX
    have := h.top
    rw [show (2 : Nat) ^ 127 = 2 * 85070591730234615865843651857942052864 by decide]
    omega
  obtain ⟨p1, p3⟩ := room_pows room hr2
  have hdl : ((tailL s hi lo).drop room).length = (128 - room) + 1 := by rw [List.length_drop, t1]; omega
  have htl : ((tailL s hi lo).take room).length = room := by rw [List.length_take, t1]; omega
  have hlf := left_num ((tailL s hi lo).drop room) (128 - room) rest (by omega) (by omega) hdl
  have htk := numOf_lt ((tailL s hi lo).take room)
  rw [htl] at htk
  rw [e1, e2, hlf, numOf_append, htl, p3, Nat.mul_mod_mul_right, show 128 - (128 - room) = room by omega]
  rw [p1] at hc hlt
  generalize numOf ((tailL s hi lo).drop room) = R at *
  generalize numOf ((tailL s hi lo).take room) = P at *
  generalize tailN s (manX hi lo) = T at *
  have hpos : 0 < 2 ^ (128 - room) := Nat.pow_pos (by decide)
  generalize 2 ^ (128 - room) = G at *
  have hB2 : B = P * G + R / 2 := by
    have : P * (2 * G) = 2 * (P * G) := by rw [Nat.mul_left_comm]
    omega
  have hRG : R / 2 < G := by omega
  have d1 : B / G = P := by rw [hB2, Nat.mul_comm, Nat.mul_add_div hpos, Nat.div_eq_of_lt hRG]; rfl
  have d2 : B % G = R / 2 := by rw [hB2, Nat.mul_comm, Nat.mul_add_mod, Nat.mod_eq_of_lt hRG]
  have hR2 : R % 2 = lo % 2 := by
    have : P * (2 * G) = 2 * (P * G) := by rw [Nat.mul_left_comm]
    omega
  rw [d1, d2, hR2]
  exact ⟨rfl, htk, rfl⟩
/-- within the ends the run has room -/
theorem head_room (n : Nat) (s : Int) (hn : Wd n) (h1 : s < 4 * n - 8) (h2 : 8 - 4 * (n : Int) ≤ s) : (headK (s / 4)).length ≤ n - 1 ∧ 2 ≤ (headK (s / 4)).length := by
  have hw := wd_le hn
  rw [(headK_num (s / 4)).2]
  split <;> omega
end Go.Proofs.Ytllahgcifichbaa

namespace Go.Proofs.Ytllahgcifichbaa
open Go.ChangeShapes Go.WideShapes Go.ChangeAt Go.RowKit
set_option linter.unusedVariables false
set_option linter.unusedSimpArgs false
set_option maxRecDepth 100000

/-! ### the document's round: which Exacts are sound; what is left -/
def exV (k : Int) (neg : Bool) (s : Int) (hi lo : Nat) (rest : Bool) : Value := .agg #[.int .i64 k, .bool neg, .int .i64 s, .int .u64 hi, .int .u64 lo, .bool rest]
def soundX (k : Int) (neg : Bool) (s : Int) (hi lo : Nat) (rest : Bool) : Bool :=
  if k = 0 ∨ k = 2 then decide (neg = false ∧ s = 0 ∧ hi = 0 ∧ lo = 0 ∧ rest = false) else decide (k = 1 ∧ 9223372036854775808 ≤ hi ∧ -1099511627776 ≤ s ∧ s ≤ 1099511627776)
set_option maxHeartbeats 1000000 in
theorem sound7_any (k : Int) (neg : Bool) (s : Int) (hi lo : Nat) (rest : Bool) (w : World) :
    Calls Try.prog 25 #[exV k neg s hi lo rest] w fun e w' => e = .returned (.bool (soundX k neg s hi lo rest)) ∧ Below w.heap.size w w' := by
  unfold exV soundX
  refine cps fun Q hQ => ?_
  by_cases h0 : k = 0
  · subst h0
    go_enter Try.func25, Try.ntmps25
    go_wp2
    all_goals exact hQ.out _ _ ⟨ret_b (by simp_all), cmore (Below.refl _ _) _⟩
  · by_cases h2 : k = 2
    · subst h2
      go_enter Try.func25, Try.ntmps25
      go_wp2
      all_goals exact hQ.out _ _ ⟨ret_b (by simp_all), cmore (Below.refl _ _) _⟩
    · by_cases h1 : k = 1
      · subst h1
        go_enter Try.func25, Try.ntmps25
        go_wp2
        all_goals exact hQ.out _ _ ⟨ret_b (by simp_all <;> omega), cmore (Below.refl _ _) _⟩
      · have d0 : (k == 0) = false := beq_eq_false_iff_ne.2 h0
        have d1 : (k == 1) = false := beq_eq_false_iff_ne.2 h1
        have d2 : (k == 2) = false := beq_eq_false_iff_ne.2 h2
        have HN : Hid (¬ k = 0 ∧ ¬ k = 1 ∧ ¬ k = 2) := ⟨h0, h1, h2⟩
        clear h0 h1 h2
        go_enter Try.func25, Try.ntmps25
        go_wp2
        all_goals exact hQ.out _ _ ⟨ret_b (by have := HN.out; simp_all), cmore (Below.refl _ _) _⟩
theorem some7_any (s : ByteArray) (l : List Bool) (hs : IsBits s l) (hl : l.length ≤ 1048576) (w : World) :
    Calls Try.prog 111 #[.string s] w fun e w' => e = .returned (.bool (l.any id)) ∧ ∃ q, w' = w.drewN q := by
  have hsz := isBits_size hs
  obtain ⟨n, hn⟩ : ∃ n, n = l.length := ⟨_, rfl⟩
  have HN : Hid (n = l.length) := hn
  rw [← hn] at hsz hl
  clear hn
  have heq : Hid (∀ k (hk : k < n), (((s[k]'(by omega)).toNat : Int) == 49) = l.getD k false) := fun k hk => by
    rw [isBits_get hs k (by omega)]
    cases l.getD k false <;> rfl
  clear hs
  refine cps fun Q hQ => ?_
  go_enter Try.func111, Try.ntmps111
  go_wp2
  go_loopw [3] (fun i wr => ∃ k q : Nat, k ≤ n ∧ i = .int .i64 k ∧ Hid (∀ j, j < k → l.getD j false = false) ∧ wr = w.drewN q) (fun i _ => n - (intOf i).toNat)
  case atStart => exact ⟨0, 0, Nat.zero_le _, rfl, fun j hj => absurd hj (by omega), rfl⟩
  case round =>
    obtain ⟨k, q, hk, rfl, hsame, rfl⟩ := hrel
    by_cases hlt : k < n
    · have hlt' : (k : Int) < n := by omega
      have he := heq.out k hlt
      cases hb : l.getD k false with
      | true =>
        rw [hb] at he
        have hR : l.any id = true := by
          refine List.any_eq_true.2 ⟨true, ?_, rfl⟩
          have h2 : k < l.length := by rw [← HN.out]; exact hlt
          rw [List.getD_eq_getElem?_getD, List.getElem?_eq_getElem h2] at hb
          have : l[k] = true := hb
          rw [← this]; exact List.getElem_mem _
        rw [hR] at hQ
        clear hR hb
        go_wp2
        exact hQ.out _ _ ⟨rfl, _, rfl⟩
      | false =>
        rw [hb] at he
        have HBK : Hid (l.getD k false = false) := hb
        clear hb
        go_wp2
        go_roundw
        case rel => exact ⟨k + 1, _, by omega, by go_num, fun j hj => by rcases Nat.lt_succ_iff_lt_or_eq.1 hj with c | c; exact hsame.out j c; subst c; exact HBK.out, rfl⟩
        case measure => simp [intOf]; omega
    · have hkn : k = n := by omega
      have hR : l.any id = false := by
        refine List.any_eq_false.2 fun x hx => ?_
        obtain ⟨j, hj, e⟩ := List.getElem_of_mem hx
        have := hsame.out j (by rw [hkn, HN.out]; exact hj)
        rw [List.getD_eq_getElem?_getD, List.getElem?_eq_getElem hj] at this
        have h2 : l[j] = false := this
        rw [← e, h2]; decide
      rw [hR] at hQ
      clear hR hkn
      go_wp2
      exact hQ.out _ _ ⟨rfl, _, rfl⟩
theorem left7_any (s : ByteArray) (l : List Bool) (rest : Bool) (hs : IsBits s l) (h0 : 0 < l.length) (hl : l.length ≤ 1048576) (w : World) :
    Calls Try.prog 113 #[.string s, .bool rest] w fun e w' => e = .returned (.int .i64 (leftL l rest : Nat)) ∧ Below w.heap.size w w' := by
  have hsz := isBits_size hs
  obtain ⟨n, hn⟩ : ∃ n, n = l.length := ⟨_, rfl⟩
  have HN : Hid (n = l.length) := hn
  rw [← hn] at hsz hl h0
  have hi : IsBits (s.extract 1 n) (l.drop 1) := by
    have := isBits_extract hs 1 n
    rw [List.take_of_length_le (by rw [List.length_drop, hn]; exact Nat.le_refl _)] at this
    exact this
  have r1 := slice_l (P := Try.prog) (s := s) Try.underlying9 1 1 rfl (by omega)
  rw [hsz] at r1
  have k1 := some7_any _ _ hi (by rw [List.length_drop, ← hn]; omega)
  clear hn
  have hs0 : (((s[0]'(by omega)).toNat : Int) == 49) = l.getD 0 false := by
    rw [isBits_get hs 0 (by omega)]; cases l.getD 0 false <;> rfl
  have hne : s.toList.isEmpty = false := by
    rw [← decide_eq_emptyBytes]
    refine decide_eq_false fun h => ?_
    rw [h] at hsz
    have : (0 : Nat) = n := hsz
    omega
  unfold leftL
  generalize s.extract 1 n = s1 at *
  generalize (l.drop 1).any id = more at *
  generalize l.getD 0 false = b at *
  clear hi hs
  refine cps fun Q hQ => ?_
  cases b <;> cases more <;> cases rest
  all_goals
    go_enter Try.func113, Try.ntmps113
    go_wp2_with (go_at_call 111; refine (k1 _).mono ?_; rintro e w1 ⟨rfl, q1, rfl⟩)
    first
      | exact hQ.out _ _ ⟨rfl, below_drewN (Below.refl _ _) _⟩
      | skip
end Go.Proofs.Ytllahgcifichbaa

namespace Go.Proofs.Ytllahgcifichbaa
open Go.ChangeShapes Go.WideShapes Go.ChangeAt Go.RowKit
set_option linter.unusedVariables false
set_option linter.unusedSimpArgs false
set_option maxRecDepth 100000

/-! ### the document's Cut -/
theorem cut7_no (n : Int) (k : Int) (neg : Bool) (s : Int) (hi lo : Nat) (rest : Bool) (hn : isW n = false) (w : World) :
    Calls Try.prog 108 #[.int .i64 n, exV k neg s hi lo rest] w fun e w' => e = .returned (.tuple #[.int .u64 0, .int .i64 0, .int .i64 2]) ∧ Below w.heap.size w w' := by
  have k1 := is_width n
  rw [hn] at k1
  have k2 := sound7_any k neg s hi lo rest
  generalize soundX k neg s hi lo rest = so at *
  unfold exV at *
  clear hn
  refine cps fun Q hQ => ?_
  go_enter Try.func108, Try.ntmps108
  go_wp2_with (first
    | (go_at_call 13; refine (k1 _).mono ?_; rintro e w1 ⟨rfl, hw⟩; rw [hw]; clear hw w1)
    | (go_at_call 25; refine (k2 _).mono ?_; rintro e w2 ⟨rfl, hb2⟩))
  go_ret3
  exact hQ.out _ _ ⟨rfl, cthen (cmore (Below.refl _ _) _) hb2⟩
theorem cut7_bad (n : Nat) (k : Int) (neg : Bool) (s : Int) (hi lo : Nat) (rest : Bool) (hn : Wd n) (hs : soundX k neg s hi lo rest = false) (w : World) :
    Calls Try.prog 108 #[.int .i64 n, exV k neg s hi lo rest] w fun e w' => e = .returned (.tuple #[.int .u64 0, .int .i64 0, .int .i64 1]) ∧ Below w.heap.size w w' := by
  have k1 := is_width n
  rw [isW_of hn] at k1
  have k2 := sound7_any k neg s hi lo rest
  rw [hs] at k2
  unfold exV at *
  clear hn hs
  refine cps fun Q hQ => ?_
  go_enter Try.func108, Try.ntmps108
  go_wp2_with (first
    | (go_at_call 13; refine (k1 _).mono ?_; rintro e w1 ⟨rfl, hw⟩; rw [hw]; clear hw w1)
    | (go_at_call 25; refine (k2 _).mono ?_; rintro e w2 ⟨rfl, hb2⟩))
  go_ret3
  exact hQ.out _ _ ⟨rfl, cthen (cmore (Below.refl _ _) _) hb2⟩
theorem cut7_zero (n : Nat) (hn : Wd n) (w : World) :
    Calls Try.prog 108 #[.int .i64 n, exV 0 false 0 0 0 false] w fun e w' => e = .returned (.tuple #[.int .u64 0, .int .i64 0, .int .i64 0]) ∧ Below w.heap.size w w' := by
  have k1 := is_width n
  rw [isW_of hn] at k1
  have k2 := sound7_any 0 false 0 0 0 false
  rw [show soundX 0 false 0 0 0 false = true from rfl] at k2
  unfold exV at *
  clear hn
  refine cps fun Q hQ => ?_
  go_enter Try.func108, Try.ntmps108
  go_wp2_with (first
    | (go_at_call 13; refine (k1 _).mono ?_; rintro e w1 ⟨rfl, hw⟩; rw [hw]; clear hw w1)
    | (go_at_call 25; refine (k2 _).mono ?_; rintro e w2 ⟨rfl, hb2⟩; have hc := fun b o h => hb2.cell (p := ⟨b, o, none⟩) h; have z1 : w.heap.size < w2.heap.size := (by have := hb2.size; simp at this; omega)))
  go_ret3
  exact hQ.out _ _ ⟨rfl, cthen (cmore (Below.refl _ _) _) hb2⟩
theorem cut7_nar (n : Nat) (hn : Wd n) (w : World) :
    Calls Try.prog 108 #[.int .i64 n, exV 2 false 0 0 0 false] w fun e w' => e = .returned (.tuple #[.int .u64 (2 ^ (n - 1) : Nat), .int .i64 0, .int .i64 0]) ∧ Below w.heap.size w w' := by
  have k1 := is_width n
  rw [isW_of hn] at k1
  have k2 := sound7_any 2 false 0 0 0 false
  rw [show soundX 2 false 0 0 0 false = true from rfl] at k2
  have hw := wd_le hn
  have k3 := power_sub n (by omega) hw.2
  generalize 2 ^ (n - 1) = pw at *
  unfold exV at *
  clear hn
  refine cps fun Q hQ => ?_
  go_enter Try.func108, Try.ntmps108
  go_wp2_with (first
    | (go_at_call 13; refine (k1 _).mono ?_; rintro e w1 ⟨rfl, hw⟩; rw [hw]; clear hw w1)
    | (go_at_call 16; refine (k3 _).mono ?_; rintro e w1 ⟨rfl, hw⟩; rw [hw]; clear hw w1)
    | (go_at_call 25; refine (k2 _).mono ?_; rintro e w2 ⟨rfl, hb2⟩; have hc := fun b o h => hb2.cell (p := ⟨b, o, none⟩) h; have z1 : w.heap.size < w2.heap.size := (by have := hb2.size; simp at this; omega)))
  go_ret3
  exact hQ.out _ _ ⟨rfl, cthen (cmore (Below.refl _ _) _) hb2⟩
set_option maxHeartbeats 8000000 in
theorem cut7_real (n : Nat) (neg : Bool) (s : Int) (hi lo : Nat) (rest : Bool) (hn : Wd n) (hs : soundX 1 neg s hi lo rest = true) (h : WordsX hi lo) (w : World) :
    Calls Try.prog 108 #[.int .i64 n, exV 1 neg s hi lo rest] w fun e w' => e = .returned (.tuple #[.int .u64 (cutX n s hi lo rest).1, .int .i64 (cutX n s hi lo rest).2, .int .i64 0]) ∧ Below w.heap.size w w' := by
  have k1 := is_width n
  rw [isW_of hn] at k1
  have k2 := sound7_any 1 neg s hi lo rest
  rw [hs] at k2
  have hw := wd_le hn
  have k3 := power_sub n (by omega) hw.2
  have k6 := text_any hi 64 (by decide)
  have k7 := text_any lo 64 (by decide)
  unfold exV at *
  refine cps fun Q hQ => ?_
  go_enter Try.func108, Try.ntmps108
  go_wp2_with (first
    | (go_at_call 13; refine (k1 _).mono ?_; rintro e w1 ⟨rfl, hw⟩; rw [hw]; clear hw w1)
    | (go_at_call 25; refine (k2 _).mono ?_; rintro e w2 ⟨rfl, hb2⟩; have R0 := (hb2.block w.heap.size (by simp)).trans (rownew w _ _); have z1 : w.heap.size < w2.heap.size := (by have := hb2.size; simp at this; omega); have b0 := rowcell R0 0; have b1 := rowcell R0 1; have b2 := rowcell R0 2; have b3 := rowcell R0 3; have b4 := rowcell R0 4; have b5 := rowcell R0 5; simp only [List.getElem?_toArray, List.getElem?_cons_zero, List.getElem?_cons_succ] at b0 b1 b2 b3 b4 b5; have HR0 : Hid _ := R0; have HB2 : Hid (Below _ _ _) := hb2; clear R0 hb2))
  have cls : ∀ W, Below w2.heap.size w2 W → W.cell? ⟨w.heap.size, 3, none⟩ = some (.int .u64 hi) ∧ W.cell? ⟨w.heap.size, 4, none⟩ = some (.int .u64 lo) := fun W hW =>
    ⟨(hW.cell (p := ⟨w.heap.size, 3, none⟩) z1).trans b3, (hW.cell (p := ⟨w.heap.size, 4, none⟩) z1).trans b4⟩
  refine wpC_region (fun W => W.cell? ⟨w.heap.size, 3, none⟩ = some (.int .u64 hi) ∧ W.cell? ⟨w.heap.size, 4, none⟩ = some (.int .u64 lo)) (by kernel_rfl) ?_
  refine wpC_take 0 (v := ?_) rfl (by kernel_rfl) (fun _ _ _ h => h) (by kernel_rfl) ?_ ?_; rotate_left; · (intro wC hC; obtain ⟨c1, c2⟩ := hC; go_simp <;> with_reducible rfl)
  refine wpC_take 1 (v := ?_) rfl (by kernel_rfl) (fun _ _ _ h => h) (by kernel_rfl) ?_ ?_; rotate_left; · (intro wC hC; obtain ⟨c1, c2⟩ := hC; go_simp <;> with_reducible rfl)
  refine wpC_take 4 (v := ?_) rfl (by kernel_rfl) (fun _ _ _ h => h) (by kernel_rfl) ?_ ?_; rotate_left; · (intro wC hC; obtain ⟨c1, c2⟩ := hC; go_simp <;> with_reducible rfl)
  refine wpC_take 5 (v := ?_) rfl (by kernel_rfl) (fun _ _ _ h => h) (by kernel_rfl) ?_ ?_; rotate_left; · (intro wC hC; obtain ⟨c1, c2⟩ := hC; go_simp <;> with_reducible rfl)
  refine wpC_step 2 rfl (by kernel_rfl) (by kernel_rfl) (cls _ (cdrew (Below.refl _ _))) (fun K hK => ?_)
  go_simp
  go_wp2_with ((go_at_call 70; refine (k6 _).mono ?_; rintro e w3 ⟨u1, rfl, hu1, hb3⟩))
  try (refine hK _ _ ?_; clear hK K)
  have B3 := cthen (cdrew (Below.refl w2.heap.size w2)) hb3
  have hz1 := isBits_size hu1
  rw [bitsOf_length] at hz1
  have g1 := slice_l (P := Try.prog) (s := u1) Try.underlying9 1 1 rfl (by omega)
  rw [hz1] at g1
  have hi1 : IsBits (u1.extract 1 64) ((bitsOf hi 64).drop 1) := by
    have := isBits_extract hu1 1 64
    rw [List.take_of_length_le (by rw [List.length_drop, bitsOf_length]; exact Nat.le_refl _)] at this
    exact this
  generalize u1.extract 1 64 = u2 at *
  refine wpC_take 3 (v := ?_) rfl (by kernel_rfl) (fun _ _ _ h => h) (by kernel_rfl) ?_ ?_; rotate_left; · (intro wC hC; obtain ⟨c1, c2⟩ := hC; go_simp <;> with_reducible rfl)
  refine wpC_step 6 rfl (by kernel_rfl) (by kernel_rfl) (cls _ B3) (fun K hK => ?_)
  go_simp
  go_wp2_with ((go_at_call 70; refine (k7 _).mono ?_; rintro e w4 ⟨u3, rfl, hu3, hb4⟩))
  try (refine hK _ _ ?_; clear hK K)
  have B4 := cthen B3 hb4
  have hi3 : IsBits (u2 ++ u3) (digX hi lo) := isBits_append hi1 hu3
  have hz3 := isBits_size hi3
  rw [digX_length] at hz3
  have hzz : u2.size + u3.size ≤ 9223372036854775807 := by rw [ByteArray.size_append] at hz3; omega
  have g2 := fun wx => run_string_add_sum (P := Try.prog) wx u2 u3 hzz
  have HI3 : Hid _ := hi3
  have HB4 : Hid (Below w2.heap.size w2 w4) := B4
  refine wpC_take 7 (v := ?_) rfl (by kernel_rfl) (fun _ _ _ h => h) (by kernel_rfl) ?_ ?_; rotate_left; · (intro wC hC; obtain ⟨c1, c2⟩ := hC; go_simp <;> with_reducible rfl)
  generalize u2 ++ u3 = dg at *
  refine wpC_step 8 rfl (by kernel_rfl) (by kernel_rfl) (cls _ B4) (fun K hK => ?_)
  go_simp
  try (refine hK _ _ ?_; clear hK K)
  refine wpC_done (by kernel_rfl) (cls _ B4) ?_
  have k8 := fun w => some7_any dg (digX hi lo) HI3.out (by rw [digX_length]; decide) w
  have n0 := (HB4.out.block w.heap.size z1).trans HR0.out
  have a2 := rowcell n0 2
  have a5 := rowcell n0 5
  simp only [List.getElem?_toArray, List.getElem?_cons_zero, List.getElem?_cons_succ] at a2 a5
  have HN0 : Hid _ := n0
  have z4 : w.heap.size < w4.heap.size := Nat.lt_of_lt_of_le z1 HB4.out.size
  have HBW : Hid (Below w.heap.size w w4) := cthen (cthen (cmore (Below.refl _ _) _) HB2.out) HB4.out
  clear n0 b0 b1 b2 b3 b4 b5 B3 B4 cls g1 g2 hi1 hi3 hzz hu1 hu3 hb3 hb4 k1 k2 k6 k7 HR0 hs hz1
  obtain ⟨an, han⟩ : ∃ an, an = (digX hi lo).any id := ⟨_, rfl⟩
  rw [← han] at k8
  have HJ : Hid (justX hi lo rest = (!rest && !an)) := by show _ = _; rw [han]; rfl
  clear han
  by_cases ct : 4 * (n : Int) - 8 ≤ s
  · have hc : cutX n s hi lo rest = (2 ^ (n - 1) - 1, 0) := by unfold cutX; rw [if_pos ct]
    rw [hc] at hQ
    have hp1 : 1 ≤ 2 ^ (n - 1) := Nat.one_le_two_pow
    have hp2 : ((2 ^ (n - 1) : Nat) : Int) - 1 = ((2 ^ (n - 1) - 1 : Nat) : Int) := by omega
    have hp3 : IntKind.u64.wrap ((2 ^ (n - 1) - 1 : Nat) : Int) = ((2 ^ (n - 1) - 1 : Nat) : Int) := by
      have : 2 ^ (n - 1) ≤ 2 ^ 63 := Nat.pow_le_pow_right (by decide) (by omega)
      rw [IntKind.wrap_u64]; omega
    generalize 2 ^ (n - 1) = pw at *
    clear hc hn h
    cases rest
    · go_wp2_with (first
        | (go_at_call 111; refine (k8 _).mono ?_; rintro e w5 ⟨rfl, q5, rfl⟩)
        | (go_at_call 16; refine (k3 _).mono ?_; rintro e w1 ⟨rfl, hw⟩; rw [hw]; clear hw w1))
      all_goals
        go_ret3
        exact hQ.out _ _ ⟨rfl, below_drewN HBW.out _⟩
    · go_wp2_with (go_at_call 16; refine (k3 _).mono ?_; rintro e w1 ⟨rfl, hw⟩; rw [hw]; clear hw w1)
      all_goals
        go_ret3
        exact hQ.out _ _ ⟨rfl, HBW.out⟩
  · have et : decide (4 * (n : Int) - 8 ≤ s) = false := decide_eq_false ct
    by_cases cl : s < 8 - 4 * (n : Int) ∨ (s = 8 - 4 * n ∧ justX hi lo rest = true)
    · have hc : cutX n s hi lo rest = (1, 0) := by unfold cutX; rw [if_neg ct, if_pos cl]
      rw [hc] at hQ
      rw [HJ.out] at cl
      clear hc hn h k3
      by_cases c1 : s < 8 - 4 * (n : Int)
      · have e1 : decide (s < -(4 * (n : Int) - 8)) = true := decide_eq_true (by omega)
        cases rest
        · go_wp2_with (go_at_call 111; refine (k8 _).mono ?_; rintro e w5 ⟨rfl, q5, rfl⟩)
          all_goals
            go_ret3
            exact hQ.out _ _ ⟨rfl, below_drewN HBW.out _⟩
        · go_wp2
          all_goals
            go_ret3
            exact hQ.out _ _ ⟨rfl, HBW.out⟩
      · have c2 : s = 8 - 4 * (n : Int) ∧ rest = false ∧ an = false := by
          rcases cl with h | ⟨h1, h2⟩
          · exact absurd h c1
          · cases rest <;> cases an <;> simp_all
        obtain ⟨c3, rfl, rfl⟩ := c2
        have e1 : decide (s < -(4 * (n : Int) - 8)) = false := decide_eq_false (by omega)
        have e2 : (s == -(4 * (n : Int) - 8)) = true := beq_iff_eq.2 (by omega)
        clear cl
        go_wp2_with (go_at_call 111; refine (k8 _).mono ?_; rintro e w5 ⟨rfl, q5, rfl⟩)
        all_goals
          go_ret3
          exact hQ.out _ _ ⟨rfl, below_drewN HBW.out _⟩
    · have hc : cutX n s hi lo rest = (numOf ((strX s hi lo).take (n - 1)), leftL ((strX s hi lo).drop (n - 1)) rest) := by unfold cutX; rw [if_neg ct, if_neg cl]
      rw [hc] at hQ
      rw [HJ.out] at cl
      have hr1 : ¬ s < 8 - 4 * (n : Int) := fun c => cl (.inl c)
      have e1 : decide (s < -(4 * (n : Int) - 8)) = false := decide_eq_false (by omega)
      have k5 := head6_any s (by omega) (by omega)
      obtain ⟨t1, t2, t3, t4⟩ := strX_mid n s hi lo hn (by omega) (by omega)
      obtain ⟨L, hL⟩ : ∃ L, L = strX s hi lo := ⟨_, rfl⟩
      have HL : Hid (L = headK (s / 4) ++ bitsOf (s % 4).toNat 2 ++ digX hi lo) := hL
      have hlen : (strX s hi lo).length ≤ 209 := (zed_str s (manX hi lo) (digX hi lo) (digX_length hi lo) (digX_num h) (by omega) (by omega)).1
      rw [← hL] at t3 t4 hlen hQ
      have HT : Hid ((L.take (n - 1)).length = n - 1 ∧ n - 1 < L.length ∧ L.length ≤ 209) := ⟨t3, t4, hlen⟩
      clear hc hn h k3 t1 t2 t3 t4 hL hlen hr1
      by_cases c2 : s = 8 - 4 * (n : Int)
      · have e2 : (s == -(4 * (n : Int) - 8)) = true := beq_iff_eq.2 (by omega)
        have hj : rest = true ∨ an = true := by
          cases rest <;> cases an <;> simp_all
        clear cl c2
        cases rest
        · have han2 : an = true := by simpa using hj
          subst han2
          clear hj
          go_wp2_with (first
            | (go_at_call 111; refine (k8 _).mono ?_; rintro e w5 ⟨rfl, q5, rfl⟩)
            | (go_at_call 112; refine (k5 _).mono ?_; rintro e w6 ⟨u4, rfl, hu4, hb6⟩; have HU4 : Hid _ := isBits_append hu4 HI3.out; have hz4 := isBits_size HU4.out; rw [← HL.out] at hz4; have n6 := (hb6.block w.heap.size z4).trans HN0.out; have f5 := rowcell n6 5; simp only [List.getElem?_toArray, List.getElem?_cons_zero, List.getElem?_cons_succ] at f5; have z6 : w.heap.size < w6.heap.size := (Nat.lt_of_lt_of_le z4 hb6.size); have HB6 : Hid (Below _ _ _) := hb6; have hsz6 : u4.size + dg.size ≤ 9223372036854775807 := (by have := HT.out.2.2; rw [ByteArray.size_append] at hz4; omega); have g6 := (fun wx => run_string_add_sum (P := Try.prog) wx u4 dg hsz6); clear n6 hu4 hb6))
          have hsz4 := isBits_size HU4.out
          rw [← HL.out] at hsz4
          have HU5 : Hid (IsBits (u4 ++ dg) L) := by show IsBits _ _; rw [HL.out]; exact HU4.out
          generalize u4 ++ dg = st at *
          have hst : n ≤ st.size := by rw [hsz4]; have := HT.out.2.1; omega
          have g3 := slice_h (P := Try.prog) (s := st) Try.underlying9 ((n : Int) - 1) (n - 1) (by omega) (by omega)
          have g4 := slice_l (P := Try.prog) (s := st) Try.underlying9 ((n : Int) - 1) (n - 1) (by omega) (by omega)
          have k9 := number_any _ (L.take (n - 1)) (by have := isBits_extract HU5.out 0 (n - 1); exact this) (by rw [HT.out.1]; omega)
          have k10 := left7_any (st.extract (n - 1) st.size) (L.drop (n - 1)) false (by
            have := isBits_extract HU5.out (n - 1) st.size
            rw [List.take_of_length_le (by rw [List.length_drop, hsz4]; exact Nat.le_refl _)] at this
            exact this) (by rw [List.length_drop]; have := HT.out.2.1; omega) (by rw [List.length_drop]; have := HT.out.2.2; omega)
          have q1 : IntKind.i64.wrap ((n : Int) - 1) = (n : Int) - 1 := wrapI (by omega)
          clear hsz4 hz4
          have k9' : ∀ w, Calls Try.prog 71 #[.string (st.extract 0 (n - 1))] w fun e w' => e = .returned (.int .u64 (numOf (L.take (n - 1)) : Nat)) ∧ w' = w := k9
          clear k9
          generalize numOf (L.take (n - 1)) = P at *
          generalize leftL (L.drop (n - 1)) false = lf at *
          have cl6 : ∀ W, Below w6.heap.size w6 W → W.cell? ⟨w.heap.size, 5, none⟩ = some (.bool false) := fun W hW => (hW.cell (p := ⟨w.heap.size, 5, none⟩) z6).trans f5
          refine wpC_region (fun W => W.cell? ⟨w.heap.size, 5, none⟩ = some (.bool false)) (by kernel_rfl) ?_
          refine wpC_take 0 (v := ?_) rfl (by kernel_rfl) (fun _ _ _ h => h) (by kernel_rfl) ?_ ?_; rotate_left; · (intro wC hC; obtain c1 := hC; go_simp <;> with_reducible rfl)
          refine wpC_take 1 (v := ?_) rfl (by kernel_rfl) (fun _ _ _ h => h) (by kernel_rfl) ?_ ?_; rotate_left; · (intro wC hC; obtain c1 := hC; go_simp <;> with_reducible rfl)
          refine wpC_take 2 (v := ?_) rfl (by kernel_rfl) (fun _ _ _ h => h) (by kernel_rfl) ?_ ?_; rotate_left; · (intro wC hC; obtain c1 := hC; go_simp <;> with_reducible rfl)
          refine wpC_take 3 (v := ?_) rfl (by kernel_rfl) (fun _ _ _ h => h) (by kernel_rfl) ?_ ?_; rotate_left; · (intro wC hC; obtain c1 := hC; go_simp <;> with_reducible rfl)
          refine wpC_take 5 (v := ?_) rfl (by kernel_rfl) (fun _ _ _ h => h) (by kernel_rfl) ?_ ?_; rotate_left; · (intro wC hC; obtain c1 := hC; go_simp <;> with_reducible rfl)
          refine wpC_take 6 (v := ?_) rfl (by kernel_rfl) (fun _ _ _ h => h) (by kernel_rfl) ?_ ?_; rotate_left; · (intro wC hC; obtain c1 := hC; go_simp <;> with_reducible rfl)
          refine wpC_take 7 (v := ?_) rfl (by kernel_rfl) (fun _ _ _ h => h) (by kernel_rfl) ?_ ?_; rotate_left; · (intro wC hC; obtain c1 := hC; go_simp <;> with_reducible rfl)
          refine wpC_take 8 (v := ?_) rfl (by kernel_rfl) (fun _ _ _ h => h) (by kernel_rfl) ?_ ?_; rotate_left; · (intro wC hC; obtain c1 := hC; go_simp <;> with_reducible rfl)
          refine wpC_take 9 (v := ?_) rfl (by kernel_rfl) (fun _ _ _ h => h) (by kernel_rfl) ?_ ?_; rotate_left; · (intro wC hC; obtain c1 := hC; go_simp <;> with_reducible rfl)
          refine wpC_take 10 (v := ?_) rfl (by kernel_rfl) (fun _ _ _ h => h) (by kernel_rfl) ?_ ?_; rotate_left; · (intro wC hC; obtain c1 := hC; go_simp <;> with_reducible rfl)
          refine wpC_step 4 rfl (by kernel_rfl) (by kernel_rfl) (cl6 _ (cdrew (Below.refl _ _))) (fun K hK => ?_)
          go_simp
          go_wp2_with ((go_at_call 71; refine (k9' _).mono ?_; rintro e w8 ⟨rfl, hw8⟩; rw [hw8]; clear hw8 w8))
          try (refine hK _ _ ?_; clear hK K)
          refine wpC_step 11 rfl (by kernel_rfl) (by kernel_rfl) (cl6 _ (cdrew (Below.refl _ _))) (fun K hK => ?_)
          go_simp
          go_wp2_with ((go_at_call 113; refine (k10 _).mono ?_; rintro e w9 ⟨rfl, hb9⟩))
          try (refine hK _ _ ?_; clear hK K)
          have B9 := cthen (cdrew (Below.refl w6.heap.size w6)) hb9
          refine wpC_step 12 rfl (by kernel_rfl) (by kernel_rfl) (cl6 _ B9) (fun K hK => ?_)
          go_simp
          try (refine hK _ _ ?_; clear hK K)
          refine wpC_step 13 rfl (by kernel_rfl) (by kernel_rfl) (cl6 _ B9) (fun K hK => ?_)
          go_simp
          try (refine hK _ _ ?_; clear hK K)
          refine wpC_step 14 rfl (by kernel_rfl) (by kernel_rfl) (cl6 _ B9) (fun K hK => ?_)
          go_simp
          try (refine hK _ _ ?_; clear hK K)
          refine wpC_done (by kernel_rfl) (cl6 _ B9) ?_
          go_wp2_with fail
          go_ret3
          exact hQ.out _ _ ⟨rfl, cthen (cthen (below_drewN HBW.out q5) HB6.out) B9⟩
        · clear hj
          go_wp2_with (go_at_call 112; refine (k5 _).mono ?_; rintro e w6 ⟨u4, rfl, hu4, hb6⟩; have HU4 : Hid _ := isBits_append hu4 HI3.out; have hz4 := isBits_size HU4.out; rw [← HL.out] at hz4; have n6 := (hb6.block w.heap.size z4).trans HN0.out; have f5 := rowcell n6 5; simp only [List.getElem?_toArray, List.getElem?_cons_zero, List.getElem?_cons_succ] at f5; have z6 : w.heap.size < w6.heap.size := (Nat.lt_of_lt_of_le z4 hb6.size); have HB6 : Hid (Below _ _ _) := hb6; have hsz6 : u4.size + dg.size ≤ 9223372036854775807 := (by have := HT.out.2.2; rw [ByteArray.size_append] at hz4; omega); have g6 := (fun wx => run_string_add_sum (P := Try.prog) wx u4 dg hsz6); clear n6 hu4 hb6)
          have hsz4 := isBits_size HU4.out
          rw [← HL.out] at hsz4
          have HU5 : Hid (IsBits (u4 ++ dg) L) := by show IsBits _ _; rw [HL.out]; exact HU4.out
          generalize u4 ++ dg = st at *
          have hst : n ≤ st.size := by rw [hsz4]; have := HT.out.2.1; omega
          have g3 := slice_h (P := Try.prog) (s := st) Try.underlying9 ((n : Int) - 1) (n - 1) (by omega) (by omega)
          have g4 := slice_l (P := Try.prog) (s := st) Try.underlying9 ((n : Int) - 1) (n - 1) (by omega) (by omega)
          have k9 := number_any _ (L.take (n - 1)) (by have := isBits_extract HU5.out 0 (n - 1); exact this) (by rw [HT.out.1]; omega)
          have k10 := left7_any (st.extract (n - 1) st.size) (L.drop (n - 1)) true (by
            have := isBits_extract HU5.out (n - 1) st.size
            rw [List.take_of_length_le (by rw [List.length_drop, hsz4]; exact Nat.le_refl _)] at this
            exact this) (by rw [List.length_drop]; have := HT.out.2.1; omega) (by rw [List.length_drop]; have := HT.out.2.2; omega)
          have q1 : IntKind.i64.wrap ((n : Int) - 1) = (n : Int) - 1 := wrapI (by omega)
          clear hsz4 hz4
          have k9' : ∀ w, Calls Try.prog 71 #[.string (st.extract 0 (n - 1))] w fun e w' => e = .returned (.int .u64 (numOf (L.take (n - 1)) : Nat)) ∧ w' = w := k9
          clear k9
          generalize numOf (L.take (n - 1)) = P at *
          generalize leftL (L.drop (n - 1)) true = lf at *
          have cl6 : ∀ W, Below w6.heap.size w6 W → W.cell? ⟨w.heap.size, 5, none⟩ = some (.bool true) := fun W hW => (hW.cell (p := ⟨w.heap.size, 5, none⟩) z6).trans f5
          refine wpC_region (fun W => W.cell? ⟨w.heap.size, 5, none⟩ = some (.bool true)) (by kernel_rfl) ?_
          refine wpC_take 0 (v := ?_) rfl (by kernel_rfl) (fun _ _ _ h => h) (by kernel_rfl) ?_ ?_; rotate_left; · (intro wC hC; obtain c1 := hC; go_simp <;> with_reducible rfl)
          refine wpC_take 1 (v := ?_) rfl (by kernel_rfl) (fun _ _ _ h => h) (by kernel_rfl) ?_ ?_; rotate_left; · (intro wC hC; obtain c1 := hC; go_simp <;> with_reducible rfl)
          refine wpC_take 2 (v := ?_) rfl (by kernel_rfl) (fun _ _ _ h => h) (by kernel_rfl) ?_ ?_; rotate_left; · (intro wC hC; obtain c1 := hC; go_simp <;> with_reducible rfl)
          refine wpC_take 3 (v := ?_) rfl (by kernel_rfl) (fun _ _ _ h => h) (by kernel_rfl) ?_ ?_; rotate_left; · (intro wC hC; obtain c1 := hC; go_simp <;> with_reducible rfl)
          refine wpC_take 5 (v := ?_) rfl (by kernel_rfl) (fun _ _ _ h => h) (by kernel_rfl) ?_ ?_; rotate_left; · (intro wC hC; obtain c1 := hC; go_simp <;> with_reducible rfl)
          refine wpC_take 6 (v := ?_) rfl (by kernel_rfl) (fun _ _ _ h => h) (by kernel_rfl) ?_ ?_; rotate_left; · (intro wC hC; obtain c1 := hC; go_simp <;> with_reducible rfl)
          refine wpC_take 7 (v := ?_) rfl (by kernel_rfl) (fun _ _ _ h => h) (by kernel_rfl) ?_ ?_; rotate_left; · (intro wC hC; obtain c1 := hC; go_simp <;> with_reducible rfl)
          refine wpC_take 8 (v := ?_) rfl (by kernel_rfl) (fun _ _ _ h => h) (by kernel_rfl) ?_ ?_; rotate_left; · (intro wC hC; obtain c1 := hC; go_simp <;> with_reducible rfl)
          refine wpC_take 9 (v := ?_) rfl (by kernel_rfl) (fun _ _ _ h => h) (by kernel_rfl) ?_ ?_; rotate_left; · (intro wC hC; obtain c1 := hC; go_simp <;> with_reducible rfl)
          refine wpC_take 10 (v := ?_) rfl (by kernel_rfl) (fun _ _ _ h => h) (by kernel_rfl) ?_ ?_; rotate_left; · (intro wC hC; obtain c1 := hC; go_simp <;> with_reducible rfl)
          refine wpC_step 4 rfl (by kernel_rfl) (by kernel_rfl) (cl6 _ (cdrew (Below.refl _ _))) (fun K hK => ?_)
          go_simp
          go_wp2_with ((go_at_call 71; refine (k9' _).mono ?_; rintro e w8 ⟨rfl, hw8⟩; rw [hw8]; clear hw8 w8))
          try (refine hK _ _ ?_; clear hK K)
          refine wpC_step 11 rfl (by kernel_rfl) (by kernel_rfl) (cl6 _ (cdrew (Below.refl _ _))) (fun K hK => ?_)
          go_simp
          go_wp2_with ((go_at_call 113; refine (k10 _).mono ?_; rintro e w9 ⟨rfl, hb9⟩))
          try (refine hK _ _ ?_; clear hK K)
          have B9 := cthen (cdrew (Below.refl w6.heap.size w6)) hb9
          refine wpC_step 12 rfl (by kernel_rfl) (by kernel_rfl) (cl6 _ B9) (fun K hK => ?_)
          go_simp
          try (refine hK _ _ ?_; clear hK K)
          refine wpC_step 13 rfl (by kernel_rfl) (by kernel_rfl) (cl6 _ B9) (fun K hK => ?_)
          go_simp
          try (refine hK _ _ ?_; clear hK K)
          refine wpC_step 14 rfl (by kernel_rfl) (by kernel_rfl) (cl6 _ B9) (fun K hK => ?_)
          go_simp
          try (refine hK _ _ ?_; clear hK K)
          refine wpC_done (by kernel_rfl) (cl6 _ B9) ?_
          go_wp2_with fail
          go_ret3
          exact hQ.out _ _ ⟨rfl, cthen (cthen HBW.out HB6.out) B9⟩
      · have e2 : (s == -(4 * (n : Int) - 8)) = false := beq_eq_false_iff_ne.2 (by omega)
        clear cl c2
        cases rest
        · go_wp2_with (first
            | (go_at_call 111; refine (k8 _).mono ?_; rintro e w5 ⟨rfl, q5, rfl⟩)
            | (go_at_call 112; refine (k5 _).mono ?_; rintro e w6 ⟨u4, rfl, hu4, hb6⟩; have HU4 : Hid _ := isBits_append hu4 HI3.out; have hz4 := isBits_size HU4.out; rw [← HL.out] at hz4; have n6 := (hb6.block w.heap.size z4).trans HN0.out; have f5 := rowcell n6 5; simp only [List.getElem?_toArray, List.getElem?_cons_zero, List.getElem?_cons_succ] at f5; have z6 : w.heap.size < w6.heap.size := (Nat.lt_of_lt_of_le z4 hb6.size); have HB6 : Hid (Below _ _ _) := hb6; have hsz6 : u4.size + dg.size ≤ 9223372036854775807 := (by have := HT.out.2.2; rw [ByteArray.size_append] at hz4; omega); have g6 := (fun wx => run_string_add_sum (P := Try.prog) wx u4 dg hsz6); clear n6 hu4 hb6))
          have hsz4 := isBits_size HU4.out
          rw [← HL.out] at hsz4
          have HU5 : Hid (IsBits (u4 ++ dg) L) := by show IsBits _ _; rw [HL.out]; exact HU4.out
          generalize u4 ++ dg = st at *
          have hst : n ≤ st.size := by rw [hsz4]; have := HT.out.2.1; omega
          have g3 := slice_h (P := Try.prog) (s := st) Try.underlying9 ((n : Int) - 1) (n - 1) (by omega) (by omega)
          have g4 := slice_l (P := Try.prog) (s := st) Try.underlying9 ((n : Int) - 1) (n - 1) (by omega) (by omega)
          have k9 := number_any _ (L.take (n - 1)) (by have := isBits_extract HU5.out 0 (n - 1); exact this) (by rw [HT.out.1]; omega)
          have k10 := left7_any (st.extract (n - 1) st.size) (L.drop (n - 1)) false (by
            have := isBits_extract HU5.out (n - 1) st.size
            rw [List.take_of_length_le (by rw [List.length_drop, hsz4]; exact Nat.le_refl _)] at this
            exact this) (by rw [List.length_drop]; have := HT.out.2.1; omega) (by rw [List.length_drop]; have := HT.out.2.2; omega)
          have q1 : IntKind.i64.wrap ((n : Int) - 1) = (n : Int) - 1 := wrapI (by omega)
          clear hsz4 hz4
          have k9' : ∀ w, Calls Try.prog 71 #[.string (st.extract 0 (n - 1))] w fun e w' => e = .returned (.int .u64 (numOf (L.take (n - 1)) : Nat)) ∧ w' = w := k9
          clear k9
          generalize numOf (L.take (n - 1)) = P at *
          generalize leftL (L.drop (n - 1)) false = lf at *
          have cl6 : ∀ W, Below w6.heap.size w6 W → W.cell? ⟨w.heap.size, 5, none⟩ = some (.bool false) := fun W hW => (hW.cell (p := ⟨w.heap.size, 5, none⟩) z6).trans f5
          refine wpC_region (fun W => W.cell? ⟨w.heap.size, 5, none⟩ = some (.bool false)) (by kernel_rfl) ?_
          refine wpC_take 0 (v := ?_) rfl (by kernel_rfl) (fun _ _ _ h => h) (by kernel_rfl) ?_ ?_; rotate_left; · (intro wC hC; obtain c1 := hC; go_simp <;> with_reducible rfl)
          refine wpC_take 1 (v := ?_) rfl (by kernel_rfl) (fun _ _ _ h => h) (by kernel_rfl) ?_ ?_; rotate_left; · (intro wC hC; obtain c1 := hC; go_simp <;> with_reducible rfl)
          refine wpC_take 2 (v := ?_) rfl (by kernel_rfl) (fun _ _ _ h => h) (by kernel_rfl) ?_ ?_; rotate_left; · (intro wC hC; obtain c1 := hC; go_simp <;> with_reducible rfl)
          refine wpC_take 3 (v := ?_) rfl (by kernel_rfl) (fun _ _ _ h => h) (by kernel_rfl) ?_ ?_; rotate_left; · (intro wC hC; obtain c1 := hC; go_simp <;> with_reducible rfl)
          refine wpC_take 5 (v := ?_) rfl (by kernel_rfl) (fun _ _ _ h => h) (by kernel_rfl) ?_ ?_; rotate_left; · (intro wC hC; obtain c1 := hC; go_simp <;> with_reducible rfl)
          refine wpC_take 6 (v := ?_) rfl (by kernel_rfl) (fun _ _ _ h => h) (by kernel_rfl) ?_ ?_; rotate_left; · (intro wC hC; obtain c1 := hC; go_simp <;> with_reducible rfl)
          refine wpC_take 7 (v := ?_) rfl (by kernel_rfl) (fun _ _ _ h => h) (by kernel_rfl) ?_ ?_; rotate_left; · (intro wC hC; obtain c1 := hC; go_simp <;> with_reducible rfl)
          refine wpC_take 8 (v := ?_) rfl (by kernel_rfl) (fun _ _ _ h => h) (by kernel_rfl) ?_ ?_; rotate_left; · (intro wC hC; obtain c1 := hC; go_simp <;> with_reducible rfl)
          refine wpC_take 9 (v := ?_) rfl (by kernel_rfl) (fun _ _ _ h => h) (by kernel_rfl) ?_ ?_; rotate_left; · (intro wC hC; obtain c1 := hC; go_simp <;> with_reducible rfl)
          refine wpC_take 10 (v := ?_) rfl (by kernel_rfl) (fun _ _ _ h => h) (by kernel_rfl) ?_ ?_; rotate_left; · (intro wC hC; obtain c1 := hC; go_simp <;> with_reducible rfl)
          refine wpC_step 4 rfl (by kernel_rfl) (by kernel_rfl) (cl6 _ (cdrew (Below.refl _ _))) (fun K hK => ?_)
          go_simp
          go_wp2_with ((go_at_call 71; refine (k9' _).mono ?_; rintro e w8 ⟨rfl, hw8⟩; rw [hw8]; clear hw8 w8))
          try (refine hK _ _ ?_; clear hK K)
          refine wpC_step 11 rfl (by kernel_rfl) (by kernel_rfl) (cl6 _ (cdrew (Below.refl _ _))) (fun K hK => ?_)
          go_simp
          go_wp2_with ((go_at_call 113; refine (k10 _).mono ?_; rintro e w9 ⟨rfl, hb9⟩))
          try (refine hK _ _ ?_; clear hK K)
          have B9 := cthen (cdrew (Below.refl w6.heap.size w6)) hb9
          refine wpC_step 12 rfl (by kernel_rfl) (by kernel_rfl) (cl6 _ B9) (fun K hK => ?_)
          go_simp
          try (refine hK _ _ ?_; clear hK K)
          refine wpC_step 13 rfl (by kernel_rfl) (by kernel_rfl) (cl6 _ B9) (fun K hK => ?_)
          go_simp
          try (refine hK _ _ ?_; clear hK K)
          refine wpC_step 14 rfl (by kernel_rfl) (by kernel_rfl) (cl6 _ B9) (fun K hK => ?_)
          go_simp
          try (refine hK _ _ ?_; clear hK K)
          refine wpC_done (by kernel_rfl) (cl6 _ B9) ?_
          go_wp2_with fail
          go_ret3
          exact hQ.out _ _ ⟨rfl, cthen (cthen (below_drewN HBW.out q5) HB6.out) B9⟩
        · go_wp2_with (go_at_call 112; refine (k5 _).mono ?_; rintro e w6 ⟨u4, rfl, hu4, hb6⟩; have HU4 : Hid _ := isBits_append hu4 HI3.out; have hz4 := isBits_size HU4.out; rw [← HL.out] at hz4; have n6 := (hb6.block w.heap.size z4).trans HN0.out; have f5 := rowcell n6 5; simp only [List.getElem?_toArray, List.getElem?_cons_zero, List.getElem?_cons_succ] at f5; have z6 : w.heap.size < w6.heap.size := (Nat.lt_of_lt_of_le z4 hb6.size); have HB6 : Hid (Below _ _ _) := hb6; have hsz6 : u4.size + dg.size ≤ 9223372036854775807 := (by have := HT.out.2.2; rw [ByteArray.size_append] at hz4; omega); have g6 := (fun wx => run_string_add_sum (P := Try.prog) wx u4 dg hsz6); clear n6 hu4 hb6)
          have hsz4 := isBits_size HU4.out
          rw [← HL.out] at hsz4
          have HU5 : Hid (IsBits (u4 ++ dg) L) := by show IsBits _ _; rw [HL.out]; exact HU4.out
          generalize u4 ++ dg = st at *
          have hst : n ≤ st.size := by rw [hsz4]; have := HT.out.2.1; omega
          have g3 := slice_h (P := Try.prog) (s := st) Try.underlying9 ((n : Int) - 1) (n - 1) (by omega) (by omega)
          have g4 := slice_l (P := Try.prog) (s := st) Try.underlying9 ((n : Int) - 1) (n - 1) (by omega) (by omega)
          have k9 := number_any _ (L.take (n - 1)) (by have := isBits_extract HU5.out 0 (n - 1); exact this) (by rw [HT.out.1]; omega)
          have k10 := left7_any (st.extract (n - 1) st.size) (L.drop (n - 1)) true (by
            have := isBits_extract HU5.out (n - 1) st.size
            rw [List.take_of_length_le (by rw [List.length_drop, hsz4]; exact Nat.le_refl _)] at this
            exact this) (by rw [List.length_drop]; have := HT.out.2.1; omega) (by rw [List.length_drop]; have := HT.out.2.2; omega)
          have q1 : IntKind.i64.wrap ((n : Int) - 1) = (n : Int) - 1 := wrapI (by omega)
          clear hsz4 hz4
          have k9' : ∀ w, Calls Try.prog 71 #[.string (st.extract 0 (n - 1))] w fun e w' => e = .returned (.int .u64 (numOf (L.take (n - 1)) : Nat)) ∧ w' = w := k9
          clear k9
          generalize numOf (L.take (n - 1)) = P at *
          generalize leftL (L.drop (n - 1)) true = lf at *
          have cl6 : ∀ W, Below w6.heap.size w6 W → W.cell? ⟨w.heap.size, 5, none⟩ = some (.bool true) := fun W hW => (hW.cell (p := ⟨w.heap.size, 5, none⟩) z6).trans f5
          refine wpC_region (fun W => W.cell? ⟨w.heap.size, 5, none⟩ = some (.bool true)) (by kernel_rfl) ?_
          refine wpC_take 0 (v := ?_) rfl (by kernel_rfl) (fun _ _ _ h => h) (by kernel_rfl) ?_ ?_; rotate_left; · (intro wC hC; obtain c1 := hC; go_simp <;> with_reducible rfl)
          refine wpC_take 1 (v := ?_) rfl (by kernel_rfl) (fun _ _ _ h => h) (by kernel_rfl) ?_ ?_; rotate_left; · (intro wC hC; obtain c1 := hC; go_simp <;> with_reducible rfl)
          refine wpC_take 2 (v := ?_) rfl (by kernel_rfl) (fun _ _ _ h => h) (by kernel_rfl) ?_ ?_; rotate_left; · (intro wC hC; obtain c1 := hC; go_simp <;> with_reducible rfl)
          refine wpC_take 3 (v := ?_) rfl (by kernel_rfl) (fun _ _ _ h => h) (by kernel_rfl) ?_ ?_; rotate_left; · (intro wC hC; obtain c1 := hC; go_simp <;> with_reducible rfl)
          refine wpC_take 5 (v := ?_) rfl (by kernel_rfl) (fun _ _ _ h => h) (by kernel_rfl) ?_ ?_; rotate_left; · (intro wC hC; obtain c1 := hC; go_simp <;> with_reducible rfl)
          refine wpC_take 6 (v := ?_) rfl (by kernel_rfl) (fun _ _ _ h => h) (by kernel_rfl) ?_ ?_; rotate_left; · (intro wC hC; obtain c1 := hC; go_simp <;> with_reducible rfl)
          refine wpC_take 7 (v := ?_) rfl (by kernel_rfl) (fun _ _ _ h => h) (by kernel_rfl) ?_ ?_; rotate_left; · (intro wC hC; obtain c1 := hC; go_simp <;> with_reducible rfl)
          refine wpC_take 8 (v := ?_) rfl (by kernel_rfl) (fun _ _ _ h => h) (by kernel_rfl) ?_ ?_; rotate_left; · (intro wC hC; obtain c1 := hC; go_simp <;> with_reducible rfl)
          refine wpC_take 9 (v := ?_) rfl (by kernel_rfl) (fun _ _ _ h => h) (by kernel_rfl) ?_ ?_; rotate_left; · (intro wC hC; obtain c1 := hC; go_simp <;> with_reducible rfl)
          refine wpC_take 10 (v := ?_) rfl (by kernel_rfl) (fun _ _ _ h => h) (by kernel_rfl) ?_ ?_; rotate_left; · (intro wC hC; obtain c1 := hC; go_simp <;> with_reducible rfl)
          refine wpC_step 4 rfl (by kernel_rfl) (by kernel_rfl) (cl6 _ (cdrew (Below.refl _ _))) (fun K hK => ?_)
          go_simp
          go_wp2_with ((go_at_call 71; refine (k9' _).mono ?_; rintro e w8 ⟨rfl, hw8⟩; rw [hw8]; clear hw8 w8))
          try (refine hK _ _ ?_; clear hK K)
          refine wpC_step 11 rfl (by kernel_rfl) (by kernel_rfl) (cl6 _ (cdrew (Below.refl _ _))) (fun K hK => ?_)
          go_simp
          go_wp2_with ((go_at_call 113; refine (k10 _).mono ?_; rintro e w9 ⟨rfl, hb9⟩))
          try (refine hK _ _ ?_; clear hK K)
          have B9 := cthen (cdrew (Below.refl w6.heap.size w6)) hb9
          refine wpC_step 12 rfl (by kernel_rfl) (by kernel_rfl) (cl6 _ B9) (fun K hK => ?_)
          go_simp
          try (refine hK _ _ ?_; clear hK K)
          refine wpC_step 13 rfl (by kernel_rfl) (by kernel_rfl) (cl6 _ B9) (fun K hK => ?_)
          go_simp
          try (refine hK _ _ ?_; clear hK K)
          refine wpC_step 14 rfl (by kernel_rfl) (by kernel_rfl) (cl6 _ B9) (fun K hK => ?_)
          go_simp
          try (refine hK _ _ ?_; clear hK K)
          refine wpC_done (by kernel_rfl) (cl6 _ B9) ?_
          go_wp2_with fail
          go_ret3
          exact hQ.out _ _ ⟨rfl, cthen (cthen HBW.out HB6.out) B9⟩
end Go.Proofs.Ytllahgcifichbaa

namespace Go.Proofs.Ytllahgcifichbaa
open Go.ChangeShapes Go.WideShapes Go.ChangeAt Go.RowKit
set_option linter.unusedVariables false
set_option linter.unusedSimpArgs false
set_option maxRecDepth 100000

/-! ### the document's Round -/
theorem rounds7_err (n : Int) (k : Int) (neg : Bool) (s : Int) (hi lo : Nat) (rest : Bool) (c : Int) (hc : c ≠ 0) (w : World)
    (k1 : ∀ w, Calls Try.prog 108 #[.int .i64 n, exV k neg s hi lo rest] w fun e w' => e = .returned (.tuple #[.int .u64 0, .int .i64 0, .int .i64 c]) ∧ Below w.heap.size w w') :
    Calls Try.prog 90 #[.int .i64 n, exV k neg s hi lo rest] w fun e w' => e = .returned (.tuple #[.int .u64 0, .int .i64 c]) ∧ Below w.heap.size w w' := by
  unfold exV at *
  have hd : (c == 0) = false := beq_eq_false_iff_ne.2 hc
  clear hc
  refine cps fun Q hQ => ?_
  go_enter Try.func90, Try.ntmps90
  go_wp2_with (go_at_call 108; refine (k1 _).mono ?_; rintro e w2 ⟨rfl, hb2⟩)
  exact hQ.out _ _ ⟨rfl, cthen (cmore (Below.refl _ _) _) hb2⟩
theorem rounds7_plain (n : Int) (k : Int) (P : Nat) (w : World)
    (k1 : ∀ w, Calls Try.prog 108 #[.int .i64 n, exV k false 0 0 0 false] w fun e w' => e = .returned (.tuple #[.int .u64 P, .int .i64 0, .int .i64 0]) ∧ Below w.heap.size w w') :
    Calls Try.prog 90 #[.int .i64 n, exV k false 0 0 0 false] w fun e w' => e = .returned (.tuple #[.int .u64 P, .int .i64 0]) ∧ Below w.heap.size w w' := by
  unfold exV at *
  refine cps fun Q hQ => ?_
  go_enter Try.func90, Try.ntmps90
  go_wp2_with (go_at_call 108; refine (k1 _).mono ?_; rintro e w2 ⟨rfl, hb2⟩; have hc := fun b o h => hb2.cell (p := ⟨b, o, none⟩) h; have z1 : w.heap.size < w2.heap.size := (by have := hb2.size; simp at this; omega))
  exact hQ.out _ _ ⟨rfl, cthen (cmore (Below.refl _ _) _) hb2⟩
def patR (n : Nat) (neg : Bool) (R : Nat) : Nat := if neg then 2 ^ n - R else R
set_option maxHeartbeats 2000000 in
theorem rounds7_real (n : Nat) (neg : Bool) (s : Int) (hi lo : Nat) (rest : Bool) (hn : Wd n) (hs : soundX 1 neg s hi lo rest = true) (h : WordsX hi lo) (w : World) :
    Calls Try.prog 90 #[.int .i64 n, exV 1 neg s hi lo rest] w fun e w' => e = .returned (.tuple #[.int .u64 (patR n neg (rndX n s hi lo rest)), .int .i64 0]) ∧ Below w.heap.size w w' := by
  have k1 := cut7_real n neg s hi lo rest hn hs h
  obtain ⟨r1, r2⟩ := rnd_range n s hi lo rest hn h
  obtain ⟨H, e1, e2, e3, _⟩ := wd_pows hn
  have hw := wd_le hn
  have hH : H ≤ 2 ^ 63 := by rw [← e2]; exact Nat.pow_le_pow_right (by decide) (by omega)
  have k2 := neg6_any n (rndX n s hi lo rest) hn (by omega)
  have hneg : minusU (rndX n s hi lo rest) % 2 ^ n = 2 ^ n - rndX n s hi lo rest := by
    rw [minusU_mod n _ hn (by omega), Nat.mod_eq_of_lt (a := rndX n s hi lo rest) (by omega), Nat.mod_eq_of_lt (by omega)]
  rw [hneg] at k2
  have HR : Hid (rndX n s hi lo rest = roundP (cutX n s hi lo rest).1 (cutX n s hi lo rest).2) := rfl
  have hle := (roundP_le (cutX n s hi lo rest).1 (cutX n s hi lo rest).2).1
  have hle2 : (cutX n s hi lo rest).1 ≤ rndX n s hi lo rest := hle
  unfold patR
  generalize 2 ^ n - rndX n s hi lo rest = M at *
  generalize (cutX n s hi lo rest).1 = P at *
  generalize (cutX n s hi lo rest).2 = l at *
  generalize rndX n s hi lo rest = R at *
  unfold exV at *
  rw [e2] at r2
  have hR63 : R < 2 ^ 63 := by omega
  clear hn hs h hneg e1 e2 e3 hle r2 hH
  have hup : (l = 3 ∨ (l = 2 ∧ P % 2 = 1)) → P + 1 = R := fun c => by rw [HR.out]; unfold roundP; rw [if_pos c]
  have hst : ¬ (l = 3 ∨ (l = 2 ∧ P % 2 = 1)) → P = R := fun c => by rw [HR.out]; unfold roundP; rw [if_neg c]
  have ew : IntKind.u64.wrap ((P : Int) + 1) = (P : Int) + 1 := by rw [IntKind.wrap_u64]; omega
  refine cps fun Q hQ => ?_
  by_cases c : l = 3 ∨ (l = 2 ∧ P % 2 = 1)
  · have hP := hup c
    have hc2 : ((P : Int) + 1) = (R : Int) := by omega
    have ew2 : IntKind.u64.wrap ((P : Int) + 1) = (R : Int) := by rw [ew, hc2]
    clear hup hst hP hc2 ew
    rcases c with rfl | ⟨rfl, c⟩
    · cases neg
      · go_enter Try.func90, Try.ntmps90
        go_wp2_with (first
          | (go_at_call 108; refine (k1 _).mono ?_; rintro e w2 ⟨rfl, hb2⟩; have a1 := ((hb2.cell (p := ⟨w.heap.size, 1, none⟩) (by simp)).trans (rowcell (rownew w _ _) 1)); simp only [List.getElem?_toArray, List.getElem?_cons_zero, List.getElem?_cons_succ] at a1; have z1 : w.heap.size < w2.heap.size := (by have := hb2.size; simp at this; omega)))
        exact hQ.out _ _ ⟨rfl, cthen (cmore (Below.refl _ _) _) hb2⟩
      · go_enter Try.func90, Try.ntmps90
        go_wp2_with (first
          | (go_at_call 108; refine (k1 _).mono ?_; rintro e w2 ⟨rfl, hb2⟩; have a1 := ((hb2.cell (p := ⟨w.heap.size, 1, none⟩) (by simp)).trans (rowcell (rownew w _ _) 1)); simp only [List.getElem?_toArray, List.getElem?_cons_zero, List.getElem?_cons_succ] at a1; have z1 : w.heap.size < w2.heap.size := (by have := hb2.size; simp at this; omega))
          | (go_at_call 43; refine (k2 _).mono ?_; rintro e w4 ⟨rfl, hb4⟩))
        exact hQ.out _ _ ⟨rfl, cthen (cthen (cmore (Below.refl _ _) _) hb2) hb4⟩
    · have m1 : ((P : Int) % 2 == 1) = true := beq_iff_eq.2 (by omega)
      have m2 : (Int.tmod (P : Int) 2) = (P : Int) % 2 := Int.tmod_eq_emod_of_nonneg (by omega)
      have m3 : (P : Int) % 2 = 1 := by omega
      clear c
      cases neg
      · go_enter Try.func90, Try.ntmps90
        go_wp2_with (first
          | (go_at_call 108; refine (k1 _).mono ?_; rintro e w2 ⟨rfl, hb2⟩; have a1 := ((hb2.cell (p := ⟨w.heap.size, 1, none⟩) (by simp)).trans (rowcell (rownew w _ _) 1)); simp only [List.getElem?_toArray, List.getElem?_cons_zero, List.getElem?_cons_succ] at a1; have z1 : w.heap.size < w2.heap.size := (by have := hb2.size; simp at this; omega)))
        exact hQ.out _ _ ⟨rfl, cthen (cmore (Below.refl _ _) _) hb2⟩
      · go_enter Try.func90, Try.ntmps90
        go_wp2_with (first
          | (go_at_call 108; refine (k1 _).mono ?_; rintro e w2 ⟨rfl, hb2⟩; have a1 := ((hb2.cell (p := ⟨w.heap.size, 1, none⟩) (by simp)).trans (rowcell (rownew w _ _) 1)); simp only [List.getElem?_toArray, List.getElem?_cons_zero, List.getElem?_cons_succ] at a1; have z1 : w.heap.size < w2.heap.size := (by have := hb2.size; simp at this; omega))
          | (go_at_call 43; refine (k2 _).mono ?_; rintro e w4 ⟨rfl, hb4⟩))
        exact hQ.out _ _ ⟨rfl, cthen (cthen (cmore (Below.refl _ _) _) hb2) hb4⟩
  · have hP := hst c
    subst hP
    clear hup hst
    have d3 : ((l : Int) == 3) = false := beq_eq_false_iff_ne.2 (by omega)
    by_cases h2 : l = 2
    · subst h2
      have m3 : (P : Int) % 2 = 0 := by omega
      have m2 : (Int.tmod (P : Int) 2) = (P : Int) % 2 := Int.tmod_eq_emod_of_nonneg (by omega)
      clear c
      cases neg
      · go_enter Try.func90, Try.ntmps90
        go_wp2_with (first
          | (go_at_call 108; refine (k1 _).mono ?_; rintro e w2 ⟨rfl, hb2⟩; have a1 := ((hb2.cell (p := ⟨w.heap.size, 1, none⟩) (by simp)).trans (rowcell (rownew w _ _) 1)); simp only [List.getElem?_toArray, List.getElem?_cons_zero, List.getElem?_cons_succ] at a1; have z1 : w.heap.size < w2.heap.size := (by have := hb2.size; simp at this; omega)))
        exact hQ.out _ _ ⟨rfl, cthen (cmore (Below.refl _ _) _) hb2⟩
      · go_enter Try.func90, Try.ntmps90
        go_wp2_with (first
          | (go_at_call 108; refine (k1 _).mono ?_; rintro e w2 ⟨rfl, hb2⟩; have a1 := ((hb2.cell (p := ⟨w.heap.size, 1, none⟩) (by simp)).trans (rowcell (rownew w _ _) 1)); simp only [List.getElem?_toArray, List.getElem?_cons_zero, List.getElem?_cons_succ] at a1; have z1 : w.heap.size < w2.heap.size := (by have := hb2.size; simp at this; omega))
          | (go_at_call 43; refine (k2 _).mono ?_; rintro e w4 ⟨rfl, hb4⟩))
        exact hQ.out _ _ ⟨rfl, cthen (cthen (cmore (Below.refl _ _) _) hb2) hb4⟩
    · have d2 : ((l : Int) == 2) = false := beq_eq_false_iff_ne.2 (by omega)
      clear c h2
      cases neg
      · go_enter Try.func90, Try.ntmps90
        go_wp2_with (first
          | (go_at_call 108; refine (k1 _).mono ?_; rintro e w2 ⟨rfl, hb2⟩; have a1 := ((hb2.cell (p := ⟨w.heap.size, 1, none⟩) (by simp)).trans (rowcell (rownew w _ _) 1)); simp only [List.getElem?_toArray, List.getElem?_cons_zero, List.getElem?_cons_succ] at a1; have z1 : w.heap.size < w2.heap.size := (by have := hb2.size; simp at this; omega)))
        exact hQ.out _ _ ⟨rfl, cthen (cmore (Below.refl _ _) _) hb2⟩
      · go_enter Try.func90, Try.ntmps90
        go_wp2_with (first
          | (go_at_call 108; refine (k1 _).mono ?_; rintro e w2 ⟨rfl, hb2⟩; have a1 := ((hb2.cell (p := ⟨w.heap.size, 1, none⟩) (by simp)).trans (rowcell (rownew w _ _) 1)); simp only [List.getElem?_toArray, List.getElem?_cons_zero, List.getElem?_cons_succ] at a1; have z1 : w.heap.size < w2.heap.size := (by have := hb2.size; simp at this; omega))
          | (go_at_call 43; refine (k2 _).mono ?_; rintro e w4 ⟨rfl, hb4⟩))
        exact hQ.out _ _ ⟨rfl, cthen (cthen (cmore (Below.refl _ _) _) hb2) hb4⟩
end Go.Proofs.Ytllahgcifichbaa

namespace Go.Proofs.Ytllahgcifichbaa
open Go.ChangeShapes Go.WideShapes Go.ChangeAt Go.RowKit
set_option linter.unusedVariables false
set_option linter.unusedSimpArgs false
set_option maxRecDepth 100000

/-! ### the document's Of -/
theorem of7_bad (k : Int) (neg : Bool) (s : Int) (f : Nat) (hs : soundN k neg s f = false) (w : World) :
    Calls Try.prog 18 #[numV k neg s f] w fun e w' => e = .returned (.tuple #[exV 0 false 0 0 0 false, .int .i64 1]) ∧ Below w.heap.size w w' := by
  have k2 := sound6_any k neg s f
  rw [hs] at k2
  unfold numV exV at *
  clear hs
  refine cps fun Q hQ => ?_
  go_enter Try.func18, Try.ntmps18
  go_wp2_with (go_at_call 40; refine (k2 _).mono ?_; rintro e w2 ⟨rfl, hb2⟩; have RX := (hb2.block w.heap.size (by simp; omega)).trans ((Below.heap_alloc (w.alloc _) _ _ (by simp)).trans (rownew w _ _)); have RR := (hb2.block (w.heap.size + 1) (by simp)).trans (rownew' _ _ _ _ (by simp)); have x0 := rowcell RX 0; have x1 := rowcell RX 1; have x2 := rowcell RX 2; have x3 := rowcell RX 3; have xf := rowfree RX; simp only [List.getElem?_toArray, List.getElem?_cons_zero, List.getElem?_cons_succ] at x0 x1 x2 x3; have r0 := rowcell RR 0; have r1 := rowcell RR 1; have r2 := rowcell RR 2; have r3 := rowcell RR 3; have r4 := rowcell RR 4; have r5 := rowcell RR 5; have rf := rowfree RR; simp only [List.getElem?_toArray, List.getElem?_cons_zero, List.getElem?_cons_succ] at r0 r1 r2 r3 r4 r5; have HB2 : Hid (Below _ _ _) := cthen (cmore (cmore (Below.refl _ _) _) _) hb2; clear hb2 RX RR)
  refine bodyPost_ret (v := .tuple #[.agg #[.int .i64 0, .bool false, .int .i64 0, .int .u64 0, .int .u64 0, .bool false], .int .i64 1]) (by simp [results, Try.results18, go_sem, r0, r1, r2, r3, r4, r5]) rfl (hQ.out _ _ ⟨rfl, ?_⟩)
  have hle : w.heap.size ≤ w.heap.size + 1 := by omega
  exact cset (cset (cset (cset (cset (cset HB2.out hle _ _) hle _ _) hle _ _) hle _ _) hle _ _) hle _ _
theorem of7_ok (k : Int) (neg : Bool) (s : Int) (f : Nat) (hs : soundN k neg s f = true) (w : World) :
    Calls Try.prog 18 #[numV k neg s f] w fun e w' => e = .returned (.tuple #[exV k neg s f 0 false, .int .i64 0]) ∧ Below w.heap.size w w' := by
  have k2 := sound6_any k neg s f
  rw [hs] at k2
  unfold numV exV at *
  clear hs
  refine cps fun Q hQ => ?_
  go_enter Try.func18, Try.ntmps18
  go_wp2_with (go_at_call 40; refine (k2 _).mono ?_; rintro e w2 ⟨rfl, hb2⟩; have RX := (hb2.block w.heap.size (by simp; omega)).trans ((Below.heap_alloc (w.alloc _) _ _ (by simp)).trans (rownew w _ _)); have RR := (hb2.block (w.heap.size + 1) (by simp)).trans (rownew' _ _ _ _ (by simp)); have x0 := rowcell RX 0; have x1 := rowcell RX 1; have x2 := rowcell RX 2; have x3 := rowcell RX 3; have xf := rowfree RX; simp only [List.getElem?_toArray, List.getElem?_cons_zero, List.getElem?_cons_succ] at x0 x1 x2 x3; have r0 := rowcell RR 0; have r1 := rowcell RR 1; have r2 := rowcell RR 2; have r3 := rowcell RR 3; have r4 := rowcell RR 4; have r5 := rowcell RR 5; have rf := rowfree RR; simp only [List.getElem?_toArray, List.getElem?_cons_zero, List.getElem?_cons_succ] at r0 r1 r2 r3 r4 r5; have HB2 : Hid (Below _ _ _) := cthen (cmore (cmore (Below.refl _ _) _) _) hb2; clear hb2 RX RR)
  refine bodyPost_ret (v := .tuple #[.agg #[.int .i64 k, .bool neg, .int .i64 s, .int .u64 f, .int .u64 0, .bool false], .int .i64 0]) (by simp [results, Try.results18, go_sem, r0, r1, r2, r3, r4, r5]) rfl (hQ.out _ _ ⟨rfl, ?_⟩)
  have hle : w.heap.size ≤ w.heap.size + 1 := by omega
  exact cset (cset (cset (cset (cset (cset HB2.out hle _ _) hle _ _) hle _ _) hle _ _) hle _ _) hle _ _
end Go.Proofs.Ytllahgcifichbaa

namespace Go.Proofs.Ytllahgcifichbaa
open Go.ChangeShapes Go.WideShapes Go.ChangeAt Go.RowKit
set_option linter.unusedVariables false
set_option linter.unusedSimpArgs false
set_option maxRecDepth 100000

/-! ### the document's order of exact numbers -/
def sgnX (k : Int) (neg : Bool) : Int := if k = 1 then (if neg then -1 else 1) else 0
end Go.Proofs.Ytllahgcifichbaa

namespace Go.Proofs.Ytllahgcifichbaa
open Go.ChangeShapes Go.WideShapes Go.ChangeAt Go.RowKit
set_option linter.unusedVariables false
set_option linter.unusedSimpArgs false
set_option maxRecDepth 100000

/-! ### two numbers of one sign, compared -/
end Go.Proofs.Ytllahgcifichbaa

namespace Go.Proofs.Ytllahgcifichbaa
open Go.ChangeShapes Go.WideShapes Go.ChangeAt Go.RowKit
set_option linter.unusedVariables false
set_option linter.unusedSimpArgs false
set_option maxRecDepth 100000

/-! ### a scale within the bound -/
def heldX (s : Int) : Int := if s < -1099511627776 then -1099511627776 else if s > 1099511627776 then 1099511627776 else s
theorem held7_any (s : Int) (w : World) :
    Calls Try.prog 59 #[.int .i64 s] w fun e w' => e = .returned (.int .i64 (heldX s)) ∧ w' = w := by
  unfold heldX
  refine cps fun Q hQ => ?_
  by_cases h1 : s < -1099511627776
  · rw [if_pos h1] at hQ
    go_enter Try.func59, Try.ntmps59
    go_wp2
    exact hQ.out _ _ ⟨rfl, rfl⟩
  · rw [if_neg h1] at hQ
    have d1 : decide (s < -1099511627776) = false := decide_eq_false h1
    by_cases h2 : s > 1099511627776
    · rw [if_pos h2] at hQ
      have d2 : decide ((1099511627776 : Int) < s) = true := decide_eq_true h2
      go_enter Try.func59, Try.ntmps59
      go_wp2
      exact hQ.out _ _ ⟨rfl, rfl⟩
    · rw [if_neg h2] at hQ
      have d2 : decide ((1099511627776 : Int) < s) = false := decide_eq_false (by omega)
      go_enter Try.func59, Try.ntmps59
      go_wp2
      exact hQ.out _ _ ⟨rfl, rfl⟩
end Go.Proofs.Ytllahgcifichbaa

namespace Go.Proofs.Ytllahgcifichbaa
set_option maxRecDepth 100000

/-! ### numbers as rows of digits of 24 bits, the lowest first -/
/-- what stands from digit k on -/
def top (n : Nat) : Nat → Nat
  | 0 => n
  | k + 1 => top n k / 16777216
theorem top_zero (n : Nat) : top n 0 = n := rfl
theorem top_succ (n k : Nat) : top n (k + 1) = top n k / 16777216 := rfl
theorem top_succ' (n k : Nat) : top n (k + 1) = top (n / 16777216) k := by
  induction k with
  | zero => rfl
  | succ k ih => rw [top_succ, ih, top_succ]
theorem top_eq (n k : Nat) : top n k = n / 16777216 ^ k := by
  induction k with
  | zero => simp [top]
  | succ k ih => rw [top_succ, ih, Nat.div_div_eq_div_mul, Nat.pow_succ]
theorem top_add (n j k : Nat) : top n (j + k) = top (top n j) k := by
  induction k with
  | zero => rfl
  | succ k ih => rw [← Nat.add_assoc, top_succ, ih, top_succ]
theorem top_zero_left (k : Nat) : top 0 k = 0 := by
  induction k with
  | zero => rfl
  | succ k ih => rw [top_succ, ih]
theorem top_mono (n : Nat) {j k : Nat} (h : j ≤ k) : top n k ≤ top n j := by
  obtain ⟨i, rfl⟩ := Nat.exists_eq_add_of_le h
  induction i with
  | zero => exact Nat.le_refl _
  | succ i ih => have := ih (by omega); rw [← Nat.add_assoc, top_succ]; omega
theorem top_div (n m k : Nat) : top (n / m) k = top n k / m := by
  rw [top_eq, top_eq, Nat.div_div_eq_div_mul, Nat.div_div_eq_div_mul, Nat.mul_comm]

/-- the lowest k digits -/
def low (n k : Nat) : List Nat := (List.range k).map fun i => top n i % 16777216
theorem low_length (n k : Nat) : (low n k).length = k := by simp [low]
theorem low_zero (n : Nat) : low n 0 = [] := rfl
theorem low_snoc (n k : Nat) : low n (k + 1) = low n k ++ [top n k % 16777216] := by simp [low, List.range_succ]
theorem low_cons (n k : Nat) : low n (k + 1) = n % 16777216 :: low (n / 16777216) k := by
  simp only [low, List.range_succ_eq_map, List.map_cons, List.map_map, top_zero]
  congr 1
  apply List.map_congr_left
  intro i _
  simp [top_succ']
theorem low_get (n k i : Nat) (h : i < k) : (low n k).getD i 0 = top n i % 16777216 := by
  simp [low, h]

def dig (n : Nat) : List Nat := if h : n = 0 then [] else n % 16777216 :: dig (n / 16777216)
theorem dig_zero : dig 0 = [] := by unfold dig; simp
theorem dig_pos {n : Nat} (h : n ≠ 0) : dig n = n % 16777216 :: dig (n / 16777216) := by
  conv => lhs; unfold dig
  simp [h]
/-- how many digits -/
def dlen (n : Nat) : Nat := (dig n).length
theorem dlen_zero : dlen 0 = 0 := by simp [dlen, dig_zero]
theorem dlen_pos {n : Nat} (h : n ≠ 0) : dlen n = dlen (n / 16777216) + 1 := by simp [dlen, dig_pos h]
theorem dlen_eq_zero {n : Nat} : dlen n = 0 ↔ n = 0 := by
  constructor
  · intro h; by_cases h0 : n = 0
    · exact h0
    · rw [dlen_pos h0] at h; omega
  · rintro rfl; exact dlen_zero
theorem top_pos_iff (n k : Nat) : 0 < top n k ↔ k < dlen n := by
  induction k generalizing n with
  | zero =>
    rw [top_zero]
    by_cases h : n = 0
    · subst h; simp [dlen_zero]
    · rw [dlen_pos h]; omega
  | succ k ih =>
    rw [top_succ', ih]
    by_cases h : n = 0
    · subst h; simp [dlen_zero]
    · rw [dlen_pos h]; omega
theorem top_eq_zero {n k : Nat} (h : dlen n ≤ k) : top n k = 0 := by
  by_cases hc : 0 < top n k
  · have := (top_pos_iff n k).1 hc; omega
  · omega
theorem low_dlen (n : Nat) : low n (dlen n) = dig n := by
  induction n using Nat.strongRecOn with
  | _ n ih =>
    by_cases h : n = 0
    · subst h; simp [dlen_zero, low_zero, dig_zero]
    · rw [dlen_pos h, low_cons, ih _ (by omega), ← dig_pos h]
theorem low_more (n k : Nat) : low n (dlen n + k) = dig n ++ List.replicate k 0 := by
  induction k with
  | zero => simp [low_dlen]
  | succ k ih => rw [← Nat.add_assoc, low_snoc, ih, top_eq_zero (by omega), List.append_assoc, List.replicate_succ']
theorem low_ge {n m : Nat} (h : dlen n ≤ m) : low n m = dig n ++ List.replicate (m - dlen n) 0 := by
  obtain ⟨k, rfl⟩ := Nat.exists_eq_add_of_le h
  rw [low_more]; congr 2; omega
theorem dig_get (n k : Nat) : (dig n).getD k 0 = top n k % 16777216 := by
  by_cases h : k < dlen n
  · rw [← low_dlen, low_get _ _ _ h]
  · rw [top_eq_zero (by omega), List.getD_eq_getElem?_getD, List.getElem?_eq_none (by unfold dlen at h; omega)]; rfl
theorem dig_length (n : Nat) : (dig n).length = dlen n := rfl
theorem dlen_mono {a b : Nat} (h : a ≤ b) : dlen a ≤ dlen b := by
  by_cases hc : dlen a ≤ dlen b
  · exact hc
  · have h1 : 0 < top a (dlen b) := (top_pos_iff a _).2 (by omega)
    have h2 : top b (dlen b) = 0 := top_eq_zero (Nat.le_refl _)
    rw [top_eq] at h1 h2
    have := Nat.div_le_div_right (c := 16777216 ^ dlen b) h
    omega
theorem dlen_le_of_lt {n k : Nat} (h : n < 16777216 ^ k) : dlen n ≤ k := by
  by_cases hc : dlen n ≤ k
  · exact hc
  · have h1 : 0 < top n k := (top_pos_iff n _).2 (by omega)
    rw [top_eq, Nat.div_eq_of_lt h] at h1; omega
theorem lt_of_dlen_le {n k : Nat} (h : dlen n ≤ k) : n < 16777216 ^ k := by
  have h1 := top_eq_zero h
  rw [top_eq] at h1
  exact (Nat.div_eq_zero_iff.1 h1).resolve_left (Nat.ne_of_gt (Nat.pow_pos (by decide)))
/-- the last digit is not nought -/
theorem dig_last {n : Nat} (h : n ≠ 0) : top n (dlen n - 1) % 16777216 ≠ 0 ∧ top n (dlen n - 1) = top n (dlen n - 1) % 16777216 := by
  have h1 : 0 < dlen n := by rw [dlen_pos h]; omega
  have h2 : 0 < top n (dlen n - 1) := (top_pos_iff _ _).2 (by omega)
  have h3 : top n (dlen n - 1 + 1) = 0 := top_eq_zero (by omega)
  rw [top_succ] at h3
  omega

/-- the number that a row of digits is -/
def val : List Nat → Nat
  | [] => 0
  | d :: l => d + 16777216 * val l
theorem val_cons (d : Nat) (l : List Nat) : val (d :: l) = d + 16777216 * val l := rfl
theorem val_append (l m : List Nat) : val (l ++ m) = val l + 16777216 ^ l.length * val m := by
  induction l with
  | nil => simp [val]
  | cons d l ih => simp only [List.cons_append, val_cons, ih, List.length_cons, Nat.pow_succ, Nat.mul_add]; rw [Nat.mul_comm (16777216 ^ l.length) 16777216, Nat.mul_assoc]; omega
theorem val_low (l : List Nat) (h : ∀ d ∈ l, d < 16777216) : low (val l) l.length = l := by
  induction l with
  | nil => rfl
  | cons d l ih =>
    have hd := h d (by simp)
    rw [List.length_cons, low_cons]
    have e1 : val (d :: l) % 16777216 = d := by rw [val_cons]; omega
    have e2 : val (d :: l) / 16777216 = val l := by rw [val_cons]; omega
    rw [e1, e2, ih (fun x hx => h x (by simp [hx]))]
theorem val_dig (n : Nat) : val (dig n) = n := by
  induction n using Nat.strongRecOn with
  | _ n ih =>
    by_cases h : n = 0
    · subst h; simp [dig_zero, val]
    · rw [dig_pos h, val_cons, ih _ (by omega)]; omega
theorem val_lt (l : List Nat) (h : ∀ d ∈ l, d < 16777216) : val l < 16777216 ^ l.length := by
  induction l with
  | nil => simp [val]
  | cons d l ih =>
    have hd := h d (by simp)
    have := ih (fun x hx => h x (by simp [hx]))
    rw [val_cons, List.length_cons, Nat.pow_succ]
    omega
theorem low_mem (n k d : Nat) (h : d ∈ low n k) : d < 16777216 := by
  simp only [low, List.mem_map] at h
  obtain ⟨i, _, rfl⟩ := h
  omega
theorem dig_mem (n d : Nat) (h : d ∈ dig n) : d < 16777216 := by rw [← low_dlen] at h; exact low_mem _ _ _ h
theorem dig_drop (n q : Nat) : (dig n).drop q = dig (top n q) := by
  induction q generalizing n with
  | zero => rfl
  | succ q ih =>
    by_cases h : n = 0
    · subst h; simp [dig_zero, top_zero_left]
    · rw [dig_pos h, List.drop_succ_cons, ih, top_succ']
theorem dig_shift {n : Nat} (h : n ≠ 0) (q : Nat) : dig (n * 16777216 ^ q) = List.replicate q 0 ++ dig n := by
  induction q with
  | zero => simp
  | succ q ih =>
    have hp : 0 < 16777216 ^ q := Nat.pow_pos (by decide)
    have h1 : n * 16777216 ^ (q + 1) ≠ 0 := Nat.mul_ne_zero h (Nat.ne_of_gt (Nat.pow_pos (by decide)))
    have e : n * 16777216 ^ (q + 1) = (n * 16777216 ^ q) * 16777216 := by rw [Nat.pow_succ, Nat.mul_assoc]
    rw [dig_pos h1, e, Nat.mul_mod_left, Nat.mul_div_cancel _ (by decide), ih, List.replicate_succ, List.cons_append]
theorem low_zeros (k : Nat) : low 0 k = List.replicate k 0 := by
  have := low_more 0 k
  rw [dlen_zero, dig_zero] at this; simpa using this
theorem dlen_top (n q : Nat) : dlen (top n q) = dlen n - q := by
  have := congrArg List.length (dig_drop n q)
  rw [List.length_drop] at this; unfold dlen; omega
/-- comparing: the first digit from above that differs -/
theorem cmp_len {a b : Nat} (h : dlen a < dlen b) : a < b := by
  by_cases hc : a < b
  · exact hc
  · have := dlen_mono (a := b) (b := a) (by omega); omega
theorem cmp_top {a b k : Nat} (h : top a k < top b k) : a < b := by
  by_cases hc : a < b
  · exact hc
  · rw [top_eq, top_eq] at h
    have := Nat.div_le_div_right (a := b) (b := a) (c := 16777216 ^ k) (by omega)
    omega
end Go.Proofs.Ytllahgcifichbaa
