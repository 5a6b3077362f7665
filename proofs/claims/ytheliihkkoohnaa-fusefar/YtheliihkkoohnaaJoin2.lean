import Derived.Test.YtheliihkkoohnaaJoin1
import Derived.Test.YtheliihkkoohnaaProg
import Derived.OwnWalk
import Derived.Lib.SmallJoins
namespace Go.Proofs.Ytheliihkkoohnaa
set_option maxRecDepth 100000
set_option linter.unusedVariables false
set_option linter.unusedSimpArgs false

/-! ### patterns and their strings -/
theorem bitsOf_mod (x n : Nat) : bitsOf x n = bitsOf (x % 2 ^ n) n := by
  refine numOf_inj (by rw [bitsOf_length, bitsOf_length]) ?_
  rw [numOf_bits, numOf_bits, Nat.mod_mod]
theorem bits_cons (t : List Bool) (n : Nat) (h : n = t.length + 1) : bitsOf (numOf t) n = false :: t := by
  subst h
  refine numOf_inj (by rw [bitsOf_length]; rfl) ?_
  rw [numOf_bits, numOf_cons]
  have := numOf_lt t
  rw [Nat.mod_eq_of_lt (by rw [Nat.pow_succ]; omega)]
  simp
theorem numOf_zero (t : List Bool) (h : numOf t = 0) : true ∉ t := by
  intro ht
  have : t = noughts t.length := numOf_inj (by simp) (by rw [h, numOf_noughts])
  rw [this, noughts, List.mem_replicate] at ht
  exact absurd ht.2 (by decide)
theorem numOf_pos (t : List Bool) (h : true ∈ t) : 0 < numOf t := Nat.pos_of_ne_zero fun e => numOf_zero t e h
theorem mem_of_pos (t : List Bool) (h : numOf t ≠ 0) : true ∈ t := by
  induction t with
  | nil => exact absurd rfl h
  | cons b t ih =>
    cases b
    · rw [numOf_cons] at h
      exact List.mem_cons_of_mem _ (ih (by simpa using h))
    · exact List.mem_cons_self ..
def patOf (n : Nat) (neg : Bool) (t : List Bool) : Nat := if neg then 2 ^ n - numOf t else numOf t
theorem wd_pows {n : Nat} (hn : Wd n) : ∃ H : Nat, 2 ^ n = 2 * H ∧ 2 ^ (n - 1) = H ∧ 128 ≤ H ∧ (∃ q, 18446744073709551616 = q * 2 ^ n ∧ 1 ≤ q) := by
  rcases hn with rfl | rfl | rfl | rfl
  · exact ⟨128, by decide, by decide, by decide, 72057594037927936, by decide, by decide⟩
  · exact ⟨32768, by decide, by decide, by decide, 281474976710656, by decide, by decide⟩
  · exact ⟨2147483648, by decide, by decide, by decide, 4294967296, by decide, by decide⟩
  · exact ⟨9223372036854775808, by decide, by decide, by decide, 1, by decide, by decide⟩
theorem minusU_mod (n x : Nat) (hn : Wd n) (hx : x < 2 ^ 64) : minusU x % 2 ^ n = (2 ^ n - x % 2 ^ n) % 2 ^ n := by
  obtain ⟨H, h1, h2, h3, q, hq, hq1⟩ := wd_pows hn
  unfold minusU
  generalize 2 ^ n = M at *
  by_cases h0 : x = 0
  · subst h0; simp
  · rw [Nat.mod_eq_of_lt (a := 18446744073709551616 - x) (by omega)]
    have hd := Nat.div_add_mod x M
    have hm := Nat.mod_lt x (show 0 < M by omega)
    generalize x % M = r at *
    generalize x / M = c at *
    have hcq : c < q := by
      refine Nat.lt_of_not_le fun hle => ?_
      have := Nat.mul_le_mul_right M hle
      rw [Nat.mul_comm c M] at this; omega
    have e : 18446744073709551616 - x = (M - r) + M * (q - 1 - c) := by
      have e1 : M * (q - 1 - c) + M * c + M = 18446744073709551616 := by
        rw [← Nat.mul_add, show q - 1 - c + c = q - 1 by omega, ← Nat.mul_succ, show (q - 1).succ = q by omega, hq, Nat.mul_comm]
      omega
    rw [e, Nat.add_mul_mod_self_left]
theorem top_of (n x : Nat) (hn : Wd n) (hx : x < 2 ^ n) : x.testBit (n - 1) = decide (2 ^ (n - 1) ≤ x) := by
  obtain ⟨H, h1, h2, h3, _⟩ := wd_pows hn
  rw [h2]
  have := top_bit x (n - 1) (by rw [h2]; omega)
  rw [this, h2]
theorem testBit_low (x n : Nat) (h : 1 ≤ n) : x.testBit (n - 1) = (x % 2 ^ n).testBit (n - 1) := by
  rw [Nat.testBit_mod_two_pow]
  have : n - 1 < n := by omega
  simp [this]
theorem patOf_facts (n : Nat) (hn : Wd n) (neg : Bool) (t : List Bool) (hl : t.length = n - 1) (ht : true ∈ t) :
    patOf n neg t < 2 ^ n ∧ kindOf n (patOf n neg t % 2 ^ n) = 1 ∧ (patOf n neg t).testBit (n - 1) = neg ∧ strS n (patOf n neg t) = t := by
  obtain ⟨H, h1, h2, h3, q, hq, hq1⟩ := wd_pows hn
  have hw := wd_le hn
  have h4 := numOf_pos t ht
  have h5 := numOf_lt t
  rw [hl, h2] at h5
  have hlt : patOf n neg t < 2 ^ n := by unfold patOf; split <;> omega
  have htop := top_of n _ hn hlt
  have hneg : (patOf n neg t).testBit (n - 1) = neg := by
    rw [htop, h2]; unfold patOf
    cases neg
    · simp; omega
    · simp; omega
  refine ⟨hlt, ?_, hneg, ?_⟩
  · rw [Nat.mod_eq_of_lt hlt]
    unfold kindOf patOf
    rw [h2]
    cases neg
    · rw [if_neg (by simp; omega), if_neg (by simp; omega)]
    · rw [if_neg (by simp; omega), if_neg (by simp; omega)]
  · unfold strS
    rw [hneg]
    have hc := bits_cons t n (by omega)
    cases neg
    · simp only [Bool.false_eq_true, if_false]
      rw [show patOf n false t = numOf t from rfl, hc]; rfl
    · simp only [if_true]
      have hp : patOf n true t = 2 ^ n - numOf t := rfl
      have hp64 : patOf n true t < 2 ^ 64 := Nat.lt_of_lt_of_le hlt (Nat.pow_le_pow_right (by decide) hw.2)
      rw [bitsOf_mod, minusU_mod n _ hn hp64, Nat.mod_eq_of_lt hlt, hp, show 2 ^ n - (2 ^ n - numOf t) = numOf t by omega, Nat.mod_eq_of_lt (by omega), hc]
      rfl
theorem strS_num (n x : Nat) (hn : Wd n) (hx : x < 2 ^ 64) : numOf (strS n x) = (if x.testBit (n - 1) then 2 ^ n - x % 2 ^ n else x % 2 ^ n) % 2 ^ (n - 1) := by
  have hw := wd_le hn
  have drop1 : ∀ y, numOf ((bitsOf y n).drop 1) = y % 2 ^ (n - 1) := fun y => by
    have hl : (bitsOf y n).length = n := bitsOf_length _ _
    have e := numOf_bits y n
    cases hc : bitsOf y n with
    | nil => rw [hc] at hl; simp at hl; omega
    | cons b l =>
      rw [hc] at hl e
      have hl2 : l.length = n - 1 := by simp at hl; omega
      have h5 := numOf_lt l
      rw [numOf_cons, hl2] at e
      rw [hl2] at h5
      show numOf l = _
      obtain ⟨H, h1, h2, h3, _⟩ := wd_pows hn
      have e2 : y % 2 ^ (n - 1) = (y % 2 ^ n) % 2 ^ (n - 1) := (Nat.mod_mod_of_dvd y (Nat.pow_dvd_pow 2 (by omega))).symm
      rw [e2, ← e, Nat.mul_comm, Nat.mul_add_mod, Nat.mod_eq_of_lt h5]
  unfold strS
  obtain ⟨H, h1, h2, h3, _⟩ := wd_pows hn
  have dv : ∀ y, (y % 2 ^ n) % 2 ^ (n - 1) = y % 2 ^ (n - 1) := fun y => Nat.mod_mod_of_dvd y (Nat.pow_dvd_pow 2 (by omega))
  cases x.testBit (n - 1)
  · simp only [Bool.false_eq_true, if_false]
    rw [drop1, dv]
  · simp only [if_true]
    rw [drop1, ← dv, minusU_mod n x hn hx, dv]
theorem patOf_str (n x : Nat) (hn : Wd n) (hx : x < 2 ^ 64) (hk : kindOf n (x % 2 ^ n) = 1) : true ∈ strS n x ∧ patOf n (x.testBit (n - 1)) (strS n x) = x % 2 ^ n := by
  have hw := wd_le hn
  obtain ⟨H, h1, h2, h3, _⟩ := wd_pows hn
  have hnum := strS_num n x hn hx
  have hm := Nat.mod_lt x (show 0 < 2 ^ n by omega)
  have htb := testBit_low x n (by omega)
  have htop := top_of n _ hn hm
  rw [← htb] at htop
  unfold kindOf at hk
  have h0 : ¬ x % 2 ^ n = 0 := fun e => by rw [if_pos e] at hk; exact absurd hk (by decide)
  rw [if_neg h0] at hk
  have h9 : ¬ x % 2 ^ n = 2 ^ (n - 1) := fun e => by rw [if_pos e] at hk; exact absurd hk (by decide)
  rw [h2] at h9 htop hnum
  rw [h1] at hm hnum
  unfold patOf
  rw [h1]
  rw [h1] at h0 h9 htop
  generalize x % (2 * H) = y at *
  by_cases hc : H ≤ y
  · rw [decide_eq_true hc] at htop
    rw [htop] at hnum ⊢
    simp only [if_true] at hnum ⊢
    rw [Nat.mod_eq_of_lt (by omega)] at hnum
    exact ⟨mem_of_pos _ (by omega), by omega⟩
  · rw [decide_eq_false hc] at htop
    rw [htop] at hnum ⊢
    simp only [Bool.false_eq_true, if_false] at hnum ⊢
    rw [Nat.mod_eq_of_lt (by omega)] at hnum
    exact ⟨mem_of_pos _ (by omega), by omega⟩
end Go.Proofs.Ytheliihkkoohnaa

namespace Go.Proofs.Ytheliihkkoohnaa
open Go.ChangeShapes Go.WideShapes Go.ChangeAt Go.RowKit
set_option linter.unusedVariables false
set_option linter.unusedSimpArgs false
set_option maxRecDepth 100000

/-- the string of a number, cut -/
theorem cut_true (n : Nat) (s : Int) (f : Nat) (hn : Wd n) (hr : inR n s = true) : true ∈ (canon s f).take (n - 1) ∧ ((canon s f).take (n - 1)).length = n - 1 := by
  have hw := wd_le hn
  have hr' := of_decide_eq_true hr
  have hlen : 65 < (canon s f).length := by
    unfold canon
    obtain ⟨b, r, hh, _⟩ := headK_form (s / 4)
    rw [hh]; simp [bitsOf_length]
  refine ⟨?_, by rw [List.length_take]; omega⟩
  by_cases h0 : 0 ≤ s / 4
  · have e : canon s f = true :: (List.replicate (s / 4).toNat true ++ [false] ++ bitsOf (s % 4).toNat 2 ++ (bitsOf f 64).drop 1) := by
      unfold canon headK; rw [if_pos h0, List.replicate_succ]; rfl
    rw [e, show n - 1 = (n - 2) + 1 by omega, List.take_succ_cons]
    exact List.mem_cons_self ..
  · have e : canon s f = List.replicate (-(s / 4)).toNat false ++ true :: (bitsOf (s % 4).toNat 2 ++ (bitsOf f 64).drop 1) := by
      unfold canon headK; rw [if_neg h0]; simp
    have hb : (-(s / 4)).toNat ≤ n - 2 := by omega
    rw [e, List.take_append, List.length_replicate, show n - 1 - (-(s / 4)).toNat = (n - 2 - (-(s / 4)).toNat) + 1 by omega, List.take_succ_cons]
    exact List.mem_append_right _ (List.mem_cons_self ..)
end Go.Proofs.Ytheliihkkoohnaa

namespace Go.Proofs.Ytheliihkkoohnaa
open Go.ChangeShapes Go.WideShapes Go.ChangeAt Go.RowKit
set_option linter.unusedVariables false
set_option linter.unusedSimpArgs false
set_option maxRecDepth 100000

/-- the pattern that the string, cut, writes; and what it means -/
abbrev cutL (n : Nat) (s : Int) (f : Nat) : List Bool := (canon s f).take (n - 1)
def fitsN (n : Nat) (s : Int) (f : Nat) : Bool := decide (scaleL (cutL n s f) = s ∧ wordL (cutL n s f) = f)
theorem pat_neg (n : Nat) (hn : Wd n) (neg : Bool) (t : List Bool) (hl : t.length = n - 1) (ht : true ∈ t) (h64 : numOf t < 2 ^ 64) : (if neg then minusU (numOf t) % 2 ^ n else numOf t) = patOf n neg t := by
  unfold patOf
  cases neg
  · rfl
  · have h5 := numOf_lt t
    have h6 := numOf_pos _ ht
    rw [hl] at h5
    obtain ⟨H, h1, h2, h3, _⟩ := wd_pows hn
    rw [h2] at h5
    simp only [if_true]
    rw [minusU_mod n _ hn h64, h1, Nat.mod_eq_of_lt (a := numOf t) (by omega), Nat.mod_eq_of_lt (by omega)]
end Go.Proofs.Ytheliihkkoohnaa

namespace Go.Proofs.Ytheliihkkoohnaa
open Go.ChangeShapes Go.WideShapes Go.ChangeAt Go.RowKit
set_option linter.unusedVariables false
set_option linter.unusedSimpArgs false
set_option maxRecDepth 100000

/-! ### Join: the string that parts seem to write -/
def wrExp (eb ex : Int) : List Bool := if 0 ≤ eb ∧ eb ≤ 2 ∧ 0 ≤ ex ∧ ex ≤ 3 then (bitsOf ex.toNat 2).take eb.toNat else []
def wrFrac (fb : Int) (fr : Nat) : List Bool := if 0 ≤ fb ∧ fb ≤ 64 then bitsOf fr fb.toNat else []
def wrRun (ones : Bool) (run : Int) : List Bool := List.replicate (min run.toNat 63) ones ++ [!ones]
def writtenL (ones : Bool) (run eb ex fb : Int) (fr : Nat) : List Bool := wrRun ones run ++ wrExp eb ex ++ wrFrac fb fr
theorem written_parts (t : List Bool) (ht : t ≠ []) (hl : t.length ≤ 63) :
    ∃ z, writtenL (onesL t) (runL t) (min (restL t).length 2 : Nat) (expL t) ((restL t).length - 2 : Nat) (fracL t) = t ++ z := by
  have key : ∀ u, restL t = u → u.length ≤ 62 → wrExp (min (restL t).length 2 : Nat) (expL t) ++ wrFrac ((restL t).length - 2 : Nat) (fracL t) = u := by
    rintro u hu hul
    have hex : expL t < 4 := by
      have := numOf_lt ((restL t ++ noughts 2).take 2)
      rw [show ((restL t ++ noughts 2).take 2).length = 2 by simp] at this
      exact this
    have e1 : wrExp (min (restL t).length 2 : Nat) (expL t) = u.take 2 := by
      unfold wrExp
      rw [if_pos (by omega), Int.toNat_natCast, Int.toNat_natCast]
      have : bitsOf (expL t) 2 = (u ++ noughts 2).take 2 := by
        have h := bitsOf_numOf ((restL t ++ noughts 2).take 2)
        rw [show ((restL t ++ noughts 2).take 2).length = 2 by simp] at h
        rw [← hu]; exact h
      rw [this, hu]
      match u with
      | [] => rfl
      | [a] => rfl
      | a :: b :: v => simp
    have e2 : wrFrac ((restL t).length - 2 : Nat) (fracL t) = u.drop 2 := by
      unfold wrFrac
      rw [hu, if_pos (by omega), Int.toNat_natCast]
      have h := bitsOf_numOf (u.drop 2)
      rw [List.length_drop] at h
      rw [show fracL t = numOf (u.drop 2) by rw [← hu]; rfl]; exact h
    rw [e1, e2, List.take_append_drop]
  obtain ⟨b, r, tl, rfl, htl⟩ := split_run t ht
  have hr : r + 1 ≤ 63 := by rw [List.length_append, List.length_replicate] at hl; omega
  rcases htl with rfl | ⟨u, rfl⟩
  · rw [List.append_nil] at *
    have h1 := runL_rep b r [] (.inl rfl)
    have h2 := onesL_rep b r []
    rw [List.append_nil] at h1 h2
    refine ⟨[!b], ?_⟩
    rw [writtenL, List.append_assoc, key [] (restL_end b r) (by decide), List.append_nil, h1, h2, wrRun, Int.toNat_natCast, Nat.min_eq_left (by omega)]
  · have h1 := runL_rep b r ((!b) :: u) (.inr ⟨u, rfl⟩)
    have h2 := onesL_rep b r ((!b) :: u)
    refine ⟨[], ?_⟩
    rw [writtenL, List.append_assoc, key u (restL_rep b r u) (by simp at hl; omega), List.append_nil, h1, h2, wrRun, Int.toNat_natCast, Nat.min_eq_left (by omega)]
    simp
theorem writtenL_length (ones : Bool) (run eb ex fb : Int) (fr : Nat) : (writtenL ones run eb ex fb fr).length ≤ 130 := by
  unfold writtenL wrRun wrExp wrFrac
  rw [List.length_append, List.length_append, List.length_append, List.length_replicate]
  have h1 : (if 0 ≤ eb ∧ eb ≤ 2 ∧ 0 ≤ ex ∧ ex ≤ 3 then (bitsOf ex.toNat 2).take eb.toNat else []).length ≤ 2 := by
    split
    · rw [List.length_take, bitsOf_length]; omega
    · simp
  have h2 : (if 0 ≤ fb ∧ fb ≤ 64 then bitsOf fr fb.toNat else []).length ≤ 64 := by
    split
    · rw [bitsOf_length]; omega
    · simp
  simp only [List.length_singleton]
  omega
theorem chars_text {base n : Nat} {v : Value} {w5 : World} {L : List Bool} (h : w5.ownsRow base 5 1 v n (chars L)) (wx : World) (hb : Below w5.heap.size w5 wx) :
    (convert 135 9 v).run Try.prog wx = .ok (.string ⟨(L.map bitByte).toArray⟩) wx := by
  refine run_convert_own (P := Try.prog) (n := n) (base := base) (L.map bitByte) ?_ Try.underlying135 Try.underlying5 Try.underlying9
  have e : (L.map bitByte).map (fun b => Value.int .u8 b.toNat) = chars L := by simp [chars, Function.comp_def]
  rw [e]
  obtain ⟨h1, h2⟩ := h
  refine ⟨h1, ?_⟩
  rcases h2 with hn | ⟨g, cap, cur, rfl, hb1, hg, rest⟩
  · exact .inl hn
  · exact .inr ⟨g, cap, cur, rfl, hb1, (hb.block g (Array.getElem?_eq_some_iff.1 hg).1).trans hg, rest⟩
def fdI (neg ones : Bool) (run reg eb ex fb : Int) (fr : Nat) : Value := .agg #[.bool neg, .bool ones, .int .i64 run, .int .i64 reg, .int .i64 eb, .int .i64 ex, .int .i64 fb, .int .u64 fr]
end Go.Proofs.Ytheliihkkoohnaa

namespace Go.Proofs.Ytheliihkkoohnaa
open Go.ChangeShapes Go.WideShapes Go.ChangeAt Go.RowKit
set_option linter.unusedVariables false
set_option linter.unusedSimpArgs false
set_option maxRecDepth 100000

/-! ### Join -/
/-- the seven parts beside the sign -/
def isParts (t : List Bool) (ones : Bool) (run reg eb ex fb : Int) (fr : Nat) : Prop :=
  ones = onesL t ∧ run = runL t ∧ reg = regL t ∧ eb = (min (restL t).length 2 : Nat) ∧ ex = expL t ∧ fb = ((restL t).length - 2 : Nat) ∧ fr = fracL t
end Go.Proofs.Ytheliihkkoohnaa

namespace Go.Proofs.Ytheliihkkoohnaa
set_option maxRecDepth 100000
open Go.ChangeShapes Go.WideShapes Go.ChangeAt Go.RowKit

/-! ### Show -/
def showCells (x n k : Nat) : List Value := (List.range n).map fun j => if n - 1 - j < k then .int .u8 (bitByte (x.testBit (n - 1 - j))).toNat else .int .u8 0
theorem showCells_zero (x n : Nat) : showCells x n 0 = (madeCells (Value.int .u8 0).cells (n * 1)).toList := by
  apply List.ext_getElem?
  intro j
  by_cases hn : j < n
  · simp [showCells, madeCells, Value.cells, hn, Nat.mod_one]
  · simp [showCells, madeCells, Value.cells, hn]
theorem showCells_step (x n k : Nat) (h : k < n) : (showCells x n k).set (n - 1 - k) (.int .u8 (bitByte (x.testBit k)).toNat) = showCells x n (k + 1) := by
  apply List.ext_getElem?
  intro j
  rw [List.getElem?_set]
  by_cases hj : n - 1 - k = j
  · subst hj
    have e : n - 1 - (n - 1 - k) = k := by omega
    have e1 : n - 1 - k < n := by omega
    rw [if_pos rfl, if_pos (by simpa [showCells] using e1)]
    simp only [showCells, List.getElem?_map, List.getElem?_range e1, Option.map_some, e]
    simp
  · rw [if_neg hj]
    by_cases hn : j < n
    · simp only [showCells, List.getElem?_map, List.getElem?_range hn, Option.map_some]
      have : (n - 1 - j < k) ↔ (n - 1 - j < k + 1) := by omega
      simp [this]
    · simp [showCells, hn]
theorem showCells_all (x n : Nat) : showCells x n n = ((bitsOf x n).map bitByte).map fun b : UInt8 => Value.int .u8 b.toNat := by
  simp only [showCells, bitsOf, List.map_map]
  apply List.map_congr_left
  intro j hj
  simp at hj
  have : n - 1 - j < n := by omega
  simp [this]
theorem show_char (x k : Nat) (hx : x < 2 ^ 64) : ((48 + bits BinOp.and IntKind.u64 ((x : Int) / 2 ^ k) 1) % 256) = ((bitByte (x.testBit k)).toNat : Int) := by
  rw [shrN]
  have e := u64_and_nat (x >>> k) 1 (Nat.lt_of_le_of_lt (Nat.shiftRight_le _ _) hx) (by decide)
  rw [show ((1 : Nat) : Int) = 1 from rfl] at e
  rw [e, nat_mask1, Nat.testBit_eq_decide_div_mod_eq, Nat.shiftRight_eq_div_pow]
  generalize x / 2 ^ k = y
  rcases Nat.mod_two_eq_zero_or_one y with h | h <;> rw [h] <;> simp [bitByte]
/-! ### Run -/
/-- a run: the highest bit of the lowest n, and how many like it -/
structure IsRun (x n : Nat) (b : Bool) (k : Nat) : Prop where
  bit : b = x.testBit (n - 1)
  low : 1 ≤ k
  high : k ≤ n
  same : ∀ j, j < k → x.testBit (n - 1 - j) = b
  ends : k < n → x.testBit (n - 1 - k) ≠ b
theorem IsRun.one {x n : Nat} {b b' : Bool} {k k' : Nat} (h : IsRun x n b k) (h' : IsRun x n b' k') : b = b' ∧ k = k' := by
  have e : b = b' := by rw [h.bit, h'.bit]
  subst e
  refine ⟨rfl, ?_⟩
  rcases Nat.lt_trichotomy k k' with c | c | c
  · exact absurd (h'.same k c) (h.ends (by have := h'.high; omega))
  · exact c
  · exact absurd (h.same k' c) (h'.ends (by have := h.high; omega))
theorem lrun_no (x : Nat) (n : Int) (hn : n < 1 ∨ 64 < n) (w : World) :
    Calls Try.prog 86 #[.int .u64 x, .int .i64 n] w fun e w' => e = .returned (.tuple #[.bool false, .int .i64 0, .iface 37 (.int .i64 1)]) ∧ w' = w := by
  refine cps fun Q hQ => ?_
  rcases hn with hn | hn
  · go_enter Try.func86, Try.ntmps86
    go_wp2
    go_ret3
    refine hQ.out _ _ ⟨rfl, rfl⟩
  · have : ¬ n < 1 := by omega
    go_enter Try.func86, Try.ntmps86
    go_wp2
    go_ret3
    refine hQ.out _ _ ⟨rfl, rfl⟩
/-- how many bits a number has -/
structure IsLen (x L : Nat) : Prop where
  le : L ≤ 64
  lt : x < 2 ^ L
  top : 0 < L → x.testBit (L - 1) = true
theorem bitLen_zero : Lib.bitLen 0 = 0 := by decide
theorem isLen_bitLen (x : Nat) (hx : x < 2 ^ 64) : IsLen x (Lib.bitLen x) := by
  by_cases h0 : x = 0
  · subst h0
    rw [bitLen_zero]
    exact ⟨by omega, by simp, fun h => absurd h (by omega)⟩
  · have hl : 2 ^ x.log2 ≤ x := Nat.log2_self_le h0
    have hu : x < 2 ^ (x.log2 + 1) := Nat.lt_log2_self
    have h64 : x.log2 < 64 := (Nat.log2_lt h0).2 hx
    have e : Lib.bitLen x = x.log2 + 1 := by
      rw [Lib.bitLen_shift x.log2 x hl hx]
      have h1 : x / 2 ^ x.log2 = 1 := by
        have hp : 0 < 2 ^ x.log2 := Nat.pos_of_ne_zero (by simp)
        have a : 1 ≤ x / 2 ^ x.log2 := (Nat.le_div_iff_mul_le hp).2 (by omega)
        have b : x / 2 ^ x.log2 < 2 := (Nat.div_lt_iff_lt_mul hp).2 (by rw [Nat.mul_comm, ← Nat.pow_succ]; exact hu)
        omega
      rw [h1, show Lib.bitLen 1 = 1 by decide]
    rw [e]
    refine ⟨by omega, hu, fun _ => ?_⟩
    rw [Nat.add_sub_cancel, top_bit x x.log2 (by rw [← Nat.pow_succ']; exact hu)]
    simpa using hl
theorem lz_any (x : Nat) (hx : x < 2 ^ 64) (w : World) :
    Calls Try.prog 70 #[.int .u64 x] w fun e w' => ∃ L : Nat, e = .returned (.int .i64 (64 - (L : Int))) ∧ IsLen x L ∧ w' = w := by
  have hl : Lib.bitLen x ≤ 64 := Lib.bitLen_le x 64 (by decide) hx
  refine cps fun Q hQ => ?_
  go_enter Try.func70, Try.ntmps70
  go_wp2_with (go_at_call 107; refine (len64_any x hx _).mono ?_; rintro e w' ⟨rfl, rfl⟩)
  exact hQ.out _ _ ⟨_, rfl, isLen_bitLen x hx, rfl⟩
theorem xorMax (H : Nat) (h : H < 2 ^ 64) : bits BinOp.xor IntKind.u64 IntKind.u64.max (H : Int) = ((18446744073709551615 - H : Nat) : Int) := by
  have e : IntKind.u64.max = ((18446744073709551615 : Nat) : Int) := by decide
  rw [e, u64_xor_nat _ _ (by decide) h]
  congr 1
  apply ext64 (Nat.xor_lt_two_pow (by decide) h) (by omega)
  intro i hi
  rw [Nat.testBit_xor, not_bit H i h hi]
  have : (18446744073709551615 : Nat).testBit i = true := by
    rw [show (18446744073709551615 : Nat) = 2 ^ 64 - 1 from rfl, Nat.testBit_two_pow_sub_one]; simpa using hi
  rw [this]; simp
theorem head_bit (x n j : Nat) (hn : n ≤ 64) (hj : j < 64) : ((x <<< (64 - n)) % 2 ^ 64).testBit (63 - j) = (decide (j < n) && x.testBit (n - 1 - j)) := by
  rw [Nat.testBit_mod_two_pow, Nat.testBit_shiftLeft]
  by_cases h : j < n
  · have e : 63 - j - (64 - n) = n - 1 - j := by omega
    have e1 : 63 - j < 64 := by omega
    have e2 : 63 - j ≥ 64 - n := by omega
    simp [h, e, e1, e2]
  · have e2 : ¬ 63 - j ≥ 64 - n := by omega
    simp [h, e2]
/-- the run, off the length of what was shifted up (and turned, where it is of ones) -/
theorem isRun_of (x n H L : Nat) (b : Bool) (h1 : 1 ≤ n) (h2 : n ≤ 64) (hb : b = x.testBit (n - 1)) (hH : ∀ j, j < 64 → H.testBit (63 - j) = ((decide (j < n) && x.testBit (n - 1 - j)) ^^ b)) (hL : IsLen H L) :
    ∃ k : Nat, ((64 - (L : Int)) ≤ n → 64 - (L : Int) = k) ∧ ((n : Int) < 64 - (L : Int) → n = k) ∧ IsRun x n b k := by
  have hz : ∀ j, j < 64 - L → H.testBit (63 - j) = false := fun j hj => Nat.testBit_lt_two_pow (Nat.lt_of_lt_of_le hL.lt (Nat.pow_le_pow_right (by decide) (by omega)))
  have hlow : 1 ≤ 64 - L := by
    rcases Nat.lt_or_ge L 64 with h | h
    · omega
    · have hl := hL.le
      have : L = 64 := by omega
      have ht := hL.top (by omega)
      rw [this] at ht
      have h0 := hH 0 (by omega)
      rw [show 63 - 0 = 64 - 1 from rfl, ht] at h0
      have hn : 0 < n := h1
      simp [hn, ← hb] at h0
  have same : ∀ j, j < n → j < 64 - L → x.testBit (n - 1 - j) = b := by
    intro j hj hj2
    have e := hH j (by omega)
    rw [hz j hj2] at e
    simp [hj] at e
    cases b <;> simp_all
  rcases Nat.lt_or_ge (64 - L) n with h | h
  · refine ⟨64 - L, by omega, by omega, hb, hlow, by omega, fun j hj => same j (by omega) hj, fun _ => ?_⟩
    have ht := hL.top (by omega)
    have e := hH (64 - L) (by omega)
    rw [show 63 - (64 - L) = L - 1 by omega, ht] at e
    simp [h] at e
    cases b <;> simp_all
  · refine ⟨n, by omega, fun _ => rfl, hb, h1, Nat.le_refl _, fun j hj => same j hj (by omega), fun h => absurd h (by omega)⟩
theorem lrun_ok (x n : Nat) (h1 : 1 ≤ n) (h2 : n ≤ 64) (w : World) :
    Calls Try.prog 86 #[.int .u64 x, .int .i64 n] w fun e w' => ∃ b k, e = .returned (.tuple #[.bool b, .int .i64 (k : Nat), .nilIface]) ∧ IsRun x n b k ∧ w' = w := by
  obtain ⟨H, hH⟩ : ∃ H, H = (x <<< (64 - n)) % 2 ^ 64 := ⟨_, rfl⟩
  have hlt : H < 2 ^ 64 := by rw [hH]; exact Nat.mod_lt _ (by decide)
  have hw : IntKind.u64.wrap ((x : Int) * 2 ^ (64 - n)) = (H : Int) := by rw [hH]; exact wrapShl x (64 - n)
  have hbits : Hid (∀ j, j < 64 → H.testBit (63 - j) = (decide (j < n) && x.testBit (n - 1 - j))) := fun j hj => by rw [hH]; exact head_bit x n j h2 hj
  obtain ⟨C, hC⟩ : ∃ C, C = 18446744073709551615 - H := ⟨_, rfl⟩
  have hCl : C < 2 ^ 64 := by omega
  have hxor := xorMax H hlt
  rw [← hC] at hxor
  have htop : Hid (x.testBit (n - 1) = decide (2 ^ 63 ≤ H)) := by
    have e := hbits.out 0 (by omega)
    have hn : 0 < n := h1
    rw [show 63 - 0 = 63 from rfl, top_bit H 63 (by omega)] at e
    exact (show x.testBit (n - 1) = _ by simpa [hn] using e.symm)
  have htop' : (((H : Int) / 9223372036854775808 == 1) = decide (2 ^ 63 ≤ H)) := by
    rw [Bool.eq_iff_iff]; simp; omega
  have hbC : Hid (∀ j, j < 64 → C.testBit (63 - j) = !H.testBit (63 - j)) := fun j hj => by rw [hC]; exact not_bit H _ hlt (by omega)
  clear hH hC
  have HL : Hid (H < 2 ^ 64) := hlt
  have CL : Hid (C < 2 ^ 64) := hCl
  clear hlt hCl
  refine cps fun Q hQ => ?_
  cases hc : decide (2 ^ 63 ≤ H)
  · rw [hc] at htop' htop
    clear hc
    go_enter Try.func86, Try.ntmps86
    go_wp2_with (go_at_call 70; refine (lz_any H HL.out _).mono ?_; rintro e w' ⟨L, rfl, hL, rfl⟩)
    all_goals
      obtain ⟨k, hk1, hk2, hr⟩ := isRun_of x n H L false h1 h2 htop.out.symm (fun j hj => by rw [hbits.out j hj]; simp) hL
      go_ret3
      exact hQ.out _ _ ⟨false, k, ret_bix rfl (by omega), hr, rfl⟩
  · rw [hc] at htop' htop
    clear hc
    go_enter Try.func86, Try.ntmps86
    go_wp2_with (go_at_call 70; refine (lz_any C CL.out _).mono ?_; rintro e w' ⟨L, rfl, hL, rfl⟩)
    all_goals
      obtain ⟨k, hk1, hk2, hr⟩ := isRun_of x n C L true h1 h2 htop.out.symm (fun j hj => by rw [hbC.out j hj, hbits.out j hj]; simp) hL
      go_ret3
      exact hQ.out _ _ ⟨true, k, ret_bix rfl (by omega), hr, rfl⟩
end Go.Proofs.Ytheliihkkoohnaa

namespace Go.Proofs.Ytheliihkkoohnaa
set_option maxRecDepth 100000
set_option linter.unusedVariables false
set_option linter.unusedSimpArgs false

/-! ### bits put, bits read, of a word that is a string (plain mathematics) -/
theorem numOf_noughts_append (z : Nat) (l : List Bool) : numOf (noughts z ++ l) = numOf l := by
  rw [numOf_append, numOf_noughts]; simp
theorem bits64_numOf (l : List Bool) (h : l.length ≤ 64) : bitsOf (numOf l) 64 = noughts (64 - l.length) ++ l := by
  refine numOf_inj (by rw [bitsOf_length, List.length_append, List.length_replicate]; omega) ?_
  rw [numOf_bits, numOf_noughts_append]
  exact Nat.mod_eq_of_lt (Nat.lt_of_lt_of_le (numOf_lt l) (Nat.pow_le_pow_right (by decide) h))
/-- bits put into a string -/
theorem put_list (a b c : List Bool) (v at_ m : Nat) (hb : b.length = m) (hc : c.length = at_) (hl : (a ++ b ++ c).length ≤ 64) :
    putOf (numOf (a ++ b ++ c)) at_ m v = numOf (a ++ bitsOf v m ++ c) := by
  have hlen : a.length + m + at_ ≤ 64 := by simp only [List.length_append] at hl; omega
  have hlt : numOf (a ++ b ++ c) < 2 ^ 64 := Nat.lt_of_lt_of_le (numOf_lt _) (Nat.pow_le_pow_right (by decide) hl)
  rw [put_eq _ at_ m v hlt (by omega), rputL, bits64_numOf _ hl]
  have hl2 : (a ++ b ++ c).length = a.length + m + at_ := by simp only [List.length_append]; omega
  rw [hl2]
  obtain ⟨z, hz⟩ : ∃ z, z = 64 - (a.length + m + at_) := ⟨_, rfl⟩
  rw [← hz]
  have e1 : (noughts z ++ (a ++ b ++ c)).take (64 - at_ - m) = noughts z ++ a := by
    rw [show noughts z ++ (a ++ b ++ c) = (noughts z ++ a) ++ (b ++ c) by simp, List.take_append_of_le_length (by simp; omega), List.take_of_length_le (by simp; omega)]
  have e2 : (noughts z ++ (a ++ b ++ c)).drop (64 - at_) = c := by
    rw [show noughts z ++ (a ++ b ++ c) = (noughts z ++ a ++ b) ++ c by simp, List.drop_append_of_le_length (by simp; omega), List.drop_of_length_le (by simp; omega), List.nil_append]
  rw [e1, e2, List.take_of_length_le (by omega), List.append_assoc, numOf_noughts_append, List.append_assoc]
theorem bits_ones (m : Nat) (hm : m ≤ 64) : bitsOf 18446744073709551615 m = List.replicate m true := by
  apply List.ext_getElem?
  intro j
  by_cases hj : j < m
  · rw [bitsOf_get _ _ _ hj, show (18446744073709551615 : Nat) = 2 ^ 64 - 1 by decide, Nat.testBit_two_pow_sub_one, List.getElem?_replicate, if_pos hj, decide_eq_true (by omega)]
  · rw [List.getElem?_eq_none (by rw [bitsOf_length]; omega), List.getElem?_eq_none (by simp; omega)]
theorem bits_none (m : Nat) : bitsOf 0 m = noughts m := by
  apply List.ext_getElem?
  intro j
  by_cases hj : j < m
  · rw [bitsOf_get _ _ _ hj, noughts, List.getElem?_replicate, if_pos hj, Nat.zero_testBit]
  · rw [List.getElem?_eq_none (by rw [bitsOf_length]; omega), List.getElem?_eq_none (by simp; omega)]
/-- the word of a run: all ones, or nought -/
def wordB (b : Bool) : Nat := if b then 18446744073709551615 else 0
theorem bits_wordB (b : Bool) (m : Nat) (hm : m ≤ 64) : bitsOf (wordB b) m = List.replicate m b := by
  cases b
  · exact bits_none m
  · exact bits_ones m hm
/-- the string that is assembled, of n - 1 bits -/
def asmL (n : Nat) (ones : Bool) (run v1 v2 : Nat) : List Bool :=
  List.replicate run ones ++ (if n - 1 - run = 0 then [] else (!ones) :: (bitsOf v1 (min (n - 2 - run) 2) ++ bitsOf v2 (n - 2 - run - 2)))
theorem asmL_length (n : Nat) (ones : Bool) (run v1 v2 : Nat) (h : run ≤ n - 1) : (asmL n ones run v1 v2).length = n - 1 := by
  unfold asmL
  split
  · simp; omega
  · simp [bitsOf_length]; omega
theorem asm_end (n : Nat) (ones : Bool) (run v1 v2 : Nat) (hn : n ≤ 64) (h1 : run = n - 1) :
    putOf (putOf (putOf 0 0 run (wordB ones)) 0 0 v1) 0 0 v2 = numOf (asmL n ones run v1 v2) := by
  have hz : ∀ (l : List Bool) v, l.length ≤ 64 → putOf (numOf l) 0 0 v = numOf l := fun l v hl => by
    have := put_list l [] [] v 0 0 rfl rfl (by simpa using hl)
    simpa [bitsOf] using this
  have h0 := put_list [] (noughts run) [] (wordB ones) 0 run (by simp) rfl (by simp; omega)
  rw [List.nil_append, List.append_nil, numOf_noughts, bits_wordB _ _ (by omega), List.nil_append, List.append_nil] at h0
  rw [h0, hz _ _ (by simp; omega), hz _ _ (by simp; omega)]
  unfold asmL
  rw [if_pos (by omega), List.append_nil]
theorem asm_all (n : Nat) (ones : Bool) (run v1 v2 behind E F : Nat) (hn : n ≤ 64) (hb : behind = n - 1 - run) (h1 : 0 < behind) (hE : E = min (n - 2 - run) 2) (hF : F = n - 2 - run - E) :
    putOf (putOf (putOf (putOf 0 behind run (wordB ones)) (behind - 1) 1 (wordB (!ones))) F E v1) 0 F v2 = numOf (asmL n ones run v1 v2) := by
  have h0 := put_list [] (noughts run) (noughts behind) (wordB ones) behind run (by simp) (by simp) (by simp; omega)
  rw [List.nil_append, noughts_add, numOf_noughts, bits_wordB _ _ (by omega), List.nil_append] at h0
  have e1 : noughts behind = [false] ++ noughts (behind - 1) := by
    rw [show [false] = noughts 1 from rfl, noughts_add]; congr 1; omega
  have h2 := put_list (List.replicate run ones) [false] (noughts (behind - 1)) (wordB (!ones)) (behind - 1) 1 rfl (by simp) (by simp; omega)
  rw [List.append_assoc, ← e1, bits_wordB _ _ (by omega)] at h2
  have e2 : noughts (behind - 1) = noughts E ++ noughts F := by rw [noughts_add]; congr 1; omega
  have h3 := put_list (List.replicate run ones ++ [!ones]) (noughts E) (noughts F) v1 F E (by simp) (by simp) (by simp; omega)
  rw [List.append_assoc, ← e2] at h3
  have h4 := put_list (List.replicate run ones ++ [!ones] ++ bitsOf v1 E) (noughts F) [] v2 0 F (by simp) rfl (by simp [bitsOf_length]; omega)
  rw [List.append_nil, List.append_nil] at h4
  rw [h0, h2, show List.replicate 1 (!ones) = [!ones] from rfl, h3, h4]
  unfold asmL
  rw [if_neg (by omega), show n - 2 - run - 2 = F by omega, ← hE]
  simp
/-- bits read out of a word that ends with a string -/
theorem fieldOf_mod (y at_ m k : Nat) (h : at_ + m ≤ k) : fieldOf y at_ m = fieldOf (y % 2 ^ k) at_ m := by
  apply Nat.eq_of_testBit_eq
  intro i
  rw [fieldOf, fieldOf, Nat.testBit_mod_two_pow, Nat.testBit_mod_two_pow, Nat.testBit_shiftRight, Nat.testBit_shiftRight, Nat.testBit_mod_two_pow]
  by_cases hi : i < m
  · rw [decide_eq_true (show at_ + i < k by omega)]; simp
  · simp [hi]
theorem fieldOf_list (a b c : List Bool) : fieldOf (numOf (a ++ b ++ c)) c.length b.length = numOf b := by
  have hc := numOf_lt c
  have hb := numOf_lt b
  have h0 : 0 < 2 ^ c.length := Nat.pos_of_ne_zero (by simp)
  rw [fieldOf, numOf_append, numOf_append, Nat.shiftRight_eq_div_pow, Nat.mul_comm, Nat.mul_add_div h0, Nat.div_eq_of_lt hc, Nat.add_zero, Nat.mul_comm, Nat.mul_add_mod, Nat.mod_eq_of_lt hb]
/-- the parts of a string, read off a word that ends with it -/
theorem exp_field (t : List Bool) (y m E F : Nat) (hl : t.length = m) (hy : y % 2 ^ m = numOf t) (hE : E = min (restL t).length 2) (hF : F = (restL t).length - E) :
    fieldOf y F E * 2 ^ (2 - E) = expL t ∧ fieldOf y 0 F = fracL t := by
  have hr := restL_length t
  have ht : t = t.take (runL t + 1) ++ (restL t).take E ++ (restL t).drop E := by
    rw [List.append_assoc, List.take_append_drop, restL, List.take_append_drop]
  have l1 : ((restL t).take E).length = E := by rw [List.length_take]; omega
  have l2 : ((restL t).drop E).length = F := by rw [List.length_drop]; omega
  have hEu : (E = (restL t).length ∧ (restL t).length ≤ 2) ∨ (E = 2 ∧ 2 < (restL t).length) := by omega
  have f1 := fieldOf_list (t.take (runL t + 1)) ((restL t).take E) ((restL t).drop E)
  have f2 := fieldOf_list (t.take (runL t + 1) ++ (restL t).take E) ((restL t).drop E) []
  rw [List.append_nil, List.length_nil] at f2
  rw [← ht, l1, l2] at f1
  rw [← ht, l2] at f2
  constructor
  · rw [fieldOf_mod y F E m (by omega), hy, f1]
    unfold expL
    have : (restL t ++ noughts 2).take 2 = (restL t).take E ++ noughts (2 - E) := by
      rcases hEu with ⟨h1, h2⟩ | ⟨h1, h2⟩
      · rw [List.take_append, List.take_of_length_le h2, h1, List.take_of_length_le (Nat.le_refl _), take_noughts _ _ (by omega)]
      · rw [h1, List.take_append_of_le_length (by omega)]; simp [noughts]
    rw [this, numOf_append, numOf_noughts]; simp
  · rw [fieldOf_mod y 0 F m (by omega), hy, f2, frac_drop _ _ hEu]; rfl
/-- the run of a string, read off a word that ends with it -/
theorem run_field (t : List Bool) (y m : Nat) (h0 : 0 < m) (hl : t.length = m) (hy : y % 2 ^ m = numOf t) : IsRun y m (onesL t) (runL t) := by
  have hne : t ≠ [] := by rintro rfl; simp at hl; omega
  obtain ⟨b, r, tl, rfl, htl⟩ := split_run t hne
  have hbit : ∀ j, j < m → y.testBit (m - 1 - j) = (List.replicate (r + 1) b ++ tl).getD j false := fun j hj => by
    have : (y % 2 ^ m).testBit (m - 1 - j) = y.testBit (m - 1 - j) := by
      rw [Nat.testBit_mod_two_pow, decide_eq_true (by omega)]; rfl
    rw [← this, hy, numOf_testBit, hl, decide_eq_true (by omega), show m - 1 - (m - 1 - j) = j by omega]; rfl
  rw [runL_rep b r tl htl, onesL_rep]
  have hl' : r + 1 + tl.length = m := by simpa using hl
  refine ⟨?_, by omega, by omega, ?_, ?_⟩
  · have := hbit 0 h0
    rw [Nat.sub_zero] at this
    rw [this, List.replicate_succ]; rfl
  · intro j hj
    rw [hbit j (by omega), List.getD_eq_getElem?_getD, List.getElem?_append_left (by simpa using hj), List.getElem?_replicate, if_pos hj]; rfl
  · intro hk
    rw [hbit (r + 1) hk, List.getD_eq_getElem?_getD, List.getElem?_append_right (by simp)]
    rcases htl with rfl | ⟨u, rfl⟩
    · simp at hl'; omega
    · simp
/-- a string is what is assembled of its parts -/
theorem asm_parts (n : Nat) (t : List Bool) (h2 : 2 ≤ n) (hl : t.length = n - 1) (v : Nat) (hv : v = expL t / 2 ^ (2 - min (n - 2 - runL t) 2)) : asmL n (onesL t) (runL t) v (fracL t) = t := by
  have hne : t ≠ [] := by rintro rfl; simp at hl; omega
  obtain ⟨b, r, tl, rfl, htl⟩ := split_run t hne
  unfold asmL
  have h1 := runL_rep b r tl htl
  have hl' : r + 1 + tl.length = n - 1 := by simpa using hl
  rw [h1] at hv ⊢
  rw [onesL_rep]
  rcases htl with rfl | ⟨u, rfl⟩
  · rw [if_pos (by simp at hl'; omega)]
  · have hu : u.length = n - 2 - (r + 1) := by simp at hl'; omega
    rw [if_neg (by simp at hl'; omega)]
    congr 2
    rw [← hu]
    have hr : restL (List.replicate (r + 1) b ++ (!b) :: u) = u := restL_rep b r u
    have hf : fracL (List.replicate (r + 1) b ++ (!b) :: u) = numOf (u.drop 2) := by unfold fracL; rw [hr]
    have he : expL (List.replicate (r + 1) b ++ (!b) :: u) = numOf ((u ++ noughts 2).take 2) := by unfold expL; rw [hr]
    have e1 : bitsOf (numOf (u.drop 2)) (u.length - 2) = u.drop 2 := by
      have := bitsOf_numOf (u.drop 2)
      rwa [List.length_drop] at this
    obtain ⟨E, hE⟩ : ∃ E, E = min u.length 2 := ⟨_, rfl⟩
    have hEu : (E = u.length ∧ u.length ≤ 2) ∨ (E = 2 ∧ 2 < u.length) := by omega
    have e2 : (u ++ noughts 2).take 2 = u.take E ++ noughts (2 - E) := by
      rcases hEu with ⟨h1, h2⟩ | ⟨h1, h2⟩
      · rw [List.take_append, List.take_of_length_le h2, h1, List.take_of_length_le (Nat.le_refl _), take_noughts _ _ (by omega)]
      · rw [h1, List.take_append_of_le_length (by omega)]; simp [noughts]
    have e3 : v = numOf (u.take E) := by
      rw [hv, he, e2, numOf_append, numOf_noughts, ← hu, ← hE, Nat.add_zero, List.length_replicate]
      exact Nat.mul_div_cancel _ (Nat.pos_of_ne_zero (by simp))
    have e4 : bitsOf (numOf (u.take E)) E = u.take E := by
      have := bitsOf_numOf (u.take E)
      rwa [List.length_take, Nat.min_eq_left (by omega)] at this
    rw [hf, e1, ← hE, e3, e4]
    rcases hEu with ⟨h1, h2⟩ | ⟨h1, h2⟩
    · rw [List.drop_of_length_le h2, List.append_nil, h1, List.take_of_length_le (Nat.le_refl _)]
    · rw [h1, List.take_append_drop]
theorem bits_drop1 (x m : Nat) (h : 1 ≤ m) : (bitsOf x m).drop 1 = bitsOf x (m - 1) := by
  apply List.ext_getElem?
  intro j
  by_cases hj : j < m - 1
  · rw [List.getElem?_drop, bitsOf_get _ _ _ (by omega), bitsOf_get _ _ _ hj]
    congr 2; omega
  · rw [List.getElem?_eq_none (by rw [List.length_drop, bitsOf_length]; omega), List.getElem?_eq_none (by rw [bitsOf_length]; omega)]
theorem bits_take (x m k : Nat) (h : k ≤ m) : (bitsOf x m).take k = bitsOf (x >>> (m - k)) k := by
  apply List.ext_getElem?
  intro j
  by_cases hj : j < k
  · rw [List.getElem?_take_of_lt hj, bitsOf_get _ _ _ (by omega), bitsOf_get _ _ _ hj, Nat.testBit_shiftRight]
    congr 2; omega
  · rw [List.getElem?_eq_none (by rw [List.length_take, bitsOf_length]; omega), List.getElem?_eq_none (by rw [bitsOf_length]; omega)]
theorem bits_field (f F : Nat) (h : F ≤ 63) : ((bitsOf f 64).drop 1).take F = bitsOf (fieldOf f (63 - F) F) F := by
  apply List.ext_getElem?
  intro j
  by_cases hj : j < F
  · rw [List.getElem?_take_of_lt hj, List.getElem?_drop, bitsOf_get _ _ _ (by omega), bitsOf_get _ _ _ hj, fieldOf, Nat.testBit_mod_two_pow, Nat.testBit_shiftRight, decide_eq_true (by omega), Bool.true_and]
    congr 2; omega
  · rw [List.getElem?_eq_none (by rw [List.length_take, List.length_drop, bitsOf_length]; omega), List.getElem?_eq_none (by rw [bitsOf_length]; omega)]
/-- a number's string, cut, is what is assembled of its parts -/
theorem asm_cut (n : Nat) (hn : Wd n) (s : Int) (f : Nat) (hr : inR n s = true) (ones : Bool) (run v1 v2 F : Nat)
    (hk : headK (s / 4) = List.replicate run ones ++ [!ones]) (hF : F = n - 2 - run - 2) (hv1 : v1 = (s % 4).toNat / 2 ^ (2 - min (n - 2 - run) 2)) (hv2 : v2 = fieldOf f (63 - F) F) :
    run ≤ n - 1 ∧ asmL n ones run v1 v2 = cutL n s f := by
  have hw := wd_le hn
  have hr' := of_decide_eq_true hr
  have hrun : run ≤ n - 1 := by
    have hl := congrArg List.length hk
    unfold headK at hl
    split at hl <;> simp at hl <;> omega
  refine ⟨hrun, ?_⟩
  unfold asmL cutL canon
  rw [hk]
  by_cases he : n - 1 - run = 0
  · rw [if_pos he, List.append_nil, List.append_assoc, List.append_assoc, List.take_append_of_le_length (by simp; omega), List.take_of_length_le (by simp; omega)]
  · rw [if_neg he, List.append_assoc, List.append_assoc, List.take_append, List.take_of_length_le (by simp; omega), List.length_replicate, show n - 1 - run = (n - 2 - run) + 1 by omega, List.cons_append, List.take_succ_cons, List.nil_append]
    congr 2
    obtain ⟨q, hq⟩ : ∃ q, q = n - 2 - run := ⟨_, rfl⟩
    rw [← hq] at hF hv1 ⊢
    have hm : min q 2 ≤ 2 := Nat.min_le_right _ _
    rw [List.take_append, bitsOf_length, hv1, hv2, ← Nat.shiftRight_eq_div_pow, ← bits_take _ 2 (min q 2) hm, ← hF, bits_field f F (by omega)]
    congr 1
    · by_cases h2 : q ≤ 2
      · rw [Nat.min_eq_left h2]
      · rw [Nat.min_eq_right (by omega), List.take_of_length_le (by rw [bitsOf_length]; exact Nat.le_refl _), List.take_of_length_le (by rw [bitsOf_length]; omega)]
end Go.Proofs.Ytheliihkkoohnaa

namespace Go.Proofs.Ytheliihkkoohnaa
open Go.ChangeShapes Go.WideShapes Go.ChangeAt Go.RowKit
set_option linter.unusedVariables false
set_option linter.unusedSimpArgs false
set_option maxRecDepth 100000

theorem ret_ii {k : IntKind} {a b c d : Int} (h : a = b) (g : c = d) : Ending.returned (.tuple #[.int k a, .int k c]) = .returned (.tuple #[.int k b, .int k d]) := by rw [h, g]
/-! ### the code's helpers: regime, row, room, assemble -/
theorem cregime_any (ones : Bool) (run : Int) (h1 : -1000 ≤ run) (h2 : run ≤ 1000) (w : World) :
    Calls Try.prog 87 #[.bool ones, .int .i64 run] w fun e w' => e = .returned (.int .i64 (if ones then run - 1 else -run)) ∧ w' = w := by
  refine cps fun Q hQ => ?_
  cases ones
  · go_enter Try.func87, Try.ntmps87
    go_wp2
    exact hQ.out _ _ ⟨ret_i rfl, rfl⟩
  · go_enter Try.func87, Try.ntmps87
    go_wp2
    exact hQ.out _ _ ⟨ret_i rfl, rfl⟩
theorem croom_any (n run : Nat) (hn : n ≤ 64) (h2 : run ≤ 64) (w : World) :
    Calls Try.prog 88 #[.int .i64 n, .int .i64 run] w fun e w' => e = .returned (.tuple #[.int .i64 (min (n - 2 - run) 2 : Nat), .int .i64 (n - 2 - run - min (n - 2 - run) 2 : Nat)]) ∧ w' = w := by
  refine cps fun Q hQ => ?_
  obtain ⟨q, hq⟩ : ∃ q, q = n - 2 - run := ⟨_, rfl⟩
  rw [← hq] at hQ
  obtain ⟨E, hE⟩ : ∃ E, E = min q 2 := ⟨_, rfl⟩
  rw [← hE] at hQ
  have HQ2 : Hid (q = n - 2 - run ∧ E = min q 2) := ⟨hq, hE⟩
  clear hq hE
  go_enter Try.func88, Try.ntmps88
  go_wp2
  all_goals
    obtain ⟨h3, h4⟩ := HQ2.out
    exact hQ.out _ _ ⟨ret_ii (by omega) (by omega), rfl⟩
end Go.Proofs.Ytheliihkkoohnaa

namespace Go.Proofs.Ytheliihkkoohnaa
open Go.ChangeShapes Go.WideShapes Go.ChangeAt Go.RowKit
set_option linter.unusedVariables false
set_option linter.unusedSimpArgs false
set_option maxRecDepth 100000

/-! ### assemble -/
theorem putOf_lt (x at_ m v : Nat) (hx : x < 2 ^ 64) : putOf x at_ m v < 2 ^ 64 := by
  unfold putOf
  exact Nat.or_lt_two_pow (Nat.lt_of_le_of_lt Nat.and_le_left hx) (Nat.lt_of_le_of_lt Nat.and_le_left (Nat.mod_lt _ (by decide)))
def asmV (n run : Nat) (ex : Int) : Nat := u64Of (ex / 2 ^ (2 - min (n - 2 - run) 2))
def asmP (n : Nat) (neg ones : Bool) (run : Nat) (ex : Int) (fr : Nat) : Nat :=
  if neg then minusU (numOf (asmL n ones run (asmV n run ex) fr)) % 2 ^ n else numOf (asmL n ones run (asmV n run ex) fr)
theorem isField_nat {a m : Nat} (h : a + m ≤ 64) : isField a m = true := by simp [isField]; omega
end Go.Proofs.Ytheliihkkoohnaa

namespace Go.Proofs.Ytheliihkkoohnaa
open Go.ChangeShapes Go.WideShapes Go.ChangeAt Go.RowKit
set_option linter.unusedVariables false
set_option linter.unusedSimpArgs false
set_option maxRecDepth 100000

/-! ### Split -/
abbrev codeV (c : Int) : Value := .iface 37 (.int .i64 c)
theorem crun_str (n y : Nat) (hn : Wd n) (t : List Bool) (hl : t.length = n - 1) (hy : y % 2 ^ (n - 1) = numOf t) (M : Int) (hM : M = (n : Int) - 1) (w : World) :
    Calls Try.prog 86 #[.int .u64 y, .int .i64 M] w fun e w' => e = .returned (.tuple #[.bool (onesL t), .int .i64 (runL t : Nat), .nilIface]) ∧ w' = w := by
  have hw := wd_le hn
  have := lrun_ok y (n - 1) (by omega) (by omega) w
  rw [show (((n - 1 : Nat) : Int)) = M by omega] at this
  refine this.mono ?_
  rintro e w' ⟨b, k, rfl, hr, rfl⟩
  obtain ⟨rfl, rfl⟩ := hr.one (run_field t y (n - 1) (by omega) hl hy)
  exact ⟨rfl, rfl⟩
theorem cfield_nat (y a m : Nat) (hy : y < 2 ^ 64) (h : a + m ≤ 64) (A : Int) (hA : A = a) (w : World) :
    Calls Try.prog 62 #[.int .u64 y, .int .i64 A, .int .i64 m] w fun e w' => e = .returned (.tuple #[.int .u64 (fieldOf y a m : Nat), .nilIface]) ∧ ∃ q, w' = w.drewN q := by
  subst hA
  have := lfield_ok y a m hy (isField_nat h) w
  rwa [Int.toNat_natCast, Int.toNat_natCast] at this
theorem strS_word (n x : Nat) (hn : Wd n) (hx : x < 2 ^ 64) : (if x.testBit (n - 1) then minusU x else x) % 2 ^ (n - 1) = numOf (strS n x) := by
  have hw := wd_le hn
  have drop1 : ∀ y, numOf ((bitsOf y n).drop 1) = y % 2 ^ (n - 1) := fun y => by
    have := bits_drop1 y n (by omega)
    rw [this, numOf_bits]
  unfold strS
  cases x.testBit (n - 1)
  · simp only [Bool.false_eq_true, if_false]; rw [drop1]
  · simp only [if_true]; rw [drop1]
theorem ext_neg (n x : Nat) (hn : Wd n) : decide (extOf x n < 0) = x.testBit (n - 1) := by
  have h := Nat.mod_lt x (show 0 < 2 ^ n from Nat.pos_of_ne_zero (by simp))
  unfold extOf
  cases x.testBit (n - 1)
  · exact decide_eq_false (by simp only [Bool.toNat_false, Nat.zero_mul]; omega)
  · exact decide_eq_true (by simp only [Bool.toNat_true, Nat.one_mul]; omega)
set_option maxHeartbeats 1000000 in
theorem csplit_real (n x : Nat) (hn : Wd n) (hx : x < 2 ^ 64) (hk : kindOf n (x % 2 ^ n) = 1) (w : World) :
    Calls Try.prog 51 #[.int .i64 n, .int .u64 x] w fun e w' => e = .returned (.tuple #[fdV (x.testBit (n - 1)) (strS n x), .nilIface]) ∧ Below w.heap.size w w' := by
  have k1 := kind_ok n x hn hx
  rw [hk] at k1
  have hw := wd_le hn
  have hlen := strS_length n x
  have k2 := rank_ok n x hn
  have hneg := ext_neg n x hn
  have hm := minusU_wrap x hx
  have hyw := strS_word n x hn hx
  obtain ⟨y, hy⟩ : ∃ y, y = (if x.testBit (n - 1) then minusU x else x) := ⟨_, rfl⟩
  rw [← hy] at hyw
  have hy64 : y < 2 ^ 64 := by rw [hy]; split; exact minusU_lt _; exact hx
  have k3 := fun M hM w => crun_str n y hn (strS n x) hlen hyw M hM w
  replace k3 := k3 ((n : Int) - 1) rfl
  have hrl := runL_le (strS n x)
  have hrl2 := restL_length (strS n x)
  have hr1 : 1 ≤ runL (strS n x) := by
    have := (run_field (strS n x) y (n - 1) (by omega) hlen hyw).low
    exact this
  rw [hlen] at hrl hrl2
  obtain ⟨r, hr⟩ : ∃ r, r = runL (strS n x) := ⟨_, rfl⟩
  obtain ⟨E, hE⟩ : ∃ E, E = min (n - 2 - r) 2 := ⟨_, rfl⟩
  obtain ⟨F, hF⟩ : ∃ F, F = n - 2 - r - E := ⟨_, rfl⟩
  obtain ⟨d, hd⟩ : ∃ d, d = 2 - E := ⟨_, rfl⟩
  have hE' : E = min (restL (strS n x)).length 2 := by rw [hrl2, hE, ← hr]; congr 1; omega
  have hF' : F = (restL (strS n x)).length - E := by rw [hrl2, hF, ← hr]; omega
  obtain ⟨f1, f2⟩ := exp_field (strS n x) y (n - 1) E F hlen hyw hE' hF'
  have hex : expL (strS n x) < 4 := by
    have := numOf_lt ((restL (strS n x) ++ noughts 2).take 2)
    rw [show ((restL (strS n x) ++ noughts 2).take 2).length = 2 by simp] at this
    exact this
  have k4 := cregime_any (onesL (strS n x)) (runL (strS n x)) (by omega) (by omega)
  have k5 := croom_any n (runL (strS n x)) hw.2 (by omega)
  rw [← hr] at k3 k4 k5 hrl hr1
  rw [← hE, ← hF] at k5
  have k6 := cfield_nat y F E hy64 (by omega) F rfl
  have k7 := cfield_nat y 0 F hy64 (by omega) 0 rfl
  rw [f2] at k7
  have hev : fieldOf y F E < 4 := by
    have : 0 < 2 ^ (2 - E) := Nat.pos_of_ne_zero (by simp)
    have h := Nat.le_mul_of_pos_right (fieldOf y F E) this
    omega
  have hdd : (2 : Int) - (E : Int) = (d : Int) := by omega
  have hv : fdV (x.testBit (n - 1)) (strS n x) = .agg #[.bool (x.testBit (n - 1)), .bool (onesL (strS n x)), .int .i64 r, .int .i64 (if onesL (strS n x) then (r : Int) - 1 else -(r : Int)), .int .i64 (E : Nat), .int .i64 (expL (strS n x)), .int .i64 (F : Nat), .int .u64 (fracL (strS n x))] := by
    unfold fdV regL
    rw [← hr, ← hE', show (restL (strS n x)).length - 2 = F by omega]
  rw [hv]
  rw [← hd] at f1
  obtain ⟨ex, hexx⟩ : ∃ ex, ex = expL (strS n x) := ⟨_, rfl⟩
  rw [← hexx] at f1 hex
  rw [← hexx]
  have hsh : ((fieldOf y F E : Nat) : Int) * 2 ^ d = (ex : Int) := by rw [← f1]; simp
  have hshw : wrap64 (((fieldOf y F E : Nat) : Int) * 2 ^ d) = (ex : Int) := by rw [hsh]; unfold wrap64; omega
  clear hsh
  have hd2 : d ≤ 2 := by omega
  have hE2 : E ≤ 2 := by omega
  have hF2 : F ≤ 62 := by omega
  have hr2 : r ≤ 63 := by omega
  clear f1 f2 hv hE hF hE' hF' hd hrl hrl2 hr hexx hyw hlen hk
  obtain ⟨b, hb⟩ : ∃ b, b = x.testBit (n - 1) := ⟨_, rfl⟩
  rw [← hb] at hneg hy
  rw [← hb]
  clear hb
  generalize onesL (strS n x) = o at *
  generalize fracL (strS n x) = fr at *
  generalize fieldOf y F E = ev at *
  obtain ⟨rg, hrg⟩ : ∃ rg : Int, rg = (if o then (r : Int) - 1 else -(r : Int)) := ⟨_, rfl⟩
  rw [← hrg] at k4
  rw [← hrg]
  clear hrg
  generalize extOf x n = ext at *
  refine cps fun Q hQ => ?_
  clear hn
  cases b
  · simp only [Bool.false_eq_true, if_false] at hy
    subst hy
    go_enter Try.func51, Try.ntmps51
    go_wp2_with (first
      | (go_at_call 50; go_must (refine (k1 _).mono ?_); rintro e w1 ⟨rfl, hb1⟩; have R1 := (hb1.block w.heap.size (by simp)).trans (rownew w _ _); have z1 : w.heap.size < w1.heap.size := (by have := hb1.size; simp at this; omega); have HR1 : Hid _ := R1; have HB1 : Hid (Below _ _ _) := hb1; clear hb1 R1)
      | (go_at_call 85; go_must (refine (k2 _).mono ?_); rintro e w2 ⟨rfl, hb2⟩; have R0 := (hb2.block w.heap.size z1).trans HR1.out; have z2 : w.heap.size < w2.heap.size := (Nat.lt_of_lt_of_le z1 hb2.size); have HR0 : Hid _ := R0; have hne1 : ¬ w.heap.size = w2.heap.size := (by omega); have hne2 : ¬ w2.heap.size = w.heap.size := (by omega); have HB2 : Hid (Below _ _ _) := hb2; clear hb2 R0)
      | (go_at_call 86; go_must (refine (k3 _).mono ?_); rintro e w3 ⟨rfl, rfl⟩)
      | (go_at_call 87; go_must (refine (k4 _).mono ?_); rintro e w3 ⟨rfl, rfl⟩)
      | (go_at_call 88; go_must (refine (k5 _).mono ?_); rintro e w3 ⟨rfl, rfl⟩)
      | (go_at_call_of 62 E; go_must (refine (k6 _).mono ?_); rintro e w6 ⟨rfl, q6, hw6⟩; have R6 : w6.heap[w2.heap.size]? = some (.cells #[.bool false, .bool o, .int .i64 r, .int .i64 rg, .int .i64 (E : Nat), .int .i64 0, .int .i64 (F : Nat), .int .u64 0] 84 (0, 0)) := (by rw [hw6]; exact rownew w2 _ _); have B6 : Below w2.heap.size w2 w6 := (by rw [hw6]; exact below_drewN (cmore (Below.refl _ _) _) _); have e0 := rowcell R6 0; have e1 := rowcell R6 1; have e2 := rowcell R6 2; have e3 := rowcell R6 3; have e4 := rowcell R6 4; have e5 := rowcell R6 5; have e6 := rowcell R6 6; have e7 := rowcell R6 7; have ef := rowfree R6; simp only [List.getElem?_toArray, List.getElem?_cons_zero, List.getElem?_cons_succ] at e0 e1 e2 e3 e4 e5 e6 e7; have HR6 : Hid _ := R6; have HB6 : Hid (Below _ _ _) := B6; clear R6 B6 hw6)
      | (go_at_call 62; go_must (refine (k7 _).mono ?_); rintro e w7 ⟨rfl, q7, hw7⟩; have R7 : w7.heap[w2.heap.size]? = some (.cells #[.bool false, .bool o, .int .i64 r, .int .i64 rg, .int .i64 (E : Nat), .int .i64 ex, .int .i64 (F : Nat), .int .u64 0] 84 (0, 0)) := (by rw [hw7]; refine (rowset HR6.out 5 _).trans ?_; simp only [List.setIfInBounds_toArray, List.set_cons_zero, List.set_cons_succ]); have B7 : Below w2.heap.size w2 w7 := (by rw [hw7]; exact below_drewN (cset HB6.out (Nat.le_refl _) _ _) _); have g0 := rowcell R7 0; have g1 := rowcell R7 1; have g2 := rowcell R7 2; have g3 := rowcell R7 3; have g4 := rowcell R7 4; have g5 := rowcell R7 5; have g6 := rowcell R7 6; have g7 := rowcell R7 7; have gf := rowfree R7; simp only [List.getElem?_toArray, List.getElem?_cons_zero, List.getElem?_cons_succ] at g0 g1 g2 g3 g4 g5 g6 g7; have R0 := (B7.block w.heap.size z2).trans HR0.out; have b0 := rowcell R0 0; have b1 := rowcell R0 1; have b2 := rowcell R0 2; have b3 := rowcell R0 3; have b4 := rowcell R0 4; have b5 := rowcell R0 5; have b6 := rowcell R0 6; have b7 := rowcell R0 7; have bf := rowfree R0; simp only [List.getElem?_toArray, List.getElem?_cons_zero, List.getElem?_cons_succ] at b0 b1 b2 b3 b4 b5 b6 b7; have HB7 : Hid (Below _ _ _) := B7; clear R7 B7 R0 hw7 e0 e1 e2 e3 e4 e5 e6 e7 ef))
    have B2 := cthen (cthen (cmore (Below.refl w.heap.size w) _) HB1.out) HB2.out
    have hmw : w.heap.size ≤ w2.heap.size := Nat.le_of_lt z2
    refine bodyPost_ret (v := .tuple #[.agg #[.bool false, .bool o, .int .i64 r, .int .i64 rg, .int .i64 (E : Nat), .int .i64 ex, .int .i64 (F : Nat), .int .u64 fr], .nilIface]) (by simp [results, Try.results51, go_sem, b0, b1, b2, b3, b4, b5, b6, b7, bf, hne1, hne2]) rfl (hQ.out _ _ ⟨rfl, ?_⟩)
    exact cset8 (cset (cthen B2 HB7.out) hmw _ _) (Nat.le_refl _)
  · simp only [if_true] at hy
    rw [← hy] at hm
    clear hy
    go_enter Try.func51, Try.ntmps51
    go_wp2_with (first
      | (go_at_call 50; go_must (refine (k1 _).mono ?_); rintro e w1 ⟨rfl, hb1⟩; have R1 := (hb1.block w.heap.size (by simp)).trans (rownew w _ _); have z1 : w.heap.size < w1.heap.size := (by have := hb1.size; simp at this; omega); have HR1 : Hid _ := R1; have HB1 : Hid (Below _ _ _) := hb1; clear hb1 R1)
      | (go_at_call 85; go_must (refine (k2 _).mono ?_); rintro e w2 ⟨rfl, hb2⟩; have R0 := (hb2.block w.heap.size z1).trans HR1.out; have z2 : w.heap.size < w2.heap.size := (Nat.lt_of_lt_of_le z1 hb2.size); have HR0 : Hid _ := R0; have hne1 : ¬ w.heap.size = w2.heap.size := (by omega); have hne2 : ¬ w2.heap.size = w.heap.size := (by omega); have HB2 : Hid (Below _ _ _) := hb2; clear hb2 R0)
      | (go_at_call 86; go_must (refine (k3 _).mono ?_); rintro e w3 ⟨rfl, rfl⟩)
      | (go_at_call 87; go_must (refine (k4 _).mono ?_); rintro e w3 ⟨rfl, rfl⟩)
      | (go_at_call 88; go_must (refine (k5 _).mono ?_); rintro e w3 ⟨rfl, rfl⟩)
      | (go_at_call_of 62 E; go_must (refine (k6 _).mono ?_); rintro e w6 ⟨rfl, q6, hw6⟩; have R6 : w6.heap[w2.heap.size]? = some (.cells #[.bool true, .bool o, .int .i64 r, .int .i64 rg, .int .i64 (E : Nat), .int .i64 0, .int .i64 (F : Nat), .int .u64 0] 84 (0, 0)) := (by rw [hw6]; exact rownew w2 _ _); have B6 : Below w2.heap.size w2 w6 := (by rw [hw6]; exact below_drewN (cmore (Below.refl _ _) _) _); have e0 := rowcell R6 0; have e1 := rowcell R6 1; have e2 := rowcell R6 2; have e3 := rowcell R6 3; have e4 := rowcell R6 4; have e5 := rowcell R6 5; have e6 := rowcell R6 6; have e7 := rowcell R6 7; have ef := rowfree R6; simp only [List.getElem?_toArray, List.getElem?_cons_zero, List.getElem?_cons_succ] at e0 e1 e2 e3 e4 e5 e6 e7; have HR6 : Hid _ := R6; have HB6 : Hid (Below _ _ _) := B6; clear R6 B6 hw6)
      | (go_at_call 62; go_must (refine (k7 _).mono ?_); rintro e w7 ⟨rfl, q7, hw7⟩; have R7 : w7.heap[w2.heap.size]? = some (.cells #[.bool true, .bool o, .int .i64 r, .int .i64 rg, .int .i64 (E : Nat), .int .i64 ex, .int .i64 (F : Nat), .int .u64 0] 84 (0, 0)) := (by rw [hw7]; refine (rowset HR6.out 5 _).trans ?_; simp only [List.setIfInBounds_toArray, List.set_cons_zero, List.set_cons_succ]); have B7 : Below w2.heap.size w2 w7 := (by rw [hw7]; exact below_drewN (cset HB6.out (Nat.le_refl _) _ _) _); have g0 := rowcell R7 0; have g1 := rowcell R7 1; have g2 := rowcell R7 2; have g3 := rowcell R7 3; have g4 := rowcell R7 4; have g5 := rowcell R7 5; have g6 := rowcell R7 6; have g7 := rowcell R7 7; have gf := rowfree R7; simp only [List.getElem?_toArray, List.getElem?_cons_zero, List.getElem?_cons_succ] at g0 g1 g2 g3 g4 g5 g6 g7; have R0 := (B7.block w.heap.size z2).trans HR0.out; have b0 := rowcell R0 0; have b1 := rowcell R0 1; have b2 := rowcell R0 2; have b3 := rowcell R0 3; have b4 := rowcell R0 4; have b5 := rowcell R0 5; have b6 := rowcell R0 6; have b7 := rowcell R0 7; have bf := rowfree R0; simp only [List.getElem?_toArray, List.getElem?_cons_zero, List.getElem?_cons_succ] at b0 b1 b2 b3 b4 b5 b6 b7; have HB7 : Hid (Below _ _ _) := B7; clear R7 B7 R0 hw7 e0 e1 e2 e3 e4 e5 e6 e7 ef))
    have B2 := cthen (cthen (cmore (Below.refl w.heap.size w) _) HB1.out) HB2.out
    have hmw : w.heap.size ≤ w2.heap.size := Nat.le_of_lt z2
    refine bodyPost_ret (v := .tuple #[.agg #[.bool true, .bool o, .int .i64 r, .int .i64 rg, .int .i64 (E : Nat), .int .i64 ex, .int .i64 (F : Nat), .int .u64 fr], .nilIface]) (by simp [results, Try.results51, go_sem, b0, b1, b2, b3, b4, b5, b6, b7, bf, hne1, hne2]) rfl (hQ.out _ _ ⟨rfl, ?_⟩)
    exact cset8 (cset (cthen B2 HB7.out) hmw _ _) (Nat.le_refl _)
end Go.Proofs.Ytheliihkkoohnaa

namespace Go.Proofs.Ytheliihkkoohnaa
open Go.ChangeShapes Go.WideShapes Go.ChangeAt Go.RowKit
set_option linter.unusedVariables false
set_option linter.unusedSimpArgs false
set_option maxRecDepth 100000

theorem csplit_other (n x : Nat) (hn : Wd n) (hx : x < 2 ^ 64) (hk : kindOf n (x % 2 ^ n) ≠ 1) (w : World) :
    Calls Try.prog 51 #[.int .i64 n, .int .u64 x] w fun e w' => e = .returned (.tuple #[fd0, .nilIface]) ∧ Below w.heap.size w w' := by
  have k1 := kind_ok n x hn hx
  obtain ⟨k, hkk⟩ : ∃ k, k = kindOf n (x % 2 ^ n) := ⟨_, rfl⟩
  rw [← hkk] at k1 hk
  clear hn hkk
  refine cps fun Q hQ => ?_
  have hd : (k == 1) = false := beq_eq_false_iff_ne.2 hk
  go_enter Try.func51, Try.ntmps51
  go_wp2_with (go_at_call 50; refine (k1 _).mono ?_; rintro e w1 ⟨rfl, hb1⟩; have HB1 : Hid (Below _ _ _) := hb1; have R0 := (hb1.block w.heap.size (by simp)).trans (rownew w _ _); have b0 := rowcell R0 0; have b1 := rowcell R0 1; have b2 := rowcell R0 2; have b3 := rowcell R0 3; have b4 := rowcell R0 4; have b5 := rowcell R0 5; have b6 := rowcell R0 6; have b7 := rowcell R0 7; have bf := rowfree R0; simp only [List.getElem?_toArray, List.getElem?_cons_zero, List.getElem?_cons_succ] at b0 b1 b2 b3 b4 b5 b6 b7; clear hb1 R0)
  refine bodyPost_ret (v := .tuple #[fd0, .nilIface]) (by simp [results, Try.results51, go_sem, b0, b1, b2, b3, b4, b5, b6, b7, fd0]) rfl (hQ.out _ _ ⟨rfl, ?_⟩)
  exact cset8 (cthen (cmore (Below.refl _ _) _) HB1.out) (Nat.le_refl _)
theorem csplit_no (n : Int) (x : Nat) (hn : isW n = false) (w : World) :
    Calls Try.prog 51 #[.int .i64 n, .int .u64 x] w fun e w' => e = .returned (.tuple #[fd0, codeV 2]) ∧ Below w.heap.size w w' := by
  have k1 := kind_no n x hn
  clear hn
  refine cps fun Q hQ => ?_
  go_enter Try.func51, Try.ntmps51
  go_wp2_with (go_at_call 50; refine (k1 _).mono ?_; rintro e w1 ⟨rfl, hb1⟩; have HB1 : Hid (Below _ _ _) := hb1; have R0 := (hb1.block w.heap.size (by simp)).trans (rownew w _ _); have b0 := rowcell R0 0; have b1 := rowcell R0 1; have b2 := rowcell R0 2; have b3 := rowcell R0 3; have b4 := rowcell R0 4; have b5 := rowcell R0 5; have b6 := rowcell R0 6; have b7 := rowcell R0 7; have bf := rowfree R0; simp only [List.getElem?_toArray, List.getElem?_cons_zero, List.getElem?_cons_succ] at b0 b1 b2 b3 b4 b5 b6 b7; clear hb1 R0)
  refine bodyPost_ret (v := .tuple #[fd0, codeV 2]) (by simp [results, Try.results51, go_sem, b0, b1, b2, b3, b4, b5, b6, b7, fd0]) rfl (hQ.out _ _ ⟨rfl, ?_⟩)
  exact cset8 (cthen (cmore (Below.refl _ _) _) HB1.out) (Nat.le_refl _)
/-! ### Decode -/
theorem cdecode_other (n x : Nat) (hn : Wd n) (hx : x < 2 ^ 64) (hk : kindOf n (x % 2 ^ n) ≠ 1) (w : World) :
    Calls Try.prog 27 #[.int .i64 n, .int .u64 x] w fun e w' => e = .returned (.tuple #[numV (kindOf n (x % 2 ^ n)) false 0 0, .nilIface]) ∧ Below w.heap.size w w' := by
  have k1 := kind_ok n x hn hx
  generalize kindOf n (x % 2 ^ n) = k at *
  clear hn
  refine cps fun Q hQ => ?_
  have hd : (k == 1) = false := beq_eq_false_iff_ne.2 hk
  go_enter Try.func27, Try.ntmps27
  go_wp2_with (go_at_call 50; refine (k1 _).mono ?_; rintro e w1 ⟨rfl, hb1⟩; have hc := fun b o h => hb1.cell (p := ⟨b, o, none⟩) h; have hf := fun b o h => hb1.frozen (p := ⟨b, o, none⟩) h; have hz := hb1.size; simp at hz; have hz' : w.heap.size < w1.heap.size := hz)
  refine bodyPost_ret (v := .tuple #[numV k false 0 0, .nilIface]) (by simp [results, Try.results27, go_sem, hc, hz', numV]) rfl (hQ.out _ _ ⟨rfl, ?_⟩)
  exact cset4 (cthen (cmore (Below.refl _ _) _) hb1) (Nat.le_refl _)
theorem cdecode_no (n : Int) (x : Nat) (hn : isW n = false) (w : World) :
    Calls Try.prog 27 #[.int .i64 n, .int .u64 x] w fun e w' => e = .returned (.tuple #[numV 0 false 0 0, codeV 2]) ∧ Below w.heap.size w w' := by
  have k1 := kind_no n x hn
  clear hn
  refine cps fun Q hQ => ?_
  go_enter Try.func27, Try.ntmps27
  go_wp2_with (go_at_call 50; refine (k1 _).mono ?_; rintro e w1 ⟨rfl, hb1⟩; have hc := fun b o h => hb1.cell (p := ⟨b, o, none⟩) h; have hf := fun b o h => hb1.frozen (p := ⟨b, o, none⟩) h; have hz := hb1.size; simp at hz; have hz' : w.heap.size < w1.heap.size := hz)
  refine bodyPost_ret (v := .tuple #[numV 0 false 0 0, codeV 2]) (by simp [results, Try.results27, go_sem, hc, hz', numV]) rfl (hQ.out _ _ ⟨rfl, ?_⟩)
  exact cset4 (cthen (cmore (Below.refl _ _) _) hb1) (Nat.le_refl _)
theorem word_frac (t : List Bool) (h : (restL t).length ≤ 63) : wordL t = 9223372036854775808 + fracL t * 2 ^ (63 - ((restL t).length - 2)) ∧ fracL t * 2 ^ (63 - ((restL t).length - 2)) < 9223372036854775808 := by
  have hl : ((restL t).drop 2).length = (restL t).length - 2 := by rw [List.length_drop]
  have e : ((restL t).drop 2 ++ noughts 63).take 63 = (restL t).drop 2 ++ noughts (63 - ((restL t).length - 2)) := by
    rw [List.take_append, List.take_of_length_le (by omega), take_noughts _ _ (by omega), hl]
  have h2 := numOf_lt ((restL t).drop 2 ++ noughts (63 - ((restL t).length - 2)))
  have h3 : ((restL t).drop 2 ++ noughts (63 - ((restL t).length - 2))).length = 63 := by
    rw [List.length_append, hl, List.length_replicate]; omega
  rw [h3, numOf_append, numOf_noughts, List.length_replicate] at h2
  refine ⟨?_, h2⟩
  unfold wordL fracL
  rw [e, numOf_cons, h3, numOf_append, numOf_noughts, List.length_replicate]
  rfl
theorem word_or (X : Nat) (h : X < 9223372036854775808) : bits BinOp.or IntKind.u64 9223372036854775808 (X : Int) = ((9223372036854775808 + X : Nat) : Int) := by
  have := u64_or_nat 9223372036854775808 X (by decide) (by omega)
  rw [show ((9223372036854775808 : Nat) : Int) = 9223372036854775808 from rfl] at this
  rw [this]
  congr 1
  have e := Nat.two_pow_add_eq_or_of_lt (i := 63) (b := X) h 1
  rw [show 2 ^ 63 * 1 = 9223372036854775808 by decide] at e
  exact e.symm
set_option maxHeartbeats 1000000 in
theorem cdecode_real (n x : Nat) (hn : Wd n) (hx : x < 2 ^ 64) (hk : kindOf n (x % 2 ^ n) = 1) (w : World) :
    Calls Try.prog 27 #[.int .i64 n, .int .u64 x] w fun e w' => e = .returned (.tuple #[numV 1 (x.testBit (n - 1)) (scaleL (strS n x)) (wordL (strS n x)), .nilIface]) ∧ Below w.heap.size w w' := by
  have k1 := kind_ok n x hn hx
  have k2 := csplit_real n x hn hx hk
  rw [hk] at k1
  have hw := wd_le hn
  have hlen := strS_length n x
  obtain ⟨hw1, hw2⟩ := word_frac (strS n x) (by rw [restL_length, hlen]; omega)
  have hfb : (restL (strS n x)).length - 2 ≤ 61 := by rw [restL_length, hlen]; omega
  have hrg : -64 ≤ regL (strS n x) ∧ regL (strS n x) ≤ 64 := by
    have := runL_le (strS n x)
    unfold regL; split <;> omega
  have hex : expL (strS n x) < 4 := by
    have := numOf_lt ((restL (strS n x) ++ noughts 2).take 2)
    rw [show ((restL (strS n x) ++ noughts 2).take 2).length = 2 by simp] at this
    exact this
  unfold fdV at k2
  unfold scaleL
  have hor := word_or _ hw2
  rw [← hw1] at hor
  obtain ⟨d, hd⟩ : ∃ d, d = 63 - ((restL (strS n x)).length - 2) := ⟨_, rfl⟩
  rw [← hd] at hor hw2
  have hdd : (63 : Int) - (((restL (strS n x)).length - 2 : Nat) : Int) = (d : Int) := by omega
  have hd63 : d ≤ 63 := by omega
  clear hn hx hk hlen hw hw1 hd
  generalize onesL (strS n x) = o at *
  generalize runL (strS n x) = r at *
  generalize regL (strS n x) = reg at *
  generalize expL (strS n x) = ex at *
  generalize fracL (strS n x) = fr at *
  generalize wordL (strS n x) = wd at *
  generalize (restL (strS n x)).length - 2 = fb at *
  generalize min (restL (strS n x)).length 2 = eb at *
  have hsc : IntKind.i64.wrap (IntKind.i64.wrap (reg * 4) + (ex : Int)) = 4 * reg + ex := by
    rw [wrapI (n := reg * 4) (by omega), wrapI (by omega)]; omega
  have hsh : IntKind.u64.wrap ((fr : Int) * 2 ^ d) = ((fr * 2 ^ d : Nat) : Int) := by
    have e : ((fr : Int) * 2 ^ d) = ((fr * 2 ^ d : Nat) : Int) := by simp
    rw [e, wrapN, Nat.mod_eq_of_lt (by omega)]
  generalize fr * 2 ^ d = X at *
  refine cps fun Q hQ => ?_
  generalize x.testBit (n - 1) = b at *
  go_enter Try.func27, Try.ntmps27
  go_wp2_with (first
    | (go_at_call 50; refine (k1 _).mono ?_; rintro e w1 ⟨rfl, hb1⟩; have HB1 : Hid (Below _ _ _) := hb1; clear hb1)
    | (go_at_call 51; refine (k2 _).mono ?_; rintro e w2 ⟨rfl, hb2⟩; have z1 : w.heap.size < w1.heap.size := (by have := HB1.out.size; simp at this; omega); have z2 := hb2.size; have R0 := (Below.heap_alloc w2 (.cells #[.bool b, .bool o, .int .i64 r, .int .i64 reg, .int .i64 (eb : Nat), .int .i64 ex, .int .i64 (fb : Nat), .int .u64 fr] 84) _ (by omega)).trans ((hb2.block _ z1).trans ((HB1.out.block _ (by simp)).trans (rownew w _ _))); have BW : Hid (Below _ _ _) := cmore (cthen (cthen (cmore (Below.refl _ _) _) HB1.out) hb2) (.cells #[.bool b, .bool o, .int .i64 r, .int .i64 reg, .int .i64 (eb : Nat), .int .i64 ex, .int .i64 (fb : Nat), .int .u64 fr] 84); have z3 : w.heap.size < w2.heap.size := (by omega); clear hb2 z2; have HR0 : Hid _ := R0; clear R0))
  obtain ⟨g, hg⟩ : ∃ g, g = w2.heap.size := ⟨_, rfl⟩
  have RF := rownew' w2 #[.bool b, .bool o, .int .i64 r, .int .i64 reg, .int .i64 (eb : Nat), .int .i64 ex, .int .i64 (fb : Nat), .int .u64 fr] 84 g hg
  rw [← hg]
  generalize w2.alloc (.cells #[.bool b, .bool o, .int .i64 r, .int .i64 reg, .int .i64 (eb : Nat), .int .i64 ex, .int .i64 (fb : Nat), .int .u64 fr] 84) = W at *
  have x0 := rowcell RF 0
  have x3 := rowcell RF 3
  have x5 := rowcell RF 5
  have x6 := rowcell RF 6
  have x7 := rowcell RF 7
  have b0 := rowcell HR0.out 0
  have b1 := rowcell HR0.out 1
  have b2 := rowcell HR0.out 2
  have b3 := rowcell HR0.out 3
  have bf := rowfree HR0.out
  simp only [List.getElem?_toArray, List.getElem?_cons_zero, List.getElem?_cons_succ] at x0 x3 x5 x6 x7 b0 b1 b2 b3
  have gw : IntKind.i64.wrap (63 - (fb : Int)) = (d : Int) := by rw [wrapI (by omega), hdd]
  have hgw : w.heap.size ≠ g := by omega
  have hab : ∀ o o' : Nat, (⟨w.heap.size, o, none⟩ : Addr) ≠ ⟨g, o', none⟩ := fun o o' e => hgw (congrArg Addr.block e)
  have far : ∀ (W1 : World) (u0 u1 u2 u3 : Value) (o : Nat), ((((W1.setCell ⟨w.heap.size, 0, none⟩ u0).setCell ⟨w.heap.size, 1, none⟩ u1).setCell ⟨w.heap.size, 2, none⟩ u2).setCell ⟨w.heap.size, 3, none⟩ u3).drew.cell? ⟨g, o, none⟩ = W1.cell? ⟨g, o, none⟩ := fun W1 u0 u1 u2 u3 o => by
    show ((((W1.setCell ⟨w.heap.size, 0, none⟩ u0).setCell ⟨w.heap.size, 1, none⟩ u1).setCell ⟨w.heap.size, 2, none⟩ u2).setCell ⟨w.heap.size, 3, none⟩ u3).cell? ⟨g, o, none⟩ = W1.cell? ⟨g, o, none⟩
    rw [World.cell?_setCell_other _ _ _ _ (hab _ _), World.cell?_setCell_other _ _ _ _ (hab _ _), World.cell?_setCell_other _ _ _ _ (hab _ _), World.cell?_setCell_other _ _ _ _ (hab _ _)]
  clear k1 k2 hg hdd
  have gd : (0 : Int) ≤ (d : Int) := Int.natCast_nonneg d
  refine wpC_region (fun W => W.cell? ⟨g, 0, none⟩ = some (.bool b) ∧ W.cell? ⟨g, 3, none⟩ = some (.int .i64 reg) ∧ W.cell? ⟨g, 5, none⟩ = some (.int .i64 ex) ∧ W.cell? ⟨g, 6, none⟩ = some (.int .i64 (fb : Nat)) ∧ W.cell? ⟨g, 7, none⟩ = some (.int .u64 fr)) (by kernel_rfl) ?_
  refine wpC_take 0 (v := ?_) rfl (by kernel_rfl) (fun _ _ _ h => h) (by kernel_rfl) ?_ ?_; rotate_left; · (intro wC hC; obtain ⟨c0, c3, c5, c6, c7⟩ := hC; go_simp <;> with_reducible rfl)
  refine wpC_take 1 (v := ?_) rfl (by kernel_rfl) (fun _ _ _ h => h) (by kernel_rfl) ?_ ?_; rotate_left; · (intro wC hC; obtain ⟨c0, c3, c5, c6, c7⟩ := hC; go_simp <;> with_reducible rfl)
  refine wpC_take 2 (v := ?_) rfl (by kernel_rfl) (fun _ _ _ h => h) (by kernel_rfl) ?_ ?_; rotate_left; · (intro wC hC; obtain ⟨c0, c3, c5, c6, c7⟩ := hC; go_simp <;> with_reducible rfl)
  refine wpC_take 3 (v := ?_) rfl (by kernel_rfl) (fun _ _ _ h => h) (by kernel_rfl) ?_ ?_; rotate_left; · (intro wC hC; obtain ⟨c0, c3, c5, c6, c7⟩ := hC; go_simp <;> with_reducible rfl)
  refine wpC_take 4 (v := ?_) rfl (by kernel_rfl) (fun _ _ _ h => h) (by kernel_rfl) ?_ ?_; rotate_left; · (intro wC hC; obtain ⟨c0, c3, c5, c6, c7⟩ := hC; go_simp <;> with_reducible rfl)
  refine wpC_take 5 (v := ?_) rfl (by kernel_rfl) (fun _ _ _ h => h) (by kernel_rfl) ?_ ?_; rotate_left; · (intro wC hC; obtain ⟨c0, c3, c5, c6, c7⟩ := hC; go_simp <;> with_reducible rfl)
  refine wpC_take 6 (v := ?_) rfl (by kernel_rfl) (fun _ _ _ h => h) (by kernel_rfl) ?_ ?_; rotate_left; · (intro wC hC; obtain ⟨c0, c3, c5, c6, c7⟩ := hC; go_simp <;> with_reducible rfl)
  refine wpC_take 7 (v := ?_) rfl (by kernel_rfl) (fun _ _ _ h => h) (by kernel_rfl) ?_ ?_; rotate_left; · (intro wC hC; obtain ⟨c0, c3, c5, c6, c7⟩ := hC; go_simp <;> with_reducible rfl)
  refine wpC_take 8 (v := ?_) rfl (by kernel_rfl) (fun _ _ _ h => h) (by kernel_rfl) ?_ ?_; rotate_left; · (intro wC hC; obtain ⟨c0, c3, c5, c6, c7⟩ := hC; go_simp <;> with_reducible rfl)
  refine wpC_take 9 (v := ?_) rfl (by kernel_rfl) (fun _ _ _ h => h) (by kernel_rfl) ?_ ?_; rotate_left; · (intro wC hC; obtain ⟨c0, c3, c5, c6, c7⟩ := hC; go_simp <;> with_reducible rfl)
  refine wpC_take 10 (v := ?_) rfl (by kernel_rfl) (fun _ _ _ h => h) (by kernel_rfl) ?_ ?_; rotate_left; · (intro wC hC; obtain ⟨c0, c3, c5, c6, c7⟩ := hC; go_simp <;> with_reducible rfl)
  refine wpC_take 11 (v := ?_) rfl (by kernel_rfl) (fun _ _ _ h => h) (by kernel_rfl) ?_ ?_; rotate_left; · (intro wC hC; obtain ⟨c0, c3, c5, c6, c7⟩ := hC; go_simp <;> with_reducible rfl)
  refine wpC_take 12 (v := ?_) rfl (by kernel_rfl) (fun _ _ _ h => h) (by kernel_rfl) ?_ ?_; rotate_left; · (intro wC hC; obtain ⟨c0, c3, c5, c6, c7⟩ := hC; go_simp <;> with_reducible rfl)
  refine wpC_take 13 (v := ?_) rfl (by kernel_rfl) (fun _ _ _ h => h) (by kernel_rfl) ?_ ?_; rotate_left; · (intro wC hC; obtain ⟨c0, c3, c5, c6, c7⟩ := hC; go_simp <;> with_reducible rfl)
  refine wpC_take 14 (v := ?_) rfl (by kernel_rfl) (fun _ _ _ h => h) (by kernel_rfl) ?_ ?_; rotate_left; · (intro wC hC; obtain ⟨c0, c3, c5, c6, c7⟩ := hC; go_simp <;> with_reducible rfl)
  refine wpC_take 15 (v := ?_) rfl (by kernel_rfl) (fun _ _ _ h => h) (by kernel_rfl) ?_ ?_; rotate_left; · (intro wC hC; obtain ⟨c0, c3, c5, c6, c7⟩ := hC; go_simp <;> with_reducible rfl)
  refine wpC_step 16 rfl (by kernel_rfl) (by kernel_rfl) ⟨x0, x3, x5, x6, x7⟩ (fun K hK => ?_)
  go_simp
  try (refine hK _ _ ?_; clear hK K)
  refine wpC_take 17 (v := ?_) rfl (by kernel_rfl) (fun _ _ _ h => h) (by kernel_rfl) ?_ ?_; rotate_left; · (intro wC hC; obtain _ := hC; go_simp <;> with_reducible rfl)
  refine wpC_done (by kernel_rfl) ⟨(far _ _ _ _ _ _).trans x0, (far _ _ _ _ _ _).trans x3, (far _ _ _ _ _ _).trans x5, (far _ _ _ _ _ _).trans x6, (far _ _ _ _ _ _).trans x7⟩ ?_
  go_wp2
  refine bodyPost_ret (v := .tuple #[numV 1 b (4 * reg + ex) wd, .nilIface]) (by simp [results, Try.results27, go_sem, b0, b1, b2, b3, numV]) rfl (hQ.out _ _ ⟨rfl, ?_⟩)
  exact cdrew (cset4 BW.out (Nat.le_refl _))
end Go.Proofs.Ytheliihkkoohnaa

namespace Go.Proofs.Ytheliihkkoohnaa
open Go.ChangeShapes Go.WideShapes Go.ChangeAt Go.RowKit
set_option linter.unusedVariables false
set_option linter.unusedSimpArgs false
set_option maxRecDepth 100000

/-! ### what is assembled -/
theorem asmV_nat (n run x : Nat) (h : x < 4) : asmV n run (x : Int) = x / 2 ^ (2 - min (n - 2 - run) 2) := by
  unfold asmV u64Of
  obtain ⟨j, hj⟩ : ∃ j, j = 2 ^ (2 - min (n - 2 - run) 2) := ⟨_, rfl⟩
  have e : ((2 : Int) ^ (2 - min (n - 2 - run) 2)) = ((j : Nat) : Int) := by rw [hj]; simp
  rw [e, ← hj, ← Int.natCast_ediv]
  have hq := Nat.div_le_self x j
  generalize x / j = q at *
  omega
theorem asmP_parts (n : Nat) (hn : Wd n) (neg : Bool) (t : List Bool) (hl : t.length = n - 1) (ht : true ∈ t) : asmP n neg (onesL t) (runL t) (expL t : Nat) (fracL t) = patOf n neg t := by
  have hw := wd_le hn
  have hex : expL t < 4 := by
    have := numOf_lt ((restL t ++ noughts 2).take 2)
    rw [show ((restL t ++ noughts 2).take 2).length = 2 by simp] at this
    exact this
  unfold asmP
  rw [asmV_nat n _ _ hex, asm_parts n t (by omega) hl _ rfl]
  exact pat_neg n hn neg t hl ht (Nat.lt_of_lt_of_le (numOf_lt _) (Nat.pow_le_pow_right (by decide) (by omega)))
theorem asmP_cut (n : Nat) (hn : Wd n) (neg : Bool) (s : Int) (f : Nat) (hr : inR n s = true) (ones : Bool) (run F : Nat) (hk : headK (s / 4) = List.replicate run ones ++ [!ones]) (hF : F = n - 2 - run - 2) :
    run ≤ n - 1 ∧ asmP n neg ones run (((s % 4).toNat : Nat) : Int) (fieldOf f (63 - F) F) = patOf n neg (cutL n s f) := by
  have hw := wd_le hn
  obtain ⟨h1, h2⟩ := asm_cut n hn s f hr ones run _ _ F hk hF rfl rfl
  obtain ⟨ht, hl⟩ := cut_true n s f hn hr
  refine ⟨h1, ?_⟩
  unfold asmP
  rw [asmV_nat n _ _ (by omega), h2]
  exact pat_neg n hn neg (cutL n s f) hl ht (Nat.lt_of_lt_of_le (numOf_lt _) (Nat.pow_le_pow_right (by decide) (by rw [hl]; omega)))
theorem asmP_lt (n : Nat) (hn : Wd n) (neg ones : Bool) (run : Nat) (h : run ≤ n - 1) (ex : Int) (fr : Nat) : asmP n neg ones run ex fr < 2 ^ 64 := by
  have hw := wd_le hn
  unfold asmP
  split
  · exact Nat.lt_of_le_of_lt (Nat.mod_le _ _) (minusU_lt _)
  · exact Nat.lt_of_lt_of_le (numOf_lt _) (Nat.pow_le_pow_right (by decide) (by rw [asmL_length n ones run _ _ h]; omega))
/-! ### parts -/
end Go.Proofs.Ytheliihkkoohnaa

namespace Go.Proofs.Ytheliihkkoohnaa
open Go.ChangeShapes Go.WideShapes Go.ChangeAt Go.RowKit
set_option linter.unusedVariables false
set_option linter.unusedSimpArgs false
set_option maxRecDepth 100000

/-! ### what a width is -/
theorem bmoreS {a w : World} (h : Below a.heap.size a w) (o : Obj) : Below a.heap.size a (w.alloc o) := h.alloc h.size o
theorem bthenS {a W w : World} (h : Below a.heap.size a W) (hb : Below W.heap.size W w) : Below a.heap.size a w := h.trans (hb.mono h.size)
theorem bsetS {a W : World} {b : Nat} (h : Below a.heap.size a W) (hb : a.heap.size ≤ b) (o : Nat) (v : Value) : Below a.heap.size a (W.setCell ⟨b, o, none⟩ v) := h.setCell hb _
def shp (n m : Nat) : Value := .agg #[.int .i64 n, .int .u64 (m - 1 : Nat), .int .u64 1, .int .u64 m, .int .i64 (4 * n - 8 : Nat)]
def shp0 : Value := .agg #[.int .i64 0, .int .u64 0, .int .u64 0, .int .u64 0, .int .i64 0]
theorem two_pow_lt {n : Nat} (h : Wd n) : 1 ≤ 2 ^ (n - 1) ∧ 2 ^ (n - 1) ≤ 9223372036854775808 := by rcases h with rfl | rfl | rfl | rfl <;> decide
theorem of_no (n : Int) (hn : isW n = false) (w : World) :
    Calls Try.prog 59 #[.int .i64 n] w fun e w' => e = .returned (.tuple #[shp0, .iface 37 (.int .i64 2)]) ∧ Below w.heap.size w w' := by
  have k1 := known_any n
  rw [hn] at k1
  clear hn
  refine cps fun Q hQ => ?_
  go_enter Try.func59, Try.ntmps59
  go_wp2_with (go_at_call 61; refine (k1 _).mono ?_; rintro e w1 ⟨rfl, hb1⟩; have hc := fun b o h => hb1.cell (p := ⟨b, o, none⟩) h; have hf := fun b o h => hb1.frozen (p := ⟨b, o, none⟩) h; have hz := hb1.size; simp at hz)
  have hz' : w.heap.size < w1.heap.size := hz
  refine bodyPost_ret (v := .tuple #[shp0, .iface 37 (.int .i64 2)]) (by simp [results, Try.results59, go_sem, hc, hz', shp0]) rfl (hQ.out _ _ ⟨rfl, ?_⟩)
  exact bsetS (bsetS (bsetS (bsetS (bsetS (bthenS (bmoreS (Below.refl _ _) _) hb1) (Nat.le_refl _) _ _) (Nat.le_refl _) _ _) (Nat.le_refl _) _ _) (Nat.le_refl _) _ _) (Nat.le_refl _) _ _
theorem of_ok (n : Nat) (hn : Wd n) (w : World) :
    Calls Try.prog 59 #[.int .i64 n] w fun e w' => e = .returned (.tuple #[shp n (2 ^ (n - 1)), .nilIface]) ∧ Below w.heap.size w w' := by
  have k1 := known_any n
  rw [isW_of hn] at k1
  have hw := wd_le hn
  have k2 := nar_any n (by omega) hw.2
  have hm := two_pow_lt hn
  clear hn
  refine cps fun Q hQ => ?_
  generalize 2 ^ (n - 1) = m at *
  have e1 : (m : Int) - 1 = ((m - 1 : Nat) : Int) := by omega
  have e2 : 4 * (n : Int) - 8 = ((4 * n - 8 : Nat) : Int) := by omega
  go_enter Try.func59, Try.ntmps59
  go_wp2_with (first
    | (go_at_call 61; refine (k1 _).mono ?_; rintro e w1 ⟨rfl, hb1⟩; have hc := fun b o h => hb1.cell (p := ⟨b, o, none⟩) h; have hf := fun b o h => hb1.frozen (p := ⟨b, o, none⟩) h; have hz := hb1.size; simp at hz)
    | (go_at_call 84; refine (k2 _).mono ?_; rintro e w1 ⟨rfl, rfl⟩))
  have hz' : w.heap.size < w1.heap.size := hz
  refine bodyPost_ret (v := .tuple #[shp n m, .nilIface]) (by simp [results, Try.results59, go_sem, hc, hz', shp]) rfl (hQ.out _ _ ⟨rfl, ?_⟩)
  exact bsetS (bsetS (bsetS (bsetS (bsetS (bthenS (bmoreS (Below.refl _ _) _) hb1) (Nat.le_refl _) _ _) (Nat.le_refl _) _ _) (Nat.le_refl _) _ _) (Nat.le_refl _) _ _) (Nat.le_refl _) _ _
end Go.Proofs.Ytheliihkkoohnaa

namespace Go.Proofs.Ytheliihkkoohnaa
open Go.ChangeShapes Go.WideShapes Go.ChangeAt Go.RowKit
set_option linter.unusedVariables false
set_option linter.unusedSimpArgs false
set_option maxRecDepth 100000

/-! ### Join -/
end Go.Proofs.Ytheliihkkoohnaa

namespace Go.Proofs.Ytheliihkkoohnaa
open Go.ChangeShapes Go.WideShapes Go.ChangeAt Go.RowKit
set_option linter.unusedVariables false
set_option linter.unusedSimpArgs false
set_option maxRecDepth 100000

/-! ### sound -/
end Go.Proofs.Ytheliihkkoohnaa

namespace Go.Proofs.Ytheliihkkoohnaa
open Go.ChangeShapes Go.WideShapes Go.ChangeAt Go.RowKit
set_option linter.unusedVariables false
set_option linter.unusedSimpArgs false
set_option maxRecDepth 100000

/-! ### Encode -/
end Go.Proofs.Ytheliihkkoohnaa

namespace Go.Proofs.Ytheliihkkoohnaa
set_option maxRecDepth 100000
/-! ### the contracts of package codec stand in CkE (Split), CkF (Decode), CkH (Join), CkI (Encode) -/
end Go.Proofs.Ytheliihkkoohnaa

namespace Go.Proofs.Ytheliihkkoohnaa
open Go.ChangeShapes Go.WideShapes Go.ChangeAt Go.RowKit
set_option linter.unusedVariables false
set_option linter.unusedSimpArgs false
set_option maxRecDepth 100000

end Go.Proofs.Ytheliihkkoohnaa

namespace Go.Proofs.Ytheliihkkoohnaa
set_option maxRecDepth 100000
set_option linter.unusedVariables false
set_option linter.unusedSimpArgs false

/-! ### patterns come back (plain mathematics) -/
theorem inR_of (m : Nat) (t : List Bool) (hm : Wd m) (hl : t.length = m - 1) (ht : true ∈ t) : inR m (scaleL t) = true := by
  have hw := wd_le hm
  have hne : t ≠ [] := by rintro rfl; cases ht
  have hex : expL t < 4 := by
    have := numOf_lt ((restL t ++ noughts 2).take 2)
    rw [show ((restL t ++ noughts 2).take 2).length = 2 by simp] at this
    exact this
  refine decide_eq_true ?_
  obtain ⟨b, r, tl, rfl, htl⟩ := split_run t hne
  rw [List.length_append, List.length_replicate] at hl
  unfold scaleL regL
  rw [runL_rep b r tl htl, onesL_rep]
  rcases htl with rfl | ⟨u, rfl⟩
  · rw [List.append_nil] at *
    have hb : b = true := (List.mem_replicate.1 ht).2.symm
    subst hb
    have h0 : expL (List.replicate (r + 1) true) = 0 := by
      unfold expL; rw [restL_end]; decide
    rw [h0]
    simp at hl ⊢; omega
  · rw [List.length_cons] at hl
    generalize expL (List.replicate (r + 1) b ++ (!b) :: u) = ex at *
    cases b <;> simp <;> omega
theorem cut_home (m : Nat) (t : List Bool) (hm : Wd m) (hl : t.length = m - 1) (ht : true ∈ t) : cutL m (scaleL t) (wordL t) = t := by
  have hw := wd_le hm
  obtain ⟨z, hz, _⟩ := canon_parse t ht (by omega)
  unfold cutL
  rw [hz, List.take_append_of_le_length (by omega), List.take_of_length_le (by omega)]
theorem fits_home (m : Nat) (t : List Bool) (hm : Wd m) (hl : t.length = m - 1) (ht : true ∈ t) : fitsN m (scaleL t) (wordL t) = true := by
  unfold fitsN
  rw [cut_home m t hm hl ht]
  simp
theorem sound_home (m : Nat) (neg : Bool) (t : List Bool) (hm : Wd m) (hl : t.length = m - 1) (ht : true ∈ t) : soundN 1 neg (scaleL t) (wordL t) = true := by
  have hw := wd_le hm
  have h1 := of_decide_eq_true (inR_of m t hm hl ht)
  have h2 := wordL_bounds t
  unfold soundN
  rw [if_neg (by decide)]
  exact decide_eq_true ⟨rfl, h2.1, by omega, by omega⟩
theorem parts_none (m : Nat) (t : List Bool) (hm : Wd m) (hl : t.length = m - 1) (ht : true ∈ t) : ¬ isParts t false 0 0 0 0 0 0 := by
  rintro ⟨_, h, _⟩
  cases t with
  | nil => cases ht
  | cons b t => rw [runL] at h; omega
theorem kind_cases (m y : Nat) (hk : kindOf m y ≠ 1) : (kindOf m y = 0 ∧ y = 0) ∨ (kindOf m y = 2 ∧ y = 2 ^ (m - 1)) := by
  unfold kindOf at *
  by_cases h : y = 0
  · rw [if_pos h] at *; exact .inl ⟨rfl, h⟩
  · rw [if_neg h] at *
    by_cases h2 : y = 2 ^ (m - 1)
    · rw [if_pos h2] at *; exact .inr ⟨rfl, h2⟩
    · rw [if_neg h2] at *; exact absurd rfl hk
end Go.Proofs.Ytheliihkkoohnaa

namespace Go.Proofs.Ytheliihkkoohnaa
set_option maxRecDepth 100000
set_option linter.unusedVariables false
set_option linter.unusedSimpArgs false

/-! ### noughts behind a pattern (plain mathematics) -/
theorem wider_pows (n d : Nat) (hn : 1 ≤ n) : 2 ^ (n + d) = 2 ^ n * 2 ^ d ∧ 2 ^ (n + d - 1) = 2 ^ (n - 1) * 2 ^ d := by
  refine ⟨Nat.pow_add .., ?_⟩
  rw [← Nat.pow_add]; congr 1; omega
theorem wider_mod (n d x : Nat) (h : n + d ≤ 64) : (x * 2 ^ d % 2 ^ 64) % 2 ^ (n + d) = x % 2 ^ n * 2 ^ d := by
  rw [Nat.mod_mod_of_dvd _ (Nat.pow_dvd_pow 2 h), Nat.pow_add, Nat.mul_mod_mul_right]
theorem wider_kind (n d x : Nat) (hn : Wd n) (h : n + d ≤ 64) : kindOf (n + d) ((x * 2 ^ d % 2 ^ 64) % 2 ^ (n + d)) = kindOf n (x % 2 ^ n) := by
  have hw := wd_le hn
  rw [wider_mod n d x h]
  unfold kindOf
  rw [(wider_pows n d (by omega)).2]
  have hD : 0 < 2 ^ d := Nat.pow_pos (by decide)
  generalize 2 ^ d = D at *
  generalize x % 2 ^ n = y at *
  generalize 2 ^ (n - 1) = H at *
  by_cases h0 : y = 0
  · subst h0; rw [Nat.zero_mul, if_pos rfl, if_pos rfl]
  · have : ¬ y * D = 0 := by
      intro e
      rcases Nat.mul_eq_zero.1 e with e | e <;> omega
    rw [if_neg h0, if_neg this]
    by_cases h1 : y = H
    · subst h1; rw [if_pos rfl, if_pos rfl]
    · rw [if_neg h1, if_neg fun e => h1 (Nat.eq_of_mul_eq_mul_right hD e)]
theorem wider_top (n d x : Nat) (hn : Wd n) (h : n + d ≤ 64) : (x * 2 ^ d % 2 ^ 64).testBit (n + d - 1) = x.testBit (n - 1) := by
  have hw := wd_le hn
  rw [Nat.testBit_mod_two_pow, Nat.testBit_mul_two_pow]
  have h1 : n + d - 1 < 64 := by omega
  have h2 : d ≤ n + d - 1 := by omega
  rw [show n + d - 1 - d = n - 1 by omega]
  simp [h1, h2]
theorem wider_str (n d x : Nat) (hn : Wd n) (hm : Wd (n + d)) (hx : x < 2 ^ 64) : strS (n + d) (x * 2 ^ d % 2 ^ 64) = strS n x ++ noughts d := by
  have hw := wd_le hn
  have hv := wd_le hm
  refine numOf_inj (by rw [List.length_append, strS_length, strS_length]; simp; omega) ?_
  rw [strS_num _ _ hm (Nat.mod_lt _ (by decide)), numOf_append, numOf_noughts, strS_num n x hn hx, wider_top n d x hn hv.2, wider_mod n d x hv.2, (wider_pows n d (by omega)).1, (wider_pows n d (by omega)).2]
  simp only [List.length_replicate, Nat.add_zero]
  split
  · rw [← Nat.sub_mul, Nat.mul_mod_mul_right]
  · rw [Nat.mul_mod_mul_right]
/-- what a pattern means -/
def decK (n x : Nat) : Int := kindOf n (x % 2 ^ n)
def decB (n x : Nat) : Bool := if kindOf n (x % 2 ^ n) = 1 then x.testBit (n - 1) else false
def dec6S (n x : Nat) : Int := if kindOf n (x % 2 ^ n) = 1 then scaleL (strS n x) else 0
def decF (n x : Nat) : Nat := if kindOf n (x % 2 ^ n) = 1 then wordL (strS n x) else 0
theorem wider_all (n d x : Nat) (hn : Wd n) (hm : Wd (n + d)) (hx : x < 2 ^ 64) :
    decK (n + d) (x * 2 ^ d % 2 ^ 64) = decK n x ∧ decB (n + d) (x * 2 ^ d % 2 ^ 64) = decB n x ∧ dec6S (n + d) (x * 2 ^ d % 2 ^ 64) = dec6S n x ∧ decF (n + d) (x * 2 ^ d % 2 ^ 64) = decF n x := by
  have hv := wd_le hm
  have hk := wider_kind n d x hn hv.2
  unfold decK decB dec6S decF
  rw [hk]
  by_cases h1 : kindOf n (x % 2 ^ n) = 1
  · rw [h1]
    simp only [if_true]
    have ht := (patOf_str n x hn hx h1).1
    rw [wider_str n d x hn hm hx, wider_top n d x hn hv.2]
    have hs := same_pad (strS n x) d ht
    exact ⟨trivial, rfl, hs.scale, hs.word⟩
  · simp only [h1, if_false]
    exact ⟨trivial, trivial, trivial, trivial⟩
end Go.Proofs.Ytheliihkkoohnaa

namespace Go.Proofs.Ytheliihkkoohnaa
set_option maxRecDepth 100000
set_option linter.unusedVariables false
set_option linter.unusedSimpArgs false

/-! ### the string of an exact number as one natural number of 209 bits: it rises with the number (plain mathematics) -/
def hdA (k : Int) : Nat := if 0 ≤ k then 2 ^ 80 - 2 ^ (79 - k.toNat) else 2 ^ (79 - (-k).toNat)
def hdS (k : Int) : Nat := if 0 ≤ k then 2 ^ (78 - k.toNat) else 2 ^ (79 - (-k).toNat)
theorem hd_step (k : Int) (h1 : -79 ≤ k) (h2 : k ≤ 77) : hdA k + hdS k = hdA (k + 1) := by
  unfold hdA hdS
  by_cases h0 : 0 ≤ k
  · obtain ⟨j, rfl⟩ := Int.eq_ofNat_of_zero_le h0
    rw [if_pos h0, if_pos h0, if_pos (by omega), show (((j : Nat) : Int) + 1).toNat = j + 1 by omega, Int.toNat_natCast]
    have e : 2 ^ (79 - j) = 2 * 2 ^ (78 - j) := by rw [← Nat.pow_succ']; congr 1; omega
    have e2 : 79 - (j + 1) = 78 - j := by omega
    have e3 : 2 ^ (79 - j) ≤ 2 ^ 80 := Nat.pow_le_pow_right (by decide) (by omega)
    rw [e2]
    rw [e] at e3 ⊢
    generalize 2 ^ (78 - j) = x at *
    omega
  · rw [if_neg h0, if_neg h0]
    by_cases h3 : k = -1
    · subst h3; decide
    · rw [if_neg (by omega)]
      have e : 2 ^ (79 - (-(k + 1)).toNat) = 2 * 2 ^ (79 - (-k).toNat) := by rw [← Nat.pow_succ']; congr 1; omega
      rw [e]; omega
theorem hd_pos (k : Int) : 0 < hdS k := by unfold hdS; split <;> exact Nat.pow_pos (by decide)
theorem hd_rise (k : Int) (d : Nat) (h1 : -79 ≤ k) (h2 : k + d ≤ 77) : hdA k + hdS k ≤ hdA (k + 1 + d) := by
  induction d with
  | zero => rw [hd_step k h1 (by omega)]; simp
  | succ d ih =>
    have := ih (by omega)
    have h3 := hd_step (k + 1 + d) (by omega) (by omega)
    rw [show k + 1 + ((d + 1 : Nat) : Int) = k + 1 + d + 1 by omega, ← h3]
    omega
theorem hd_mono {k k' : Int} (h1 : -79 ≤ k) (h : k < k') (h2 : k' ≤ 78) : hdA k + hdS k ≤ hdA k' := by
  have := hd_rise k (k' - k - 1).toNat h1 (by omega)
  rw [show k + 1 + (((k' - k - 1).toNat : Nat) : Int) = k' by omega] at this
  exact this
/-- e and the digits behind the first -/
def tailN (s : Int) (M : Nat) : Nat := (s % 4).toNat * 2 ^ 127 + (M - 2 ^ 127)
def zed (s : Int) (M : Nat) : Nat := hdA (s / 4) * 2 ^ 129 + hdS (s / 4) * tailN s M
def Mant (M : Nat) : Prop := 2 ^ 127 ≤ M ∧ M < 2 ^ 128
theorem tail_lt (s : Int) (M : Nat) (h : Mant M) : tailN s M < 2 ^ 129 := by
  obtain ⟨h1, h2⟩ := h
  unfold tailN
  have : (s % 4).toNat < 4 := by omega
  generalize (s % 4).toNat = e at *
  omega
theorem zed_hi (s : Int) (M : Nat) (h : Mant M) : zed s M < (hdA (s / 4) + hdS (s / 4)) * 2 ^ 129 := by
  unfold zed
  rw [Nat.add_mul]
  exact Nat.add_lt_add_left (Nat.mul_lt_mul_of_pos_left (tail_lt s M h) (hd_pos _)) _
theorem zed_lo (s : Int) (M : Nat) : hdA (s / 4) * 2 ^ 129 ≤ zed s M := Nat.le_add_right _ _
/-- it rises with the scale, and with the digits -/
theorem zed_lt {s s' : Int} {M M' : Nat} (h : Mant M) (h' : Mant M') (h1 : -316 ≤ s) (h2 : s' < 312) (hlt : s < s' ∨ (s = s' ∧ M < M')) : zed s M < zed s' M' := by
  have key : s / 4 = s' / 4 → tailN s M < tailN s' M' → zed s M < zed s' M' := fun e ht => by
    unfold zed
    rw [e]
    exact Nat.add_lt_add_left (Nat.mul_lt_mul_of_pos_left ht (hd_pos _)) _
  rcases hlt with hlt | ⟨rfl, hM⟩
  · by_cases e : s / 4 = s' / 4
    · refine key e ?_
      unfold tailN
      obtain ⟨a1, a2⟩ := h
      obtain ⟨b1, b2⟩ := h'
      have : (s % 4).toNat + 1 ≤ (s' % 4).toNat := by omega
      generalize (s % 4).toNat = x at *
      generalize (s' % 4).toNat = y at *
      omega
    · have hk : s / 4 < s' / 4 := by omega
      have h3 := hd_mono (k := s / 4) (k' := s' / 4) (by omega) hk (by omega)
      exact Nat.lt_of_lt_of_le (zed_hi s M h) (Nat.le_trans (Nat.mul_le_mul_right _ h3) (zed_lo s' M'))
  · refine key rfl ?_
    unfold tailN
    have := h.1
    omega
theorem zed_le {s s' : Int} {M M' : Nat} (h : Mant M) (h' : Mant M') (h1 : -316 ≤ s) (h2 : s' < 312) (hle : s < s' ∨ (s = s' ∧ M ≤ M')) : zed s M ≤ zed s' M' := by
  rcases hle with hl | ⟨rfl, hM⟩
  · exact Nat.le_of_lt (zed_lt h h' h1 h2 (.inl hl))
  · rcases Nat.lt_or_ge M M' with hlt | hge
    · exact Nat.le_of_lt (zed_lt h h' h1 h2 (.inr ⟨rfl, hlt⟩))
    · have : M = M' := by omega
      subst this; exact Nat.le_refl _
theorem numOf_ones (k : Nat) : numOf (List.replicate k true) = 2 ^ k - 1 := by
  induction k with
  | zero => rfl
  | succ k ih =>
    rw [List.replicate_succ, numOf_cons, ih, List.length_replicate, Nat.pow_succ]
    have : 0 < 2 ^ k := Nat.pow_pos (by decide)
    simp; omega
/-- the string, written out, is that number -/
theorem zed_str (s : Int) (M : Nat) (D : List Bool) (hD : D.length = 127) (hM : numOf D = M - 2 ^ 127) (h1 : -76 * 4 ≤ s) (h2 : s < 76 * 4) :
    (headK (s / 4) ++ bitsOf (s % 4).toNat 2 ++ D).length ≤ 209 ∧ numOf (headK (s / 4) ++ bitsOf (s % 4).toNat 2 ++ D) * 2 ^ (209 - (headK (s / 4) ++ bitsOf (s % 4).toNat 2 ++ D).length) = zed s M := by
  have hl : (headK (s / 4) ++ bitsOf (s % 4).toNat 2 ++ D).length = (headK (s / 4)).length + 129 := by simp [bitsOf_length, hD]
  have hn : numOf (headK (s / 4) ++ bitsOf (s % 4).toNat 2 ++ D) = numOf (headK (s / 4)) * 2 ^ 129 + tailN s M := by
    rw [numOf_append, numOf_append, numOf_bits, hD, bitsOf_length, hM, Nat.mod_eq_of_lt (a := (s % 4).toNat) (by omega), Nat.add_mul, Nat.mul_assoc, ← Nat.pow_add]
    unfold tailN; omega
  rw [hl, hn]
  have hh : numOf (headK (s / 4)) * 2 ^ (80 - (headK (s / 4)).length) = hdA (s / 4) ∧ 2 ^ (80 - (headK (s / 4)).length) = hdS (s / 4) ∧ (headK (s / 4)).length ≤ 80 := by
    unfold headK hdA hdS
    by_cases h0 : 0 ≤ s / 4
    · rw [if_pos h0, if_pos h0, if_pos h0]
      obtain ⟨j, hj⟩ := Int.eq_ofNat_of_zero_le h0
      rw [hj, Int.toNat_natCast]
      have hj2 : j < 76 := by omega
      rw [numOf_append, numOf_ones, List.length_append, List.length_replicate]
      simp only [List.length_singleton]
      refine ⟨?_, by congr 1; omega, by omega⟩
      have e1 : numOf [false] = 0 := rfl
      rw [e1, Nat.add_zero, Nat.pow_one, show 80 - (j + 1 + 1) = 78 - j by omega, Nat.mul_assoc, ← Nat.pow_succ', show (78 - j).succ = 79 - j by omega, Nat.sub_mul, ← Nat.pow_add, show j + 1 + (79 - j) = 80 by omega, Nat.one_mul]
    · rw [if_neg h0, if_neg h0, if_neg h0]
      have hj2 : (-(s / 4)).toNat ≤ 76 := by omega
      rw [numOf_append, List.length_append, List.length_replicate]
      simp only [List.length_singleton]
      have e0 := numOf_noughts (-(s / 4)).toNat
      refine ⟨?_, by congr 1; omega, by omega⟩
      rw [show List.replicate (-(s / 4)).toNat false = noughts (-(s / 4)).toNat from rfl, e0, show 80 - ((-(s / 4)).toNat + 1) = 79 - (-(s / 4)).toNat by omega, show numOf [true] = 1 from rfl]
      simp
  obtain ⟨a, b, c⟩ := hh
  refine ⟨by omega, ?_⟩
  rw [show 209 - ((headK (s / 4)).length + 129) = 80 - (headK (s / 4)).length by omega, Nat.add_mul, Nat.mul_right_comm, a, b, Nat.mul_comm (tailN s M)]
  rfl
end Go.Proofs.Ytheliihkkoohnaa

namespace Go.Proofs.Ytheliihkkoohnaa
set_option maxRecDepth 100000
set_option linter.unusedVariables false
set_option linter.unusedSimpArgs false

/-! ### what is left behind a cut, and rounding: to the nearer, of a tie to the even one (plain mathematics) -/
def leftL (l : List Bool) (rest : Bool) : Nat :=
  if l.getD 0 false then (if (l.drop 1).any id || rest then 3 else 2) else (if (l.drop 1).any id || rest then 1 else 0)
def roundP (P left : Nat) : Nat := if left = 3 ∨ (left = 2 ∧ P % 2 = 1) then P + 1 else P
/-- P times 2 H and R: to the nearer -/
def rhe (H Z : Nat) : Nat := roundP (Z / (2 * H)) (if Z % (2 * H) = 0 then 0 else if Z % (2 * H) < H then 1 else if Z % (2 * H) = H then 2 else 3)
theorem roundP_le (P l : Nat) : P ≤ roundP P l ∧ roundP P l ≤ P + 1 := by unfold roundP; split <;> omega
theorem rhe_mono (H : Nat) (hH : 0 < H) {Z Z' : Nat} (h : Z ≤ Z') : rhe H Z ≤ rhe H Z' := by
  have e1 := Nat.div_add_mod Z (2 * H)
  have e2 := Nat.div_add_mod Z' (2 * H)
  have m1 := Nat.mod_lt Z (show 0 < 2 * H by omega)
  have m2 := Nat.mod_lt Z' (show 0 < 2 * H by omega)
  have hp : Z / (2 * H) ≤ Z' / (2 * H) := Nat.div_le_div_right h
  unfold rhe
  rcases Nat.lt_or_ge (Z / (2 * H)) (Z' / (2 * H)) with hlt | hge
  · exact Nat.le_trans (roundP_le _ _).2 (Nat.le_trans hlt (roundP_le _ _).1)
  · have he : Z / (2 * H) = Z' / (2 * H) := by omega
    rw [he] at e1 ⊢
    generalize Z' / (2 * H) = P at *
    generalize 2 * H * P = B at *
    generalize Z % (2 * H) = R at *
    generalize Z' % (2 * H) = R' at *
    have hR : R ≤ R' := by omega
    unfold roundP
    repeat' split
    all_goals omega
/-- on which side of the ties a number lies -/
theorem rhe_side (H Z p : Nat) (hH : 0 < H) (h : rhe H Z = p) : (Z < p * (2 * H) + H ∨ (Z = p * (2 * H) + H ∧ p % 2 = 0)) ∧ (1 ≤ p → (p - 1) * (2 * H) + H < Z ∨ ((p - 1) * (2 * H) + H = Z ∧ p % 2 = 0)) := by
  have e1 := Nat.div_add_mod Z (2 * H)
  have m1 := Nat.mod_lt Z (show 0 < 2 * H by omega)
  unfold rhe roundP at h
  rw [Nat.mul_comm] at e1
  generalize Z % (2 * H) = R at *
  generalize hP : Z / (2 * H) = P at *
  have hsub : 1 ≤ p → (p - 1) * (2 * H) + 2 * H = p * (2 * H) := fun hp => by
    rw [← Nat.succ_mul]; congr 1; omega
  by_cases hup : ((if R = 0 then 0 else if R < H then 1 else if R = H then 2 else 3) = 3 ∨ ((if R = 0 then 0 else if R < H then 1 else if R = H then 2 else 3) = 2 ∧ P % 2 = 1))
  · rw [if_pos hup] at h
    subst h
    have hRH : H ≤ R ∧ (R = H → P % 2 = 1) := by
      rcases hup with hup | ⟨hup, h2⟩
      · repeat' split at hup
        all_goals first | omega | exact ⟨by omega, by omega⟩
      · repeat' split at hup
        all_goals first | omega | exact ⟨by omega, fun _ => h2⟩
    have hs := hsub (by omega)
    rw [Nat.add_sub_cancel] at hs ⊢
    generalize (P + 1) * (2 * H) = C at *
    generalize P * (2 * H) = B at *
    refine ⟨by omega, fun _ => ?_⟩
    by_cases e : R = H
    · have := hRH.2 e; exact .inr ⟨by omega, by omega⟩
    · exact .inl (by omega)
  · rw [if_neg hup] at h
    subst h
    have hRH : R ≤ H ∧ (R = H → P % 2 = 0) := by
      refine ⟨Nat.le_of_not_lt fun hlt => hup (.inl ?_), fun e => ?_⟩
      · rw [if_neg (by omega), if_neg (by omega), if_neg (by omega)]
      · rcases Nat.mod_two_eq_zero_or_one P with h0 | h1
        · exact h0
        · exact absurd (.inr ⟨by rw [if_neg (by omega), if_neg (by omega), if_pos e], h1⟩) hup
    generalize P * (2 * H) = B at *
    refine ⟨?_, fun hp => ?_⟩
    · by_cases e : R = H
      · exact .inr ⟨by omega, hRH.2 e⟩
      · exact .inl (by omega)
    · have := hsub hp
      exact .inl (by omega)
/-! ### a string, cut -/
theorem any_num (l : List Bool) : l.any id = decide (numOf l ≠ 0) := by
  cases h : l.any id
  · refine (decide_eq_false fun hn => ?_).symm
    have := mem_of_pos l hn
    rw [List.any_eq_false] at h
    exact h true this rfl
  · refine (decide_eq_true ?_).symm
    obtain ⟨b, hb, hb2⟩ := List.any_eq_true.1 h
    have : b = true := hb2
    subst this
    have := numOf_pos l hb
    omega
theorem cut_num (l : List Bool) (m : Nat) (hm : m ≤ l.length) : numOf l = numOf (l.take m) * 2 ^ (l.length - m) + numOf (l.drop m) := by
  conv => lhs; rw [← List.take_append_drop m l]
  rw [numOf_append, List.length_drop]
/-- the first m bits, and what is left, of a string that is followed by noughts, and perhaps by something more -/
theorem cut_left (l : List Bool) (m : Nat) (rest : Bool) (hm : m < l.length) (hl : l.length ≤ 209) :
    roundP (numOf (l.take m)) (leftL (l.drop m) rest) = rhe (2 ^ (209 - m)) (2 * (numOf l * 2 ^ (209 - l.length)) + rest.toNat) := by
  have hc := cut_num l m (by omega)
  have hd : (l.drop m).length = l.length - m := List.length_drop ..
  have hlt := numOf_lt (l.drop m)
  rw [hd] at hlt
  cases hs : l.drop m with
  | nil => rw [hs] at hd; simp at hd; omega
  | cons b t =>
    rw [hs] at hd hlt hc
    have ht : t.length = l.length - m - 1 := by simp at hd; omega
    have htl := numOf_lt t
    rw [numOf_cons, ht] at hc hlt
    rw [ht] at htl
    -- powers
    have p1 : 2 ^ (l.length - m) = 2 * 2 ^ (l.length - m - 1) := by rw [← Nat.pow_succ']; congr 1; omega
    have p2 : 2 ^ (209 - m) = 2 ^ (l.length - m) * 2 ^ (209 - l.length) := by rw [← Nat.pow_add]; congr 1; omega
    have p3 : 0 < 2 ^ (l.length - m - 1) := Nat.pow_pos (by decide)
    have p4 : 0 < 2 ^ (209 - l.length) := Nat.pow_pos (by decide)
    rw [hc, p2, p1]
    rw [p1] at hlt
    have hany := any_num t
    unfold leftL
    rw [show (b :: t).getD 0 false = b from rfl, show (b :: t).drop 1 = t from rfl, hany]
    generalize numOf (l.take m) = P at *
    generalize 2 ^ (l.length - m - 1) = A at *
    generalize 2 ^ (209 - l.length) = C at *
    generalize numOf t = V at *
    -- the number is P times 2 H and R
    have hVC : V * C + C ≤ A * C := by rw [← Nat.succ_mul]; exact Nat.mul_le_mul_right _ htl
    have hV0 : V = 0 ∨ C ≤ V * C := by
      rcases Nat.eq_zero_or_pos V with h | h
      · exact .inl h
      · exact .inr (Nat.le_mul_of_pos_left _ h)
    have hAC : 0 < A * C := Nat.mul_pos p3 p4
    have hZ : 2 * ((P * (2 * A) + (b.toNat * A + V)) * C) + rest.toNat = P * (2 * (2 * A * C)) + (2 * (b.toNat * (A * C) + V * C) + rest.toNat) := by
      rw [Nat.add_mul, Nat.add_mul, Nat.mul_assoc b.toNat, Nat.mul_add, ← Nat.mul_assoc 2 (P * (2 * A)) C]
      have : 2 * (P * (2 * A)) * C = P * (2 * (2 * A * C)) := by
        simp only [Nat.mul_assoc, Nat.mul_left_comm]
      rw [this]; omega
    have hR : 2 * (b.toNat * (A * C) + V * C) + rest.toNat < 2 * (2 * A * C) := by
      rw [Nat.mul_assoc 2 A C]
      generalize A * C = D at *
      generalize V * C = E at *
      cases b <;> cases rest <;> simp <;> omega
    rw [hZ]
    unfold rhe
    have hpos : 0 < 2 * (2 * A * C) := by omega
    rw [Nat.mul_comm P, Nat.mul_add_div hpos, Nat.div_eq_of_lt hR, Nat.add_zero, Nat.mul_add_mod, Nat.mod_eq_of_lt hR]
    rw [Nat.mul_assoc 2 A C]
    congr 1
    generalize A * C = D at *
    rcases hV0 with rfl | hV0
    · cases b <;> cases rest <;> simp <;> (try omega)
      all_goals (repeat' split) <;> omega
    · have hne : V ≠ 0 := by rintro rfl; omega
      generalize hE : V * C = E at *
      cases b <;> cases rest <;> simp [hne] <;> (try omega)
      all_goals (repeat' split) <;> omega
end Go.Proofs.Ytheliihkkoohnaa

namespace Go.Proofs.Ytheliihkkoohnaa
set_option maxRecDepth 100000
set_option linter.unusedVariables false
set_option linter.unusedSimpArgs false

/-! ### an exact number's string, cut and rounded (plain mathematics) -/
def digX (hi lo : Nat) : List Bool := (bitsOf hi 64).drop 1 ++ bitsOf lo 64
def strX (s : Int) (hi lo : Nat) : List Bool := headK (s / 4) ++ bitsOf (s % 4).toNat 2 ++ digX hi lo
def manX (hi lo : Nat) : Nat := hi * 18446744073709551616 + lo
structure WordsX (hi lo : Nat) : Prop where
  top : 9223372036854775808 ≤ hi
  hi64 : hi < 18446744073709551616
  lo64 : lo < 18446744073709551616
theorem WordsX.mant {hi lo : Nat} (h : WordsX hi lo) : Mant (manX hi lo) := by
  obtain ⟨a, b, c⟩ := h
  unfold Mant manX
  have e1 : (2 : Nat) ^ 127 = 9223372036854775808 * 18446744073709551616 := by decide
  have e2 : (2 : Nat) ^ 128 = 18446744073709551616 * 18446744073709551616 := by decide
  omega
theorem digX_length (hi lo : Nat) : (digX hi lo).length = 127 := by simp [digX, bitsOf_length]
theorem digX_num {hi lo : Nat} (h : WordsX hi lo) : numOf (digX hi lo) = manX hi lo - 2 ^ 127 := by
  obtain ⟨a, b, c⟩ := h
  have h1 := top_word hi a b
  have h2 : numOf (bitsOf hi 64) = hi := by rw [numOf_bits]; exact Nat.mod_eq_of_lt b
  rw [h1, numOf_cons] at h2
  have h3 : ((bitsOf hi 64).drop 1).length = 63 := by rw [List.length_drop, bitsOf_length]
  rw [h3] at h2
  have h4 : numOf (bitsOf lo 64) = lo := by rw [numOf_bits]; exact Nat.mod_eq_of_lt c
  unfold digX manX
  rw [numOf_append, bitsOf_length, h4]
  have e1 : (2 : Nat) ^ 127 = 9223372036854775808 * 18446744073709551616 := by decide
  have e2 : (2 : Nat) ^ 64 = 18446744073709551616 := by decide
  have e3 : (2 : Nat) ^ 63 = 9223372036854775808 := by decide
  rw [e3] at h2
  simp only [Bool.toNat_true, Nat.one_mul] at h2
  generalize numOf ((bitsOf hi 64).drop 1) = x at *
  rw [e1, e2]
  omega
/-- is nothing left behind the first digit? -/
def justX (hi lo : Nat) (rest : Bool) : Bool := !rest && !(digX hi lo).any id
theorem justX_iff {hi lo : Nat} (h : WordsX hi lo) (rest : Bool) : justX hi lo rest = true ↔ rest = false ∧ manX hi lo = 2 ^ 127 := by
  unfold justX
  rw [any_num, digX_num h]
  have := h.mant.1
  cases rest <;> simp
  omega
/-- the scales that are neither at the greatest value nor at the least -/
def midX (n : Nat) (s : Int) (just : Bool) : Prop := s < 4 * n - 8 ∧ 8 - 4 * (n : Int) ≤ s ∧ ¬ (s = 8 - 4 * n ∧ just = true)
def cutX (n : Nat) (s : Int) (hi lo : Nat) (rest : Bool) : Nat × Nat :=
  if 4 * (n : Int) - 8 ≤ s then (2 ^ (n - 1) - 1, 0)
  else if s < 8 - 4 * (n : Int) ∨ (s = 8 - 4 * n ∧ justX hi lo rest = true) then (1, 0)
  else (numOf ((strX s hi lo).take (n - 1)), leftL ((strX s hi lo).drop (n - 1)) rest)
def rndX (n : Nat) (s : Int) (hi lo : Nat) (rest : Bool) : Nat := roundP (cutX n s hi lo rest).1 (cutX n s hi lo rest).2
def zX (s : Int) (hi lo : Nat) (rest : Bool) : Nat := 2 * zed s (manX hi lo) + rest.toNat
theorem numOf_false (t : List Bool) (h : false ∈ t) : numOf t + 2 ≤ 2 ^ t.length := by
  induction t with
  | nil => cases h
  | cons b t ih =>
    rw [numOf_cons, List.length_cons, Nat.pow_succ]
    have hlt := numOf_lt t
    have hp : 0 < 2 ^ t.length := Nat.pow_pos (by decide)
    cases b
    · simp; omega
    · have := ih (by simpa using h)
      simp; omega
theorem strX_mid (n : Nat) (s : Int) (hi lo : Nat) (hn : Wd n) (h1 : s < 4 * n - 8) (h2 : 8 - 4 * (n : Int) ≤ s) :
    true ∈ (strX s hi lo).take (n - 1) ∧ false ∈ (strX s hi lo).take (n - 1) ∧ ((strX s hi lo).take (n - 1)).length = n - 1 ∧ n - 1 < (strX s hi lo).length := by
  have hw := wd_le hn
  have hlen : 128 < (strX s hi lo).length := by
    unfold strX
    obtain ⟨b, r, hh, _⟩ := headK_form (s / 4)
    rw [hh]; simp [bitsOf_length, digX_length]
  have key : ∀ (b : Bool) (j : Nat) (R : List Bool), strX s hi lo = List.replicate (j + 1) b ++ (!b) :: R → j + 1 ≤ n - 2 → true ∈ (strX s hi lo).take (n - 1) ∧ false ∈ (strX s hi lo).take (n - 1) := by
    intro b j R e hj
    rw [e, List.take_append, List.length_replicate, show n - 1 - (j + 1) = (n - 1 - (j + 1) - 1) + 1 by omega, List.take_succ_cons, List.take_of_length_le (by rw [List.length_replicate]; omega)]
    cases b
    · exact ⟨List.mem_append_right _ (List.mem_cons_self ..), List.mem_append_left _ (by simp)⟩
    · exact ⟨List.mem_append_left _ (by simp), List.mem_append_right _ (List.mem_cons_self ..)⟩
  have hk : true ∈ (strX s hi lo).take (n - 1) ∧ false ∈ (strX s hi lo).take (n - 1) := by
    obtain ⟨b, r, hh, hk⟩ := headK_form (s / 4)
    refine key b r (bitsOf (s % 4).toNat 2 ++ digX hi lo) (by unfold strX; rw [hh]; simp) ?_
    cases b <;> simp at hk <;> omega
  exact ⟨hk.1, hk.2, by rw [List.length_take]; omega, by omega⟩
/-- in the middle the rounded pattern is the number's string, rounded -/
theorem rnd_mid (n : Nat) (s : Int) (hi lo : Nat) (rest : Bool) (hn : Wd n) (h : WordsX hi lo) (hm : midX n s (justX hi lo rest)) :
    rndX n s hi lo rest = rhe (2 ^ (210 - n)) (zX s hi lo rest) ∧ 1 ≤ rndX n s hi lo rest ∧ rndX n s hi lo rest ≤ 2 ^ (n - 1) - 1 := by
  have hw := wd_le hn
  obtain ⟨h1, h2, h3⟩ := hm
  obtain ⟨t1, t2, t3, t4⟩ := strX_mid n s hi lo hn h1 h2
  have hc : cutX n s hi lo rest = (numOf ((strX s hi lo).take (n - 1)), leftL ((strX s hi lo).drop (n - 1)) rest) := by
    unfold cutX
    rw [if_neg (by omega), if_neg (by rintro (h | h); omega; exact h3 h)]
  have p1 := numOf_pos _ t1
  have p2 := numOf_false _ t2
  rw [t3] at p2
  obtain ⟨z1, z2⟩ := zed_str s (manX hi lo) (digX hi lo) (digX_length hi lo) (digX_num h) (by omega) (by omega)
  have hcl := cut_left (strX s hi lo) (n - 1) rest t4 z1
  unfold rndX
  rw [hc]
  have hr := roundP_le (numOf ((strX s hi lo).take (n - 1))) (leftL ((strX s hi lo).drop (n - 1)) rest)
  refine ⟨?_, Nat.le_trans p1 hr.1, Nat.le_trans hr.2 (by omega)⟩
  show roundP _ _ = _
  rw [hcl, show 209 - (n - 1) = 210 - n by omega]
  unfold zX strX
  rw [z2]
theorem rnd_range (n : Nat) (s : Int) (hi lo : Nat) (rest : Bool) (hn : Wd n) (h : WordsX hi lo) : 1 ≤ rndX n s hi lo rest ∧ rndX n s hi lo rest ≤ 2 ^ (n - 1) - 1 := by
  obtain ⟨H, e1, e2, e3, _⟩ := wd_pows hn
  by_cases hm : midX n s (justX hi lo rest)
  · exact (rnd_mid n s hi lo rest hn h hm).2
  · unfold rndX cutX
    rw [e2]
    by_cases c1 : 4 * (n : Int) - 8 ≤ s
    · rw [if_pos c1]; simp only [roundP]; simp; omega
    · rw [if_neg c1]
      have c2 : s < 8 - 4 * (n : Int) ∨ (s = 8 - 4 * n ∧ justX hi lo rest = true) := by
        unfold midX at hm
        by_cases c3 : s < 8 - 4 * (n : Int)
        · exact .inl c3
        · refine .inr ?_
          by_cases c4 : s = 8 - 4 * n ∧ justX hi lo rest = true
          · exact c4
          · exact absurd ⟨by omega, by omega, c4⟩ hm
      rw [if_pos c2]; simp only [roundP]; simp; omega
theorem rnd_top (n : Nat) (s : Int) (hi lo : Nat) (rest : Bool) (c : 4 * (n : Int) - 8 ≤ s) : rndX n s hi lo rest = 2 ^ (n - 1) - 1 := by
  unfold rndX cutX; rw [if_pos c]; rfl
theorem rnd_low (n : Nat) (s : Int) (hi lo : Nat) (rest : Bool) (c0 : ¬ 4 * (n : Int) - 8 ≤ s) (c : s < 8 - 4 * (n : Int) ∨ (s = 8 - 4 * n ∧ justX hi lo rest = true)) : rndX n s hi lo rest = 1 := by
  unfold rndX cutX; rw [if_neg c0, if_pos c]; rfl
theorem mid_or (n : Nat) (s : Int) (j : Bool) : midX n s j ∨ 4 * (n : Int) - 8 ≤ s ∨ (¬ 4 * (n : Int) - 8 ≤ s ∧ (s < 8 - 4 * (n : Int) ∨ (s = 8 - 4 * n ∧ j = true))) := by
  unfold midX
  by_cases c1 : 4 * (n : Int) - 8 ≤ s
  · exact .inr (.inl c1)
  · by_cases c3 : s < 8 - 4 * (n : Int)
    · exact .inr (.inr ⟨c1, .inl c3⟩)
    · by_cases c4 : s = 8 - 4 * n ∧ j = true
      · exact .inr (.inr ⟨c1, .inr c4⟩)
      · exact .inl ⟨by omega, by omega, c4⟩
theorem mid_rise (n : Nat) (s s' : Int) (hi lo hi' lo' : Nat) (hn : Wd n) (h : WordsX hi lo) (h' : WordsX hi' lo') (hm : midX n s (justX hi lo false)) (hm' : midX n s' (justX hi' lo' false))
    (hle : s < s' ∨ (s = s' ∧ manX hi lo ≤ manX hi' lo')) : rndX n s hi lo false ≤ rndX n s' hi' lo' false := by
  have hw := wd_le hn
  rw [(rnd_mid n s hi lo false hn h hm).1, (rnd_mid n s' hi' lo' false hn h' hm').1]
  obtain ⟨a1, a2, _⟩ := hm
  obtain ⟨b1, b2, _⟩ := hm'
  have hz := zed_le h.mant h'.mant (by omega) (by omega) hle
  refine rhe_mono _ (Nat.pow_pos (by decide)) ?_
  unfold zX
  exact Nat.add_le_add_right (Nat.mul_le_mul_left 2 hz) _
/-- of two numbers the greater one is not rounded to less -/
theorem rnd_rise (n : Nat) (s s' : Int) (hi lo hi' lo' : Nat) (hn : Wd n) (h : WordsX hi lo) (h' : WordsX hi' lo')
    (hle : s < s' ∨ (s = s' ∧ manX hi lo ≤ manX hi' lo')) : rndX n s hi lo false ≤ rndX n s' hi' lo' false := by
  have r1 := rnd_range n s hi lo false hn h
  have r2 := rnd_range n s' hi' lo' false hn h'
  rcases mid_or n s (justX hi lo false) with hm | c1 | ⟨c0, c1⟩
  · rcases mid_or n s' (justX hi' lo' false) with hm' | c2 | ⟨c3, c2⟩
    · exact mid_rise n s s' hi lo hi' lo' hn h h' hm hm' hle
    · rw [rnd_top n s' hi' lo' false c2]; exact r1.2
    · exfalso
      obtain ⟨a1, a2, a3⟩ := hm
      have hs : s = 8 - 4 * (n : Int) ∧ s' = s := by
        clear r1 r2 a3 h h'
        rcases hle with hl | ⟨hl, _⟩ <;> rcases c2 with c2 | ⟨c2, _⟩ <;> omega
      have hM : manX hi lo ≤ manX hi' lo' := by
        clear r1 r2 a3 h h'
        rcases hle with hl | ⟨_, hl⟩
        · omega
        · exact hl
      have hj : justX hi' lo' false = true := by
        rcases c2 with c2 | ⟨_, c2⟩
        · exfalso; clear r1 r2 a3 h h'; omega
        · exact c2
      have e1 := ((justX_iff h' false).1 hj).2
      have h3 := h.mant.1
      exact a3 ⟨hs.1, (justX_iff h false).2 ⟨rfl, Nat.le_antisymm (e1 ▸ hM) h3⟩⟩
  · have c2 : 4 * (n : Int) - 8 ≤ s' := by clear r1 r2 h h'; omega
    rw [rnd_top n s' hi' lo' false c2]; exact r1.2
  · rw [rnd_low n s hi lo false c0 c1]; exact r2.1
end Go.Proofs.Ytheliihkkoohnaa

namespace Go.Proofs.Ytheliihkkoohnaa
set_option maxRecDepth 100000
set_option linter.unusedVariables false
set_option linter.unusedSimpArgs false

/-! ### what the program cuts off a number's string, and what it finds behind (plain mathematics) -/
def cmpX (left : Nat) (rest : Bool) : Nat := if left = 2 ^ 127 then (if rest then 3 else 2) else if 2 ^ 127 < left then 3 else if left = 0 ∧ rest = false then 0 else 1
theorem left_num (l : List Bool) (j : Nat) (rest : Bool) (hj : 1 ≤ j) (hj2 : j ≤ 128) (hl : l.length = j + 1) :
    leftL l rest = cmpX (numOf l / 2 * 2 ^ (128 - j)) (decide (numOf l % 2 = 1) || rest) := by
  cases l with
  | nil => simp at hl
  | cons b t =>
    have ht : t.length = j := by simpa using hl
    have hV := numOf_lt t
    rw [ht] at hV
    rw [numOf_cons, ht]
    have hany := any_num t
    unfold leftL cmpX
    rw [show (b :: t).getD 0 false = b from rfl, show (b :: t).drop 1 = t from rfl, hany]
    have p1 : 2 ^ j = 2 * 2 ^ (j - 1) := by rw [← Nat.pow_succ']; congr 1; omega
    have p2 : 2 ^ (j - 1) * 2 ^ (128 - j) = 2 ^ 127 := by rw [← Nat.pow_add]; congr 1; omega
    have p3 : 0 < 2 ^ (128 - j) := Nat.pow_pos (by decide)
    rw [p1] at hV ⊢
    generalize numOf t = V at *
    generalize 2 ^ (j - 1) = A at *
    generalize 2 ^ (128 - j) = C at *
    have hh : (b.toNat * (2 * A) + V) / 2 = b.toNat * A + V / 2 := by cases b <;> simp <;> omega
    have hm : (b.toNat * (2 * A) + V) % 2 = V % 2 := by cases b <;> simp <;> omega
    rw [hh, hm, Nat.add_mul, Nat.mul_assoc b.toNat A C, ← p2]
    have hlt : V / 2 * C < A * C := Nat.mul_lt_mul_of_pos_right (by omega) p3
    have h0 : V / 2 * C = 0 ↔ V / 2 = 0 := by
      constructor
      · intro h; rcases Nat.mul_eq_zero.1 h with h | h <;> omega
      · intro h; rw [h]; simp
    generalize V / 2 * C = X at *
    generalize A * C = D at *
    cases b
    · simp only [Bool.toNat_false, Nat.zero_mul, Nat.zero_add]
      have n1 : ¬ X = D := by omega
      have n2 : ¬ D < X := by omega
      rw [if_neg n1, if_neg n2]
      by_cases hx : X = 0
      · have := h0.1 hx
        rcases Nat.mod_two_eq_zero_or_one V with hv | hv
        · have : V = 0 := by omega
          subst this
          cases rest <;> simp [hx]
        · have : V ≠ 0 := by omega
          cases rest <;> simp [hx, hv, this]
      · have : ¬ V / 2 = 0 := fun h => hx (h0.2 h)
        have : V ≠ 0 := by omega
        cases rest <;> simp [hx, this]
    · simp only [Bool.toNat_true, Nat.one_mul]
      by_cases hx : X = 0
      · have := h0.1 hx
        have n1 : D + X = D := by omega
        rw [if_pos n1]
        rcases Nat.mod_two_eq_zero_or_one V with hv | hv
        · have : V = 0 := by omega
          subst this
          cases rest <;> simp
        · have : V ≠ 0 := by omega
          cases rest <;> simp [hv, this]
      · have : ¬ V / 2 = 0 := fun h => hx (h0.2 h)
        have : V ≠ 0 := by omega
        have n1 : ¬ D + X = D := by omega
        have n2 : D < D + X := by omega
        rw [if_neg n1, if_pos n2]
        cases rest <;> simp [this]
theorem headK_num (k : Int) : numOf (headK k) = (if 0 ≤ k then 2 ^ (k.toNat + 2) - 2 else 1) ∧ (headK k).length = (if 0 ≤ k then k.toNat + 2 else (1 - k).toNat) := by
  unfold headK
  by_cases h : 0 ≤ k
  · rw [if_pos h, if_pos h, if_pos h, numOf_append, numOf_ones]
    have : 1 ≤ 2 ^ (k.toNat + 1) := Nat.one_le_two_pow
    rw [Nat.pow_succ 2 (k.toNat + 1)]
    refine ⟨?_, by simp⟩
    show (2 ^ (k.toNat + 1) - 1) * 2 ^ 1 + 0 = _
    omega
  · rw [if_neg h, if_neg h, if_neg h, numOf_append, show List.replicate (-k).toNat false = noughts (-k).toNat from rfl, numOf_noughts]
    refine ⟨by simp; rfl, ?_⟩
    simp [noughts]; omega
def tailL (s : Int) (hi lo : Nat) : List Bool := bitsOf (s % 4).toNat 2 ++ digX hi lo
theorem tailL_num (s : Int) {hi lo : Nat} (h : WordsX hi lo) : (tailL s hi lo).length = 129 ∧ numOf (tailL s hi lo) = tailN s (manX hi lo) := by
  unfold tailL
  refine ⟨by simp [bitsOf_length, digX_length], ?_⟩
  rw [numOf_append, digX_num h, digX_length, numOf_bits, Nat.mod_eq_of_lt (by omega)]
  rfl
theorem room_pows (room : Nat) (h : room ≤ 64) : 2 ^ (129 - room) = 2 * 2 ^ (128 - room) ∧ 2 ^ 128 = 2 ^ (128 - room) * 2 ^ room := by
  refine ⟨?_, ?_⟩
  · rw [← Nat.pow_succ']; congr 1; omega
  · rw [← Nat.pow_add]; congr 1; omega
/-- the first n - 1 bits of the string, and what is left, from the run and from what stands behind it but for the last bit -/
theorem cut_parts (n : Nat) (s : Int) (hi lo : Nat) (rest : Bool) (h : WordsX hi lo) (hr : (headK (s / 4)).length ≤ n - 1) (hn : n ≤ 64) (B room : Nat)
    (hB : B = tailN s (manX hi lo) / 2) (hroom : room = n - 1 - (headK (s / 4)).length) :
    numOf ((strX s hi lo).take (n - 1)) = numOf (headK (s / 4)) * 2 ^ room + B / 2 ^ (128 - room) ∧ B / 2 ^ (128 - room) < 2 ^ room ∧ leftL ((strX s hi lo).drop (n - 1)) rest = cmpX (B * 2 ^ room % 2 ^ 128) (decide (lo % 2 = 1) || rest) := by
  obtain ⟨t1, t2⟩ := tailL_num s h
  have e : strX s hi lo = headK (s / 4) ++ tailL s hi lo := by unfold strX tailL; simp
  have hr2 : room ≤ 64 := by omega
  have e1 : (strX s hi lo).take (n - 1) = headK (s / 4) ++ (tailL s hi lo).take room := by
    rw [e, List.take_append, List.take_of_length_le hr, ← hroom]
  have e2 : (strX s hi lo).drop (n - 1) = (tailL s hi lo).drop room := by
    rw [e, List.drop_append, List.drop_of_length_le hr, ← hroom, List.nil_append]
  have hc := cut_num (tailL s hi lo) room (by omega)
  have hlt := numOf_lt ((tailL s hi lo).drop room)
  rw [List.length_drop, t1] at hlt
  rw [t1, t2] at hc
  have hpar : tailN s (manX hi lo) % 2 = lo % 2 := by
    unfold tailN manX
    have := h.top
    rw [show (2 : Nat) ^ 127 = 2 * 85070591730234615865843651857942052864 by decide]
    omega
  obtain ⟨p1, p3⟩ := room_pows room hr2
  have hdl : ((tailL s hi lo).drop room).length = (128 - room) + 1 := by rw [List.length_drop, t1]; omega
  have htl : ((tailL s hi lo).take room).length = room := by rw [List.length_take, t1]; omega
  have hlf := left_num ((tailL s hi lo).drop room) (128 - room) rest (by omega) (by omega) hdl
  have htk := numOf_lt ((tailL s hi lo).take room)
  rw [htl] at htk
  rw [e1, e2, hlf, numOf_append, htl, p3, Nat.mul_mod_mul_right, show 128 - (128 - room) = room by omega]
  rw [p1] at hc hlt
  generalize numOf ((tailL s hi lo).drop room) = R at *
  generalize numOf ((tailL s hi lo).take room) = P at *
  generalize tailN s (manX hi lo) = T at *
  have hpos : 0 < 2 ^ (128 - room) := Nat.pow_pos (by decide)
  generalize 2 ^ (128 - room) = G at *
  have hB2 : B = P * G + R / 2 := by
    have : P * (2 * G) = 2 * (P * G) := by rw [Nat.mul_left_comm]
    omega
  have hRG : R / 2 < G := by omega
  have d1 : B / G = P := by rw [hB2, Nat.mul_comm, Nat.mul_add_div hpos, Nat.div_eq_of_lt hRG]; rfl
  have d2 : B % G = R / 2 := by rw [hB2, Nat.mul_comm, Nat.mul_add_mod, Nat.mod_eq_of_lt hRG]
  have hR2 : R % 2 = lo % 2 := by
    have : P * (2 * G) = 2 * (P * G) := by rw [Nat.mul_left_comm]
    omega
  rw [d1, d2, hR2]
  exact ⟨rfl, htk, rfl⟩
/-- within the ends the run has room -/
theorem head_room (n : Nat) (s : Int) (hn : Wd n) (h1 : s < 4 * n - 8) (h2 : 8 - 4 * (n : Int) ≤ s) : (headK (s / 4)).length ≤ n - 1 ∧ 2 ≤ (headK (s / 4)).length := by
  have hw := wd_le hn
  rw [(headK_num (s / 4)).2]
  split <;> omega
end Go.Proofs.Ytheliihkkoohnaa

namespace Go.Proofs.Ytheliihkkoohnaa
open Go.ChangeShapes Go.WideShapes Go.ChangeAt Go.RowKit
set_option linter.unusedVariables false
set_option linter.unusedSimpArgs false
set_option maxRecDepth 100000

/-! ### the document's round: which Exacts are sound; what is left -/
def exV (k : Int) (neg : Bool) (s : Int) (hi lo : Nat) (rest : Bool) : Value := .agg #[.int .i64 k, .bool neg, .int .i64 s, .int .u64 hi, .int .u64 lo, .bool rest]
def soundX (k : Int) (neg : Bool) (s : Int) (hi lo : Nat) (rest : Bool) : Bool :=
  if k = 0 ∨ k = 2 then decide (neg = false ∧ s = 0 ∧ hi = 0 ∧ lo = 0 ∧ rest = false) else decide (k = 1 ∧ 9223372036854775808 ≤ hi ∧ -1099511627776 ≤ s ∧ s ≤ 1099511627776)
set_option maxHeartbeats 1000000 in
theorem sound7_any (k : Int) (neg : Bool) (s : Int) (hi lo : Nat) (rest : Bool) (w : World) :
    Calls Try.prog 23 #[exV k neg s hi lo rest] w fun e w' => e = .returned (.bool (soundX k neg s hi lo rest)) ∧ Below w.heap.size w w' := by
  unfold exV soundX
  refine cps fun Q hQ => ?_
  by_cases h0 : k = 0
  · subst h0
    go_enter Try.func23, Try.ntmps23
    go_wp2
    all_goals exact hQ.out _ _ ⟨ret_b (by simp_all), cmore (Below.refl _ _) _⟩
  · by_cases h2 : k = 2
    · subst h2
      go_enter Try.func23, Try.ntmps23
      go_wp2
      all_goals exact hQ.out _ _ ⟨ret_b (by simp_all), cmore (Below.refl _ _) _⟩
    · by_cases h1 : k = 1
      · subst h1
        go_enter Try.func23, Try.ntmps23
        go_wp2
        all_goals exact hQ.out _ _ ⟨ret_b (by simp_all <;> omega), cmore (Below.refl _ _) _⟩
      · have d0 : (k == 0) = false := beq_eq_false_iff_ne.2 h0
        have d1 : (k == 1) = false := beq_eq_false_iff_ne.2 h1
        have d2 : (k == 2) = false := beq_eq_false_iff_ne.2 h2
        have HN : Hid (¬ k = 0 ∧ ¬ k = 1 ∧ ¬ k = 2) := ⟨h0, h1, h2⟩
        clear h0 h1 h2
        go_enter Try.func23, Try.ntmps23
        go_wp2
        all_goals exact hQ.out _ _ ⟨ret_b (by have := HN.out; simp_all), cmore (Below.refl _ _) _⟩
end Go.Proofs.Ytheliihkkoohnaa

namespace Go.Proofs.Ytheliihkkoohnaa
open Go.ChangeShapes Go.WideShapes Go.ChangeAt Go.RowKit
set_option linter.unusedVariables false
set_option linter.unusedSimpArgs false
set_option maxRecDepth 100000

/-! ### the document's Cut -/
end Go.Proofs.Ytheliihkkoohnaa

namespace Go.Proofs.Ytheliihkkoohnaa
open Go.ChangeShapes Go.WideShapes Go.ChangeAt Go.RowKit
set_option linter.unusedVariables false
set_option linter.unusedSimpArgs false
set_option maxRecDepth 100000

/-! ### the document's Round -/
def patR (n : Nat) (neg : Bool) (R : Nat) : Nat := if neg then 2 ^ n - R else R
end Go.Proofs.Ytheliihkkoohnaa

namespace Go.Proofs.Ytheliihkkoohnaa
open Go.ChangeShapes Go.WideShapes Go.ChangeAt Go.RowKit
set_option linter.unusedVariables false
set_option linter.unusedSimpArgs false
set_option maxRecDepth 100000

/-! ### the document's Of -/
end Go.Proofs.Ytheliihkkoohnaa

namespace Go.Proofs.Ytheliihkkoohnaa
open Go.ChangeShapes Go.WideShapes Go.ChangeAt Go.RowKit
set_option linter.unusedVariables false
set_option linter.unusedSimpArgs false
set_option maxRecDepth 100000

/-! ### the document's order of exact numbers -/
def sgnX (k : Int) (neg : Bool) : Int := if k = 1 then (if neg then -1 else 1) else 0
end Go.Proofs.Ytheliihkkoohnaa

namespace Go.Proofs.Ytheliihkkoohnaa
open Go.ChangeShapes Go.WideShapes Go.ChangeAt Go.RowKit
set_option linter.unusedVariables false
set_option linter.unusedSimpArgs false
set_option maxRecDepth 100000

/-! ### two numbers of one sign, compared -/
end Go.Proofs.Ytheliihkkoohnaa

namespace Go.Proofs.Ytheliihkkoohnaa
open Go.ChangeShapes Go.WideShapes Go.ChangeAt Go.RowKit
set_option linter.unusedVariables false
set_option linter.unusedSimpArgs false
set_option maxRecDepth 100000

/-! ### a scale within the bound -/
def heldX (s : Int) : Int := if s < -1099511627776 then -1099511627776 else if s > 1099511627776 then 1099511627776 else s
theorem held7_any (s : Int) (w : World) :
    Calls Try.prog 78 #[.int .i64 s] w fun e w' => e = .returned (.int .i64 (heldX s)) ∧ w' = w := by
  unfold heldX
  refine cps fun Q hQ => ?_
  by_cases h1 : s < -1099511627776
  · rw [if_pos h1] at hQ
    go_enter Try.func78, Try.ntmps78
    go_wp2
    exact hQ.out _ _ ⟨rfl, rfl⟩
  · rw [if_neg h1] at hQ
    have d1 : decide (s < -1099511627776) = false := decide_eq_false h1
    by_cases h2 : s > 1099511627776
    · rw [if_pos h2] at hQ
      have d2 : decide ((1099511627776 : Int) < s) = true := decide_eq_true h2
      go_enter Try.func78, Try.ntmps78
      go_wp2
      exact hQ.out _ _ ⟨rfl, rfl⟩
    · rw [if_neg h2] at hQ
      have d2 : decide ((1099511627776 : Int) < s) = false := decide_eq_false (by omega)
      go_enter Try.func78, Try.ntmps78
      go_wp2
      exact hQ.out _ _ ⟨rfl, rfl⟩
end Go.Proofs.Ytheliihkkoohnaa

namespace Go.Proofs.Ytheliihkkoohnaa
open Go.ChangeShapes Go.WideShapes Go.ChangeAt Go.RowKit
set_option linter.unusedVariables false
set_option maxRecDepth 100000

theorem shr_digit (Y r : Nat) (hr : r < 24) : Y % 16777216 / 2 ^ r + Y / 16777216 % 16777216 % 2 ^ r * (16777216 / 2 ^ r) = Y / 2 ^ r % 16777216 := by
  have h : r = 0 ∨ r = 1 ∨ r = 2 ∨ r = 3 ∨ r = 4 ∨ r = 5 ∨ r = 6 ∨ r = 7 ∨ r = 8 ∨ r = 9 ∨ r = 10 ∨ r = 11 ∨ r = 12 ∨ r = 13 ∨ r = 14 ∨ r = 15 ∨ r = 16 ∨ r = 17 ∨ r = 18 ∨ r = 19 ∨ r = 20 ∨ r = 21 ∨ r = 22 ∨ r = 23 := by omega
  rcases h with h | h | h | h | h | h | h | h | h | h | h | h | h | h | h | h | h | h | h | h | h | h | h | h <;> subst h <;> simp only [Nat.reducePow, Nat.reduceDiv] <;> omega

/-- the lowest k digits, and noughts behind -/
def lowz (n k m : Nat) : List Nat := low n k ++ List.replicate (m - k) 0
theorem lowz_zero (n m : Nat) : lowz n 0 m = List.replicate m 0 := by simp [lowz, low_zero]
theorem lowz_all (n m : Nat) : lowz n m m = low n m := by simp [lowz]
theorem lowz_set (n k m : Nat) (h : k < m) : (lowz n k m).set k (top n k % 16777216) = lowz n (k + 1) m := by
  unfold lowz
  obtain ⟨j, rfl⟩ : ∃ j, m = k + 1 + j := ⟨m - k - 1, by omega⟩
  rw [show k + 1 + j - k = j + 1 by omega, show k + 1 + j - (k + 1) = j by omega, List.replicate_succ, low_snoc, List.set_append]
  simp [low_length]

theorem digit_int (v : Value) (n : Nat) (ii : Int) (i d : Nat) (hii : ii = (i : Int)) (hi : i < 4611686018427387904) (w : World) (hr : Row w v (dig n)) (hd : d = top n i % 16777216) :
    Calls Try.prog 111 #[v, .int .i64 ii] w fun e w' => e = .returned (.int .i64 d) ∧ w' = w := by
  rw [hii]; exact digit_dig v n i d hi w hr hd
theorem Row.drew {w : World} {v : Value} {l : List Nat} (h : Row w v l) : Row w.drew v l := h.below (Below.refl _ _).drew
theorem Row.cells {w : World} {b off k c n : Nat} (h : Row w (.slice (some ⟨b, off, none⟩) k c) (dig n)) : ∀ j, j < dlen n → w.cell? ⟨b, off + j, none⟩ = some (.int .i64 (top n j % 16777216 : Nat)) := by
  obtain ⟨ao, c', he, _, _, hr⟩ := h.reads
  injection he with e1 _ _
  subst e1
  intro j hj
  rcases hr with hr | ⟨b', off', e, _, hr⟩
  · omega
  · simp at e
    obtain ⟨rfl, rfl⟩ := e
    exact hr j hj

end Go.Proofs.Ytheliihkkoohnaa

namespace Go.Proofs.Ytheliihkkoohnaa
open Go.ChangeShapes Go.WideShapes Go.ChangeAt Go.RowKit
set_option linter.unusedVariables false
set_option maxRecDepth 100000

theorem digit_anyq (v : Value) (l : List Nat) (i : Nat) (hi : i < 4611686018427387904) (w : World) (hr : Row w v l) :
    Calls Try.prog 82 #[v, .int .i64 i] w fun e w' => e = .returned (.int .i64 (l.getD i 0 : Nat)) ∧ w' = w := by
  obtain ⟨ao, c, rfl, hc, hl, h⟩ := hr.out
  clear hr
  refine cps fun Q hQ => ?_
  by_cases hlt : i < l.length
  · rcases h with h | ⟨b, off, rfl, h⟩
    · omega
    have hcell := h i hlt
    generalize l.getD i 0 = d at *
    generalize l.length = n at *
    go_enter Try.func82, Try.ntmps82
    go_wp2
    exact hQ.out _ _ ⟨rfl, rfl⟩
  · have hz : l.getD i 0 = 0 := by rw [List.getD_eq_getElem?_getD, List.getElem?_eq_none (by omega)]; rfl
    rw [hz] at hQ
    generalize l.length = n at *
    go_enter Try.func82, Try.ntmps82
    go_wp2
    exact hQ.out _ _ ⟨rfl, rfl⟩

theorem digit_digq (v : Value) (n i d : Nat) (hi : i < 4611686018427387904) (w : World) (hr : Row w v (dig n)) (hd : d = top n i % 16777216) :
    Calls Try.prog 82 #[v, .int .i64 i] w fun e w' => e = .returned (.int .i64 d) ∧ w' = w := by
  rw [hd, ← dig_get]; exact digit_anyq v _ i hi w hr
set_option maxHeartbeats 1000000 in
theorem cut_ownq (v : Value) (l : List Nat) (D z : Nat) (hD : l = dig D ++ List.replicate z 0) (w : World) (hr : Row w v l) :
    Calls Try.prog 83 #[v] w fun e w' => ∃ v', e = .returned v' ∧ Row w v' (dig D) ∧ w' = w ∧ v'.ownBlock = v.ownBlock := by
  have HT : Hid (l.take (dlen D) = dig D) := by rw [hD]; exact List.take_left' rfl
  have hlen : l.length = dlen D + z := by rw [hD]; simp [dlen]
  have hget : ∀ j, j < l.length → l.getD j 0 = (dig D).getD j 0 := by
    intro j hj
    rw [hD, List.getD_eq_getElem?_getD, List.getElem?_append]
    split
    · rw [List.getD_eq_getElem?_getD]
    · rename_i h
      rw [List.getElem?_replicate, List.getD_eq_getElem?_getD, List.getElem?_eq_none (by omega)]
      split <;> rfl
  have HR : Hid (Row w v l) := hr
  obtain ⟨ao, c, rfl, hc, hl, h⟩ := hr.out
  clear hr
  refine cps fun Q hQ => ?_
  have HG : Hid (∀ j, j < l.length → l.getD j 0 = (dig D).getD j 0) := hget
  clear hget hD
  have hle : dlen D ≤ l.length := by omega
  have HL : Hid (l.length = dlen D + z) := hlen
  clear hlen
  generalize hdD : dlen D = m at *
  have HM : Hid (dlen D = m) := hdD
  clear hdD
  go_enter Try.func83, Try.ntmps83
  go_wp2
  go_loop [3] (fun a => ∃ n : Nat, m ≤ n ∧ n ≤ l.length ∧ a = .int .i64 n) (fun a => (intOf a).toNat)
  case atStart => exact ⟨l.length, by omega, by omega, rfl⟩
  case round =>
    obtain ⟨n, hn1, hn2, rfl⟩ := hrel
    by_cases h0 : 0 < n
    · rcases h with h | ⟨b, off, rfl, h⟩
      · omega
      have hcell := h (n - 1) (by omega)
      have hg := HG.out (n - 1) (by omega)
      rw [hg] at hcell
      clear hg
      by_cases hlt : m < n
      · have hz : (dig D).getD (n - 1) 0 = 0 := by
          rw [dig_get, top_eq_zero (by have := HM.out; omega)]
        rw [hz] at hcell
        clear hz h
        go_wp2
        go_round
        case rel => exact ⟨n - 1, by omega, by omega, by go_num⟩
        case measure => simp [intOf]; omega
      · have hnm : n = m := by omega
        subst hnm
        have hne : (dig D).getD (n - 1) 0 ≠ 0 := by
          rw [dig_get]
          have := HM.out
          have hD0 : D ≠ 0 := by intro h; rw [h, dlen_zero] at this; omega
          have := (dig_last hD0).1
          rw [HM.out] at this
          exact this
        generalize (dig D).getD (n - 1) 0 = d at *
        clear h
        have hne' : 0 < d := by omega
        go_wp2
        have HT' := HR.out.take n (by omega)
        rw [HT.out] at HT'
        exact hQ.out _ _ ⟨_, rfl, HT', rfl, rfl⟩
    · have hn0 : n = 0 := by omega
      subst hn0
      go_wp2
      have HT' := HR.out.take 0 (by omega)
      have e0 : 0 = m := by omega
      rw [e0, HT.out] at HT'
      rw [e0]
      exact hQ.out _ _ ⟨_, rfl, HT', rfl, by cases ao <;> rfl⟩

theorem cut_anyq (v : Value) (l : List Nat) (D z : Nat) (hD : l = dig D ++ List.replicate z 0) (w : World) (hr : Row w v l) :
    Calls Try.prog 83 #[v] w fun e w' => ∃ v', e = .returned v' ∧ Row w v' (dig D) ∧ w' = w :=
  (cut_ownq v l D z hD w hr).mono fun _ _ ⟨v', h1, h2, h3, _⟩ => ⟨v', h1, h2, h3⟩

set_option maxHeartbeats 2000000 in
theorem nadd_anyq (va vb : Value) (a b : Nat) (hS : dlen (a + b) ≤ 1099511627776) (w : World) (ha : Row w va (dig a)) (hb : Row w vb (dig b)) :
    Calls Try.prog 47 #[va, vb] w fun e w' => ∃ v, e = .returned v ∧ Row w' v (dig (a + b)) ∧ Below w.heap.size w w' := by
  refine cps fun Q hQ => ?_
  have hla : dlen a ≤ dlen (a + b) := dlen_mono (by omega)
  have hlb : dlen b ≤ dlen (a + b) := dlen_mono (by omega)
  have HA : Hid (Row w va (dig a)) := ha
  have HB : Hid (Row w vb (dig b)) := hb
  obtain ⟨aa, ca, rfl, h1, h2⟩ := ha.num
  obtain ⟨ab, cb, rfl, h3, h4⟩ := hb.num
  clear ha hb
  obtain ⟨i0, hi, hz0, hz1, hz2⟩ := info_parts infoInt
  have HP : Hid (∀ n k, 0 < top n k ↔ k < dlen n) := top_pos_iff
  generalize hs : a + b = s at *
  have HS : Hid (a + b = s) := hs
  clear hs
  go_enter Try.func47, Try.ntmps47
  go_wp2
  go_loopw [5, 6, 7] (fun o cv iv wr => ∃ k A B C : Nat, k ≤ dlen s ∧ C ≤ 1 ∧ Hid (A = top a k) ∧ Hid (B = top b k) ∧ Hid (A + B + C = top s k) ∧ iv = .int .i64 k ∧ cv = .int .i64 C ∧ wr.ownsRow w.heap.size 3 1 o k ((low s k).map enc) ∧ Below w.heap.size w wr) (fun _ _ i _ => dlen s - (intOf i).toNat)
  case atStart => exact ⟨0, a, b, 0, Nat.zero_le _, by decide, rfl, rfl, HS.out, rfl, rfl, World.ownsRow_nil _ _ _ _, Below.refl _ _⟩
  case round =>
    obtain ⟨k, A, B, C, hk, hC, hA, hB, hT, rfl, rfl, hown, hbel⟩ := hrel
    have pa := HP.out a k
    have pb := HP.out b k
    have ps := HP.out s k
    rw [← hA.out] at pa
    rw [← hB.out] at pb
    rw [← hT.out] at ps
    have hsz := hbel.size
    by_cases hc : k < dlen a ∨ k < dlen b ∨ 0 < C
    · have hks : k < dlen s := ps.1 (by omega)
      have hra := HA.out.below hbel
      have hrb := HB.out.below hbel
      obtain ⟨da, hda⟩ : ∃ d, d = A % 16777216 := ⟨_, rfl⟩
      obtain ⟨db, hdb⟩ : ∃ d, d = B % 16777216 := ⟨_, rfl⟩
      have bda : da ≤ 16777215 := by omega
      have bdb : db ≤ 16777215 := by omega
      have Hda : Hid (da = A % 16777216) := hda
      have Hdb : Hid (db = B % 16777216) := hdb
      have h3 : k < dlen a ∨ (¬ k < dlen a ∧ k < dlen b) ∨ (¬ k < dlen a ∧ ¬ k < dlen b ∧ 0 < C) := by omega
      have HRA : Hid (Row wr _ _) := hra
      have HRB : Hid (Row wr _ _) := hrb
      clear hc pa pb ps hda hdb hra hrb
      rcases h3 with h3 | ⟨h3, h4⟩ | ⟨h3, h4, h5⟩
      all_goals
        go_wp2_with (first
          | (go_at_call_of 82 aa; refine (digit_digq _ a k da (by omega) _ HRA.out (by rw [Hda.out, hA.out])).mono ?_; rintro e w' ⟨rfl, rfl⟩)
          | (go_at_call_of 82 ab; refine (digit_digq _ b k db (by omega) _ HRB.out (by rw [Hdb.out, hB.out])).mono ?_; rintro e w' ⟨rfl, rfl⟩)
          | (at_builtin; refine append1 rfl _ _ _ rfl w.heap.size 3 i0 (.int .i64 0) 8 Try.underlying75 hi hz0 hz1 hz2 rfl _ _ _ hown rfl rfl rfl (by omega) (by decide) hsz ?_; intro v' w1 hown' hbel' _ _))
        go_roundw
        case rel =>
          refine ⟨k + 1, A / 16777216, B / 16777216, (da + db + C) / 16777216, by omega, by omega, ?_, ?_, ?_, by go_num, by go_num, ?_, hbel.trans hbel'⟩
          · show _ = _; rw [hA.out]; rfl
          · show _ = _; rw [hB.out]; rfl
          · show _ = _; rw [top_succ, ← hT.out]; have := Hda.out; have := Hdb.out; omega
          · rw [low_snoc, ← hT.out, List.map_append]
            have e : (((da : Int) + db + C) % 16777216) = (((A + B + C) % 16777216 : Nat) : Int) := by have := Hda.out; have := Hdb.out; omega
            rw [e] at hown'
            exact hown'
        case measure => simp [intOf]; omega
    · have hks : ¬ k < dlen s := fun h => by have := ps.2 h; omega
      have hk1 : k = dlen s := by omega
      have e : low s k = dig s := by rw [hk1, low_dlen]
      rw [e] at hown
      have h3 : ¬ k < dlen a := by omega
      have h4 : ¬ k < dlen b := by omega
      have h5 : ¬ 0 < C := by omega
      clear hk1 e pa pb ps hc
      go_wp2
      exact hQ.out _ _ ⟨_, rfl, row_own hown, hbel⟩
end Go.Proofs.Ytheliihkkoohnaa

namespace Go.Proofs.Ytheliihkkoohnaa
open Go.ChangeShapes Go.WideShapes Go.ChangeAt Go.RowKit
set_option linter.unusedVariables false
set_option maxRecDepth 100000

set_option maxHeartbeats 2000000 in
theorem nsub_anyq (va vb : Value) (a b : Nat) (hba : b ≤ a) (hS : dlen a ≤ 1099511627776) (w : World) (ha : Row w va (dig a)) (hb : Row w vb (dig b)) :
    Calls Try.prog 49 #[va, vb] w fun e w' => ∃ v, e = .returned v ∧ Row w' v (dig (a - b)) ∧ Below w.heap.size w w' := by
  refine cps fun Q hQ => ?_
  have hla : dlen (a - b) ≤ dlen a := dlen_mono (by omega)
  have HA : Hid (Row w va (dig a)) := ha
  have HB : Hid (Row w vb (dig b)) := hb
  obtain ⟨aa, ca, rfl, h1, h2, hr⟩ := ha.reads
  obtain ⟨ab, cb, rfl, h3, h4⟩ := hb.num
  clear ha hb
  obtain ⟨i0, hi, hz0, hz1, hz2⟩ := info_parts infoInt
  have HP : Hid (∀ n k, 0 < top n k ↔ k < dlen n) := top_pos_iff
  have HC : Hid (Row w (.slice aa (dlen a) ca) (dig a)) := HA
  generalize hs : a - b = s at *
  have HS : Hid (a = b + 0 + s) := show _ = _ by omega
  clear hs
  go_enter Try.func49, Try.ntmps49
  go_wp2
  go_loopw [5, 6, 7] (fun o cv iv wr => ∃ k A B C : Nat, k ≤ dlen a ∧ C ≤ 1 ∧ Hid (A = top a k) ∧ Hid (B = top b k) ∧ Hid (A = B + C + top s k) ∧ iv = .int .i64 k ∧ cv = .int .i64 C ∧ wr.ownsRow w.heap.size 3 1 o k ((low s k).map enc) ∧ Below w.heap.size w wr) (fun _ _ i _ => dlen a - (intOf i).toNat)
  case atStart => exact ⟨0, a, b, 0, Nat.zero_le _, by decide, rfl, rfl, HS.out, rfl, rfl, World.ownsRow_nil _ _ _ _, Below.refl _ _⟩
  case round =>
    obtain ⟨k, A, B, C, hk, hC, hA, hB, hT, rfl, rfl, hown, hbel⟩ := hrel
    have hsz := hbel.size
    by_cases hc : k < dlen a
    · have hrb := HB.out.below hbel
      obtain ⟨da, hda⟩ : ∃ d, d = A % 16777216 := ⟨_, rfl⟩
      obtain ⟨db, hdb⟩ : ∃ d, d = B % 16777216 := ⟨_, rfl⟩
      rcases hr with hr | ⟨b', off, rfl, hb', hr⟩
      · omega
      have hcell := (hbel.cell (p := ⟨b', off + k, none⟩) hb').trans (hr k hc)
      rw [← hA.out, ← hda] at hcell
      have bda : da ≤ 16777215 := by omega
      have bdb : db ≤ 16777215 := by omega
      have Hda : Hid (da = A % 16777216) := hda
      have Hdb : Hid (db = B % 16777216) := hdb
      have HRB : Hid (Row wr _ _) := hrb
      have Hown : Hid (wr.ownsRow _ _ _ _ _ _) := hown
      clear hda hdb hrb hr hown
      by_cases hneg : (da : Int) - db - C < 0
      all_goals
        go_wp2
        go_quiet ((go_at_call 82; exact Calls.quiet_of_same (digit_digq _ b k db (by omega) _ HRB.out (by rw [Hdb.out, hB.out]))))
        go_wp2_with (at_builtin; refine append1 rfl _ _ _ rfl w.heap.size 3 i0 (.int .i64 0) 8 Try.underlying75 hi hz0 hz1 hz2 rfl _ _ _ (owns_drewN Hown.out _) rfl rfl rfl (by omega) (by decide) hsz ?_; intro v' w1 hown' hbel' _ _)
        go_roundw
        case measure => simp [intOf]; omega
        case rel =>
          have e1 := Hda.out
          have e2 := Hdb.out
          have e3 := hT.out
          have e4 : top s (k + 1) = top s k / 16777216 := rfl
          have E : Hid ((low s (k + 1)).map enc = (low s k).map enc ++ [enc (top s k % 16777216)]) := by rw [low_snoc, List.map_append]; rfl
          first
            | (have e : (da : Int) - db - C + 16777216 = ((top s k % 16777216 : Nat) : Int) := by omega
               rw [e] at hown'
               refine ⟨k + 1, A / 16777216, B / 16777216, 1, by omega, by omega, ?_, ?_, ?_, by go_num, rfl, by rw [E.out]; exact hown', (below_drewN hbel _).trans hbel'⟩)
            | (have e : (da : Int) - db - C = ((top s k % 16777216 : Nat) : Int) := by omega
               rw [e] at hown'
               refine ⟨k + 1, A / 16777216, B / 16777216, 0, by omega, by omega, ?_, ?_, ?_, by go_num, rfl, by rw [E.out]; exact hown', (below_drewN hbel _).trans hbel'⟩)
          · show _ = _; rw [hA.out]; rfl
          · show _ = _; rw [hB.out]; rfl
          · show _ = _; omega
    · have hk1 : k = dlen a := by omega
      subst hk1
      rw [low_ge hla] at hown
      have hrw := row_own hown
      have HRW : Hid (Row wr _ _) := hrw
      clear hrw hown
      go_wp2_with (go_at_call 83; refine (cut_anyq _ _ s _ rfl _ HRW.out).mono ?_; rintro e w' ⟨v', rfl, hv, rfl⟩)
      exact hQ.out _ _ ⟨_, rfl, hv, hbel⟩

set_option maxHeartbeats 1000000 in
theorem two_anyq (k : Nat) (hk : k ≤ 24) (w : World) :
    Calls Try.prog 76 #[.int .i64 k] w fun e w' => e = .returned (.int .i64 (2 ^ k : Nat)) ∧ w' = w := by
  refine cps fun Q hQ => ?_
  go_enter Try.func76, Try.ntmps76
  go_wp2
  go_loop [3, 4] (fun n i => ∃ j V : Nat, j ≤ k ∧ Hid (V = 2 ^ j) ∧ V ≤ 16777216 ∧ i = .int .i64 j ∧ n = .int .i64 V) (fun _ i => k - (intOf i).toNat)
  case atStart => exact ⟨0, 1, Nat.zero_le _, rfl, by decide, rfl, rfl⟩
  case round =>
    obtain ⟨j, V, hj, hV, hb, rfl, rfl⟩ := hrel
    by_cases hlt : j < k
    · go_wp2
      go_round
      case rel =>
        have h1 : 2 ^ (j + 1) = 2 * V := by rw [hV.out, Nat.pow_succ, Nat.mul_comm]
        have h2 : 2 ^ (j + 1) ≤ 2 ^ 24 := Nat.pow_le_pow_right (by decide) (by omega)
        exact ⟨j + 1, 2 * V, by omega, h1.symm, by omega, by go_num, by go_num⟩
      case measure => simp [intOf]; omega
    · have e : j = k := by omega
      subst e
      go_wp2
      refine hQ.out _ _ ⟨?_, rfl⟩
      rw [hV.out]

set_option maxHeartbeats 2000000 in
theorem times_anyq (va : Value) (a q : Nat) (hq : q ≤ 16777216) (hS : dlen a ≤ 1099511627776) (w : World) (ha : Row w va (dig a)) :
    Calls Try.prog 75 #[va, .int .i64 q] w fun e w' => ∃ v, e = .returned v ∧ Row w' v (dig (a * q)) ∧ Below w.heap.size w w' := by
  refine cps fun Q hQ => ?_
  have hls : dlen (a * q) ≤ dlen a + 2 := by
    refine dlen_le_of_lt ?_
    have h1 := lt_of_dlen_le (n := a) (Nat.le_refl _)
    rw [Nat.pow_add]
    refine Nat.lt_of_le_of_lt (Nat.mul_le_mul (Nat.le_of_lt h1) hq) ?_
    exact Nat.mul_lt_mul_of_pos_left (by decide) (Nat.pow_pos (by decide))
  have HA : Hid (Row w va (dig a)) := ha
  obtain ⟨aa, ca, rfl, h1, h2⟩ := ha.num
  clear ha
  obtain ⟨i0, hi, hz0, hz1, hz2⟩ := info_parts infoInt
  have HP : Hid (∀ n k, 0 < top n k ↔ k < dlen n) := top_pos_iff
  generalize hs : a * q = s at *
  have HS : Hid (a * q + 0 = s) := hs
  clear hs
  go_enter Try.func75, Try.ntmps75
  go_wp2
  go_loopw [5, 6, 7] (fun o cv iv wr => ∃ k A C : Nat, k ≤ dlen s ∧ C ≤ q ∧ Hid (A = top a k) ∧ Hid (A * q + C = top s k) ∧ iv = .int .i64 k ∧ cv = .int .i64 C ∧ wr.ownsRow w.heap.size 3 1 o k ((low s k).map enc) ∧ Below w.heap.size w wr) (fun _ _ i _ => dlen s - (intOf i).toNat)
  case atStart => exact ⟨0, a, 0, Nat.zero_le _, Nat.zero_le _, rfl, HS.out, rfl, rfl, World.ownsRow_nil _ _ _ _, Below.refl _ _⟩
  case round =>
    obtain ⟨k, A, C, hk, hC, hA, hT, rfl, rfl, hown, hbel⟩ := hrel
    have pa := HP.out a k
    have ps := HP.out s k
    rw [← hA.out] at pa
    have hpos : 0 < A * q ↔ 0 < A ∧ 0 < q := ⟨fun h => ⟨Nat.pos_of_mul_pos_right h, Nat.pos_of_mul_pos_left h⟩, fun h => Nat.mul_pos h.1 h.2⟩
    rw [← hT.out] at ps
    have hsz := hbel.size
    by_cases hc : (k < dlen a ∧ 0 < q) ∨ 0 < C
    · have hks : k < dlen s := ps.1 (by have := hpos.2; omega)
      have hra := HA.out.below hbel
      obtain ⟨da, hda⟩ : ∃ d, d = A % 16777216 := ⟨_, rfl⟩
      have bda : da ≤ 16777215 := by omega
      have Hda : Hid (da = A % 16777216) := hda
      have HRA : Hid (Row wr _ _) := hra
      obtain ⟨m, hm⟩ : ∃ m : Nat, m = da * q := ⟨_, rfl⟩
      have bm : m ≤ 16777215 * q := by rw [hm]; exact Nat.mul_le_mul bda (Nat.le_refl _)
      have HM : Hid (m = da * q) := hm
      have hmi : (da : Int) * (q : Int) = (m : Int) := by rw [hm]; simp
      have h3 : (k < dlen a ∧ 0 < q) ∨ (¬ k < dlen a ∧ 0 < C) := by omega
      clear hc pa ps hda hra hpos hm
      rcases h3 with ⟨h3, h4⟩ | ⟨h3, h4⟩
      all_goals
        go_wp2_with (first
          | (go_at_call_of 82 aa; refine (digit_digq _ a k da (by omega) _ HRA.out (by rw [Hda.out, hA.out])).mono ?_; rintro e w' ⟨rfl, rfl⟩)
          | (at_builtin; refine append1 rfl _ _ _ rfl w.heap.size 3 i0 (.int .i64 0) 8 Try.underlying75 hi hz0 hz1 hz2 rfl _ _ _ hown rfl rfl rfl (by omega) (by decide) hsz ?_; intro v' w1 hown' hbel' _ _))
        go_roundw
        case rel =>
          have hp := mul_part A q
          rw [← Hda.out, ← HM.out] at hp
          refine ⟨k + 1, A / 16777216, (m + C) / 16777216, by omega, by omega, ?_, ?_, by go_num, by go_num, ?_, hbel.trans hbel'⟩
          · show _ = _; rw [hA.out]; rfl
          · show _ = _; rw [top_succ, ← hT.out]; omega
          · rw [low_snoc, ← hT.out, List.map_append]
            have e : (((m : Int) + C) % 16777216) = (((A * q + C) % 16777216 : Nat) : Int) := by omega
            rw [e] at hown'
            exact hown'
        case measure => simp [intOf]; omega
    · have hks : ¬ k < dlen s := fun h => by have := ps.2 h; have := hpos.1; omega
      have hk1 : k = dlen s := by omega
      have e : low s k = dig s := by rw [hk1, low_dlen]
      rw [e] at hown
      have h5 : ¬ 0 < C := by omega
      have h3 : ¬ (k < dlen a ∧ 0 < q) := by omega
      by_cases h4 : k < dlen a
      · have h6 : ¬ 0 < q := by omega
        clear hk1 e pa ps hc hpos h3
        go_wp2
        exact hQ.out _ _ ⟨_, rfl, row_own hown, hbel⟩
      · clear hk1 e pa ps hc hpos h3
        go_wp2
        exact hQ.out _ _ ⟨_, rfl, row_own hown, hbel⟩
end Go.Proofs.Ytheliihkkoohnaa

namespace Go.Proofs.Ytheliihkkoohnaa
open Go.ChangeShapes Go.WideShapes Go.ChangeAt Go.RowKit
set_option linter.unusedVariables false
set_option maxRecDepth 100000

set_option maxHeartbeats 1000000 in
theorem nshl_anyq (va : Value) (a k : Nat) (hk : k ≤ 1099511627776) (hS : dlen a ≤ 1099511627776) (w : World) (ha : Row w va (dig a)) :
    Calls Try.prog 45 #[va, .int .i64 k] w fun e w' => ∃ v, e = .returned v ∧ Row w' v (dig (a * 2 ^ k)) ∧ Below w.heap.size w w' := by
  refine cps fun Q hQ => ?_
  have HA : Hid (Row w va (dig a)) := ha
  obtain ⟨aa, ca, rfl, h1, h2⟩ := ha.num
  clear ha
  obtain ⟨i0, hi, hz0, hz1, hz2⟩ := info_parts infoInt
  have hz := @dlen_eq_zero a
  have e0 : 2 ^ k = 2 ^ (k % 24) * 16777216 ^ (k / 24) := by
    have : (16777216 : Nat) = 2 ^ 24 := by decide
    rw [this, ← Nat.pow_mul, ← Nat.pow_add]; congr 1; omega
  by_cases h0 : dlen a = 0
  · have hn := hz.1 h0
    subst hn
    have HQ : Hid _ := hQ.out _ w ⟨.slice none 0 0, rfl, by rw [Nat.zero_mul, dig_zero]; exact row_nil w, Below.refl _ _⟩
    clear hz HA e0
    go_enter Try.func45, Try.ntmps45
    go_wp2
    exact HQ.out
  · have hn : a ≠ 0 := fun h => h0 (hz.2 h)
    have hq : 0 < 2 ^ (k % 24) := Nat.pow_pos (by decide)
    have hq2 : 2 ^ (k % 24) ≤ 2 ^ 24 := Nat.pow_le_pow_right (by decide) (by omega)
    have hne : a * 2 ^ (k % 24) ≠ 0 := Nat.mul_ne_zero hn (by omega)
    have hD : Hid (dig (a * 2 ^ k) = List.replicate (k / 24) 0 ++ dig (a * 2 ^ (k % 24))) := by
      show _ = _
      rw [e0, ← Nat.mul_assoc, dig_shift hne]
    have hT := two_anyq (k % 24) (by omega)
    have hlen : dlen (a * 2 ^ (k % 24)) ≤ 2199023255552 := by
      have h3 := lt_of_dlen_le (n := a) (Nat.le_refl _)
      refine Nat.le_trans (dlen_le_of_lt (k := dlen a + 2) ?_) (by omega)
      rw [Nat.pow_add]
      refine Nat.lt_of_le_of_lt (Nat.mul_le_mul (Nat.le_of_lt h3) hq2) ?_
      exact Nat.mul_lt_mul_of_pos_left (by decide) (Nat.pow_pos (by decide))
    have hdl : dlen (a * 2 ^ (k % 24)) ≠ 0 := fun h => hne (dlen_eq_zero.1 h)
    generalize hp : 2 ^ (k % 24) = p at *
    have HP : Hid (p ≤ 16777216) := by show _ ≤ _; omega
    clear hp e0 hq hq2 hz hn hne
    have hq : k / 24 ≤ 1099511627776 := by omega
    have hr24 : k % 24 ≤ 23 := by omega
    have hki : ((k : Int) / 24) = ((k / 24 : Nat) : Int) := by omega
    have hki2 : ((k : Int) % 24) = ((k % 24 : Nat) : Int) := by omega
    generalize k / 24 = q at *
    generalize k % 24 = r at *
    go_enter Try.func45, Try.ntmps45
    go_wp2_with (at_make; go_must (refine wpList_make_full _ rfl _ _ 75 rfl w.heap.size 3 i0 (.int .i64 0) 1 Try.underlying75 hi hz0 hz1 .i64 .i64 _ _ q rfl rfl (by omega) (by omega) (by rw [hz2]; omega) (by unfold maxLen; omega) (Nat.le_refl _) ?_); intro w1 hown hg)
    have hb0 := (Below.refl w.heap.size w).grown hg (Nat.le_refl _) (fun k hk => by cases hk)
    rw [made_ints] at hown
    have hs1 := hb0.size
    clear hg
    go_wp2_with (first
      | (go_at_call 76; refine (hT _).mono ?_; rintro e w' ⟨rfl, rfl⟩)
      | (go_at_call 75; refine (times_anyq _ a p HP.out hS _ (HA.out.below hb0)).mono ?_; rintro e w2 ⟨v2, rfl, hr2, hb2⟩
         obtain ⟨ao2, c2, rfl, hc2, hl2, hr2⟩ := hr2.reads
         obtain ⟨b2, o2, rfl, hlt2, hr2⟩ := hr2.resolve_left hdl
         have hown2 := owns_below hown hb2
         have hb3 := hb0.trans (hb2.mono hs1)
         have hs3 := hb3.size)
      | (at_builtin; go_must (refine wpList_append_own _ rfl _ _ 75 rfl w.heap.size 3 i0 (.int .i64 0) 1 8 Try.underlying75 hi hz0 hz1 hz2 rfl (by decide) _ _ _ rfl hown2 ⟨b2, o2, none⟩ (dlen (a * p)) c2 ((dig (a * p)).map enc) rfl (by simp [dlen]) ?_ (by simp [enc]; intros; rfl) (by unfold maxLen; omega) (by omega) hs3 ?_)))
    · intro j u hj
      rw [List.getElem?_map, Option.map_eq_some_iff] at hj
      obtain ⟨d, hd, rfl⟩ := hj
      have hlt : j < dlen (a * p) := (List.getElem?_eq_some_iff.1 hd).1
      have := hr2 j hlt
      rw [← dig_get, List.getD_eq_getElem?_getD, hd] at this
      have this : w2.cell? ⟨b2, o2 + j, none⟩ = some (.int .i64 (d : Nat)) := by simpa using this
      unfold Addr.add
      split
      · rename_i h; have hj0 : j = 0 := by simpa using h
        subst hj0; exact this
      · exact this
    · intro v' w3 hown3 hg3 _
      have hb4 := hb3.grown hg3 hs3 (fun k hk => by cases hk; exact Nat.le_refl _)
      have hr3 : Row w3 v' (List.replicate q 0 ++ dig (a * p)) := row_own (by rw [List.map_append, List.map_replicate]; exact hown3)
      rw [← hD.out] at hr3
      go_wp2
      exact hQ.out _ _ ⟨_, rfl, hr3, hb4⟩
end Go.Proofs.Ytheliihkkoohnaa

namespace Go.Proofs.Ytheliihkkoohnaa
open Go.ChangeShapes Go.WideShapes Go.ChangeAt Go.RowKit
set_option linter.unusedVariables false
set_option maxRecDepth 100000

theorem digit_intq (v : Value) (n : Nat) (ii : Int) (i d : Nat) (hii : ii = (i : Int)) (hi : i < 4611686018427387904) (w : World) (hr : Row w v (dig n)) (hd : d = top n i % 16777216) :
    Calls Try.prog 82 #[v, .int .i64 ii] w fun e w' => e = .returned (.int .i64 d) ∧ w' = w := by
  rw [hii]; exact digit_digq v n i d hi w hr hd
set_option maxHeartbeats 1000000 in
theorem nshr_newq (va : Value) (a k : Nat) (hk : k ≤ 9223372036854775807) (hS : dlen a ≤ 1099511627776) (w : World) (ha : Row w va (dig a)) :
    Calls Try.prog 80 #[va, .int .i64 k] w fun e w' => ∃ v, e = .returned v ∧ Row w' v (dig (a / 2 ^ k)) ∧ Below w.heap.size w w' ∧ ∀ g, v.ownBlock = some g → w.heap.size ≤ g := by
  refine cps fun Q hQ => ?_
  have HA : Hid (Row w va (dig a)) := ha
  obtain ⟨aa, ca, rfl, h1, h2, hr⟩ := ha.reads
  clear ha
  obtain ⟨i0, hi, hz0, hz1, hz2⟩ := info_parts infoInt
  have e0 : a / 2 ^ k = top a (k / 24) / 2 ^ (k % 24) := by
    have h16 : (16777216 : Nat) = 2 ^ 24 := by decide
    rw [top_eq, Nat.div_div_eq_div_mul, h16, ← Nat.pow_mul, ← Nat.pow_add]; congr 2; omega
  by_cases h0 : dlen a ≤ k / 24
  · have HQ : Hid _ := hQ.out _ w ⟨.slice none 0 0, rfl, by rw [e0, top_eq_zero h0, Nat.zero_div, dig_zero]; exact row_nil w, Below.refl _ _, fun g h => by cases h⟩
    have hki : ((k : Int) / 24) = ((k / 24 : Nat) : Int) := by omega
    generalize k / 24 = q at *
    clear HA e0 hr
    go_enter Try.func80, Try.ntmps80
    go_wp2
    exact HQ.out
  · rcases hr with hr | ⟨b, off, rfl, hb, hr⟩
    · omega
    have HX := HA.out.drop (k / 24) (by omega)
    have hT := two_anyq (k % 24) (by omega)
    have hdig := fun Y => shr_digit Y (k % 24) (by omega)
    have hq : 0 < 2 ^ (k % 24) := Nat.pow_pos (by decide)
    have hq2 : 2 ^ (k % 24) ≤ 2 ^ 24 := Nat.pow_le_pow_right (by decide) (by omega)
    rw [e0] at hQ
    have hdl : dlen (top a (k / 24)) = dlen a - k / 24 := dlen_top _ _
    generalize hX : top a (k / 24) = X at *
    generalize hF : 2 ^ (k % 24) = F at *
    have hm0 : 0 < dlen X := by omega
    have hki : ((k : Int) / 24) = ((k / 24 : Nat) : Int) := by omega
    have hki2 : ((k : Int) % 24) = ((k % 24 : Nat) : Int) := by omega
    have hr24 : k % 24 ≤ 23 := by omega
    have hq24 : k / 24 < dlen a := by omega
    generalize k / 24 = q at *
    generalize k % 24 = r at *
    have Hdl : Hid (dlen X = dlen a - q) := hdl
    have Hd : Hid (∀ Y, Y % 16777216 / F + Y / 16777216 % 16777216 % F * (16777216 / F) = Y / F % 16777216) := hdig
    have HX' : Hid (Row w _ _) := HX
    have hmi : ((dlen a : Int) - q) = ((dlen X : Nat) : Int) := by omega
    clear e0 hX hF hdl hdig HX h0 hr
    go_enter Try.func80, Try.ntmps80
    go_wp2_with (first
      | (go_at_call 76; refine (hT _).mono ?_; rintro e w' ⟨rfl, hw⟩; rw [hw]; clear hw w')
      | (at_make; go_must (refine wpList_make_full _ rfl _ _ 75 rfl w.heap.size 3 i0 (.int .i64 0) 1 Try.underlying75 hi hz0 hz1 .i64 .i64 _ _ (dlen X) rfl rfl (by omega) (by omega) (by rw [hz2]; omega) (by unfold maxLen; omega) (Nat.le_refl _) ?_); intro w1 hown hg))
    rw [made_ints, ← lowz_zero (X / F)] at hown
    have hb0 := (Below.refl w.heap.size w).grown hg (Nat.le_refl _) (fun k hk => by cases hk)
    have hs0 : w.heap.size < w1.heap.size := by have := hown.lt w.heap.size rfl; omega
    have HC : Hid _ := HX'.out.cells
    have hF0 : 1 ≤ F := by omega
    have HF2 : Hid (F ≤ 16777216) := by show _ ≤ _; omega
    clear hg hT hq hq2 hi hz0 hz1 hz2
    go_loopw [8] (fun i wr => ∃ k : Nat, k ≤ dlen X ∧ i = .int .i64 k ∧ wr.ownsRow w.heap.size 3 1 (.slice (some ⟨w.heap.size, 0, none⟩) (dlen X) (dlen X)) (dlen X) ((lowz (X / F) k (dlen X)).map enc) ∧ Below w.heap.size w wr)
      (fun i _ => dlen X - (intOf i).toNat)
    case atStart => exact ⟨0, Nat.zero_le _, rfl, hown, hb0⟩
    case round =>
      obtain ⟨k, hk, rfl, hownr, hbel⟩ := hrel
      by_cases hlt : k < dlen X
      · have hcell := (hbel.cell (p := ⟨b, off + q + k, none⟩) hb).trans (HC.out k hlt)
        obtain ⟨D, hD⟩ : ∃ D, D = top X k % 16777216 := ⟨_, rfl⟩
        obtain ⟨N, hN⟩ : ∃ N, N = top X (k + 1) % 16777216 := ⟨_, rfl⟩
        obtain ⟨d1, hd1⟩ : ∃ d, d = D / F := ⟨_, rfl⟩
        obtain ⟨n1, hn1⟩ : ∃ d, d = N % F := ⟨_, rfl⟩
        obtain ⟨G, hG⟩ : ∃ d, d = 16777216 / F := ⟨_, rfl⟩
        obtain ⟨m1, hm1⟩ : ∃ d, d = n1 * G := ⟨_, rfl⟩
        have hz := Hd.out (top X k)
        rw [← top_div X F k, ← hD, show top X k / 16777216 = top X (k + 1) from rfl, ← hN, ← hd1, ← hn1, ← hG, ← hm1] at hz
        have hzl : top (X / F) k % 16777216 ≤ 16777215 := by omega
        have i1 : (D : Int) / (F : Int) = (d1 : Int) := by rw [hd1]; simp
        have i2 : (N : Int) % (F : Int) = (n1 : Int) := by rw [hn1]; simp
        have i3 : (16777216 : Int) / (F : Int) = (G : Int) := by rw [hG]; simp
        have i4 : (n1 : Int) * (G : Int) = (m1 : Int) := by rw [hm1]; simp
        have bd : d1 ≤ 16777215 := by omega
        have bm : m1 ≤ 16777215 := by omega
        have bD : D ≤ 16777215 := by omega
        have bN : N ≤ 16777215 := by omega
        have Hz : Hid (d1 + m1 = top (X / F) k % 16777216) := hz
        have HN : Hid (N = top X (k + 1) % 16777216) := hN
        have HR : Hid (Row wr _ _) := HX'.out.below hbel
        rw [← hD] at hcell
        have hfr := hownr.frozenAt k
        obtain ⟨y, hy⟩ : ∃ y, ((lowz (X / F) k (dlen X)).map enc)[k]? = some y := ⟨_, List.getElem?_eq_getElem (by simp [lowz, low_length]; omega)⟩
        have hce := hownr.cellAt k (by omega)
        rw [hy] at hce
        have j2 : (N : Int).tmod (F : Int) = (n1 : Int) := by rw [Int.tmod_eq_emod_of_nonneg (by omega)]; exact i2
        have j3 : Int.tdiv 16777216 (F : Int) = (G : Int) := by rw [Int.tdiv_eq_ediv_of_nonneg (by omega)]; exact i3
        have j1 : (D : Int).tdiv (F : Int) = (d1 : Int) := by rw [Int.tdiv_eq_ediv_of_nonneg (by omega)]; exact i1
        have jk : IntKind.i64.wrap ((k : Int) + 1) = (k : Int) + 1 := wrapI (by omega)
        have bG : G ≤ 16777216 := by rw [hG]; exact Nat.div_le_self _ _
        have jd : IntKind.i64.wrap (d1 : Int) = (d1 : Int) := wrapI (by omega)
        have jG : IntKind.i64.wrap (G : Int) = (G : Int) := wrapI (by omega)
        have jm : IntKind.i64.wrap (m1 : Int) = (m1 : Int) := wrapI (by omega)
        have js : IntKind.i64.wrap ((d1 : Int) + (m1 : Int)) = (d1 : Int) + (m1 : Int) := wrapI (by omega)
        have hst := hownr.stored k (enc (top (X / F) k % 16777216))
        rw [← List.map_set, lowz_set _ _ _ hlt] at hst
        have Hst : Hid _ := hst
        clear hst hownr hy hz hzl hN hD hd1 hn1 hG hm1 hown hb0
        go_wp2
        go_region_with (go_at_call 82; refine (digit_intq _ X ((k : Int) + 1) (k + 1) N (by omega) (by omega) _ HR.out.drew HN.out).mono ?_; rintro e w' ⟨rfl, hw⟩; rw [hw]; clear hw w')
        all_goals
          go_wp2
          go_roundw
          case measure => simp [intOf]; omega
          case rel =>
            have ev : ((d1 : Int) + (m1 : Int)) = ((top (X / F) k % 16777216 : Nat) : Int) := by have := Hz.out; omega
            refine ⟨k + 1, by omega, by go_num, ?_⟩
            rw [ev]
            exact ⟨owns_drewN Hst.out.1 1, (hbel.setCell (Nat.le_refl _) _).drew⟩
      · have hk1 : k = dlen X := by omega
        subst hk1
        rw [lowz_all] at hownr
        have hrw := row_own hownr
        have hle : dlen (X / F) ≤ dlen X := dlen_mono (Nat.div_le_self _ _)
        rw [low_ge hle] at hrw
        have HRW : Hid (Row wr _ _) := hrw
        clear hrw hown hownr
        go_wp2_with (go_at_call 83; refine (cut_ownq _ _ (X / F) _ rfl _ HRW.out).mono ?_; rintro e w' ⟨v', rfl, hv, hw, hob⟩; rw [hw]; clear hw w')
        exact hQ.out _ _ ⟨v', rfl, hv, hbel, fun g h => by rw [hob] at h; cases h; exact Nat.le_refl _⟩
theorem nshr_anyq (va : Value) (a k : Nat) (hk : k ≤ 9223372036854775807) (hS : dlen a ≤ 1099511627776) (w : World) (ha : Row w va (dig a)) :
    Calls Try.prog 80 #[va, .int .i64 k] w fun e w' => ∃ v, e = .returned v ∧ Row w' v (dig (a / 2 ^ k)) ∧ Below w.heap.size w w' := by
  refine (nshr_newq va a k hk hS w ha).mono ?_
  rintro e w' ⟨v, h1, h2, h3, _⟩
  exact ⟨v, h1, h2, h3⟩
end Go.Proofs.Ytheliihkkoohnaa

namespace Go.Proofs.Ytheliihkkoohnaa
open Go.ChangeShapes Go.WideShapes Go.ChangeAt Go.RowKit
set_option linter.unusedVariables false
set_option maxRecDepth 100000

theorem two_intq (kk : Int) (k : Nat) (hkk : kk = (k : Int)) (hk : k ≤ 24) (w : World) :
    Calls Try.prog 76 #[.int .i64 kk] w fun e w' => e = .returned (.int .i64 (2 ^ k : Nat)) ∧ w' = w := by
  rw [hkk]; exact two_anyq k hk w

theorem digit_int'q (v : Value) (n : Nat) (ii : Int) (i d : Nat) (hii : ii = (i : Int)) (hi : i < 4611686018427387904) (w : World) (hr : Row w v (dig n)) (hd : d = top n i % 16777216) :
    Calls Try.prog 82 #[v, .int .i64 ii] w fun e w' => e = .returned (.int .i64 d) ∧ w' = w := by
  rw [hii]; exact digit_digq v n i d hi w hr hd

set_option maxHeartbeats 1000000 in
theorem nbits_anyq (va : Value) (a : Nat) (hS : dlen a ≤ 1099511627776) (w : World) (ha : Row w va (dig a)) :
    Calls Try.prog 77 #[va] w fun e w' => e = .returned (.int .i64 (blen a)) ∧ w' = w := by
  refine cps fun Q hQ => ?_
  obtain ⟨aa, ca, rfl, h1, h2, hr⟩ := ha.reads
  clear ha
  have hz := @dlen_eq_zero a
  by_cases h0 : dlen a = 0
  · have hn := hz.1 h0
    subst hn
    have HQ : Hid _ := hQ.out _ w ⟨rfl, rfl⟩
    rw [blen_zero] at HQ
    clear hz hr
    go_enter Try.func77, Try.ntmps77
    go_wp2
    exact HQ.out
  · have hn : a ≠ 0 := fun h => h0 (hz.2 h)
    have hb := blen_top hn
    have hd := (dig_last hn).2
    obtain ⟨b, off, rfl, hlt, hr⟩ := hr.resolve_left h0
    have hcell := hr (dlen a - 1) (by omega)
    rw [← hd] at hcell
    have hT : top a (dlen a - 1) ≤ 16777215 := by omega
    obtain ⟨L, hL⟩ : ∃ L, L = blen a := ⟨_, rfl⟩
    rw [← hL] at hQ hb
    generalize top a (dlen a - 1) = T at *
    have hT24 : blen T ≤ 24 := blen_le.2 (by omega)
    have HB : Hid (24 * (dlen a - 1) + blen T = L) := show _ = _ by omega
    have HL : Hid (L ≤ 26388279066648) := show _ ≤ _ by omega
    clear hb hr hz hL hd
    go_enter Try.func77, Try.ntmps77
    go_wp2
    go_loop [3, 4] (fun n t => ∃ N V : Nat, Hid (N + blen V = L) ∧ n = .int .i64 N ∧ t = .int .i64 V ∧ N ≤ 26388279066648 ∧ V ≤ 16777215) (fun _ t => (intOf t).toNat)
    case atStart => exact ⟨24 * (dlen a - 1), T, HB.out, by go_num, rfl, by omega, hT⟩
    case round =>
      obtain ⟨N, V, hI, rfl, rfl, hN, hV⟩ := hrel
      by_cases hlt : 0 < V
      · have hs := blen_pos (n := V) (by omega)
        have HI2 : Hid (N + 1 + blen (V / 2) = L) := show _ = _ by have := hI.out; omega
        have HI3 : Hid (N + 1 ≤ 26388279066648) := show _ ≤ _ by have := hI.out; have := HL.out; omega
        clear hs
        go_wp2
        go_round
        case rel => exact ⟨N + 1, V / 2, HI2.out, by go_num, by go_num, HI3.out, by omega⟩
        case measure => simp [intOf]; omega
      · have e : V = 0 := by omega
        subst e
        go_wp2
        have := hI.out
        rw [blen_zero, Nat.add_zero] at this
        rw [this]
        exact hQ.out _ _ ⟨rfl, rfl⟩

set_option maxHeartbeats 1000000 in
theorem nword_anyq (va : Value) (a : Nat) (w : World) (ha : Row w va (dig a)) :
    Calls Try.prog 81 #[va] w fun e w' => e = .returned (.int .u64 (a % 2 ^ 64 : Nat)) ∧ w' = w := by
  refine cps fun Q hQ => ?_
  have HR : Hid (Row w va (dig a)) := ha
  obtain ⟨d0, hd0⟩ : ∃ d, d = top a 0 % 16777216 := ⟨_, rfl⟩
  obtain ⟨d1, hd1⟩ : ∃ d, d = top a 1 % 16777216 := ⟨_, rfl⟩
  obtain ⟨d2, hd2⟩ : ∃ d, d = top a 2 % 16777216 := ⟨_, rfl⟩
  have b0 : d0 ≤ 16777215 := by omega
  have b1 : d1 ≤ 16777215 := by omega
  have b2 : d2 ≤ 16777215 := by omega
  have H0 : Hid (d0 = top a 0 % 16777216) := hd0
  have H1 : Hid (d1 = top a 1 % 16777216) := hd1
  have H2 : Hid (d2 = top a 2 % 16777216) := hd2
  have HV : Hid (((d2 * 16777216 + d1) * 16777216 + d0) % 18446744073709551616 = a % 2 ^ 64) := by
    show _ = _
    have e0 : top a 0 = a := rfl
    have e1 : top a 1 = a / 16777216 := rfl
    have e2 : top a 2 = a / 16777216 / 16777216 := rfl
    omega
  generalize hVV : a % 2 ^ 64 = VV at *
  clear ha hd0 hd1 hd2 hVV
  go_enter Try.func81, Try.ntmps81
  go_wp2
  go_loop [3, 4] (fun v i => (i = .int .i64 2 ∧ v = .int .u64 0) ∨ (i = .int .i64 1 ∧ v = .int .u64 (d2 : Nat)) ∨ (i = .int .i64 0 ∧ v = .int .u64 (d2 * 16777216 + d1 : Nat)) ∨ (i = .int .i64 (-1) ∧ v = .int .u64 (VV : Nat))) (fun _ i => (intOf i + 1).toNat)
  case atStart => exact .inl ⟨rfl, rfl⟩
  case round =>
    rcases hrel with ⟨rfl, rfl⟩ | ⟨rfl, rfl⟩ | ⟨rfl, rfl⟩ | ⟨rfl, rfl⟩
    · go_wp2_with (go_at_call 82; refine (digit_int'q _ a 2 2 d2 rfl (by omega) _ HR.out H2.out).mono ?_; rintro e w' ⟨rfl, hw⟩; rw [hw]; clear hw w')
      go_round
      case rel => exact .inr (.inl ⟨rfl, rfl⟩)
      case measure => simp [intOf]
    · go_wp2_with (go_at_call 82; refine (digit_int'q _ a 1 1 d1 rfl (by omega) _ HR.out H1.out).mono ?_; rintro e w' ⟨rfl, hw⟩; rw [hw]; clear hw w')
      go_round
      case rel => exact .inr (.inr (.inl ⟨rfl, by go_num⟩))
      case measure => simp [intOf]
    · go_wp2_with (go_at_call 82; refine (digit_int'q _ a 0 0 d0 rfl (by omega) _ HR.out H0.out).mono ?_; rintro e w' ⟨rfl, hw⟩; rw [hw]; clear hw w')
      go_round
      case rel =>
        refine .inr (.inr (.inr ⟨rfl, ?_⟩))
        refine congrArg (Value.int IntKind.u64) ?_
        rw [IntKind.wrap_u64, IntKind.wrap_u64, ← HV.out]
        omega
      case measure => simp [intOf]
    · go_wp2
      exact hQ.out _ _ ⟨rfl, rfl⟩

set_option maxHeartbeats 2000000 in
theorem ncmp_anyq (va vb : Value) (a b : Nat) (w : World) (ha : Row w va (dig a)) (hb : Row w vb (dig b)) :
    Calls Try.prog 48 #[va, vb] w fun e w' => e = .returned (.int .i64 (cmpN a b)) ∧ ∃ q, w' = w.drewN q := by
  refine cps fun Q hQ => ?_
  obtain ⟨aa, ca, rfl, h1, h2, hra⟩ := ha.reads
  obtain ⟨ab, cb, rfl, h3, h4, hrb⟩ := hb.reads
  clear ha hb
  rcases Nat.lt_trichotomy (dlen a) (dlen b) with hl | hl | hl
  · have HQ : Hid _ := hQ.out _ w ⟨by rw [cmpN_lt (cmp_len hl)], 0, rfl⟩
    clear hra hrb
    go_enter Try.func48, Try.ntmps48
    go_wp2
    exact HQ.out
  · have H0 : Hid (∀ j, top a j < top b j → a < b) := fun j h => cmp_top h
    have H1 : Hid (∀ j, top b j < top a j → b < a) := fun j h => cmp_top h
    have HL : Hid (top a (dlen a) = top b (dlen a)) := by show _ = _; rw [top_eq_zero (Nat.le_refl _), top_eq_zero (by omega)]
    rw [← hl] at hrb h4
    have HS : Hid (dlen a = dlen b) := hl
    have hb' : dlen b = dlen a := hl.symm
    clear hl
    go_enter Try.func48, Try.ntmps48
    go_wp2
    go_loopw [5] (fun i wr => ∃ j : Nat, j ≤ dlen a ∧ Hid (top a j = top b j) ∧ i = .int .i64 ((j : Int) - 1) ∧ ∃ q, wr = w.drewN q) (fun i _ => (intOf i + 1).toNat)
    case atStart => exact ⟨dlen a, Nat.le_refl _, HL.out, by go_num, 0, rfl⟩
    case round =>
      obtain ⟨j, hj, hT, rfl, q, rfl⟩ := hrel
      by_cases h0 : 0 < j
      · obtain ⟨k, rfl⟩ : ∃ k, j = k + 1 := ⟨j - 1, by omega⟩
        rw [show ((k + 1 : Nat) : Int) - 1 = (k : Int) by omega]
        rcases hra with hra | ⟨ba, oa, rfl, hba, hra⟩
        · omega
        rcases hrb with hrb | ⟨bb, ob, rfl, hbb, hrb⟩
        · omega
        have c1 := hra k (by omega)
        have c2 := hrb k (by omega)
        have hdec : (top a k % 16777216 < top b k % 16777216 → top a k < top b k) ∧ (top b k % 16777216 < top a k % 16777216 → top b k < top a k) ∧ (top a k % 16777216 = top b k % 16777216 → top a k = top b k) := by
          have := hT.out
          rw [top_succ, top_succ] at this
          refine ⟨fun h => by omega, fun h => by omega, fun h => by omega⟩
        have HD : Hid _ := hdec
        have f1 : top a k % 16777216 ≤ 16777215 := by omega
        have f2 : top b k % 16777216 ≤ 16777215 := by omega
        clear hdec hra hrb
        generalize top a k % 16777216 = x at *
        generalize top b k % 16777216 = y at *
        rcases Nat.lt_trichotomy x y with hxy | hxy | hxy
        · go_wp2
          go_quiet (fail)
          go_wp2
          refine hQ.out _ _ ⟨?_, _, by rw [World.drewN_drewN]⟩
          rw [cmpN_lt (H0.out k (HD.out.1 hxy))]; rfl
        · subst hxy
          have HD' := HD.out.2.2 rfl
          have HT' : Hid (top a k = top b k) := HD'
          clear HD' HD
          go_wp2
          go_quiet (fail)
          go_wp2
          go_quiet (fail)
          go_wp2
          go_roundw
          case rel => exact ⟨k, by omega, HT'.out, by go_num, _, rfl⟩
          case measure => simp [intOf]
        · have hnlt : ¬ x < y := by omega
          go_wp2
          go_quiet (fail)
          go_wp2
          go_quiet (fail)
          go_wp2
          refine hQ.out _ _ ⟨?_, _, by rw [World.drewN_drewN, World.drewN_drewN]⟩
          rw [cmpN_gt (H1.out k (HD.out.2.1 hxy))]; rfl
      · have e : j = 0 := by omega
        subst e
        have hab : a = b := hT.out
        have HE : Hid (cmpN a b = 0) := by show _ = _; rw [hab]; exact cmpN_eq b
        clear hab hra hrb
        go_wp2
        refine hQ.out _ _ ⟨?_, _, rfl⟩
        rw [HE.out]; rfl
  · have HQ : Hid _ := hQ.out _ w ⟨by rw [cmpN_gt (cmp_len hl)], 0, rfl⟩
    clear hra hrb
    go_enter Try.func48, Try.ntmps48
    go_wp2
    exact HQ.out

set_option maxHeartbeats 2000000 in
theorem nlow_anyq (va : Value) (a k : Nat) (hk : k ≤ 9223372036854775807) (hS : dlen a ≤ 1099511627776) (w : World) (ha : Row w va (dig a)) :
    Calls Try.prog 79 #[va, .int .i64 k] w fun e w' => e = .returned (.bool (decide (a % 2 ^ k ≠ 0))) ∧ w' = w := by
  refine cps fun Q hQ => ?_
  obtain ⟨aa, ca, rfl, h1, h2, hr⟩ := ha.reads
  clear ha
  go_enter Try.func79, Try.ntmps79
  go_wp2
  go_loop [5] (fun i => ∃ j : Nat, j ≤ dlen a ∧ Hid (2 ^ (min (24 * j) k) ∣ a) ∧ i = .int .i64 j) (fun i => dlen a - (intOf i).toNat)
  case atStart => exact ⟨0, Nat.zero_le _, by show _ ∣ _; simp, rfl⟩
  case round =>
    obtain ⟨j, hj, hI, rfl⟩ := hrel
    by_cases hlt : j < dlen a
    · by_cases hk2 : 24 * j < k
      · rcases hr with hr | ⟨b, off, rfl, hb, hr⟩
        · omega
        have hcell := hr j hlt
        have hdv := hI.out
        rw [show min (24 * j) k = 24 * j by omega] at hdv
        have hp := low_part a j (min 24 (k - 24 * j)) (by omega) hdv
        have hd0 : top a j % 16777216 ≤ 16777215 := by omega
        have hyes : ¬ 2 ^ (24 * j + min 24 (k - 24 * j)) ∣ a → decide (a % 2 ^ k ≠ 0) = true := by
          intro h
          refine decide_eq_true (fun h0 => h ?_)
          exact Nat.dvd_trans (Nat.pow_dvd_pow 2 (by omega)) (Nat.dvd_of_mod_eq_zero h0)
        have hnx : 24 * j + min 24 (k - 24 * j) = min (24 * (j + 1)) k := by omega
        rw [hnx] at hp hyes
        generalize top a j % 16777216 = D at *
        have hf1 : 0 < 2 ^ (min 24 (k - 24 * j)) := Nat.pow_pos (by decide)
        obtain ⟨x, hx⟩ : ∃ x, x = D % 2 ^ (min 24 (k - 24 * j)) := ⟨_, rfl⟩
        rw [← hx] at hp
        have HY : Hid _ := hyes
        have HP : Hid _ := hp
        have HI : Hid _ := hI
        clear hr hdv hp hyes hnx
        by_cases h24 : k - 24 * j < 24
        · obtain ⟨F, hF⟩ : ∃ F, F = 2 ^ (k - 24 * j) := ⟨_, rfl⟩
          rw [show min 24 (k - 24 * j) = k - 24 * j by omega, ← hF] at hx hf1
          have hxi : (D : Int) % (F : Int) = (x : Int) := by rw [hx]; simp
          have hF2 : F ≤ 16777216 := by rw [hF]; exact Nat.pow_le_pow_right (n := 2) (by decide) (show k - 24 * j ≤ 24 by omega)
          have HF : Hid (F = 2 ^ (k - 24 * j)) := hF
          have hh : (k : Int) - 24 * (j : Int) < 24 := by omega
          clear hF hx
          by_cases hx0 : x = 0
          · have HD := HP.out.1 hx0
            have HDD : Hid _ := HD
            clear HD
            subst hx0
            go_wp2_with (go_at_call 76; refine (two_intq _ (k - 24 * j) (by omega) (by omega) _).mono ?_; rintro e w' ⟨rfl, hw⟩; rw [hw, ← HF.out]; clear hw w')
            go_round
            case rel => exact ⟨j + 1, by omega, HDD.out, by go_num⟩
            case measure => simp [intOf]; omega
          · have HT : Hid _ := hQ.out _ w ⟨rfl, rfl⟩
            rw [HY.out (fun h => hx0 (HP.out.2 h))] at HT
            have hx1 : 0 < x := by omega
            go_wp2_with (go_at_call 76; refine (two_intq _ (k - 24 * j) (by omega) (by omega) _).mono ?_; rintro e w' ⟨rfl, hw⟩; rw [hw, ← HF.out]; clear hw w')
            exact HT.out
        · rw [show min 24 (k - 24 * j) = 24 by omega] at hx
          have hxi : (D : Int) % 16777216 = (x : Int) := by rw [hx]; simp
          have hh : ¬ (k : Int) - 24 * (j : Int) < 24 := by omega
          clear hx hf1
          by_cases hx0 : x = 0
          · have HD := HP.out.1 hx0
            have HDD : Hid _ := HD
            clear HD
            subst hx0
            go_wp2
            go_round
            case rel => exact ⟨j + 1, by omega, HDD.out, by go_num⟩
            case measure => simp [intOf]; omega
          · have HT : Hid _ := hQ.out _ w ⟨rfl, rfl⟩
            rw [HY.out (fun h => hx0 (HP.out.2 h))] at HT
            have hx1 : 0 < x := by omega
            go_wp2
            exact HT.out
      · have hdv := hI.out
        rw [show min (24 * j) k = k by omega] at hdv
        have e : decide (a % 2 ^ k ≠ 0) = false := by
          refine decide_eq_false (fun h => h ?_)
          exact Nat.mod_eq_zero_of_dvd hdv
        have HT : Hid _ := hQ.out _ w ⟨rfl, rfl⟩
        rw [e] at HT
        clear hdv e hr
        go_wp2
        exact HT.out
    · have e : decide (a % 2 ^ k ≠ 0) = false := by
        refine decide_eq_false (fun h => h ?_)
        have hdv := hI.out
        by_cases h5 : 24 * j ≤ k
        · rw [show min (24 * j) k = 24 * j by omega] at hdv
          rw [low_end a j hdv (by omega)]; simp
        · rw [show min (24 * j) k = k by omega] at hdv
          exact Nat.mod_eq_zero_of_dvd hdv
      have HT : Hid _ := hQ.out _ w ⟨rfl, rfl⟩
      rw [e] at HT
      clear e hr
      go_wp2
      exact HT.out
end Go.Proofs.Ytheliihkkoohnaa
