import Derived.Test.YtckmmdmimlhmoaaDoorNatB
namespace Go.Proofs.YtckmmdmimlhmoaaDoor
open Go.ChangeShapes Go.WideShapes Go.ChangeAt Go.RowKit
set_option linter.unusedVariables false
set_option maxRecDepth 100000

theorem dlen_ten (k : Nat) : dlen (10 ^ k) ≤ k + 1 := by
  refine dlen_le_of_lt ?_
  have h1 : 10 ^ k ≤ 16777216 ^ k := Nat.pow_le_pow_left (by decide) k
  have h2 : 0 < 16777216 ^ k := Nat.pow_pos (by decide)
  rw [Nat.pow_succ]
  omega
/-- the number of the first i decimal digits of a text -/
def dnum (s : ByteArray) : Nat → Nat
  | 0 => 0
  | i + 1 => dnum s i * 10 + ((s.data.getD i 0).toNat - 48)
theorem dnum_succ (s : ByteArray) (i : Nat) (h : i < s.size) : dnum s (i + 1) = dnum s i * 10 + ((s[i]'h).toNat - 48) := by
  have : s.data.getD i 0 = s[i]'h := by
    rw [Array.getD_eq_getD_getElem?, Array.getElem?_eq_getElem (show i < s.data.size from h)]; rfl
  rw [dnum, this]
theorem dnum_lt (s : ByteArray) (i : Nat) (h : ∀ j (hj : j < s.size), 48 ≤ (s[j]'hj).toNat ∧ (s[j]'hj).toNat ≤ 57) (hi : i ≤ s.size) : dnum s i < 10 ^ i := by
  induction i with
  | zero => exact Nat.one_pos
  | succ i ih =>
    have h1 := ih (by omega)
    have h2 := h i (by omega)
    rw [dnum_succ s i (by omega), Nat.pow_succ]
    omega
theorem row_one {w : World} {v : Value} {r : Nat} (h : Row w v (dig r)) (h0 : r ≠ 0) (h1 : r < 16777216) : ∃ b off c, v = .slice (some ⟨b, off, none⟩) 1 c ∧ c ≤ 9223372036854775807 ∧ 1 ≤ c ∧ w.cell? ⟨b, off, none⟩ = some (.int .i64 r) := by
  have e : dig r = [r] := by rw [dig_pos h0, show r / 16777216 = 0 by omega, dig_zero, Nat.mod_eq_of_lt h1]
  rw [e] at h
  obtain ⟨ao, c, rfl, hc, hl, g⟩ := h.out
  rcases g with g | ⟨b, off, rfl, g⟩
  · simp at g
  · exact ⟨b, off, c, rfl, hc, hl, by simpa using g 0 (by simp)⟩
/-! ### decimal digits, the highest first -/
def ds (n : Nat) : List Nat := if h : n = 0 then [] else ds (n / 10) ++ [n % 10]
theorem ds_zero : ds 0 = [] := by unfold ds; simp
theorem ds_pos {n : Nat} (h : n ≠ 0) : ds n = ds (n / 10) ++ [n % 10] := by
  conv => lhs; unfold ds
  simp [h]
theorem ds_mem (n d : Nat) (h : d ∈ ds n) : d < 10 := by
  induction n using Nat.strongRecOn with
  | _ n ih =>
    by_cases h0 : n = 0
    · subst h0; rw [ds_zero] at h; cases h
    · rw [ds_pos h0] at h
      rcases List.mem_append.1 h with g | g
      · exact ih _ (by omega) g
      · have := List.mem_singleton.1 g; omega
theorem ds_length {n k : Nat} (h : n < 10 ^ k) : (ds n).length ≤ k := by
  induction k generalizing n with
  | zero => have : n = 0 := by simpa using h
            subst this; rw [ds_zero]; exact Nat.le_refl _
  | succ k ih =>
    by_cases h0 : n = 0
    · subst h0; rw [ds_zero]; simp
    · rw [ds_pos h0, List.length_append, List.length_singleton]
      have := ih (n := n / 10) (by rw [Nat.pow_succ] at h; omega)
      omega
/-- a row of decimal digits as a text -/
def dstr (l : List Nat) : ByteArray := ⟨(l.map fun d => (UInt8.ofNat (48 + d))).toArray⟩
theorem dstr_size (l : List Nat) : (dstr l).size = l.length := by simp [dstr, ByteArray.size]
theorem dstr_cons (d : Nat) (l : List Nat) : dstr (d :: l) = dstr [d] ++ dstr l := by
  apply ByteArray.ext
  simp [dstr]
theorem dstr_nil : dstr [] = ByteArray.empty := rfl
/-- a number in decimal digits, '0' of nought -/
def decS (n : Nat) : ByteArray := if n = 0 then dstr [0] else dstr (ds n)
end Go.Proofs.YtckmmdmimlhmoaaDoor
