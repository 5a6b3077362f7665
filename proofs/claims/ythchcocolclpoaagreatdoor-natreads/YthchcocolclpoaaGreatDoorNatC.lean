import Derived.Test.YthchcocolclpoaaGreatDoorNatB
namespace Go.Proofs.YthchcocolclpoaaGreatDoor
open Go.ChangeShapes Go.WideShapes Go.ChangeAt Go.RowKit
set_option linter.unusedVariables false
set_option maxRecDepth 100000

theorem dlen_ten (k : Nat) : dlen (10 ^ k) ≤ k + 1 := by
  refine dlen_le_of_lt ?_
  have h1 : 10 ^ k ≤ 16777216 ^ k := Nat.pow_le_pow_left (by decide) k
  have h2 : 0 < 16777216 ^ k := Nat.pow_pos (by decide)
  rw [Nat.pow_succ]
  omega
/-- the number of the first i decimal digits of a text -/
def dnum (s : ByteArray) : Nat → Nat
  | 0 => 0
  | i + 1 => dnum s i * 10 + ((s.data.getD i 0).toNat - 48)
theorem dnum_succ (s : ByteArray) (i : Nat) (h : i < s.size) : dnum s (i + 1) = dnum s i * 10 + ((s[i]'h).toNat - 48) := by
  have : s.data.getD i 0 = s[i]'h := by
    rw [Array.getD_eq_getD_getElem?, Array.getElem?_eq_getElem (show i < s.data.size from h)]; rfl
  rw [dnum, this]
theorem dnum_lt (s : ByteArray) (i : Nat) (h : ∀ j (hj : j < s.size), 48 ≤ (s[j]'hj).toNat ∧ (s[j]'hj).toNat ≤ 57) (hi : i ≤ s.size) : dnum s i < 10 ^ i := by
  induction i with
  | zero => exact Nat.one_pos
  | succ i ih =>
    have h1 := ih (by omega)
    have h2 := h i (by omega)
    rw [dnum_succ s i (by omega), Nat.pow_succ]
    omega
set_option maxHeartbeats 1000000 in
theorem digits_any (s : ByteArray) (hs : s.size ≤ 1073741824) (hd : ∀ j (hj : j < s.size), 48 ≤ (s[j]'hj).toNat ∧ (s[j]'hj).toNat ≤ 57) (w : World) :
    Calls Tryz.prog 8 #[.string s] w fun e w' => ∃ v, e = .returned v ∧ Row w' v (dig (dnum s s.size)) ∧ Below w.heap.size w w' := by
  refine cps fun Q hQ => ?_
  have HD : Hid _ := hd
  clear hd
  go_enter Tryz.func8, Tryz.ntmps8
  go_wp2
  go_loopw [3, 4] (fun v iv wr => ∃ j : Nat, j ≤ s.size ∧ iv = .int .i64 j ∧ Row wr v (dig (dnum s j)) ∧ Below w.heap.size w wr) (fun _ iv _ => s.size - (intOf iv).toNat)
  case atStart => exact ⟨0, Nat.zero_le _, rfl, by rw [show dnum s 0 = 0 from rfl, dig_zero]; exact row_nil w, Below.refl _ _⟩
  case round =>
    obtain ⟨j, hj, rfl, hrow, hbel⟩ := hrel
    by_cases hlt : j < s.size
    · have HR : Hid (Row wr _ _) := hrow
      have hst := dnum_succ s j hlt
      have hbd := HD.out j hlt
      have hle : dlen (dnum s j) ≤ j + 1 := Nat.le_trans (dlen_mono (Nat.le_of_lt (dnum_lt s j HD.out hj))) (dlen_ten j)
      have hle2 : dlen (dnum s (j + 1)) ≤ j + 2 := Nat.le_trans (dlen_mono (Nat.le_of_lt (dnum_lt s (j + 1) HD.out hlt))) (dlen_ten (j + 1))
      have k1 := fun v w x => times_any v (dnum s j) 10 (by decide) (by omega) w x
      have k2 := fun w => of_any ((s[j]'hlt).toNat - 48) (by omega) w
      have k3 := fun va vb w x y => nadd_any va vb (dnum s j * 10) ((s[j]'hlt).toNat - 48) (by rw [← hst]; omega) w x y
      rw [← hst] at k3
      have v1 : (((s[j]'hlt).toNat : Int) - 48) % 256 = (((s[j]'hlt).toNat - 48 : Nat) : Int) := by omega
      have v2 : IntKind.u8.wrap (((s[j]'hlt).toNat : Int) - 48) = (((s[j]'hlt).toNat - 48 : Nat) : Int) := by rw [IntKind.wrap_u8]; omega
      have HS : Hid _ := hst
      clear hst hrow hle hle2 hbd
      go_wp2_with (first
        | (go_at_call 22; refine (k1 _ _ HR.out).mono ?_; rintro e w1 ⟨v1, rfl, hr1, hb1⟩)
        | (go_at_call 24; refine (k2 _).mono ?_; rintro e w2 ⟨v2, rfl, hr2, hb2⟩)
        | (go_at_call 23; refine (k3 _ _ _ (hr1.below hb2) hr2).mono ?_; rintro e w3 ⟨v3, rfl, hr3, hb3⟩))
      go_roundw
      case measure => simp [intOf]; omega
      case rel => exact ⟨j + 1, hlt, by go_num, hr3, hbel.trans ((hb1.mono hbel.size).trans ((hb2.mono (Nat.le_trans hbel.size hb1.size)).trans (hb3.mono (Nat.le_trans hbel.size (Nat.le_trans hb1.size hb2.size)))))⟩
    · have e : j = s.size := by omega
      subst e
      have HR : Hid (Row wr _ _) := hrow
      clear hrow
      go_wp2
      exact hQ.out _ _ ⟨_, rfl, HR.out, hbel⟩
theorem row_one {w : World} {v : Value} {r : Nat} (h : Row w v (dig r)) (h0 : r ≠ 0) (h1 : r < 16777216) : ∃ b off c, v = .slice (some ⟨b, off, none⟩) 1 c ∧ c ≤ 9223372036854775807 ∧ 1 ≤ c ∧ w.cell? ⟨b, off, none⟩ = some (.int .i64 r) := by
  have e : dig r = [r] := by rw [dig_pos h0, show r / 16777216 = 0 by omega, dig_zero, Nat.mod_eq_of_lt h1]
  rw [e] at h
  obtain ⟨ao, c, rfl, hc, hl, g⟩ := h.out
  rcases g with g | ⟨b, off, rfl, g⟩
  · simp at g
  · exact ⟨b, off, c, rfl, hc, hl, by simpa using g 0 (by simp)⟩
/-! ### decimal digits, the highest first -/
def ds (n : Nat) : List Nat := if h : n = 0 then [] else ds (n / 10) ++ [n % 10]
theorem ds_zero : ds 0 = [] := by unfold ds; simp
theorem ds_pos {n : Nat} (h : n ≠ 0) : ds n = ds (n / 10) ++ [n % 10] := by
  conv => lhs; unfold ds
  simp [h]
theorem ds_mem (n d : Nat) (h : d ∈ ds n) : d < 10 := by
  induction n using Nat.strongRecOn with
  | _ n ih =>
    by_cases h0 : n = 0
    · subst h0; rw [ds_zero] at h; cases h
    · rw [ds_pos h0] at h
      rcases List.mem_append.1 h with g | g
      · exact ih _ (by omega) g
      · have := List.mem_singleton.1 g; omega
theorem ds_length {n k : Nat} (h : n < 10 ^ k) : (ds n).length ≤ k := by
  induction k generalizing n with
  | zero => have : n = 0 := by simpa using h
            subst this; rw [ds_zero]; exact Nat.le_refl _
  | succ k ih =>
    by_cases h0 : n = 0
    · subst h0; rw [ds_zero]; simp
    · rw [ds_pos h0, List.length_append, List.length_singleton]
      have := ih (n := n / 10) (by rw [Nat.pow_succ] at h; omega)
      omega
/-- a row of decimal digits as a text -/
def dstr (l : List Nat) : ByteArray := ⟨(l.map fun d => (UInt8.ofNat (48 + d))).toArray⟩
theorem dstr_size (l : List Nat) : (dstr l).size = l.length := by simp [dstr, ByteArray.size]
theorem dstr_cons (d : Nat) (l : List Nat) : dstr (d :: l) = dstr [d] ++ dstr l := by
  apply ByteArray.ext
  simp [dstr]
theorem dstr_nil : dstr [] = ByteArray.empty := rfl
/-- a number in decimal digits, '0' of nought -/
def decS (n : Nat) : ByteArray := if n = 0 then dstr [0] else dstr (ds n)
end Go.Proofs.YthchcocolclpoaaGreatDoor
