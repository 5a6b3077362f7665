import Derived.Test.YtajlgpamcpgalaaCodA
import Derived.Test.YtajlgpamcpgalaaShapeB
namespace Go.Proofs.Ytajlgpamcpgalaa
open Go.ChangeShapes Go.WideShapes Go.ChangeAt Go.RowKit
set_option linter.unusedVariables false
set_option linter.unusedSimpArgs false
set_option maxRecDepth 100000

/-! ### the document's codec: patterns as strings -/
theorem fold6_any (n x : Nat) (hn : Wd n) (w : World) :
    Calls Try.prog 21 #[.int .i64 n, .int .u64 x] w fun e w' => e = .returned (.int .u64 (x % 2 ^ n : Nat)) ∧ Below w.heap.size w w' := by
  have k1 := rfold_ok n x hn
  clear hn
  refine cps fun Q hQ => ?_
  generalize x % 2 ^ n = y at *
  go_enter Try.func21, Try.ntmps21
  go_wp2_with (go_at_call 45; refine (k1 _).mono ?_; rintro e w1 ⟨rfl, hb1⟩)
  exact hQ.out _ _ ⟨rfl, hb1⟩
def minusU (x : Nat) : Nat := (18446744073709551616 - x) % 18446744073709551616
theorem minusU_wrap (x : Nat) (hx : x < 2 ^ 64) : IntKind.u64.wrap (-(x : Int)) = (minusU x : Int) := by
  rw [IntKind.wrap_u64]; unfold minusU; omega
theorem minusU_lt (x : Nat) : minusU x < 2 ^ 64 := Nat.mod_lt _ (by decide)
theorem neg6_any (n x : Nat) (hn : Wd n) (hx : x < 2 ^ 64) (w : World) :
    Calls Try.prog 42 #[.int .i64 n, .int .u64 x] w fun e w' => e = .returned (.int .u64 (minusU x % 2 ^ n : Nat)) ∧ Below w.heap.size w w' := by
  have k1 := fold6_any n (minusU x) hn
  have e1 := minusU_wrap x hx
  have e2 : IntKind.u64.wrap (0 - (x : Int)) = (minusU x : Int) := by rw [← e1]; congr 1; omega
  clear hn hx
  refine cps fun Q hQ => ?_
  generalize minusU x % 2 ^ n = y at *
  generalize minusU x = z at *
  go_enter Try.func42, Try.ntmps42
  go_wp2_with (go_at_call 21; refine (k1 _).mono ?_; rintro e w1 ⟨rfl, hb1⟩)
  exact hQ.out _ _ ⟨rfl, hb1⟩
def strS (n x : Nat) : List Bool := (if x.testBit (n - 1) then bitsOf (minusU x) n else bitsOf x n).drop 1
theorem bits_top (x n : Nat) (h : 1 ≤ n) (s : ByteArray) (hs : IsBits s (bitsOf x n)) (hj : 0 < s.size) : (s[0]'hj).toNat = 48 + (x.testBit (n - 1)).toNat := by
  rw [isBits_get hs 0 hj, bitsOf_getD, Nat.sub_zero]
  have : 0 < n := h
  simp only [this, decide_true, Bool.true_and]
  cases x.testBit (n - 1) <;> rfl
/-- what a run is, place by place -/
theorem runL_of (l : List Bool) (k : Nat) (h0 : 0 < k) (hk : k ≤ l.length) (hs : ∀ j, j < k → l.getD j false = l.getD 0 false) (he : k < l.length → l.getD k false ≠ l.getD 0 false) : runL l = k := by
  have hne : l ≠ [] := by rintro rfl; simp at hk; omega
  obtain ⟨b, r, t, rfl, ht⟩ := split_run l hne
  rw [runL_rep b r t ht]
  have g0 : (List.replicate (r + 1) b ++ t).getD 0 false = b := by rw [List.replicate_succ]; rfl
  have gin : ∀ j, j < r + 1 → (List.replicate (r + 1) b ++ t).getD j false = b := fun j hj => by
    rw [List.getD_eq_getElem?_getD, List.getElem?_append_left (by simpa using hj), List.getElem?_replicate, if_pos hj]; rfl
  rw [g0] at hs he
  rcases Nat.lt_trichotomy (r + 1) k with h | h | h
  · exfalso
    have h2 := hs (r + 1) h
    rcases ht with rfl | ⟨u, rfl⟩
    · simp at hk; omega
    · rw [List.getD_eq_getElem?_getD, List.getElem?_append_right (by simp)] at h2
      simp at h2
  · exact h
  · exact absurd (gin k h) (he (by rw [List.length_append, List.length_replicate]; omega))
end Go.Proofs.Ytajlgpamcpgalaa
