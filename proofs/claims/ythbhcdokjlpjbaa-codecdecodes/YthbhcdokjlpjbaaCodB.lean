import Derived.Test.YthbhcdokjlpjbaaCodA
import Derived.Test.YthbhcdokjlpjbaaShapeB
namespace Go.Proofs.Ythbhcdokjlpjbaa
open Go.ChangeShapes Go.WideShapes Go.ChangeAt Go.RowKit
set_option linter.unusedVariables false
set_option linter.unusedSimpArgs false
set_option maxRecDepth 100000

/-! ### the document's codec: patterns as strings -/
theorem fold6_any (n x : Nat) (hn : Wd n) (w : World) :
    Calls Try.prog 20 #[.int .i64 n, .int .u64 x] w fun e w' => e = .returned (.int .u64 (x % 2 ^ n : Nat)) ∧ Below w.heap.size w w' := by
  have k1 := rfold_ok n x hn
  clear hn
  refine cps fun Q hQ => ?_
  generalize x % 2 ^ n = y at *
  go_enter Try.func20, Try.ntmps20
  go_wp2_with (go_at_call 43; refine (k1 _).mono ?_; rintro e w1 ⟨rfl, hb1⟩)
  exact hQ.out _ _ ⟨rfl, hb1⟩
def minusU (x : Nat) : Nat := (18446744073709551616 - x) % 18446744073709551616
theorem minusU_wrap (x : Nat) (hx : x < 2 ^ 64) : IntKind.u64.wrap (-(x : Int)) = (minusU x : Int) := by
  rw [IntKind.wrap_u64]; unfold minusU; omega
theorem minusU_lt (x : Nat) : minusU x < 2 ^ 64 := Nat.mod_lt _ (by decide)
theorem neg6_any (n x : Nat) (hn : Wd n) (hx : x < 2 ^ 64) (w : World) :
    Calls Try.prog 36 #[.int .i64 n, .int .u64 x] w fun e w' => e = .returned (.int .u64 (minusU x % 2 ^ n : Nat)) ∧ Below w.heap.size w w' := by
  have k1 := fold6_any n (minusU x) hn
  have e1 := minusU_wrap x hx
  have e2 : IntKind.u64.wrap (0 - (x : Int)) = (minusU x : Int) := by rw [← e1]; congr 1; omega
  clear hn hx
  refine cps fun Q hQ => ?_
  generalize minusU x % 2 ^ n = y at *
  generalize minusU x = z at *
  go_enter Try.func36, Try.ntmps36
  go_wp2_with (go_at_call 20; refine (k1 _).mono ?_; rintro e w1 ⟨rfl, hb1⟩)
  exact hQ.out _ _ ⟨rfl, hb1⟩
def strS (n x : Nat) : List Bool := (if x.testBit (n - 1) then bitsOf (minusU x) n else bitsOf x n).drop 1
theorem bits_top (x n : Nat) (h : 1 ≤ n) (s : ByteArray) (hs : IsBits s (bitsOf x n)) (hj : 0 < s.size) : (s[0]'hj).toNat = 48 + (x.testBit (n - 1)).toNat := by
  rw [isBits_get hs 0 hj, bitsOf_getD, Nat.sub_zero]
  have : 0 < n := h
  simp only [this, decide_true, Bool.true_and]
  cases x.testBit (n - 1) <;> rfl
theorem string6_any (n x : Nat) (h1 : 1 ≤ n) (h2 : n ≤ 64) (hx : x < 2 ^ 64) (w : World) :
    Calls Try.prog 28 #[.int .i64 n, .int .u64 x] w fun e w' => ∃ s, e = .returned (.string s) ∧ IsBits s (strS n x) ∧ Below w.heap.size w w' := by
  have e2 : IntKind.u64.wrap (0 - (x : Int)) = (minusU x : Int) := by rw [← minusU_wrap x hx]; congr 1; omega
  have e1 := minusU_wrap x hx
  clear hx
  refine cps fun Q hQ => ?_
  unfold strS at hQ
  cases hb0 : x.testBit (n - 1)
  all_goals
    rw [hb0] at hQ
    go_enter Try.func28, Try.ntmps28
    go_wp2_with (first
      | (have chk := hsz; go_at_call 29; refine (text_any (minusU x) n h2 _).mono ?_; rintro e w2 ⟨s2, rfl, hs2, hb2⟩; have hsz2 := isBits_size hs2; rw [bitsOf_length] at hsz2; have r1 := slice_l (P := Try.prog) (s := s2) Try.underlying9 1 1 rfl (by omega))
      | (go_at_call 29; refine (text_any x n h2 _).mono ?_; rintro e w1 ⟨s, rfl, hs, hb⟩; have hsz := isBits_size hs; rw [bitsOf_length] at hsz; have hs0 := bits_top x n h1 s hs (by omega); rw [hb0] at hs0; have r1 := slice_l (P := Try.prog) (s := s) Try.underlying9 1 1 rfl (by omega)))
  · have e : ((bitsOf x n).drop 1).take (n - 1) = (bitsOf x n).drop 1 := List.take_of_length_le (by rw [List.length_drop, bitsOf_length]; exact Nat.le_refl _)
    exact hQ.out _ _ ⟨_, rfl, by have := isBits_extract hs 1 n; rw [e] at this; exact this, hb⟩
  · have e : ((bitsOf (minusU x) n).drop 1).take (n - 1) = (bitsOf (minusU x) n).drop 1 := List.take_of_length_le (by rw [List.length_drop, bitsOf_length]; exact Nat.le_refl _)
    exact hQ.out _ _ ⟨_, rfl, by have := isBits_extract hs2 1 n; rw [e] at this; exact this, hb.trans (hb2.mono hb.size)⟩
/-- what a run is, place by place -/
theorem runL_of (l : List Bool) (k : Nat) (h0 : 0 < k) (hk : k ≤ l.length) (hs : ∀ j, j < k → l.getD j false = l.getD 0 false) (he : k < l.length → l.getD k false ≠ l.getD 0 false) : runL l = k := by
  have hne : l ≠ [] := by rintro rfl; simp at hk; omega
  obtain ⟨b, r, t, rfl, ht⟩ := split_run l hne
  rw [runL_rep b r t ht]
  have g0 : (List.replicate (r + 1) b ++ t).getD 0 false = b := by rw [List.replicate_succ]; rfl
  have gin : ∀ j, j < r + 1 → (List.replicate (r + 1) b ++ t).getD j false = b := fun j hj => by
    rw [List.getD_eq_getElem?_getD, List.getElem?_append_left (by simpa using hj), List.getElem?_replicate, if_pos hj]; rfl
  rw [g0] at hs he
  rcases Nat.lt_trichotomy (r + 1) k with h | h | h
  · exfalso
    have h2 := hs (r + 1) h
    rcases ht with rfl | ⟨u, rfl⟩
    · simp at hk; omega
    · rw [List.getD_eq_getElem?_getD, List.getElem?_append_right (by simp)] at h2
      simp at h2
  · exact h
  · exact absurd (gin k h) (he (by rw [List.length_append, List.length_replicate]; omega))
theorem run6_any (s : ByteArray) (l : List Bool) (hs : IsBits s l) (h0 : 0 < l.length) (hl : l.length ≤ 1048576) (w : World) :
    Calls Try.prog 30 #[.string s] w fun e w' => e = .returned (.int .i64 (runL l : Nat)) ∧ ∃ q, w' = w.drewN q := by
  have hsz := isBits_size hs
  obtain ⟨n, hn⟩ : ∃ n, n = l.length := ⟨_, rfl⟩
  have HN : Hid (n = l.length) := hn
  rw [← hn] at hsz h0 hl
  clear hn
  have heqs : Hid (∀ k (hk : k < n), ((((s[k]'(by omega)).toNat : Int) == ((s[0]'(by omega)).toNat : Int)) = (l.getD k false == l.getD 0 false))) := fun k hk => by
    rw [isBits_get hs k (by omega), isBits_get hs 0 (by omega)]
    cases l.getD k false <;> cases l.getD 0 false <;> rfl
  clear hs
  refine cps fun Q hQ => ?_
  go_enter Try.func30, Try.ntmps30
  go_wp2
  go_loopw [3] (fun i wr => ∃ k q : Nat, k ≤ n ∧ i = .int .i64 k ∧ Hid (∀ j, j < k → l.getD j false = l.getD 0 false) ∧ wr = w.drewN q) (fun i _ => n - (intOf i).toNat)
  case atStart => exact ⟨0, 0, Nat.zero_le _, rfl, fun j hj => absurd hj (by omega), rfl⟩
  case round =>
    obtain ⟨k, q, hk, rfl, hsame, rfl⟩ := hrel
    by_cases hlt : k < n
    · have hlt' : (k : Int) < n := by omega
      cases hbit : (l.getD k false == l.getD 0 false) with
      | true =>
        have heq : Hid _ := heqs.out k hlt; rw [hbit] at heq
        go_wp2
        go_quiet (fail)
        have heq' := heq.out
        go_wp2
        go_roundw
        case rel => exact ⟨k + 1, _, by omega, by go_num, fun j hj => by rcases Nat.lt_succ_iff_lt_or_eq.1 hj with c | c; exact hsame.out j c; subst c; simpa using hbit, rfl⟩
        case measure => simp [intOf]; omega
      | false =>
        have heq : Hid _ := heqs.out k hlt; rw [hbit] at heq
        have hk0 : 0 < k := by rcases Nat.eq_zero_or_pos k with c | c; subst c; simp at hbit; exact c
        have hR : runL l = k := runL_of l k hk0 (by rw [← HN.out]; exact hk) hsame.out (fun _ => by simpa using hbit)
        rw [hR] at hQ
        clear hR
        go_wp2
        go_quiet (fail)
        have heq' := heq.out
        go_wp2
        exact hQ.out _ _ ⟨rfl, _, World.drewN_drewN _ _ _⟩
    · have hlt' : decide ((k : Int) < n) = false := by simpa using hlt
      have hkn : k = n := by omega
      have hR : runL l = k := runL_of l k (by omega) (by rw [← HN.out]; exact hk) hsame.out (fun h => by rw [← HN.out] at h; exact absurd h hlt)
      rw [hR] at hQ
      clear hR
      go_wp2
      go_quiet (fail)
      go_wp2
      exact hQ.out _ _ ⟨rfl, _, World.drewN_drewN _ _ _⟩
end Go.Proofs.Ythbhcdokjlpjbaa
