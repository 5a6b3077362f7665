import Derived.Test.YtajlgpamcpgalaaRndC
namespace Go.Proofs.Ytajlgpamcpgalaa
open Go.ChangeShapes Go.WideShapes Go.ChangeAt Go.RowKit
set_option linter.unusedVariables false
set_option linter.unusedSimpArgs false
set_option maxRecDepth 100000

/-! ### the document's round: which Exacts are sound; what is left -/
def exV (k : Int) (neg : Bool) (s : Int) (hi lo : Nat) (rest : Bool) : Value := .agg #[.int .i64 k, .bool neg, .int .i64 s, .int .u64 hi, .int .u64 lo, .bool rest]
def soundX (k : Int) (neg : Bool) (s : Int) (hi lo : Nat) (rest : Bool) : Bool :=
  if k = 0 ∨ k = 2 then decide (neg = false ∧ s = 0 ∧ hi = 0 ∧ lo = 0 ∧ rest = false) else decide (k = 1 ∧ 9223372036854775808 ≤ hi ∧ -1099511627776 ≤ s ∧ s ≤ 1099511627776)
set_option maxHeartbeats 1000000 in
theorem sound7_any (k : Int) (neg : Bool) (s : Int) (hi lo : Nat) (rest : Bool) (w : World) :
    Calls Try.prog 22 #[exV k neg s hi lo rest] w fun e w' => e = .returned (.bool (soundX k neg s hi lo rest)) ∧ Below w.heap.size w w' := by
  unfold exV soundX
  refine cps fun Q hQ => ?_
  by_cases h0 : k = 0
  · subst h0
    go_enter Try.func22, Try.ntmps22
    go_wp2
    all_goals exact hQ.out _ _ ⟨ret_b (by simp_all), cmore (Below.refl _ _) _⟩
  · by_cases h2 : k = 2
    · subst h2
      go_enter Try.func22, Try.ntmps22
      go_wp2
      all_goals exact hQ.out _ _ ⟨ret_b (by simp_all), cmore (Below.refl _ _) _⟩
    · by_cases h1 : k = 1
      · subst h1
        go_enter Try.func22, Try.ntmps22
        go_wp2
        all_goals exact hQ.out _ _ ⟨ret_b (by simp_all <;> omega), cmore (Below.refl _ _) _⟩
      · have d0 : (k == 0) = false := beq_eq_false_iff_ne.2 h0
        have d1 : (k == 1) = false := beq_eq_false_iff_ne.2 h1
        have d2 : (k == 2) = false := beq_eq_false_iff_ne.2 h2
        have HN : Hid (¬ k = 0 ∧ ¬ k = 1 ∧ ¬ k = 2) := ⟨h0, h1, h2⟩
        clear h0 h1 h2
        go_enter Try.func22, Try.ntmps22
        go_wp2
        all_goals exact hQ.out _ _ ⟨ret_b (by have := HN.out; simp_all), cmore (Below.refl _ _) _⟩
theorem some7_any (s : ByteArray) (l : List Bool) (hs : IsBits s l) (hl : l.length ≤ 1048576) (w : World) :
    Calls Try.prog 37 #[.string s] w fun e w' => e = .returned (.bool (l.any id)) ∧ ∃ q, w' = w.drewN q := by
  have hsz := isBits_size hs
  obtain ⟨n, hn⟩ : ∃ n, n = l.length := ⟨_, rfl⟩
  have HN : Hid (n = l.length) := hn
  rw [← hn] at hsz hl
  clear hn
  have heq : Hid (∀ k (hk : k < n), (((s[k]'(by omega)).toNat : Int) == 49) = l.getD k false) := fun k hk => by
    rw [isBits_get hs k (by omega)]
    cases l.getD k false <;> rfl
  clear hs
  refine cps fun Q hQ => ?_
  go_enter Try.func37, Try.ntmps37
  go_wp2
  go_loopw [3] (fun i wr => ∃ k q : Nat, k ≤ n ∧ i = .int .i64 k ∧ Hid (∀ j, j < k → l.getD j false = false) ∧ wr = w.drewN q) (fun i _ => n - (intOf i).toNat)
  case atStart => exact ⟨0, 0, Nat.zero_le _, rfl, fun j hj => absurd hj (by omega), rfl⟩
  case round =>
    obtain ⟨k, q, hk, rfl, hsame, rfl⟩ := hrel
    by_cases hlt : k < n
    · have hlt' : (k : Int) < n := by omega
      have he := heq.out k hlt
      cases hb : l.getD k false with
      | true =>
        rw [hb] at he
        have hR : l.any id = true := by
          refine List.any_eq_true.2 ⟨true, ?_, rfl⟩
          have h2 : k < l.length := by rw [← HN.out]; exact hlt
          rw [List.getD_eq_getElem?_getD, List.getElem?_eq_getElem h2] at hb
          have : l[k] = true := hb
          rw [← this]; exact List.getElem_mem _
        rw [hR] at hQ
        clear hR hb
        go_wp2
        exact hQ.out _ _ ⟨rfl, _, rfl⟩
      | false =>
        rw [hb] at he
        have HBK : Hid (l.getD k false = false) := hb
        clear hb
        go_wp2
        go_roundw
        case rel => exact ⟨k + 1, _, by omega, by go_num, fun j hj => by rcases Nat.lt_succ_iff_lt_or_eq.1 hj with c | c; exact hsame.out j c; subst c; exact HBK.out, rfl⟩
        case measure => simp [intOf]; omega
    · have hkn : k = n := by omega
      have hR : l.any id = false := by
        refine List.any_eq_false.2 fun x hx => ?_
        obtain ⟨j, hj, e⟩ := List.getElem_of_mem hx
        have := hsame.out j (by rw [hkn, HN.out]; exact hj)
        rw [List.getD_eq_getElem?_getD, List.getElem?_eq_getElem hj] at this
        have h2 : l[j] = false := this
        rw [← e, h2]; decide
      rw [hR] at hQ
      clear hR hkn
      go_wp2
      exact hQ.out _ _ ⟨rfl, _, rfl⟩
theorem left7_any (s : ByteArray) (l : List Bool) (rest : Bool) (hs : IsBits s l) (h0 : 0 < l.length) (hl : l.length ≤ 1048576) (w : World) :
    Calls Try.prog 40 #[.string s, .bool rest] w fun e w' => e = .returned (.int .i64 (leftL l rest : Nat)) ∧ Below w.heap.size w w' := by
  have hsz := isBits_size hs
  obtain ⟨n, hn⟩ : ∃ n, n = l.length := ⟨_, rfl⟩
  have HN : Hid (n = l.length) := hn
  rw [← hn] at hsz hl h0
  have hi : IsBits (s.extract 1 n) (l.drop 1) := by
    have := isBits_extract hs 1 n
    rw [List.take_of_length_le (by rw [List.length_drop, hn]; exact Nat.le_refl _)] at this
    exact this
  have r1 := slice_l (P := Try.prog) (s := s) Try.underlying9 1 1 rfl (by omega)
  rw [hsz] at r1
  have k1 := some7_any _ _ hi (by rw [List.length_drop, ← hn]; omega)
  clear hn
  have hs0 : (((s[0]'(by omega)).toNat : Int) == 49) = l.getD 0 false := by
    rw [isBits_get hs 0 (by omega)]; cases l.getD 0 false <;> rfl
  have hne : s.toList.isEmpty = false := by
    rw [← decide_eq_emptyBytes]
    refine decide_eq_false fun h => ?_
    rw [h] at hsz
    have : (0 : Nat) = n := hsz
    omega
  unfold leftL
  generalize s.extract 1 n = s1 at *
  generalize (l.drop 1).any id = more at *
  generalize l.getD 0 false = b at *
  clear hi hs
  refine cps fun Q hQ => ?_
  cases b <;> cases more <;> cases rest
  all_goals
    go_enter Try.func40, Try.ntmps40
    go_wp2_with (go_at_call 37; refine (k1 _).mono ?_; rintro e w1 ⟨rfl, q1, rfl⟩)
    first
      | exact hQ.out _ _ ⟨rfl, below_drewN (Below.refl _ _) _⟩
      | skip
end Go.Proofs.Ytajlgpamcpgalaa
