import Derived.Test.YtajlgpamcpgalaaLeadC
import Derived.Test.YtajlgpamcpgalaaCode
namespace Go.Proofs.Ytajlgpamcpgalaa
open Go.ChangeShapes Go.WideShapes Go.ChangeAt Go.RowKit
set_option linter.unusedVariables false
set_option linter.unusedSimpArgs false
set_option maxRecDepth 100000

/-! ### widths -/
abbrev Wd (n : Nat) : Prop := n = 8 ∨ n = 16 ∨ n = 32 ∨ n = 64
def isW (n : Int) : Bool := decide (n = 8) || (decide (n = 16) || (decide (n = 32) || decide (n = 64)))
theorem isW_yes {n : Int} (h : isW n = true) : ∃ m : Nat, n = m ∧ Wd m := by
  simp only [isW, Bool.or_eq_true, decide_eq_true_eq] at h
  rcases h with rfl | rfl | rfl | rfl
  · exact ⟨8, rfl, .inl rfl⟩
  · exact ⟨16, rfl, .inr (.inl rfl)⟩
  · exact ⟨32, rfl, .inr (.inr (.inl rfl))⟩
  · exact ⟨64, rfl, .inr (.inr (.inr rfl))⟩
theorem isW_no {n : Int} (h : isW n = false) : n ≠ 8 ∧ n ≠ 16 ∧ n ≠ 32 ∧ n ≠ 64 := by
  simp only [isW, Bool.or_eq_false_iff, decide_eq_false_iff_not] at h
  exact ⟨h.1, h.2.1, h.2.2.1, h.2.2.2⟩
theorem isW_of {m : Nat} (h : Wd m) : isW m = true := by rcases h with rfl | rfl | rfl | rfl <;> rfl

/-! ### slices.Contains of a row of integers -/
theorem index_any (g : Nat) (c : Nat) (n : Int) (l : List Int) (hl : l.length ≤ 1099511627776) (w : World) (h : ∀ j (hj : j < l.length), w.cell? ⟨g, j, none⟩ = some (.int .i64 l[j])) :
    Calls Try.prog 82 #[.slice (some ⟨g, 0, none⟩) l.length c, .int .i64 n] w fun e w' => (∃ r : Int, e = .returned (.int .i64 r) ∧ -1 ≤ r ∧ r ≤ 1099511627776 ∧ (0 ≤ r ↔ n ∈ l)) ∧ w' = w := by
  refine cps fun Q hQ => ?_
  have H : Hid (∀ j (hj : j < l.length), w.cell? ⟨g, j, none⟩ = some (.int .i64 l[j])) := h
  clear h
  go_enter Try.func82, Try.ntmps82
  go_wp2
  go_loop [8] (fun iv => ∃ i : Nat, i ≤ l.length ∧ iv = .int .i64 i ∧ Hid (∀ j (hj : j < l.length), j < i → l[j] ≠ n)) (fun iv => l.length - (intOf iv).toNat)
  case atStart => exact ⟨0, Nat.zero_le _, rfl, fun j hj h => by omega⟩
  case round =>
    obtain ⟨i, hi, rfl, hst⟩ := hrel
    by_cases hlt : i < l.length
    · have hc := H.out i hlt
      obtain ⟨x, hx⟩ : ∃ x, x = l[i] := ⟨_, rfl⟩
      rw [← hx] at hc
      have HX : Hid (x = l[i]) := hx
      clear hx
      by_cases he : n = x
      · have HE : Hid (n ∈ l) := by show _ ∈ _; rw [he, HX.out]; exact List.getElem_mem _
        have he2 : (n == x) = true := beq_iff_eq.2 he
        clear he
        go_wp2
        exact hQ.out _ _ ⟨⟨i, rfl, by omega, by omega, ⟨fun _ => HE.out, fun _ => by omega⟩⟩, rfl⟩
      · have HE : Hid (n ≠ x) := he
        have he2 : (n == x) = false := beq_eq_false_iff_ne.2 he
        clear he
        go_wp2
        go_round
        case rel => exact ⟨i + 1, by omega, by go_num, fun j hj h => by
          by_cases g : j = i
          · subst g; rw [← HX.out]; exact fun e => HE.out e.symm
          · exact hst.out j hj (by omega)⟩
        case measure => simp [intOf]; omega
    · have HN : Hid (n ∉ l) := fun hm => by
        obtain ⟨j, hj, e⟩ := List.getElem_of_mem hm
        exact hst.out j hj (by omega) e
      clear hst
      go_wp2
      exact hQ.out _ _ ⟨⟨-1, rfl, by omega, by omega, ⟨fun h => by omega, fun h => absurd h HN.out⟩⟩, rfl⟩
theorem contains_any (g : Nat) (c : Nat) (n : Int) (l : List Int) (b : Bool) (hb : b = decide (n ∈ l)) (hl : l.length ≤ 1099511627776) (w : World) (h : ∀ j (hj : j < l.length), w.cell? ⟨g, j, none⟩ = some (.int .i64 l[j])) :
    Calls Try.prog 74 #[.slice (some ⟨g, 0, none⟩) l.length c, .int .i64 n] w fun e w' => e = .returned (.bool b) ∧ w' = w := by
  have k := index_any g c n l hl w h
  have K : Hid (Calls _ _ _ _ _) := k
  have HB : Hid (b = decide (n ∈ l)) := hb
  clear k h hb
  refine cps fun Q hQ => ?_
  go_enter Try.func74, Try.ntmps74
  go_wp2_with (go_at_call 82; refine K.out.mono ?_; rintro e w' ⟨⟨r, rfl, h1, h2, h3⟩, hw⟩; rw [hw]; clear hw w'; have h4 : decide (0 ≤ r) = b := (decide_eq_decide.2 h3).trans HB.out.symm; clear h3)
  exact hQ.out _ _ ⟨by rw [← h4]; rfl, rfl⟩
theorem widths_any (w : World) : Calls Try.prog 75 #[] w fun e w' => e = .returned (.slice (some ⟨w.heap.size, 0, none⟩) 4 4) ∧ w' = w.alloc (.cells #[.int .i64 8, .int .i64 16, .int .i64 32, .int .i64 64] 3) := by
  refine cps fun Q hQ => ?_
  go_enter Try.func75, Try.ntmps75
  go_wp2
  exact hQ.out _ _ ⟨rfl, rfl⟩
theorem known_any (n : Int) (w : World) : Calls Try.prog 58 #[.int .i64 n] w fun e w' => e = .returned (.bool (isW n)) ∧ Below w.heap.size w w' := by
  have k := contains_any w.heap.size 4 n [8, 16, 32, 64] (isW n) (by simp [isW]) (by decide) (w.alloc (.cells #[.int .i64 8, .int .i64 16, .int .i64 32, .int .i64 64] 3)) (fun j hj => by
    refine (World.cell?_alloc_at _ _ _ _ rfl).trans ?_
    have : j = 0 ∨ j = 1 ∨ j = 2 ∨ j = 3 := by simp at hj; omega
    rcases this with rfl | rfl | rfl | rfl <;> rfl)
  have K : Hid (Calls Try.prog 74 #[.slice (some ⟨w.heap.size, 0, none⟩) 4 4, .int .i64 n] (w.alloc (.cells #[.int .i64 8, .int .i64 16, .int .i64 32, .int .i64 64] 3)) _) := k
  clear k
  refine cps fun Q hQ => ?_
  go_enter Try.func58, Try.ntmps58
  go_wp2_with (first
    | (go_at_call 75; refine (widths_any _).mono ?_; rintro e w' ⟨rfl, rfl⟩)
    | (go_at_call 74; refine K.out.mono ?_; rintro e w' ⟨rfl, hw⟩; rw [hw]; clear hw w'))
  exact hQ.out _ _ ⟨rfl, (Below.refl _ _).alloc (Nat.le_refl _) _⟩
theorem is_width (n : Int) (w : World) : Calls Try.prog 20 #[.int .i64 n] w fun e w' => e = .returned (.bool (isW n)) ∧ w' = w := by
  cases hb : isW n
  · obtain ⟨h1, h2, h3, h4⟩ := isW_no hb
    clear hb
    refine cps fun Q hQ => ?_
    go_enter Try.func20, Try.ntmps20
    go_wp2
    all_goals first | exact hQ.out _ _ ⟨rfl, rfl⟩ | (refine hQ.out _ _ ⟨ret_b ?_, rfl⟩; simp; omega)
  · obtain ⟨m, rfl, hm⟩ := isW_yes hb
    clear hb
    refine cps fun Q hQ => ?_
    rcases hm with rfl | rfl | rfl | rfl
    all_goals
      go_enter Try.func20, Try.ntmps20
      go_wp2
      exact hQ.out _ _ ⟨rfl, rfl⟩
theorem nar_any (n : Nat) (h1 : 1 ≤ n) (h2 : n ≤ 64) (w : World) : Calls Try.prog 59 #[.int .i64 n] w fun e w' => e = .returned (.int .u64 (2 ^ (n - 1) : Nat)) ∧ w' = w := by
  have hp : 2 ^ (n - 1) < 2 ^ 64 := Nat.pow_lt_pow_right (by decide) (by omega)
  have e1 : ((2 : Int) ^ (n - 1)) = ((2 ^ (n - 1) : Nat) : Int) := by simp
  have HE : Hid (IntKind.u64.wrap ((2 : Int) ^ (n - 1)) = ((2 ^ (n - 1) : Nat) : Int)) := by
    show _ = _
    rw [e1, wrapN, Nat.mod_eq_of_lt hp]
  clear e1 hp
  refine cps fun Q hQ => ?_
  go_enter Try.func59, Try.ntmps59
  go_wp2
  refine hQ.out _ _ ⟨ret_i ?_, rfl⟩
  rw [← HE.out]
theorem power_any (k : Nat) (hk : k ≤ 63) (w : World) : Calls Try.prog 35 #[.int .i64 k] w fun e w' => e = .returned (.int .u64 (2 ^ k : Nat)) ∧ w' = w := by
  refine cps fun Q hQ => ?_
  go_enter Try.func35, Try.ntmps35
  go_wp2
  go_loop [3, 4] (fun pv iv => ∃ i p : Nat, i ≤ k ∧ pv = .int .u64 p ∧ iv = .int .i64 i ∧ Hid (p = 2 ^ i)) (fun _ iv => k - (intOf iv).toNat)
  case atStart => exact ⟨0, 1, Nat.zero_le _, rfl, rfl, rfl⟩
  case round =>
    obtain ⟨i, p, hi, rfl, rfl, hp⟩ := hrel
    by_cases hlt : i < k
    · have hb : 2 * p ≤ 18446744073709551615 := by
        rw [hp.out, ← Nat.pow_succ']
        have : (2 : Nat) ^ (i + 1) ≤ 2 ^ 63 := Nat.pow_le_pow_right (by decide) (by omega)
        omega
      go_wp2
      go_round
      case rel => exact ⟨i + 1, 2 * p, by omega, by go_num, by go_num, by show _ = _; rw [hp.out, Nat.pow_succ']⟩
      case measure => simp [intOf]; omega
    · have hin : i = k := by omega
      subst hin
      have HP : Hid (p = 2 ^ i) := hp
      clear hp
      go_wp2
      exact hQ.out _ _ ⟨ret_i (by rw [HP.out]), rfl⟩
theorem power_sub (n : Nat) (h1 : 1 ≤ n) (h2 : n ≤ 64) (w : World) : Calls Try.prog 35 #[.int .i64 ((n : Int) - 1)] w fun e w' => e = .returned (.int .u64 (2 ^ (n - 1) : Nat)) ∧ w' = w := by
  have e : (n : Int) - 1 = ((n - 1 : Nat) : Int) := by omega
  rw [e]
  exact power_any (n - 1) (by omega) w
theorem wd_le {n : Nat} (h : Wd n) : 8 ≤ n ∧ n ≤ 64 := by rcases h with rfl | rfl | rfl | rfl <;> omega
end Go.Proofs.Ytajlgpamcpgalaa
