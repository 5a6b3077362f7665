import Derived.Test.YthchcocolclpoaaGreatDoorNatL
import Derived.Test.YthchcocolclpoaaGreatDoorNatRd
import Derived.Test.YthchcocolclpoaaGreatDoorNatC
import Derived.Test.YthchcocolclpoaaGreatDoorIsD
namespace Go.Proofs.YthchcocolclpoaaGreatDoor
open Go.ChangeShapes Go.WideShapes Go.ChangeAt Go.RowKit
set_option linter.unusedVariables false

theorem first_bad (s : ByteArray) : (∀ j (hj : j < s.size), 48 ≤ (s[j]'hj).toNat ∧ (s[j]'hj).toNat ≤ 57) ∨
    ∃ f, ∃ g : f < s.size, (∀ j (hj : j < s.size), j < f → 48 ≤ (s[j]'hj).toNat ∧ (s[j]'hj).toNat ≤ 57) ∧ ¬ (48 ≤ (s[f]'g).toNat ∧ (s[f]'g).toNat ≤ 57) := by
  have h : ∀ k, k ≤ s.size → (∀ j (hj : j < s.size), j < k → 48 ≤ (s[j]'hj).toNat ∧ (s[j]'hj).toNat ≤ 57) ∨
      ∃ f, ∃ g : f < s.size, (∀ j (hj : j < s.size), j < f → 48 ≤ (s[j]'hj).toNat ∧ (s[j]'hj).toNat ≤ 57) ∧ ¬ (48 ≤ (s[f]'g).toNat ∧ (s[f]'g).toNat ≤ 57) := by
    intro k
    induction k with
    | zero => intro _; exact .inl fun j hj h => (by omega)
    | succ k ih =>
      intro hk
      rcases ih (by omega) with h | h
      · by_cases hd : 48 ≤ (s[k]'(by omega)).toNat ∧ (s[k]'(by omega)).toNat ≤ 57
        · refine .inl fun j hj h2 => ?_
          by_cases e : j = k
          · subst e; exact hd
          · exact h j hj (by omega)
        · exact .inr ⟨k, by omega, h, hd⟩
      · exact .inr h
  rcases h s.size (Nat.le_refl _) with g | g
  · exact .inl fun j hj => g j hj hj
  · exact .inr g
set_option maxHeartbeats 4000000 in
theorem natReads_walk (s : ByteArray) (w : World) (hs : s.size ≤ maxLen) (hg : w.cell? ⟨0, 0, none⟩ = some (.iface 109 (.agg #[.pointer (some ⟨11, 26, none⟩)]))) :
    Calls Tryz.prog 3 #[.string s] w fun e w' => e = .returned (.bool true) ∧ Below w.heap.size w w' := by
  refine cps fun Q hQ => ?_
  have he := fun w a b => Lib.run_eql_iface_int (P := Tryz.prog) w (t := 26) (tx := 29) (k := .i64) a b Tryz.underlying26 (by kernel_rfl) Tryz.underlying29
  have hlt : 0 < w.heap.size := by
    rcases Nat.lt_or_ge 0 w.heap.size with h | h
    · exact h
    · simp [World.cell?, Array.getElem?_eq_none h] at hg
  have hm : s.size ≤ 9223372036854775807 := by unfold maxLen at hs; omega
  by_cases hlong : 4096 < s.size
  · have k2 := fun w => natread_long s hlong hs w
    clear hs
    go_enter Tryz.func3, Tryz.ntmps3
    go_wp2_with (first
      | (go_at_call 4; refine (shown_any _).mono ?_; rintro e w1 ⟨rfl, hb1⟩)
      | (go_at_call 5; refine (k2 _).mono ?_; rintro e w2 ⟨rfl, hb2⟩))
    refine hQ.out _ _ ⟨by first | rfl | simp, ?_⟩
    exact bthen0 hb1 hb2
  · have hshort : s.size ≤ 4096 := by omega
    rcases first_bad s with hall | ⟨f, hf, hbef, hbad⟩
    · by_cases h0 : s.size = 0
      · have k2 := fun w => natread_bad s hshort 0 (.inr ⟨rfl, h0⟩) w
        have hemp : s.toList.isEmpty = true := by
          rw [← decide_eq_emptyBytes]
          refine decide_eq_true ?_
          exact ByteArray.ext (Array.eq_empty_of_size_eq_zero h0)
        clear hall hs
        go_enter Tryz.func3, Tryz.ntmps3
        go_wp2_with (first
          | (go_at_call 4; refine (shown_any _).mono ?_; rintro e w1 ⟨rfl, hb1⟩)
          | (go_at_call 5; refine (k2 _).mono ?_; rintro e w2 ⟨b, rfl, c0, c1, c2, hb2⟩))
        have hb12 := bthen0 hb1 hb2
        have hg2 := (hb12.cell (p := ⟨0, 0, none⟩) hlt).trans hg
        have k3 := isf_any b 0 0 7 7 rfl w2 hg2 c0 c1 c2
        clear k2 he hg hg2 c0 c1 c2
        refine wp_loop_rounds 1 ?_
        rw [rounds_succ]
        go_wp2_with (go_at_call 6; refine k3.mono ?_; rintro e w3 ⟨rfl, hb3⟩)
        refine hQ.out _ _ ⟨by first | rfl | simp, ?_⟩
        exact bthen0 hb12 hb3
      · have k2 := fun w => natread_any s hshort (by omega) hall w
        have k3 := fun w => digits_any s (by omega) hall w
        have k4 := fun va vb w h g => is_any va vb (lim (dnum s s.size)) (dnum s s.size) (Nat.le_trans (dlen_mono (Nat.le_of_lt (dnum_lt s s.size hall (Nat.le_refl _)))) (Nat.le_trans (dlen_ten s.size) (by omega))) true (by simp) w h g
        have hemp : s.toList.isEmpty = false := by
          rw [← decide_eq_emptyBytes]
          refine decide_eq_false fun h => h0 ?_
          rw [h]; rfl
        generalize dnum s s.size = D at *
        have HALL : Hid _ := hall
        clear hall hs
        go_enter Tryz.func3, Tryz.ntmps3
        go_wp2_with (first
          | (go_at_call 4; refine (shown_any _).mono ?_; rintro e w1 ⟨rfl, hb1⟩)
          | (go_at_call 5; refine (k2 _).mono ?_; rintro e w2 ⟨v2, rfl, hr2, hb2⟩))
        go_loopw [6, 7] (fun iv _ wr => ∃ j : Nat, j ≤ s.size ∧ iv = .int .i64 j ∧ wr = w2) (fun iv _ _ => s.size - (intOf iv).toNat)
        case atStart => exact ⟨0, Nat.zero_le _, rfl, rfl⟩
        case round =>
          obtain ⟨j, hj, rfl, rfl⟩ := hrel
          by_cases hlt2 : j < s.size
          · obtain ⟨e1, e2⟩ := HALL.out j hlt2
            have o1 : decide (((s[j]'hlt2).toNat : Int) < 48) = false := decide_eq_false (by omega)
            have o2 : decide ((57 : Int) < ((s[j]'hlt2).toNat : Int)) = false := decide_eq_false (by omega)
            go_wp2
            go_roundw
            case measure => simp [intOf]; omega
            case rel => exact ⟨j + 1, hlt2, by go_num, by first | rfl | trivial⟩
          · have e : j = s.size := by omega
            subst e
            go_wp2_with (first
              | (go_at_call 8; refine (k3 _).mono ?_; rintro e w3 ⟨v3, rfl, hr3, hb3⟩)
              | (go_at_call 7; refine (k4 _ _ _ (hr2.below hb3) hr3).mono ?_; rintro e w4 ⟨rfl, hb4⟩))
            refine hQ.out _ _ ⟨by first | rfl | simp, ?_⟩
            exact bthen0 (bthen0 (bthen0 hb1 hb2) hb3) hb4
    · have k2 := fun w => natread_bad s hshort f (.inl ⟨hf, hbef, hbad⟩) w
      have HBEF : Hid _ := hbef
      have HBAD : Hid (¬ (48 ≤ (s[f]'hf).toNat ∧ (s[f]'hf).toNat ≤ 57)) := hbad
      clear hbef hbad hs
      go_enter Tryz.func3, Tryz.ntmps3
      go_wp2_with (first
        | (go_at_call 4; refine (shown_any _).mono ?_; rintro e w1 ⟨rfl, hb1⟩)
        | (go_at_call 5; refine (k2 _).mono ?_; rintro e w2 ⟨b, rfl, c0, c1, c2, hb2⟩))
      have hb12 := bthen0 hb1 hb2
      have hg2 := (hb12.cell (p := ⟨0, 0, none⟩) hlt).trans hg
      have k3 := isf_any b 0 f 7 7 rfl w2 hg2 c0 c1 c2
      clear k2 he hg hg2 c0 c1 c2
      go_loopw [6, 7] (fun iv _ wr => ∃ j : Nat, j ≤ f ∧ iv = .int .i64 j ∧ wr = w2) (fun iv _ _ => s.size - (intOf iv).toNat)
      case atStart => exact ⟨0, Nat.zero_le _, rfl, rfl⟩
      case round =>
        obtain ⟨j, hj, rfl, rfl⟩ := hrel
        have hlt2 : j < s.size := by omega
        by_cases hjf : j < f
        · obtain ⟨e1, e2⟩ := HBEF.out j hlt2 hjf
          have o1 : decide (((s[j]'hlt2).toNat : Int) < 48) = false := decide_eq_false (by omega)
          have o2 : decide ((57 : Int) < ((s[j]'hlt2).toNat : Int)) = false := decide_eq_false (by omega)
          go_wp2
          go_roundw
          case measure => simp [intOf]; omega
          case rel => exact ⟨j + 1, hjf, by go_num, by first | rfl | trivial⟩
        · have e : j = f := by omega
          subst e
          have hb' := HBAD.out
          by_cases h48 : (s[j]'hlt2).toNat < 48
          · have o1 : decide (((s[j]'hlt2).toNat : Int) < 48) = true := decide_eq_true (by omega)
            clear hb'
            go_wp2_with (go_at_call 6; refine k3.mono ?_; rintro e w3 ⟨rfl, hb3⟩)
            refine hQ.out _ _ ⟨by first | rfl | simp, ?_⟩
            exact bthen0 hb12 hb3
          · have o1 : decide (((s[j]'hlt2).toNat : Int) < 48) = false := decide_eq_false (by omega)
            have o2 : decide ((57 : Int) < ((s[j]'hlt2).toNat : Int)) = true := decide_eq_true (by omega)
            clear hb'
            go_wp2_with (go_at_call 6; refine k3.mono ?_; rintro e w3 ⟨rfl, hb3⟩)
            refine hQ.out _ _ ⟨by first | rfl | simp, ?_⟩
            exact bthen0 hb12 hb3
end Go.Proofs.YthchcocolclpoaaGreatDoor
