import Derived.Test.YtckmmdmimlhmoaaDoorNatA
namespace Go.Proofs.YtckmmdmimlhmoaaDoor
open Go.ChangeShapes Go.WideShapes Go.ChangeAt Go.RowKit
set_option linter.unusedVariables false
set_option maxRecDepth 100000

theorem infoU64 : (Tryd.prog.info? 42).map (fun i => (i.zero, i.size, i.bytes)) = some (some (.int .u64 0), 1, 8) := by kernel_rfl
theorem uval_drop (l : List Nat) (i : Nat) (h : i < l.length) : uval (l.drop i) = l.getD i 0 + 18446744073709551616 * uval (l.drop (i + 1)) := by
  rw [List.drop_eq_getElem_cons h, uval_cons, List.getD_eq_getElem?_getD, List.getElem?_eq_getElem h]
  rfl
set_option maxHeartbeats 1000000 in
theorem same_any (va vb : Value) (l m : List Nat) (c : Bool) (hcc : c = decide (l = m)) (w : World) (ha : RowU w va l) (hb : RowU w vb m) :
    Calls Tryd.prog 15 #[va, vb] w fun e w' => e = .returned (.bool c) ∧ ∃ n, w' = w.drewN n := by
  refine cps fun Q hQ => ?_
  obtain ⟨aa, ca, rfl, hca, hla, ra⟩ := ha.out
  obtain ⟨ab, cb, rfl, hcb, hlb, rb⟩ := hb.out
  clear ha hb
  by_cases hlen : l.length = m.length
  · rw [hlen] at ra ⊢
    go_enter Tryd.func15, Tryd.ntmps15
    go_wp2
    go_loopw [5] (fun iv wr => ∃ j q : Nat, j ≤ m.length ∧ iv = .int .i64 j ∧ Hid (l.take j = m.take j) ∧ wr = w.drewN q) (fun iv _ => m.length - (intOf iv).toNat)
    case atStart => exact ⟨0, 0, Nat.zero_le _, rfl, rfl, rfl⟩
    case round =>
      obtain ⟨j, q, hj, rfl, htk, rfl⟩ := hrel
      by_cases hlt : j < m.length
      · rcases ra with ra | ⟨ba, oa, rfl, ra⟩
        · omega
        rcases rb with rb | ⟨bb, ob, rfl, rb⟩
        · omega
        have hc1 := ra j hlt
        have hc2 := rb j hlt
        have htk2 : l.getD j 0 = m.getD j 0 → l.take (j + 1) = m.take (j + 1) := fun h => by
          have := htk.out
          rw [List.take_add_one, List.take_add_one, this, List.getElem?_eq_getElem (by omega), List.getElem?_eq_getElem hlt]
          rw [List.getD_eq_getElem?_getD, List.getD_eq_getElem?_getD, List.getElem?_eq_getElem (by omega), List.getElem?_eq_getElem hlt] at h
          simp at h
          rw [h]
        have hne : l.getD j 0 ≠ m.getD j 0 → c = false := fun h => by
          rw [hcc, decide_eq_false]; intro e; rw [e] at h; exact h rfl
        have HT : Hid _ := htk2
        have HC : Hid (c = decide (l = m)) := hcc
        clear htk2 hcc ra rb hlen
        generalize l.getD j 0 = x at *
        generalize m.getD j 0 = y at *
        by_cases hxy : x = y
        · subst hxy
          go_wp2
          go_quiet (fail)
          go_wp2
          go_roundw
          case measure => simp [intOf]; omega
          case rel => exact ⟨j + 1, _, by omega, by go_num, HT.out (by first | rfl | trivial), rfl⟩
        · have hc := hne hxy
          have hxi : ¬ ((x : Int) = y) := by omega
          clear hne
          go_wp2
          go_quiet (fail)
          go_wp2
          exact hQ.out _ _ ⟨by rw [hc]; rfl, _, World.drewN_drewN _ _ _⟩
      · have e : l = m := by
          have h1 := htk.out
          have h2 : j = m.length := by omega
          rw [List.take_of_length_le (by omega), List.take_of_length_le (by omega)] at h1
          exact h1
        have hc : c = true := by rw [hcc, decide_eq_true e]
        have hj2 : j = m.length := by omega
        rw [hc] at hQ
        clear hc hcc e ra rb hlen
        generalize m.length = n at *
        subst hj2
        go_wp2
        exact hQ.out _ _ ⟨rfl, _, rfl⟩
  · have hc : c = false := by rw [hcc, decide_eq_false]; intro e; rw [e] at hlen; exact hlen rfl
    rw [hc] at hQ
    clear hc hcc ra rb
    generalize l.length = n1 at *
    generalize m.length = n2 at *
    have hne : ¬ ((n1 : Int) = n2) := by omega
    go_enter Tryd.func15, Tryd.ntmps15
    go_wp2
    exact hQ.out _ _ ⟨rfl, 0, rfl⟩
end Go.Proofs.YtckmmdmimlhmoaaDoor
