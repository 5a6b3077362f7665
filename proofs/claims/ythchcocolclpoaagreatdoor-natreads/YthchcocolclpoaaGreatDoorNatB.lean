import Derived.Test.YthchcocolclpoaaGreatDoorNatA
namespace Go.Proofs.YthchcocolclpoaaGreatDoor
open Go.ChangeShapes Go.WideShapes Go.ChangeAt Go.RowKit
set_option linter.unusedVariables false
set_option maxRecDepth 100000

theorem infoU64 : (Tryz.prog.info? 36).map (fun i => (i.zero, i.size, i.bytes)) = some (some (.int .u64 0), 1, 8) := by kernel_rfl
set_option maxHeartbeats 1000000 in
theorem told_lim (va : Value) (n : Nat) (hS : dlen n ≤ 549755813888) (w : World) (ha : Row w va (dig n)) :
    Calls Tryz.prog 21 #[va] w fun e w' => ∃ v, e = .returned v ∧ RowU w' v (lim n) ∧ Below w.heap.size w w' := by
  refine cps fun Q hQ => ?_
  obtain ⟨i0, hi, hz0, hz1, hz2⟩ := info_parts infoU64
  have HA : Hid (Row w va (dig n)) := ha
  have hlen : (lim n).length ≤ 549755813888 := Nat.le_trans (lim_length n) hS
  clear ha
  go_enter Tryz.func21, Tryz.ntmps21
  go_wp2
  go_loopw [0, 3] (fun av v wr => ∃ (m : Nat) (acc : List Nat), Hid (acc ++ lim m = lim n) ∧ Hid (m ≤ n) ∧ Hid (Row wr av (dig m)) ∧ Hid (∀ g, v.ownBlock = some g → av.ownBlock ≠ some g) ∧ wr.ownsRow w.heap.size 36 1 v acc.length (acc.map encU) ∧ Below w.heap.size w wr) (fun av _ _ => match av with | .slice _ k _ => k | _ => 0)
  case atStart => exact ⟨n, [], rfl, Nat.le_refl _, HA.out, fun g h => (by cases h), World.ownsRow_nil _ _ _ _, Below.refl _ _⟩
  case round =>
    obtain ⟨m, acc, hacc, hmn, hrow, hap, hown, hbel⟩ := hrel
    obtain ⟨aa, ca, rfl, h1, h2⟩ := hrow.out.num
    by_cases h0 : 0 < dlen m
    · have hm0 : m ≠ 0 := fun h => by rw [h, dlen_zero] at h0; omega
      have hsz := hbel.size
      have k1 := fun v w x => nword_any v m w x
      have hmd : dlen m ≤ 549755813888 := Nat.le_trans (dlen_mono hmn.out) hS
      have k2 := fun v w x => nshr_new v m 64 (by decide) (by omega) w x
      have hcons : acc ++ lim m = (acc ++ [m % 2 ^ 64]) ++ lim (m / 2 ^ 64) := by rw [lim_pos hm0, List.append_assoc]; rfl
      have HC : Hid ((acc ++ [m % 2 ^ 64]) ++ lim (m / 2 ^ 64) = lim n) := hcons ▸ hacc.out
      have HL : Hid (acc.length + 1 ≤ 549755813888) := by
        have := congrArg List.length HC.out
        simp at this
        show _ ≤ _
        omega
      have hms : m / 2 ^ 64 < m := by omega
      have HM : Hid (m / 2 ^ 64 ≤ n) := Nat.le_trans (Nat.le_of_lt hms) hmn.out
      have hds : dlen (m / 2 ^ 64) < dlen m := by
        have := dlen_mono (show m / 2 ^ 64 ≤ m / 16777216 by omega)
        rw [dlen_pos hm0]; omega
      clear hcons hms hmd
      generalize m % 2 ^ 64 = d at *
      generalize m / 2 ^ 64 = m' at *
      generalize hk : acc.length = k at *
      have hk' : (acc ++ [d]).length = k + 1 := by simp [hk]
      go_wp2_with (first
        | (go_at_call 46; refine (k1 _ _ hrow.out).mono ?_; rintro e w' ⟨rfl, hw⟩; rw [hw]; clear hw w')
        | (at_builtin; go_must (refine append1 rfl _ _ _ rfl w.heap.size 36 i0 (.int .u64 0) 8 Tryz.underlying24 hi hz0 hz1 hz2 rfl _ _ _ hown rfl rfl rfl (by have := HL.out; omega) (by decide) hsz ?_); intro v' w1 hown' hbel' _ hg)
        | (go_at_call 47; refine (k2 _ _ (hrow.out.grown hg hap.out)).mono ?_; rintro e w2 ⟨v2, rfl, hr2, hb2, hn2⟩))
      obtain ⟨a2, c2, rfl, y1, y2⟩ := hr2.num
      go_roundw
      case measure => exact hds
      case rel =>
        refine ⟨m', acc ++ [d], HC.out, HM.out, hr2, fun g hg1 hg2 => ?_, ?_, ?_⟩
        · have := (own_lt hown' hg1).2
          have := hn2 g hg2
          omega
        · rw [hk', List.map_append]; exact owns_below hown' hb2
        · exact hbel.trans (hbel'.trans (hb2.mono (Nat.le_trans hsz hbel'.size)))
    · have hm0 : m = 0 := dlen_eq_zero.1 (by omega)
      have e : acc = lim n := by have := hacc.out; rw [hm0, lim_zero, List.append_nil] at this; exact this
      subst e
      rw [show dlen m = 0 by omega]
      clear hm0 h0
      go_wp2
      exact hQ.out _ _ ⟨_, rfl, rowU_own hown, hbel⟩
theorem uval_drop (l : List Nat) (i : Nat) (h : i < l.length) : uval (l.drop i) = l.getD i 0 + 18446744073709551616 * uval (l.drop (i + 1)) := by
  rw [List.drop_eq_getElem_cons h, uval_cons, List.getD_eq_getElem?_getD, List.getElem?_eq_getElem h]
  rfl
set_option maxHeartbeats 1000000 in
theorem same_any (va vb : Value) (l m : List Nat) (c : Bool) (hcc : c = decide (l = m)) (w : World) (ha : RowU w va l) (hb : RowU w vb m) :
    Calls Tryz.prog 13 #[va, vb] w fun e w' => e = .returned (.bool c) ∧ ∃ n, w' = w.drewN n := by
  refine cps fun Q hQ => ?_
  obtain ⟨aa, ca, rfl, hca, hla, ra⟩ := ha.out
  obtain ⟨ab, cb, rfl, hcb, hlb, rb⟩ := hb.out
  clear ha hb
  by_cases hlen : l.length = m.length
  · rw [hlen] at ra ⊢
    go_enter Tryz.func13, Tryz.ntmps13
    go_wp2
    go_loopw [5] (fun iv wr => ∃ j q : Nat, j ≤ m.length ∧ iv = .int .i64 j ∧ Hid (l.take j = m.take j) ∧ wr = w.drewN q) (fun iv _ => m.length - (intOf iv).toNat)
    case atStart => exact ⟨0, 0, Nat.zero_le _, rfl, rfl, rfl⟩
    case round =>
      obtain ⟨j, q, hj, rfl, htk, rfl⟩ := hrel
      by_cases hlt : j < m.length
      · rcases ra with ra | ⟨ba, oa, rfl, ra⟩
        · omega
        rcases rb with rb | ⟨bb, ob, rfl, rb⟩
        · omega
        have hc1 := ra j hlt
        have hc2 := rb j hlt
        have htk2 : l.getD j 0 = m.getD j 0 → l.take (j + 1) = m.take (j + 1) := fun h => by
          have := htk.out
          rw [List.take_add_one, List.take_add_one, this, List.getElem?_eq_getElem (by omega), List.getElem?_eq_getElem hlt]
          rw [List.getD_eq_getElem?_getD, List.getD_eq_getElem?_getD, List.getElem?_eq_getElem (by omega), List.getElem?_eq_getElem hlt] at h
          simp at h
          rw [h]
        have hne : l.getD j 0 ≠ m.getD j 0 → c = false := fun h => by
          rw [hcc, decide_eq_false]; intro e; rw [e] at h; exact h rfl
        have HT : Hid _ := htk2
        have HC : Hid (c = decide (l = m)) := hcc
        clear htk2 hcc ra rb hlen
        generalize l.getD j 0 = x at *
        generalize m.getD j 0 = y at *
        by_cases hxy : x = y
        · subst hxy
          go_wp2
          go_quiet (fail)
          go_wp2
          go_roundw
          case measure => simp [intOf]; omega
          case rel => exact ⟨j + 1, _, by omega, by go_num, HT.out (by first | rfl | trivial), rfl⟩
        · have hc := hne hxy
          have hxi : ¬ ((x : Int) = y) := by omega
          clear hne
          go_wp2
          go_quiet (fail)
          go_wp2
          exact hQ.out _ _ ⟨by rw [hc]; rfl, _, World.drewN_drewN _ _ _⟩
      · have e : l = m := by
          have h1 := htk.out
          have h2 : j = m.length := by omega
          rw [List.take_of_length_le (by omega), List.take_of_length_le (by omega)] at h1
          exact h1
        have hc : c = true := by rw [hcc, decide_eq_true e]
        have hj2 : j = m.length := by omega
        rw [hc] at hQ
        clear hc hcc e ra rb hlen
        generalize m.length = n at *
        subst hj2
        go_wp2
        exact hQ.out _ _ ⟨rfl, _, rfl⟩
  · have hc : c = false := by rw [hcc, decide_eq_false]; intro e; rw [e] at hlen; exact hlen rfl
    rw [hc] at hQ
    clear hc hcc ra rb
    generalize l.length = n1 at *
    generalize m.length = n2 at *
    have hne : ¬ ((n1 : Int) = n2) := by omega
    go_enter Tryz.func13, Tryz.ntmps13
    go_wp2
    exact hQ.out _ _ ⟨rfl, 0, rfl⟩
end Go.Proofs.YthchcocolclpoaaGreatDoor
