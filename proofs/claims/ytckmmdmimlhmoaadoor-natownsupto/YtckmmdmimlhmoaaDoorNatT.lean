import Derived.Test.YtckmmdmimlhmoaaDoorNatS
namespace Go.Proofs.YtckmmdmimlhmoaaDoor
open Go.ChangeShapes Go.WideShapes Go.ChangeAt Go.RowKit
set_option linter.unusedVariables false
set_option linter.unusedSimpArgs false
set_option maxRecDepth 100000

/-! ### one limb of a quotient -/
theorem grown_drewN (w : World) (n : Nat) (row : Option Nat) : w.grownBy (w.drewN n) row := ⟨rfl, rfl, rfl, Nat.le_refl _, fun _ _ _ => rfl⟩
set_option maxHeartbeats 4000000 in
theorem natguess_any (va vm : Value) (A m : List Nat) (n : Nat) (hA : Limbs A) (hm : Limbs m) (hAl : A.length = n + 2) (hml : m.length = n + 1) (hn : n ≤ 1073741824) (h0 : 0 < m.getD n 0) (hlt : uval A < uval m * 18446744073709551616) (w : World) (ha : RowU w va A) (hb : RowU w vm m) :
    Calls Tryd.prog 45 #[va, vm] w fun e w' => (∃ q : Nat, e = .returned (.int .u64 q) ∧ q < 18446744073709551616 ∧ uval A / uval m ≤ q) ∧ ∃ k, w' = w.drewN k := by
  obtain ⟨ba, oa, ca, rfl, hca, hla, _, hcA⟩ := ha.some' hAl (by omega)
  obtain ⟨bm, om, cm, rfl, hcm, hlm, _, hcM⟩ := hb.some' hml (by omega)
  have c1 := hcA (n + 1) (by omega)
  have c0 := hcA n (by omega)
  have cd := hcM n (by omega)
  have l1 := limbs_getD hA (n + 1)
  have l0 := limbs_getD hA n
  have ld := limbs_getD hm n
  obtain ⟨u1, h1⟩ : ∃ x, x = A.getD (n + 1) 0 := ⟨_, rfl⟩
  obtain ⟨u0, h2⟩ : ∃ x, x = A.getD n 0 := ⟨_, rfl⟩
  obtain ⟨dn, h3⟩ : ∃ x, x = m.getD n 0 := ⟨_, rfl⟩
  have hg := guess_le hml hAl hA h3 h1 h2 (by omega)
  have hge : uval A / uval m ≤ 18446744073709551615 := by
    have := Nat.div_lt_of_lt_mul hlt
    omega
  rw [← h1] at c1 l1
  rw [← h2] at c0 l0
  rw [← h3] at cd ld h0
  have HG : Hid (uval A / uval m ≤ (u1 * 18446744073709551616 + u0) / dn) := hg
  have HGE : Hid (uval A / uval m ≤ 18446744073709551615) := hge
  clear h1 h2 h3 hg hge hA hm hlt ha hb hcA hcM hAl hml
  have HQ0 : True := trivial
  refine cps fun Q hQ => ?_
  have HQ : Hid (∀ e w', ((∃ q : Nat, e = .returned (.int .u64 q) ∧ q < 18446744073709551616 ∧ uval A / uval m ≤ q) ∧ ∃ k, w' = w.drewN k) → Q e w') := hQ.out
  clear hQ
  obtain ⟨LA, hLA⟩ : ∃ x, x = n + 2 := ⟨_, rfl⟩
  obtain ⟨LM, hLM⟩ : ∃ x, x = n + 1 := ⟨_, rfl⟩
  obtain ⟨N1, hN1⟩ : ∃ x, x = n + 1 := ⟨_, rfl⟩
  rw [← hLA] at hla ⊢
  rw [← hN1] at c1
  rw [← hLM] at hlm ⊢
  have e1 : (LM : Int) - 1 = (n : Int) := by omega
  have hw1 : IntKind.i64.wrap (N1 : Int) = (N1 : Int) := wrapI (by omega)
  have hw2 : (n : Int) + 1 = (N1 : Int) := by omega
  have b1 : N1 < LA := by omega
  have b2 : n < LA := by omega
  have b3 : n < LM := by omega
  have b4 : 0 < LM := by omega
  clear hLA hLM hN1
  by_cases hd : dn ≤ u1
  · have hb1 : decide ((dn : Int) ≤ u1) = true := decide_eq_true (by omega)
    go_enter Tryd.func45, Tryd.ntmps45
    go_wp2
    go_quiet (fail)
    go_wp2
    exact HQ.out _ _ ⟨⟨18446744073709551615, rfl, by decide, HGE.out⟩, ⟨_, rfl⟩⟩
  · have hb1 : decide ((dn : Int) ≤ u1) = false := decide_eq_false (by omega)
    obtain ⟨q, hq⟩ : ∃ q, q = (u1 * 18446744073709551616 + u0) / dn := ⟨_, rfl⟩
    obtain ⟨r, hr⟩ : ∃ q, q = (u1 * 18446744073709551616 + u0) % dn := ⟨_, rfl⟩
    have k1 := fun w => div64_any u1 u0 dn (by omega) (by omega) (by omega) w
    have k2 : ∀ w, Calls Tryd.prog 46 #[.int .u64 u1, .int .u64 u0, .int .u64 dn] w fun e w' => e = .returned (.tuple #[.int .u64 q, .int .u64 r]) ∧ ∃ n, w' = w.drewN n := fun w => (k1 w).mono fun e w' ⟨⟨q', r', he, h1, h2⟩, hw⟩ => ⟨by rw [he, h1, h2, hq, hr], hw⟩
    have hqlt : q < 18446744073709551616 := by
      rw [hq]; exact Nat.div_lt_of_lt_mul (by
        have := Nat.mul_le_mul_right 18446744073709551616 (show u1 + 1 ≤ dn by omega)
        omega)
    have HQL : Hid (q < 18446744073709551616 ∧ uval A / uval m ≤ q) := ⟨hqlt, by rw [hq]; exact HG.out⟩
    have hqb : q ≤ 18446744073709551615 := by omega
    clear hq hr k1 HG hqlt
    go_enter Tryd.func45, Tryd.ntmps45
    go_wp2
    go_quiet (fail)
    go_wp2
    have c1' : (w.drewN nq).cell? _ = _ := c1
    have c0' : (w.drewN nq).cell? _ = _ := c0
    have cd' : (w.drewN nq).cell? _ = _ := cd
    obtain ⟨wq, hwq⟩ : ∃ wq, wq = w.drewN nq := ⟨_, rfl⟩
    have HWQ : Hid (wq = w.drewN nq) := hwq
    rw [← hwq] at c1' c0' cd' ⊢
    clear hwq c1 c0 cd
    go_quiet ((go_at_call 46; exact Calls.quiet_of (k2 _)))
    go_wp2
    exact HQ.out _ _ ⟨⟨q, rfl, HQL.out.1, HQL.out.2⟩, ⟨_, by rw [HWQ.out, World.drewN_drewN]⟩⟩

set_option maxHeartbeats 4000000 in
theorem natquot_any (b cap n : Nat) (P A R m : List Nat) (vb : Value) (hA : Limbs A) (hm : Limbs m) (hAl : A.length = n + 2) (hml : m.length = n + 1) (hn : n ≤ 1073741824) (h0 : 0 < m.getD n 0) (hlt : uval A < uval m * 18446744073709551616)
    (hcap : n + 2 ≤ cap) (hcap2 : cap ≤ 9223372036854775807) (hsz : P.length ≤ 1073741824)
    (w : World) (hw : Blk w b (P ++ A ++ R)) (hb : RowU w vb m) (hne : vb.ownBlock ≠ some b) :
    Calls Tryd.prog 30 #[.slice (some ⟨b, P.length, none⟩) (n + 2) cap, vb] w fun e w' =>
      e = .returned (.int .u64 (uval A / uval m : Nat)) ∧ Blk w' b (P ++ fix (n + 2) (uval A % uval m) ++ R) ∧ w.grownBy w' (some b) := by
  have hrow : RowU w (.slice (some ⟨b, P.length, none⟩) (n + 2) cap) A := by rw [← hAl]; exact hw.row cap (by omega) hcap2
  have hg := natguess_any _ vb A m n hA hm hAl hml hn h0 hlt w hrow hb
  have hup : 0 < uval m := by
    refine Nat.pos_of_ne_zero fun g => ?_
    have := (lim_tail m hm).1 n (by rw [g, lim_zero]; simp)
    omega
  have hAlt := uval_lt' A hA
  have HG : Hid (Calls _ _ _ _ _) := hg
  have HB : Hid (RowU w vb m) := hb
  have HNE : Hid (vb.ownBlock ≠ some b) := hne
  have HW : Hid (Blk w b (P ++ A ++ R)) := hw
  have HA : Hid (Limbs A ∧ A.length = n + 2 ∧ uval A < 18446744073709551616 ^ A.length) := ⟨hA, hAl, hAlt⟩
  have HM : Hid (Limbs m ∧ m.length = n + 1 ∧ 0 < uval m) := ⟨hm, hml, hup⟩
  have HTAKE : Hid (∀ k q, q < 18446744073709551616 → Calls Tryd.prog 26 #[.slice (some ⟨b, P.length, none⟩) (n + 2) cap, vb, .int .u64 (q : Nat)] (w.drewN k) _) := fun k q hq => by
    have := takt_any b cap q P A R m vb hA hm hq (by omega) (by omega) hcap2 (by omega) (w.drewN k) (hw.kept (grown_drewN w k none) (by simp)) (hb.grown (grown_drewN w k none) (by simp)) (fun _ => hne)
    rw [hAl] at this
    exact this
  clear hrow hg hup hAlt hb hw hne hA hm hAl hml h0 hlt
  refine cps fun Q hQ => ?_
  go_enter Tryd.func30, Tryd.ntmps30
  go_wp2_with (first
    | (go_at_call 45; refine HG.out.mono ?_; rintro e w' ⟨⟨q, rfl, hq1, hq2⟩, k, rfl⟩; have HQ1 : Hid (q < 18446744073709551616) := hq1; have HQ2 : Hid (uval A / uval m ≤ q) := hq2; clear hq2)
    | (go_at_call 26; refine (HTAKE.out k q HQ1.out).mono ?_; rintro e w2 ⟨rfl, hex, hg2⟩))
  have hst : ∃ L : List Nat, (L.length = n + 2 ∧ Limbs L ∧ (uval A < uval m * q → uval L + uval m * q = uval A + 18446744073709551616 ^ (n + 2)) ∧ (¬ uval A < uval m * q → q = uval A / uval m ∧ uval L = uval A % uval m)) ∧ Blk w2 b (P ++ L ++ R) := by
    obtain ⟨L, k', l1, l2, l3, l4, l5⟩ := hex
    have hA := HA.out
    have hM := HM.out
    rw [← hA.2.1] at l1
    rw [← hA.2.1] at l3
    rcases quot_first (c := k') (by omega) hM.1 HQ1.out HQ2.out hM.2.2 l2 l1 l3 l4 (Iff.refl _) with ⟨g1, g2⟩ | ⟨g1, g2, g3⟩
    · rw [hA.2.1] at g2
      exact ⟨L, ⟨by omega, l2, fun _ => g2, fun h => absurd (l4.1 g1) h⟩, l5⟩
    · exact ⟨L, ⟨by omega, l2, fun h => absurd (l4.2 h) (by omega), fun _ => ⟨g2, g3⟩⟩, l5⟩
  have hgr := grown_trans (grown_drewN w k (some b)) hg2
  clear hex hg2
  have HST : Hid (∃ L : List Nat, (L.length = n + 2 ∧ Limbs L ∧ (uval A < uval m * q → uval L + uval m * q = uval A + 18446744073709551616 ^ (n + 2)) ∧ (¬ uval A < uval m * q → q = uval A / uval m ∧ uval L = uval A % uval m)) ∧ Blk w2 b (P ++ L ++ R)) := hst
  have HGR : Hid (w.grownBy w2 (some b)) := hgr
  clear hst hgr
  go_loopw [5, 6] (fun qv bv wr => ∃ (q : Nat) (L : List Nat) (bl : Bool), q ≤ 18446744073709551615 ∧ qv = .int .u64 q ∧ bv = .bool bl ∧ Hid (L.length = n + 2 ∧ Limbs L ∧ (bl = true → uval L + uval m * q = uval A + 18446744073709551616 ^ (n + 2)) ∧ (bl = false → q = uval A / uval m ∧ uval L = uval A % uval m)) ∧ Hid (Blk wr b (P ++ L ++ R)) ∧ Hid (w.grownBy wr (some b))) (fun qv _ _ => (intOf qv).toNat)
  case atStart =>
    obtain ⟨L, ⟨l1, l2, l3, l4⟩, l5⟩ := HST.out
    refine ⟨q, L, decide (uval A < uval m * q), by have := HQ1.out; omega, rfl, rfl, ⟨l1, l2, fun h => l3 (of_decide_eq_true h), fun h => l4 (of_decide_eq_false h)⟩, l5, HGR.out⟩
  case round =>
    clear HST HGR HTAKE HG
    obtain ⟨q, L, bl, hq, rfl, rfl, hst, hbk, hgr⟩ := hrel
    cases bl with
    | true =>
      obtain ⟨l1, l2, l3, _⟩ := hst.out
      have hA := HA.out
      have hM := HM.out
      have l3 := l3 rfl
      rw [← hA.2.1] at l3
      obtain ⟨g0, g⟩ := quot_next hM.2.2 l2 (by omega) hA.2.2 l3
      have hadd := addt_any b cap 1 P L R m vb l2 hM.1 (by decide) (by omega) (by omega) hcap2 (by omega) wr hbk.out (HB.out.grown hgr.out (fun g hg => by cases hg; exact HNE.out)) (fun _ => HNE.out)
      rw [l1, Nat.mul_one] at hadd
      have HADD : Hid (Calls _ _ _ _ _) := hadd
      have HL1 : Hid (L.length = n + 2) := l1
      have hq1 : 1 ≤ q := by omega
      rw [hA.2.1] at g
      have HGG : Hid ((18446744073709551616 ^ (n + 2) ≤ uval L + uval m ∧ q - 1 = uval A / uval m ∧ (uval L + uval m) % 18446744073709551616 ^ (n + 2) = uval A % uval m) ∨ (uval L + uval m < 18446744073709551616 ^ (n + 2) ∧ (uval L + uval m) + uval m * (q - 1) = uval A + 18446744073709551616 ^ (n + 2))) := g
      have hqq : (q : Int) - 1 = ((q - 1 : Nat) : Int) := by omega
      have hql : q - 1 ≤ 18446744073709551615 := by omega
      obtain ⟨q', hq'⟩ : ∃ q', q' = q - 1 := ⟨_, rfl⟩
      rw [← hq'] at HGG hqq hql
      have HQQ : Hid (q' = q - 1 ∧ 1 ≤ q) := ⟨hq', hq1⟩
      obtain ⟨r, HR⟩ : ∃ r, Hid (r = decide (18446744073709551616 ^ (n + 2) ≤ uval L + uval m)) := ⟨_, rfl⟩
      rw [← HR.out] at HADD
      clear hadd l1 l2 l3 g0 g hst hbk hA hM hq'
      go_wp2_with (go_at_call 19; refine HADD.out.mono ?_; rintro e w3 ⟨rfl, hb3, hg3⟩)
      go_roundw
      case rel =>
        refine ⟨q', fix (n + 2) (uval L + uval m), !r, hql, by first | rfl | go_num, rfl, ⟨fix_length _ _, fix_limbs _ _, ?_, ?_⟩, hb3, grown_trans hgr.out hg3⟩
        · intro h
          rcases HGG.out with ⟨a1, a2, a3⟩ | ⟨a1, a2⟩
          · rw [HR.out, decide_eq_true a1] at h; cases h
          · rw [uval_fix, Nat.mod_eq_of_lt a1]; exact a2
        · intro h
          rcases HGG.out with ⟨a1, a2, a3⟩ | ⟨a1, a2⟩
          · rw [uval_fix]; exact ⟨a2, a3⟩
          · rw [HR.out, decide_eq_false (by omega)] at h; cases h
      case measure => have := HQQ.out; simp [intOf]; omega
    | false =>
      obtain ⟨l1, l2, _, l4⟩ := hst.out
      obtain ⟨a1, a2⟩ := l4 rfl
      have hM := HM.out
      have e : L = fix (n + 2) (uval A % uval m) := by
        rw [← a2, ← l1]; exact (fix_uval L l2).symm
      have HBK : Hid (Blk wr b (P ++ fix (n + 2) (uval A % uval m) ++ R)) := by rw [← e]; exact hbk
      have HQE : Hid (q = uval A / uval m) := a1
      clear l1 l2 l4 a1 a2 e hst hbk hM
      go_wp2
      exact hQ.out _ _ ⟨ret_i (by rw [← HQE.out]), HBK.out, hgr.out⟩
end Go.Proofs.YtckmmdmimlhmoaaDoor
