import Derived.Test.YtldoinokiipidaaLeadE
namespace Go.Proofs.Ytldoinokiipidaa
open Go.ChangeShapes Go.WideShapes Go.ChangeAt Go.RowKit
set_option linter.unusedVariables false

theorem leadRuns_walk (a0 a1 : Int) (w0 : (Lit.int .u64 a0).wf = true) (w1 : (Lit.int .i64 a1).wf = true) (w : World) :
    Calls Try.prog 3 #[.int .u64 a0, .int .i64 a1] w fun e w' => e = .returned (.bool true) ∧ Below w.heap.size w w' := by
  obtain ⟨x, rfl, hx⟩ := nat_of_u64 w0
  refine cps fun Q hQ => ?_
  by_cases hn : 1 ≤ a1 ∧ a1 ≤ 64
  · obtain ⟨n, rfl⟩ := Int.eq_ofNat_of_zero_le (show 0 ≤ a1 by omega)
    have h1 : 1 ≤ n := by omega
    have h2 : n ≤ 64 := by omega
    clear hn w0 w1 hx
    go_enter Try.func3, Try.ntmps3
    go_wp2_with first
      | (go_at_call 8; refine (up_any _).mono ?_; rintro e w1 ⟨rfl, hb1⟩)
      | (go_at_call 9; refine (lrun_ok x n h1 h2 _).mono ?_; rintro e w' ⟨b, k, rfl, hr, rfl⟩)
      | (go_at_call 10; refine (rrun_ok x n h1 h2 _).mono ?_; rintro e w2 ⟨b', k', rfl, hr', hb2⟩; obtain ⟨e1, e2⟩ := hr'.one hr; subst e1 e2)
      | (go_at_call 11; refine (code_nil _).mono ?_; rintro e w' ⟨rfl, rfl⟩)
    exact hQ.out _ _ ⟨rfl, hb1.trans (hb2.mono hb1.size)⟩
  · have hn' : a1 < 1 ∨ 64 < a1 := by omega
    clear hn w0 w1 hx
    go_enter Try.func3, Try.ntmps3
    go_wp2_with first
      | (go_at_call 8; refine (up_any _).mono ?_; rintro e w1 ⟨rfl, hb1⟩)
      | (go_at_call 9; refine (lrun_no x a1 hn' _).mono ?_; rintro e w' ⟨rfl, rfl⟩)
      | (go_at_call 10; refine (rrun_no x a1 hn' _).mono ?_; rintro e w' ⟨rfl, rfl⟩)
      | (go_at_call 11; refine (code_any 1 _).mono ?_; rintro e w' ⟨rfl, rfl⟩)
    exact hQ.out _ _ ⟨rfl, hb1⟩

theorem leadFields_walk (a0 a1 a2 : Int) (w0 : (Lit.int .u64 a0).wf = true) (w1 : (Lit.int .i64 a1).wf = true) (w2 : (Lit.int .i64 a2).wf = true) (w : World) :
    Calls Try.prog 4 #[.int .u64 a0, .int .i64 a1, .int .i64 a2] w fun e w' => e = .returned (.bool true) ∧ Below w.heap.size w w' := by
  obtain ⟨x, rfl, hx⟩ := nat_of_u64 w0
  clear w0 w1 w2
  refine cps fun Q hQ => ?_
  -- Mask, by n alone; Field, by both
  have hm : ∃ (m : Int) (e : Value) (c : Int), (∀ wx, Calls Try.prog 12 #[.int .i64 a2] wx fun y w' => y = .returned (.tuple #[.int .u64 m, e]) ∧ w' = wx) ∧
      (∀ wx, Calls Try.prog 14 #[.int .i64 a2] wx fun y w' => y = .returned (.tuple #[.int .u64 m, .int .i64 c]) ∧ w' = wx) ∧
      (∀ wx, Calls Try.prog 11 #[e] wx fun y w' => y = .returned (.int .i64 c) ∧ w' = wx) := by
    by_cases hn : 0 ≤ a2 ∧ a2 ≤ 64
    · obtain ⟨n, rfl⟩ := Int.eq_ofNat_of_zero_le hn.1
      exact ⟨_, _, _, fun wx => mask_ok n (by omega) wx, fun wx => rmask_ok n (by omega) wx, fun wx => code_nil wx⟩
    · exact ⟨_, _, _, fun wx => mask_no a2 (by omega) wx, fun wx => rmask_no a2 (by omega) wx, fun wx => code_any 1 wx⟩
  have hf : ∃ (m : Int) (e : Value) (c : Int), (∀ wx, Calls Try.prog 13 #[.int .u64 x, .int .i64 a1, .int .i64 a2] wx fun y w' => y = .returned (.tuple #[.int .u64 m, e]) ∧ ∃ q, w' = wx.drewN q) ∧
      (∀ wx, Calls Try.prog 15 #[.int .u64 x, .int .i64 a1, .int .i64 a2] wx fun y w' => y = .returned (.tuple #[.int .u64 m, .int .i64 c]) ∧ Below wx.heap.size wx w') ∧
      (∀ wx, Calls Try.prog 11 #[e] wx fun y w' => y = .returned (.int .i64 c) ∧ w' = wx) := by
    cases hfd : isField a1 a2 with
    | true =>
      have hfd' := hfd
      simp [isField] at hfd'
      obtain ⟨a, rfl⟩ := Int.eq_ofNat_of_zero_le hfd'.1
      obtain ⟨n, rfl⟩ := Int.eq_ofNat_of_zero_le hfd'.2.2.1
      refine ⟨_, _, _, fun wx => lfield_ok x a n hx hfd wx, fun wx => ?_, fun wx => code_nil wx⟩
      have := rfield_ok x a n hfd wx
      simp only [Int.toNat_natCast] at this ⊢
      rw [field_eq x a n (by omega)]; exact this
    | false =>
      refine ⟨_, _, _, fun wx => (lfield_no x a1 a2 hfd wx).mono fun y w' h => ⟨h.1, 0, h.2⟩, fun wx => (rfield_no x a1 a2 hfd wx).mono fun y w' h => ⟨h.1, by rw [h.2]; exact Below.refl _ _⟩, fun wx => code_any 1 wx⟩
  obtain ⟨m, e, c, hm1, hm2, hm3⟩ := hm
  obtain ⟨m', e', c', hf1, hf2, hf3⟩ := hf
  have HM1 : Hid _ := hm1
  have HM2 : Hid _ := hm2
  have HM3 : Hid _ := hm3
  have HF1 : Hid _ := hf1
  have HF2 : Hid _ := hf2
  have HF3 : Hid _ := hf3
  clear hm1 hm2 hm3 hf1 hf2 hf3 hx
  go_enter Try.func4, Try.ntmps4
  go_wp2_with first
    | (go_at_call 8; refine (up_any _).mono ?_; rintro y w1 ⟨rfl, hb1⟩)
    | (go_at_call 12; refine (HM1.out _).mono ?_; rintro y w' ⟨rfl, rfl⟩)
    | (go_at_call 14; refine (HM2.out _).mono ?_; rintro y w' ⟨rfl, rfl⟩)
    | (go_at_call 13; refine (HF1.out _).mono ?_; rintro y w' ⟨rfl, q, rfl⟩)
    | (go_at_call 15; refine (HF2.out _).mono ?_; rintro y w2 ⟨rfl, hb2⟩)
    | (go_at_call_of 11 e; refine (HM3.out _).mono ?_; rintro y w' ⟨rfl, rfl⟩)
    | (go_at_call_of 11 e'; refine (HF3.out _).mono ?_; rintro y w' ⟨rfl, rfl⟩)
  exact hQ.out _ _ ⟨rfl, (below_drewN hb1 q).trans (hb2.mono hb1.size)⟩

theorem leadPuts_walk (a0 a1 a2 a3 : Int) (w0 : (Lit.int .u64 a0).wf = true) (w1 : (Lit.int .i64 a1).wf = true) (w2 : (Lit.int .i64 a2).wf = true) (w3 : (Lit.int .u64 a3).wf = true) (w : World) :
    Calls Try.prog 5 #[.int .u64 a0, .int .i64 a1, .int .i64 a2, .int .u64 a3] w fun e w' => e = .returned (.bool true) ∧ Below w.heap.size w w' := by
  obtain ⟨x, rfl, hx⟩ := nat_of_u64 w0
  obtain ⟨v, rfl, hv⟩ := nat_of_u64 w3
  clear w0 w1 w2 w3
  refine cps fun Q hQ => ?_
  have hf : ∃ (m : Int) (e : Value) (c : Int), (∀ wx, Calls Try.prog 16 #[.int .u64 x, .int .i64 a1, .int .i64 a2, .int .u64 v] wx fun y w' => y = .returned (.tuple #[.int .u64 m, e]) ∧ ∃ q, w' = wx.drewN q) ∧
      (∀ wx, Calls Try.prog 17 #[.int .u64 x, .int .i64 a1, .int .i64 a2, .int .u64 v] wx fun y w' => y = .returned (.tuple #[.int .u64 m, .int .i64 c]) ∧ Below wx.heap.size wx w') ∧
      (∀ wx, Calls Try.prog 11 #[e] wx fun y w' => y = .returned (.int .i64 c) ∧ w' = wx) := by
    cases hfd : isField a1 a2 with
    | true =>
      have hfd' := hfd
      simp [isField] at hfd'
      obtain ⟨a, rfl⟩ := Int.eq_ofNat_of_zero_le hfd'.1
      obtain ⟨n, rfl⟩ := Int.eq_ofNat_of_zero_le hfd'.2.2.1
      refine ⟨_, _, _, fun wx => lput_ok x v a n hx hfd wx, fun wx => ?_, fun wx => code_nil wx⟩
      have := rput_ok x v a n hfd wx
      simp only [Int.toNat_natCast] at this ⊢
      rw [put_eq x a n v hx (by omega)]; exact this
    | false =>
      refine ⟨_, _, _, fun wx => (lput_no x v a1 a2 hfd wx).mono fun y w' h => ⟨h.1, 0, h.2⟩, fun wx => (rput_no x v a1 a2 hfd wx).mono fun y w' h => ⟨h.1, by rw [h.2]; exact Below.refl _ _⟩, fun wx => code_any 1 wx⟩
  obtain ⟨m', e', c', hf1, hf2, hf3⟩ := hf
  have HF1 : Hid _ := hf1
  have HF2 : Hid _ := hf2
  have HF3 : Hid _ := hf3
  clear hf1 hf2 hf3 hx hv
  go_enter Try.func5, Try.ntmps5
  go_wp2_with first
    | (go_at_call 8; refine (up_any _).mono ?_; rintro y w1 ⟨rfl, hb1⟩)
    | (go_at_call 16; refine (HF1.out _).mono ?_; rintro y w' ⟨rfl, q, rfl⟩)
    | (go_at_call 17; refine (HF2.out _).mono ?_; rintro y w2 ⟨rfl, hb2⟩)
    | (go_at_call 11; refine (HF3.out _).mono ?_; rintro y w' ⟨rfl, rfl⟩)
  exact hQ.out _ _ ⟨rfl, (below_drewN hb1 q).trans (hb2.mono hb1.size)⟩

theorem leadSigns_walk (a0 a1 : Int) (w0 : (Lit.int .u64 a0).wf = true) (w1 : (Lit.int .i64 a1).wf = true) (w : World) :
    Calls Try.prog 6 #[.int .u64 a0, .int .i64 a1] w fun e w' => e = .returned (.bool true) ∧ Below w.heap.size w w' := by
  obtain ⟨x, rfl, hx⟩ := nat_of_u64 w0
  refine cps fun Q hQ => ?_
  by_cases hn : 1 ≤ a1 ∧ a1 ≤ 64
  · obtain ⟨n, rfl⟩ := Int.eq_ofNat_of_zero_le (show 0 ≤ a1 by omega)
    have h1 : 1 ≤ n := by omega
    have h2 : n ≤ 64 := by omega
    clear hn w0 w1 hx
    go_enter Try.func6, Try.ntmps6
    go_wp2_with first
      | (go_at_call 8; refine (up_any _).mono ?_; rintro e w1 ⟨rfl, hb1⟩)
      | (go_at_call 18; refine (lext_ok x n h1 h2 _).mono ?_; rintro e w' ⟨rfl, rfl⟩)
      | (go_at_call 19; refine (rext_ok x n h1 h2 _).mono ?_; rintro e w2 ⟨rfl, hb2⟩)
      | (go_at_call 11; refine (code_nil _).mono ?_; rintro e w' ⟨rfl, rfl⟩)
    exact hQ.out _ _ ⟨rfl, hb1.trans (hb2.mono hb1.size)⟩
  · have hn' : a1 < 1 ∨ 64 < a1 := by omega
    clear hn w0 w1 hx
    go_enter Try.func6, Try.ntmps6
    go_wp2_with first
      | (go_at_call 8; refine (up_any _).mono ?_; rintro e w1 ⟨rfl, hb1⟩)
      | (go_at_call 18; refine (lext_no x a1 hn' _).mono ?_; rintro e w' ⟨rfl, rfl⟩)
      | (go_at_call 19; refine (rext_no x a1 hn' _).mono ?_; rintro e w' ⟨rfl, rfl⟩)
      | (go_at_call 11; refine (code_any 1 _).mono ?_; rintro e w' ⟨rfl, rfl⟩)
    exact hQ.out _ _ ⟨rfl, hb1⟩

theorem leadShows_walk (a0 a1 : Int) (w0 : (Lit.int .u64 a0).wf = true) (w1 : (Lit.int .i64 a1).wf = true) (w : World) :
    Calls Try.prog 7 #[.int .u64 a0, .int .i64 a1] w fun e w' => e = .returned (.bool true) ∧ Below w.heap.size w w' := by
  obtain ⟨x, rfl, hx⟩ := nat_of_u64 w0
  refine cps fun Q hQ => ?_
  by_cases hn : 0 ≤ a1 ∧ a1 ≤ 64
  · obtain ⟨n, rfl⟩ := Int.eq_ofNat_of_zero_le (show 0 ≤ a1 by omega)
    have h2 : n ≤ 64 := by omega
    have HX : Hid (x < 2 ^ 64) := hx
    clear hn w0 w1 hx
    go_enter Try.func7, Try.ntmps7
    go_wp2_with first
      | (go_at_call 8; refine (up_any _).mono ?_; rintro e w1 ⟨rfl, hb1⟩)
      | (go_at_call 20; refine (lshow_ok x n HX.out h2 _).mono ?_; rintro e w2 ⟨s, rfl, hs, hb2⟩)
      | (go_at_call 21; refine (rshow_ok x n h2 _).mono ?_; rintro e w3 ⟨s', rfl, hs', hb3⟩; have hss : s' = s := (by rw [isBits_eq hs, isBits_eq hs']); subst hss)
      | (go_at_call 11; refine (code_nil _).mono ?_; rintro e w' ⟨rfl, rfl⟩)
    have hb12 := hb1.trans (hb2.mono hb1.size)
    exact hQ.out _ _ ⟨rfl, hb12.trans (hb3.mono hb12.size)⟩
  · have hn' : a1 < 0 ∨ 64 < a1 := by omega
    clear hn w0 w1 hx
    go_enter Try.func7, Try.ntmps7
    go_wp2_with first
      | (go_at_call 8; refine (up_any _).mono ?_; rintro e w1 ⟨rfl, hb1⟩)
      | (go_at_call 20; refine (lshow_no x a1 hn' _).mono ?_; rintro e w' ⟨rfl, rfl⟩)
      | (go_at_call 21; refine (rshow_no x a1 hn' _).mono ?_; rintro e w' ⟨rfl, rfl⟩)
      | (go_at_call 11; refine (code_any 1 _).mono ?_; rintro e w' ⟨rfl, rfl⟩)
    exact hQ.out _ _ ⟨rfl, hb1⟩
end Go.Proofs.Ytldoinokiipidaa
