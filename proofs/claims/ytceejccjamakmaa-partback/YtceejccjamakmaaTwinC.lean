import Derived.Test.YtceejccjamakmaaTwinB
import Derived.Test.YtceejccjamakmaaRegC
import Derived.Test.YtceejccjamakmaaNumsD
import Derived.Test.YtceejccjamakmaaNumsF
namespace Go.Proofs.Ytceejccjamakmaa
open Go.ChangeShapes Go.WideShapes Go.ChangeAt Go.RowKit
set_option linter.unusedVariables false

theorem Row.alloc {w : World} {v : Value} {l : List Nat} (h : Row w v l) (o : Obj) : Row (w.alloc o) v l := h.below (bmore (Below.refl _ _) _)
theorem dlen_small {n : Nat} (h : n < 22300745198530623141535718272648361505980416) : dlen n ≤ 6 := dlen_le_of_lt (by rw [show (16777216 : Nat) ^ 6 = 22300745198530623141535718272648361505980416 by decide]; exact h)

/-- a one-digit row laid out -/
theorem row_lit (w : World) (e : TypeId) (d : Nat) (hd : d ≠ 0) (hd2 : d < 16777216) : Row (w.alloc (.cells #[.int .i64 (d : Int)] e)) (.slice (some ⟨w.heap.size, 0, none⟩) 1 1) (dig d) := by
  have hl : dig d = [d] := by rw [dig_pos hd, show d / 16777216 = 0 by omega, dig_zero, Nat.mod_eq_of_lt hd2]
  rw [hl]
  refine ⟨_, 1, rfl, by decide, Nat.le_refl _, .inr ⟨_, 0, rfl, by simp, fun j hj => ?_⟩⟩
  have : j = 0 := by simpa using hj
  subst this
  exact World.cell?_alloc_at _ _ _ _ rfl

theorem rof_any {n h l : Nat} (hn : Tw n h l) (w : World) :
    Calls Try.prog 28 #[.agg #[.int .u64 h, .int .u64 l]] w fun e w' => ∃ v, e = .returned v ∧ Row w' v (dig n) ∧ Below w.heap.size w w' := by
  refine cps fun Q hQ => ?_
  obtain ⟨en, hh, hl⟩ := hn
  have d1 : dlen h ≤ 1099511627776 := Nat.le_trans (dlen_small (by omega)) (by decide)
  have d2 : dlen (h * 2 ^ 64 + l) ≤ 1099511627776 := Nat.le_trans (dlen_small (by omega)) (by decide)
  have en2 : n = h * 2 ^ 64 + l := by omega
  have HN : Hid (n = h * 2 ^ 64 + l) := en2
  rw [en2] at hQ
  clear en en2
  have k1 := of_any h (by omega)
  have k2 := of_any l (by omega)
  have k3 := fun v w hr => nshl_any v h 64 (by decide) d1 w hr
  have k4 := fun va vb w ha hb => nadd_any va vb (h * 2 ^ 64) l d2 w ha hb
  generalize h * 2 ^ 64 = hs at *
  clear d1 d2
  go_enter Try.func28, Try.ntmps28
  go_wp2_with (first
    | (go_at_call_of 47 h; refine (k1 _).mono ?_; rintro e w1 ⟨v1, rfl, hr1, hb1⟩)
    | (go_at_call 32; refine (k3 _ _ hr1).mono ?_; rintro e w2 ⟨v2, rfl, hr2, hb2⟩; have hb12 := bthen hb1 hb2; obtain ⟨hc, hf⟩ := bcell hb12; have hz : w.heap.size < w2.heap.size := by have := hb12.size; simp at this; omega)
    | (go_at_call_of 47 l; refine (k2 _).mono ?_; rintro e w3 ⟨v3, rfl, hr3, hb3⟩)
    | (go_at_call 31; refine (k4 _ _ _ (hr2.below hb3) hr3).mono ?_; rintro e w4 ⟨v4, rfl, hr4, hb4⟩))
  exact hQ.out _ _ ⟨_, rfl, hr4, bthen (bthen (bthen (bmore (Below.refl _ _) _) hb12) hb3) hb4⟩

theorem told_any {n h l : Nat} (hd : dlen n ≤ 1099511627776) (hn : Tw (n % 340282366920938463463374607431768211456) h l) (v : Value) (w : World) (hr : Row w v (dig n)) :
    Calls Try.prog 30 #[v] w fun e w' => e = .returned (.agg #[.int .u64 h, .int .u64 l]) ∧ Below w.heap.size w w' := by
  refine cps fun Q hQ => ?_
  obtain ⟨en, hh, hl⟩ := hn
  have e1 : n / 2 ^ 64 % 2 ^ 64 = h := by omega
  have e2 : n % 2 ^ 64 = l := by omega
  have k1 := fun v w hr => nshr_any v n 64 (by decide) hd w hr
  have k2 := fun v w hr => nword_any v (n / 2 ^ 64) w hr
  have k3 := fun v w hr => nword_any v n w hr
  rw [e1] at k2
  rw [e2] at k3
  generalize n / 2 ^ 64 = m at *
  have hr0 := hr.alloc (.cells #[.int .u64 0, .int .u64 0] 24)
  have HR : Hid (Row w v (dig n)) := hr
  have HR0 : Hid (Row _ v (dig n)) := hr0
  clear hr hr0 e1 e2 en
  go_enter Try.func30, Try.ntmps30
  go_wp2_with (first
    | (go_at_call 50; refine (k1 _ _ HR0.out).mono ?_; rintro e w1 ⟨v1, rfl, hr1, hb1⟩; obtain ⟨hc, hf⟩ := bcell hb1; have hz : w.heap.size < w1.heap.size := by have := hb1.size; simp at this; omega)
    | (go_at_call_of 36 v1; refine (k2 _ _ hr1).mono ?_; rintro e w' ⟨rfl, hw⟩; rw [hw]; clear hw w')
    | (go_at_call_of 36 v; refine (k3 _ _ (HR0.out.below hb1)).mono ?_; rintro e w' ⟨rfl, hw⟩; rw [hw]; clear hw w'))
  refine bodyPost_ret (v := .agg #[.int .u64 h, .int .u64 l]) (by simp [results, Try.results30, go_sem, hc]) rfl (hQ.out _ _ ⟨rfl, ?_⟩)
  exact bset (bset (bthen (bmore (Below.refl _ _) _) hb1) (Nat.le_refl _) _ _) (Nat.le_refl _) _ _

theorem cmpN_ge {x y : Nat} : decide (y ≤ x) = decide (0 ≤ cmpN x y) := by
  refine decide_eq_decide.2 ?_
  rcases Nat.lt_trichotomy x y with h | h | h
  · rw [cmpN_lt h]; omega
  · subst h; rw [cmpN_eq]; omega
  · rw [cmpN_gt h]; omega
theorem cmpN_less {x y : Nat} : decide (x < y) = decide (cmpN x y < 0) := by
  refine decide_eq_decide.2 ?_
  rcases Nat.lt_trichotomy x y with h | h | h
  · rw [cmpN_lt h]; omega
  · subst h; rw [cmpN_eq]; omega
  · rw [cmpN_gt h]; omega
theorem dlen_ok {n : Nat} (h : n < 22300745198530623141535718272648361505980416) : dlen n ≤ 1099511627776 := Nat.le_trans (dlen_small h) (by decide)

end Go.Proofs.Ytceejccjamakmaa
