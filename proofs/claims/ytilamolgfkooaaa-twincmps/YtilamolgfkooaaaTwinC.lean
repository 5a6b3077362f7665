import Derived.Test.YtilamolgfkooaaaTwinB
import Derived.Test.YtilamolgfkooaaaRegC
import Derived.Test.YtilamolgfkooaaaNumsD
import Derived.Test.YtilamolgfkooaaaNumsF
namespace Go.Proofs.Ytilamolgfkooaaa
open Go.ChangeShapes Go.WideShapes Go.ChangeAt Go.RowKit
set_option linter.unusedVariables false

theorem Row.alloc {w : World} {v : Value} {l : List Nat} (h : Row w v l) (o : Obj) : Row (w.alloc o) v l := h.below (bmore (Below.refl _ _) _)
theorem dlen_small {n : Nat} (h : n < 22300745198530623141535718272648361505980416) : dlen n ≤ 6 := dlen_le_of_lt (by rw [show (16777216 : Nat) ^ 6 = 22300745198530623141535718272648361505980416 by decide]; exact h)

/-- a one-digit row laid out -/
theorem row_lit (w : World) (e : TypeId) (d : Nat) (hd : d ≠ 0) (hd2 : d < 16777216) : Row (w.alloc (.cells #[.int .i64 (d : Int)] e)) (.slice (some ⟨w.heap.size, 0, none⟩) 1 1) (dig d) := by
  have hl : dig d = [d] := by rw [dig_pos hd, show d / 16777216 = 0 by omega, dig_zero, Nat.mod_eq_of_lt hd2]
  rw [hl]
  refine ⟨_, 1, rfl, by decide, Nat.le_refl _, .inr ⟨_, 0, rfl, by simp, fun j hj => ?_⟩⟩
  have : j = 0 := by simpa using hj
  subst this
  exact World.cell?_alloc_at _ _ _ _ rfl

theorem rof_any {n h l : Nat} (hn : Tw n h l) (w : World) :
    Calls Try.prog 30 #[.agg #[.int .u64 h, .int .u64 l]] w fun e w' => ∃ v, e = .returned v ∧ Row w' v (dig n) ∧ Below w.heap.size w w' := by
  refine cps fun Q hQ => ?_
  obtain ⟨en, hh, hl⟩ := hn
  have d1 : dlen h ≤ 1099511627776 := Nat.le_trans (dlen_small (by omega)) (by decide)
  have d2 : dlen (h * 2 ^ 64 + l) ≤ 1099511627776 := Nat.le_trans (dlen_small (by omega)) (by decide)
  have en2 : n = h * 2 ^ 64 + l := by omega
  have HN : Hid (n = h * 2 ^ 64 + l) := en2
  rw [en2] at hQ
  clear en en2
  have k1 := of_any h (by omega)
  have k2 := of_any l (by omega)
  have k3 := fun v w hr => nshl_any v h 64 (by decide) d1 w hr
  have k4 := fun va vb w ha hb => nadd_any va vb (h * 2 ^ 64) l d2 w ha hb
  generalize h * 2 ^ 64 = hs at *
  clear d1 d2
  go_enter Try.func30, Try.ntmps30
  go_wp2_with (first
    | (go_at_call_of 39 h; refine (k1 _).mono ?_; rintro e w1 ⟨v1, rfl, hr1, hb1⟩)
    | (go_at_call 42; refine (k3 _ _ hr1).mono ?_; rintro e w2 ⟨v2, rfl, hr2, hb2⟩; have hb12 := bthen hb1 hb2; obtain ⟨hc, hf⟩ := bcell hb12; have hz : w.heap.size < w2.heap.size := by have := hb12.size; simp at this; omega)
    | (go_at_call_of 39 l; refine (k2 _).mono ?_; rintro e w3 ⟨v3, rfl, hr3, hb3⟩)
    | (go_at_call 29; refine (k4 _ _ _ (hr2.below hb3) hr3).mono ?_; rintro e w4 ⟨v4, rfl, hr4, hb4⟩))
  exact hQ.out _ _ ⟨_, rfl, hr4, bthen (bthen (bthen (bmore (Below.refl _ _) _) hb12) hb3) hb4⟩

theorem all_any (w : World) :
    Calls Try.prog 33 #[] w fun e w' => ∃ v, e = .returned v ∧ Row w' v (dig 340282366920938463463374607431768211456) ∧ Below w.heap.size w w' := by
  refine cps fun Q hQ => ?_
  have k3 := fun v w hr => nshl_any v 1 128 (by decide) (Nat.le_trans (dlen_small (n := 1) (by decide)) (by decide)) w hr
  rw [show 1 * 2 ^ 128 = 340282366920938463463374607431768211456 by decide] at k3
  have hr0 := row_lit w 3 1 (by decide) (by decide)
  go_enter Try.func33, Try.ntmps33
  go_wp2_with (go_at_call 42; refine (k3 _ _ hr0).mono ?_; rintro e w2 ⟨v2, rfl, hr2, hb2⟩)
  exact hQ.out _ _ ⟨_, rfl, hr2, bthen (bmore (Below.refl _ _) _) hb2⟩

theorem told_any {n h l : Nat} (hd : dlen n ≤ 1099511627776) (hn : Tw (n % 340282366920938463463374607431768211456) h l) (v : Value) (w : World) (hr : Row w v (dig n)) :
    Calls Try.prog 31 #[v] w fun e w' => e = .returned (.agg #[.int .u64 h, .int .u64 l]) ∧ Below w.heap.size w w' := by
  refine cps fun Q hQ => ?_
  obtain ⟨en, hh, hl⟩ := hn
  have e1 : n / 2 ^ 64 % 2 ^ 64 = h := by omega
  have e2 : n % 2 ^ 64 = l := by omega
  have k1 := fun v w hr => nshr_any v n 64 (by decide) hd w hr
  have k2 := fun v w hr => nword_any v (n / 2 ^ 64) w hr
  have k3 := fun v w hr => nword_any v n w hr
  rw [e1] at k2
  rw [e2] at k3
  generalize n / 2 ^ 64 = m at *
  have hr0 := hr.alloc (.cells #[.int .u64 0, .int .u64 0] 24)
  have HR : Hid (Row w v (dig n)) := hr
  have HR0 : Hid (Row _ v (dig n)) := hr0
  clear hr hr0 e1 e2 en
  go_enter Try.func31, Try.ntmps31
  go_wp2_with (first
    | (go_at_call 44; refine (k1 _ _ HR0.out).mono ?_; rintro e w1 ⟨v1, rfl, hr1, hb1⟩; obtain ⟨hc, hf⟩ := bcell hb1; have hz : w.heap.size < w1.heap.size := by have := hb1.size; simp at this; omega)
    | (go_at_call_of 49 v1; refine (k2 _ _ hr1).mono ?_; rintro e w' ⟨rfl, hw⟩; rw [hw]; clear hw w')
    | (go_at_call_of 49 v; refine (k3 _ _ (HR0.out.below hb1)).mono ?_; rintro e w' ⟨rfl, hw⟩; rw [hw]; clear hw w'))
  refine bodyPost_ret (v := .agg #[.int .u64 h, .int .u64 l]) (by simp [results, Try.results31, go_sem, hc]) rfl (hQ.out _ _ ⟨rfl, ?_⟩)
  exact bset (bset (bthen (bmore (Below.refl _ _) _) hb1) (Nat.le_refl _) _ _) (Nat.le_refl _) _ _

theorem cmpN_ge {x y : Nat} : decide (y ≤ x) = decide (0 ≤ cmpN x y) := by
  refine decide_eq_decide.2 ?_
  rcases Nat.lt_trichotomy x y with h | h | h
  · rw [cmpN_lt h]; omega
  · subst h; rw [cmpN_eq]; omega
  · rw [cmpN_gt h]; omega
theorem cmpN_less {x y : Nat} : decide (x < y) = decide (cmpN x y < 0) := by
  refine decide_eq_decide.2 ?_
  rcases Nat.lt_trichotomy x y with h | h | h
  · rw [cmpN_lt h]; omega
  · subst h; rw [cmpN_eq]; omega
  · rw [cmpN_gt h]; omega
theorem dlen_ok {n : Nat} (h : n < 22300745198530623141535718272648361505980416) : dlen n ≤ 1099511627776 := Nat.le_trans (dlen_small h) (by decide)

set_option maxHeartbeats 1000000 in
theorem radd_any {a b h1 l1 h2 l2 h l : Nat} {c : Bool} (ha : Tw a h1 l1) (hb : Tw b h2 l2) (hs : Tw ((a + b) % 340282366920938463463374607431768211456) h l) (hc : c = decide (340282366920938463463374607431768211456 ≤ a + b)) (w : World) :
    Calls Try.prog 12 #[.agg #[.int .u64 h1, .int .u64 l1], .agg #[.int .u64 h2, .int .u64 l2]] w fun e w' => e = .returned (.tuple #[.agg #[.int .u64 h, .int .u64 l], .bool c]) ∧ Below w.heap.size w w' := by
  refine cps fun Q hQ => ?_
  have k1 := fun w => rof_any ha w
  have k2 := fun w => rof_any hb w
  have d0 : dlen (a + b) ≤ 1099511627776 := dlen_ok (by have := ha.lt; have := hb.lt; omega)
  have k3 := fun va vb w h1 h2 => nadd_any va vb a b d0 w h1 h2
  have k4 := fun v w hr => told_any d0 hs v w hr
  have k5 := fun va vb w h1 h2 => ncmp_any va vb (a + b) 340282366920938463463374607431768211456 w h1 h2
  rw [cmpN_ge] at hc
  obtain ⟨x, hx⟩ : ∃ x, x = cmpN (a + b) 340282366920938463463374607431768211456 := ⟨_, rfl⟩
  rw [← hx] at k5 hc
  clear hx ha hb hs d0
  have HX : Hid (c = decide (0 ≤ x)) := hc
  clear hc
  generalize a + b = s at *
  go_enter Try.func12, Try.ntmps12
  go_wp2
  refine wpC_region (fun W => W.cell? ⟨w.heap.size, 0, none⟩ = some (.int .u64 h1) ∧ W.cell? ⟨w.heap.size, 1, none⟩ = some (.int .u64 l1) ∧ W.cell? ⟨w.heap.size + 1, 0, none⟩ = some (.int .u64 h2) ∧ W.cell? ⟨w.heap.size + 1, 1, none⟩ = some (.int .u64 l2)) (by kernel_rfl) ?_
  refine wpC_take 0 (v := ?_) rfl (by kernel_rfl) (fun _ _ _ h => h) (by rfl) ?_ ?_; rotate_left; · (intro wC hC; obtain ⟨c1, c2, c3, c4⟩ := hC; go_simp <;> with_reducible rfl)
  refine wpC_take 2 (v := ?_) rfl (by kernel_rfl) (fun _ _ _ h => h) (by rfl) ?_ ?_; rotate_left; · (intro wC hC; obtain ⟨c1, c2, c3, c4⟩ := hC; go_simp <;> with_reducible rfl)
  refine wpC_step 1 rfl (by kernel_rfl) (by rfl) (by simp [go_sem]) (fun K hK => ?_)
  go_simp
  go_wp2_with ((go_at_call_of 30 h1; refine (k1 _).mono ?_; rintro e w1 ⟨v1, rfl, hr1, hb1⟩; obtain ⟨hc1, hf1⟩ := bcell hb1))
  try (refine hK _ _ ?_; clear hK K)
  refine wpC_step 3 rfl (by kernel_rfl) (by rfl) (by simp [go_sem, hc1]) (fun K hK => ?_)
  go_simp
  go_wp2_with ((go_at_call_of 30 h2; refine (k2 _).mono ?_; rintro e w2 ⟨v2, rfl, hr2, hb2⟩; have hb12 := bthen hb1 hb2; obtain ⟨hc2, hf2⟩ := bcell hb12))
  try (refine hK _ _ ?_; clear hK K)
  refine wpC_step 4 rfl (by kernel_rfl) (by rfl) (by simp [go_sem, hc2]) (fun K hK => ?_)
  go_simp
  go_wp2_with ((go_at_call 29; refine (k3 _ _ _ (hr1.below hb2) hr2).mono ?_; rintro e w3 ⟨v3, rfl, hr3, hb3⟩; have hb13 := bthen hb12 hb3; obtain ⟨hc3, hf3⟩ := bcell hb13))
  try (refine hK _ _ ?_; clear hK K)
  refine wpC_step 5 rfl (by kernel_rfl) (by rfl) (by simp [go_sem, hc3]) (fun K hK => ?_)
  go_simp
  try (refine hK _ _ ?_; clear hK K)
  refine wpC_done (by kernel_rfl) (by simp [go_sem, hc3]) ?_
  clear hc1 hf1 hc2 hf2 hc3 hf3
  go_wp2_with (first
    | (go_at_call 31; refine (k4 _ _ hr3).mono ?_; rintro e w4 ⟨rfl, hb4⟩; have hb14 := bthen hb13 hb4)
    | (go_at_call 33; refine (all_any _).mono ?_; rintro e w5 ⟨v5, rfl, hr5, hb5⟩; have hb15 := bthen hb14 hb5; obtain ⟨hc5, hf5⟩ := bcell hb15)
    | (go_at_call 32; refine (k5 _ _ _ ((hr3.below hb4).below hb5) hr5).mono ?_; rintro e w6 ⟨rfl, q, rfl⟩))
  refine bodyPost_ret (v := .tuple #[.agg #[.int .u64 h, .int .u64 l], .bool c]) (by simp [results, Try.results12, go_sem, hc5, HX.out]) rfl (hQ.out _ _ ⟨rfl, ?_⟩)
  exact bset (bset (bdrewN (bthen (bdrew (bmore (bmore (bmore (Below.refl _ _) _) _) _)) hb15) _) (by omega) _ _) (by omega) _ _
end Go.Proofs.Ytilamolgfkooaaa
