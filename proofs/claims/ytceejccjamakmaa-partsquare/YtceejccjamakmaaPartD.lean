import Derived.Test.YtceejccjamakmaaPartC
import Derived.Test.YtceejccjamakmaaNumsF
namespace Go.Proofs.Ytceejccjamakmaa
open Go.ChangeShapes Go.WideShapes Go.ChangeAt Go.RowKit
set_option linter.unusedVariables false

theorem rlong_zero (h1 l1 : Nat) (hh : h1 ≤ 18446744073709551615) (hl : l1 ≤ 18446744073709551615) (w : World) :
    Calls Try.prog 14 #[.agg #[.int .u64 h1, .int .u64 l1], .int .u64 0] w fun e w' => e = .returned (.tuple #[.agg #[.int .u64 0, .int .u64 0], .int .u64 0, .int .i64 4]) ∧ Below w.heap.size w w' := by
  refine cps fun Q hQ => ?_
  have k1 := fun w => rwide_zero h1 l1 hh hl w
  go_enter Try.func14, Try.ntmps14
  go_wp2_with (go_at_call 16; refine (k1 _).mono ?_; rintro e w1 ⟨rfl, hb1⟩; obtain ⟨hc1, hf1⟩ := bcell hb1; have z1 : w.heap.size + 1 < w1.heap.size := (by have := hb1.size; simp at this; omega); have z0 : w.heap.size < w1.heap.size := (by omega))
  go_region
  all_goals
    go_wp2
    refine bodyPost_ret (v := .tuple #[.agg #[.int .u64 0, .int .u64 0], .int .u64 0, .int .i64 4]) (by simp [results, Try.results14, go_sem, hc1, z1, z0]) rfl (hQ.out _ _ ⟨rfl, ?_⟩)
    exact bdrew (bmore (bmore (bset (bset (bthen (bmore (bmore (Below.refl _ _) _) _) hb1) (by omega) _ _) (by omega) _ _) _) _)
set_option maxHeartbeats 1000000 in
theorem rlong_any {a d h1 l1 h3 l3 r : Nat} (ha : Tw a h1 l1) (hd : d ≤ 18446744073709551615) (h0 : 0 < d) (hq : Tw (a / d) h3 l3) (hr : r = a % d) (w : World) :
    Calls Try.prog 14 #[.agg #[.int .u64 h1, .int .u64 l1], .int .u64 d] w fun e w' => e = .returned (.tuple #[.agg #[.int .u64 h3, .int .u64 l3], .int .u64 r, .int .i64 0]) ∧ Below w.heap.size w w' := by
  refine cps fun Q hQ => ?_
  have hrd : a % d < d := Nat.mod_lt _ h0
  have k1 := fun w => rwide_any (d := d) (h2 := 0) (l2 := d) (h4 := 0) (l4 := r) ha ⟨by omega, by decide, hd⟩ h0 hq ⟨by omega, by decide, by omega⟩ w
  clear ha hq hr hrd
  go_enter Try.func14, Try.ntmps14
  go_wp2_with (go_at_call 16; refine (k1 _).mono ?_; rintro e w1 ⟨rfl, hb1⟩; obtain ⟨hc1, hf1⟩ := bcell hb1; have z1 : w.heap.size + 1 < w1.heap.size := (by have := hb1.size; simp at this; omega); have z0 : w.heap.size < w1.heap.size := (by omega))
  go_region
  all_goals
    go_wp2
    refine bodyPost_ret (v := .tuple #[.agg #[.int .u64 h3, .int .u64 l3], .int .u64 r, .int .i64 0]) (by simp [results, Try.results14, go_sem, hc1, z1, z0]) rfl (hQ.out _ _ ⟨rfl, ?_⟩)
    exact bdrew (bmore (bmore (bset (bset (bthen (bmore (bmore (Below.refl _ _) _) _) hb1) (by omega) _ _) (by omega) _ _) _) _)
theorem rdiv_zero (h1 l1 : Nat) (hh : h1 ≤ 18446744073709551615) (hl : l1 ≤ 18446744073709551615) (w : World) :
    Calls Try.prog 11 #[.agg #[.int .u64 h1, .int .u64 l1], .int .u64 0] w fun e w' => e = .returned (.tuple #[.int .u64 0, .int .u64 0, .int .i64 4]) ∧ Below w.heap.size w w' := by
  refine cps fun Q hQ => ?_
  have k1 := fun w => rlong_zero h1 l1 hh hl w
  go_enter Try.func11, Try.ntmps11
  go_wp2_with (go_at_call 14; refine (k1 _).mono ?_; rintro e w1 ⟨rfl, hb1⟩)
  go_ret3
  exact hQ.out _ _ ⟨rfl, bmore (bthen (bmore (Below.refl _ _) _) hb1) _⟩
theorem rdiv_big {a d h1 l1 h3 l3 : Nat} (ha : Tw a h1 l1) (hd : d ≤ 18446744073709551615) (h0 : 0 < d) (hq : Tw (a / d) h3 l3) (hb : 0 < h3) (w : World) :
    Calls Try.prog 11 #[.agg #[.int .u64 h1, .int .u64 l1], .int .u64 d] w fun e w' => e = .returned (.tuple #[.int .u64 0, .int .u64 0, .int .i64 5]) ∧ Below w.heap.size w w' := by
  refine cps fun Q hQ => ?_
  have k1 := fun w => rlong_any ha hd h0 hq rfl w
  generalize a % d = r at *
  go_enter Try.func11, Try.ntmps11
  go_wp2_with (go_at_call 14; refine (k1 _).mono ?_; rintro e w1 ⟨rfl, hb1⟩)
  go_ret3
  exact hQ.out _ _ ⟨rfl, bmore (bthen (bmore (Below.refl _ _) _) hb1) _⟩
theorem rdiv_any {a d h1 l1 q r : Nat} (ha : Tw a h1 l1) (hd : d ≤ 18446744073709551615) (h0 : 0 < d) (hq : Tw (a / d) 0 q) (hr : r = a % d) (w : World) :
    Calls Try.prog 11 #[.agg #[.int .u64 h1, .int .u64 l1], .int .u64 d] w fun e w' => e = .returned (.tuple #[.int .u64 q, .int .u64 r, .int .i64 0]) ∧ Below w.heap.size w w' := by
  refine cps fun Q hQ => ?_
  have k1 := fun w => rlong_any ha hd h0 hq hr w
  clear hr
  go_enter Try.func11, Try.ntmps11
  go_wp2_with (go_at_call 14; refine (k1 _).mono ?_; rintro e w1 ⟨rfl, hb1⟩)
  go_ret3
  exact hQ.out _ _ ⟨rfl, bmore (bthen (bmore (Below.refl _ _) _) hb1) _⟩

theorem sq_lt {r a : Nat} (h : r * r ≤ a) (ha : a < 340282366920938463463374607431768211456) : r < 18446744073709551616 := by
  by_cases g : r < 18446744073709551616
  · exact g
  · have := Nat.mul_le_mul (show 18446744073709551616 ≤ r by omega) (show 18446744073709551616 ≤ r by omega)
    omega
theorem sq_one {r s a : Nat} (h1 : r * r ≤ a) (h2 : a < (r + 1) * (r + 1)) (h3 : s * s ≤ a) (h4 : a < (s + 1) * (s + 1)) : r = s := by
  rcases Nat.lt_trichotomy r s with g | g | g
  · have := Nat.mul_le_mul (show r + 1 ≤ s by omega) (show r + 1 ≤ s by omega); omega
  · exact g
  · have := Nat.mul_le_mul (show s + 1 ≤ r by omega) (show s + 1 ≤ r by omega); omega
set_option maxHeartbeats 4000000 in
theorem rroot_any {a h1 l1 r h l : Nat} (ha : Tw a h1 l1) (hr1 : r * r ≤ a) (hr2 : a < (r + 1) * (r + 1)) (hl : Tw (a - r * r) h l) (w : World) :
    Calls Try.prog 18 #[.agg #[.int .u64 h1, .int .u64 l1]] w fun e w' => e = .returned (.tuple #[.int .u64 r, .agg #[.int .u64 h, .int .u64 l]]) ∧ Below w.heap.size w w' := by
  refine cps fun Q hQ => ?_
  have la := ha.lt
  have k1 := fun w => rof_any ha w
  have lr := sq_lt hr1 la
  have lrr : r * r < 340282366920938463463374607431768211456 := by omega
  have k2 := fun v1 v2 w x y => nmul_any v1 v2 r r (dlen_ok (by omega)) (dlen_ok (by omega)) w x y
  have k3 := fun v1 v2 w x y => nsub_any v1 v2 a (r * r) hr1 (dlen_ok (by omega)) w x y
  have k4 := fun v w x => nword_any v r w x
  rw [Nat.mod_eq_of_lt (show r < 2 ^ 64 by omega)] at k4
  have ll := hl.lt
  have k5 := fun v w x => told_any (n := a - r * r) (h := h) (l := l) (dlen_ok (by omega)) (by rw [Nat.mod_eq_of_lt ll]; exact hl) v w x
  have HR : Hid (∀ R, R * R ≤ a → a < (R + 1) * (R + 1) → R = r) := fun R x y => sq_one x y hr1 hr2
  have HA : Hid (a < 340282366920938463463374607431768211456) := la
  have HS : Hid (a < (0 + 2 ^ 64) * (0 + 2 ^ 64)) := show _ < _ by omega
  clear ha hr1 hr2 hl la ll lr lrr
  go_enter Try.func18, Try.ntmps18
  go_wp2_with (go_at_call 28; refine (k1 _).mono ?_; rintro e w1 ⟨v1, rfl, hr1, hb1⟩)
  have HV : Hid (Row w1 v1 (dig a)) := hr1
  have H1 : Below w.heap.size w w1 := bthen (bmore (bmore (Below.refl _ _) _) _) hb1
  have hz1 : w.heap.size + 1 < w1.heap.size := by have := hb1.size; simp at this; omega
  have HC1 : Hid (∀ o, w1.cell? ⟨w.heap.size + 1, o, none⟩ = (#[Value.int .u64 0, .int .u64 0] : Array Value)[o]?) := fun o => by
    rw [(bcell hb1).1 _ _ (by simp)]; exact World.cell?_alloc_at _ _ _ _ (by simp)
  have HF1 : Hid (∀ o, w1.frozen? ⟨w.heap.size + 1, o, none⟩ = false) := fun o => by
    rw [(bcell hb1).2 _ _ (by simp)]; exact World.frozen?_alloc_at _ _ _ _ (by simp)
  clear hr1 hb1
  go_loopw [5, 6] (fun rv kv wr => ∃ R j : Nat, j ≤ 64 ∧ kv = .int .i64 ((j : Int) - 1) ∧ Hid (R * R ≤ a) ∧ Hid (a < (R + 2 ^ j) * (R + 2 ^ j)) ∧ Row wr rv (dig R) ∧ Below w1.heap.size w1 wr) (fun _ kv _ => (intOf kv + 1).toNat)
  case atStart => exact ⟨0, 64, by decide, rfl, Nat.zero_le _, HS.out, by rw [dig_zero]; exact row_nil _, Below.refl _ _⟩
  case round =>
    obtain ⟨R, j, hj, rfl, hlo, hup, hrow, hbel⟩ := hrel
    by_cases h0 : 0 < j
    · obtain ⟨i, rfl⟩ : ∃ i, j = i + 1 := ⟨j - 1, by omega⟩
      rw [show ((i + 1 : Nat) : Int) - 1 = (i : Int) by omega]
      have lR := sq_lt hlo.out HA.out
      have lp : 2 ^ i ≤ 2 ^ 63 := Nat.pow_le_pow_right (by decide) (by omega)
      have hup' : a < (R + 2 ^ i + 2 ^ i) * (R + 2 ^ i + 2 ^ i) := by
        have := hup.out
        rw [Nat.pow_succ, show R + 2 ^ i * 2 = R + 2 ^ i + 2 ^ i by omega] at this
        exact this
      have d0 : dlen (R + 2 ^ i) ≤ 1099511627776 := dlen_ok (by omega)
      have g1 := fun v1 w x => nshl_any v1 1 i (by omega) (dlen_ok (by decide)) w x
      simp only [Nat.one_mul] at g1
      have g2 := fun v1 v2 w x y => nadd_any v1 v2 R (2 ^ i) d0 w x y
      have g3 := fun v1 v2 w x y => nmul_any v1 v2 (R + 2 ^ i) (R + 2 ^ i) d0 d0 w x y
      generalize hp : 2 ^ i = p at *
      have HP : Hid (2 ^ i = p) := hp
      clear hp
      obtain ⟨x, hx⟩ : ∃ x, x = cmpN ((R + p) * (R + p)) a := ⟨_, rfl⟩
      have g4 := fun v1 v2 w x y => ncmp_any v1 v2 ((R + p) * (R + p)) a w x y
      rw [← hx] at g4
      have hxx : (x ≤ 0 ∧ (R + p) * (R + p) ≤ a) ∨ (0 < x ∧ a < (R + p) * (R + p)) := by
        rw [hx]
        rcases Nat.lt_trichotomy ((R + p) * (R + p)) a with g | g | g
        · rw [cmpN_lt g]; exact .inl ⟨by decide, by omega⟩
        · rw [g, cmpN_eq]; exact .inl ⟨by decide, Nat.le_refl _⟩
        · rw [cmpN_gt g]; exact .inr ⟨by decide, g⟩
      have HU : Hid _ := hup'
      have HROW : Hid (Row wr _ (dig R)) := hrow
      have hr0 : Row (wr.alloc (.cells #[.int .i64 1] 3)) _ (dig 1) := row_lit wr 3 1 (by decide) (by decide)
      clear hup' d0 lp lR hx hrow
      generalize hM : (R + p) * (R + p) = M at *
      have HM : Hid ((R + p) * (R + p) = M) := hM
      clear hM
      rcases hxx with ⟨x1, x2⟩ | ⟨x1, x2⟩
      all_goals
        have HX : Hid _ := x2
        clear x2
        go_wp2_with (first
          | (go_at_call 32; refine (g1 _ _ hr0).mono ?_; rintro e w2 ⟨v2, rfl, hr2, hb2⟩; have b2 := bthen (bmore (Below.refl _ _) _) hb2)
          | (go_at_call 31; refine (g2 _ _ _ (HROW.out.below b2) hr2).mono ?_; rintro e w3 ⟨v3, rfl, hr3, hb3⟩; have b3 := bthen b2 hb3)
          | (go_at_call 33; refine (g3 _ _ _ hr3 hr3).mono ?_; rintro e w4 ⟨v4, rfl, hr4, hb4⟩; have b4 := bthen b3 hb4)
          | (go_at_call 34; refine (g4 _ _ _ hr4 (HV.out.below (bthen hbel b4))).mono ?_; rintro e w5 ⟨rfl, q, rfl⟩))
        go_roundw
        case measure => simp [intOf]
        case rel =>
          have hB : Below w1.heap.size w1 (w4.drewN q) := bdrewN (bthen hbel b4) q
          first
            | exact ⟨R + p, i, by omega, by go_num, (by show _ ≤ _; rw [HM.out]; exact HX.out), (by show _ < _; rw [HP.out]; exact HU.out), ((hr3.below hb4).below (bdrewN (Below.refl _ _) q)), hB⟩
            | exact ⟨R, i, by omega, by go_num, hlo.out, (by show _ < _; rw [HP.out, HM.out]; exact HX.out), HROW.out.below (bdrewN b4 q), hB⟩
    · have e : j = 0 := by omega
      subst e
      have hR : R = r := HR.out R hlo.out hup.out
      subst hR
      have HROW : Hid (Row wr _ (dig R)) := hrow
      have c1 := HC1.out
      have f1 := HF1.out
      clear hrow
      go_wp2_with (first
        | (go_at_call 33; refine (k2 _ _ _ HROW.out HROW.out).mono ?_; rintro e w2 ⟨v2, rfl, hr2, hb2⟩)
        | (go_at_call 35; refine (k3 _ _ _ (HV.out.below (bthen hbel hb2)) hr2).mono ?_; rintro e w3 ⟨v3, rfl, hr3, hb3⟩; have b3 := bthen hb2 hb3)
        | (go_at_call 36; refine (k4 _ _ (HROW.out.below b3)).mono ?_; rintro e w' ⟨rfl, hw⟩; rw [hw]; clear hw w')
        | (go_at_call 30; refine (k5 _ _ hr3).mono ?_; rintro e w4 ⟨rfl, hb4⟩; have b4 := bthen (bthen hbel b3) hb4; obtain ⟨hc4, hf4⟩ := bcell b4))
      refine bodyPost_ret (v := .tuple #[.int .u64 R, .agg #[.int .u64 h, .int .u64 l]]) (by simp [results, Try.results18, go_sem, hc4, hz1, c1]) rfl (hQ.out _ _ ⟨rfl, ?_⟩)
      exact bset (bset (bthen H1 b4) (by omega) _ _) (by omega) _ _
end Go.Proofs.Ytceejccjamakmaa
