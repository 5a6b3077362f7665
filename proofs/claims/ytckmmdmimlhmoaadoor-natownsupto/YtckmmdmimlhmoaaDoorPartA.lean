import Derived.Test.YtckmmdmimlhmoaaDoorTwinE
import Derived.Test.YtckmmdmimlhmoaaDoorLead
import Derived.Deep.CutBlock
namespace Go.Proofs.YtckmmdmimlhmoaaDoor
open Go.ChangeShapes Go.WideShapes Go.ChangeAt Go.RowKit
set_option linter.unusedVariables false

/-! ### one digit (32 bits) of a quotient, as the library's Div64 finds it -/
theorem kn_up {u t a b T : Nat} (ha : 0 < a) (ht : t < 4294967296) (hT : T * (a * 4294967296 + b) ≤ u * 4294967296 + t) : T ≤ u / a := by
  rw [Nat.le_div_iff_mul_le ha]
  rw [Nat.mul_add, ← Nat.mul_assoc] at hT
  generalize T * a = x at *
  generalize T * b = z at *
  omega
theorem kn_more {q r u t a b T : Nat} (hq : q * a + r = u) (hlt : u < a * 4294967296 + b) (ht : t < 4294967296) (hT : T * (a * 4294967296 + b) ≤ u * 4294967296 + t)
    (hc : 4294967296 ≤ q ∨ r * 4294967296 + t < q * b) : T < q := by
  by_cases h : T < q
  · exact h
  · have h1 := Nat.mul_le_mul (Nat.le_of_not_lt h) (Nat.le_refl (a * 4294967296 + b))
    rcases hc with h2 | h2
    · have h3 := Nat.mul_le_mul h2 (Nat.le_refl (a * 4294967296 + b))
      omega
    · rw [Nat.mul_add q, ← Nat.mul_assoc] at h1
      generalize q * a = x at *
      generalize q * b = z at *
      omega
theorem kn_stop {q r u t a b T : Nat} (hq : q * a + r = u) (hc : q * b ≤ r * 4294967296 + t) (hT : u * 4294967296 + t < (T + 1) * (a * 4294967296 + b)) (h : T ≤ q) : q = T := by
  have h1 : q * (a * 4294967296 + b) < (T + 1) * (a * 4294967296 + b) := by
    refine Nat.lt_of_le_of_lt ?_ hT
    rw [Nat.mul_add q, ← Nat.mul_assoc]
    generalize q * a = x at *
    generalize q * b = z at *
    omega
  have := Nat.lt_of_mul_lt_mul_right h1
  omega
theorem kn_break {q r u t a b : Nat} (hq : q * a + r = u) (hlt : u < a * 4294967296 + b) (hb : b < 4294967296) (hr : 4294967296 ≤ r) : q * b ≤ r * 4294967296 + t := by
  have h1 : q < 4294967296 := by
    by_cases h : q < 4294967296
    · exact h
    · have := Nat.mul_le_mul (Nat.le_of_not_lt h) (Nat.le_refl a)
      omega
  have h2 := Nat.mul_le_mul (Nat.le_of_lt h1) (Nat.le_of_lt hb)
  omega
theorem div_at {U y q : Nat} (h1 : q * y ≤ U) (h2 : U < (q + 1) * y) : U / y = q := by
  rw [Nat.mul_comm] at h1 h2
  exact Nat.div_eq_of_lt_le (by rw [Nat.mul_comm]; exact h1) (by rw [Nat.mul_comm]; exact h2)

theorem lz64_any (x : Nat) (hx : x ≤ 18446744073709551615) (w : World) :
    Calls Tryd.prog 27 #[.int .u64 x] w fun e w' => e = .returned (.int .i64 ((64 - blen x : Nat) : Int)) ∧ w' = w := by
  have r2 := fun w => len64_any x (by omega) w
  rw [bitLen_eq x hx] at r2
  have hb : blen x ≤ 64 := blen_le.2 (by omega)
  generalize blen x = L at *
  refine cps fun Q hQ => ?_
  go_enter Tryd.func27, Tryd.ntmps27
  go_wp2_with (go_at_call 43; refine (r2 _).mono ?_; rintro e w' ⟨rfl, hw⟩; rw [hw]; clear hw w')
  exact hQ.out _ _ ⟨ret_i (by omega), rfl⟩
set_option maxHeartbeats 2000000 in
set_option maxRecDepth 100000 in
theorem div64_any (hi lo y : Nat) (hh : hi < y) (hl : lo ≤ 18446744073709551615) (hy : y ≤ 18446744073709551615) (w : World) :
    Calls Tryd.prog 46 #[.int .u64 hi, .int .u64 lo, .int .u64 y] w fun e w' => (∃ q r : Nat, e = .returned (.tuple #[.int .u64 q, .int .u64 r]) ∧ q = (hi * 18446744073709551616 + lo) / y ∧ r = (hi * 18446744073709551616 + lo) % y) ∧ ∃ n, w' = w.drewN n := by
  refine cps fun Q hQ => ?_
  by_cases h0 : hi = 0
  · subst h0
    have e1 : (0 * 18446744073709551616 + lo) / y = lo / y := by rw [Nat.zero_mul, Nat.zero_add]
    have e2 : (0 * 18446744073709551616 + lo) % y = lo % y := by rw [Nat.zero_mul, Nat.zero_add]
    rw [e1, e2] at hQ
    have h1 : lo / y ≤ lo := Nat.div_le_self _ _
    have h2 : lo % y < y := Nat.mod_lt _ (by omega)
    clear e1 e2
    have h3 : ¬ ((y : Int) = 0) := by omega
    obtain ⟨d, hd⟩ : ∃ d, d = lo / y := ⟨_, rfl⟩
    obtain ⟨m, hm⟩ : ∃ d, d = lo % y := ⟨_, rfl⟩
    have h4 : (lo : Int) / y = d := by rw [hd]; exact (Int.natCast_ediv lo y).symm
    have h5 : (lo : Int) % y = m := by rw [hm]; exact (Int.natCast_emod lo y).symm
    have h6 : IntKind.u64.wrap (d : Int) = d := wrapU d (by omega)
    rw [← hd, ← hm] at hQ
    clear hd hm h1 h2
    go_enter Tryd.func46, Tryd.ntmps46
    go_wp2
    go_region
    all_goals
      go_wp2
      exact hQ.out _ _ ⟨⟨d, m, (by rw [← h5]; rfl), rfl, rfl⟩, 1, rfl⟩
  · obtain ⟨s, hs⟩ : ∃ s, s = 64 - blen y := ⟨_, rfl⟩
    have k1 := fun w => lz64_any y (by omega) w
    rw [← hs] at k1
    have hb : blen y ≤ 64 := blen_le.2 (by omega)
    have hb0 : ¬ blen y ≤ 0 := fun h => by have := blen_le.1 h; omega
    have hb1 : ¬ y < 2 ^ (blen y - 1) := fun h => by have := blen_le.2 h; omega
    have hb2 : y < 2 ^ blen y := blen_le.1 (Nat.le_refl _)
    have hs1 : s < 64 := by omega
    obtain ⟨P, hP⟩ : ∃ P, P = 2 ^ s := ⟨_, rfl⟩
    have e1 : 2 ^ blen y * P = 2 ^ 64 := by rw [hP, ← Nat.pow_add]; congr 1; omega
    have e2 : 2 ^ (blen y - 1) * P = 2 ^ 63 := by rw [hP, ← Nat.pow_add]; congr 1; omega
    have p0 : 0 < P := by rw [hP]; exact Nat.pow_pos (by decide)
    have y1 : y * P < 2 ^ 64 := by rw [← e1]; exact Nat.mul_lt_mul_of_pos_right hb2 p0
    have y2 : 2 ^ 63 ≤ y * P := by rw [← e2]; exact Nat.mul_le_mul_right _ (Nat.le_of_not_lt hb1)
    clear e1 e2 hb hb0 hb1 hb2 hs
    obtain ⟨Y, hY⟩ : ∃ Y, Y = y * P := ⟨_, rfl⟩
    rw [← hY] at y1 y2
    have v1 : IntKind.u64.wrap ((y : Int) * 2 ^ s) = (Y : Int) := by
      rw [show ((y : Int) * 2 ^ s) = ((y * P : Nat) : Int) by rw [hP]; simp, ← hY]; exact wrapU Y (by omega)
    obtain ⟨a, ha⟩ : ∃ a, a = Y / 4294967296 := ⟨_, rfl⟩
    obtain ⟨b, hb⟩ : ∃ b, b = Y % 4294967296 := ⟨_, rfl⟩
    have v2 : (Y : Int) / 4294967296 = a := by omega
    have v3 := maskN Y (by omega)
    rw [← hb] at v3
    have a0 : 0 < a := by omega
    have a1 : a < 4294967296 := by omega
    have b1 : b < 4294967296 := by omega
    have ut := up_near hi lo s (by omega) (by omega) hs1
    have v4 := wrapShl hi s
    have v5 := shrN lo (64 - s)
    have v6 := u64_or_nat ((hi <<< s) % 2 ^ 64) (lo >>> (64 - s)) (Nat.mod_lt _ (by decide)) (Nat.lt_of_le_of_lt (Nat.shiftRight_le _ _) (by omega))
    have v7 := wrapShl lo s
    have hU : (hi * 18446744073709551616 + lo) * P < y * P * 18446744073709551616 := by
      have h1 : hi * 18446744073709551616 + lo < y * 18446744073709551616 := by omega
      have h2 := Nat.mul_lt_mul_of_pos_right h1 p0
      rw [Nat.mul_right_comm] at h2
      exact h2
    rw [← hY] at hU
    rw [← hP, Nat.mod_eq_of_lt (by omega)] at ut
    obtain ⟨X1, hX1⟩ : ∃ X, X = (hi <<< s) % 2 ^ 64 := ⟨_, rfl⟩
    obtain ⟨X2, hX2⟩ : ∃ X, X = lo >>> (64 - s) := ⟨_, rfl⟩
    rw [← hX1] at v4 v6 ut
    rw [← hX2] at v5 v6 ut
    obtain ⟨u, hu⟩ : ∃ X, X = X1 ||| X2 := ⟨_, rfl⟩
    obtain ⟨z, hz⟩ : ∃ X, X = (lo <<< s) % 2 ^ 64 := ⟨_, rfl⟩
    rw [← hu] at v6 ut
    rw [← hz] at v7 ut
    obtain ⟨ue, u1, z1⟩ := ut
    clear hX1 hX2 hu hz
    generalize hUP : (hi * 18446744073709551616 + lo) * P = UP at *
    have huY : u < Y := by omega
    obtain ⟨t1, ht1⟩ : ∃ X, X = z / 4294967296 := ⟨_, rfl⟩
    obtain ⟨t0, ht0⟩ : ∃ X, X = z % 4294967296 := ⟨_, rfl⟩
    have v8 : (z : Int) / 4294967296 = t1 := by omega
    have v9 := maskN z (by omega)
    rw [← ht0] at v9
    have hab : Y = a * 4294967296 + b := by omega
    obtain ⟨g, hg⟩ : ∃ X, X = u / a := ⟨_, rfl⟩
    have hg2 : g * a + u % a = u := by rw [hg]; exact Nat.div_add_mod' u a
    have hg3 : u % a < a := Nat.mod_lt _ a0
    obtain ⟨r0, hr0⟩ : ∃ X, X = u % a := ⟨_, rfl⟩
    rw [← hr0] at hg2 hg3
    have v10 : (u : Int).tdiv a = g := by rw [hg]; rfl
    have hgu : g ≤ u := by rw [hg]; exact Nat.div_le_self _ _
    have v11 := wrapU g (by omega)
    obtain ⟨m, hm⟩ : ∃ X, X = g * a := ⟨_, rfl⟩
    have v12 : IntKind.u64.wrap ((g : Int) * a) = m := by rw [mulN, ← hm]; exact wrapU m (by omega)
    have v13 : IntKind.u64.wrap ((u : Int) - m) = r0 := by rw [show (u : Int) - m = r0 by omega]; exact wrapU r0 (by omega)
    have hT1 := Nat.div_add_mod' (u * 4294967296 + t1) Y
    have hT2 := Nat.mod_lt (u * 4294967296 + t1) (show 0 < Y by omega)
    obtain ⟨T1, eT1⟩ : ∃ X, X = (u * 4294967296 + t1) / Y := ⟨_, rfl⟩
    obtain ⟨R1, eR1⟩ : ∃ X, X = (u * 4294967296 + t1) % Y := ⟨_, rfl⟩
    rw [← eT1, ← eR1] at hT1
    rw [← eR1] at hT2
    have HY : Hid (Y = y * P ∧ P = 2 ^ s ∧ Y < 2 ^ 64 ∧ 2 ^ 63 ≤ Y ∧ Y = a * 4294967296 + b ∧ 0 < P) := ⟨hY, hP, y1, y2, hab, p0⟩
    have HU : Hid ((hi * 18446744073709551616 + lo) * P = u * 18446744073709551616 + z ∧ z = t1 * 4294967296 + t0 ∧ u < Y) := ⟨by omega, by omega, huY⟩
    have HT : Hid (T1 * Y + R1 = u * 4294967296 + t1 ∧ R1 < Y) := ⟨hT1, hT2⟩
    have HV : Hid (T1 * Y ≤ u * 4294967296 + t1 ∧ u * 4294967296 + t1 < T1 * Y + Y ∧ u < Y) := ⟨by omega, by omega, huY⟩
    have u64 : u ≤ 18446744073709551615 := u1
    have HG : Hid (g = u / a ∧ g * a + r0 = u ∧ r0 < a) := ⟨hg, by omega, hg3⟩
    have t1b : t1 < 4294967296 := by omega
    have t0b : t0 < 4294967296 := by omega
    clear hY hP y1 y2 ha hb ue u1 z1 huY ht1 ht0 hab hg hg2 hg3 hr0 hgu hm hT1 hT2 eT1 eR1 p0 hUP hU
    go_enter Tryd.func46, Tryd.ntmps46
    go_upto_block 0 with (go_at_call 27; refine (k1 _).mono ?_; rintro e w' ⟨rfl, hw⟩; rw [hw]; clear hw w')
    go_cut [15, 16] from 67 (fun s15 s16 wx => s15 = .int .u64 T1 ∧ (∃ r : Nat, s16 = .int .u64 r) ∧ wx = w)
    case first =>
      go_wp2_with fail
      go_loopw [15, 16] (fun s15 s16 wr => ∃ q r : Nat, s15 = .int .u64 q ∧ s16 = .int .u64 r ∧ wr = w ∧ Hid (T1 ≤ q ∧ q * a + r = u ∧ r < 4294967296)) (fun q _ _ => (intOf q).toNat)
      case atStart =>
        exact ⟨g, r0, rfl, rfl, rfl, (by
          obtain ⟨y1, y2, y3, y4, y5, y6⟩ := HY.out
          obtain ⟨g1, g2, g3⟩ := HG.out
          obtain ⟨c1, c2⟩ := HT.out
          refine ⟨?_, g2, by omega⟩
          rw [g1]
          exact kn_up a0 t1b (by rw [← y5]; omega))⟩
      case round =>
        obtain ⟨q, r, rfl, rfl, rfl, hr⟩ := hrel
        have q64 : q < 18446744073709551616 := by
          obtain ⟨e1, e2, e3⟩ := hr.out
          have := u64
          have := Nat.mul_le_mul (Nat.le_refl q) (show 1 ≤ a by omega)
          omega
        have r64 : r < 4294967296 := hr.out.2.2
        have w1 : 1 ≤ q → IntKind.u64.wrap ((q : Int) - 1) = ((q - 1 : Nat) : Int) := fun h => by rw [show (q : Int) - 1 = ((q - 1 : Nat) : Int) by omega]; exact wrapU _ (by omega)
        have w2 : IntKind.u64.wrap ((r : Int) + a) = ((r + a : Nat) : Int) := by rw [addN]; exact wrapU _ (by omega)
        obtain ⟨q', hq'⟩ : ∃ x, x = q - 1 := ⟨_, rfl⟩
        obtain ⟨r', hr'⟩ : ∃ x, x = r + a := ⟨_, rfl⟩
        rw [← hq'] at w1
        rw [← hr'] at w2
        have HE : Hid (q' = q - 1 ∧ r' = r + a) := ⟨hq', hr'⟩
        -- what holds behind one step down
        have down : Hid ((4294967296 ≤ q ∨ r * 4294967296 + t1 < q * b) → 1 ≤ q ∧ T1 ≤ q' ∧ q' * a + r' = u) := fun h => by
          obtain ⟨e1, e2, e3⟩ := hr.out
          obtain ⟨y1, y2, y3, y4, y5, y6⟩ := HY.out
          obtain ⟨k1, k2, k3⟩ := HV.out
          have g := kn_more (T := T1) e2 (by rw [← y5]; exact k3) t1b (by rw [← y5]; omega) h
          obtain ⟨i, rfl⟩ : ∃ i, q = i + 1 := ⟨q - 1, by omega⟩
          have e4 : q' = i := by omega
          subst e4
          refine ⟨by omega, by omega, ?_⟩
          rw [← e2, Nat.add_mul, Nat.one_mul]; omega
        have stop : Hid (∀ q r : Nat, T1 ≤ q → q * a + r = u → q * b ≤ r * 4294967296 + t1 → q = T1) := fun q r e1 e2 e3 => by
          obtain ⟨y1, y2, y3, y4, y5, y6⟩ := HY.out
          obtain ⟨k1, k2, k3⟩ := HV.out
          exact kn_stop e2 e3 (by rw [← y5, Nat.add_mul, Nat.one_mul]; omega) e1
        have last : Hid (4294967296 ≤ r' → T1 ≤ q' → q' * a + r' = u → q' = T1) := fun h1 h2 h3 => by
          obtain ⟨y1, y2, y3, y4, y5, y6⟩ := HY.out
          obtain ⟨k1, k2, k3⟩ := HV.out
          exact stop.out q' r' h2 h3 (kn_break h3 (by rw [← y5]; exact k3) b1 h1)
        clear hq' hr'
        by_cases c1 : 4294967296 ≤ q
        · have o1 : decide ((4294967296 : Int) ≤ (q : Int)) = true := decide_eq_true (by omega)
          obtain ⟨d1, d2, d3⟩ := down.out (.inl c1)
          have w1 := w1 d1
          have HD : Hid (T1 ≤ q' ∧ q' * a + r' = u) := ⟨d2, d3⟩
          clear d2 d3
          by_cases c3 : 4294967296 ≤ r'
          · have o3 : decide ((4294967296 : Int) ≤ (r' : Int)) = true := decide_eq_true (by omega)
            have fin : q' = T1 := last.out c3 HD.out.1 HD.out.2
            subst fin
            go_wp2
            go_meet
            case rel => exact ⟨rfl, ⟨_, rfl⟩, rfl⟩
          · have o3 : decide ((4294967296 : Int) ≤ (r' : Int)) = false := decide_eq_false (by omega)
            go_wp2
            go_roundw
            case measure => simp [intOf]; have := HE.out; omega
            case rel => exact ⟨q', r', rfl, rfl, (by first | rfl | trivial), ⟨HD.out.1, HD.out.2, by omega⟩⟩
        · have o1 : decide ((4294967296 : Int) ≤ (q : Int)) = false := decide_eq_false (by omega)
          have m0 : q * b < 18446744073709551616 := by
            have := Nat.mul_le_mul (show q ≤ 4294967295 by omega) (show b ≤ 4294967295 by omega); omega
          have n1 : IntKind.u64.wrap ((q : Int) * b) = ((q * b : Nat) : Int) := by rw [mulN]; exact wrapU _ m0
          obtain ⟨n, hn⟩ : ∃ x, x = q * b := ⟨_, rfl⟩
          rw [← hn] at n1
          obtain ⟨k, hk⟩ : ∃ x, x = r * 4294967296 := ⟨_, rfl⟩
          have n2 : IntKind.u64.wrap (4294967296 * (r : Int)) = (k : Int) := by rw [show 4294967296 * (r : Int) = (k : Int) by omega]; exact wrapU _ (by omega)
          have n3 : IntKind.u64.wrap ((k : Int) + t1) = ((k + t1 : Nat) : Int) := by rw [addN]; exact wrapU _ (by omega)
          obtain ⟨v, hv⟩ : ∃ x, x = k + t1 := ⟨_, rfl⟩
          rw [← hv] at n3
          have HN : Hid (n = q * b ∧ v = r * 4294967296 + t1) := ⟨hn, by omega⟩
          clear hn hk hv m0
          by_cases c2 : v < n
          · have o2 : decide ((v : Int) < (n : Int)) = true := decide_eq_true (by omega)
            obtain ⟨d1, d2, d3⟩ := down.out (.inr (by have := HN.out; omega))
            have w1 := w1 d1
            have HD : Hid (T1 ≤ q' ∧ q' * a + r' = u) := ⟨d2, d3⟩
            clear d2 d3
            by_cases c3 : 4294967296 ≤ r'
            · have o3 : decide ((4294967296 : Int) ≤ (r' : Int)) = true := decide_eq_true (by omega)
              have fin : q' = T1 := last.out c3 HD.out.1 HD.out.2
              subst fin
              go_wp2
              go_meet
              case rel => exact ⟨rfl, ⟨_, rfl⟩, rfl⟩
            · have o3 : decide ((4294967296 : Int) ≤ (r' : Int)) = false := decide_eq_false (by omega)
              go_wp2
              go_roundw
              case measure => simp [intOf]; have := HE.out; omega
              case rel => exact ⟨q', r', rfl, rfl, (by first | rfl | trivial), ⟨HD.out.1, HD.out.2, by omega⟩⟩
          · have o2 : decide ((v : Int) < (n : Int)) = false := decide_eq_false (by omega)
            have fin : q = T1 := stop.out q r hr.out.1 hr.out.2.1 (by have := HN.out; omega)
            subst fin
            go_wp2
            go_meet
            case rel => exact ⟨rfl, ⟨_, rfl⟩, rfl⟩
    case rest =>
      obtain ⟨rfl, ⟨r, rfl⟩, hwc⟩ := hcut; rw [hwc]; clear hwc wc
      have hT0 := Nat.div_add_mod' (R1 * 4294967296 + t0) Y
      have hY0 : 0 < Y := by obtain ⟨y1, y2, y3, y4, y5, y6⟩ := HY.out; omega
      have hT3 := Nat.mod_lt (R1 * 4294967296 + t0) hY0
      obtain ⟨T0, eT0⟩ : ∃ X, X = (R1 * 4294967296 + t0) / Y := ⟨_, rfl⟩
      obtain ⟨R0, eR0⟩ : ∃ X, X = (R1 * 4294967296 + t0) % Y := ⟨_, rfl⟩
      rw [← eT0, ← eR0] at hT0
      rw [← eR0] at hT3
      obtain ⟨ht1, ht2⟩ := HT.out
      obtain ⟨y1, y2, y3, y4, y5, y6⟩ := HY.out
      obtain ⟨c1, c2, c3⟩ := HU.out
      have lt32 : ∀ T u t R : Nat, T * Y + R = u * 4294967296 + t → u < Y → t < 4294967296 → T < 4294967296 := fun T u t R h1 h2 h3 => by
        by_cases h : T < 4294967296
        · exact h
        · have := Nat.mul_le_mul (Nat.le_of_not_lt h) (Nat.le_refl Y)
          omega
      have hT1b := lt32 T1 u t1 R1 ht1 c3 t1b
      have hT0b := lt32 T0 R1 t0 R0 hT0 ht2 t0b
      clear lt32
      -- what the code reckons
      obtain ⟨A1, eA1⟩ : ∃ X, X = u * 4294967296 % 18446744073709551616 := ⟨_, rfl⟩
      have x1 : IntKind.u64.wrap ((u : Int) * 4294967296) = A1 := by rw [IntKind.wrap_u64]; omega
      obtain ⟨A2, eA2⟩ : ∃ X, X = (A1 + t1) % 18446744073709551616 := ⟨_, rfl⟩
      have x2 : IntKind.u64.wrap ((A1 : Int) + t1) = A2 := by rw [IntKind.wrap_u64]; omega
      obtain ⟨A3, eA3⟩ : ∃ X, X = T1 * Y % 18446744073709551616 := ⟨_, rfl⟩
      have x3 : IntKind.u64.wrap ((T1 : Int) * Y) = A3 := by rw [mulN, wrapM, ← eA3]
      have x4 : IntKind.u64.wrap ((A2 : Int) - A3) = R1 := by
        generalize T1 * Y = Z at *
        rw [IntKind.wrap_u64]; omega
      obtain ⟨g0, hg⟩ : ∃ X, X = R1 / a := ⟨_, rfl⟩
      have hg2 : g0 * a + R1 % a = R1 := by rw [hg]; exact Nat.div_add_mod' R1 a
      have hg3 : R1 % a < a := Nat.mod_lt _ a0
      obtain ⟨r1, hr1⟩ : ∃ X, X = R1 % a := ⟨_, rfl⟩
      rw [← hr1] at hg2 hg3
      have x5 : (R1 : Int).tdiv a = g0 := by rw [hg]; rfl
      have hgu : g0 ≤ R1 := by rw [hg]; exact Nat.div_le_self _ _
      have x6 := wrapU g0 (by omega)
      obtain ⟨m0, hm⟩ : ∃ X, X = g0 * a := ⟨_, rfl⟩
      have x7 : IntKind.u64.wrap ((g0 : Int) * a) = m0 := by rw [mulN, ← hm]; exact wrapU m0 (by omega)
      have x8 : IntKind.u64.wrap ((R1 : Int) - m0) = r1 := by rw [show (R1 : Int) - m0 = r1 by omega]; exact wrapU r1 (by omega)
      obtain ⟨B1, eB1⟩ : ∃ X, X = T1 * 4294967296 := ⟨_, rfl⟩
      have x9 : IntKind.u64.wrap ((T1 : Int) * 4294967296) = B1 := by rw [IntKind.wrap_u64]; omega
      obtain ⟨qq, eqq⟩ : ∃ X, X = B1 + T0 := ⟨_, rfl⟩
      have x10 : IntKind.u64.wrap ((B1 : Int) + T0) = qq := by rw [IntKind.wrap_u64]; omega
      obtain ⟨C1, eC1⟩ : ∃ X, X = R1 * 4294967296 % 18446744073709551616 := ⟨_, rfl⟩
      have x11 : IntKind.u64.wrap ((R1 : Int) * 4294967296) = C1 := by rw [IntKind.wrap_u64]; omega
      obtain ⟨C2, eC2⟩ : ∃ X, X = (C1 + t0) % 18446744073709551616 := ⟨_, rfl⟩
      have x12 : IntKind.u64.wrap ((C1 : Int) + t0) = C2 := by rw [IntKind.wrap_u64]; omega
      obtain ⟨C3, eC3⟩ : ∃ X, X = T0 * Y % 18446744073709551616 := ⟨_, rfl⟩
      have x13 : IntKind.u64.wrap ((T0 : Int) * Y) = C3 := by rw [mulN, wrapM, ← eC3]
      have x14 : IntKind.u64.wrap ((C2 : Int) - C3) = R0 := by
        generalize T0 * Y = Z at *
        rw [IntKind.wrap_u64]; omega
      obtain ⟨rr, err⟩ : ∃ X, X = R0 / P := ⟨_, rfl⟩
      have x15 : (R0 : Int) / 2 ^ s = rr := by rw [err, y2]; simp
      have HW : Hid (T0 * Y ≤ R1 * 4294967296 + t0 ∧ R1 * 4294967296 + t0 < T0 * Y + Y ∧ R1 < Y) := ⟨by omega, by omega, ht2⟩
      have R164 : R1 ≤ 18446744073709551615 := by omega
      have HG0 : Hid (g0 = R1 / a ∧ g0 * a + r1 = R1 ∧ r1 < a) := ⟨hg, by omega, hg3⟩
      have HF : Hid (qq = (hi * 18446744073709551616 + lo) / y ∧ rr = (hi * 18446744073709551616 + lo) % y) := by
        have e0 : (hi * 18446744073709551616 + lo) * P = qq * Y + R0 := by
          rw [c1, eqq, eB1, Nat.add_mul, Nat.mul_right_comm]
          generalize T1 * Y = Z1 at *
          generalize T0 * Y = Z0 at *
          omega
        constructor
        · rw [← Nat.mul_div_mul_right _ y y6, e0, ← y1, Nat.add_comm, Nat.add_mul_div_right _ _ hY0, Nat.div_eq_of_lt hT3, Nat.zero_add]
        · have e2 := Nat.mul_mod_mul_right P (hi * 18446744073709551616 + lo) y
          rw [e0, ← y1, Nat.add_comm, Nat.add_mul_mod_self_right, Nat.mod_eq_of_lt hT3] at e2
          rw [err, e2, Nat.mul_div_cancel _ y6]
      clear hT0 hT3 eT0 eR0 ht1 ht2 y1 y2 y3 y4 y5 y6 c1 c2 c3 hT1b hT0b eA1 eA2 eA3 hg hg2 hg3 hr1 hgu hm eB1 eqq eC1 eC2 eC3 err hY0
      clear v1 v2 v3 v4 v5 v6 v7 v8 v9 v10 v11 v12 v13
      go_upto_block 2 with fail
      go_cut [18, 16] from 102 (fun s15 s16 wx => s15 = .int .u64 T0 ∧ (∃ r : Nat, s16 = .int .u64 r) ∧ wx = w)
      case first =>
        go_wp2_with fail
        go_loopw [18, 16] (fun s15 s16 wr => ∃ q r : Nat, s15 = .int .u64 q ∧ s16 = .int .u64 r ∧ wr = w ∧ Hid (T0 ≤ q ∧ q * a + r = R1 ∧ r < 4294967296)) (fun q _ _ => (intOf q).toNat)
        case atStart =>
          exact ⟨g0, r1, rfl, rfl, rfl, (by
            obtain ⟨y1, y2, y3, y4, y5, y6⟩ := HY.out
            obtain ⟨g1, g2, g3⟩ := HG0.out
            obtain ⟨c1, c2, c3⟩ := HW.out
            refine ⟨?_, g2, by omega⟩
            rw [g1]
            exact kn_up a0 t0b (by rw [← y5]; omega))⟩
        case round =>
          obtain ⟨q, r, rfl, rfl, rfl, hr⟩ := hrel
          have q64 : q < 18446744073709551616 := by
            obtain ⟨e1, e2, e3⟩ := hr.out
            have := R164
            have := Nat.mul_le_mul (Nat.le_refl q) (show 1 ≤ a by omega)
            omega
          have r64 : r < 4294967296 := hr.out.2.2
          have w1 : 1 ≤ q → IntKind.u64.wrap ((q : Int) - 1) = ((q - 1 : Nat) : Int) := fun h => by rw [show (q : Int) - 1 = ((q - 1 : Nat) : Int) by omega]; exact wrapU _ (by omega)
          have w2 : IntKind.u64.wrap ((r : Int) + a) = ((r + a : Nat) : Int) := by rw [addN]; exact wrapU _ (by omega)
          obtain ⟨q', hq'⟩ : ∃ x, x = q - 1 := ⟨_, rfl⟩
          obtain ⟨r', hr'⟩ : ∃ x, x = r + a := ⟨_, rfl⟩
          rw [← hq'] at w1
          rw [← hr'] at w2
          have HE : Hid (q' = q - 1 ∧ r' = r + a) := ⟨hq', hr'⟩
          -- what holds behind one step down
          have down : Hid ((4294967296 ≤ q ∨ r * 4294967296 + t0 < q * b) → 1 ≤ q ∧ T0 ≤ q' ∧ q' * a + r' = R1) := fun h => by
            obtain ⟨e1, e2, e3⟩ := hr.out
            obtain ⟨y1, y2, y3, y4, y5, y6⟩ := HY.out
            obtain ⟨k1, k2, k3⟩ := HW.out
            have g := kn_more (T := T0) e2 (by rw [← y5]; exact k3) t0b (by rw [← y5]; omega) h
            obtain ⟨i, rfl⟩ : ∃ i, q = i + 1 := ⟨q - 1, by omega⟩
            have e4 : q' = i := by omega
            subst e4
            refine ⟨by omega, by omega, ?_⟩
            rw [← e2, Nat.add_mul, Nat.one_mul]; omega
          have stop : Hid (∀ q r : Nat, T0 ≤ q → q * a + r = R1 → q * b ≤ r * 4294967296 + t0 → q = T0) := fun q r e1 e2 e3 => by
            obtain ⟨y1, y2, y3, y4, y5, y6⟩ := HY.out
            obtain ⟨k1, k2, k3⟩ := HW.out
            exact kn_stop e2 e3 (by rw [← y5, Nat.add_mul, Nat.one_mul]; omega) e1
          have last : Hid (4294967296 ≤ r' → T0 ≤ q' → q' * a + r' = R1 → q' = T0) := fun h1 h2 h3 => by
            obtain ⟨y1, y2, y3, y4, y5, y6⟩ := HY.out
            obtain ⟨k1, k2, k3⟩ := HW.out
            exact stop.out q' r' h2 h3 (kn_break h3 (by rw [← y5]; exact k3) b1 h1)
          clear hq' hr'
          by_cases c1 : 4294967296 ≤ q
          · have o1 : decide ((4294967296 : Int) ≤ (q : Int)) = true := decide_eq_true (by omega)
            obtain ⟨d1, d2, d3⟩ := down.out (.inl c1)
            have w1 := w1 d1
            have HD : Hid (T0 ≤ q' ∧ q' * a + r' = R1) := ⟨d2, d3⟩
            clear d2 d3
            by_cases c3 : 4294967296 ≤ r'
            · have o3 : decide ((4294967296 : Int) ≤ (r' : Int)) = true := decide_eq_true (by omega)
              have fin : q' = T0 := last.out c3 HD.out.1 HD.out.2
              subst fin
              go_wp2
              go_meet
              case rel => exact ⟨rfl, ⟨_, rfl⟩, rfl⟩
            · have o3 : decide ((4294967296 : Int) ≤ (r' : Int)) = false := decide_eq_false (by omega)
              go_wp2
              go_roundw
              case measure => simp [intOf]; have := HE.out; omega
              case rel => exact ⟨q', r', rfl, rfl, (by first | rfl | trivial), ⟨HD.out.1, HD.out.2, by omega⟩⟩
          · have o1 : decide ((4294967296 : Int) ≤ (q : Int)) = false := decide_eq_false (by omega)
            have m0 : q * b < 18446744073709551616 := by
              have := Nat.mul_le_mul (show q ≤ 4294967295 by omega) (show b ≤ 4294967295 by omega); omega
            have n1 : IntKind.u64.wrap ((q : Int) * b) = ((q * b : Nat) : Int) := by rw [mulN]; exact wrapU _ m0
            obtain ⟨n, hn⟩ : ∃ x, x = q * b := ⟨_, rfl⟩
            rw [← hn] at n1
            obtain ⟨k, hk⟩ : ∃ x, x = r * 4294967296 := ⟨_, rfl⟩
            have n2 : IntKind.u64.wrap (4294967296 * (r : Int)) = (k : Int) := by rw [show 4294967296 * (r : Int) = (k : Int) by omega]; exact wrapU _ (by omega)
            have n3 : IntKind.u64.wrap ((k : Int) + t0) = ((k + t0 : Nat) : Int) := by rw [addN]; exact wrapU _ (by omega)
            obtain ⟨v, hv⟩ : ∃ x, x = k + t0 := ⟨_, rfl⟩
            rw [← hv] at n3
            have HN : Hid (n = q * b ∧ v = r * 4294967296 + t0) := ⟨hn, by omega⟩
            clear hn hk hv m0
            by_cases c2 : v < n
            · have o2 : decide ((v : Int) < (n : Int)) = true := decide_eq_true (by omega)
              obtain ⟨d1, d2, d3⟩ := down.out (.inr (by have := HN.out; omega))
              have w1 := w1 d1
              have HD : Hid (T0 ≤ q' ∧ q' * a + r' = R1) := ⟨d2, d3⟩
              clear d2 d3
              by_cases c3 : 4294967296 ≤ r'
              · have o3 : decide ((4294967296 : Int) ≤ (r' : Int)) = true := decide_eq_true (by omega)
                have fin : q' = T0 := last.out c3 HD.out.1 HD.out.2
                subst fin
                go_wp2
                go_meet
                case rel => exact ⟨rfl, ⟨_, rfl⟩, rfl⟩
              · have o3 : decide ((4294967296 : Int) ≤ (r' : Int)) = false := decide_eq_false (by omega)
                go_wp2
                go_roundw
                case measure => simp [intOf]; have := HE.out; omega
                case rel => exact ⟨q', r', rfl, rfl, (by first | rfl | trivial), ⟨HD.out.1, HD.out.2, by omega⟩⟩
            · have o2 : decide ((v : Int) < (n : Int)) = false := decide_eq_false (by omega)
              have fin : q = T0 := stop.out q r hr.out.1 hr.out.2.1 (by have := HN.out; omega)
              subst fin
              go_wp2
              go_meet
              case rel => exact ⟨rfl, ⟨_, rfl⟩, rfl⟩
      case rest =>
        obtain ⟨rfl, ⟨r, rfl⟩, hwc⟩ := hcut; rw [hwc]; clear hwc wc
        go_wp2
        exact hQ.out _ _ ⟨⟨qq, rr, rfl, HF.out.1, HF.out.2⟩, 0, rfl⟩
end Go.Proofs.YtckmmdmimlhmoaaDoor
