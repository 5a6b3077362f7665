import Derived.Test.YtheliihkkoohnabGreatJoin1
import Derived.Test.YtheliihkkoohnabGreatJoin3
import Derived.Test.YtheliihkkoohnabGreatJoin2
import Derived.Deep.CutBlock
import Derived.Deep.CutRange
import Derived.Test.YtheliihkkoohnabGreatJoin7
namespace Go.Proofs.YtheliihkkoohnabGreat
open Go.ChangeShapes Go.WideShapes Go.ChangeAt Go.RowKit
set_option linter.unusedVariables false
set_option linter.unusedSimpArgs false
set_option maxRecDepth 100000

/-! ### codec.Decode, by what a pattern means -/
theorem cdecode_v (n x : Nat) (hn : Wd n) (hx : x < 2 ^ 64) (w : World) :
    Calls Tryz.prog 31 #[.int .i64 n, .int .u64 x] w fun e w' => e = .returned (.tuple #[numV (vK n x) (vB n x) (vS n x) (vF n x), .nilIface]) ∧ Below w.heap.size w w' := by
  unfold vK vB vS vF
  by_cases hk : kindOf n (x % 2 ^ n) = 1
  · rw [if_pos hk, if_pos hk, if_pos hk]
    have := cdecode_real n x hn hx hk w
    rwa [← hk] at this
  · rw [if_neg hk, if_neg hk, if_neg hk]
    exact cdecode_other n x hn hx hk w
end Go.Proofs.YtheliihkkoohnabGreat

namespace Go.Proofs.YtheliihkkoohnabGreat
open Go.ChangeShapes Go.WideShapes Go.ChangeAt Go.RowKit
set_option linter.unusedVariables false

/-! ### one digit (32 bits) of a quotient, as the library's Div64 finds it -/
theorem kn_up {u t a b T : Nat} (ha : 0 < a) (ht : t < 4294967296) (hT : T * (a * 4294967296 + b) ≤ u * 4294967296 + t) : T ≤ u / a := by
  rw [Nat.le_div_iff_mul_le ha]
  rw [Nat.mul_add, ← Nat.mul_assoc] at hT
  generalize T * a = x at *
  generalize T * b = z at *
  omega
theorem kn_more {q r u t a b T : Nat} (hq : q * a + r = u) (hlt : u < a * 4294967296 + b) (ht : t < 4294967296) (hT : T * (a * 4294967296 + b) ≤ u * 4294967296 + t)
    (hc : 4294967296 ≤ q ∨ r * 4294967296 + t < q * b) : T < q := by
  by_cases h : T < q
  · exact h
  · have h1 := Nat.mul_le_mul (Nat.le_of_not_lt h) (Nat.le_refl (a * 4294967296 + b))
    rcases hc with h2 | h2
    · have h3 := Nat.mul_le_mul h2 (Nat.le_refl (a * 4294967296 + b))
      omega
    · rw [Nat.mul_add q, ← Nat.mul_assoc] at h1
      generalize q * a = x at *
      generalize q * b = z at *
      omega
theorem kn_stop {q r u t a b T : Nat} (hq : q * a + r = u) (hc : q * b ≤ r * 4294967296 + t) (hT : u * 4294967296 + t < (T + 1) * (a * 4294967296 + b)) (h : T ≤ q) : q = T := by
  have h1 : q * (a * 4294967296 + b) < (T + 1) * (a * 4294967296 + b) := by
    refine Nat.lt_of_le_of_lt ?_ hT
    rw [Nat.mul_add q, ← Nat.mul_assoc]
    generalize q * a = x at *
    generalize q * b = z at *
    omega
  have := Nat.lt_of_mul_lt_mul_right h1
  omega
theorem kn_break {q r u t a b : Nat} (hq : q * a + r = u) (hlt : u < a * 4294967296 + b) (hb : b < 4294967296) (hr : 4294967296 ≤ r) : q * b ≤ r * 4294967296 + t := by
  have h1 : q < 4294967296 := by
    by_cases h : q < 4294967296
    · exact h
    · have := Nat.mul_le_mul (Nat.le_of_not_lt h) (Nat.le_refl a)
      omega
  have h2 := Nat.mul_le_mul (Nat.le_of_lt h1) (Nat.le_of_lt hb)
  omega
theorem lz64_any (x : Nat) (hx : x ≤ 18446744073709551615) (w : World) :
    Calls Tryz.prog 90 #[.int .u64 x] w fun e w' => e = .returned (.int .i64 ((64 - blen x : Nat) : Int)) ∧ w' = w := by
  have r2 := fun w => len64_any x (by omega) w
  rw [bitLen_eq x hx] at r2
  have hb : blen x ≤ 64 := blen_le.2 (by omega)
  generalize blen x = L at *
  refine cps fun Q hQ => ?_
  go_enter Tryz.func90, Tryz.ntmps90
  go_wp2_with (go_at_call 110; refine (r2 _).mono ?_; rintro e w' ⟨rfl, hw⟩; rw [hw]; clear hw w')
  exact hQ.out _ _ ⟨ret_i (by omega), rfl⟩
set_option maxHeartbeats 2000000 in
set_option maxRecDepth 100000 in
theorem div64_any (hi lo y : Nat) (hh : hi < y) (hl : lo ≤ 18446744073709551615) (hy : y ≤ 18446744073709551615) (w : World) :
    Calls Tryz.prog 107 #[.int .u64 hi, .int .u64 lo, .int .u64 y] w fun e w' => (∃ q r : Nat, e = .returned (.tuple #[.int .u64 q, .int .u64 r]) ∧ q = (hi * 18446744073709551616 + lo) / y ∧ r = (hi * 18446744073709551616 + lo) % y) ∧ ∃ n, w' = w.drewN n := by
  refine cps fun Q hQ => ?_
  by_cases h0 : hi = 0
  · subst h0
    have e1 : (0 * 18446744073709551616 + lo) / y = lo / y := by rw [Nat.zero_mul, Nat.zero_add]
    have e2 : (0 * 18446744073709551616 + lo) % y = lo % y := by rw [Nat.zero_mul, Nat.zero_add]
    rw [e1, e2] at hQ
    have h1 : lo / y ≤ lo := Nat.div_le_self _ _
    have h2 : lo % y < y := Nat.mod_lt _ (by omega)
    clear e1 e2
    have h3 : ¬ ((y : Int) = 0) := by omega
    obtain ⟨d, hd⟩ : ∃ d, d = lo / y := ⟨_, rfl⟩
    obtain ⟨m, hm⟩ : ∃ d, d = lo % y := ⟨_, rfl⟩
    have h4 : (lo : Int) / y = d := by rw [hd]; exact (Int.natCast_ediv lo y).symm
    have h5 : (lo : Int) % y = m := by rw [hm]; exact (Int.natCast_emod lo y).symm
    have h6 : IntKind.u64.wrap (d : Int) = d := wrapU d (by omega)
    rw [← hd, ← hm] at hQ
    clear hd hm h1 h2
    go_enter Tryz.func107, Tryz.ntmps107
    go_wp2
    go_region
    all_goals
      go_wp2
      exact hQ.out _ _ ⟨⟨d, m, (by rw [← h5]; rfl), rfl, rfl⟩, 1, rfl⟩
  · obtain ⟨s, hs⟩ : ∃ s, s = 64 - blen y := ⟨_, rfl⟩
    have k1 := fun w => lz64_any y (by omega) w
    rw [← hs] at k1
    have hb : blen y ≤ 64 := blen_le.2 (by omega)
    have hb0 : ¬ blen y ≤ 0 := fun h => by have := blen_le.1 h; omega
    have hb1 : ¬ y < 2 ^ (blen y - 1) := fun h => by have := blen_le.2 h; omega
    have hb2 : y < 2 ^ blen y := blen_le.1 (Nat.le_refl _)
    have hs1 : s < 64 := by omega
    obtain ⟨P, hP⟩ : ∃ P, P = 2 ^ s := ⟨_, rfl⟩
    have e1 : 2 ^ blen y * P = 2 ^ 64 := by rw [hP, ← Nat.pow_add]; congr 1; omega
    have e2 : 2 ^ (blen y - 1) * P = 2 ^ 63 := by rw [hP, ← Nat.pow_add]; congr 1; omega
    have p0 : 0 < P := by rw [hP]; exact Nat.pow_pos (by decide)
    have y1 : y * P < 2 ^ 64 := by rw [← e1]; exact Nat.mul_lt_mul_of_pos_right hb2 p0
    have y2 : 2 ^ 63 ≤ y * P := by rw [← e2]; exact Nat.mul_le_mul_right _ (Nat.le_of_not_lt hb1)
    clear e1 e2 hb hb0 hb1 hb2 hs
    obtain ⟨Y, hY⟩ : ∃ Y, Y = y * P := ⟨_, rfl⟩
    rw [← hY] at y1 y2
    have v1 : IntKind.u64.wrap ((y : Int) * 2 ^ s) = (Y : Int) := by
      rw [show ((y : Int) * 2 ^ s) = ((y * P : Nat) : Int) by rw [hP]; simp, ← hY]; exact wrapU Y (by omega)
    obtain ⟨a, ha⟩ : ∃ a, a = Y / 4294967296 := ⟨_, rfl⟩
    obtain ⟨b, hb⟩ : ∃ b, b = Y % 4294967296 := ⟨_, rfl⟩
    have v2 : (Y : Int) / 4294967296 = a := by omega
    have v3 := maskN Y (by omega)
    rw [← hb] at v3
    have a0 : 0 < a := by omega
    have a1 : a < 4294967296 := by omega
    have b1 : b < 4294967296 := by omega
    have ut := up_near hi lo s (by omega) (by omega) hs1
    have v4 := wrapShl hi s
    have v5 := shrN lo (64 - s)
    have v6 := u64_or_nat ((hi <<< s) % 2 ^ 64) (lo >>> (64 - s)) (Nat.mod_lt _ (by decide)) (Nat.lt_of_le_of_lt (Nat.shiftRight_le _ _) (by omega))
    have v7 := wrapShl lo s
    have hU : (hi * 18446744073709551616 + lo) * P < y * P * 18446744073709551616 := by
      have h1 : hi * 18446744073709551616 + lo < y * 18446744073709551616 := by omega
      have h2 := Nat.mul_lt_mul_of_pos_right h1 p0
      rw [Nat.mul_right_comm] at h2
      exact h2
    rw [← hY] at hU
    rw [← hP, Nat.mod_eq_of_lt (by omega)] at ut
    obtain ⟨X1, hX1⟩ : ∃ X, X = (hi <<< s) % 2 ^ 64 := ⟨_, rfl⟩
    obtain ⟨X2, hX2⟩ : ∃ X, X = lo >>> (64 - s) := ⟨_, rfl⟩
    rw [← hX1] at v4 v6 ut
    rw [← hX2] at v5 v6 ut
    obtain ⟨u, hu⟩ : ∃ X, X = X1 ||| X2 := ⟨_, rfl⟩
    obtain ⟨z, hz⟩ : ∃ X, X = (lo <<< s) % 2 ^ 64 := ⟨_, rfl⟩
    rw [← hu] at v6 ut
    rw [← hz] at v7 ut
    obtain ⟨ue, u1, z1⟩ := ut
    clear hX1 hX2 hu hz
    generalize hUP : (hi * 18446744073709551616 + lo) * P = UP at *
    have huY : u < Y := by omega
    obtain ⟨t1, ht1⟩ : ∃ X, X = z / 4294967296 := ⟨_, rfl⟩
    obtain ⟨t0, ht0⟩ : ∃ X, X = z % 4294967296 := ⟨_, rfl⟩
    have v8 : (z : Int) / 4294967296 = t1 := by omega
    have v9 := maskN z (by omega)
    rw [← ht0] at v9
    have hab : Y = a * 4294967296 + b := by omega
    obtain ⟨g, hg⟩ : ∃ X, X = u / a := ⟨_, rfl⟩
    have hg2 : g * a + u % a = u := by rw [hg]; exact Nat.div_add_mod' u a
    have hg3 : u % a < a := Nat.mod_lt _ a0
    obtain ⟨r0, hr0⟩ : ∃ X, X = u % a := ⟨_, rfl⟩
    rw [← hr0] at hg2 hg3
    have v10 : (u : Int).tdiv a = g := by rw [hg]; rfl
    have hgu : g ≤ u := by rw [hg]; exact Nat.div_le_self _ _
    have v11 := wrapU g (by omega)
    obtain ⟨m, hm⟩ : ∃ X, X = g * a := ⟨_, rfl⟩
    have v12 : IntKind.u64.wrap ((g : Int) * a) = m := by rw [mulN, ← hm]; exact wrapU m (by omega)
    have v13 : IntKind.u64.wrap ((u : Int) - m) = r0 := by rw [show (u : Int) - m = r0 by omega]; exact wrapU r0 (by omega)
    have hT1 := Nat.div_add_mod' (u * 4294967296 + t1) Y
    have hT2 := Nat.mod_lt (u * 4294967296 + t1) (show 0 < Y by omega)
    obtain ⟨T1, eT1⟩ : ∃ X, X = (u * 4294967296 + t1) / Y := ⟨_, rfl⟩
    obtain ⟨R1, eR1⟩ : ∃ X, X = (u * 4294967296 + t1) % Y := ⟨_, rfl⟩
    rw [← eT1, ← eR1] at hT1
    rw [← eR1] at hT2
    have HY : Hid (Y = y * P ∧ P = 2 ^ s ∧ Y < 2 ^ 64 ∧ 2 ^ 63 ≤ Y ∧ Y = a * 4294967296 + b ∧ 0 < P) := ⟨hY, hP, y1, y2, hab, p0⟩
    have HU : Hid ((hi * 18446744073709551616 + lo) * P = u * 18446744073709551616 + z ∧ z = t1 * 4294967296 + t0 ∧ u < Y) := ⟨by omega, by omega, huY⟩
    have HT : Hid (T1 * Y + R1 = u * 4294967296 + t1 ∧ R1 < Y) := ⟨hT1, hT2⟩
    have HV : Hid (T1 * Y ≤ u * 4294967296 + t1 ∧ u * 4294967296 + t1 < T1 * Y + Y ∧ u < Y) := ⟨by omega, by omega, huY⟩
    have u64 : u ≤ 18446744073709551615 := u1
    have HG : Hid (g = u / a ∧ g * a + r0 = u ∧ r0 < a) := ⟨hg, by omega, hg3⟩
    have t1b : t1 < 4294967296 := by omega
    have t0b : t0 < 4294967296 := by omega
    clear hY hP y1 y2 ha hb ue u1 z1 huY ht1 ht0 hab hg hg2 hg3 hr0 hgu hm hT1 hT2 eT1 eR1 p0 hUP hU
    go_enter Tryz.func107, Tryz.ntmps107
    go_upto_block 0 with (go_at_call 90; refine (k1 _).mono ?_; rintro e w' ⟨rfl, hw⟩; rw [hw]; clear hw w')
    go_cut [15, 16] from 67 (fun s15 s16 wx => s15 = .int .u64 T1 ∧ (∃ r : Nat, s16 = .int .u64 r) ∧ wx = w)
    case first =>
      go_wp2_with fail
      go_loopw [15, 16] (fun s15 s16 wr => ∃ q r : Nat, s15 = .int .u64 q ∧ s16 = .int .u64 r ∧ wr = w ∧ Hid (T1 ≤ q ∧ q * a + r = u ∧ r < 4294967296)) (fun q _ _ => (intOf q).toNat)
      case atStart =>
        exact ⟨g, r0, rfl, rfl, rfl, (by
          obtain ⟨y1, y2, y3, y4, y5, y6⟩ := HY.out
          obtain ⟨g1, g2, g3⟩ := HG.out
          obtain ⟨c1, c2⟩ := HT.out
          refine ⟨?_, g2, by omega⟩
          rw [g1]
          exact kn_up a0 t1b (by rw [← y5]; omega))⟩
      case round =>
        obtain ⟨q, r, rfl, rfl, rfl, hr⟩ := hrel
        have q64 : q < 18446744073709551616 := by
          obtain ⟨e1, e2, e3⟩ := hr.out
          have := u64
          have := Nat.mul_le_mul (Nat.le_refl q) (show 1 ≤ a by omega)
          omega
        have r64 : r < 4294967296 := hr.out.2.2
        have w1 : 1 ≤ q → IntKind.u64.wrap ((q : Int) - 1) = ((q - 1 : Nat) : Int) := fun h => by rw [show (q : Int) - 1 = ((q - 1 : Nat) : Int) by omega]; exact wrapU _ (by omega)
        have w2 : IntKind.u64.wrap ((r : Int) + a) = ((r + a : Nat) : Int) := by rw [addN]; exact wrapU _ (by omega)
        obtain ⟨q', hq'⟩ : ∃ x, x = q - 1 := ⟨_, rfl⟩
        obtain ⟨r', hr'⟩ : ∃ x, x = r + a := ⟨_, rfl⟩
        rw [← hq'] at w1
        rw [← hr'] at w2
        have HE : Hid (q' = q - 1 ∧ r' = r + a) := ⟨hq', hr'⟩
        -- what holds behind one step down
        have down : Hid ((4294967296 ≤ q ∨ r * 4294967296 + t1 < q * b) → 1 ≤ q ∧ T1 ≤ q' ∧ q' * a + r' = u) := fun h => by
          obtain ⟨e1, e2, e3⟩ := hr.out
          obtain ⟨y1, y2, y3, y4, y5, y6⟩ := HY.out
          obtain ⟨k1, k2, k3⟩ := HV.out
          have g := kn_more (T := T1) e2 (by rw [← y5]; exact k3) t1b (by rw [← y5]; omega) h
          obtain ⟨i, rfl⟩ : ∃ i, q = i + 1 := ⟨q - 1, by omega⟩
          have e4 : q' = i := by omega
          subst e4
          refine ⟨by omega, by omega, ?_⟩
          rw [← e2, Nat.add_mul, Nat.one_mul]; omega
        have stop : Hid (∀ q r : Nat, T1 ≤ q → q * a + r = u → q * b ≤ r * 4294967296 + t1 → q = T1) := fun q r e1 e2 e3 => by
          obtain ⟨y1, y2, y3, y4, y5, y6⟩ := HY.out
          obtain ⟨k1, k2, k3⟩ := HV.out
          exact kn_stop e2 e3 (by rw [← y5, Nat.add_mul, Nat.one_mul]; omega) e1
        have last : Hid (4294967296 ≤ r' → T1 ≤ q' → q' * a + r' = u → q' = T1) := fun h1 h2 h3 => by
          obtain ⟨y1, y2, y3, y4, y5, y6⟩ := HY.out
          obtain ⟨k1, k2, k3⟩ := HV.out
          exact stop.out q' r' h2 h3 (kn_break h3 (by rw [← y5]; exact k3) b1 h1)
        clear hq' hr'
        by_cases c1 : 4294967296 ≤ q
        · have o1 : decide ((4294967296 : Int) ≤ (q : Int)) = true := decide_eq_true (by omega)
          obtain ⟨d1, d2, d3⟩ := down.out (.inl c1)
          have w1 := w1 d1
          have HD : Hid (T1 ≤ q' ∧ q' * a + r' = u) := ⟨d2, d3⟩
          clear d2 d3
          by_cases c3 : 4294967296 ≤ r'
          · have o3 : decide ((4294967296 : Int) ≤ (r' : Int)) = true := decide_eq_true (by omega)
            have fin : q' = T1 := last.out c3 HD.out.1 HD.out.2
            subst fin
            go_wp2
            go_meet
            case rel => exact ⟨rfl, ⟨_, rfl⟩, rfl⟩
          · have o3 : decide ((4294967296 : Int) ≤ (r' : Int)) = false := decide_eq_false (by omega)
            go_wp2
            go_roundw
            case measure => simp [intOf]; have := HE.out; omega
            case rel => exact ⟨q', r', rfl, rfl, (by first | rfl | trivial), ⟨HD.out.1, HD.out.2, by omega⟩⟩
        · have o1 : decide ((4294967296 : Int) ≤ (q : Int)) = false := decide_eq_false (by omega)
          have m0 : q * b < 18446744073709551616 := by
            have := Nat.mul_le_mul (show q ≤ 4294967295 by omega) (show b ≤ 4294967295 by omega); omega
          have n1 : IntKind.u64.wrap ((q : Int) * b) = ((q * b : Nat) : Int) := by rw [mulN]; exact wrapU _ m0
          obtain ⟨n, hn⟩ : ∃ x, x = q * b := ⟨_, rfl⟩
          rw [← hn] at n1
          obtain ⟨k, hk⟩ : ∃ x, x = r * 4294967296 := ⟨_, rfl⟩
          have n2 : IntKind.u64.wrap (4294967296 * (r : Int)) = (k : Int) := by rw [show 4294967296 * (r : Int) = (k : Int) by omega]; exact wrapU _ (by omega)
          have n3 : IntKind.u64.wrap ((k : Int) + t1) = ((k + t1 : Nat) : Int) := by rw [addN]; exact wrapU _ (by omega)
          obtain ⟨v, hv⟩ : ∃ x, x = k + t1 := ⟨_, rfl⟩
          rw [← hv] at n3
          have HN : Hid (n = q * b ∧ v = r * 4294967296 + t1) := ⟨hn, by omega⟩
          clear hn hk hv m0
          by_cases c2 : v < n
          · have o2 : decide ((v : Int) < (n : Int)) = true := decide_eq_true (by omega)
            obtain ⟨d1, d2, d3⟩ := down.out (.inr (by have := HN.out; omega))
            have w1 := w1 d1
            have HD : Hid (T1 ≤ q' ∧ q' * a + r' = u) := ⟨d2, d3⟩
            clear d2 d3
            by_cases c3 : 4294967296 ≤ r'
            · have o3 : decide ((4294967296 : Int) ≤ (r' : Int)) = true := decide_eq_true (by omega)
              have fin : q' = T1 := last.out c3 HD.out.1 HD.out.2
              subst fin
              go_wp2
              go_meet
              case rel => exact ⟨rfl, ⟨_, rfl⟩, rfl⟩
            · have o3 : decide ((4294967296 : Int) ≤ (r' : Int)) = false := decide_eq_false (by omega)
              go_wp2
              go_roundw
              case measure => simp [intOf]; have := HE.out; omega
              case rel => exact ⟨q', r', rfl, rfl, (by first | rfl | trivial), ⟨HD.out.1, HD.out.2, by omega⟩⟩
          · have o2 : decide ((v : Int) < (n : Int)) = false := decide_eq_false (by omega)
            have fin : q = T1 := stop.out q r hr.out.1 hr.out.2.1 (by have := HN.out; omega)
            subst fin
            go_wp2
            go_meet
            case rel => exact ⟨rfl, ⟨_, rfl⟩, rfl⟩
    case rest =>
      obtain ⟨rfl, ⟨r, rfl⟩, hwc⟩ := hcut; rw [hwc]; clear hwc wc
      have hT0 := Nat.div_add_mod' (R1 * 4294967296 + t0) Y
      have hY0 : 0 < Y := by obtain ⟨y1, y2, y3, y4, y5, y6⟩ := HY.out; omega
      have hT3 := Nat.mod_lt (R1 * 4294967296 + t0) hY0
      obtain ⟨T0, eT0⟩ : ∃ X, X = (R1 * 4294967296 + t0) / Y := ⟨_, rfl⟩
      obtain ⟨R0, eR0⟩ : ∃ X, X = (R1 * 4294967296 + t0) % Y := ⟨_, rfl⟩
      rw [← eT0, ← eR0] at hT0
      rw [← eR0] at hT3
      obtain ⟨ht1, ht2⟩ := HT.out
      obtain ⟨y1, y2, y3, y4, y5, y6⟩ := HY.out
      obtain ⟨c1, c2, c3⟩ := HU.out
      have lt32 : ∀ T u t R : Nat, T * Y + R = u * 4294967296 + t → u < Y → t < 4294967296 → T < 4294967296 := fun T u t R h1 h2 h3 => by
        by_cases h : T < 4294967296
        · exact h
        · have := Nat.mul_le_mul (Nat.le_of_not_lt h) (Nat.le_refl Y)
          omega
      have hT1b := lt32 T1 u t1 R1 ht1 c3 t1b
      have hT0b := lt32 T0 R1 t0 R0 hT0 ht2 t0b
      clear lt32
      -- what the code reckons
      obtain ⟨A1, eA1⟩ : ∃ X, X = u * 4294967296 % 18446744073709551616 := ⟨_, rfl⟩
      have x1 : IntKind.u64.wrap ((u : Int) * 4294967296) = A1 := by rw [IntKind.wrap_u64]; omega
      obtain ⟨A2, eA2⟩ : ∃ X, X = (A1 + t1) % 18446744073709551616 := ⟨_, rfl⟩
      have x2 : IntKind.u64.wrap ((A1 : Int) + t1) = A2 := by rw [IntKind.wrap_u64]; omega
      obtain ⟨A3, eA3⟩ : ∃ X, X = T1 * Y % 18446744073709551616 := ⟨_, rfl⟩
      have x3 : IntKind.u64.wrap ((T1 : Int) * Y) = A3 := by rw [mulN, wrapM, ← eA3]
      have x4 : IntKind.u64.wrap ((A2 : Int) - A3) = R1 := by
        generalize T1 * Y = Z at *
        rw [IntKind.wrap_u64]; omega
      obtain ⟨g0, hg⟩ : ∃ X, X = R1 / a := ⟨_, rfl⟩
      have hg2 : g0 * a + R1 % a = R1 := by rw [hg]; exact Nat.div_add_mod' R1 a
      have hg3 : R1 % a < a := Nat.mod_lt _ a0
      obtain ⟨r1, hr1⟩ : ∃ X, X = R1 % a := ⟨_, rfl⟩
      rw [← hr1] at hg2 hg3
      have x5 : (R1 : Int).tdiv a = g0 := by rw [hg]; rfl
      have hgu : g0 ≤ R1 := by rw [hg]; exact Nat.div_le_self _ _
      have x6 := wrapU g0 (by omega)
      obtain ⟨m0, hm⟩ : ∃ X, X = g0 * a := ⟨_, rfl⟩
      have x7 : IntKind.u64.wrap ((g0 : Int) * a) = m0 := by rw [mulN, ← hm]; exact wrapU m0 (by omega)
      have x8 : IntKind.u64.wrap ((R1 : Int) - m0) = r1 := by rw [show (R1 : Int) - m0 = r1 by omega]; exact wrapU r1 (by omega)
      obtain ⟨B1, eB1⟩ : ∃ X, X = T1 * 4294967296 := ⟨_, rfl⟩
      have x9 : IntKind.u64.wrap ((T1 : Int) * 4294967296) = B1 := by rw [IntKind.wrap_u64]; omega
      obtain ⟨qq, eqq⟩ : ∃ X, X = B1 + T0 := ⟨_, rfl⟩
      have x10 : IntKind.u64.wrap ((B1 : Int) + T0) = qq := by rw [IntKind.wrap_u64]; omega
      obtain ⟨C1, eC1⟩ : ∃ X, X = R1 * 4294967296 % 18446744073709551616 := ⟨_, rfl⟩
      have x11 : IntKind.u64.wrap ((R1 : Int) * 4294967296) = C1 := by rw [IntKind.wrap_u64]; omega
      obtain ⟨C2, eC2⟩ : ∃ X, X = (C1 + t0) % 18446744073709551616 := ⟨_, rfl⟩
      have x12 : IntKind.u64.wrap ((C1 : Int) + t0) = C2 := by rw [IntKind.wrap_u64]; omega
      obtain ⟨C3, eC3⟩ : ∃ X, X = T0 * Y % 18446744073709551616 := ⟨_, rfl⟩
      have x13 : IntKind.u64.wrap ((T0 : Int) * Y) = C3 := by rw [mulN, wrapM, ← eC3]
      have x14 : IntKind.u64.wrap ((C2 : Int) - C3) = R0 := by
        generalize T0 * Y = Z at *
        rw [IntKind.wrap_u64]; omega
      obtain ⟨rr, err⟩ : ∃ X, X = R0 / P := ⟨_, rfl⟩
      have x15 : (R0 : Int) / 2 ^ s = rr := by rw [err, y2]; simp
      have HW : Hid (T0 * Y ≤ R1 * 4294967296 + t0 ∧ R1 * 4294967296 + t0 < T0 * Y + Y ∧ R1 < Y) := ⟨by omega, by omega, ht2⟩
      have R164 : R1 ≤ 18446744073709551615 := by omega
      have HG0 : Hid (g0 = R1 / a ∧ g0 * a + r1 = R1 ∧ r1 < a) := ⟨hg, by omega, hg3⟩
      have HF : Hid (qq = (hi * 18446744073709551616 + lo) / y ∧ rr = (hi * 18446744073709551616 + lo) % y) := by
        have e0 : (hi * 18446744073709551616 + lo) * P = qq * Y + R0 := by
          rw [c1, eqq, eB1, Nat.add_mul, Nat.mul_right_comm]
          generalize T1 * Y = Z1 at *
          generalize T0 * Y = Z0 at *
          omega
        constructor
        · rw [← Nat.mul_div_mul_right _ y y6, e0, ← y1, Nat.add_comm, Nat.add_mul_div_right _ _ hY0, Nat.div_eq_of_lt hT3, Nat.zero_add]
        · have e2 := Nat.mul_mod_mul_right P (hi * 18446744073709551616 + lo) y
          rw [e0, ← y1, Nat.add_comm, Nat.add_mul_mod_self_right, Nat.mod_eq_of_lt hT3] at e2
          rw [err, e2, Nat.mul_div_cancel _ y6]
      clear hT0 hT3 eT0 eR0 ht1 ht2 y1 y2 y3 y4 y5 y6 c1 c2 c3 hT1b hT0b eA1 eA2 eA3 hg hg2 hg3 hr1 hgu hm eB1 eqq eC1 eC2 eC3 err hY0
      clear v1 v2 v3 v4 v5 v6 v7 v8 v9 v10 v11 v12 v13
      go_upto_block 2 with fail
      go_cut [18, 16] from 102 (fun s15 s16 wx => s15 = .int .u64 T0 ∧ (∃ r : Nat, s16 = .int .u64 r) ∧ wx = w)
      case first =>
        go_wp2_with fail
        go_loopw [18, 16] (fun s15 s16 wr => ∃ q r : Nat, s15 = .int .u64 q ∧ s16 = .int .u64 r ∧ wr = w ∧ Hid (T0 ≤ q ∧ q * a + r = R1 ∧ r < 4294967296)) (fun q _ _ => (intOf q).toNat)
        case atStart =>
          exact ⟨g0, r1, rfl, rfl, rfl, (by
            obtain ⟨y1, y2, y3, y4, y5, y6⟩ := HY.out
            obtain ⟨g1, g2, g3⟩ := HG0.out
            obtain ⟨c1, c2, c3⟩ := HW.out
            refine ⟨?_, g2, by omega⟩
            rw [g1]
            exact kn_up a0 t0b (by rw [← y5]; omega))⟩
        case round =>
          obtain ⟨q, r, rfl, rfl, rfl, hr⟩ := hrel
          have q64 : q < 18446744073709551616 := by
            obtain ⟨e1, e2, e3⟩ := hr.out
            have := R164
            have := Nat.mul_le_mul (Nat.le_refl q) (show 1 ≤ a by omega)
            omega
          have r64 : r < 4294967296 := hr.out.2.2
          have w1 : 1 ≤ q → IntKind.u64.wrap ((q : Int) - 1) = ((q - 1 : Nat) : Int) := fun h => by rw [show (q : Int) - 1 = ((q - 1 : Nat) : Int) by omega]; exact wrapU _ (by omega)
          have w2 : IntKind.u64.wrap ((r : Int) + a) = ((r + a : Nat) : Int) := by rw [addN]; exact wrapU _ (by omega)
          obtain ⟨q', hq'⟩ : ∃ x, x = q - 1 := ⟨_, rfl⟩
          obtain ⟨r', hr'⟩ : ∃ x, x = r + a := ⟨_, rfl⟩
          rw [← hq'] at w1
          rw [← hr'] at w2
          have HE : Hid (q' = q - 1 ∧ r' = r + a) := ⟨hq', hr'⟩
          -- what holds behind one step down
          have down : Hid ((4294967296 ≤ q ∨ r * 4294967296 + t0 < q * b) → 1 ≤ q ∧ T0 ≤ q' ∧ q' * a + r' = R1) := fun h => by
            obtain ⟨e1, e2, e3⟩ := hr.out
            obtain ⟨y1, y2, y3, y4, y5, y6⟩ := HY.out
            obtain ⟨k1, k2, k3⟩ := HW.out
            have g := kn_more (T := T0) e2 (by rw [← y5]; exact k3) t0b (by rw [← y5]; omega) h
            obtain ⟨i, rfl⟩ : ∃ i, q = i + 1 := ⟨q - 1, by omega⟩
            have e4 : q' = i := by omega
            subst e4
            refine ⟨by omega, by omega, ?_⟩
            rw [← e2, Nat.add_mul, Nat.one_mul]; omega
          have stop : Hid (∀ q r : Nat, T0 ≤ q → q * a + r = R1 → q * b ≤ r * 4294967296 + t0 → q = T0) := fun q r e1 e2 e3 => by
            obtain ⟨y1, y2, y3, y4, y5, y6⟩ := HY.out
            obtain ⟨k1, k2, k3⟩ := HW.out
            exact kn_stop e2 e3 (by rw [← y5, Nat.add_mul, Nat.one_mul]; omega) e1
          have last : Hid (4294967296 ≤ r' → T0 ≤ q' → q' * a + r' = R1 → q' = T0) := fun h1 h2 h3 => by
            obtain ⟨y1, y2, y3, y4, y5, y6⟩ := HY.out
            obtain ⟨k1, k2, k3⟩ := HW.out
            exact stop.out q' r' h2 h3 (kn_break h3 (by rw [← y5]; exact k3) b1 h1)
          clear hq' hr'
          by_cases c1 : 4294967296 ≤ q
          · have o1 : decide ((4294967296 : Int) ≤ (q : Int)) = true := decide_eq_true (by omega)
            obtain ⟨d1, d2, d3⟩ := down.out (.inl c1)
            have w1 := w1 d1
            have HD : Hid (T0 ≤ q' ∧ q' * a + r' = R1) := ⟨d2, d3⟩
            clear d2 d3
            by_cases c3 : 4294967296 ≤ r'
            · have o3 : decide ((4294967296 : Int) ≤ (r' : Int)) = true := decide_eq_true (by omega)
              have fin : q' = T0 := last.out c3 HD.out.1 HD.out.2
              subst fin
              go_wp2
              go_meet
              case rel => exact ⟨rfl, ⟨_, rfl⟩, rfl⟩
            · have o3 : decide ((4294967296 : Int) ≤ (r' : Int)) = false := decide_eq_false (by omega)
              go_wp2
              go_roundw
              case measure => simp [intOf]; have := HE.out; omega
              case rel => exact ⟨q', r', rfl, rfl, (by first | rfl | trivial), ⟨HD.out.1, HD.out.2, by omega⟩⟩
          · have o1 : decide ((4294967296 : Int) ≤ (q : Int)) = false := decide_eq_false (by omega)
            have m0 : q * b < 18446744073709551616 := by
              have := Nat.mul_le_mul (show q ≤ 4294967295 by omega) (show b ≤ 4294967295 by omega); omega
            have n1 : IntKind.u64.wrap ((q : Int) * b) = ((q * b : Nat) : Int) := by rw [mulN]; exact wrapU _ m0
            obtain ⟨n, hn⟩ : ∃ x, x = q * b := ⟨_, rfl⟩
            rw [← hn] at n1
            obtain ⟨k, hk⟩ : ∃ x, x = r * 4294967296 := ⟨_, rfl⟩
            have n2 : IntKind.u64.wrap (4294967296 * (r : Int)) = (k : Int) := by rw [show 4294967296 * (r : Int) = (k : Int) by omega]; exact wrapU _ (by omega)
            have n3 : IntKind.u64.wrap ((k : Int) + t0) = ((k + t0 : Nat) : Int) := by rw [addN]; exact wrapU _ (by omega)
            obtain ⟨v, hv⟩ : ∃ x, x = k + t0 := ⟨_, rfl⟩
            rw [← hv] at n3
            have HN : Hid (n = q * b ∧ v = r * 4294967296 + t0) := ⟨hn, by omega⟩
            clear hn hk hv m0
            by_cases c2 : v < n
            · have o2 : decide ((v : Int) < (n : Int)) = true := decide_eq_true (by omega)
              obtain ⟨d1, d2, d3⟩ := down.out (.inr (by have := HN.out; omega))
              have w1 := w1 d1
              have HD : Hid (T0 ≤ q' ∧ q' * a + r' = R1) := ⟨d2, d3⟩
              clear d2 d3
              by_cases c3 : 4294967296 ≤ r'
              · have o3 : decide ((4294967296 : Int) ≤ (r' : Int)) = true := decide_eq_true (by omega)
                have fin : q' = T0 := last.out c3 HD.out.1 HD.out.2
                subst fin
                go_wp2
                go_meet
                case rel => exact ⟨rfl, ⟨_, rfl⟩, rfl⟩
              · have o3 : decide ((4294967296 : Int) ≤ (r' : Int)) = false := decide_eq_false (by omega)
                go_wp2
                go_roundw
                case measure => simp [intOf]; have := HE.out; omega
                case rel => exact ⟨q', r', rfl, rfl, (by first | rfl | trivial), ⟨HD.out.1, HD.out.2, by omega⟩⟩
            · have o2 : decide ((v : Int) < (n : Int)) = false := decide_eq_false (by omega)
              have fin : q = T0 := stop.out q r hr.out.1 hr.out.2.1 (by have := HN.out; omega)
              subst fin
              go_wp2
              go_meet
              case rel => exact ⟨rfl, ⟨_, rfl⟩, rfl⟩
      case rest =>
        obtain ⟨rfl, ⟨r, rfl⟩, hwc⟩ := hcut; rw [hwc]; clear hwc wc
        go_wp2
        exact hQ.out _ _ ⟨⟨qq, rr, rfl, HF.out.1, HF.out.2⟩, 0, rfl⟩
end Go.Proofs.YtheliihkkoohnabGreat

namespace Go.Proofs.YtheliihkkoohnabGreat
set_option maxRecDepth 100000
open Go.ChangeShapes Go.WideShapes Go.ChangeAt Go.RowKit
set_option linter.unusedVariables false

theorem div64_q {a hi lo y q r : Nat} (ha : a = hi * 18446744073709551616 + lo) (hh : hi < y) (hl : lo ≤ 18446744073709551615) (hy : y ≤ 18446744073709551615) (hq : q = a / y) (hr : r = a % y) (w : World) :
    Calls Tryz.prog 107 #[.int .u64 hi, .int .u64 lo, .int .u64 y] w fun e w' => e = .returned (.tuple #[.int .u64 q, .int .u64 r]) ∧ ∃ n, w' = w.drewN n := by
  refine (div64_any hi lo y hh hl hy w).mono ?_
  rintro e w' ⟨⟨q', r', rfl, h1, h2⟩, hw⟩
  refine ⟨?_, hw⟩
  rw [h1, h2, hq, hr, ha]
theorem pdiv_any {a h1 l1 d q r : Nat} (ha : Tw a h1 l1) (hd : d ≤ 18446744073709551615) (hb : h1 < d) (hq : q = a / d) (hr : r = a % d) (w : World) :
    Calls Tryz.prog 81 #[.agg #[.int .u64 h1, .int .u64 l1], .int .u64 d] w fun e w' => e = .returned (.tuple #[.int .u64 q, .int .u64 r, .nilIface]) ∧ Below w.heap.size w w' := by
  refine cps fun Q hQ => ?_
  have k1 := fun w => div64_q ha.eq hb ha.lo hd hq hr w
  clear ha hq hr
  go_enter Tryz.func81, Tryz.ntmps81
  go_wp2_with (go_at_call 107; refine (k1 _).mono ?_; rintro e w' ⟨rfl, n, rfl⟩)
  go_ret3
  exact hQ.out _ _ ⟨rfl, bdrewN (bmore (Below.refl _ _) _) _⟩
end Go.Proofs.YtheliihkkoohnabGreat

namespace Go.Proofs.YtheliihkkoohnabGreat
set_option maxRecDepth 100000
open Go.ChangeShapes Go.WideShapes Go.ChangeAt Go.RowKit
set_option linter.unusedVariables false

theorem tw_some {n : Nat} (h : n < 340282366920938463463374607431768211456) : ∃ h l, Tw n h l := ⟨n / 18446744073709551616, n % 18446744073709551616, by omega, by omega, by omega⟩
end Go.Proofs.YtheliihkkoohnabGreat

namespace Go.Proofs.YtheliihkkoohnabGreat
set_option maxRecDepth 100000
open Go.ChangeShapes Go.WideShapes Go.ChangeAt Go.RowKit
set_option linter.unusedVariables false

end Go.Proofs.YtheliihkkoohnabGreat

namespace Go.Proofs.YtheliihkkoohnabGreat
set_option maxRecDepth 100000
open Go.ChangeShapes Go.WideShapes Go.ChangeAt Go.RowKit
set_option linter.unusedVariables false

theorem sq_lt {r a : Nat} (h : r * r ≤ a) (ha : a < 340282366920938463463374607431768211456) : r < 18446744073709551616 := by
  by_cases g : r < 18446744073709551616
  · exact g
  · have := Nat.mul_le_mul (show 18446744073709551616 ≤ r by omega) (show 18446744073709551616 ≤ r by omega)
    omega
theorem sq_one {r s a : Nat} (h1 : r * r ≤ a) (h2 : a < (r + 1) * (r + 1)) (h3 : s * s ≤ a) (h4 : a < (s + 1) * (s + 1)) : r = s := by
  rcases Nat.lt_trichotomy r s with g | g | g
  · have := Nat.mul_le_mul (show r + 1 ≤ s by omega) (show r + 1 ≤ s by omega); omega
  · exact g
  · have := Nat.mul_le_mul (show s + 1 ≤ r by omega) (show s + 1 ≤ r by omega); omega
end Go.Proofs.YtheliihkkoohnabGreat

namespace Go.Proofs.YtheliihkkoohnabGreat
set_option maxRecDepth 100000
open Go.ChangeShapes Go.WideShapes Go.ChangeAt Go.RowKit
set_option linter.unusedVariables false

theorem or_bit (m i : Nat) : m * 2 ^ (i + 1) ||| 2 ^ i = m * 2 ^ (i + 1) + 2 ^ i := by
  have h := Nat.shiftLeft_add_eq_or_of_lt (a := m) (b := 2 ^ i) (i := i + 1) (Nat.pow_lt_pow_right (by decide) (by omega))
  rw [Nat.shiftLeft_eq] at h
  exact h.symm
theorem or_room {m i : Nat} (hi : i < 64) (h : m * 2 ^ (i + 1) < 18446744073709551616) : m * 2 ^ (i + 1) + 2 ^ i < 18446744073709551616 := by
  have e : 2 ^ (63 - i) * 2 ^ (i + 1) = 18446744073709551616 := by rw [← Nat.pow_add, show 63 - i + (i + 1) = 64 by omega]
  have h1 : m < 2 ^ (63 - i) := by
    by_cases g : m < 2 ^ (63 - i)
    · exact g
    · have := Nat.mul_le_mul_right (2 ^ (i + 1)) (Nat.le_of_not_lt g)
      omega
  have h2 := Nat.mul_le_mul_right (2 ^ (i + 1)) h1
  rw [Nat.succ_mul] at h2
  have h3 : 2 ^ (i + 1) = 2 ^ i * 2 := Nat.pow_succ 2 i
  have h4 : 0 < 2 ^ i := Nat.pow_pos (by decide)
  generalize 2 ^ i = p at *
  generalize 2 ^ (i + 1) = p2 at *
  generalize m * p2 = x at *
  omega
set_option maxHeartbeats 4000000 in
theorem proot_any {a h1 l1 r h l : Nat} (ha : Tw a h1 l1) (hr1 : r * r ≤ a) (hr2 : a < (r + 1) * (r + 1)) (hl : Tw (a - r * r) h l) (w : World) :
    Calls Tryz.prog 82 #[.agg #[.int .u64 h1, .int .u64 l1]] w fun e w' => e = .returned (.tuple #[.int .u64 r, .agg #[.int .u64 h, .int .u64 l]]) ∧ Below w.heap.size w w' := by
  refine cps fun Q hQ => ?_
  have la := ha.lt
  have lr := sq_lt hr1 la
  obtain ⟨h2, l2, t2⟩ := tw_some (n := r * r) (by omega)
  have k1 := fun w => tmul_any (show r ≤ 18446744073709551615 by omega) (show r ≤ 18446744073709551615 by omega) t2 w
  have k2 := fun w => tsub_any (c := false) ha t2 (h := h) (l := l) (by
    rw [show a + 340282366920938463463374607431768211456 - r * r = (a - r * r) + 340282366920938463463374607431768211456 by omega, Nat.add_mod_right, Nat.mod_eq_of_lt (by omega)]
    exact hl) (decide_eq_false (by omega)).symm w
  have HR : Hid (∀ R, R * R ≤ a → a < (R + 1) * (R + 1) → R = r) := fun R x y => sq_one x y hr1 hr2
  have HA : Hid (Tw a h1 l1 ∧ a < 340282366920938463463374607431768211456) := ⟨ha, la⟩
  have HS : Hid (a < (0 + 2 ^ 64) * (0 + 2 ^ 64)) := show _ < _ by omega
  clear ha hr1 hr2 hl la lr t2
  obtain ⟨W, hW⟩ : ∃ W, W = (w.alloc (.cells #[.int .u64 h1, .int .u64 l1] 91)).alloc (.cells #[.int .u64 0, .int .u64 0] 91) := ⟨_, rfl⟩
  have H0 : Below w.heap.size w W := by rw [hW]; exact bmore (bmore (Below.refl _ _) _) _
  have z0 : w.heap.size + 1 < W.heap.size := by rw [hW]; simp
  have z1 : w.heap.size < W.heap.size := by omega
  have cls : ∀ V, Below W.heap.size W V → V.cell? ⟨w.heap.size, 0, none⟩ = some (.int .u64 h1) ∧ V.cell? ⟨w.heap.size, 1, none⟩ = some (.int .u64 l1) := fun V hV => by
    obtain ⟨c, _⟩ := bcell hV
    rw [c _ _ z1, c _ _ z1, hW]
    simp [go_sem]
  have box : ∀ V, Below W.heap.size W V → V.cell? ⟨w.heap.size + 1, 0, none⟩ = some (.int .u64 0) ∧ V.cell? ⟨w.heap.size + 1, 1, none⟩ = some (.int .u64 0) ∧ V.frozen? ⟨w.heap.size + 1, 0, none⟩ = false ∧ V.frozen? ⟨w.heap.size + 1, 1, none⟩ = false := fun V hV => by
    obtain ⟨c, f⟩ := bcell hV
    rw [c _ _ z0, c _ _ z0, f _ _ z0, f _ _ z0, hW]
    simp [go_sem]
  go_enter Tryz.func82, Tryz.ntmps82
  go_wp2
  rw [← hW]
  clear hW
  go_loopw [4, 5] (fun rv kv wr => ∃ R j m : Nat, j ≤ 64 ∧ rv = .int .u64 R ∧ kv = .int .u64 ((2 ^ j / 2 : Nat) : Int) ∧ Hid (R = m * 2 ^ j) ∧ Hid (R * R ≤ a) ∧ Hid (a < (R + 2 ^ j) * (R + 2 ^ j)) ∧ Below W.heap.size W wr) (fun _ kv _ => (intOf kv).toNat)
  case atStart => exact ⟨0, 64, 0, by decide, rfl, rfl, (Nat.zero_mul _).symm, Nat.zero_le _, HS.out, Below.refl _ _⟩
  case round =>
    obtain ⟨R, j, m, hj, rfl, rfl, hmul, hlo, hup, hbel⟩ := hrel
    by_cases h0 : 0 < j
    · obtain ⟨i, rfl⟩ : ∃ i, j = i + 1 := ⟨j - 1, by omega⟩
      have lR := sq_lt hlo.out HA.out.2
      have pp : 2 ^ (i + 1) / 2 = 2 ^ i := by rw [Nat.pow_succ]; omega
      have p0 : 0 < 2 ^ i := Nat.pow_pos (by decide)
      have room : R + 2 ^ i < 18446744073709551616 := by rw [hmul.out]; exact or_room (by omega) (by rw [← hmul.out]; exact lR)
      have v1 : bits .or .u64 (R : Int) ((2 ^ i : Nat) : Int) = ((R + 2 ^ i : Nat) : Int) := by
        rw [u64_or_nat R (2 ^ i) lR (by omega), hmul.out, or_bit]
      have hup' : a < (R + 2 ^ i + 2 ^ i) * (R + 2 ^ i + 2 ^ i) := by
        have := hup.out
        rw [Nat.pow_succ, show R + 2 ^ i * 2 = R + 2 ^ i + 2 ^ i by omega] at this
        exact this
      have m1 : R = (m * 2) * 2 ^ i := by rw [hmul.out, Nat.pow_succ, Nat.mul_assoc, Nat.mul_comm 2]
      have m2 : R + 2 ^ i = (m * 2 + 1) * 2 ^ i := by rw [Nat.add_mul, Nat.one_mul, ← m1]
      have HM : Hid (R = (m * 2) * 2 ^ i ∧ R + 2 ^ i = (m * 2 + 1) * 2 ^ i) := ⟨m1, m2⟩
      clear m1 m2
      rw [pp]
      have v2 : ((2 ^ i : Nat) : Int) / 2 = ((2 ^ i / 2 : Nat) : Int) := by omega
      obtain ⟨p, hp⟩ : ∃ p, p = 2 ^ i := ⟨_, rfl⟩
      obtain ⟨s, hs⟩ : ∃ s, s = R + 2 ^ i := ⟨_, rfl⟩
      obtain ⟨n, hn⟩ : ∃ n, n = 2 ^ i / 2 := ⟨_, rfl⟩
      rw [← hs] at v1 hup' room
      rw [← hn] at v2
      rw [← hp] at v1 v2 p0 hup' ⊢
      have HP : Hid (p = 2 ^ i ∧ s = R + 2 ^ i ∧ n = 2 ^ i / 2) := ⟨hp, hs, hn⟩
      clear hp hs hn pp
      obtain ⟨h3, l3, t3⟩ := tw_some (n := s * s) (by have := Nat.mul_le_mul (show s ≤ 18446744073709551615 by omega) (show s ≤ 18446744073709551615 by omega); omega)
      have g1 := fun w => tmul_any (show s ≤ 18446744073709551615 by omega) (show s ≤ 18446744073709551615 by omega) t3 w
      have g2 := fun w => tcmp_any t3 HA.out.1 w
      obtain ⟨x, hx⟩ : ∃ x, x = cmpN (s * s) a := ⟨_, rfl⟩
      rw [← hx] at g2
      have hxx : (x ≤ 0 ∧ s * s ≤ a) ∨ (0 < x ∧ a < s * s) := by
        rw [hx]
        rcases Nat.lt_trichotomy (s * s) a with g | g | g
        · rw [cmpN_lt g]; exact .inl ⟨by decide, by omega⟩
        · rw [g, cmpN_eq]; exact .inl ⟨by decide, Nat.le_refl _⟩
        · rw [cmpN_gt g]; exact .inr ⟨by decide, g⟩
      have HU : Hid _ := hup'
      have px : ((p : Int) > 0) = True := by simp; omega
      clear hup' hx t3 room lR
      go_upto_region 5 with fail
      refine wpC_region (fun W => W.cell? ⟨w.heap.size, 0, none⟩ = some (.int .u64 h1) ∧ W.cell? ⟨w.heap.size, 1, none⟩ = some (.int .u64 l1)) (by kernel_rfl) ?_
      refine wpC_take 0 (v := ?_) rfl (by kernel_rfl) (fun _ _ _ h => h) (by kernel_rfl) ?_ ?_; rotate_left; · (intro wC hC; obtain ⟨c1, c2⟩ := hC; go_simp <;> with_reducible rfl)
      refine wpC_take 1 (v := ?_) rfl (by kernel_rfl) (fun _ _ _ h => h) (by kernel_rfl) ?_ ?_; rotate_left; · (intro wC hC; obtain ⟨c1, c2⟩ := hC; go_simp <;> with_reducible rfl)
      refine wpC_take 2 (v := ?_) rfl (by kernel_rfl) (fun _ _ _ h => h) (by kernel_rfl) ?_ ?_; rotate_left; · (intro wC hC; obtain ⟨c1, c2⟩ := hC; go_simp <;> with_reducible rfl)
      refine wpC_take 3 (v := ?_) rfl (by kernel_rfl) (fun _ _ _ h => h) (by kernel_rfl) ?_ ?_; rotate_left; · (intro wC hC; obtain ⟨c1, c2⟩ := hC; go_simp <;> with_reducible rfl)
      refine wpC_take 4 (v := ?_) rfl (by kernel_rfl) (fun _ _ _ h => h) (by kernel_rfl) ?_ ?_; rotate_left; · (intro wC hC; obtain ⟨c1, c2⟩ := hC; go_simp <;> with_reducible rfl)
      refine wpC_take 5 (v := ?_) rfl (by kernel_rfl) (fun _ _ _ h => h) (by kernel_rfl) ?_ ?_; rotate_left; · (intro wC hC; obtain ⟨c1, c2⟩ := hC; go_simp <;> with_reducible rfl)
      refine wpC_take 7 (v := ?_) rfl (by kernel_rfl) (fun _ _ _ h => h) (by kernel_rfl) ?_ ?_; rotate_left; · (intro wC hC; obtain ⟨c1, c2⟩ := hC; go_simp <;> with_reducible rfl)
      refine wpC_step 6 rfl (by kernel_rfl) (by kernel_rfl) (cls _ (bdrew hbel)) (fun K hK => ?_)
      go_simp
      go_wp2_with ((go_at_call 55; refine (g1 _).mono ?_; rintro e w1 ⟨rfl, hb1⟩; have B1 := bthen (bdrew hbel) hb1))
      try (refine hK _ _ ?_; clear hK K)
      refine wpC_step 8 rfl (by kernel_rfl) (by kernel_rfl) (cls _ B1) (fun K hK => ?_)
      go_simp
      go_wp2_with ((go_at_call 108; refine (g2 _).mono ?_; rintro e w2 ⟨rfl, hb2⟩; have B2 := bthen B1 hb2))
      try (refine hK _ _ ?_; clear hK K)
      refine wpC_step 9 rfl (by kernel_rfl) (by kernel_rfl) (cls _ B2) (fun K hK => ?_)
      go_simp
      try (refine hK _ _ ?_; clear hK K)
      refine wpC_done (by kernel_rfl) (cls _ B2) ?_
      rcases hxx with ⟨x1, x2⟩ | ⟨x1, x2⟩
      all_goals
        have HX : Hid _ := x2
        clear x2
        go_wp2
        go_roundw
        case measure => have := HP.out; simp [intOf]; omega
        case rel =>
          obtain ⟨e1, e2, e3⟩ := HP.out
          obtain ⟨m1, m2⟩ := HM.out
          first
            | exact ⟨s, i, m * 2 + 1, by omega, rfl, by rw [← e3], (by show _ = _; rw [e2]; exact m2), HX.out, (by show _ < _; rw [← e1]; exact HU.out), B2⟩
            | exact ⟨R, i, m * 2, by omega, rfl, by rw [← e3], m1, hlo.out, (by show _ < _; rw [← e2]; exact HX.out), B2⟩
    · have e : j = 0 := by omega
      subst e
      have hR : R = r := HR.out R hlo.out hup.out
      subst hR
      rw [show 2 ^ 0 / 2 = 0 from rfl]
      clear hmul hlo hup HS HR HA
      have y0 : W.heap.size ≤ wr.heap.size := hbel.size
      have r1 : Below wr.heap.size wr wr := Below.refl _ _
      go_upto_region 7 with fail
      go_cut [6, 7] from 25 (fun s11 s12 wx => ∃ n : Nat, s11 = .pointer (some ⟨n, 0, none⟩) ∧ Below wr.heap.size wr wx ∧ wr.heap.size ≤ n ∧ n < wx.heap.size ∧
        wx.cell? ⟨n, 0, none⟩ = some (.int .u64 h) ∧ wx.cell? ⟨n, 1, none⟩ = some (.int .u64 l))
      case first =>
        refine wpC_region (fun W => W.cell? ⟨w.heap.size, 0, none⟩ = some (.int .u64 h1) ∧ W.cell? ⟨w.heap.size, 1, none⟩ = some (.int .u64 l1)) (by kernel_rfl) ?_
        refine wpC_take 0 (v := ?_) rfl (by kernel_rfl) (fun _ _ _ h => h) (by kernel_rfl) ?_ ?_; rotate_left; · (intro wC hC; obtain ⟨c1, c2⟩ := hC; go_simp <;> with_reducible rfl)
        refine wpC_take 1 (v := ?_) rfl (by kernel_rfl) (fun _ _ _ h => h) (by kernel_rfl) ?_ ?_; rotate_left; · (intro wC hC; obtain ⟨c1, c2⟩ := hC; go_simp <;> with_reducible rfl)
        refine wpC_take 2 (v := ?_) rfl (by kernel_rfl) (fun _ _ _ h => h) (by kernel_rfl) ?_ ?_; rotate_left; · (intro wC hC; obtain ⟨c1, c2⟩ := hC; go_simp <;> with_reducible rfl)
        refine wpC_two 3 8 rfl rfl (by kernel_rfl) (by kernel_rfl) (by kernel_rfl) (cls _ (bdrew hbel)) (fun K hK => ?_) (fun K hK => ?_)
        · skip
          go_simp
          go_wp2_with ((go_at_call 55; refine (k1 _).mono ?_; rintro e w2 ⟨rfl, hb2⟩; have B2 := bthen (bdrew r1) hb2))
          try (refine hK _ _ ?_; clear hK K)
          have y2 : wr.heap.size ≤ w2.heap.size := B2.size
          refine wpC_two 4 8 rfl rfl (by kernel_rfl) (by kernel_rfl) (by kernel_rfl) (cls _ (bthen hbel B2)) (fun K hK => ?_) (fun K hK => ?_)
          · skip
            go_simp
            go_wp2_with ((go_at_call 109; refine (k2 _).mono ?_; rintro e w3 ⟨rfl, hb3⟩; have B3 := bthen B2 hb3))
            try (refine hK _ _ ?_; clear hK K)
            have y3 : wr.heap.size ≤ w3.heap.size := B3.size
            refine wpC_take 5 (v := ?_) rfl (by kernel_rfl) (fun _ _ _ h => h) (by kernel_rfl) ?_ ?_; rotate_left; · (intro wC hC; obtain ⟨c1, c2⟩ := hC; go_simp <;> with_reducible rfl)
            refine wpC_take 6 (v := ?_) rfl (by kernel_rfl) (fun _ _ _ h => h) (by kernel_rfl) ?_ ?_; rotate_left; · (intro wC hC; obtain ⟨c1, c2⟩ := hC; go_simp <;> with_reducible rfl)
            refine wpC_take 7 (v := ?_) rfl (by kernel_rfl) (fun _ _ _ h => h) (by kernel_rfl) ?_ ?_; rotate_left; · (intro wC hC; obtain ⟨c1, c2⟩ := hC; go_simp <;> with_reducible rfl)
            refine wpC_step 8 rfl (by kernel_rfl) (by kernel_rfl) (cls _ (bthen hbel B3)) (fun K hK => ?_)
            go_simp
            try (refine hK _ _ ?_; clear hK K)
            refine wpC_step 9 rfl (by kernel_rfl) (by kernel_rfl) (cls _ (bthen hbel (bmore B3 _))) (fun K hK => ?_)
            go_simp
            try (refine hK _ _ ?_; clear hK K)
            refine wpC_step 10 rfl (by kernel_rfl) (by kernel_rfl) (cls _ (bthen hbel (bmore B3 _))) (fun K hK => ?_)
            go_simp
            try (refine hK _ _ ?_; clear hK K)
            refine wpC_done (by kernel_rfl) (cls _ (bthen hbel (bmore B3 _))) ?_
            go_wp2_with fail
            go_meet
            case rel =>
              refine ⟨_, rfl, bmore B3 _, y3, by simp, ?_, ?_⟩ <;> simp [go_sem]
          · skip
            go_simp
            try (refine hK _ _ ?_; clear hK K)
            refine wpC_step 4 rfl (by kernel_rfl) (by kernel_rfl) (cls _ (bthen hbel (bmore B2 _))) (fun K hK => ?_)
            go_simp
            go_wp2_with ((go_at_call 109; refine (k2 _).mono ?_; rintro e w3 ⟨rfl, hb3⟩; have B3 := bthen (bmore B2 _) hb3; obtain ⟨hc3, hf3⟩ := bcell hb3; have y4 : w2.heap.size < w3.heap.size := (by have := hb3.size; simp at this; omega)))
            try (refine hK _ _ ?_; clear hK K)
            refine wpC_step 5 rfl (by kernel_rfl) (by kernel_rfl) (cls _ (bthen hbel B3)) (fun K hK => ?_)
            go_simp
            try (refine hK _ _ ?_; clear hK K)
            refine wpC_take 6 (v := ?_) rfl (by kernel_rfl) (fun _ _ _ h => h) (by kernel_rfl) ?_ ?_; rotate_left; · (intro wC hC; obtain ⟨c1, c2⟩ := hC; go_simp <;> with_reducible rfl)
            refine wpC_take 7 (v := ?_) rfl (by kernel_rfl) (fun _ _ _ h => h) (by kernel_rfl) ?_ ?_; rotate_left; · (intro wC hC; obtain ⟨c1, c2⟩ := hC; go_simp <;> with_reducible rfl)
            refine wpC_step 9 rfl (by kernel_rfl) (by kernel_rfl) (cls _ (bthen hbel B3)) (fun K hK => ?_)
            go_simp
            try (refine hK _ _ ?_; clear hK K)
            refine wpC_step 10 rfl (by kernel_rfl) (by kernel_rfl) (cls _ (bthen hbel (bset (bset B3 y2 _ _) y2 _ _))) (fun K hK => ?_)
            go_simp
            try (refine hK _ _ ?_; clear hK K)
            refine wpC_done (by kernel_rfl) (cls _ (bthen hbel (bset (bset B3 y2 _ _) y2 _ _))) ?_
            go_wp2_with fail
            go_meet
            case rel =>
              refine ⟨_, rfl, bset (bset B3 y2 _ _) y2 _ _, y2, by simp [y4], ?_, ?_⟩ <;> simp [go_sem, hc3]
        · skip
          go_simp
          try (refine hK _ _ ?_; clear hK K)
          refine wpC_step 3 rfl (by kernel_rfl) (by kernel_rfl) (cls _ (bthen hbel (bmore (bdrew r1) _))) (fun K hK => ?_)
          go_simp
          go_wp2_with ((go_at_call 55; refine (k1 _).mono ?_; rintro e w2 ⟨rfl, hb2⟩; obtain ⟨hc2, hf2⟩ := bcell hb2; have B2 := bthen (bmore (bdrew r1) _) hb2; have y4 : wr.heap.size < w2.heap.size := (by have := hb2.size; simp at this; omega)))
          try (refine hK _ _ ?_; clear hK K)
          refine wpC_step 4 rfl (by kernel_rfl) (by kernel_rfl) (cls _ (bthen hbel B2)) (fun K hK => ?_)
          go_simp
          go_wp2_with ((go_at_call 109; refine (k2 _).mono ?_; rintro e w3 ⟨rfl, hb3⟩; have B3 := bthen B2 hb3; obtain ⟨hc3, hf3⟩ := bcell hb3; have y5 : wr.heap.size < w3.heap.size := (by have := hb3.size; omega)))
          try (refine hK _ _ ?_; clear hK K)
          refine wpC_step 5 rfl (by kernel_rfl) (by kernel_rfl) (cls _ (bthen hbel B3)) (fun K hK => ?_)
          go_simp
          try (refine hK _ _ ?_; clear hK K)
          refine wpC_take 6 (v := ?_) rfl (by kernel_rfl) (fun _ _ _ h => h) (by kernel_rfl) ?_ ?_; rotate_left; · (intro wC hC; obtain ⟨c1, c2⟩ := hC; go_simp <;> with_reducible rfl)
          refine wpC_take 7 (v := ?_) rfl (by kernel_rfl) (fun _ _ _ h => h) (by kernel_rfl) ?_ ?_; rotate_left; · (intro wC hC; obtain ⟨c1, c2⟩ := hC; go_simp <;> with_reducible rfl)
          refine wpC_step 9 rfl (by kernel_rfl) (by kernel_rfl) (cls _ (bthen hbel B3)) (fun K hK => ?_)
          go_simp
          try (refine hK _ _ ?_; clear hK K)
          refine wpC_step 10 rfl (by kernel_rfl) (by kernel_rfl) (cls _ (bthen hbel (bset (bset B3 (Nat.le_refl _) _ _) (Nat.le_refl _) _ _))) (fun K hK => ?_)
          go_simp
          try (refine hK _ _ ?_; clear hK K)
          refine wpC_done (by kernel_rfl) (cls _ (bthen hbel (bset (bset B3 (Nat.le_refl _) _ _) (Nat.le_refl _) _ _))) ?_
          go_wp2_with fail
          go_meet
          case rel =>
            refine ⟨_, rfl, bset (bset B3 (Nat.le_refl _) _ _) (Nat.le_refl _) _ _, Nat.le_refl _, by simp [y5], ?_, ?_⟩ <;> simp [go_sem, hc2, hc3, y4]
      case rest =>
        obtain ⟨n, rfl, HB, n1, n2, c5, c6⟩ := hcut
        have H2 := bthen hbel HB
        obtain ⟨b1, b2, b3, b4⟩ := box _ H2
        have m1 : ¬ (w.heap.size + 1 = n) := by omega
        have m2 : ¬ (n = w.heap.size + 1) := by omega
        go_wp2
        go_region
        all_goals
          go_wp2
          refine bodyPost_ret (v := .tuple #[.int .u64 R, .agg #[.int .u64 h, .int .u64 l]]) (by simp [results, Tryz.results82, go_sem, b1, b2]) rfl (hQ.out _ _ ⟨rfl, ?_⟩)
          exact bdrew (bset (bset (bthen H0 H2) (by omega) _ _) (by omega) _ _)
end Go.Proofs.YtheliihkkoohnabGreat

namespace Go.Proofs.YtheliihkkoohnabGreat
open Go.ChangeShapes Go.WideShapes Go.ChangeAt Go.RowKit
set_option linter.unusedVariables false
set_option linter.unusedSimpArgs false
set_option maxRecDepth 100000

/-! ### package root, over the landed code -/
theorem ro_even {s : Int} {M : Nat} (h : Mant M) (he : s % 2 = 0) :
    rtH (mR s M) * rtH (mR s M) ≤ M / 2 ^ 1 ∧ M / 2 ^ 1 < (rtH (mR s M) + 1) * (rtH (mR s M) + 1) ∧
      (decide (M % 2 ^ 1 ≠ 0) || decide (M / 2 ^ 1 - rtH (mR s M) * rtH (mR s M) ≠ 0)) = rtR (mR s M) := by
  obtain ⟨a, b⟩ := mR_size s h
  obtain ⟨c1, c2⟩ := rtH_ok b
  have e : mR s M = M * 2 ^ 13 := by
    rcases mR_two s M with ⟨_, e⟩ | ⟨p, _⟩
    · exact e
    · omega
  unfold rtR
  generalize rtH (mR s M) = r at *
  rw [e] at c1 c2 ⊢
  generalize (r + 1) * (r + 1) = q at *
  generalize r * r = p at *
  refine ⟨by omega, by omega, ?_⟩
  rw [Bool.eq_iff_iff, Bool.or_eq_true, decide_eq_true_eq, decide_eq_true_eq, decide_eq_true_eq]
  omega
theorem ro_odd {s : Int} {M : Nat} (h : Mant M) (he : s % 2 = 1) :
    rtH (mR s M) * rtH (mR s M) ≤ M ∧ M < (rtH (mR s M) + 1) * (rtH (mR s M) + 1) ∧
      decide (M - rtH (mR s M) * rtH (mR s M) ≠ 0) = rtR (mR s M) := by
  obtain ⟨a, b⟩ := mR_size s h
  obtain ⟨c1, c2⟩ := rtH_ok b
  have e : mR s M = M * 2 ^ 14 := by
    rcases mR_two s M with ⟨p, _⟩ | ⟨_, e⟩
    · omega
    · exact e
  unfold rtR
  generalize rtH (mR s M) = r at *
  rw [e] at c1 c2 ⊢
  generalize (r + 1) * (r + 1) = q at *
  generalize r * r = p at *
  refine ⟨by omega, by omega, ?_⟩
  rw [Bool.eq_iff_iff, decide_eq_true_eq, decide_eq_true_eq]
  omega
theorem ro_tm {s : Int} : s.tmod 2 = 0 ↔ s % 2 = 0 :=
  ⟨fun h => Int.emod_eq_zero_of_dvd (Int.dvd_of_tmod_eq_zero h), fun h => Int.tmod_eq_zero_of_dvd (Int.dvd_of_emod_eq_zero h)⟩
theorem two_nought {n h l : Nat} (t : Tw n h l) : decide (n ≠ 0) = !(decide (h = 0) && decide (l = 0)) := by
  obtain ⟨e, _, _⟩ := t
  by_cases a : h = 0 <;> by_cases b : l = 0
  · subst a; subst b; rw [e]; rfl
  · rw [decide_eq_true a, decide_eq_false b, decide_eq_true (show n ≠ 0 by omega)]; rfl
  · rw [decide_eq_false a, decide_eq_true (show n ≠ 0 by omega)]; rfl
  · rw [decide_eq_false a, decide_eq_true (show n ≠ 0 by omega)]; rfl
set_option maxHeartbeats 2000000 in
theorem rodig_odd {a h1 l1 r h l : Nat} {x : Bool} (s : Int) (hs : s.tmod 2 ≠ 0) (ha : Tw a h1 l1) (r1 : r * r ≤ a) (r2 : a < (r + 1) * (r + 1)) (hl : Tw (a - r * r) h l) (hx : x = !(decide (h = 0) && decide (l = 0))) (w : World) :
    Calls Tryz.prog 59 #[.agg #[.int .u64 h1, .int .u64 l1], .int .i64 s] w fun e w' => e = .returned (.tuple #[.int .u64 r, .bool x]) ∧ Below w.heap.size w w' := by
  have k2 := fun w => proot_any ha r1 r2 hl w
  have d1 : (s.tmod 2 == 0) = false := beq_eq_false_iff_ne.2 hs
  have d2 : decide (s.tmod 2 = 0) = false := decide_eq_false hs
  have hcase : (h = 0 ∧ l = 0 ∧ x = false) ∨ (h = 0 ∧ ¬ (l : Int) = 0 ∧ x = true) ∨ (¬ (h : Int) = 0 ∧ x = true) := by
    by_cases g1 : h = 0
    · by_cases g2 : l = 0
      · exact .inl ⟨g1, g2, by rw [hx]; simp [g1, g2]⟩
      · exact .inr (.inl ⟨g1, by omega, by rw [hx]; simp [g2]⟩)
    · exact .inr (.inr ⟨by omega, by rw [hx]; simp [g1]⟩)
  clear hx hl r1 r2 ha hs
  rcases hcase with ⟨rfl, rfl, rfl⟩ | ⟨rfl, g2, rfl⟩ | ⟨g1, rfl⟩
  all_goals
    refine cps fun Q hQ => ?_
    go_enter Tryz.func59, Tryz.ntmps59
    go_wp2_with (go_at_call 82; go_must (refine (k2 _).mono ?_); rintro e w2 ⟨rfl, hb2⟩)
    go_quiet (fail)
    go_wp2
    exact hQ.out _ _ ⟨rfl, bdrewN (cmore (cthen (cmore (Below.refl _ _) _) hb2) _) _⟩
set_option maxHeartbeats 2000000 in
theorem rodig_even {a h1 l1 r h' l' h l : Nat} {o x : Bool} (s : Int) (hs : s.tmod 2 = 0) (ha : Tw a h1 l1) (h2 : Tw (a / 2 ^ 1) h' l') (ho : o = decide (a % 2 ^ 1 ≠ 0)) (r1 : r * r ≤ (a / 2 ^ 1)) (r2 : (a / 2 ^ 1) < (r + 1) * (r + 1)) (hl : Tw ((a / 2 ^ 1) - r * r) h l) (hx : x = (o || !(decide (h = 0) && decide (l = 0)))) (w : World) :
    Calls Tryz.prog 59 #[.agg #[.int .u64 h1, .int .u64 l1], .int .i64 s] w fun e w' => e = .returned (.tuple #[.int .u64 r, .bool x]) ∧ Below w.heap.size w w' := by
  have k1 := fun w => tshr_any (h := h') (l := l') (c := o) 1 (by decide) ha h2 ho w
  rw [show ((1 : Nat) : Int) = 1 from rfl] at k1
  have k2 := fun w => proot_any h2 r1 r2 hl w
  have d1 : (s.tmod 2 == 0) = true := beq_iff_eq.2 hs
  have d2 : decide (s.tmod 2 = 0) = true := decide_eq_true hs
  have hcase : (o = true ∧ x = true) ∨ (o = false ∧ h = 0 ∧ l = 0 ∧ x = false) ∨ (o = false ∧ h = 0 ∧ ¬ (l : Int) = 0 ∧ x = true) ∨ (o = false ∧ ¬ (h : Int) = 0 ∧ x = true) := by
    cases o
    · by_cases g1 : h = 0
      · by_cases g2 : l = 0
        · exact .inr (.inl ⟨rfl, g1, g2, by rw [hx]; simp [g1, g2]⟩)
        · exact .inr (.inr (.inl ⟨rfl, g1, by omega, by rw [hx]; simp [g2]⟩))
      · exact .inr (.inr (.inr ⟨rfl, by omega, by rw [hx]; simp [g1]⟩))
    · exact .inl ⟨rfl, by rw [hx]; rfl⟩
  clear hx hl r1 r2 ha h2 hs ho
  rcases hcase with ⟨rfl, rfl⟩ | ⟨rfl, rfl, rfl, rfl⟩ | ⟨rfl, rfl, g2, rfl⟩ | ⟨rfl, g1, rfl⟩
  all_goals
    refine cps fun Q hQ => ?_
    go_enter Tryz.func59, Tryz.ntmps59
    go_wp2_with (first
      | (go_at_call 82; have chk := HB1; go_must (refine (k2 _).mono ?_); rintro e w2 ⟨rfl, hb2⟩)
      | (go_at_call 80; go_must (refine (k1 _).mono ?_); rintro e w1 ⟨rfl, hb1⟩; have R1_0 := (hb1.block (w.heap.size) (by first | (simp; done) | (simp; omega) | omega)).trans (rownew' _ _ _ _ (by simp)); have z1_0 : w.heap.size < w1.heap.size := Nat.lt_of_lt_of_le (by first | (simp; done) | (simp; omega) | omega) hb1.size; have c1_0_0 := rowcell R1_0 0; have c1_0_1 := rowcell R1_0 1; simp only [List.getElem?_toArray, List.getElem?_cons_zero, List.getElem?_cons_succ] at c1_0_0 c1_0_1; have HR1_0 : Hid _ := R1_0; clear R1_0; have HB1 : Hid (Below _ _ _) := hb1; clear hb1; have f1 := rowfree HR1_0.out))
    go_quiet (fail)
    go_wp2
    exact hQ.out _ _ ⟨rfl, bdrewN (cmore (cthen (bset (bset (cthen (cmore (Below.refl _ _) _) HB1.out) (Nat.le_refl _) _ _) (Nat.le_refl _) _ _) hb2) _) _⟩
theorem rodig_any {s : Int} {hi lo : Nat} (hw : WordsX hi lo) (w : World) :
    Calls Tryz.prog 59 #[.agg #[.int .u64 hi, .int .u64 lo], .int .i64 s] w fun e w' => e = .returned (.tuple #[.int .u64 (rtH (mR s (manX hi lo)) : Nat), .bool (rtR (mR s (manX hi lo)))]) ∧ Below w.heap.size w w' := by
  have hm := hw.mant
  have ha : Tw (manX hi lo) hi lo := ⟨rfl, by have := hw.hi64; omega, by have := hw.lo64; omega⟩
  have hlt := ha.lt
  rcases Int.emod_two_eq s with c | c
  · obtain ⟨a1, a2, a3⟩ := ro_even hm c
    obtain ⟨h', l', t1⟩ := tw_some (n := manX hi lo / 2 ^ 1) (by omega)
    obtain ⟨h, l, t2⟩ := tw_some (n := manX hi lo / 2 ^ 1 - rtH (mR s (manX hi lo)) * rtH (mR s (manX hi lo))) (by omega)
    rw [two_nought t2] at a3
    exact rodig_even s (ro_tm.2 c) ha t1 rfl a1 a2 t2 a3.symm w
  · obtain ⟨a1, a2, a3⟩ := ro_odd hm c
    obtain ⟨h, l, t2⟩ := tw_some (n := manX hi lo - rtH (mR s (manX hi lo)) * rtH (mR s (manX hi lo))) (by omega)
    rw [two_nought t2] at a3
    exact rodig_odd s (fun h => by have := ro_tm.1 h; omega) ha a1 a2 t2 a3.symm w
theorem rodig_zero (w : World) :
    Calls Tryz.prog 59 #[.agg #[.int .u64 0, .int .u64 0], .int .i64 0] w fun e w' => e = .returned (.tuple #[.int .u64 0, .bool false]) ∧ Below w.heap.size w w' := by
  have t0 : Tw 0 0 0 := ⟨rfl, by decide, by decide⟩
  exact rodig_even (h' := 0) (l' := 0) (o := false) (r := 0) (h := 0) (l := 0) 0 rfl t0 t0 rfl (by decide) (by decide) t0 rfl w
/-! ### Exact -/
theorem rround_some (k : Int) (neg : Bool) (s : Int) (hi lo : Nat) (rest : Bool) (hh : hi < 2 ^ 64) (hl : lo < 2 ^ 64) (hs : soundX k neg s hi lo rest = true) :
    ∃ P : Nat, ∀ w, Calls Tryz.prog 33 #[.int .i64 (64 : Nat), exV k neg s hi lo rest] w fun e w' => e = .returned (.tuple #[.int .u64 P, .nilIface]) ∧ Below w.heap.size w w' := by
  have wd : Wd 64 := .inr (.inr (.inr rfl))
  by_cases c : k = 0 ∨ k = 2
  · have h := hs
    unfold soundX at h
    rw [if_pos c] at h
    obtain ⟨e1, e2, e3, e4, e5⟩ := of_decide_eq_true h
    subst e1; subst e2; subst e3; subst e4; subst e5
    rcases c with rfl | rfl
    · exact ⟨0, rround_zero 64 wd⟩
    · exact ⟨_, rround_nar 64 wd⟩
  · have h := hs
    unfold soundX at h
    rw [if_neg c] at h
    obtain ⟨e1, e2, _⟩ := of_decide_eq_true h
    subst e1
    exact ⟨_, rround_real 64 neg s hi lo rest wd hs ⟨e2, hh, hl⟩⟩
set_option maxHeartbeats 2000000 in
theorem rootx_nar1 (k : Int) (neg : Bool) (s : Int) (hi lo : Nat) (rest : Bool) (hh : hi < 2 ^ 64) (hl : lo < 2 ^ 64) (h1 : soundX k neg s hi lo rest = true) (hk : k = 2) (w : World) :
    Calls Tryz.prog 37 #[exV k neg s hi lo rest] w fun e w' => e = .returned (.tuple #[exV 2 false 0 0 0 false, .nilIface]) ∧ Below w.heap.size w w' := by
  obtain ⟨P, k1⟩ := rround_some k neg s hi lo rest hh hl h1
  rw [show ((64 : Nat) : Int) = 64 from rfl] at k1
  have d1 : (k == 2) = true := by rw [hk]; rfl
  clear hk
  clear hh hl h1
  unfold exV at *
  refine cps fun Q hQ => ?_
  go_enter Tryz.func37, Tryz.ntmps37
  go_wp2_with (first
    | (go_at_call 33; go_must (refine (k1 _).mono ?_); rintro e w1 ⟨rfl, hb1⟩; have R1_0 := (hb1.block (w.heap.size) (by first | (simp; done) | (simp; omega) | omega)).trans ((Below.heap_alloc _ _ _ (by first | (simp; done) | (simp; omega) | omega)).trans (rownew' _ _ _ _ (by simp))); have z1_0 : w.heap.size < w1.heap.size := Nat.lt_of_lt_of_le (by first | (simp; done) | (simp; omega) | omega) hb1.size; have c1_0_0 := rowcell R1_0 0; have c1_0_1 := rowcell R1_0 1; have c1_0_2 := rowcell R1_0 2; have c1_0_3 := rowcell R1_0 3; have c1_0_4 := rowcell R1_0 4; have c1_0_5 := rowcell R1_0 5; simp only [List.getElem?_toArray, List.getElem?_cons_zero, List.getElem?_cons_succ] at c1_0_0 c1_0_1 c1_0_2 c1_0_3 c1_0_4 c1_0_5; have HR1_0 : Hid _ := R1_0; clear R1_0; have R1_1 := (hb1.block (w.heap.size + 1) (by first | (simp; done) | (simp; omega) | omega)).trans (rownew' _ _ _ _ (by simp)); have z1_1 : w.heap.size + 1 < w1.heap.size := Nat.lt_of_lt_of_le (by first | (simp; done) | (simp; omega) | omega) hb1.size; have c1_1_0 := rowcell R1_1 0; have c1_1_1 := rowcell R1_1 1; have c1_1_2 := rowcell R1_1 2; have c1_1_3 := rowcell R1_1 3; have c1_1_4 := rowcell R1_1 4; have c1_1_5 := rowcell R1_1 5; simp only [List.getElem?_toArray, List.getElem?_cons_zero, List.getElem?_cons_succ] at c1_1_0 c1_1_1 c1_1_2 c1_1_3 c1_1_4 c1_1_5; have HR1_1 : Hid _ := R1_1; clear R1_1; have HB1 : Hid (Below _ _ _) := hb1; clear hb1; have f1 := rowfree HR1_1.out))
  refine bodyPost_ret (v := .tuple #[.agg #[.int .i64 2, .bool false, .int .i64 0, .int .u64 0, .int .u64 0, .bool false], .nilIface]) (by simp [results, Tryz.results37, go_sem, c1_1_0, c1_1_1, c1_1_2, c1_1_3, c1_1_4, c1_1_5, f1, z1_1]; done) rfl (hQ.out _ _ ⟨rfl, ?_⟩)
  exact cset6 (cthen (cmore (cmore (Below.refl _ _) _) _) HB1.out) (by omega)
set_option maxHeartbeats 2000000 in
theorem rootx_nar2 (k : Int) (neg : Bool) (s : Int) (hi lo : Nat) (rest : Bool) (hh : hi < 2 ^ 64) (hl : lo < 2 ^ 64) (h1 : soundX k neg s hi lo rest = true) (hk : k ≠ 2) (hn : neg = true) (w : World) :
    Calls Tryz.prog 37 #[exV k neg s hi lo rest] w fun e w' => e = .returned (.tuple #[exV 2 false 0 0 0 false, .nilIface]) ∧ Below w.heap.size w w' := by
  obtain ⟨P, k1⟩ := rround_some k neg s hi lo rest hh hl h1
  rw [show ((64 : Nat) : Int) = 64 from rfl] at k1
  have d1 : (k == 2) = false := beq_eq_false_iff_ne.2 hk
  subst hn
  clear hk
  clear hh hl h1
  unfold exV at *
  refine cps fun Q hQ => ?_
  go_enter Tryz.func37, Tryz.ntmps37
  go_wp2_with (first
    | (go_at_call 33; go_must (refine (k1 _).mono ?_); rintro e w1 ⟨rfl, hb1⟩; have R1_0 := (hb1.block (w.heap.size) (by first | (simp; done) | (simp; omega) | omega)).trans ((Below.heap_alloc _ _ _ (by first | (simp; done) | (simp; omega) | omega)).trans (rownew' _ _ _ _ (by simp))); have z1_0 : w.heap.size < w1.heap.size := Nat.lt_of_lt_of_le (by first | (simp; done) | (simp; omega) | omega) hb1.size; have c1_0_0 := rowcell R1_0 0; have c1_0_1 := rowcell R1_0 1; have c1_0_2 := rowcell R1_0 2; have c1_0_3 := rowcell R1_0 3; have c1_0_4 := rowcell R1_0 4; have c1_0_5 := rowcell R1_0 5; simp only [List.getElem?_toArray, List.getElem?_cons_zero, List.getElem?_cons_succ] at c1_0_0 c1_0_1 c1_0_2 c1_0_3 c1_0_4 c1_0_5; have HR1_0 : Hid _ := R1_0; clear R1_0; have R1_1 := (hb1.block (w.heap.size + 1) (by first | (simp; done) | (simp; omega) | omega)).trans (rownew' _ _ _ _ (by simp)); have z1_1 : w.heap.size + 1 < w1.heap.size := Nat.lt_of_lt_of_le (by first | (simp; done) | (simp; omega) | omega) hb1.size; have c1_1_0 := rowcell R1_1 0; have c1_1_1 := rowcell R1_1 1; have c1_1_2 := rowcell R1_1 2; have c1_1_3 := rowcell R1_1 3; have c1_1_4 := rowcell R1_1 4; have c1_1_5 := rowcell R1_1 5; simp only [List.getElem?_toArray, List.getElem?_cons_zero, List.getElem?_cons_succ] at c1_1_0 c1_1_1 c1_1_2 c1_1_3 c1_1_4 c1_1_5; have HR1_1 : Hid _ := R1_1; clear R1_1; have HB1 : Hid (Below _ _ _) := hb1; clear hb1; have f1 := rowfree HR1_1.out))
  refine bodyPost_ret (v := .tuple #[.agg #[.int .i64 2, .bool false, .int .i64 0, .int .u64 0, .int .u64 0, .bool false], .nilIface]) (by simp [results, Tryz.results37, go_sem, c1_1_0, c1_1_1, c1_1_2, c1_1_3, c1_1_4, c1_1_5, f1, z1_1]; done) rfl (hQ.out _ _ ⟨rfl, ?_⟩)
  exact cset6 (cthen (cmore (cmore (Below.refl _ _) _) _) HB1.out) (by omega)
set_option maxHeartbeats 2000000 in
theorem rootx_real (k : Int) (neg : Bool) (s : Int) (hi lo : Nat) (rest : Bool) (hh : hi < 2 ^ 64) (hl : lo < 2 ^ 64) (h1 : soundX k neg s hi lo rest = true) (hk : k ≠ 2) (hn : neg = false) {dg : Nat} {lf : Bool} (k2 : ∀ w, Calls Tryz.prog 59 #[.agg #[.int .u64 hi, .int .u64 lo], .int .i64 s] w fun e w' => e = .returned (.tuple #[.int .u64 dg, .bool lf]) ∧ Below w.heap.size w w') (m1 : dg < 2 ^ 64) (m2 : (lf || rest) = false ∨ 9223372036854775808 ≤ dg) (w : World) :
    Calls Tryz.prog 37 #[exV k neg s hi lo rest] w fun e w' => e = .returned (.tuple #[exactV false (manX dg 0) (s / 2 - 127) (lf || rest), .nilIface]) ∧ Below w.heap.size w w' := by
  obtain ⟨P, k1⟩ := rround_some k neg s hi lo rest hh hl h1
  rw [show ((64 : Nat) : Int) = 64 from rfl] at k1
  have hb : -1099511627776 ≤ s ∧ s ≤ 1099511627776 := by
    unfold soundX at h1
    by_cases c : k = 0 ∨ k = 2
    · rw [if_pos c] at h1; have := (of_decide_eq_true h1).2.1; omega
    · rw [if_neg c] at h1; exact (of_decide_eq_true h1).2.2
  have d1 : (k == 2) = false := beq_eq_false_iff_ne.2 hk
  obtain ⟨r, hr⟩ : ∃ r, r = dg := ⟨_, rfl⟩
  obtain ⟨x, hx⟩ : ∃ x, x = lf := ⟨_, rfl⟩
  obtain ⟨y, hy⟩ : ∃ y, y = (x || rest) := ⟨_, rfl⟩
  rw [← hr, ← hx] at k2
  have k3 := rmake_ok false r 0 (s / 2 - 127) y (by rw [hr]; exact m1) (by decide) (by omega) (by
    rw [hy, hx, hr]; exact m2)
  rw [← hr, ← hx, ← hy]
  obtain ⟨K, B, S, H, L, R, hform⟩ := exactV_form false (manX r 0) (s / 2 - 127) y
  rw [hform] at k3 ⊢
  have e1 : IntKind.i64.wrap (s / 2) = s / 2 := wrapI (by omega)
  have e2 : IntKind.i64.wrap (s / 2 - 127) = s / 2 - 127 := wrapI (by omega)
  rw [show ((0 : Nat) : Int) = 0 from rfl] at k3
  have ycase : (x = true ∧ y = true) ∨ (x = false ∧ y = rest) := by rw [hy]; cases x; exact .inr ⟨rfl, rfl⟩; exact .inl ⟨rfl, rfl⟩
  subst hn
  clear hform hb hk hr hx hy m1 m2
  clear hh hl h1
  unfold exV at *
  rcases ycase with ⟨rfl, rfl⟩ | ⟨rfl, rfl⟩
  all_goals
    refine cps fun Q hQ => ?_
    go_enter Tryz.func37, Tryz.ntmps37
    go_wp2_with (first
      | (go_at_call 33; go_must (refine (k1 _).mono ?_); rintro e w1 ⟨rfl, hb1⟩; have R1_0 := (hb1.block (w.heap.size) (by first | (simp; done) | (simp; omega) | omega)).trans ((Below.heap_alloc _ _ _ (by first | (simp; done) | (simp; omega) | omega)).trans (rownew' _ _ _ _ (by simp))); have z1_0 : w.heap.size < w1.heap.size := Nat.lt_of_lt_of_le (by first | (simp; done) | (simp; omega) | omega) hb1.size; have c1_0_0 := rowcell R1_0 0; have c1_0_1 := rowcell R1_0 1; have c1_0_2 := rowcell R1_0 2; have c1_0_3 := rowcell R1_0 3; have c1_0_4 := rowcell R1_0 4; have c1_0_5 := rowcell R1_0 5; simp only [List.getElem?_toArray, List.getElem?_cons_zero, List.getElem?_cons_succ] at c1_0_0 c1_0_1 c1_0_2 c1_0_3 c1_0_4 c1_0_5; have HR1_0 : Hid _ := R1_0; clear R1_0; have R1_1 := (hb1.block (w.heap.size + 1) (by first | (simp; done) | (simp; omega) | omega)).trans (rownew' _ _ _ _ (by simp)); have z1_1 : w.heap.size + 1 < w1.heap.size := Nat.lt_of_lt_of_le (by first | (simp; done) | (simp; omega) | omega) hb1.size; have c1_1_0 := rowcell R1_1 0; have c1_1_1 := rowcell R1_1 1; have c1_1_2 := rowcell R1_1 2; have c1_1_3 := rowcell R1_1 3; have c1_1_4 := rowcell R1_1 4; have c1_1_5 := rowcell R1_1 5; simp only [List.getElem?_toArray, List.getElem?_cons_zero, List.getElem?_cons_succ] at c1_1_0 c1_1_1 c1_1_2 c1_1_3 c1_1_4 c1_1_5; have HR1_1 : Hid _ := R1_1; clear R1_1; have HB1 : Hid (Below _ _ _) := hb1; clear hb1; have f1 := rowfree HR1_1.out)
      | (go_at_call 59; go_must (refine (k2 _).mono ?_); rintro e w2 ⟨rfl, hb2⟩; have R2_0 := (hb2.block (w.heap.size) (by first | (simp; done) | (simp; omega) | omega)).trans HR1_0.out; have z2_0 : w.heap.size < w2.heap.size := Nat.lt_of_lt_of_le (by first | (simp; done) | (simp; omega) | omega) hb2.size; have c2_0_0 := rowcell R2_0 0; have c2_0_1 := rowcell R2_0 1; have c2_0_2 := rowcell R2_0 2; have c2_0_3 := rowcell R2_0 3; have c2_0_4 := rowcell R2_0 4; have c2_0_5 := rowcell R2_0 5; simp only [List.getElem?_toArray, List.getElem?_cons_zero, List.getElem?_cons_succ] at c2_0_0 c2_0_1 c2_0_2 c2_0_3 c2_0_4 c2_0_5; have HR2_0 : Hid _ := R2_0; clear R2_0; have R2_1 := (hb2.block (w.heap.size + 1) (by first | (simp; done) | (simp; omega) | omega)).trans HR1_1.out; have z2_1 : w.heap.size + 1 < w2.heap.size := Nat.lt_of_lt_of_le (by first | (simp; done) | (simp; omega) | omega) hb2.size; have c2_1_0 := rowcell R2_1 0; have c2_1_1 := rowcell R2_1 1; have c2_1_2 := rowcell R2_1 2; have c2_1_3 := rowcell R2_1 3; have c2_1_4 := rowcell R2_1 4; have c2_1_5 := rowcell R2_1 5; simp only [List.getElem?_toArray, List.getElem?_cons_zero, List.getElem?_cons_succ] at c2_1_0 c2_1_1 c2_1_2 c2_1_3 c2_1_4 c2_1_5; have HR2_1 : Hid _ := R2_1; clear R2_1; have HB2 : Hid (Below _ _ _) := hb2; clear hb2)
      | (go_at_call 56; go_must (refine (k3 _).mono ?_); rintro e w3 ⟨rfl, hb3⟩; have R3_0 := (hb3.block (w.heap.size) (by first | (simp; done) | (simp; omega) | omega)).trans HR2_0.out; have z3_0 : w.heap.size < w3.heap.size := Nat.lt_of_lt_of_le (by first | (simp; done) | (simp; omega) | omega) hb3.size; have HR3_0 : Hid _ := R3_0; clear R3_0; have R3_1 := (hb3.block (w.heap.size + 1) (by first | (simp; done) | (simp; omega) | omega)).trans HR2_1.out; have z3_1 : w.heap.size + 1 < w3.heap.size := Nat.lt_of_lt_of_le (by first | (simp; done) | (simp; omega) | omega) hb3.size; have c3_1_0 := rowcell R3_1 0; have c3_1_1 := rowcell R3_1 1; have c3_1_2 := rowcell R3_1 2; have c3_1_3 := rowcell R3_1 3; have c3_1_4 := rowcell R3_1 4; have c3_1_5 := rowcell R3_1 5; simp only [List.getElem?_toArray, List.getElem?_cons_zero, List.getElem?_cons_succ] at c3_1_0 c3_1_1 c3_1_2 c3_1_3 c3_1_4 c3_1_5; have HR3_1 : Hid _ := R3_1; clear R3_1; have HB3 : Hid (Below _ _ _) := hb3; clear hb3; have f3 := rowfree HR3_1.out))
    refine bodyPost_ret (v := .tuple #[.agg #[.int .i64 K, .bool B, .int .i64 S, .int .u64 H, .int .u64 L, .bool R], .nilIface]) (by simp [results, Tryz.results37, go_sem, c3_1_0, c3_1_1, c3_1_2, c3_1_3, c3_1_4, c3_1_5, f3, z3_1]; done) rfl (hQ.out _ _ ⟨rfl, ?_⟩)
    exact cset6 (cthen (cthen (cthen (cmore (cmore (Below.refl _ _) _) _) HB1.out) HB2.out) HB3.out) (by omega)
theorem rootx_ok (k : Int) (neg : Bool) (s : Int) (hi lo : Nat) (rest : Bool) (hh : hi < 2 ^ 64) (hl : lo < 2 ^ 64) (h : soundX k neg s hi lo rest = true) (w : World) :
    Calls Tryz.prog 37 #[exV k neg s hi lo rest] w fun e w' => e = .returned (.tuple #[root12 k neg s hi lo rest, .nilIface]) ∧ Below w.heap.size w w' := by
  unfold root12
  by_cases a2 : k = 2
  · rw [if_pos (.inl a2)]; exact rootx_nar1 k neg s hi lo rest hh hl h a2 w
  · by_cases an : neg = true
    · rw [if_pos (.inr an)]; exact rootx_nar2 k neg s hi lo rest hh hl h a2 an w
    · rw [if_neg (by rintro (c | c); exact a2 c; exact an c)]
      have an' : neg = false := by cases neg; rfl; exact absurd rfl an
      by_cases a0 : k = 0
      · rw [if_pos a0]
        have hs := h
        unfold soundX at hs
        rw [if_pos (.inl a0)] at hs
        obtain ⟨_, e2, e3, e4, e5⟩ := of_decide_eq_true hs
        subst e2; subst e3; subst e4; subst e5
        have := rootx_real k neg 0 0 0 false hh hl h a2 an' rodig_zero (by decide) (.inl rfl) w
        rw [show manX 0 0 = 0 from rfl, exactV_zero] at this
        exact this
      · rw [if_neg a0]
        have hs := h
        unfold soundX at hs
        rw [if_neg (by omega)] at hs
        obtain ⟨e1, e2, e3, e4⟩ := of_decide_eq_true hs
        have hw : WordsX hi lo := ⟨e2, hh, hl⟩
        obtain ⟨m1, m2⟩ := mR_size s hw.mant
        have wd := (rt_words m1 m2).2.2
        have := rootx_real k neg s hi lo rest hh hl h a2 an' (rodig_any hw) wd.hi64 (.inr wd.top) w
        have b1 := wd.top
        have b2 := wd.hi64
        generalize rtH (mR s (manX hi lo)) = r at *
        have b : blen (manX r 0) = 128 := blen_at (m := 127) (by unfold manX; omega) (by unfold manX; omega)
        have nz : manX r 0 ≠ 0 := by unfold manX; omega
        have n1 : normN (manX r 0) = r * 2 ^ 64 := by unfold normN; rw [b]; rw [if_neg (by decide), Nat.sub_self, Nat.pow_zero, Nat.div_one]; unfold manX; rw [Nat.add_zero]
        have n2 : lostN (manX r 0) = false := by unfold lostN; rw [b]; rfl
        unfold exactV at this
        rw [if_neg nz, n1, n2, b, Nat.mul_div_cancel _ (by decide), Nat.mod_eq_of_lt b2, Nat.mul_mod_left, Bool.or_false,
          show s / 2 - 127 + ((128 : Nat) : Int) - 1 = s / 2 by omega] at this
        have hh : heldX (s / 2) = s / 2 := by unfold heldX; rw [if_neg (by omega), if_neg (by omega)]
        rw [hh] at this
        exact this
/-! ### Sqrt -/
theorem rootq_no (n : Int) (a : Nat) (hn : isW n = false) (w : World) :
    Calls Tryz.prog 19 #[.int .i64 n, .int .u64 a] w fun e w' => e = .returned (.tuple #[.int .u64 0, codeV 2]) ∧ Below w.heap.size w w' := by
  have k1 := cdecode_no n a hn
  clear hn
  unfold numV at *
  refine cps fun Q hQ => ?_
  go_enter Tryz.func19, Tryz.ntmps19
  go_wp2_with (go_at_call 31; go_must (refine (k1 _).mono ?_); rintro e w1 ⟨rfl, hb1⟩)
  exact hQ.out _ _ ⟨rfl, cmore hb1 _⟩
theorem rround_root (n a : Nat) (hn : Wd n) (ha : a < 2 ^ 64) (w : World) :
    Calls Tryz.prog 33 #[.int .i64 n, root12 (vK n a) (vB n a) (vS n a) (vF n a) 0 false] w fun r w' => r = .returned (.tuple #[.int .u64 (patT2 n a : Nat), .nilIface]) ∧ Below w.heap.size w w' := by
  unfold root12 patT2
  by_cases h : vK n a = 2 ∨ vB n a = true
  · rw [if_pos h, if_pos h]
    exact rround_nar n hn w
  · rw [if_neg h, if_neg h]
    by_cases h0 : vK n a = 0
    · rw [if_pos h0, if_pos h0]
      exact rround_zero n hn w
    · rw [if_neg h0, if_neg h0, Bool.or_false]
      have a1 := real_or n a hn (fun c => h (.inl c)) h0
      obtain ⟨_, _, _, _, _, _, wa, s1, s2⟩ := v_real n a hn ha a1
      have hw := wd_le hn
      obtain ⟨m1, m2⟩ := mR_size (vS n a) wa.mant
      have wd := (rt_words m1 m2).2.2
      unfold mgT
      refine rround_real n false _ _ 0 _ hn ?_ wd w
      unfold soundX
      rw [if_neg (by decide)]
      exact decide_eq_true ⟨rfl, wd.top, by omega, by omega⟩
theorem rootq_ok (n a : Nat) (hn : Wd n) (ha : a < 2 ^ 64) (w : World) :
    Calls Tryz.prog 19 #[.int .i64 n, .int .u64 a] w fun e w' => e = .returned (.tuple #[.int .u64 (patT2 n a : Nat), .nilIface]) ∧ Below w.heap.size w w' := by
  have k1 := cdecode_v n a hn ha
  have hfl := vF_lt n a
  have k2 := rndof_ok (vK n a) (vB n a) (vS n a) (vF n a) hfl (sound_v n a hn ha)
  have hsx : soundX (vK n a) (vB n a) (vS n a) (vF n a) 0 false = true := by
    by_cases k1' : vK n a = 1
    · obtain ⟨_, _, _, _, _, _, wa, s1, s2⟩ := v_real n a hn ha k1'
      have hw := wd_le hn
      unfold soundX
      rw [k1', if_neg (by decide)]
      exact decide_eq_true ⟨rfl, wa.top, by omega, by omega⟩
    · obtain ⟨e1, e2, e3⟩ := v_other n a k1'
      unfold soundX
      rw [e1, e2, e3]
      rcases v_kinds n a hn with ⟨c, _⟩ | c | ⟨c, _⟩
      · rw [c]; rfl
      · exact absurd c k1'
      · rw [c]; rfl
  have k3 := rootx_ok (vK n a) (vB n a) (vS n a) (vF n a) 0 false hfl (by decide) hsx
  have k4 := rround_root n a hn ha
  obtain ⟨K, B, S, H, L, R, hform⟩ := root12_form (vK n a) (vB n a) (vS n a) (vF n a) 0 false
  rw [hform] at k3 k4
  clear hn ha hfl hsx hform
  unfold numV exV at *
  rw [show ((0 : Nat) : Int) = 0 from rfl] at *
  generalize patT2 n a = P at *
  generalize vK n a = ka at *
  generalize vB n a = ba at *
  generalize vS n a = sa at *
  generalize vF n a = fa at *
  refine cps fun Q hQ => ?_
  go_enter Tryz.func19, Tryz.ntmps19
  go_wp2_with (first
    | (go_at_call 31; go_must (refine (k1 _).mono ?_); rintro e w1 ⟨rfl, hb1⟩; have HB1 : Hid (Below _ _ _) := hb1; clear hb1)
    | (go_at_call 36; go_must (refine (k2 _).mono ?_); rintro e w2 ⟨rfl, hb2⟩; have R2_0 := (hb2.block (w1.heap.size) (by first | (simp; done) | (simp; omega) | omega)).trans (rownew' _ _ _ _ (by simp)); have z2_0 : w1.heap.size < w2.heap.size := Nat.lt_of_lt_of_le (by first | (simp; done) | (simp; omega) | omega) hb2.size; have c2_0_0 := rowcell R2_0 0; have c2_0_1 := rowcell R2_0 1; have c2_0_2 := rowcell R2_0 2; have c2_0_3 := rowcell R2_0 3; simp only [List.getElem?_toArray, List.getElem?_cons_zero, List.getElem?_cons_succ] at c2_0_0 c2_0_1 c2_0_2 c2_0_3; have HR2_0 : Hid _ := R2_0; clear R2_0; have HB2 : Hid (Below _ _ _) := hb2; clear hb2)
    | (go_at_call 37; go_must (refine (k3 _).mono ?_); rintro e w3 ⟨rfl, hb3⟩; have R3_0 := (hb3.block (w1.heap.size) (by first | (simp; done) | (simp; omega) | omega)).trans ((Below.heap_alloc _ _ _ (by first | (simp; done) | (simp; omega) | omega)).trans HR2_0.out); have z3_0 : w1.heap.size < w3.heap.size := Nat.lt_of_lt_of_le (by first | (simp; done) | (simp; omega) | omega) hb3.size; have HR3_0 : Hid _ := R3_0; clear R3_0; have R3_1 := (hb3.block (w2.heap.size) (by first | (simp; done) | (simp; omega) | omega)).trans (rownew' _ _ _ _ (by simp)); have z3_1 : w2.heap.size < w3.heap.size := Nat.lt_of_lt_of_le (by first | (simp; done) | (simp; omega) | omega) hb3.size; have c3_1_0 := rowcell R3_1 0; have c3_1_1 := rowcell R3_1 1; have c3_1_2 := rowcell R3_1 2; have c3_1_3 := rowcell R3_1 3; have c3_1_4 := rowcell R3_1 4; have c3_1_5 := rowcell R3_1 5; simp only [List.getElem?_toArray, List.getElem?_cons_zero, List.getElem?_cons_succ] at c3_1_0 c3_1_1 c3_1_2 c3_1_3 c3_1_4 c3_1_5; have HR3_1 : Hid _ := R3_1; clear R3_1; have HB3 : Hid (Below _ _ _) := hb3; clear hb3)
    | (go_at_call 33; go_must (refine (k4 _).mono ?_); rintro e w4 ⟨rfl, hb4⟩; have R4_0 := (hb4.block (w1.heap.size) (by first | (simp; done) | (simp; omega) | omega)).trans ((Below.heap_alloc _ _ _ (by first | (simp; done) | (simp; omega) | omega)).trans HR3_0.out); have z4_0 : w1.heap.size < w4.heap.size := Nat.lt_of_lt_of_le (by first | (simp; done) | (simp; omega) | omega) hb4.size; have HR4_0 : Hid _ := R4_0; clear R4_0; have R4_1 := (hb4.block (w2.heap.size) (by first | (simp; done) | (simp; omega) | omega)).trans ((Below.heap_alloc _ _ _ (by first | (simp; done) | (simp; omega) | omega)).trans HR3_1.out); have z4_1 : w2.heap.size < w4.heap.size := Nat.lt_of_lt_of_le (by first | (simp; done) | (simp; omega) | omega) hb4.size; have HR4_1 : Hid _ := R4_1; clear R4_1; have R4_2 := (hb4.block (w3.heap.size) (by first | (simp; done) | (simp; omega) | omega)).trans (rownew' _ _ _ _ (by simp)); have z4_2 : w3.heap.size < w4.heap.size := Nat.lt_of_lt_of_le (by first | (simp; done) | (simp; omega) | omega) hb4.size; have HR4_2 : Hid _ := R4_2; clear R4_2; have HB4 : Hid (Below _ _ _) := hb4; clear hb4))
  exact hQ.out _ _ ⟨rfl, cthen (cmore (cthen (cmore (cthen (cmore (cthen (Below.refl _ _) HB1.out) _) HB2.out) _) HB3.out) _) HB4.out⟩
end Go.Proofs.YtheliihkkoohnabGreat

namespace Go.Proofs.YtheliihkkoohnabGreat
open Go.ChangeShapes Go.WideShapes Go.ChangeAt Go.RowKit
set_option linter.unusedVariables false
set_option linter.unusedSimpArgs false
set_option maxRecDepth 100000

set_option maxHeartbeats 2000000 in
theorem pexact_nar1 (k : Int) (neg : Bool) (s : Int) (f : Nat) (k' : Int) (neg' : Bool) (s' : Int) (g : Nat) (hf : f < 2 ^ 64) (hg : g < 2 ^ 64) (h1 : soundN k neg s f = true) (h2 : soundN k' neg' s' g = true) (hk : k = 2) (w : World) :
    Calls Tryz.prog 34 #[numV k neg s f, numV k' neg' s' g] w fun e w' => e = .returned (.tuple #[exV 2 false 0 0 0 false, .nilIface]) ∧ Below w.heap.size w w' := by
  have k1 := rndof_ok k neg s f hf h1
  have k2 := rndof_ok k' neg' s' g hg h2
  have d1 : (k == 2) = true := by rw [hk]; rfl
  clear hk
  clear hf hg h1 h2
  unfold numV exV at *
  rw [show ((0 : Nat) : Int) = 0 from rfl] at *
  have i0 : ∀ w, (Instr.index 89 (.agg #[.int .i64 k, .bool neg, .int .i64 s, .int .u64 f, .int .i64 k', .bool neg', .int .i64 s', .int .u64 g]) (.int .i64 0)).run Tryz.prog w = .ok (.agg #[.int .i64 k, .bool neg, .int .i64 s, .int .u64 f]) w := fun _ => by kernel_rfl
  have i1 : ∀ w, (Instr.index 89 (.agg #[.int .i64 k, .bool neg, .int .i64 s, .int .u64 f, .int .i64 k', .bool neg', .int .i64 s', .int .u64 g]) (.int .i64 1)).run Tryz.prog w = .ok (.agg #[.int .i64 k', .bool neg', .int .i64 s', .int .u64 g]) w := fun _ => by kernel_rfl
  refine cps fun Q hQ => ?_
  go_enter Tryz.func34, Tryz.ntmps34
  go_wp2
  refine wp_loop_rounds 3 ?_
  rw [rounds_succ]
  go_wp2_with (first
    | (go_at_call 36; go_must (refine (k1 _).mono ?_); rintro e w1 ⟨rfl, hb1⟩; have R1_0 := (hb1.block (w.heap.size) (by first | (simp; done) | (simp; omega) | omega)).trans ((Below.heap_alloc _ _ _ (by first | (simp; done) | (simp; omega) | omega)).trans ((Below.heap_alloc _ _ _ (by first | (simp; done) | (simp; omega) | omega)).trans ((Below.heap_alloc _ _ _ (by first | (simp; done) | (simp; omega) | omega)).trans (rownew' _ _ _ _ (by simp))))); have z1_0 : w.heap.size < w1.heap.size := Nat.lt_of_lt_of_le (by first | (simp; done) | (simp; omega) | omega) hb1.size; have c1_0_0 := rowcell R1_0 0; have c1_0_1 := rowcell R1_0 1; have c1_0_2 := rowcell R1_0 2; have c1_0_3 := rowcell R1_0 3; simp only [List.getElem?_toArray, List.getElem?_cons_zero, List.getElem?_cons_succ] at c1_0_0 c1_0_1 c1_0_2 c1_0_3; have HR1_0 : Hid _ := R1_0; clear R1_0; have R1_1 := (hb1.block (w.heap.size + 1) (by first | (simp; done) | (simp; omega) | omega)).trans ((Below.heap_alloc _ _ _ (by first | (simp; done) | (simp; omega) | omega)).trans ((Below.heap_alloc _ _ _ (by first | (simp; done) | (simp; omega) | omega)).trans (rownew' _ _ _ _ (by simp)))); have z1_1 : w.heap.size + 1 < w1.heap.size := Nat.lt_of_lt_of_le (by first | (simp; done) | (simp; omega) | omega) hb1.size; have c1_1_0 := rowcell R1_1 0; have c1_1_1 := rowcell R1_1 1; have c1_1_2 := rowcell R1_1 2; have c1_1_3 := rowcell R1_1 3; simp only [List.getElem?_toArray, List.getElem?_cons_zero, List.getElem?_cons_succ] at c1_1_0 c1_1_1 c1_1_2 c1_1_3; have HR1_1 : Hid _ := R1_1; clear R1_1; have R1_2 := (hb1.block (w.heap.size + 1 + 1) (by first | (simp; done) | (simp; omega) | omega)).trans ((Below.heap_alloc _ _ _ (by first | (simp; done) | (simp; omega) | omega)).trans (rownew' _ _ _ _ (by simp))); have z1_2 : w.heap.size + 1 + 1 < w1.heap.size := Nat.lt_of_lt_of_le (by first | (simp; done) | (simp; omega) | omega) hb1.size; have c1_2_0 := rowcell R1_2 0; have c1_2_1 := rowcell R1_2 1; have c1_2_2 := rowcell R1_2 2; have c1_2_3 := rowcell R1_2 3; have c1_2_4 := rowcell R1_2 4; have c1_2_5 := rowcell R1_2 5; simp only [List.getElem?_toArray, List.getElem?_cons_zero, List.getElem?_cons_succ] at c1_2_0 c1_2_1 c1_2_2 c1_2_3 c1_2_4 c1_2_5; have HR1_2 : Hid _ := R1_2; clear R1_2; have R1_3 := (hb1.block (w.heap.size + 1 + 1 + 1) (by first | (simp; done) | (simp; omega) | omega)).trans (rownew' _ _ _ _ (by simp)); have z1_3 : w.heap.size + 1 + 1 + 1 < w1.heap.size := Nat.lt_of_lt_of_le (by first | (simp; done) | (simp; omega) | omega) hb1.size; have HR1_3 : Hid _ := R1_3; clear R1_3; have HB1 : Hid (Below _ _ _) := hb1; clear hb1; have f2 := rowfree HR1_2.out))
  rw [rounds_succ]
  go_wp2_with (first
    | (go_at_call 36; have chk := HB1; go_must (refine (k2 _).mono ?_); rintro e w2 ⟨rfl, hb2⟩; have R2_0 := (hb2.block (w.heap.size) (by first | (simp; done) | (simp; omega) | omega)).trans ((Below.heap_alloc _ _ _ (by first | (simp; done) | (simp; omega) | omega)).trans ((Below.heap_alloc _ _ _ (by first | (simp; done) | (simp; omega) | omega)).trans HR1_0.out)); have z2_0 : w.heap.size < w2.heap.size := Nat.lt_of_lt_of_le (by first | (simp; done) | (simp; omega) | omega) hb2.size; have c2_0_0 := rowcell R2_0 0; have c2_0_1 := rowcell R2_0 1; have c2_0_2 := rowcell R2_0 2; have c2_0_3 := rowcell R2_0 3; simp only [List.getElem?_toArray, List.getElem?_cons_zero, List.getElem?_cons_succ] at c2_0_0 c2_0_1 c2_0_2 c2_0_3; have HR2_0 : Hid _ := R2_0; clear R2_0; have R2_1 := (hb2.block (w.heap.size + 1) (by first | (simp; done) | (simp; omega) | omega)).trans ((Below.heap_alloc _ _ _ (by first | (simp; done) | (simp; omega) | omega)).trans ((Below.heap_alloc _ _ _ (by first | (simp; done) | (simp; omega) | omega)).trans HR1_1.out)); have z2_1 : w.heap.size + 1 < w2.heap.size := Nat.lt_of_lt_of_le (by first | (simp; done) | (simp; omega) | omega) hb2.size; have c2_1_0 := rowcell R2_1 0; have c2_1_1 := rowcell R2_1 1; have c2_1_2 := rowcell R2_1 2; have c2_1_3 := rowcell R2_1 3; simp only [List.getElem?_toArray, List.getElem?_cons_zero, List.getElem?_cons_succ] at c2_1_0 c2_1_1 c2_1_2 c2_1_3; have HR2_1 : Hid _ := R2_1; clear R2_1; have R2_2 := (hb2.block (w.heap.size + 1 + 1) (by first | (simp; done) | (simp; omega) | omega)).trans ((Below.heap_alloc _ _ _ (by first | (simp; done) | (simp; omega) | omega)).trans ((Below.heap_alloc _ _ _ (by first | (simp; done) | (simp; omega) | omega)).trans HR1_2.out)); have z2_2 : w.heap.size + 1 + 1 < w2.heap.size := Nat.lt_of_lt_of_le (by first | (simp; done) | (simp; omega) | omega) hb2.size; have c2_2_0 := rowcell R2_2 0; have c2_2_1 := rowcell R2_2 1; have c2_2_2 := rowcell R2_2 2; have c2_2_3 := rowcell R2_2 3; have c2_2_4 := rowcell R2_2 4; have c2_2_5 := rowcell R2_2 5; simp only [List.getElem?_toArray, List.getElem?_cons_zero, List.getElem?_cons_succ] at c2_2_0 c2_2_1 c2_2_2 c2_2_3 c2_2_4 c2_2_5; have HR2_2 : Hid _ := R2_2; clear R2_2; have R2_3 := (hb2.block (w.heap.size + 1 + 1 + 1) (by first | (simp; done) | (simp; omega) | omega)).trans ((Below.heap_alloc _ _ _ (by first | (simp; done) | (simp; omega) | omega)).trans ((Below.heap_alloc _ _ _ (by first | (simp; done) | (simp; omega) | omega)).trans HR1_3.out)); have z2_3 : w.heap.size + 1 + 1 + 1 < w2.heap.size := Nat.lt_of_lt_of_le (by first | (simp; done) | (simp; omega) | omega) hb2.size; have HR2_3 : Hid _ := R2_3; clear R2_3; have R2_4 := (hb2.block (w1.heap.size) (by first | (simp; done) | (simp; omega) | omega)).trans ((Below.heap_alloc _ _ _ (by first | (simp; done) | (simp; omega) | omega)).trans (rownew' _ _ _ _ (by simp))); have z2_4 : w1.heap.size < w2.heap.size := Nat.lt_of_lt_of_le (by first | (simp; done) | (simp; omega) | omega) hb2.size; have HR2_4 : Hid _ := R2_4; clear R2_4; have R2_5 := (hb2.block (w1.heap.size + 1) (by first | (simp; done) | (simp; omega) | omega)).trans (rownew' _ _ _ _ (by simp)); have z2_5 : w1.heap.size + 1 < w2.heap.size := Nat.lt_of_lt_of_le (by first | (simp; done) | (simp; omega) | omega) hb2.size; have HR2_5 : Hid _ := R2_5; clear R2_5; have HB2 : Hid (Below _ _ _) := hb2; clear hb2; have g2 := rowfree HR2_2.out))
  rw [rounds_succ]
  go_wp2
  refine bodyPost_ret (v := .tuple #[.agg #[.int .i64 2, .bool false, .int .i64 0, .int .u64 0, .int .u64 0, .bool false], .nilIface]) (by simp [results, Tryz.results34, go_sem, c2_2_0, c2_2_1, c2_2_2, c2_2_3, c2_2_4, c2_2_5, g2, z2_2]; done) rfl (hQ.out _ _ ⟨rfl, ?_⟩)
  first | exact cmore (cset6 (cthen (cmore (cmore (cthen (cmore (cmore (cmore (cmore (Below.refl _ _) _) _) _) _) HB1.out) _) _) HB2.out) (by omega)) _ | exact cset6 (cmore (cthen (cmore (cmore (cthen (cmore (cmore (cmore (cmore (Below.refl _ _) _) _) _) _) HB1.out) _) _) HB2.out) _) (by omega)
set_option maxHeartbeats 2000000 in
theorem pexact_nar2 (k : Int) (neg : Bool) (s : Int) (f : Nat) (k' : Int) (neg' : Bool) (s' : Int) (g : Nat) (hf : f < 2 ^ 64) (hg : g < 2 ^ 64) (h1 : soundN k neg s f = true) (h2 : soundN k' neg' s' g = true) (hk : k ≠ 2) (hk' : k' = 2) (w : World) :
    Calls Tryz.prog 34 #[numV k neg s f, numV k' neg' s' g] w fun e w' => e = .returned (.tuple #[exV 2 false 0 0 0 false, .nilIface]) ∧ Below w.heap.size w w' := by
  have k1 := rndof_ok k neg s f hf h1
  have k2 := rndof_ok k' neg' s' g hg h2
  have d1 : (k == 2) = false := beq_eq_false_iff_ne.2 hk
  have d2 : (k' == 2) = true := by rw [hk']; rfl
  clear hk hk'
  clear hf hg h1 h2
  unfold numV exV at *
  rw [show ((0 : Nat) : Int) = 0 from rfl] at *
  have i0 : ∀ w, (Instr.index 89 (.agg #[.int .i64 k, .bool neg, .int .i64 s, .int .u64 f, .int .i64 k', .bool neg', .int .i64 s', .int .u64 g]) (.int .i64 0)).run Tryz.prog w = .ok (.agg #[.int .i64 k, .bool neg, .int .i64 s, .int .u64 f]) w := fun _ => by kernel_rfl
  have i1 : ∀ w, (Instr.index 89 (.agg #[.int .i64 k, .bool neg, .int .i64 s, .int .u64 f, .int .i64 k', .bool neg', .int .i64 s', .int .u64 g]) (.int .i64 1)).run Tryz.prog w = .ok (.agg #[.int .i64 k', .bool neg', .int .i64 s', .int .u64 g]) w := fun _ => by kernel_rfl
  refine cps fun Q hQ => ?_
  go_enter Tryz.func34, Tryz.ntmps34
  go_wp2
  refine wp_loop_rounds 3 ?_
  rw [rounds_succ]
  go_wp2_with (first
    | (go_at_call 36; go_must (refine (k1 _).mono ?_); rintro e w1 ⟨rfl, hb1⟩; have R1_0 := (hb1.block (w.heap.size) (by first | (simp; done) | (simp; omega) | omega)).trans ((Below.heap_alloc _ _ _ (by first | (simp; done) | (simp; omega) | omega)).trans ((Below.heap_alloc _ _ _ (by first | (simp; done) | (simp; omega) | omega)).trans ((Below.heap_alloc _ _ _ (by first | (simp; done) | (simp; omega) | omega)).trans (rownew' _ _ _ _ (by simp))))); have z1_0 : w.heap.size < w1.heap.size := Nat.lt_of_lt_of_le (by first | (simp; done) | (simp; omega) | omega) hb1.size; have c1_0_0 := rowcell R1_0 0; have c1_0_1 := rowcell R1_0 1; have c1_0_2 := rowcell R1_0 2; have c1_0_3 := rowcell R1_0 3; simp only [List.getElem?_toArray, List.getElem?_cons_zero, List.getElem?_cons_succ] at c1_0_0 c1_0_1 c1_0_2 c1_0_3; have HR1_0 : Hid _ := R1_0; clear R1_0; have R1_1 := (hb1.block (w.heap.size + 1) (by first | (simp; done) | (simp; omega) | omega)).trans ((Below.heap_alloc _ _ _ (by first | (simp; done) | (simp; omega) | omega)).trans ((Below.heap_alloc _ _ _ (by first | (simp; done) | (simp; omega) | omega)).trans (rownew' _ _ _ _ (by simp)))); have z1_1 : w.heap.size + 1 < w1.heap.size := Nat.lt_of_lt_of_le (by first | (simp; done) | (simp; omega) | omega) hb1.size; have c1_1_0 := rowcell R1_1 0; have c1_1_1 := rowcell R1_1 1; have c1_1_2 := rowcell R1_1 2; have c1_1_3 := rowcell R1_1 3; simp only [List.getElem?_toArray, List.getElem?_cons_zero, List.getElem?_cons_succ] at c1_1_0 c1_1_1 c1_1_2 c1_1_3; have HR1_1 : Hid _ := R1_1; clear R1_1; have R1_2 := (hb1.block (w.heap.size + 1 + 1) (by first | (simp; done) | (simp; omega) | omega)).trans ((Below.heap_alloc _ _ _ (by first | (simp; done) | (simp; omega) | omega)).trans (rownew' _ _ _ _ (by simp))); have z1_2 : w.heap.size + 1 + 1 < w1.heap.size := Nat.lt_of_lt_of_le (by first | (simp; done) | (simp; omega) | omega) hb1.size; have c1_2_0 := rowcell R1_2 0; have c1_2_1 := rowcell R1_2 1; have c1_2_2 := rowcell R1_2 2; have c1_2_3 := rowcell R1_2 3; have c1_2_4 := rowcell R1_2 4; have c1_2_5 := rowcell R1_2 5; simp only [List.getElem?_toArray, List.getElem?_cons_zero, List.getElem?_cons_succ] at c1_2_0 c1_2_1 c1_2_2 c1_2_3 c1_2_4 c1_2_5; have HR1_2 : Hid _ := R1_2; clear R1_2; have R1_3 := (hb1.block (w.heap.size + 1 + 1 + 1) (by first | (simp; done) | (simp; omega) | omega)).trans (rownew' _ _ _ _ (by simp)); have z1_3 : w.heap.size + 1 + 1 + 1 < w1.heap.size := Nat.lt_of_lt_of_le (by first | (simp; done) | (simp; omega) | omega) hb1.size; have HR1_3 : Hid _ := R1_3; clear R1_3; have HB1 : Hid (Below _ _ _) := hb1; clear hb1; have f2 := rowfree HR1_2.out))
  rw [rounds_succ]
  go_wp2_with (first
    | (go_at_call 36; have chk := HB1; go_must (refine (k2 _).mono ?_); rintro e w2 ⟨rfl, hb2⟩; have R2_0 := (hb2.block (w.heap.size) (by first | (simp; done) | (simp; omega) | omega)).trans ((Below.heap_alloc _ _ _ (by first | (simp; done) | (simp; omega) | omega)).trans ((Below.heap_alloc _ _ _ (by first | (simp; done) | (simp; omega) | omega)).trans HR1_0.out)); have z2_0 : w.heap.size < w2.heap.size := Nat.lt_of_lt_of_le (by first | (simp; done) | (simp; omega) | omega) hb2.size; have c2_0_0 := rowcell R2_0 0; have c2_0_1 := rowcell R2_0 1; have c2_0_2 := rowcell R2_0 2; have c2_0_3 := rowcell R2_0 3; simp only [List.getElem?_toArray, List.getElem?_cons_zero, List.getElem?_cons_succ] at c2_0_0 c2_0_1 c2_0_2 c2_0_3; have HR2_0 : Hid _ := R2_0; clear R2_0; have R2_1 := (hb2.block (w.heap.size + 1) (by first | (simp; done) | (simp; omega) | omega)).trans ((Below.heap_alloc _ _ _ (by first | (simp; done) | (simp; omega) | omega)).trans ((Below.heap_alloc _ _ _ (by first | (simp; done) | (simp; omega) | omega)).trans HR1_1.out)); have z2_1 : w.heap.size + 1 < w2.heap.size := Nat.lt_of_lt_of_le (by first | (simp; done) | (simp; omega) | omega) hb2.size; have c2_1_0 := rowcell R2_1 0; have c2_1_1 := rowcell R2_1 1; have c2_1_2 := rowcell R2_1 2; have c2_1_3 := rowcell R2_1 3; simp only [List.getElem?_toArray, List.getElem?_cons_zero, List.getElem?_cons_succ] at c2_1_0 c2_1_1 c2_1_2 c2_1_3; have HR2_1 : Hid _ := R2_1; clear R2_1; have R2_2 := (hb2.block (w.heap.size + 1 + 1) (by first | (simp; done) | (simp; omega) | omega)).trans ((Below.heap_alloc _ _ _ (by first | (simp; done) | (simp; omega) | omega)).trans ((Below.heap_alloc _ _ _ (by first | (simp; done) | (simp; omega) | omega)).trans HR1_2.out)); have z2_2 : w.heap.size + 1 + 1 < w2.heap.size := Nat.lt_of_lt_of_le (by first | (simp; done) | (simp; omega) | omega) hb2.size; have c2_2_0 := rowcell R2_2 0; have c2_2_1 := rowcell R2_2 1; have c2_2_2 := rowcell R2_2 2; have c2_2_3 := rowcell R2_2 3; have c2_2_4 := rowcell R2_2 4; have c2_2_5 := rowcell R2_2 5; simp only [List.getElem?_toArray, List.getElem?_cons_zero, List.getElem?_cons_succ] at c2_2_0 c2_2_1 c2_2_2 c2_2_3 c2_2_4 c2_2_5; have HR2_2 : Hid _ := R2_2; clear R2_2; have R2_3 := (hb2.block (w.heap.size + 1 + 1 + 1) (by first | (simp; done) | (simp; omega) | omega)).trans ((Below.heap_alloc _ _ _ (by first | (simp; done) | (simp; omega) | omega)).trans ((Below.heap_alloc _ _ _ (by first | (simp; done) | (simp; omega) | omega)).trans HR1_3.out)); have z2_3 : w.heap.size + 1 + 1 + 1 < w2.heap.size := Nat.lt_of_lt_of_le (by first | (simp; done) | (simp; omega) | omega) hb2.size; have HR2_3 : Hid _ := R2_3; clear R2_3; have R2_4 := (hb2.block (w1.heap.size) (by first | (simp; done) | (simp; omega) | omega)).trans ((Below.heap_alloc _ _ _ (by first | (simp; done) | (simp; omega) | omega)).trans (rownew' _ _ _ _ (by simp))); have z2_4 : w1.heap.size < w2.heap.size := Nat.lt_of_lt_of_le (by first | (simp; done) | (simp; omega) | omega) hb2.size; have HR2_4 : Hid _ := R2_4; clear R2_4; have R2_5 := (hb2.block (w1.heap.size + 1) (by first | (simp; done) | (simp; omega) | omega)).trans (rownew' _ _ _ _ (by simp)); have z2_5 : w1.heap.size + 1 < w2.heap.size := Nat.lt_of_lt_of_le (by first | (simp; done) | (simp; omega) | omega) hb2.size; have HR2_5 : Hid _ := R2_5; clear R2_5; have HB2 : Hid (Below _ _ _) := hb2; clear hb2; have g2 := rowfree HR2_2.out))
  rw [rounds_succ]
  go_wp2
  refine bodyPost_ret (v := .tuple #[.agg #[.int .i64 2, .bool false, .int .i64 0, .int .u64 0, .int .u64 0, .bool false], .nilIface]) (by simp [results, Tryz.results34, go_sem, c2_2_0, c2_2_1, c2_2_2, c2_2_3, c2_2_4, c2_2_5, g2, z2_2]; done) rfl (hQ.out _ _ ⟨rfl, ?_⟩)
  first | exact cmore (cset6 (cthen (cmore (cmore (cthen (cmore (cmore (cmore (cmore (Below.refl _ _) _) _) _) _) HB1.out) _) _) HB2.out) (by omega)) _ | exact cset6 (cmore (cthen (cmore (cmore (cthen (cmore (cmore (cmore (cmore (Below.refl _ _) _) _) _) _) HB1.out) _) _) HB2.out) _) (by omega)
set_option maxHeartbeats 2000000 in
theorem pexact_real (k : Int) (neg : Bool) (s : Int) (f : Nat) (k' : Int) (neg' : Bool) (s' : Int) (g : Nat) (hf : f < 2 ^ 64) (hg : g < 2 ^ 64) (h1 : soundN k neg s f = true) (h2 : soundN k' neg' s' g = true) (hk : k ≠ 2) (hk' : k' ≠ 2) (w : World) :
    Calls Tryz.prog 34 #[numV k neg s f, numV k' neg' s' g] w fun e w' => e = .returned (.tuple #[exactV (xorB neg neg') (f * g) (s + s' - 126) false, .nilIface]) ∧ Below w.heap.size w w' := by
  have k1 := rndof_ok k neg s f hf h1
  have k2 := rndof_ok k' neg' s' g hg h2
  have hb1 : -1073741824 ≤ s ∧ s ≤ 1073741824 := by
    unfold soundN at h1
    by_cases c : k = 0 ∨ k = 2
    · rw [if_pos c] at h1; have := (of_decide_eq_true h1).2.1; omega
    · rw [if_neg c] at h1; exact (of_decide_eq_true h1).2.2
  have hb2 : -1073741824 ≤ s' ∧ s' ≤ 1073741824 := by
    unfold soundN at h2
    by_cases c : k' = 0 ∨ k' = 2
    · rw [if_pos c] at h2; have := (of_decide_eq_true h2).2.1; omega
    · rw [if_neg c] at h2; exact (of_decide_eq_true h2).2.2
  obtain ⟨p1, p2⟩ : f * g / 2 ^ 64 < 2 ^ 64 ∧ f * g % 2 ^ 64 < 2 ^ 64 := ⟨Nat.div_lt_of_lt_mul (Nat.mul_lt_mul_of_lt_of_le hf (Nat.le_of_lt hg) (by decide)), Nat.mod_lt _ (by decide)⟩
  have hM : manX (f * g / 2 ^ 64) (f * g % 2 ^ 64) = f * g := by
    unfold manX; have := Nat.div_add_mod (f * g) (2 ^ 64); omega
  have k3 := fun w => tmul_any (by omega) (by omega) (⟨by have := Nat.div_add_mod (f * g) (2 ^ 64); omega, by omega, by omega⟩ : Tw (f * g) (f * g / 2 ^ 64) (f * g % 2 ^ 64)) w
  have k4 := rmake_ok (xorB neg neg') (f * g / 2 ^ 64) (f * g % 2 ^ 64) (s + s' - 126) false p1 p2 (by omega) (.inl rfl)
  rw [hM] at k4
  obtain ⟨K, B, S, H, L, R, hform⟩ := exactV_form (xorB neg neg') (f * g) (s + s' - 126) false
  rw [hform] at k4 ⊢
  obtain ⟨xb, hxb⟩ : ∃ xb, xorB neg neg' = xb := ⟨_, rfl⟩
  have x1 : (neg != neg') = xb := by rw [← hxb]; cases neg <;> cases neg' <;> rfl
  have x2 : (!(neg == neg')) = xb := by rw [← hxb]; cases neg <;> cases neg' <;> rfl
  have x3 : (!decide (neg = neg')) = xb := by rw [← hxb]; cases neg <;> cases neg' <;> rfl
  rw [hxb] at k4
  have e1 : IntKind.i64.wrap (s + s') = s + s' := wrapI (by omega)
  have e2 : IntKind.i64.wrap (s + s' - 126) = s + s' - 126 := wrapI (by omega)
  have d1 : (k == 2) = false := beq_eq_false_iff_ne.2 hk
  have d2 : (k' == 2) = false := beq_eq_false_iff_ne.2 hk'
  generalize f * g / 2 ^ 64 = ph at *
  generalize f * g % 2 ^ 64 = pl at *
  clear hform hxb hM p1 p2 hb1 hb2 hk hk'
  clear hf hg h1 h2
  unfold numV exV at *
  rw [show ((0 : Nat) : Int) = 0 from rfl] at *
  have i0 : ∀ w, (Instr.index 89 (.agg #[.int .i64 k, .bool neg, .int .i64 s, .int .u64 f, .int .i64 k', .bool neg', .int .i64 s', .int .u64 g]) (.int .i64 0)).run Tryz.prog w = .ok (.agg #[.int .i64 k, .bool neg, .int .i64 s, .int .u64 f]) w := fun _ => by kernel_rfl
  have i1 : ∀ w, (Instr.index 89 (.agg #[.int .i64 k, .bool neg, .int .i64 s, .int .u64 f, .int .i64 k', .bool neg', .int .i64 s', .int .u64 g]) (.int .i64 1)).run Tryz.prog w = .ok (.agg #[.int .i64 k', .bool neg', .int .i64 s', .int .u64 g]) w := fun _ => by kernel_rfl
  refine cps fun Q hQ => ?_
  go_enter Tryz.func34, Tryz.ntmps34
  go_wp2
  refine wp_loop_rounds 3 ?_
  rw [rounds_succ]
  go_wp2_with (first
    | (go_at_call 36; go_must (refine (k1 _).mono ?_); rintro e w1 ⟨rfl, hb1⟩; have R1_0 := (hb1.block (w.heap.size) (by first | (simp; done) | (simp; omega) | omega)).trans ((Below.heap_alloc _ _ _ (by first | (simp; done) | (simp; omega) | omega)).trans ((Below.heap_alloc _ _ _ (by first | (simp; done) | (simp; omega) | omega)).trans ((Below.heap_alloc _ _ _ (by first | (simp; done) | (simp; omega) | omega)).trans (rownew' _ _ _ _ (by simp))))); have z1_0 : w.heap.size < w1.heap.size := Nat.lt_of_lt_of_le (by first | (simp; done) | (simp; omega) | omega) hb1.size; have c1_0_0 := rowcell R1_0 0; have c1_0_1 := rowcell R1_0 1; have c1_0_2 := rowcell R1_0 2; have c1_0_3 := rowcell R1_0 3; simp only [List.getElem?_toArray, List.getElem?_cons_zero, List.getElem?_cons_succ] at c1_0_0 c1_0_1 c1_0_2 c1_0_3; have HR1_0 : Hid _ := R1_0; clear R1_0; have R1_1 := (hb1.block (w.heap.size + 1) (by first | (simp; done) | (simp; omega) | omega)).trans ((Below.heap_alloc _ _ _ (by first | (simp; done) | (simp; omega) | omega)).trans ((Below.heap_alloc _ _ _ (by first | (simp; done) | (simp; omega) | omega)).trans (rownew' _ _ _ _ (by simp)))); have z1_1 : w.heap.size + 1 < w1.heap.size := Nat.lt_of_lt_of_le (by first | (simp; done) | (simp; omega) | omega) hb1.size; have c1_1_0 := rowcell R1_1 0; have c1_1_1 := rowcell R1_1 1; have c1_1_2 := rowcell R1_1 2; have c1_1_3 := rowcell R1_1 3; simp only [List.getElem?_toArray, List.getElem?_cons_zero, List.getElem?_cons_succ] at c1_1_0 c1_1_1 c1_1_2 c1_1_3; have HR1_1 : Hid _ := R1_1; clear R1_1; have R1_2 := (hb1.block (w.heap.size + 1 + 1) (by first | (simp; done) | (simp; omega) | omega)).trans ((Below.heap_alloc _ _ _ (by first | (simp; done) | (simp; omega) | omega)).trans (rownew' _ _ _ _ (by simp))); have z1_2 : w.heap.size + 1 + 1 < w1.heap.size := Nat.lt_of_lt_of_le (by first | (simp; done) | (simp; omega) | omega) hb1.size; have c1_2_0 := rowcell R1_2 0; have c1_2_1 := rowcell R1_2 1; have c1_2_2 := rowcell R1_2 2; have c1_2_3 := rowcell R1_2 3; have c1_2_4 := rowcell R1_2 4; have c1_2_5 := rowcell R1_2 5; simp only [List.getElem?_toArray, List.getElem?_cons_zero, List.getElem?_cons_succ] at c1_2_0 c1_2_1 c1_2_2 c1_2_3 c1_2_4 c1_2_5; have HR1_2 : Hid _ := R1_2; clear R1_2; have R1_3 := (hb1.block (w.heap.size + 1 + 1 + 1) (by first | (simp; done) | (simp; omega) | omega)).trans (rownew' _ _ _ _ (by simp)); have z1_3 : w.heap.size + 1 + 1 + 1 < w1.heap.size := Nat.lt_of_lt_of_le (by first | (simp; done) | (simp; omega) | omega) hb1.size; have HR1_3 : Hid _ := R1_3; clear R1_3; have HB1 : Hid (Below _ _ _) := hb1; clear hb1; have f2 := rowfree HR1_2.out))
  rw [rounds_succ]
  go_wp2_with (first
    | (go_at_call 36; have chk := HB1; go_must (refine (k2 _).mono ?_); rintro e w2 ⟨rfl, hb2⟩; have R2_0 := (hb2.block (w.heap.size) (by first | (simp; done) | (simp; omega) | omega)).trans ((Below.heap_alloc _ _ _ (by first | (simp; done) | (simp; omega) | omega)).trans ((Below.heap_alloc _ _ _ (by first | (simp; done) | (simp; omega) | omega)).trans HR1_0.out)); have z2_0 : w.heap.size < w2.heap.size := Nat.lt_of_lt_of_le (by first | (simp; done) | (simp; omega) | omega) hb2.size; have c2_0_0 := rowcell R2_0 0; have c2_0_1 := rowcell R2_0 1; have c2_0_2 := rowcell R2_0 2; have c2_0_3 := rowcell R2_0 3; simp only [List.getElem?_toArray, List.getElem?_cons_zero, List.getElem?_cons_succ] at c2_0_0 c2_0_1 c2_0_2 c2_0_3; have HR2_0 : Hid _ := R2_0; clear R2_0; have R2_1 := (hb2.block (w.heap.size + 1) (by first | (simp; done) | (simp; omega) | omega)).trans ((Below.heap_alloc _ _ _ (by first | (simp; done) | (simp; omega) | omega)).trans ((Below.heap_alloc _ _ _ (by first | (simp; done) | (simp; omega) | omega)).trans HR1_1.out)); have z2_1 : w.heap.size + 1 < w2.heap.size := Nat.lt_of_lt_of_le (by first | (simp; done) | (simp; omega) | omega) hb2.size; have c2_1_0 := rowcell R2_1 0; have c2_1_1 := rowcell R2_1 1; have c2_1_2 := rowcell R2_1 2; have c2_1_3 := rowcell R2_1 3; simp only [List.getElem?_toArray, List.getElem?_cons_zero, List.getElem?_cons_succ] at c2_1_0 c2_1_1 c2_1_2 c2_1_3; have HR2_1 : Hid _ := R2_1; clear R2_1; have R2_2 := (hb2.block (w.heap.size + 1 + 1) (by first | (simp; done) | (simp; omega) | omega)).trans ((Below.heap_alloc _ _ _ (by first | (simp; done) | (simp; omega) | omega)).trans ((Below.heap_alloc _ _ _ (by first | (simp; done) | (simp; omega) | omega)).trans HR1_2.out)); have z2_2 : w.heap.size + 1 + 1 < w2.heap.size := Nat.lt_of_lt_of_le (by first | (simp; done) | (simp; omega) | omega) hb2.size; have c2_2_0 := rowcell R2_2 0; have c2_2_1 := rowcell R2_2 1; have c2_2_2 := rowcell R2_2 2; have c2_2_3 := rowcell R2_2 3; have c2_2_4 := rowcell R2_2 4; have c2_2_5 := rowcell R2_2 5; simp only [List.getElem?_toArray, List.getElem?_cons_zero, List.getElem?_cons_succ] at c2_2_0 c2_2_1 c2_2_2 c2_2_3 c2_2_4 c2_2_5; have HR2_2 : Hid _ := R2_2; clear R2_2; have R2_3 := (hb2.block (w.heap.size + 1 + 1 + 1) (by first | (simp; done) | (simp; omega) | omega)).trans ((Below.heap_alloc _ _ _ (by first | (simp; done) | (simp; omega) | omega)).trans ((Below.heap_alloc _ _ _ (by first | (simp; done) | (simp; omega) | omega)).trans HR1_3.out)); have z2_3 : w.heap.size + 1 + 1 + 1 < w2.heap.size := Nat.lt_of_lt_of_le (by first | (simp; done) | (simp; omega) | omega) hb2.size; have HR2_3 : Hid _ := R2_3; clear R2_3; have R2_4 := (hb2.block (w1.heap.size) (by first | (simp; done) | (simp; omega) | omega)).trans ((Below.heap_alloc _ _ _ (by first | (simp; done) | (simp; omega) | omega)).trans (rownew' _ _ _ _ (by simp))); have z2_4 : w1.heap.size < w2.heap.size := Nat.lt_of_lt_of_le (by first | (simp; done) | (simp; omega) | omega) hb2.size; have HR2_4 : Hid _ := R2_4; clear R2_4; have R2_5 := (hb2.block (w1.heap.size + 1) (by first | (simp; done) | (simp; omega) | omega)).trans (rownew' _ _ _ _ (by simp)); have z2_5 : w1.heap.size + 1 < w2.heap.size := Nat.lt_of_lt_of_le (by first | (simp; done) | (simp; omega) | omega) hb2.size; have HR2_5 : Hid _ := R2_5; clear R2_5; have HB2 : Hid (Below _ _ _) := hb2; clear hb2; have g2 := rowfree HR2_2.out))
  rw [rounds_succ]
  go_wp2_with (first
    | (go_at_call 55; go_must (refine (k3 _).mono ?_); rintro e w3 ⟨rfl, hb3⟩; have R3_0 := (hb3.block (w.heap.size) (by first | (simp; done) | (simp; omega) | omega)).trans ((Below.heap_alloc _ _ _ (by first | (simp; done) | (simp; omega) | omega)).trans HR2_0.out); have z3_0 : w.heap.size < w3.heap.size := Nat.lt_of_lt_of_le (by first | (simp; done) | (simp; omega) | omega) hb3.size; have c3_0_0 := rowcell R3_0 0; have c3_0_1 := rowcell R3_0 1; have c3_0_2 := rowcell R3_0 2; have c3_0_3 := rowcell R3_0 3; simp only [List.getElem?_toArray, List.getElem?_cons_zero, List.getElem?_cons_succ] at c3_0_0 c3_0_1 c3_0_2 c3_0_3; have HR3_0 : Hid _ := R3_0; clear R3_0; have R3_1 := (hb3.block (w.heap.size + 1) (by first | (simp; done) | (simp; omega) | omega)).trans ((Below.heap_alloc _ _ _ (by first | (simp; done) | (simp; omega) | omega)).trans HR2_1.out); have z3_1 : w.heap.size + 1 < w3.heap.size := Nat.lt_of_lt_of_le (by first | (simp; done) | (simp; omega) | omega) hb3.size; have c3_1_0 := rowcell R3_1 0; have c3_1_1 := rowcell R3_1 1; have c3_1_2 := rowcell R3_1 2; have c3_1_3 := rowcell R3_1 3; simp only [List.getElem?_toArray, List.getElem?_cons_zero, List.getElem?_cons_succ] at c3_1_0 c3_1_1 c3_1_2 c3_1_3; have HR3_1 : Hid _ := R3_1; clear R3_1; have R3_2 := (hb3.block (w.heap.size + 1 + 1) (by first | (simp; done) | (simp; omega) | omega)).trans ((Below.heap_alloc _ _ _ (by first | (simp; done) | (simp; omega) | omega)).trans HR2_2.out); have z3_2 : w.heap.size + 1 + 1 < w3.heap.size := Nat.lt_of_lt_of_le (by first | (simp; done) | (simp; omega) | omega) hb3.size; have HR3_2 : Hid _ := R3_2; clear R3_2; have R3_3 := (hb3.block (w.heap.size + 1 + 1 + 1) (by first | (simp; done) | (simp; omega) | omega)).trans ((Below.heap_alloc _ _ _ (by first | (simp; done) | (simp; omega) | omega)).trans HR2_3.out); have z3_3 : w.heap.size + 1 + 1 + 1 < w3.heap.size := Nat.lt_of_lt_of_le (by first | (simp; done) | (simp; omega) | omega) hb3.size; have HR3_3 : Hid _ := R3_3; clear R3_3; have R3_4 := (hb3.block (w1.heap.size) (by first | (simp; done) | (simp; omega) | omega)).trans ((Below.heap_alloc _ _ _ (by first | (simp; done) | (simp; omega) | omega)).trans HR2_4.out); have z3_4 : w1.heap.size < w3.heap.size := Nat.lt_of_lt_of_le (by first | (simp; done) | (simp; omega) | omega) hb3.size; have HR3_4 : Hid _ := R3_4; clear R3_4; have R3_5 := (hb3.block (w1.heap.size + 1) (by first | (simp; done) | (simp; omega) | omega)).trans ((Below.heap_alloc _ _ _ (by first | (simp; done) | (simp; omega) | omega)).trans HR2_5.out); have z3_5 : w1.heap.size + 1 < w3.heap.size := Nat.lt_of_lt_of_le (by first | (simp; done) | (simp; omega) | omega) hb3.size; have HR3_5 : Hid _ := R3_5; clear R3_5; have R3_6 := (hb3.block (w2.heap.size) (by first | (simp; done) | (simp; omega) | omega)).trans (rownew' _ _ _ _ (by simp)); have z3_6 : w2.heap.size < w3.heap.size := Nat.lt_of_lt_of_le (by first | (simp; done) | (simp; omega) | omega) hb3.size; have HR3_6 : Hid _ := R3_6; clear R3_6; have HB3 : Hid (Below _ _ _) := hb3; clear hb3)
    | (go_at_call 56; go_must (refine (k4 _).mono ?_); rintro e w4 ⟨rfl, hb4⟩; have R4_0 := (hb4.block (w.heap.size) (by first | (simp; done) | (simp; omega) | omega)).trans ((Below.heap_alloc _ _ _ (by first | (simp; done) | (simp; omega) | omega)).trans HR3_0.out); have z4_0 : w.heap.size < w4.heap.size := Nat.lt_of_lt_of_le (by first | (simp; done) | (simp; omega) | omega) hb4.size; have HR4_0 : Hid _ := R4_0; clear R4_0; have R4_1 := (hb4.block (w.heap.size + 1) (by first | (simp; done) | (simp; omega) | omega)).trans ((Below.heap_alloc _ _ _ (by first | (simp; done) | (simp; omega) | omega)).trans HR3_1.out); have z4_1 : w.heap.size + 1 < w4.heap.size := Nat.lt_of_lt_of_le (by first | (simp; done) | (simp; omega) | omega) hb4.size; have HR4_1 : Hid _ := R4_1; clear R4_1; have R4_2 := (hb4.block (w.heap.size + 1 + 1) (by first | (simp; done) | (simp; omega) | omega)).trans ((Below.heap_alloc _ _ _ (by first | (simp; done) | (simp; omega) | omega)).trans HR3_2.out); have z4_2 : w.heap.size + 1 + 1 < w4.heap.size := Nat.lt_of_lt_of_le (by first | (simp; done) | (simp; omega) | omega) hb4.size; have c4_2_0 := rowcell R4_2 0; have c4_2_1 := rowcell R4_2 1; have c4_2_2 := rowcell R4_2 2; have c4_2_3 := rowcell R4_2 3; have c4_2_4 := rowcell R4_2 4; have c4_2_5 := rowcell R4_2 5; simp only [List.getElem?_toArray, List.getElem?_cons_zero, List.getElem?_cons_succ] at c4_2_0 c4_2_1 c4_2_2 c4_2_3 c4_2_4 c4_2_5; have HR4_2 : Hid _ := R4_2; clear R4_2; have R4_3 := (hb4.block (w.heap.size + 1 + 1 + 1) (by first | (simp; done) | (simp; omega) | omega)).trans ((Below.heap_alloc _ _ _ (by first | (simp; done) | (simp; omega) | omega)).trans HR3_3.out); have z4_3 : w.heap.size + 1 + 1 + 1 < w4.heap.size := Nat.lt_of_lt_of_le (by first | (simp; done) | (simp; omega) | omega) hb4.size; have HR4_3 : Hid _ := R4_3; clear R4_3; have R4_4 := (hb4.block (w1.heap.size) (by first | (simp; done) | (simp; omega) | omega)).trans ((Below.heap_alloc _ _ _ (by first | (simp; done) | (simp; omega) | omega)).trans HR3_4.out); have z4_4 : w1.heap.size < w4.heap.size := Nat.lt_of_lt_of_le (by first | (simp; done) | (simp; omega) | omega) hb4.size; have HR4_4 : Hid _ := R4_4; clear R4_4; have R4_5 := (hb4.block (w1.heap.size + 1) (by first | (simp; done) | (simp; omega) | omega)).trans ((Below.heap_alloc _ _ _ (by first | (simp; done) | (simp; omega) | omega)).trans HR3_5.out); have z4_5 : w1.heap.size + 1 < w4.heap.size := Nat.lt_of_lt_of_le (by first | (simp; done) | (simp; omega) | omega) hb4.size; have HR4_5 : Hid _ := R4_5; clear R4_5; have R4_6 := (hb4.block (w2.heap.size) (by first | (simp; done) | (simp; omega) | omega)).trans ((Below.heap_alloc _ _ _ (by first | (simp; done) | (simp; omega) | omega)).trans HR3_6.out); have z4_6 : w2.heap.size < w4.heap.size := Nat.lt_of_lt_of_le (by first | (simp; done) | (simp; omega) | omega) hb4.size; have HR4_6 : Hid _ := R4_6; clear R4_6; have R4_7 := (hb4.block (w3.heap.size) (by first | (simp; done) | (simp; omega) | omega)).trans (rownew' _ _ _ _ (by simp)); have z4_7 : w3.heap.size < w4.heap.size := Nat.lt_of_lt_of_le (by first | (simp; done) | (simp; omega) | omega) hb4.size; have HR4_7 : Hid _ := R4_7; clear R4_7; have HB4 : Hid (Below _ _ _) := hb4; clear hb4; have e2 := rowfree HR4_2.out))
  refine bodyPost_ret (v := .tuple #[.agg #[.int .i64 K, .bool B, .int .i64 S, .int .u64 H, .int .u64 L, .bool R], .nilIface]) (by simp [results, Tryz.results34, go_sem, c4_2_0, c4_2_1, c4_2_2, c4_2_3, c4_2_4, c4_2_5, e2, z4_2]; done) rfl (hQ.out _ _ ⟨rfl, ?_⟩)
  exact cset6 (cthen (cmore (cthen (cmore (cthen (cmore (cmore (cthen (cmore (cmore (cmore (cmore (Below.refl _ _) _) _) _) _) HB1.out) _) _) HB2.out) _) HB3.out) _) HB4.out) (by omega)
theorem pexact_ok (k : Int) (neg : Bool) (s : Int) (f : Nat) (k' : Int) (neg' : Bool) (s' : Int) (g : Nat) (hf : f < 2 ^ 64) (hg : g < 2 ^ 64) (h1 : soundN k neg s f = true) (h2 : soundN k' neg' s' g = true) (w : World) :
    Calls Tryz.prog 34 #[numV k neg s f, numV k' neg' s' g] w fun e w' => e = .returned (.tuple #[prod10 k neg s f k' neg' s' g, .nilIface]) ∧ Below w.heap.size w w' := by
  have cs : ∀ (k : Int) (neg : Bool) (s : Int) (f : Nat), soundN k neg s f = true → k = 0 → f = 0 := fun k neg s f h c => by
    unfold soundN at h
    rw [if_pos (.inl c)] at h; exact (of_decide_eq_true h).2.2
  unfold prod10
  by_cases a2 : k = 2
  · rw [if_pos (.inl a2)]; exact pexact_nar1 k neg s f k' neg' s' g hf hg h1 h2 a2 w
  · by_cases b2 : k' = 2
    · rw [if_pos (.inr b2)]; exact pexact_nar2 k neg s f k' neg' s' g hf hg h1 h2 a2 b2 w
    · rw [if_neg (by rintro (c | c); exact a2 c; exact b2 c)]
      have hr := pexact_real k neg s f k' neg' s' g hf hg h1 h2 a2 b2 w
      by_cases a0 : k = 0 ∨ k' = 0
      · rw [if_pos a0]
        have hz : f * g = 0 := by
          rcases a0 with c | c
          · rw [cs k neg s f h1 c, Nat.zero_mul]
          · rw [cs k' neg' s' g h2 c, Nat.mul_zero]
        rw [hz, exactV_zero] at hr
        exact hr
      · rw [if_neg a0]; exact hr
/-! ### Mul -/
theorem pmul_no (n : Int) (a b : Nat) (hn : isW n = false) (w : World) :
    Calls Tryz.prog 17 #[.int .i64 n, .int .u64 a, .int .u64 b] w fun e w' => e = .returned (.tuple #[.int .u64 0, codeV 2]) ∧ Below w.heap.size w w' := by
  have k1 := cdecode_no n a hn
  clear hn
  unfold numV at *
  refine cps fun Q hQ => ?_
  go_enter Tryz.func17, Tryz.ntmps17
  go_wp2_with (go_at_call 31; go_must (refine (k1 _).mono ?_); rintro e w1 ⟨rfl, hb1⟩)
  exact hQ.out _ _ ⟨rfl, cmore hb1 _⟩
theorem pmul_ok (n a b : Nat) (hn : Wd n) (ha : a < 2 ^ 64) (hb : b < 2 ^ 64) (w : World) :
    Calls Tryz.prog 17 #[.int .i64 n, .int .u64 a, .int .u64 b] w fun e w' => e = .returned (.tuple #[.int .u64 (patP n a b : Nat), .nilIface]) ∧ Below w.heap.size w w' := by
  have k1 := cdecode_v n a hn ha
  have k2 := cdecode_v n b hn hb
  have k3 := pexact_ok (vK n a) (vB n a) (vS n a) (vF n a) (vK n b) (vB n b) (vS n b) (vF n b) (vF_lt n a) (vF_lt n b) (sound_v n a hn ha) (sound_v n b hn hb)
  rw [prod10_val n a b hn ha hb] at k3
  have k4 : ∀ w, Calls Tryz.prog 33 #[.int .i64 n, if vK n a = 2 ∨ vK n b = 2 then exV 2 false 0 0 0 false else exI (valI n a * valI n b) (eN + eN)] w fun r w' => r = .returned (.tuple #[.int .u64 (patP n a b : Nat), .nilIface]) ∧ Below w.heap.size w w' := by
    intro w
    unfold patP
    by_cases h : vK n a = 2 ∨ vK n b = 2
    · rw [if_pos h, if_pos h]; exact rround_nar n hn w
    · rw [if_neg h, if_neg h]; exact rround_exI n _ _ hn w
  have hform : ∃ K B S H L R, (if vK n a = 2 ∨ vK n b = 2 then exV 2 false 0 0 0 false else exI (valI n a * valI n b) (eN + eN)) = exV K B S H L R := by
    by_cases h : vK n a = 2 ∨ vK n b = 2
    · rw [if_pos h]; exact ⟨_, _, _, _, _, _, rfl⟩
    · rw [if_neg h]; exact exI_form _ _
  obtain ⟨K, B, S, H, L, R, hform⟩ := hform
  rw [hform] at k3 k4
  clear hform hn ha hb
  generalize patP n a b = P at *
  generalize vK n a = ka at *
  generalize vB n a = ba at *
  generalize vS n a = sa at *
  generalize vF n a = fa at *
  generalize vK n b = kb at *
  generalize vB n b = bb at *
  generalize vS n b = sb at *
  generalize vF n b = fb at *
  unfold numV exV at *
  refine cps fun Q hQ => ?_
  go_enter Tryz.func17, Tryz.ntmps17
  go_wp2_with (first
    | (go_at_call 31; have chk := HB1; go_must (refine (k2 _).mono ?_); rintro e w2 ⟨rfl, hb2⟩; have R2_0 := (hb2.block (w1.heap.size) (by first | (simp; done) | (simp; omega) | omega)).trans (rownew' _ _ _ _ (by simp)); have z2_0 : w1.heap.size < w2.heap.size := Nat.lt_of_lt_of_le (by first | (simp; done) | (simp; omega) | omega) hb2.size; have c2_0_0 := rowcell R2_0 0; have c2_0_1 := rowcell R2_0 1; have c2_0_2 := rowcell R2_0 2; have c2_0_3 := rowcell R2_0 3; simp only [List.getElem?_toArray, List.getElem?_cons_zero, List.getElem?_cons_succ] at c2_0_0 c2_0_1 c2_0_2 c2_0_3; have HR2_0 : Hid _ := R2_0; clear R2_0; have HB2 : Hid (Below _ _ _) := hb2; clear hb2)
    | (go_at_call 31; go_must (refine (k1 _).mono ?_); rintro e w1 ⟨rfl, hb1⟩; have HB1 : Hid (Below _ _ _) := hb1; clear hb1)
    | (go_at_call 34; go_must (refine (k3 _).mono ?_); rintro e w3 ⟨rfl, hb3⟩; have R3_0 := (hb3.block (w1.heap.size) (by first | (simp; done) | (simp; omega) | omega)).trans ((Below.heap_alloc _ _ _ (by first | (simp; done) | (simp; omega) | omega)).trans HR2_0.out); have z3_0 : w1.heap.size < w3.heap.size := Nat.lt_of_lt_of_le (by first | (simp; done) | (simp; omega) | omega) hb3.size; have HR3_0 : Hid _ := R3_0; clear R3_0; have R3_1 := (hb3.block (w2.heap.size) (by first | (simp; done) | (simp; omega) | omega)).trans (rownew' _ _ _ _ (by simp)); have z3_1 : w2.heap.size < w3.heap.size := Nat.lt_of_lt_of_le (by first | (simp; done) | (simp; omega) | omega) hb3.size; have HR3_1 : Hid _ := R3_1; clear R3_1; have HB3 : Hid (Below _ _ _) := hb3; clear hb3)
    | (go_at_call 33; go_must (refine (k4 _).mono ?_); rintro e w4 ⟨rfl, hb4⟩; have R4_0 := (hb4.block (w1.heap.size) (by first | (simp; done) | (simp; omega) | omega)).trans ((Below.heap_alloc _ _ _ (by first | (simp; done) | (simp; omega) | omega)).trans HR3_0.out); have z4_0 : w1.heap.size < w4.heap.size := Nat.lt_of_lt_of_le (by first | (simp; done) | (simp; omega) | omega) hb4.size; have HR4_0 : Hid _ := R4_0; clear R4_0; have R4_1 := (hb4.block (w2.heap.size) (by first | (simp; done) | (simp; omega) | omega)).trans ((Below.heap_alloc _ _ _ (by first | (simp; done) | (simp; omega) | omega)).trans HR3_1.out); have z4_1 : w2.heap.size < w4.heap.size := Nat.lt_of_lt_of_le (by first | (simp; done) | (simp; omega) | omega) hb4.size; have HR4_1 : Hid _ := R4_1; clear R4_1; have R4_2 := (hb4.block (w3.heap.size) (by first | (simp; done) | (simp; omega) | omega)).trans (rownew' _ _ _ _ (by simp)); have z4_2 : w3.heap.size < w4.heap.size := Nat.lt_of_lt_of_le (by first | (simp; done) | (simp; omega) | omega) hb4.size; have HR4_2 : Hid _ := R4_2; clear R4_2; have HB4 : Hid (Below _ _ _) := hb4; clear hb4))
  exact hQ.out _ _ ⟨rfl, cthen (cmore (cthen (cmore (cthen (cmore (cthen (Below.refl _ _) HB1.out) _) HB2.out) _) HB3.out) _) HB4.out⟩
/-! ### Power -/
end Go.Proofs.YtheliihkkoohnabGreat

namespace Go.Proofs.YtheliihkkoohnabGreat
open Go.ChangeShapes Go.WideShapes Go.ChangeAt Go.RowKit
set_option linter.unusedVariables false
set_option linter.unusedSimpArgs false
set_option maxRecDepth 100000

/-! ### Exact -/
set_option maxHeartbeats 4000000 in
theorem fusex_x1 (k : Int) (neg : Bool) (s : Int) (hi lo : Nat) (rest : Bool) (k' : Int) (neg' : Bool) (s' : Int) (hi' lo' : Nat) (rest' : Bool) (hh : hi < 2 ^ 64) (hl : lo < 2 ^ 64) (hh' : hi' < 2 ^ 64) (hl' : lo' < 2 ^ 64) (h1 : soundX k neg s hi lo rest = true) (hr : rest = false) (h2 : soundX k' neg' s' hi' lo' rest' = true) (hr' : rest' = false) (hk1 : k = 2) (w : World) :
    Calls Tryz.prog 39 #[exV k neg s hi lo rest, exV k' neg' s' hi' lo' rest'] w fun e w' => e = .returned (.tuple #[exV k neg s hi lo rest, .nilIface]) ∧ Below w.heap.size w w' := by
  obtain ⟨P1, k1⟩ := rround_some k neg s hi lo rest hh hl h1
  obtain ⟨P2, k2⟩ := rround_some k' neg' s' hi' lo' rest' hh' hl' h2
  rw [show ((64 : Nat) : Int) = 64 from rfl] at k1 k2
  subst hr
  subst hr'
  have d1 : (k == 2) = true := by rw [hk1]; rfl
  clear hk1
  clear hh hl hh' hl' h1 h2
  unfold exV at *
  have i0 : ∀ w, (Instr.index 99 (.agg #[.int .i64 k, .bool neg, .int .i64 s, .int .u64 hi, .int .u64 lo, .bool false, .int .i64 k', .bool neg', .int .i64 s', .int .u64 hi', .int .u64 lo', .bool false]) (.int .i64 0)).run Tryz.prog w = .ok (.agg #[.int .i64 k, .bool neg, .int .i64 s, .int .u64 hi, .int .u64 lo, .bool false]) w := fun _ => by kernel_rfl
  have i1 : ∀ w, (Instr.index 99 (.agg #[.int .i64 k, .bool neg, .int .i64 s, .int .u64 hi, .int .u64 lo, .bool false, .int .i64 k', .bool neg', .int .i64 s', .int .u64 hi', .int .u64 lo', .bool false]) (.int .i64 1)).run Tryz.prog w = .ok (.agg #[.int .i64 k', .bool neg', .int .i64 s', .int .u64 hi', .int .u64 lo', .bool false]) w := fun _ => by kernel_rfl
  refine cps fun Q hQ => ?_
  go_enter Tryz.func39, Tryz.ntmps39
  go_wp2
  refine wp_loop_rounds 3 ?_
  rw [rounds_succ]
  go_wp2_with (first
    | (go_at_call 33; go_must (refine (k1 _).mono ?_); rintro e w1 ⟨rfl, hb1⟩; have R1_0 := (hb1.block (w.heap.size) (by first | (simp; done) | (simp; omega) | omega)).trans ((Below.heap_alloc _ _ _ (by first | (simp; done) | (simp; omega) | omega)).trans ((Below.heap_alloc _ _ _ (by first | (simp; done) | (simp; omega) | omega)).trans ((Below.heap_alloc _ _ _ (by first | (simp; done) | (simp; omega) | omega)).trans (rownew' _ _ _ _ (by simp))))); have z1_0 : w.heap.size < w1.heap.size := Nat.lt_of_lt_of_le (by first | (simp; done) | (simp; omega) | omega) hb1.size; have c1_0_0 := rowcell R1_0 0; have c1_0_1 := rowcell R1_0 1; have c1_0_2 := rowcell R1_0 2; have c1_0_3 := rowcell R1_0 3; have c1_0_4 := rowcell R1_0 4; have c1_0_5 := rowcell R1_0 5; simp only [List.getElem?_toArray, List.getElem?_cons_zero, List.getElem?_cons_succ] at c1_0_0 c1_0_1 c1_0_2 c1_0_3 c1_0_4 c1_0_5; have HR1_0 : Hid _ := R1_0; clear R1_0; have R1_1 := (hb1.block (w.heap.size + 1) (by first | (simp; done) | (simp; omega) | omega)).trans ((Below.heap_alloc _ _ _ (by first | (simp; done) | (simp; omega) | omega)).trans ((Below.heap_alloc _ _ _ (by first | (simp; done) | (simp; omega) | omega)).trans (rownew' _ _ _ _ (by simp)))); have z1_1 : w.heap.size + 1 < w1.heap.size := Nat.lt_of_lt_of_le (by first | (simp; done) | (simp; omega) | omega) hb1.size; have c1_1_0 := rowcell R1_1 0; have c1_1_1 := rowcell R1_1 1; have c1_1_2 := rowcell R1_1 2; have c1_1_3 := rowcell R1_1 3; have c1_1_4 := rowcell R1_1 4; have c1_1_5 := rowcell R1_1 5; simp only [List.getElem?_toArray, List.getElem?_cons_zero, List.getElem?_cons_succ] at c1_1_0 c1_1_1 c1_1_2 c1_1_3 c1_1_4 c1_1_5; have HR1_1 : Hid _ := R1_1; clear R1_1; have R1_2 := (hb1.block (w.heap.size + 1 + 1) (by first | (simp; done) | (simp; omega) | omega)).trans ((Below.heap_alloc _ _ _ (by first | (simp; done) | (simp; omega) | omega)).trans (rownew' _ _ _ _ (by simp))); have z1_2 : w.heap.size + 1 + 1 < w1.heap.size := Nat.lt_of_lt_of_le (by first | (simp; done) | (simp; omega) | omega) hb1.size; have c1_2_0 := rowcell R1_2 0; have c1_2_1 := rowcell R1_2 1; have c1_2_2 := rowcell R1_2 2; have c1_2_3 := rowcell R1_2 3; have c1_2_4 := rowcell R1_2 4; have c1_2_5 := rowcell R1_2 5; simp only [List.getElem?_toArray, List.getElem?_cons_zero, List.getElem?_cons_succ] at c1_2_0 c1_2_1 c1_2_2 c1_2_3 c1_2_4 c1_2_5; have HR1_2 : Hid _ := R1_2; clear R1_2; have R1_3 := (hb1.block (w.heap.size + 1 + 1 + 1) (by first | (simp; done) | (simp; omega) | omega)).trans (rownew' _ _ _ _ (by simp)); have z1_3 : w.heap.size + 1 + 1 + 1 < w1.heap.size := Nat.lt_of_lt_of_le (by first | (simp; done) | (simp; omega) | omega) hb1.size; have c1_3_0 := rowcell R1_3 0; have c1_3_1 := rowcell R1_3 1; have c1_3_2 := rowcell R1_3 2; have c1_3_3 := rowcell R1_3 3; have c1_3_4 := rowcell R1_3 4; have c1_3_5 := rowcell R1_3 5; simp only [List.getElem?_toArray, List.getElem?_cons_zero, List.getElem?_cons_succ] at c1_3_0 c1_3_1 c1_3_2 c1_3_3 c1_3_4 c1_3_5; have HR1_3 : Hid _ := R1_3; clear R1_3; have HB1 : Hid (Below _ _ _) := hb1; clear hb1; have f2 := rowfree HR1_2.out))
  rw [rounds_succ]
  go_wp2_with (first
    | (go_at_call 33; have chk := HB1; go_must (refine (k2 _).mono ?_); rintro e w2 ⟨rfl, hb2⟩; have R2_0 := (hb2.block (w.heap.size) (by first | (simp; done) | (simp; omega) | omega)).trans ((Below.heap_alloc _ _ _ (by first | (simp; done) | (simp; omega) | omega)).trans HR1_0.out); have z2_0 : w.heap.size < w2.heap.size := Nat.lt_of_lt_of_le (by first | (simp; done) | (simp; omega) | omega) hb2.size; have c2_0_0 := rowcell R2_0 0; have c2_0_1 := rowcell R2_0 1; have c2_0_2 := rowcell R2_0 2; have c2_0_3 := rowcell R2_0 3; have c2_0_4 := rowcell R2_0 4; have c2_0_5 := rowcell R2_0 5; simp only [List.getElem?_toArray, List.getElem?_cons_zero, List.getElem?_cons_succ] at c2_0_0 c2_0_1 c2_0_2 c2_0_3 c2_0_4 c2_0_5; have HR2_0 : Hid _ := R2_0; clear R2_0; have R2_1 := (hb2.block (w.heap.size + 1) (by first | (simp; done) | (simp; omega) | omega)).trans ((Below.heap_alloc _ _ _ (by first | (simp; done) | (simp; omega) | omega)).trans HR1_1.out); have z2_1 : w.heap.size + 1 < w2.heap.size := Nat.lt_of_lt_of_le (by first | (simp; done) | (simp; omega) | omega) hb2.size; have c2_1_0 := rowcell R2_1 0; have c2_1_1 := rowcell R2_1 1; have c2_1_2 := rowcell R2_1 2; have c2_1_3 := rowcell R2_1 3; have c2_1_4 := rowcell R2_1 4; have c2_1_5 := rowcell R2_1 5; simp only [List.getElem?_toArray, List.getElem?_cons_zero, List.getElem?_cons_succ] at c2_1_0 c2_1_1 c2_1_2 c2_1_3 c2_1_4 c2_1_5; have HR2_1 : Hid _ := R2_1; clear R2_1; have R2_2 := (hb2.block (w.heap.size + 1 + 1) (by first | (simp; done) | (simp; omega) | omega)).trans ((Below.heap_alloc _ _ _ (by first | (simp; done) | (simp; omega) | omega)).trans HR1_2.out); have z2_2 : w.heap.size + 1 + 1 < w2.heap.size := Nat.lt_of_lt_of_le (by first | (simp; done) | (simp; omega) | omega) hb2.size; have c2_2_0 := rowcell R2_2 0; have c2_2_1 := rowcell R2_2 1; have c2_2_2 := rowcell R2_2 2; have c2_2_3 := rowcell R2_2 3; have c2_2_4 := rowcell R2_2 4; have c2_2_5 := rowcell R2_2 5; simp only [List.getElem?_toArray, List.getElem?_cons_zero, List.getElem?_cons_succ] at c2_2_0 c2_2_1 c2_2_2 c2_2_3 c2_2_4 c2_2_5; have HR2_2 : Hid _ := R2_2; clear R2_2; have R2_3 := (hb2.block (w.heap.size + 1 + 1 + 1) (by first | (simp; done) | (simp; omega) | omega)).trans ((Below.heap_alloc _ _ _ (by first | (simp; done) | (simp; omega) | omega)).trans HR1_3.out); have z2_3 : w.heap.size + 1 + 1 + 1 < w2.heap.size := Nat.lt_of_lt_of_le (by first | (simp; done) | (simp; omega) | omega) hb2.size; have HR2_3 : Hid _ := R2_3; clear R2_3; have R2_4 := (hb2.block (w1.heap.size) (by first | (simp; done) | (simp; omega) | omega)).trans (rownew' _ _ _ _ (by simp)); have z2_4 : w1.heap.size < w2.heap.size := Nat.lt_of_lt_of_le (by first | (simp; done) | (simp; omega) | omega) hb2.size; have c2_4_0 := rowcell R2_4 0; have c2_4_1 := rowcell R2_4 1; have c2_4_2 := rowcell R2_4 2; have c2_4_3 := rowcell R2_4 3; have c2_4_4 := rowcell R2_4 4; have c2_4_5 := rowcell R2_4 5; simp only [List.getElem?_toArray, List.getElem?_cons_zero, List.getElem?_cons_succ] at c2_4_0 c2_4_1 c2_4_2 c2_4_3 c2_4_4 c2_4_5; have HR2_4 : Hid _ := R2_4; clear R2_4; have HB2 : Hid (Below _ _ _) := hb2; clear hb2; have g2 := rowfree HR2_2.out))
  rw [rounds_succ]
  go_wp2
  refine bodyPost_ret (v := .tuple #[.agg #[.int .i64 k, .bool neg, .int .i64 s, .int .u64 hi, .int .u64 lo, .bool false], .nilIface]) (by simp [results, Tryz.results39, go_sem, c2_2_0, c2_2_1, c2_2_2, c2_2_3, c2_2_4, c2_2_5, g2, z2_2]; done) rfl (hQ.out _ _ ⟨rfl, ?_⟩)
  exact cset6 (cthen (cmore (cthen (cmore (cmore (cmore (cmore (Below.refl _ _) _) _) _) _) HB1.out) _) HB2.out) (by omega)
set_option maxHeartbeats 4000000 in
theorem fusex_x2 (k : Int) (neg : Bool) (s : Int) (hi lo : Nat) (rest : Bool) (k' : Int) (neg' : Bool) (s' : Int) (hi' lo' : Nat) (rest' : Bool) (hh : hi < 2 ^ 64) (hl : lo < 2 ^ 64) (hh' : hi' < 2 ^ 64) (hl' : lo' < 2 ^ 64) (h1 : soundX k neg s hi lo rest = true) (hr : rest = false) (h2 : soundX k' neg' s' hi' lo' rest' = true) (hr' : rest' = false) (hk1 : k ≠ 2) (hk2 : k' = 0) (w : World) :
    Calls Tryz.prog 39 #[exV k neg s hi lo rest, exV k' neg' s' hi' lo' rest'] w fun e w' => e = .returned (.tuple #[exV k neg s hi lo rest, .nilIface]) ∧ Below w.heap.size w w' := by
  obtain ⟨P1, k1⟩ := rround_some k neg s hi lo rest hh hl h1
  obtain ⟨P2, k2⟩ := rround_some k' neg' s' hi' lo' rest' hh' hl' h2
  rw [show ((64 : Nat) : Int) = 64 from rfl] at k1 k2
  subst hr
  subst hr'
  have d1 : (k == 2) = false := beq_eq_false_iff_ne.2 hk1
  have d2 : (k' == 0) = true := by rw [hk2]; rfl
  clear hk1 hk2
  clear hh hl hh' hl' h1 h2
  unfold exV at *
  have i0 : ∀ w, (Instr.index 99 (.agg #[.int .i64 k, .bool neg, .int .i64 s, .int .u64 hi, .int .u64 lo, .bool false, .int .i64 k', .bool neg', .int .i64 s', .int .u64 hi', .int .u64 lo', .bool false]) (.int .i64 0)).run Tryz.prog w = .ok (.agg #[.int .i64 k, .bool neg, .int .i64 s, .int .u64 hi, .int .u64 lo, .bool false]) w := fun _ => by kernel_rfl
  have i1 : ∀ w, (Instr.index 99 (.agg #[.int .i64 k, .bool neg, .int .i64 s, .int .u64 hi, .int .u64 lo, .bool false, .int .i64 k', .bool neg', .int .i64 s', .int .u64 hi', .int .u64 lo', .bool false]) (.int .i64 1)).run Tryz.prog w = .ok (.agg #[.int .i64 k', .bool neg', .int .i64 s', .int .u64 hi', .int .u64 lo', .bool false]) w := fun _ => by kernel_rfl
  refine cps fun Q hQ => ?_
  go_enter Tryz.func39, Tryz.ntmps39
  go_wp2
  refine wp_loop_rounds 3 ?_
  rw [rounds_succ]
  go_wp2_with (first
    | (go_at_call 33; go_must (refine (k1 _).mono ?_); rintro e w1 ⟨rfl, hb1⟩; have R1_0 := (hb1.block (w.heap.size) (by first | (simp; done) | (simp; omega) | omega)).trans ((Below.heap_alloc _ _ _ (by first | (simp; done) | (simp; omega) | omega)).trans ((Below.heap_alloc _ _ _ (by first | (simp; done) | (simp; omega) | omega)).trans ((Below.heap_alloc _ _ _ (by first | (simp; done) | (simp; omega) | omega)).trans (rownew' _ _ _ _ (by simp))))); have z1_0 : w.heap.size < w1.heap.size := Nat.lt_of_lt_of_le (by first | (simp; done) | (simp; omega) | omega) hb1.size; have c1_0_0 := rowcell R1_0 0; have c1_0_1 := rowcell R1_0 1; have c1_0_2 := rowcell R1_0 2; have c1_0_3 := rowcell R1_0 3; have c1_0_4 := rowcell R1_0 4; have c1_0_5 := rowcell R1_0 5; simp only [List.getElem?_toArray, List.getElem?_cons_zero, List.getElem?_cons_succ] at c1_0_0 c1_0_1 c1_0_2 c1_0_3 c1_0_4 c1_0_5; have HR1_0 : Hid _ := R1_0; clear R1_0; have R1_1 := (hb1.block (w.heap.size + 1) (by first | (simp; done) | (simp; omega) | omega)).trans ((Below.heap_alloc _ _ _ (by first | (simp; done) | (simp; omega) | omega)).trans ((Below.heap_alloc _ _ _ (by first | (simp; done) | (simp; omega) | omega)).trans (rownew' _ _ _ _ (by simp)))); have z1_1 : w.heap.size + 1 < w1.heap.size := Nat.lt_of_lt_of_le (by first | (simp; done) | (simp; omega) | omega) hb1.size; have c1_1_0 := rowcell R1_1 0; have c1_1_1 := rowcell R1_1 1; have c1_1_2 := rowcell R1_1 2; have c1_1_3 := rowcell R1_1 3; have c1_1_4 := rowcell R1_1 4; have c1_1_5 := rowcell R1_1 5; simp only [List.getElem?_toArray, List.getElem?_cons_zero, List.getElem?_cons_succ] at c1_1_0 c1_1_1 c1_1_2 c1_1_3 c1_1_4 c1_1_5; have HR1_1 : Hid _ := R1_1; clear R1_1; have R1_2 := (hb1.block (w.heap.size + 1 + 1) (by first | (simp; done) | (simp; omega) | omega)).trans ((Below.heap_alloc _ _ _ (by first | (simp; done) | (simp; omega) | omega)).trans (rownew' _ _ _ _ (by simp))); have z1_2 : w.heap.size + 1 + 1 < w1.heap.size := Nat.lt_of_lt_of_le (by first | (simp; done) | (simp; omega) | omega) hb1.size; have c1_2_0 := rowcell R1_2 0; have c1_2_1 := rowcell R1_2 1; have c1_2_2 := rowcell R1_2 2; have c1_2_3 := rowcell R1_2 3; have c1_2_4 := rowcell R1_2 4; have c1_2_5 := rowcell R1_2 5; simp only [List.getElem?_toArray, List.getElem?_cons_zero, List.getElem?_cons_succ] at c1_2_0 c1_2_1 c1_2_2 c1_2_3 c1_2_4 c1_2_5; have HR1_2 : Hid _ := R1_2; clear R1_2; have R1_3 := (hb1.block (w.heap.size + 1 + 1 + 1) (by first | (simp; done) | (simp; omega) | omega)).trans (rownew' _ _ _ _ (by simp)); have z1_3 : w.heap.size + 1 + 1 + 1 < w1.heap.size := Nat.lt_of_lt_of_le (by first | (simp; done) | (simp; omega) | omega) hb1.size; have c1_3_0 := rowcell R1_3 0; have c1_3_1 := rowcell R1_3 1; have c1_3_2 := rowcell R1_3 2; have c1_3_3 := rowcell R1_3 3; have c1_3_4 := rowcell R1_3 4; have c1_3_5 := rowcell R1_3 5; simp only [List.getElem?_toArray, List.getElem?_cons_zero, List.getElem?_cons_succ] at c1_3_0 c1_3_1 c1_3_2 c1_3_3 c1_3_4 c1_3_5; have HR1_3 : Hid _ := R1_3; clear R1_3; have HB1 : Hid (Below _ _ _) := hb1; clear hb1; have f2 := rowfree HR1_2.out))
  rw [rounds_succ]
  go_wp2_with (first
    | (go_at_call 33; have chk := HB1; go_must (refine (k2 _).mono ?_); rintro e w2 ⟨rfl, hb2⟩; have R2_0 := (hb2.block (w.heap.size) (by first | (simp; done) | (simp; omega) | omega)).trans ((Below.heap_alloc _ _ _ (by first | (simp; done) | (simp; omega) | omega)).trans HR1_0.out); have z2_0 : w.heap.size < w2.heap.size := Nat.lt_of_lt_of_le (by first | (simp; done) | (simp; omega) | omega) hb2.size; have c2_0_0 := rowcell R2_0 0; have c2_0_1 := rowcell R2_0 1; have c2_0_2 := rowcell R2_0 2; have c2_0_3 := rowcell R2_0 3; have c2_0_4 := rowcell R2_0 4; have c2_0_5 := rowcell R2_0 5; simp only [List.getElem?_toArray, List.getElem?_cons_zero, List.getElem?_cons_succ] at c2_0_0 c2_0_1 c2_0_2 c2_0_3 c2_0_4 c2_0_5; have HR2_0 : Hid _ := R2_0; clear R2_0; have R2_1 := (hb2.block (w.heap.size + 1) (by first | (simp; done) | (simp; omega) | omega)).trans ((Below.heap_alloc _ _ _ (by first | (simp; done) | (simp; omega) | omega)).trans HR1_1.out); have z2_1 : w.heap.size + 1 < w2.heap.size := Nat.lt_of_lt_of_le (by first | (simp; done) | (simp; omega) | omega) hb2.size; have c2_1_0 := rowcell R2_1 0; have c2_1_1 := rowcell R2_1 1; have c2_1_2 := rowcell R2_1 2; have c2_1_3 := rowcell R2_1 3; have c2_1_4 := rowcell R2_1 4; have c2_1_5 := rowcell R2_1 5; simp only [List.getElem?_toArray, List.getElem?_cons_zero, List.getElem?_cons_succ] at c2_1_0 c2_1_1 c2_1_2 c2_1_3 c2_1_4 c2_1_5; have HR2_1 : Hid _ := R2_1; clear R2_1; have R2_2 := (hb2.block (w.heap.size + 1 + 1) (by first | (simp; done) | (simp; omega) | omega)).trans ((Below.heap_alloc _ _ _ (by first | (simp; done) | (simp; omega) | omega)).trans HR1_2.out); have z2_2 : w.heap.size + 1 + 1 < w2.heap.size := Nat.lt_of_lt_of_le (by first | (simp; done) | (simp; omega) | omega) hb2.size; have c2_2_0 := rowcell R2_2 0; have c2_2_1 := rowcell R2_2 1; have c2_2_2 := rowcell R2_2 2; have c2_2_3 := rowcell R2_2 3; have c2_2_4 := rowcell R2_2 4; have c2_2_5 := rowcell R2_2 5; simp only [List.getElem?_toArray, List.getElem?_cons_zero, List.getElem?_cons_succ] at c2_2_0 c2_2_1 c2_2_2 c2_2_3 c2_2_4 c2_2_5; have HR2_2 : Hid _ := R2_2; clear R2_2; have R2_3 := (hb2.block (w.heap.size + 1 + 1 + 1) (by first | (simp; done) | (simp; omega) | omega)).trans ((Below.heap_alloc _ _ _ (by first | (simp; done) | (simp; omega) | omega)).trans HR1_3.out); have z2_3 : w.heap.size + 1 + 1 + 1 < w2.heap.size := Nat.lt_of_lt_of_le (by first | (simp; done) | (simp; omega) | omega) hb2.size; have HR2_3 : Hid _ := R2_3; clear R2_3; have R2_4 := (hb2.block (w1.heap.size) (by first | (simp; done) | (simp; omega) | omega)).trans (rownew' _ _ _ _ (by simp)); have z2_4 : w1.heap.size < w2.heap.size := Nat.lt_of_lt_of_le (by first | (simp; done) | (simp; omega) | omega) hb2.size; have c2_4_0 := rowcell R2_4 0; have c2_4_1 := rowcell R2_4 1; have c2_4_2 := rowcell R2_4 2; have c2_4_3 := rowcell R2_4 3; have c2_4_4 := rowcell R2_4 4; have c2_4_5 := rowcell R2_4 5; simp only [List.getElem?_toArray, List.getElem?_cons_zero, List.getElem?_cons_succ] at c2_4_0 c2_4_1 c2_4_2 c2_4_3 c2_4_4 c2_4_5; have HR2_4 : Hid _ := R2_4; clear R2_4; have HB2 : Hid (Below _ _ _) := hb2; clear hb2; have g2 := rowfree HR2_2.out))
  rw [rounds_succ]
  go_wp2
  refine bodyPost_ret (v := .tuple #[.agg #[.int .i64 k, .bool neg, .int .i64 s, .int .u64 hi, .int .u64 lo, .bool false], .nilIface]) (by simp [results, Tryz.results39, go_sem, c2_2_0, c2_2_1, c2_2_2, c2_2_3, c2_2_4, c2_2_5, g2, z2_2]; done) rfl (hQ.out _ _ ⟨rfl, ?_⟩)
  exact cset6 (cthen (cmore (cthen (cmore (cmore (cmore (cmore (Below.refl _ _) _) _) _) _) HB1.out) _) HB2.out) (by omega)
set_option maxHeartbeats 4000000 in
theorem fusex_y1 (k : Int) (neg : Bool) (s : Int) (hi lo : Nat) (rest : Bool) (k' : Int) (neg' : Bool) (s' : Int) (hi' lo' : Nat) (rest' : Bool) (hh : hi < 2 ^ 64) (hl : lo < 2 ^ 64) (hh' : hi' < 2 ^ 64) (hl' : lo' < 2 ^ 64) (h1 : soundX k neg s hi lo rest = true) (hr : rest = false) (h2 : soundX k' neg' s' hi' lo' rest' = true) (hr' : rest' = false) (hk1 : k ≠ 2) (hk2 : k' ≠ 0) (hk3 : k' = 2) (w : World) :
    Calls Tryz.prog 39 #[exV k neg s hi lo rest, exV k' neg' s' hi' lo' rest'] w fun e w' => e = .returned (.tuple #[exV k' neg' s' hi' lo' rest', .nilIface]) ∧ Below w.heap.size w w' := by
  obtain ⟨P1, k1⟩ := rround_some k neg s hi lo rest hh hl h1
  obtain ⟨P2, k2⟩ := rround_some k' neg' s' hi' lo' rest' hh' hl' h2
  rw [show ((64 : Nat) : Int) = 64 from rfl] at k1 k2
  subst hr
  subst hr'
  have d1 : (k == 2) = false := beq_eq_false_iff_ne.2 hk1
  have d2 : (k' == 0) = false := beq_eq_false_iff_ne.2 hk2
  have d3 : (k' == 2) = true := by rw [hk3]; rfl
  clear hk1 hk2 hk3
  clear hh hl hh' hl' h1 h2
  unfold exV at *
  have i0 : ∀ w, (Instr.index 99 (.agg #[.int .i64 k, .bool neg, .int .i64 s, .int .u64 hi, .int .u64 lo, .bool false, .int .i64 k', .bool neg', .int .i64 s', .int .u64 hi', .int .u64 lo', .bool false]) (.int .i64 0)).run Tryz.prog w = .ok (.agg #[.int .i64 k, .bool neg, .int .i64 s, .int .u64 hi, .int .u64 lo, .bool false]) w := fun _ => by kernel_rfl
  have i1 : ∀ w, (Instr.index 99 (.agg #[.int .i64 k, .bool neg, .int .i64 s, .int .u64 hi, .int .u64 lo, .bool false, .int .i64 k', .bool neg', .int .i64 s', .int .u64 hi', .int .u64 lo', .bool false]) (.int .i64 1)).run Tryz.prog w = .ok (.agg #[.int .i64 k', .bool neg', .int .i64 s', .int .u64 hi', .int .u64 lo', .bool false]) w := fun _ => by kernel_rfl
  refine cps fun Q hQ => ?_
  go_enter Tryz.func39, Tryz.ntmps39
  go_wp2
  refine wp_loop_rounds 3 ?_
  rw [rounds_succ]
  go_wp2_with (first
    | (go_at_call 33; go_must (refine (k1 _).mono ?_); rintro e w1 ⟨rfl, hb1⟩; have R1_0 := (hb1.block (w.heap.size) (by first | (simp; done) | (simp; omega) | omega)).trans ((Below.heap_alloc _ _ _ (by first | (simp; done) | (simp; omega) | omega)).trans ((Below.heap_alloc _ _ _ (by first | (simp; done) | (simp; omega) | omega)).trans ((Below.heap_alloc _ _ _ (by first | (simp; done) | (simp; omega) | omega)).trans (rownew' _ _ _ _ (by simp))))); have z1_0 : w.heap.size < w1.heap.size := Nat.lt_of_lt_of_le (by first | (simp; done) | (simp; omega) | omega) hb1.size; have c1_0_0 := rowcell R1_0 0; have c1_0_1 := rowcell R1_0 1; have c1_0_2 := rowcell R1_0 2; have c1_0_3 := rowcell R1_0 3; have c1_0_4 := rowcell R1_0 4; have c1_0_5 := rowcell R1_0 5; simp only [List.getElem?_toArray, List.getElem?_cons_zero, List.getElem?_cons_succ] at c1_0_0 c1_0_1 c1_0_2 c1_0_3 c1_0_4 c1_0_5; have HR1_0 : Hid _ := R1_0; clear R1_0; have R1_1 := (hb1.block (w.heap.size + 1) (by first | (simp; done) | (simp; omega) | omega)).trans ((Below.heap_alloc _ _ _ (by first | (simp; done) | (simp; omega) | omega)).trans ((Below.heap_alloc _ _ _ (by first | (simp; done) | (simp; omega) | omega)).trans (rownew' _ _ _ _ (by simp)))); have z1_1 : w.heap.size + 1 < w1.heap.size := Nat.lt_of_lt_of_le (by first | (simp; done) | (simp; omega) | omega) hb1.size; have c1_1_0 := rowcell R1_1 0; have c1_1_1 := rowcell R1_1 1; have c1_1_2 := rowcell R1_1 2; have c1_1_3 := rowcell R1_1 3; have c1_1_4 := rowcell R1_1 4; have c1_1_5 := rowcell R1_1 5; simp only [List.getElem?_toArray, List.getElem?_cons_zero, List.getElem?_cons_succ] at c1_1_0 c1_1_1 c1_1_2 c1_1_3 c1_1_4 c1_1_5; have HR1_1 : Hid _ := R1_1; clear R1_1; have R1_2 := (hb1.block (w.heap.size + 1 + 1) (by first | (simp; done) | (simp; omega) | omega)).trans ((Below.heap_alloc _ _ _ (by first | (simp; done) | (simp; omega) | omega)).trans (rownew' _ _ _ _ (by simp))); have z1_2 : w.heap.size + 1 + 1 < w1.heap.size := Nat.lt_of_lt_of_le (by first | (simp; done) | (simp; omega) | omega) hb1.size; have c1_2_0 := rowcell R1_2 0; have c1_2_1 := rowcell R1_2 1; have c1_2_2 := rowcell R1_2 2; have c1_2_3 := rowcell R1_2 3; have c1_2_4 := rowcell R1_2 4; have c1_2_5 := rowcell R1_2 5; simp only [List.getElem?_toArray, List.getElem?_cons_zero, List.getElem?_cons_succ] at c1_2_0 c1_2_1 c1_2_2 c1_2_3 c1_2_4 c1_2_5; have HR1_2 : Hid _ := R1_2; clear R1_2; have R1_3 := (hb1.block (w.heap.size + 1 + 1 + 1) (by first | (simp; done) | (simp; omega) | omega)).trans (rownew' _ _ _ _ (by simp)); have z1_3 : w.heap.size + 1 + 1 + 1 < w1.heap.size := Nat.lt_of_lt_of_le (by first | (simp; done) | (simp; omega) | omega) hb1.size; have c1_3_0 := rowcell R1_3 0; have c1_3_1 := rowcell R1_3 1; have c1_3_2 := rowcell R1_3 2; have c1_3_3 := rowcell R1_3 3; have c1_3_4 := rowcell R1_3 4; have c1_3_5 := rowcell R1_3 5; simp only [List.getElem?_toArray, List.getElem?_cons_zero, List.getElem?_cons_succ] at c1_3_0 c1_3_1 c1_3_2 c1_3_3 c1_3_4 c1_3_5; have HR1_3 : Hid _ := R1_3; clear R1_3; have HB1 : Hid (Below _ _ _) := hb1; clear hb1; have f2 := rowfree HR1_2.out))
  rw [rounds_succ]
  go_wp2_with (first
    | (go_at_call 33; have chk := HB1; go_must (refine (k2 _).mono ?_); rintro e w2 ⟨rfl, hb2⟩; have R2_0 := (hb2.block (w.heap.size) (by first | (simp; done) | (simp; omega) | omega)).trans ((Below.heap_alloc _ _ _ (by first | (simp; done) | (simp; omega) | omega)).trans HR1_0.out); have z2_0 : w.heap.size < w2.heap.size := Nat.lt_of_lt_of_le (by first | (simp; done) | (simp; omega) | omega) hb2.size; have c2_0_0 := rowcell R2_0 0; have c2_0_1 := rowcell R2_0 1; have c2_0_2 := rowcell R2_0 2; have c2_0_3 := rowcell R2_0 3; have c2_0_4 := rowcell R2_0 4; have c2_0_5 := rowcell R2_0 5; simp only [List.getElem?_toArray, List.getElem?_cons_zero, List.getElem?_cons_succ] at c2_0_0 c2_0_1 c2_0_2 c2_0_3 c2_0_4 c2_0_5; have HR2_0 : Hid _ := R2_0; clear R2_0; have R2_1 := (hb2.block (w.heap.size + 1) (by first | (simp; done) | (simp; omega) | omega)).trans ((Below.heap_alloc _ _ _ (by first | (simp; done) | (simp; omega) | omega)).trans HR1_1.out); have z2_1 : w.heap.size + 1 < w2.heap.size := Nat.lt_of_lt_of_le (by first | (simp; done) | (simp; omega) | omega) hb2.size; have c2_1_0 := rowcell R2_1 0; have c2_1_1 := rowcell R2_1 1; have c2_1_2 := rowcell R2_1 2; have c2_1_3 := rowcell R2_1 3; have c2_1_4 := rowcell R2_1 4; have c2_1_5 := rowcell R2_1 5; simp only [List.getElem?_toArray, List.getElem?_cons_zero, List.getElem?_cons_succ] at c2_1_0 c2_1_1 c2_1_2 c2_1_3 c2_1_4 c2_1_5; have HR2_1 : Hid _ := R2_1; clear R2_1; have R2_2 := (hb2.block (w.heap.size + 1 + 1) (by first | (simp; done) | (simp; omega) | omega)).trans ((Below.heap_alloc _ _ _ (by first | (simp; done) | (simp; omega) | omega)).trans HR1_2.out); have z2_2 : w.heap.size + 1 + 1 < w2.heap.size := Nat.lt_of_lt_of_le (by first | (simp; done) | (simp; omega) | omega) hb2.size; have c2_2_0 := rowcell R2_2 0; have c2_2_1 := rowcell R2_2 1; have c2_2_2 := rowcell R2_2 2; have c2_2_3 := rowcell R2_2 3; have c2_2_4 := rowcell R2_2 4; have c2_2_5 := rowcell R2_2 5; simp only [List.getElem?_toArray, List.getElem?_cons_zero, List.getElem?_cons_succ] at c2_2_0 c2_2_1 c2_2_2 c2_2_3 c2_2_4 c2_2_5; have HR2_2 : Hid _ := R2_2; clear R2_2; have R2_3 := (hb2.block (w.heap.size + 1 + 1 + 1) (by first | (simp; done) | (simp; omega) | omega)).trans ((Below.heap_alloc _ _ _ (by first | (simp; done) | (simp; omega) | omega)).trans HR1_3.out); have z2_3 : w.heap.size + 1 + 1 + 1 < w2.heap.size := Nat.lt_of_lt_of_le (by first | (simp; done) | (simp; omega) | omega) hb2.size; have HR2_3 : Hid _ := R2_3; clear R2_3; have R2_4 := (hb2.block (w1.heap.size) (by first | (simp; done) | (simp; omega) | omega)).trans (rownew' _ _ _ _ (by simp)); have z2_4 : w1.heap.size < w2.heap.size := Nat.lt_of_lt_of_le (by first | (simp; done) | (simp; omega) | omega) hb2.size; have c2_4_0 := rowcell R2_4 0; have c2_4_1 := rowcell R2_4 1; have c2_4_2 := rowcell R2_4 2; have c2_4_3 := rowcell R2_4 3; have c2_4_4 := rowcell R2_4 4; have c2_4_5 := rowcell R2_4 5; simp only [List.getElem?_toArray, List.getElem?_cons_zero, List.getElem?_cons_succ] at c2_4_0 c2_4_1 c2_4_2 c2_4_3 c2_4_4 c2_4_5; have HR2_4 : Hid _ := R2_4; clear R2_4; have HB2 : Hid (Below _ _ _) := hb2; clear hb2; have g2 := rowfree HR2_2.out))
  rw [rounds_succ]
  go_wp2
  refine bodyPost_ret (v := .tuple #[.agg #[.int .i64 k', .bool neg', .int .i64 s', .int .u64 hi', .int .u64 lo', .bool false], .nilIface]) (by simp [results, Tryz.results39, go_sem, c2_2_0, c2_2_1, c2_2_2, c2_2_3, c2_2_4, c2_2_5, g2, z2_2]; done) rfl (hQ.out _ _ ⟨rfl, ?_⟩)
  exact cset6 (cthen (cmore (cthen (cmore (cmore (cmore (cmore (Below.refl _ _) _) _) _) _) HB1.out) _) HB2.out) (by omega)
set_option maxHeartbeats 4000000 in
theorem fusex_y2 (k : Int) (neg : Bool) (s : Int) (hi lo : Nat) (rest : Bool) (k' : Int) (neg' : Bool) (s' : Int) (hi' lo' : Nat) (rest' : Bool) (hh : hi < 2 ^ 64) (hl : lo < 2 ^ 64) (hh' : hi' < 2 ^ 64) (hl' : lo' < 2 ^ 64) (h1 : soundX k neg s hi lo rest = true) (hr : rest = false) (h2 : soundX k' neg' s' hi' lo' rest' = true) (hr' : rest' = false) (hk1 : k ≠ 2) (hk2 : k' ≠ 0) (hk3 : k' ≠ 2) (hk4 : k = 0) (w : World) :
    Calls Tryz.prog 39 #[exV k neg s hi lo rest, exV k' neg' s' hi' lo' rest'] w fun e w' => e = .returned (.tuple #[exV k' neg' s' hi' lo' rest', .nilIface]) ∧ Below w.heap.size w w' := by
  obtain ⟨P1, k1⟩ := rround_some k neg s hi lo rest hh hl h1
  obtain ⟨P2, k2⟩ := rround_some k' neg' s' hi' lo' rest' hh' hl' h2
  rw [show ((64 : Nat) : Int) = 64 from rfl] at k1 k2
  subst hr
  subst hr'
  have d1 : (k == 2) = false := beq_eq_false_iff_ne.2 hk1
  have d2 : (k' == 0) = false := beq_eq_false_iff_ne.2 hk2
  have d3 : (k' == 2) = false := beq_eq_false_iff_ne.2 hk3
  have d4 : (k == 0) = true := by rw [hk4]; rfl
  clear hk1 hk2 hk3 hk4
  clear hh hl hh' hl' h1 h2
  unfold exV at *
  have i0 : ∀ w, (Instr.index 99 (.agg #[.int .i64 k, .bool neg, .int .i64 s, .int .u64 hi, .int .u64 lo, .bool false, .int .i64 k', .bool neg', .int .i64 s', .int .u64 hi', .int .u64 lo', .bool false]) (.int .i64 0)).run Tryz.prog w = .ok (.agg #[.int .i64 k, .bool neg, .int .i64 s, .int .u64 hi, .int .u64 lo, .bool false]) w := fun _ => by kernel_rfl
  have i1 : ∀ w, (Instr.index 99 (.agg #[.int .i64 k, .bool neg, .int .i64 s, .int .u64 hi, .int .u64 lo, .bool false, .int .i64 k', .bool neg', .int .i64 s', .int .u64 hi', .int .u64 lo', .bool false]) (.int .i64 1)).run Tryz.prog w = .ok (.agg #[.int .i64 k', .bool neg', .int .i64 s', .int .u64 hi', .int .u64 lo', .bool false]) w := fun _ => by kernel_rfl
  refine cps fun Q hQ => ?_
  go_enter Tryz.func39, Tryz.ntmps39
  go_wp2
  refine wp_loop_rounds 3 ?_
  rw [rounds_succ]
  go_wp2_with (first
    | (go_at_call 33; go_must (refine (k1 _).mono ?_); rintro e w1 ⟨rfl, hb1⟩; have R1_0 := (hb1.block (w.heap.size) (by first | (simp; done) | (simp; omega) | omega)).trans ((Below.heap_alloc _ _ _ (by first | (simp; done) | (simp; omega) | omega)).trans ((Below.heap_alloc _ _ _ (by first | (simp; done) | (simp; omega) | omega)).trans ((Below.heap_alloc _ _ _ (by first | (simp; done) | (simp; omega) | omega)).trans (rownew' _ _ _ _ (by simp))))); have z1_0 : w.heap.size < w1.heap.size := Nat.lt_of_lt_of_le (by first | (simp; done) | (simp; omega) | omega) hb1.size; have c1_0_0 := rowcell R1_0 0; have c1_0_1 := rowcell R1_0 1; have c1_0_2 := rowcell R1_0 2; have c1_0_3 := rowcell R1_0 3; have c1_0_4 := rowcell R1_0 4; have c1_0_5 := rowcell R1_0 5; simp only [List.getElem?_toArray, List.getElem?_cons_zero, List.getElem?_cons_succ] at c1_0_0 c1_0_1 c1_0_2 c1_0_3 c1_0_4 c1_0_5; have HR1_0 : Hid _ := R1_0; clear R1_0; have R1_1 := (hb1.block (w.heap.size + 1) (by first | (simp; done) | (simp; omega) | omega)).trans ((Below.heap_alloc _ _ _ (by first | (simp; done) | (simp; omega) | omega)).trans ((Below.heap_alloc _ _ _ (by first | (simp; done) | (simp; omega) | omega)).trans (rownew' _ _ _ _ (by simp)))); have z1_1 : w.heap.size + 1 < w1.heap.size := Nat.lt_of_lt_of_le (by first | (simp; done) | (simp; omega) | omega) hb1.size; have c1_1_0 := rowcell R1_1 0; have c1_1_1 := rowcell R1_1 1; have c1_1_2 := rowcell R1_1 2; have c1_1_3 := rowcell R1_1 3; have c1_1_4 := rowcell R1_1 4; have c1_1_5 := rowcell R1_1 5; simp only [List.getElem?_toArray, List.getElem?_cons_zero, List.getElem?_cons_succ] at c1_1_0 c1_1_1 c1_1_2 c1_1_3 c1_1_4 c1_1_5; have HR1_1 : Hid _ := R1_1; clear R1_1; have R1_2 := (hb1.block (w.heap.size + 1 + 1) (by first | (simp; done) | (simp; omega) | omega)).trans ((Below.heap_alloc _ _ _ (by first | (simp; done) | (simp; omega) | omega)).trans (rownew' _ _ _ _ (by simp))); have z1_2 : w.heap.size + 1 + 1 < w1.heap.size := Nat.lt_of_lt_of_le (by first | (simp; done) | (simp; omega) | omega) hb1.size; have c1_2_0 := rowcell R1_2 0; have c1_2_1 := rowcell R1_2 1; have c1_2_2 := rowcell R1_2 2; have c1_2_3 := rowcell R1_2 3; have c1_2_4 := rowcell R1_2 4; have c1_2_5 := rowcell R1_2 5; simp only [List.getElem?_toArray, List.getElem?_cons_zero, List.getElem?_cons_succ] at c1_2_0 c1_2_1 c1_2_2 c1_2_3 c1_2_4 c1_2_5; have HR1_2 : Hid _ := R1_2; clear R1_2; have R1_3 := (hb1.block (w.heap.size + 1 + 1 + 1) (by first | (simp; done) | (simp; omega) | omega)).trans (rownew' _ _ _ _ (by simp)); have z1_3 : w.heap.size + 1 + 1 + 1 < w1.heap.size := Nat.lt_of_lt_of_le (by first | (simp; done) | (simp; omega) | omega) hb1.size; have c1_3_0 := rowcell R1_3 0; have c1_3_1 := rowcell R1_3 1; have c1_3_2 := rowcell R1_3 2; have c1_3_3 := rowcell R1_3 3; have c1_3_4 := rowcell R1_3 4; have c1_3_5 := rowcell R1_3 5; simp only [List.getElem?_toArray, List.getElem?_cons_zero, List.getElem?_cons_succ] at c1_3_0 c1_3_1 c1_3_2 c1_3_3 c1_3_4 c1_3_5; have HR1_3 : Hid _ := R1_3; clear R1_3; have HB1 : Hid (Below _ _ _) := hb1; clear hb1; have f2 := rowfree HR1_2.out))
  rw [rounds_succ]
  go_wp2_with (first
    | (go_at_call 33; have chk := HB1; go_must (refine (k2 _).mono ?_); rintro e w2 ⟨rfl, hb2⟩; have R2_0 := (hb2.block (w.heap.size) (by first | (simp; done) | (simp; omega) | omega)).trans ((Below.heap_alloc _ _ _ (by first | (simp; done) | (simp; omega) | omega)).trans HR1_0.out); have z2_0 : w.heap.size < w2.heap.size := Nat.lt_of_lt_of_le (by first | (simp; done) | (simp; omega) | omega) hb2.size; have c2_0_0 := rowcell R2_0 0; have c2_0_1 := rowcell R2_0 1; have c2_0_2 := rowcell R2_0 2; have c2_0_3 := rowcell R2_0 3; have c2_0_4 := rowcell R2_0 4; have c2_0_5 := rowcell R2_0 5; simp only [List.getElem?_toArray, List.getElem?_cons_zero, List.getElem?_cons_succ] at c2_0_0 c2_0_1 c2_0_2 c2_0_3 c2_0_4 c2_0_5; have HR2_0 : Hid _ := R2_0; clear R2_0; have R2_1 := (hb2.block (w.heap.size + 1) (by first | (simp; done) | (simp; omega) | omega)).trans ((Below.heap_alloc _ _ _ (by first | (simp; done) | (simp; omega) | omega)).trans HR1_1.out); have z2_1 : w.heap.size + 1 < w2.heap.size := Nat.lt_of_lt_of_le (by first | (simp; done) | (simp; omega) | omega) hb2.size; have c2_1_0 := rowcell R2_1 0; have c2_1_1 := rowcell R2_1 1; have c2_1_2 := rowcell R2_1 2; have c2_1_3 := rowcell R2_1 3; have c2_1_4 := rowcell R2_1 4; have c2_1_5 := rowcell R2_1 5; simp only [List.getElem?_toArray, List.getElem?_cons_zero, List.getElem?_cons_succ] at c2_1_0 c2_1_1 c2_1_2 c2_1_3 c2_1_4 c2_1_5; have HR2_1 : Hid _ := R2_1; clear R2_1; have R2_2 := (hb2.block (w.heap.size + 1 + 1) (by first | (simp; done) | (simp; omega) | omega)).trans ((Below.heap_alloc _ _ _ (by first | (simp; done) | (simp; omega) | omega)).trans HR1_2.out); have z2_2 : w.heap.size + 1 + 1 < w2.heap.size := Nat.lt_of_lt_of_le (by first | (simp; done) | (simp; omega) | omega) hb2.size; have c2_2_0 := rowcell R2_2 0; have c2_2_1 := rowcell R2_2 1; have c2_2_2 := rowcell R2_2 2; have c2_2_3 := rowcell R2_2 3; have c2_2_4 := rowcell R2_2 4; have c2_2_5 := rowcell R2_2 5; simp only [List.getElem?_toArray, List.getElem?_cons_zero, List.getElem?_cons_succ] at c2_2_0 c2_2_1 c2_2_2 c2_2_3 c2_2_4 c2_2_5; have HR2_2 : Hid _ := R2_2; clear R2_2; have R2_3 := (hb2.block (w.heap.size + 1 + 1 + 1) (by first | (simp; done) | (simp; omega) | omega)).trans ((Below.heap_alloc _ _ _ (by first | (simp; done) | (simp; omega) | omega)).trans HR1_3.out); have z2_3 : w.heap.size + 1 + 1 + 1 < w2.heap.size := Nat.lt_of_lt_of_le (by first | (simp; done) | (simp; omega) | omega) hb2.size; have HR2_3 : Hid _ := R2_3; clear R2_3; have R2_4 := (hb2.block (w1.heap.size) (by first | (simp; done) | (simp; omega) | omega)).trans (rownew' _ _ _ _ (by simp)); have z2_4 : w1.heap.size < w2.heap.size := Nat.lt_of_lt_of_le (by first | (simp; done) | (simp; omega) | omega) hb2.size; have c2_4_0 := rowcell R2_4 0; have c2_4_1 := rowcell R2_4 1; have c2_4_2 := rowcell R2_4 2; have c2_4_3 := rowcell R2_4 3; have c2_4_4 := rowcell R2_4 4; have c2_4_5 := rowcell R2_4 5; simp only [List.getElem?_toArray, List.getElem?_cons_zero, List.getElem?_cons_succ] at c2_4_0 c2_4_1 c2_4_2 c2_4_3 c2_4_4 c2_4_5; have HR2_4 : Hid _ := R2_4; clear R2_4; have HB2 : Hid (Below _ _ _) := hb2; clear hb2; have g2 := rowfree HR2_2.out))
  rw [rounds_succ]
  go_wp2
  refine bodyPost_ret (v := .tuple #[.agg #[.int .i64 k', .bool neg', .int .i64 s', .int .u64 hi', .int .u64 lo', .bool false], .nilIface]) (by simp [results, Tryz.results39, go_sem, c2_2_0, c2_2_1, c2_2_2, c2_2_3, c2_2_4, c2_2_5, g2, z2_2]; done) rfl (hQ.out _ _ ⟨rfl, ?_⟩)
  exact cset6 (cthen (cmore (cthen (cmore (cmore (cmore (cmore (Below.refl _ _) _) _) _) _) HB1.out) _) HB2.out) (by omega)
set_option maxHeartbeats 4000000 in
theorem fusex_r (k : Int) (neg : Bool) (s : Int) (hi lo : Nat) (rest : Bool) (k' : Int) (neg' : Bool) (s' : Int) (hi' lo' : Nat) (rest' : Bool) (hh : hi < 2 ^ 64) (hl : lo < 2 ^ 64) (hh' : hi' < 2 ^ 64) (hl' : lo' < 2 ^ 64) (h1 : soundX k neg s hi lo rest = true) (hr : rest = false) (h2 : soundX k' neg' s' hi' lo' rest' = true) (hr' : rest' = false) (hk1 : k ≠ 2) (hk2 : k' ≠ 0) (hk3 : k' ≠ 2) (hk4 : k ≠ 0) (K : Int) (B : Bool) (S : Int) (H L : Nat) (R : Bool) (k3 : ∀ w, Calls Tryz.prog 60 #[exV k neg s hi lo rest, exV k' neg' s' hi' lo' rest'] w fun e w' => e = .returned (.tuple #[exV K B S H L R, .nilIface]) ∧ Below w.heap.size w w') (w : World) :
    Calls Tryz.prog 39 #[exV k neg s hi lo rest, exV k' neg' s' hi' lo' rest'] w fun e w' => e = .returned (.tuple #[exV K B S H L R, .nilIface]) ∧ Below w.heap.size w w' := by
  obtain ⟨P1, k1⟩ := rround_some k neg s hi lo rest hh hl h1
  obtain ⟨P2, k2⟩ := rround_some k' neg' s' hi' lo' rest' hh' hl' h2
  rw [show ((64 : Nat) : Int) = 64 from rfl] at k1 k2
  subst hr
  subst hr'
  have d1 : (k == 2) = false := beq_eq_false_iff_ne.2 hk1
  have d2 : (k' == 0) = false := beq_eq_false_iff_ne.2 hk2
  have d3 : (k' == 2) = false := beq_eq_false_iff_ne.2 hk3
  have d4 : (k == 0) = false := beq_eq_false_iff_ne.2 hk4
  clear hk1 hk2 hk3 hk4
  clear hh hl hh' hl' h1 h2
  unfold exV at *
  have i0 : ∀ w, (Instr.index 99 (.agg #[.int .i64 k, .bool neg, .int .i64 s, .int .u64 hi, .int .u64 lo, .bool false, .int .i64 k', .bool neg', .int .i64 s', .int .u64 hi', .int .u64 lo', .bool false]) (.int .i64 0)).run Tryz.prog w = .ok (.agg #[.int .i64 k, .bool neg, .int .i64 s, .int .u64 hi, .int .u64 lo, .bool false]) w := fun _ => by kernel_rfl
  have i1 : ∀ w, (Instr.index 99 (.agg #[.int .i64 k, .bool neg, .int .i64 s, .int .u64 hi, .int .u64 lo, .bool false, .int .i64 k', .bool neg', .int .i64 s', .int .u64 hi', .int .u64 lo', .bool false]) (.int .i64 1)).run Tryz.prog w = .ok (.agg #[.int .i64 k', .bool neg', .int .i64 s', .int .u64 hi', .int .u64 lo', .bool false]) w := fun _ => by kernel_rfl
  refine cps fun Q hQ => ?_
  go_enter Tryz.func39, Tryz.ntmps39
  go_wp2
  refine wp_loop_rounds 3 ?_
  rw [rounds_succ]
  go_wp2_with (first
    | (go_at_call 33; go_must (refine (k1 _).mono ?_); rintro e w1 ⟨rfl, hb1⟩; have R1_0 := (hb1.block (w.heap.size) (by first | (simp; done) | (simp; omega) | omega)).trans ((Below.heap_alloc _ _ _ (by first | (simp; done) | (simp; omega) | omega)).trans ((Below.heap_alloc _ _ _ (by first | (simp; done) | (simp; omega) | omega)).trans ((Below.heap_alloc _ _ _ (by first | (simp; done) | (simp; omega) | omega)).trans (rownew' _ _ _ _ (by simp))))); have z1_0 : w.heap.size < w1.heap.size := Nat.lt_of_lt_of_le (by first | (simp; done) | (simp; omega) | omega) hb1.size; have c1_0_0 := rowcell R1_0 0; have c1_0_1 := rowcell R1_0 1; have c1_0_2 := rowcell R1_0 2; have c1_0_3 := rowcell R1_0 3; have c1_0_4 := rowcell R1_0 4; have c1_0_5 := rowcell R1_0 5; simp only [List.getElem?_toArray, List.getElem?_cons_zero, List.getElem?_cons_succ] at c1_0_0 c1_0_1 c1_0_2 c1_0_3 c1_0_4 c1_0_5; have HR1_0 : Hid _ := R1_0; clear R1_0; have R1_1 := (hb1.block (w.heap.size + 1) (by first | (simp; done) | (simp; omega) | omega)).trans ((Below.heap_alloc _ _ _ (by first | (simp; done) | (simp; omega) | omega)).trans ((Below.heap_alloc _ _ _ (by first | (simp; done) | (simp; omega) | omega)).trans (rownew' _ _ _ _ (by simp)))); have z1_1 : w.heap.size + 1 < w1.heap.size := Nat.lt_of_lt_of_le (by first | (simp; done) | (simp; omega) | omega) hb1.size; have c1_1_0 := rowcell R1_1 0; have c1_1_1 := rowcell R1_1 1; have c1_1_2 := rowcell R1_1 2; have c1_1_3 := rowcell R1_1 3; have c1_1_4 := rowcell R1_1 4; have c1_1_5 := rowcell R1_1 5; simp only [List.getElem?_toArray, List.getElem?_cons_zero, List.getElem?_cons_succ] at c1_1_0 c1_1_1 c1_1_2 c1_1_3 c1_1_4 c1_1_5; have HR1_1 : Hid _ := R1_1; clear R1_1; have R1_2 := (hb1.block (w.heap.size + 1 + 1) (by first | (simp; done) | (simp; omega) | omega)).trans ((Below.heap_alloc _ _ _ (by first | (simp; done) | (simp; omega) | omega)).trans (rownew' _ _ _ _ (by simp))); have z1_2 : w.heap.size + 1 + 1 < w1.heap.size := Nat.lt_of_lt_of_le (by first | (simp; done) | (simp; omega) | omega) hb1.size; have c1_2_0 := rowcell R1_2 0; have c1_2_1 := rowcell R1_2 1; have c1_2_2 := rowcell R1_2 2; have c1_2_3 := rowcell R1_2 3; have c1_2_4 := rowcell R1_2 4; have c1_2_5 := rowcell R1_2 5; simp only [List.getElem?_toArray, List.getElem?_cons_zero, List.getElem?_cons_succ] at c1_2_0 c1_2_1 c1_2_2 c1_2_3 c1_2_4 c1_2_5; have HR1_2 : Hid _ := R1_2; clear R1_2; have R1_3 := (hb1.block (w.heap.size + 1 + 1 + 1) (by first | (simp; done) | (simp; omega) | omega)).trans (rownew' _ _ _ _ (by simp)); have z1_3 : w.heap.size + 1 + 1 + 1 < w1.heap.size := Nat.lt_of_lt_of_le (by first | (simp; done) | (simp; omega) | omega) hb1.size; have c1_3_0 := rowcell R1_3 0; have c1_3_1 := rowcell R1_3 1; have c1_3_2 := rowcell R1_3 2; have c1_3_3 := rowcell R1_3 3; have c1_3_4 := rowcell R1_3 4; have c1_3_5 := rowcell R1_3 5; simp only [List.getElem?_toArray, List.getElem?_cons_zero, List.getElem?_cons_succ] at c1_3_0 c1_3_1 c1_3_2 c1_3_3 c1_3_4 c1_3_5; have HR1_3 : Hid _ := R1_3; clear R1_3; have HB1 : Hid (Below _ _ _) := hb1; clear hb1; have f2 := rowfree HR1_2.out))
  rw [rounds_succ]
  go_wp2_with (first
    | (go_at_call 33; have chk := HB1; go_must (refine (k2 _).mono ?_); rintro e w2 ⟨rfl, hb2⟩; have R2_0 := (hb2.block (w.heap.size) (by first | (simp; done) | (simp; omega) | omega)).trans ((Below.heap_alloc _ _ _ (by first | (simp; done) | (simp; omega) | omega)).trans HR1_0.out); have z2_0 : w.heap.size < w2.heap.size := Nat.lt_of_lt_of_le (by first | (simp; done) | (simp; omega) | omega) hb2.size; have c2_0_0 := rowcell R2_0 0; have c2_0_1 := rowcell R2_0 1; have c2_0_2 := rowcell R2_0 2; have c2_0_3 := rowcell R2_0 3; have c2_0_4 := rowcell R2_0 4; have c2_0_5 := rowcell R2_0 5; simp only [List.getElem?_toArray, List.getElem?_cons_zero, List.getElem?_cons_succ] at c2_0_0 c2_0_1 c2_0_2 c2_0_3 c2_0_4 c2_0_5; have HR2_0 : Hid _ := R2_0; clear R2_0; have R2_1 := (hb2.block (w.heap.size + 1) (by first | (simp; done) | (simp; omega) | omega)).trans ((Below.heap_alloc _ _ _ (by first | (simp; done) | (simp; omega) | omega)).trans HR1_1.out); have z2_1 : w.heap.size + 1 < w2.heap.size := Nat.lt_of_lt_of_le (by first | (simp; done) | (simp; omega) | omega) hb2.size; have c2_1_0 := rowcell R2_1 0; have c2_1_1 := rowcell R2_1 1; have c2_1_2 := rowcell R2_1 2; have c2_1_3 := rowcell R2_1 3; have c2_1_4 := rowcell R2_1 4; have c2_1_5 := rowcell R2_1 5; simp only [List.getElem?_toArray, List.getElem?_cons_zero, List.getElem?_cons_succ] at c2_1_0 c2_1_1 c2_1_2 c2_1_3 c2_1_4 c2_1_5; have HR2_1 : Hid _ := R2_1; clear R2_1; have R2_2 := (hb2.block (w.heap.size + 1 + 1) (by first | (simp; done) | (simp; omega) | omega)).trans ((Below.heap_alloc _ _ _ (by first | (simp; done) | (simp; omega) | omega)).trans HR1_2.out); have z2_2 : w.heap.size + 1 + 1 < w2.heap.size := Nat.lt_of_lt_of_le (by first | (simp; done) | (simp; omega) | omega) hb2.size; have c2_2_0 := rowcell R2_2 0; have c2_2_1 := rowcell R2_2 1; have c2_2_2 := rowcell R2_2 2; have c2_2_3 := rowcell R2_2 3; have c2_2_4 := rowcell R2_2 4; have c2_2_5 := rowcell R2_2 5; simp only [List.getElem?_toArray, List.getElem?_cons_zero, List.getElem?_cons_succ] at c2_2_0 c2_2_1 c2_2_2 c2_2_3 c2_2_4 c2_2_5; have HR2_2 : Hid _ := R2_2; clear R2_2; have R2_3 := (hb2.block (w.heap.size + 1 + 1 + 1) (by first | (simp; done) | (simp; omega) | omega)).trans ((Below.heap_alloc _ _ _ (by first | (simp; done) | (simp; omega) | omega)).trans HR1_3.out); have z2_3 : w.heap.size + 1 + 1 + 1 < w2.heap.size := Nat.lt_of_lt_of_le (by first | (simp; done) | (simp; omega) | omega) hb2.size; have HR2_3 : Hid _ := R2_3; clear R2_3; have R2_4 := (hb2.block (w1.heap.size) (by first | (simp; done) | (simp; omega) | omega)).trans (rownew' _ _ _ _ (by simp)); have z2_4 : w1.heap.size < w2.heap.size := Nat.lt_of_lt_of_le (by first | (simp; done) | (simp; omega) | omega) hb2.size; have c2_4_0 := rowcell R2_4 0; have c2_4_1 := rowcell R2_4 1; have c2_4_2 := rowcell R2_4 2; have c2_4_3 := rowcell R2_4 3; have c2_4_4 := rowcell R2_4 4; have c2_4_5 := rowcell R2_4 5; simp only [List.getElem?_toArray, List.getElem?_cons_zero, List.getElem?_cons_succ] at c2_4_0 c2_4_1 c2_4_2 c2_4_3 c2_4_4 c2_4_5; have HR2_4 : Hid _ := R2_4; clear R2_4; have HB2 : Hid (Below _ _ _) := hb2; clear hb2; have g2 := rowfree HR2_2.out))
  rw [rounds_succ]
  go_wp2_with (first
    | (go_at_call 60; go_must (refine (k3 _).mono ?_); rintro e w3 ⟨rfl, hb3⟩; have R3_0 := (hb3.block (w.heap.size) (by first | (simp; done) | (simp; omega) | omega)).trans HR2_0.out; have z3_0 : w.heap.size < w3.heap.size := Nat.lt_of_lt_of_le (by first | (simp; done) | (simp; omega) | omega) hb3.size; have HR3_0 : Hid _ := R3_0; clear R3_0; have R3_1 := (hb3.block (w.heap.size + 1) (by first | (simp; done) | (simp; omega) | omega)).trans HR2_1.out; have z3_1 : w.heap.size + 1 < w3.heap.size := Nat.lt_of_lt_of_le (by first | (simp; done) | (simp; omega) | omega) hb3.size; have HR3_1 : Hid _ := R3_1; clear R3_1; have R3_2 := (hb3.block (w.heap.size + 1 + 1) (by first | (simp; done) | (simp; omega) | omega)).trans HR2_2.out; have z3_2 : w.heap.size + 1 + 1 < w3.heap.size := Nat.lt_of_lt_of_le (by first | (simp; done) | (simp; omega) | omega) hb3.size; have c3_2_0 := rowcell R3_2 0; have c3_2_1 := rowcell R3_2 1; have c3_2_2 := rowcell R3_2 2; have c3_2_3 := rowcell R3_2 3; have c3_2_4 := rowcell R3_2 4; have c3_2_5 := rowcell R3_2 5; simp only [List.getElem?_toArray, List.getElem?_cons_zero, List.getElem?_cons_succ] at c3_2_0 c3_2_1 c3_2_2 c3_2_3 c3_2_4 c3_2_5; have HR3_2 : Hid _ := R3_2; clear R3_2; have R3_3 := (hb3.block (w.heap.size + 1 + 1 + 1) (by first | (simp; done) | (simp; omega) | omega)).trans HR2_3.out; have z3_3 : w.heap.size + 1 + 1 + 1 < w3.heap.size := Nat.lt_of_lt_of_le (by first | (simp; done) | (simp; omega) | omega) hb3.size; have HR3_3 : Hid _ := R3_3; clear R3_3; have R3_4 := (hb3.block (w1.heap.size) (by first | (simp; done) | (simp; omega) | omega)).trans HR2_4.out; have z3_4 : w1.heap.size < w3.heap.size := Nat.lt_of_lt_of_le (by first | (simp; done) | (simp; omega) | omega) hb3.size; have HR3_4 : Hid _ := R3_4; clear R3_4; have HB3 : Hid (Below _ _ _) := hb3; clear hb3; have e2 := rowfree HR3_2.out))
  refine bodyPost_ret (v := .tuple #[.agg #[.int .i64 K, .bool B, .int .i64 S, .int .u64 H, .int .u64 L, .bool R], .nilIface]) (by simp [results, Tryz.results39, go_sem, c3_2_0, c3_2_1, c3_2_2, c3_2_3, c3_2_4, c3_2_5, e2, z3_2]; done) rfl (hQ.out _ _ ⟨rfl, ?_⟩)
  exact cset6 (cthen (cthen (cmore (cthen (cmore (cmore (cmore (cmore (Below.refl _ _) _) _) _) _) HB1.out) _) HB2.out) HB3.out) (by omega)
theorem soundE_cases {k : Int} {neg : Bool} {s : Int} {hi lo : Nat} {rest : Bool} (h : soundX k neg s hi lo rest = true) : ((k = 0 ∨ k = 2) ∧ neg = false ∧ s = 0 ∧ hi = 0 ∧ lo = 0 ∧ rest = false) ∨ (k = 1 ∧ 9223372036854775808 ≤ hi ∧ -1099511627776 ≤ s ∧ s ≤ 1099511627776) := by
  unfold soundX at h
  by_cases c : k = 0 ∨ k = 2
  · rw [if_pos c] at h; exact .inl ⟨c, of_decide_eq_true h⟩
  · rw [if_neg c] at h; exact .inr (of_decide_eq_true h)
theorem fusex_ok (k : Int) (neg : Bool) (s : Int) (hi lo : Nat) (rest : Bool) (k' : Int) (neg' : Bool) (s' : Int) (hi' lo' : Nat) (rest' : Bool) (hh : hi < 2 ^ 64) (hl : lo < 2 ^ 64) (hh' : hi' < 2 ^ 64) (hl' : lo' < 2 ^ 64) (h : (soundX k neg s hi lo rest && (soundX k' neg' s' hi' lo' rest' && (!rest && !rest'))) = true) (w : World) :
    Calls Tryz.prog 39 #[exV k neg s hi lo rest, exV k' neg' s' hi' lo' rest'] w fun e w' => e = .returned (.tuple #[sum9 k neg s hi lo k' neg' s' hi' lo', .nilIface]) ∧ Below w.heap.size w w' := by
  obtain ⟨h1, h⟩ := Bool.and_eq_true_iff.1 h
  obtain ⟨h2, h⟩ := Bool.and_eq_true_iff.1 h
  obtain ⟨h3, h4⟩ := Bool.and_eq_true_iff.1 h
  have hr : rest = false := by cases rest; rfl; exact absurd h3 (by decide)
  have hr' : rest' = false := by cases rest'; rfl; exact absurd h4 (by decide)
  clear h h3 h4
  subst hr
  subst hr'
  unfold sum9
  by_cases a2 : k = 2
  · rw [if_pos (.inl a2)]
    rcases soundE_cases h1 with ⟨_, rfl, rfl, rfl, rfl, _⟩ | ⟨c, _⟩
    · have := fusex_x1 k false 0 0 0 false k' neg' s' hi' lo' false hh hl hh' hl' h1 rfl h2 rfl a2 w
      rw [a2] at this ⊢; exact this
    · omega
  · by_cases b2 : k' = 2
    · rw [if_pos (.inr b2)]
      rcases soundE_cases h2 with ⟨_, rfl, rfl, rfl, rfl, _⟩ | ⟨c, _⟩
      · have := fusex_y1 k neg s hi lo false k' false 0 0 0 false hh hl hh' hl' h1 rfl h2 rfl a2 (by omega) b2 w
        rw [b2] at this ⊢; exact this
      · omega
    · rw [if_neg (by omega)]
      by_cases b0 : k' = 0
      · have hrr : (if k = 0 then exV k' neg' s' hi' lo' false else if k' = 0 then exV k neg s hi lo false else sumR neg s (manX hi lo) neg' s' (manX hi' lo')) = exV k neg s hi lo false := by
          by_cases a0 : k = 0
          · rw [if_pos a0]
            rcases soundE_cases h1 with ⟨_, rfl, rfl, rfl, rfl, _⟩ | ⟨c, _⟩
            · rcases soundE_cases h2 with ⟨_, rfl, rfl, rfl, rfl, _⟩ | ⟨c, _⟩
              · rw [a0, b0]
              · omega
            · omega
          · rw [if_neg a0, if_pos b0]
        rw [hrr]
        exact fusex_x2 k neg s hi lo false k' neg' s' hi' lo' false hh hl hh' hl' h1 rfl h2 rfl a2 b0 w
      · by_cases a0 : k = 0
        · rw [if_pos a0]
          exact fusex_y2 k neg s hi lo false k' neg' s' hi' lo' false hh hl hh' hl' h1 rfl h2 rfl a2 b0 b2 a0 w
        · rw [if_neg a0, if_neg b0]
          rcases soundE_cases h1 with ⟨c, _⟩ | ⟨rfl, t1, s1, s2⟩
          · omega
          rcases soundE_cases h2 with ⟨c, _⟩ | ⟨rfl, t1', s1', s2'⟩
          · omega
          obtain ⟨K, B, S, H, L, R, hform⟩ := sumR_form neg s (manX hi lo) neg' s' (manX hi' lo')
          have k3 := fun w => freals_any neg s hi lo neg' s' hi' lo' ⟨t1, hh, hl⟩ ⟨t1', hh', hl'⟩ ⟨s1, s2⟩ ⟨s1', s2'⟩ w
          rw [hform] at k3 ⊢
          exact fusex_r 1 neg s hi lo false 1 neg' s' hi' lo' false hh hl hh' hl' h1 rfl h2 rfl a2 b0 b2 a0 K B S H L R k3 w
end Go.Proofs.YtheliihkkoohnabGreat
