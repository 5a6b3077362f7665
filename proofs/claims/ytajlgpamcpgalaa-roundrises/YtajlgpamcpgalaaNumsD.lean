import Derived.Test.YtajlgpamcpgalaaNumsC
namespace Go.Proofs.Ytajlgpamcpgalaa
open Go.ChangeShapes Go.WideShapes Go.ChangeAt Go.RowKit
set_option linter.unusedVariables false
set_option maxRecDepth 100000

theorem shr_digit (Y r : Nat) (hr : r < 24) : Y % 16777216 / 2 ^ r + Y / 16777216 % 16777216 % 2 ^ r * (16777216 / 2 ^ r) = Y / 2 ^ r % 16777216 := by
  have h : r = 0 ∨ r = 1 ∨ r = 2 ∨ r = 3 ∨ r = 4 ∨ r = 5 ∨ r = 6 ∨ r = 7 ∨ r = 8 ∨ r = 9 ∨ r = 10 ∨ r = 11 ∨ r = 12 ∨ r = 13 ∨ r = 14 ∨ r = 15 ∨ r = 16 ∨ r = 17 ∨ r = 18 ∨ r = 19 ∨ r = 20 ∨ r = 21 ∨ r = 22 ∨ r = 23 := by omega
  rcases h with h | h | h | h | h | h | h | h | h | h | h | h | h | h | h | h | h | h | h | h | h | h | h | h <;> subst h <;> simp only [Nat.reducePow, Nat.reduceDiv] <;> omega

/-- the lowest k digits, and noughts behind -/
def lowz (n k m : Nat) : List Nat := low n k ++ List.replicate (m - k) 0
theorem lowz_zero (n m : Nat) : lowz n 0 m = List.replicate m 0 := by simp [lowz, low_zero]
theorem lowz_all (n m : Nat) : lowz n m m = low n m := by simp [lowz]
theorem lowz_set (n k m : Nat) (h : k < m) : (lowz n k m).set k (top n k % 16777216) = lowz n (k + 1) m := by
  unfold lowz
  obtain ⟨j, rfl⟩ : ∃ j, m = k + 1 + j := ⟨m - k - 1, by omega⟩
  rw [show k + 1 + j - k = j + 1 by omega, show k + 1 + j - (k + 1) = j by omega, List.replicate_succ, low_snoc, List.set_append]
  simp [low_length]

theorem digit_int (v : Value) (n : Nat) (ii : Int) (i d : Nat) (hii : ii = (i : Int)) (hi : i < 4611686018427387904) (w : World) (hr : Row w v (dig n)) (hd : d = top n i % 16777216) :
    Calls Try.prog 50 #[v, .int .i64 ii] w fun e w' => e = .returned (.int .i64 d) ∧ w' = w := by
  rw [hii]; exact digit_dig v n i d hi w hr hd
theorem Row.drew {w : World} {v : Value} {l : List Nat} (h : Row w v l) : Row w.drew v l := h.below (Below.refl _ _).drew
theorem Row.cells {w : World} {b off k c n : Nat} (h : Row w (.slice (some ⟨b, off, none⟩) k c) (dig n)) : ∀ j, j < dlen n → w.cell? ⟨b, off + j, none⟩ = some (.int .i64 (top n j % 16777216 : Nat)) := by
  obtain ⟨ao, c', he, _, _, hr⟩ := h.reads
  injection he with e1 _ _
  subst e1
  intro j hj
  rcases hr with hr | ⟨b', off', e, _, hr⟩
  · omega
  · simp at e
    obtain ⟨rfl, rfl⟩ := e
    exact hr j hj

set_option maxHeartbeats 1000000 in
theorem nshr_new (va : Value) (a k : Nat) (hk : k ≤ 9223372036854775807) (hS : dlen a ≤ 1099511627776) (w : World) (ha : Row w va (dig a)) :
    Calls Try.prog 56 #[va, .int .i64 k] w fun e w' => ∃ v, e = .returned v ∧ Row w' v (dig (a / 2 ^ k)) ∧ Below w.heap.size w w' ∧ ∀ g, v.ownBlock = some g → w.heap.size ≤ g := by
  refine cps fun Q hQ => ?_
  have HA : Hid (Row w va (dig a)) := ha
  obtain ⟨aa, ca, rfl, h1, h2, hr⟩ := ha.reads
  clear ha
  obtain ⟨i0, hi, hz0, hz1, hz2⟩ := info_parts infoInt
  have e0 : a / 2 ^ k = top a (k / 24) / 2 ^ (k % 24) := by
    have h16 : (16777216 : Nat) = 2 ^ 24 := by decide
    rw [top_eq, Nat.div_div_eq_div_mul, h16, ← Nat.pow_mul, ← Nat.pow_add]; congr 2; omega
  by_cases h0 : dlen a ≤ k / 24
  · have HQ : Hid _ := hQ.out _ w ⟨.slice none 0 0, rfl, by rw [e0, top_eq_zero h0, Nat.zero_div, dig_zero]; exact row_nil w, Below.refl _ _, fun g h => by cases h⟩
    have hki : ((k : Int) / 24) = ((k / 24 : Nat) : Int) := by omega
    generalize k / 24 = q at *
    clear HA e0 hr
    go_enter Try.func56, Try.ntmps56
    go_wp2
    exact HQ.out
  · rcases hr with hr | ⟨b, off, rfl, hb, hr⟩
    · omega
    have HX := HA.out.drop (k / 24) (by omega)
    have hT := two_any (k % 24) (by omega)
    have hdig := fun Y => shr_digit Y (k % 24) (by omega)
    have hq : 0 < 2 ^ (k % 24) := Nat.pow_pos (by decide)
    have hq2 : 2 ^ (k % 24) ≤ 2 ^ 24 := Nat.pow_le_pow_right (by decide) (by omega)
    rw [e0] at hQ
    have hdl : dlen (top a (k / 24)) = dlen a - k / 24 := dlen_top _ _
    generalize hX : top a (k / 24) = X at *
    generalize hF : 2 ^ (k % 24) = F at *
    have hm0 : 0 < dlen X := by omega
    have hki : ((k : Int) / 24) = ((k / 24 : Nat) : Int) := by omega
    have hki2 : ((k : Int) % 24) = ((k % 24 : Nat) : Int) := by omega
    have hr24 : k % 24 ≤ 23 := by omega
    have hq24 : k / 24 < dlen a := by omega
    generalize k / 24 = q at *
    generalize k % 24 = r at *
    have Hdl : Hid (dlen X = dlen a - q) := hdl
    have Hd : Hid (∀ Y, Y % 16777216 / F + Y / 16777216 % 16777216 % F * (16777216 / F) = Y / F % 16777216) := hdig
    have HX' : Hid (Row w _ _) := HX
    have hmi : ((dlen a : Int) - q) = ((dlen X : Nat) : Int) := by omega
    clear e0 hX hF hdl hdig HX h0 hr
    go_enter Try.func56, Try.ntmps56
    go_wp2_with (first
      | (go_at_call 52; refine (hT _).mono ?_; rintro e w' ⟨rfl, hw⟩; rw [hw]; clear hw w')
      | (at_make; go_must (refine wpList_make_full _ rfl _ _ 63 rfl w.heap.size 3 i0 (.int .i64 0) 1 Try.underlying63 hi hz0 hz1 .i64 .i64 _ _ (dlen X) rfl rfl (by omega) (by omega) (by rw [hz2]; omega) (by unfold maxLen; omega) (Nat.le_refl _) ?_); intro w1 hown hg))
    rw [made_ints, ← lowz_zero (X / F)] at hown
    have hb0 := (Below.refl w.heap.size w).grown hg (Nat.le_refl _) (fun k hk => by cases hk)
    have hs0 : w.heap.size < w1.heap.size := by have := hown.lt w.heap.size rfl; omega
    have HC : Hid _ := HX'.out.cells
    have hF0 : 1 ≤ F := by omega
    have HF2 : Hid (F ≤ 16777216) := by show _ ≤ _; omega
    clear hg hT hq hq2 hi hz0 hz1 hz2
    go_loopw [8] (fun i wr => ∃ k : Nat, k ≤ dlen X ∧ i = .int .i64 k ∧ wr.ownsRow w.heap.size 3 1 (.slice (some ⟨w.heap.size, 0, none⟩) (dlen X) (dlen X)) (dlen X) ((lowz (X / F) k (dlen X)).map enc) ∧ Below w.heap.size w wr)
      (fun i _ => dlen X - (intOf i).toNat)
    case atStart => exact ⟨0, Nat.zero_le _, rfl, hown, hb0⟩
    case round =>
      obtain ⟨k, hk, rfl, hownr, hbel⟩ := hrel
      by_cases hlt : k < dlen X
      · have hcell := (hbel.cell (p := ⟨b, off + q + k, none⟩) hb).trans (HC.out k hlt)
        obtain ⟨D, hD⟩ : ∃ D, D = top X k % 16777216 := ⟨_, rfl⟩
        obtain ⟨N, hN⟩ : ∃ N, N = top X (k + 1) % 16777216 := ⟨_, rfl⟩
        obtain ⟨d1, hd1⟩ : ∃ d, d = D / F := ⟨_, rfl⟩
        obtain ⟨n1, hn1⟩ : ∃ d, d = N % F := ⟨_, rfl⟩
        obtain ⟨G, hG⟩ : ∃ d, d = 16777216 / F := ⟨_, rfl⟩
        obtain ⟨m1, hm1⟩ : ∃ d, d = n1 * G := ⟨_, rfl⟩
        have hz := Hd.out (top X k)
        rw [← top_div X F k, ← hD, show top X k / 16777216 = top X (k + 1) from rfl, ← hN, ← hd1, ← hn1, ← hG, ← hm1] at hz
        have hzl : top (X / F) k % 16777216 ≤ 16777215 := by omega
        have i1 : (D : Int) / (F : Int) = (d1 : Int) := by rw [hd1]; simp
        have i2 : (N : Int) % (F : Int) = (n1 : Int) := by rw [hn1]; simp
        have i3 : (16777216 : Int) / (F : Int) = (G : Int) := by rw [hG]; simp
        have i4 : (n1 : Int) * (G : Int) = (m1 : Int) := by rw [hm1]; simp
        have bd : d1 ≤ 16777215 := by omega
        have bm : m1 ≤ 16777215 := by omega
        have bD : D ≤ 16777215 := by omega
        have bN : N ≤ 16777215 := by omega
        have Hz : Hid (d1 + m1 = top (X / F) k % 16777216) := hz
        have HN : Hid (N = top X (k + 1) % 16777216) := hN
        have HR : Hid (Row wr _ _) := HX'.out.below hbel
        rw [← hD] at hcell
        have hfr := hownr.frozenAt k
        obtain ⟨y, hy⟩ : ∃ y, ((lowz (X / F) k (dlen X)).map enc)[k]? = some y := ⟨_, List.getElem?_eq_getElem (by simp [lowz, low_length]; omega)⟩
        have hce := hownr.cellAt k (by omega)
        rw [hy] at hce
        have j2 : (N : Int).tmod (F : Int) = (n1 : Int) := by rw [Int.tmod_eq_emod_of_nonneg (by omega)]; exact i2
        have j3 : Int.tdiv 16777216 (F : Int) = (G : Int) := by rw [Int.tdiv_eq_ediv_of_nonneg (by omega)]; exact i3
        have j1 : (D : Int).tdiv (F : Int) = (d1 : Int) := by rw [Int.tdiv_eq_ediv_of_nonneg (by omega)]; exact i1
        have jk : IntKind.i64.wrap ((k : Int) + 1) = (k : Int) + 1 := wrapI (by omega)
        have bG : G ≤ 16777216 := by rw [hG]; exact Nat.div_le_self _ _
        have jd : IntKind.i64.wrap (d1 : Int) = (d1 : Int) := wrapI (by omega)
        have jG : IntKind.i64.wrap (G : Int) = (G : Int) := wrapI (by omega)
        have jm : IntKind.i64.wrap (m1 : Int) = (m1 : Int) := wrapI (by omega)
        have js : IntKind.i64.wrap ((d1 : Int) + (m1 : Int)) = (d1 : Int) + (m1 : Int) := wrapI (by omega)
        have hst := hownr.stored k (enc (top (X / F) k % 16777216))
        rw [← List.map_set, lowz_set _ _ _ hlt] at hst
        have Hst : Hid _ := hst
        clear hst hownr hy hz hzl hN hD hd1 hn1 hG hm1 hown hb0
        go_wp2
        go_region_with (go_at_call 50; refine (digit_int _ X ((k : Int) + 1) (k + 1) N (by omega) (by omega) _ HR.out.drew HN.out).mono ?_; rintro e w' ⟨rfl, hw⟩; rw [hw]; clear hw w')
        all_goals
          go_wp2
          go_roundw
          case measure => simp [intOf]; omega
          case rel =>
            have ev : ((d1 : Int) + (m1 : Int)) = ((top (X / F) k % 16777216 : Nat) : Int) := by have := Hz.out; omega
            refine ⟨k + 1, by omega, by go_num, ?_⟩
            rw [ev]
            exact ⟨owns_drewN Hst.out.1 1, (hbel.setCell (Nat.le_refl _) _).drew⟩
      · have hk1 : k = dlen X := by omega
        subst hk1
        rw [lowz_all] at hownr
        have hrw := row_own hownr
        have hle : dlen (X / F) ≤ dlen X := dlen_mono (Nat.div_le_self _ _)
        rw [low_ge hle] at hrw
        have HRW : Hid (Row wr _ _) := hrw
        clear hrw hown hownr
        go_wp2_with (go_at_call 73; refine (cut_own _ _ (X / F) _ rfl _ HRW.out).mono ?_; rintro e w' ⟨v', rfl, hv, hw, hob⟩; rw [hw]; clear hw w')
        exact hQ.out _ _ ⟨v', rfl, hv, hbel, fun g h => by rw [hob] at h; cases h; exact Nat.le_refl _⟩
theorem nshr_any (va : Value) (a k : Nat) (hk : k ≤ 9223372036854775807) (hS : dlen a ≤ 1099511627776) (w : World) (ha : Row w va (dig a)) :
    Calls Try.prog 56 #[va, .int .i64 k] w fun e w' => ∃ v, e = .returned v ∧ Row w' v (dig (a / 2 ^ k)) ∧ Below w.heap.size w w' := by
  refine (nshr_new va a k hk hS w ha).mono ?_
  rintro e w' ⟨v, h1, h2, h3, _⟩
  exact ⟨v, h1, h2, h3⟩
end Go.Proofs.Ytajlgpamcpgalaa
