import Derived.Test.YtckmmdmimlhmoaaDoorNatTx
namespace Go.Proofs.YtckmmdmimlhmoaaDoor
open Go.ChangeShapes Go.WideShapes Go.ChangeAt Go.RowKit
set_option linter.unusedVariables false
set_option linter.unusedSimpArgs false
set_option maxRecDepth 100000

/-! ### Text -/
def bdig (d : Nat) : UInt8 := UInt8.ofNat (48 + d)
theorem encB_bdig {d : Nat} (h : d < 10) : encB (bdig d) = .int .u8 (48 + (d : Int)) := by
  simp [encB, bdig]; omega
/-- where what's left of the number stands -/
def Rest (B b : Nat) (w : World) (v : Value) (y : Nat) : Prop :=
  ∃ ao, v = .slice ao (lim y).length (lim y).length ∧ (y = 0 ∨ ∃ g R, ao = some ⟨g, 0, none⟩ ∧ B ≤ g ∧ g < b ∧ Blk w g (lim y ++ R))
theorem rest_chunk (x a i : Nat) (h : i < 19) : x / 10 ^ a % 10000000000000000000 / 10 ^ i % 10 = x / 10 ^ (a + i) % 10 := by
  have e : (10000000000000000000 : Nat) = 10 ^ i * 10 ^ (19 - i) := by
    rw [← Nat.pow_add, show i + (19 - i) = 19 by omega]
  rw [e, Nat.mod_mul_right_div_self, Nat.pow_add, ← Nat.div_div_eq_div_mul]
  refine Nat.mod_mod_of_dvd _ ?_
  exact ⟨10 ^ (18 - i), by rw [← Nat.pow_succ']; congr 1; omega⟩
theorem chunks_le (x n j : Nat) (h : x < 18446744073709551616 ^ n) (hy : x / 10 ^ (19 * j) ≠ 0) : j ≤ 2 * n := by
  have h1 : 10 ^ (19 * j) ≤ x := by
    apply Nat.le_of_not_lt
    intro g
    exact hy (Nat.div_eq_of_lt g)
  apply Nat.le_of_not_lt
  intro g
  have h2 : (18446744073709551616 : Nat) ^ n ≤ 10 ^ (19 * j) := by
    rw [Nat.pow_mul]
    refine Nat.le_trans (Nat.pow_le_pow_left (show 18446744073709551616 ≤ (10 ^ 19) ^ 2 by decide) n) ?_
    rw [← Nat.pow_mul]
    exact Nat.pow_le_pow_right (by decide) (by omega)
  omega
def C19 (x a rem : Nat) : Prop := ∀ i, i < 19 → rem / 10 ^ i % 10 = x / 10 ^ (a + i) % 10
def slen : Value → Nat
  | .slice _ n _ => n
  | _ => 0
theorem owns_len {w : World} {base n : Nat} {e : TypeId} {v : Value} {xs : List Value} (h : w.ownsRow base e 1 v n xs) : slen v = n := by
  rcases h.2 with ⟨rfl, hn0⟩ | ⟨g, cap, cur, rfl, _⟩
  · exact hn0.symm
  · rfl
theorem Rest.below {B b : Nat} {w w' : World} {v : Value} {y : Nat} (h : Rest B b w v y) (hb : Below b w w') : Rest B b w' v y := by
  obtain ⟨ao, rfl, h⟩ := h
  refine ⟨ao, rfl, ?_⟩
  rcases h with h | ⟨g, R, rfl, h1, h2, h3⟩
  · exact .inl h
  · exact .inr ⟨g, R, rfl, h1, h2, h3.below hb h2⟩
theorem cut_rest (B b g r z : Nat) (R : List Nat) (hz : z < 18446744073709551616 ^ r) (hB : B ≤ g) (hgb : g < b) (hr : r ≤ 9223372036854775807) (w : World) (hblk : Blk w g (fix r z ++ R)) :
    Calls Tryd.prog 18 #[.slice (some ⟨g, 0, none⟩) r r] w fun e w' => (∃ v', e = .returned v' ∧ Rest B b w v' z) ∧ w' = w := by
  have hlen := fix_length r z
  have hrow : RowU w (.slice (some ⟨g, 0, none⟩) (fix r z).length r) (fix r z) := Blk.row (P := []) (R := R) (by simpa using hblk) r (by omega) hr
  rw [hlen] at hrow
  have hu : uval (fix r z) = z := by rw [uval_fix, Nat.mod_eq_of_lt hz]
  refine (natcut_raw _ (fix r z) (fix_limbs r z) w hrow).mono ?_
  rintro e w' ⟨⟨ao, c, hv, rfl⟩, rfl⟩
  refine ⟨⟨_, rfl, ao, by rw [hu], .inr ⟨g, List.replicate (r - (lim z).length) 0 ++ R, by injection hv with h1; exact h1.symm, hB, hgb, ?_⟩⟩, rfl⟩
  rw [← List.append_assoc, ← fix_lim hz]; exact hblk
theorem decS_or (x : Nat) : (if dstr (ds x) = ⟨#[]⟩ then (⟨#[48]⟩ : ByteArray) else dstr (ds x)) = decS x := by
  unfold decS
  by_cases h0 : x = 0
  · subst h0
    rw [ds_zero, if_pos (show dstr [] = ⟨#[]⟩ from rfl), if_pos rfl]; rfl
  · rw [if_neg h0, if_neg]
    intro h
    have := congrArg ByteArray.size h
    rw [dstr_size, ds_pos h0, List.length_append, List.length_singleton] at this
    have e : (⟨#[]⟩ : ByteArray).size = 0 := rfl
    omega
set_option maxHeartbeats 4000000 in
theorem nattext_any (va : Value) (l : List Nat) (hl : Limbs l) (hb : l.length ≤ 1048576) (w : World) (h : RowU w va l) :
    Calls Tryd.prog 17 #[va] w fun e w' => e = .returned (.string (decS (uval l))) ∧ Below w.heap.size w w' := by
  obtain ⟨i0, hi, hz0, hz1, hz2⟩ := info_parts infoU8
  have KCL := natclone_any va l (by omega) w h
  have KCL : Hid (Calls _ _ _ _ _) := KCL
  obtain ⟨x, hx⟩ : ∃ x, x = uval l := ⟨_, rfl⟩
  have hxl : x < 18446744073709551616 ^ l.length := by rw [hx]; exact uval_lt' l hl
  have HXL : Hid (x < 18446744073709551616 ^ l.length) := hxl
  have HX : Hid (x = uval l) := hx
  rw [← hx]
  have HL : Hid (Limbs l) := hl
  clear hxl hl h hx
  refine cps fun Q hQ => ?_
  go_enter Tryd.func17, Tryd.ntmps17
  have kcut : ∀ (v : Value) (w1 : World), Copy w.heap.size w1 v l → Calls Tryd.prog 18 #[v] w1 fun e w' => (∃ v', e = .returned v' ∧ Rest w.heap.size w1.heap.size w1 v' x) ∧ w' = w1 := by
    intro v w1 hc
    have hrow : RowU w1 v l := by
      rcases hc with ⟨rfl, rfl⟩ | ⟨g, c, rfl, hlc, hc, hg, hblk⟩
      · exact ⟨none, 0, rfl, by decide, Nat.le_refl _, .inl rfl⟩
      · exact Blk.row (P := []) (R := []) (by simpa using hblk) c hlc hc
    refine (natcut_raw v l HL.out w1 hrow).mono ?_
    rintro e w' ⟨⟨ao, c, hv, rfl⟩, rfl⟩
    refine ⟨⟨_, rfl, ao, by rw [HX.out], ?_⟩, rfl⟩
    rcases hc with ⟨rfl, _⟩ | ⟨g, c2, rfl, hlc, hc, hg, hblk⟩
    · left; rw [HX.out]; rfl
    · right
      refine ⟨g, List.replicate (l.length - (lim x).length) 0, by injection hv with h1; exact h1.symm, hg, hblk.lt, ?_⟩
      rw [HX.out, ← lim_cut l HL.out]; exact hblk
  have KCUT : Hid (∀ (v : Value) (w1 : World), Copy w.heap.size w1 v l → Calls Tryd.prog 18 #[v] w1 fun e w' => (∃ v', e = .returned v' ∧ Rest w.heap.size w1.heap.size w1 v' x) ∧ w' = w1) := kcut
  clear kcut
  go_wp2_with (first
    | (go_at_call 25; refine KCL.out.mono ?_; rintro e w1 ⟨v1, rfl, hcp, hb1⟩)
    | (go_at_call 18; refine (KCUT.out _ _ hcp).mono ?_; rintro e w2 ⟨⟨v2, rfl, hrest⟩, rfl⟩))
  obtain ⟨base, hbase⟩ : ∃ b, b = w2.heap.size := ⟨_, rfl⟩
  rw [← hbase] at hrest
  have HB1 : Hid (Below w.heap.size w w2) := hb1
  have HBW : Hid (w.heap.size ≤ base) := by show _ ≤ _; rw [hbase]; exact hb1.size
  have HBS : Hid (base = w2.heap.size) := hbase
  clear hb1 hcp hbase KCUT KCL
  go_loopw [3, 4] (fun tv rv wr => ∃ (j : Nat), Hid (wr.ownsRow base 5 1 tv (19 * j) (((dle (19 * j) x).map bdig).map encB)) ∧ Hid (Rest w.heap.size base wr rv (x / 10 ^ (19 * j))) ∧ Hid (Below w.heap.size w wr) ∧ Hid (base ≤ wr.heap.size) ∧ Hid (j ≤ 2 * l.length + 1)) (fun tv _ _ => 38 * l.length + 38 - slen tv)
  case atStart =>
    refine ⟨0, World.ownsRow_nil _ _ _ _, ?_, HB1.out, ?_, Nat.zero_le _⟩
    · show Rest _ _ _ _ _
      rw [show x / 10 ^ (19 * 0) = x by simp]; exact hrest
    · show _ ≤ _; rw [HBS.out]; exact Nat.le_refl _
  case round =>
    clear hrest
    obtain ⟨j, hown, hrest, hbel, hbs, hjb⟩ := hrel
    have HSL : Hid (slen u3 = 19 * j) := owns_len hown.out
    obtain ⟨y, hy⟩ : ∃ y, y = x / 10 ^ (19 * j) := ⟨_, rfl⟩
    rw [← hy] at hrest
    have HY : Hid (y = x / 10 ^ (19 * j)) := hy
    clear hy
    obtain ⟨ao, rfl, hR⟩ := hrest.out
    by_cases hy0 : y = 0
    · subst hy0
      rw [lim_zero]
      have hxp : x < 10 ^ (19 * j) := by
        have h1 := HY.out
        apply Nat.lt_of_not_le
        intro g
        have := Nat.div_pos g (Nat.pow_pos (by decide : 0 < 10))
        omega
      have hbs2 := hbs.out
      have hsj : 19 * j ≤ 1099511627776 := by have := hjb.out; omega
      have krev := rev_any base (19 * j) u3 ((dle (19 * j) x).map bdig) hsj wr hown.out hbs2
      rw [← List.map_reverse] at krev
      have KREV : Hid (Calls _ _ _ _ _) := krev
      obtain ⟨D, hD⟩ : ∃ D, D = (dle (19 * j) x).reverse := ⟨_, rfl⟩
      have HD : Hid (D = (dle (19 * j) x).reverse) := hD
      have hDs : D.length ≤ 1099511627776 := by rw [hD, List.length_reverse, dle_length]; exact hsj
      have hDm : ∀ d ∈ D, d < 10 := fun d h => dle_mem (19 * j) x d (by rw [hD] at h; exact List.mem_reverse.1 h)
      have hdd : D.dropWhile (· == 0) = ds x := by rw [hD]; exact dle_ds (19 * j) x hxp
      have ktrim := fun w => trim_any D hDm hDs w
      rw [hdd] at ktrim
      have kor := fun g w h0 h1 => or2_any g (dstr (ds x)) ⟨#[48]⟩ (by decide) w h0 h1
      simp only [decS_or] at kor
      have hcv := fun (v : Value) (w1 : World) (h : w1.ownsRow base 5 1 v (19 * j) ((D.map bdig).map encB)) => run_convert_own (P := Tryd.prog) (D.map bdig) h Tryd.underlying63 Tryd.underlying5 Tryd.underlying9
      clear hdd hDm hDs krev hR hrest hxp hown hsj
      rw [← hD] at KREV
      clear hD
      go_wp2_with (first
        | (go_at_call 34; refine KREV.out.mono ?_; rintro e w3 ⟨rfl, hown3, hb3⟩; have hcv3 := hcv _ _ hown3)
        | (go_at_call 36; refine (ktrim _).mono ?_; rintro e w4 ⟨rfl, rfl⟩)
        | (go_at_call 35; refine (kor _ _ ((World.cell?_alloc_at _ _ _ _ rfl).trans rfl) ((World.cell?_alloc_at _ _ _ _ rfl).trans rfl)).mono ?_; rintro e w6 ⟨rfl, rfl⟩))
      have hb4 : Below w.heap.size w w4 := hbel.out.trans (hb3.mono HBW.out)
      exact hQ.out _ _ ⟨rfl, hb4.alloc hb4.size _⟩
    · rcases hR with h | ⟨g, R, rfl, hgw, hgb, hblk⟩
      · exact absurd h hy0
      obtain ⟨r, hr⟩ : ∃ r, r = (lim y).length := ⟨_, rfl⟩
      have hr0 : 0 < r := by
        have := mt lim_nil.1 hy0
        omega
      have hyx : y ≤ x := by rw [HY.out]; exact Nat.div_le_self _ _
      have hrl : r ≤ l.length := by rw [hr]; exact lim_length_le (Nat.lt_of_le_of_lt hyx HXL.out)
      have hj : j ≤ 2 * l.length := chunks_le x l.length j HXL.out (by rw [← HY.out]; exact hy0)
      have hyr : y < 18446744073709551616 ^ r := by rw [hr]; exact lim_lt_pow y
      have hz : y / 10000000000000000000 < 18446744073709551616 ^ r := Nat.lt_of_le_of_lt (Nat.div_le_self _ _) hyr
      have kp : ∀ w, Calls Tryd.prog 33 #[.int .i64 19] w fun e w' => e = .returned (.int .u64 10000000000000000000) ∧ w' = w := fun w => natpower_any 19 (by decide) w
      have ks := natshort_any g r 10000000000000000000 (lim y) R (lim_limbs y) (by decide) (by decide) (by omega) (by omega) (by omega) wr hblk
      rw [uval_lim, ← hr] at ks
      obtain ⟨rem, hrem⟩ : ∃ q, q = y % 10000000000000000000 := ⟨_, rfl⟩
      obtain ⟨z, hzz⟩ : ∃ q, q = y / 10000000000000000000 := ⟨_, rfl⟩
      rw [← hrem, ← hzz] at ks
      rw [← hzz] at hz
      have kc := fun w1 (h : Blk w1 g (fix r z ++ R)) => cut_rest w.heap.size base g r z R hz hgw hgb (by omega) w1 h
      have KS : Hid (Calls _ _ _ _ _) := ks
      have KC : Hid (∀ w1, Blk w1 g (fix r z ++ R) → Calls _ _ _ w1 _) := kc
      have HRZ : Hid (rem = y % 10000000000000000000 ∧ z = y / 10000000000000000000) := ⟨hrem, hzz⟩
      clear ks kc hrem hzz hrest hz hyr hyx hblk
      have HR : Hid (r = (lim y).length) := hr
      rw [← hr]
      clear hr
      go_wp2_with (first
        | (go_at_call 33; refine (kp _).mono ?_; rintro e w3 ⟨rfl, rfl⟩)
        | (go_at_call 32; refine KS.out.mono ?_; rintro e w5 ⟨rfl, hblk4, hgr4⟩)
        | (go_at_call 18; refine (KC.out _ hblk4).mono ?_; rintro e w5 ⟨⟨v5, rfl, hrest5⟩, rfl⟩))
      have hown4 := hown.out.kept hgr4 (by
        rcases e1 : Value.ownBlock u3 with _ | k
        · exact .inl rfl
        · right
          have := (hown.out.lt k e1).1
          intro h2
          injection h2 with h3
          omega)
      have HOWN4 : Hid (w5.ownsRow base 5 1 u3 (19 * j) (((dle (19 * j) x).map bdig).map encB)) := hown4
      have hbel4 : Below w.heap.size w w5 := hbel.out.trans (grown_below hgr4 hgw hbel.out.size)
      have HBEL4 : Hid (Below w.heap.size w w5) := hbel4
      have HBS4 : Hid (base ≤ w5.heap.size) := Nat.le_trans hbs.out hgr4.size
      have HREST : Hid (Rest w.heap.size base w5 v5 z) := hrest5
      have HC : Hid (C19 x (19 * j) rem) := fun i hi => by
        rw [HRZ.out.1, HY.out]; exact rest_chunk x (19 * j) i hi
      clear hown4 hbel4 hgr4 hblk4 hrest5 hown hbel hbs KC kp
      go_loopw [3, 5, 17] (fun tv pv iv wx => ∃ (i p : Nat), i ≤ 19 ∧ iv = .int .i64 i ∧ pv = .int .u64 p ∧ Hid (p = rem / 10 ^ i) ∧ Hid (wx.ownsRow base 5 1 tv (19 * j + i) (((dle (19 * j + i) x).map bdig).map encB)) ∧ Hid (Below base w5 wx)) (fun _ _ iv _ => 19 - (intOf iv).toNat)
      case atStart => exact ⟨0, rem, by decide, rfl, rfl, by show _ = _; simp, HOWN4.out, Below.refl _ _⟩
      case round =>
        obtain ⟨i, p, hi19, rfl, rfl, hp, hown, hbel⟩ := hrel
        by_cases hlt : i < 19
        · obtain ⟨d, hd⟩ : ∃ d, d = p % 10 := ⟨_, rfl⟩
          obtain ⟨m', hm'⟩ : ∃ d, d = p / 10 := ⟨_, rfl⟩
          have HD : Hid (x / 10 ^ (19 * j + i) % 10 = d) := by
            have h1 := HC.out i hlt
            rw [← hp.out, ← hd] at h1
            exact h1.symm
          have HM : Hid (m' = rem / 10 ^ (i + 1)) := by
            show _ = _
            rw [hm', hp.out, Nat.div_div_eq_div_mul, ← Nat.pow_succ]
          have v1' : (p : Int) % 10 = d := by omega
          have v2' : (p : Int).tmod 10 = d := by rw [Int.tmod_eq_emod_of_nonneg (by omega)]; exact v1'
          have v3 : (p : Int) / 10 = m' := by omega
          have hd9 : d ≤ 9 := by omega
          have v4 : IntKind.u8.wrap ((48 : Int) + d) = (48 : Int) + d := by rw [IntKind.wrap_u8]; omega
          have v5' : IntKind.u8.wrap (d : Int) = (d : Int) := by rw [IntKind.wrap_u8]; omega
          have hbs2 : base ≤ wr.heap.size := Nat.le_trans HBS4.out hbel.out.size
          clear hd hm' hp
          go_wp2_with (at_builtin; go_must (refine append1 rfl _ _ 63 rfl base 5 i0 (.int .u8 0) 1 Tryd.underlying63 hi hz0 hz1 hz2 rfl _ _ _ hown.out rfl rfl rfl (by omega) (by omega) hbs2 ?_); intro v' w1 hown1 hb1 hne1 _)
          have v6 : IntKind.u64.wrap (m' : Int) = (m' : Int) := by
            have h1 := HM.out
            have h2 := Nat.div_le_self rem (10 ^ (i + 1))
            have h3 := HRZ.out.1
            rw [IntKind.wrap_u64]; omega
          rw [v6]
          refine ⟨⟨i + 1, m', by omega, by go_num, rfl, HM, ?_, hbel.out.trans hb1⟩, by simp [intOf]; omega⟩
          show World.ownsRow _ _ _ _ _ _ _
          rw [show 19 * j + (i + 1) = 19 * j + i + 1 by omega, dle_snoc, HD.out, List.map_append, List.map_append]
          simp only [List.map_cons, List.map_nil]
          rw [encB_bdig (by omega)]
          exact hown1
        · have hi2 : i = 19 := by omega
          subst hi2
          have hbs2 : base ≤ wr.heap.size := Nat.le_trans HBS4.out hbel.out.size
          go_wp2
          refine ⟨⟨j + 1, ?_, ?_, ?_, hbs2, by show _ ≤ _; omega⟩, ?_⟩
          · exact hown
          · show Rest _ _ _ _ _
            rw [show x / 10 ^ (19 * (j + 1)) = z by
              rw [show 19 * (j + 1) = 19 * j + 19 by omega, Nat.pow_add, ← Nat.div_div_eq_div_mul, ← HY.out, HRZ.out.2]]
            exact HREST.out.below hbel.out
          · exact HBEL4.out.trans (hbel.out.mono HBW.out)
          · have h1 := owns_len hown.out
            have h2 := HSL.out
            rw [h1, h2]
            omega
end Go.Proofs.YtckmmdmimlhmoaaDoor
