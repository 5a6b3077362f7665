import Derived.Test.YthchcocolclpoaaGreatDoorNatRb
import Derived.Test.YthchcocolclpoaaGreatDoorNatTen
import Derived.Test.YthchcocolclpoaaGreatDoorNatL
namespace Go.Proofs.YthchcocolclpoaaGreatDoor
open Go.ChangeShapes Go.WideShapes Go.ChangeAt Go.RowKit
set_option linter.unusedVariables false
set_option linter.unusedSimpArgs false
set_option maxRecDepth 100000

/-! ### Read -/
def isDig (b : UInt8) : Prop := 48 ≤ b.toNat ∧ b.toNat ≤ 57
theorem contains_tens (b : UInt8) : tens.data.toList.contains b = decide (48 ≤ b.toNat ∧ b.toNat ≤ 57) := by
  rw [Bool.eq_iff_iff]
  simp [tens, ← UInt8.toNat_inj]
  omega
theorem toList_get (s : ByteArray) (j : Nat) (b : UInt8) (h : s.data.toList[j]? = some b) : ∃ hj : j < s.size, s[j]'hj = b := by
  obtain ⟨hj, e⟩ := List.getElem?_eq_some_iff.1 h
  exact ⟨by simpa using hj, by rw [← e]; rfl⟩
theorem stray_any (s : ByteArray) (hs : s.size ≤ 4096) (f : Nat) (hf : f ≤ s.size) (hbef : ∀ j (hj : j < s.size), j < f → 48 ≤ (s[j]'hj).toNat ∧ (s[j]'hj).toNat ≤ 57) (hat : ∀ hj : f < s.size, ¬ (48 ≤ (s[f]'hj).toNat ∧ (s[f]'hj).toNat ≤ 57)) (w : World) :
    Calls Tryz.prog 14 #[.string s] w fun e w' => e = .returned (.int .i64 f) ∧ Below w.heap.size w w' := by
  have k := fun w => trimten_any s w
  have e1 : Lib.trimLeftS s.data.toList tens.data.toList = s.data.toList.drop f := by
    refine Lib.trimLeftS_drop _ _ f (by rw [← Lib.size_eq]; exact hf) (fun j b hj hb => ?_) (fun b hb => ?_)
    · obtain ⟨h1, h2⟩ := toList_get s j b hb
      rw [contains_tens, ← h2]
      exact decide_eq_true (hbef j h1 hj)
    · obtain ⟨h1, h2⟩ := toList_get s f b hb
      rw [contains_tens, ← h2]
      exact decide_eq_false (hat h1)
  rw [e1] at k
  have e2 : (⟨(s.data.toList.drop f).toArray⟩ : ByteArray).size = s.size - f := by rw [Lib.size_mk, List.length_drop, ← Lib.size_eq]
  generalize (⟨(s.data.toList.drop f).toArray⟩ : ByteArray) = t at *
  have e3 : (s.size : Int) - ((s.size - f : Nat) : Int) = f := by omega
  generalize s.size - f = y at *
  have K : Hid (∀ w, Calls _ _ _ _ _) := k
  clear k hbef hat e1
  refine cps fun Q hQ => ?_
  unfold tens at K
  go_enter Tryz.func14, Tryz.ntmps14
  go_wp2_with (go_at_call 36; refine (K.out _).mono ?_; rintro e w1 ⟨rfl, hb1⟩)
  exact hQ.out _ _ ⟨by simp, hb1⟩
theorem natread_long (s : ByteArray) (h : 4096 < s.size) (hs : s.size ≤ maxLen) (w : World) :
    Calls Tryz.prog 5 #[.string s] w fun e w' => e = .returned (.tuple #[.slice none 0 0, .iface 29 (.int .i64 13)]) ∧ Below w.heap.size w w' := by
  have hm : s.size ≤ 9223372036854775807 := by unfold maxLen at hs; omega
  clear hs
  refine cps fun Q hQ => ?_
  go_enter Tryz.func5, Tryz.ntmps5
  go_wp2
  exact hQ.out _ _ ⟨rfl, Below.refl _ _⟩
theorem natread_bad (s : ByteArray) (h : s.size ≤ 4096) (f : Nat) (hf : (∃ g : f < s.size, (∀ j (hj : j < s.size), j < f → 48 ≤ (s[j]'hj).toNat ∧ (s[j]'hj).toNat ≤ 57) ∧ ¬ (48 ≤ (s[f]'g).toNat ∧ (s[f]'g).toNat ≤ 57)) ∨ (f = 0 ∧ s.size = 0)) (w : World) :
    Calls Tryz.prog 5 #[.string s] w fun e w' => ∃ b : Nat, e = .returned (.tuple #[.slice none 0 0, .iface 41 (.pointer (some ⟨b, 0, none⟩))]) ∧ w'.cell? ⟨b, 0, none⟩ = some (.int .i64 0) ∧ w'.cell? ⟨b, 1, none⟩ = some (.int .i64 f) ∧ w'.cell? ⟨b, 2, none⟩ = some (.iface 29 (.int .i64 7)) ∧ Below w.heap.size w w' := by
  have k := fun w => stray_any s h f (by rcases hf with ⟨g, _⟩ | ⟨h1, h2⟩ <;> omega) (by
    rcases hf with ⟨g, h1, h2⟩ | ⟨h1, h2⟩
    · exact h1
    · intro j hj; omega) (by
    rcases hf with ⟨g, h1, h2⟩ | ⟨h1, h2⟩
    · exact fun _ => h2
    · intro hj; omega) w
  have K : Hid (∀ w, Calls _ _ _ _ _) := k
  have hw : (∃ hx : f < s.size, True) ∨ (f = 0 ∧ s.size = 0) := hf.elim (fun ⟨g, _⟩ => .inl ⟨g, trivial⟩) .inr
  clear k hf
  refine cps fun Q hQ => ?_
  rcases hw with ⟨hx, _⟩ | ⟨rfl, h0⟩
  · go_enter Tryz.func5, Tryz.ntmps5
    go_wp2_with (go_at_call 14; refine (K.out _).mono ?_; rintro e w1 ⟨rfl, hb1⟩)
    exact hQ.out _ _ ⟨_, rfl, World.cell?_alloc_at _ _ _ _ rfl, World.cell?_alloc_at _ _ _ _ rfl, World.cell?_alloc_at _ _ _ _ rfl, hb1.alloc hb1.size _⟩
  · have hemp : s = ⟨#[]⟩ := ByteArray.ext (Array.eq_empty_of_size_eq_zero h0)
    subst hemp
    go_enter Tryz.func5, Tryz.ntmps5
    go_wp2_with (go_at_call 14; refine (K.out _).mono ?_; rintro e w1 ⟨rfl, hb1⟩)
    exact hQ.out _ _ ⟨_, rfl, World.cell?_alloc_at _ _ _ _ rfl, World.cell?_alloc_at _ _ _ _ rfl, World.cell?_alloc_at _ _ _ _ rfl, hb1.alloc hb1.size _⟩
theorem extract_get (s : ByteArray) (k e j : Nat) (h1 : k + j < e) (h2 : e ≤ s.size) (hj : j < (s.extract k e).size) : (s.extract k e)[j]'hj = s[k + j]'(by omega) := by
  simp [ByteArray.getElem_extract]
theorem dnum_split (s : ByteArray) (k e j : Nat) (h1 : k + j ≤ e) (h2 : e ≤ s.size) : dnum s (k + j) = dnum s k * 10 ^ j + dnum (s.extract k e) j := by
  induction j with
  | zero => simp [dnum]
  | succ j ih =>
    have hs : (s.extract k e).size = e - k := by rw [ByteArray.size_extract]; omega
    rw [← Nat.add_assoc, dnum_succ s (k + j) (by omega), dnum_succ _ j (by omega), ih (by omega), extract_get s k e j (by omega) h2 (by omega), Nat.pow_succ]
    generalize (s[k + j]).toNat - 48 = d
    rw [Nat.add_mul, Nat.mul_assoc, Nat.add_assoc]
theorem dnum_lim (s : ByteArray) (hd : ∀ j (hj : j < s.size), 48 ≤ (s[j]'hj).toNat ∧ (s[j]'hj).toNat ≤ 57) (k : Nat) (hk : k ≤ s.size) : (lim (dnum s k)).length ≤ k := by
  refine lim_length_le (Nat.lt_of_lt_of_le (dnum_lt s k hd hk) (Nat.pow_le_pow_left (by decide) k))
theorem OwnU.rowf {B : Nat} {w : World} {v : Value} {x : Nat} (h : OwnU B w v x) : ∃ ao n c, v = .slice ao n c ∧ RowU w v (lim x) := by
  obtain ⟨ao, n, rfl⟩ := h.form; exact ⟨ao, n, n, rfl, h.row⟩
set_option maxHeartbeats 8000000 in
theorem natread_any (s : ByteArray) (h : s.size ≤ 4096) (h0 : 0 < s.size) (hd : ∀ j (hj : j < s.size), 48 ≤ (s[j]'hj).toNat ∧ (s[j]'hj).toNat ≤ 57) (w : World) :
    Calls Tryz.prog 5 #[.string s] w fun e w' => ∃ v, e = .returned (.tuple #[v, .nilIface]) ∧ RowU w' v (lim (dnum s s.size)) ∧ Below w.heap.size w w' := by
  have k := fun w => stray_any s h s.size (Nat.le_refl _) (fun j hj _ => hd j hj) (fun hj => by omega) w
  have K : Hid (∀ w, Calls _ _ _ _ _) := k
  have HD : Hid (∀ j (hj : j < s.size), 48 ≤ (s[j]'hj).toNat ∧ (s[j]'hj).toNat ≤ 57) := hd
  have hemp : s.toList.isEmpty = false := by
    rw [← decide_eq_emptyBytes]
    refine decide_eq_false fun h => ?_
    rw [h] at h0; exact absurd h0 (by decide)
  clear k hd
  refine cps fun Q hQ => ?_
  go_enter Tryz.func5, Tryz.ntmps5
  go_wp2_with (go_at_call 14; refine (K.out _).mono ?_; rintro e w1 ⟨rfl, hb1⟩)
  have HB1 : Hid (Below w.heap.size w w1) := hb1
  clear hb1
  go_loopw [0, 5] (fun sv nv wr => ∃ (k : Nat) (t : ByteArray), k ≤ s.size ∧ sv = .string t ∧ t.size = s.size - k ∧ Hid (t = s.extract k s.size) ∧ Hid (RowU wr nv (lim (dnum s k))) ∧ Hid (Below w.heap.size w wr)) (fun sv _ _ => match sv with | .string b => b.size | _ => 0)
  case atStart => exact ⟨0, s, Nat.zero_le _, rfl, rfl, by show _ = _; simp, by show RowU _ _ _; rw [show dnum s 0 = 0 from rfl]; exact (OwnU.nil 0 w1).row, HB1.out⟩
  case round =>
    obtain ⟨k, t, hk, rfl, hts, ht, hr, hbel⟩ := hrel
    by_cases hlt : k < s.size
    · obtain ⟨y, hy⟩ : ∃ y, y = s.size - k := ⟨_, rfl⟩
      rw [← hy] at hts
      have hy0 : 0 < y := by omega
      have hyb : y ≤ 4096 := by omega
      obtain ⟨m, hm⟩ : ∃ m, m = min y 19 := ⟨_, rfl⟩
      have hm1 : (if (19 : Int) < (y : Int) then (19 : Int) else (y : Int)) = (m : Int) := by split <;> omega
      have hm2 : min (y : Int) 19 = (m : Int) := by omega
      have hm3 : min (19 : Int) (y : Int) = (m : Int) := by omega
      have hm19 : m ≤ 19 := by omega
      have hm0 : 0 < m := by omega
      have hmy : m ≤ y := by omega
      have r1 := fun wx => slice_h (P := Tryz.prog) (s := t) Tryz.underlying9 m m rfl (by omega) wx
      have r2 := fun wx => slice_l (P := Tryz.prog) (s := t) Tryz.underlying9 m m rfl (by omega) wx
      have et1 : t.extract 0 m = s.extract k (k + m) := by
        rw [ht.out]; apply ByteArray.ext; simp only [ByteArray.data_extract]; rw [Array.extract_extract]; congr 1; omega
      have et2 : t.extract m t.size = s.extract (k + m) s.size := by
        rw [hts, ht.out]; apply ByteArray.ext; simp only [ByteArray.data_extract]; rw [Array.extract_extract]; congr 1; omega
      have hPs : (t.extract 0 m).size = m := by rw [ByteArray.size_extract]; omega
      have kp := fun w => parse_any (t.extract 0 m) (by omega) (by omega) (fun j hj => by
        have hj2 : j < m := by omega
        have e3 : (t.extract 0 m)[j]'hj = s[k + j]'(by omega) := by
          have := extract_get s k (k + m) j (by omega) (by omega) (by rw [← et1]; exact hj)
          simpa only [et1] using this
        rw [e3]; exact HD.out _ _) w
      rw [hPs] at kp
      have hsp := dnum_split s k (k + m) m (Nat.le_refl _) (by omega)
      rw [← et1] at hsp
      have hlk := dnum_lim s HD.out k hk
      have hlD : dnum (t.extract 0 m) m < 10 ^ m := dnum_lt _ m (fun j hj => by
        have e3 : (t.extract 0 m)[j]'hj = s[k + j]'(by omega) := by
          have := extract_get s k (k + m) j (by omega) (by omega) (by rw [← et1]; exact hj)
          simpa only [et1] using this
        rw [e3]; exact HD.out _ _) (by omega)
      have hl2 := dnum_lim s HD.out (k + m) (by omega)
      have kpow := natpower_any m hm19
      have h19 := pow19 hm19
      have HT2 : Hid (t.extract m t.size = s.extract (k + m) s.size) := et2
      generalize t.extract m t.size = T2 at *
      generalize t.extract 0 m = P1 at *
      have ho1 := natof_own (10 ^ m) h19
      have ho2 := natof_own (dnum P1 m) (Nat.lt_trans hlD h19)
      have hone1 := lim_length_le (x := 10 ^ m) (n := 1) (by simpa using h19)
      have hone2 := lim_length_le (x := dnum P1 m) (n := 1) (by simpa using Nat.lt_trans hlD h19)
      have hlmul := lim_mul_length (dnum s k) (10 ^ m)
      have kmul := fun v w x => natmul_own v [lim (dnum s k), lim (10 ^ m)] (by intro l hl; simp at hl; rcases hl with rfl | rfl <;> exact lim_limbs _) (by simp; omega) w x
      have kadd := fun v w x => natadd_own v [lim (dnum s k * 10 ^ m), lim (dnum P1 m)] (by intro l hl; simp at hl; rcases hl with rfl | rfl <;> exact lim_limbs _) (by simp; omega) w x
      simp only [List.map_cons, List.map_nil, List.prod_cons, List.prod_nil, List.sum_cons, List.sum_nil, uval_lim, Nat.mul_one, Nat.add_zero] at kmul kadd
      rw [← hsp] at kadd
      have HKM : Hid (∀ v w, RowUU w v [lim (dnum s k), lim (10 ^ m)] → Calls _ _ _ _ _) := kmul
      have HKA : Hid (∀ v w, RowUU w v [lim (dnum s k * 10 ^ m), lim (dnum P1 m)] → Calls _ _ _ _ _) := kadd
      have HO1 : Hid (∀ w, Calls _ _ _ _ _) := ho1
      have HO2 : Hid (∀ w, Calls _ _ _ _ _) := ho2
      have hk1 : k + m ≤ s.size := by omega
      have ht2s : T2.size = s.size - (k + m) := by rw [HT2.out, ByteArray.size_extract]; omega
      have hms : T2.size < y := by omega
      have HTS : Hid (T2.size = s.size - (k + m)) := ht2s
      have HMS : Hid (T2.size < y) := hms
      have HR : Hid (RowU wr _ (lim (dnum s k))) := hr
      clear kmul kadd ho1 ho2 hone1 hone2 hlmul hsp hlk hl2 hlD et1 et2 hPs hm hy hmy hm0 hms ht2s ht
      obtain ⟨an, cn, rfl, hrc⟩ := hr.out
      clear hr hrc
      generalize (lim (dnum s k)).length = ln at *
      generalize dnum P1 m = D1 at *
      generalize 10 ^ m = P10 at *
      go_wp2_with (first
        | (go_at_call 15; refine (kp _).mono ?_; rintro e w2 ⟨rfl, hb2⟩; have HR2 : Hid (RowU _ _ _) := HR.out.below hb2; have HB2 : Hid (Below _ _ _) := hb2; clear hb2)
        | (go_at_call 17; refine (kpow _).mono ?_; rintro e w' ⟨rfl, hw⟩; rw [hw]; clear hw w')
        | (have chk := HA5; clear chk; go_at_call 9; refine (HKA.out _ _ HA5.out).mono ?_; rintro e w6 ⟨v6, rfl, hv6, hb6⟩; obtain ⟨a6, n6, hve⟩ := hv6.form; subst hve; have HV6 : Hid (OwnU _ _ _ _) := hv6; have HB6 : Hid (Below _ _ _) := hb6; clear hv6 hb6)
        | (have chk := HB4; clear chk; go_at_call 16; refine (HO2.out _).mono ?_; rintro e w5 ⟨v5, rfl, hv5, hb5⟩; obtain ⟨a5, n5, hve⟩ := hv5.form; subst hve; have HA5 : Hid (RowUU _ _ _) := rowUU_two w5 24 (HV4.out.row.below hb5) hv5.row; have HB5 : Hid (Below _ _ _) := hb5; clear hv5 hb5)
        | (have chk := HA3; clear chk; go_at_call 10; refine (HKM.out _ _ HA3.out).mono ?_; rintro e w4 ⟨v4, rfl, hv4, hb4⟩; obtain ⟨a4, n4, hve⟩ := hv4.form; subst hve; have HV4 : Hid (OwnU _ _ _ _) := hv4; have HB4 : Hid (Below _ _ _) := hb4; clear hv4 hb4)
        | (go_at_call 16; refine (HO1.out _).mono ?_; rintro e w3 ⟨v3, rfl, hv3, hb3⟩; obtain ⟨a3, n3, hve⟩ := hv3.form; subst hve; have HA3 : Hid (RowUU _ _ _) := rowUU_two w3 24 (HR2.out.below hb3) hv3.row; have HB3 : Hid (Below _ _ _) := hb3; clear hv3 hb3))
      refine ⟨⟨k + m, T2, hk1, rfl, HTS.out, HT2.out, HV6.out.row, ?_⟩, ?_⟩
      · exact bthen0 (bmore0 (bthen0 (bthen0 (bmore0 (bthen0 (bthen0 hbel.out HB2.out) HB3.out) _) HB4.out) HB5.out) _) HB6.out
      · show T2.size < t.size
        have := HMS.out
        omega
    · have hks : k = s.size := by omega
      subst hks
      have ht0 : t.size = 0 := by omega
      have HR : Hid (RowU wr _ (lim (dnum s s.size))) := hr
      clear hts hlt hr ht
      go_wp2
      exact hQ.out _ _ ⟨_, rfl, HR.out, hbel.out⟩
end Go.Proofs.YthchcocolclpoaaGreatDoor
