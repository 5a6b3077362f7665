import Derived.Test.YtajlgpamcpgalaaCodD
namespace Go.Proofs.Ytajlgpamcpgalaa
open Go.ChangeShapes Go.WideShapes Go.ChangeAt Go.RowKit
set_option linter.unusedVariables false
set_option linter.unusedSimpArgs false
set_option maxRecDepth 100000

theorem regime6_any (s : Int) (h1 : -2147483648 ≤ s) (h2 : s ≤ 2147483648) (w : World) :
    Calls Try.prog 65 #[.int .i64 s] w fun e w' => e = .returned (.int .i64 (s / 4)) ∧ w' = w := by
  refine cps fun Q hQ => ?_
  have hT : (0 ≤ s → s.tdiv 4 = s / 4) ∧ (s < 0 → s.tdiv 4 = -((-s) / 4)) := ⟨fun h => Int.tdiv_eq_ediv_of_nonneg h, fun h => by
    have := Int.neg_tdiv (-s) 4
    rw [Int.neg_neg] at this
    rw [this, Int.tdiv_eq_ediv_of_nonneg (by omega)]⟩
  obtain ⟨T, hTT⟩ : ∃ T, T = s.tdiv 4 := ⟨_, rfl⟩
  rw [← hTT] at hT
  have hTb : -536870912 ≤ T ∧ T ≤ 536870912 := by omega
  have e0 : IntKind.i64.wrap (s.tdiv 4) = T := by rw [← hTT]; exact wrapI (by omega)
  have e00 : s.tdiv 4 = T := hTT.symm
  have e2 : IntKind.i64.wrap (4 * T) = 4 * T := wrapI (by omega)
  clear hTT
  go_enter Try.func65, Try.ntmps65
  go_wp2
  all_goals exact hQ.out _ _ ⟨ret_i (by omega), rfl⟩
theorem chars_rep (k : Nat) (b : Bool) : chars (List.replicate (k + 1) b) = chars (List.replicate k b) ++ [.int .u8 (bitByte b).toNat] := by
  rw [List.replicate_succ']; simp [chars]
set_option maxHeartbeats 1000000 in
theorem head6_any (s : Int) (h1 : -256 ≤ s) (h2 : s ≤ 255) (w : World) :
    Calls Try.prog 38 #[.int .i64 s] w fun e w' => ∃ t, e = .returned (.string t) ∧ IsBits t (headK (s / 4) ++ bitsOf (s % 4).toNat 2) ∧ Below w.heap.size w w' := by
  obtain ⟨i0, hi, hz0, hz1, hz2⟩ := info_parts infoU8
  have k1 := regime6_any s (by omega) (by omega)
  obtain ⟨k, hk⟩ : ∃ k, k = s / 4 := ⟨_, rfl⟩
  obtain ⟨d, hd⟩ : ∃ d, d = (s % 4).toNat := ⟨_, rfl⟩
  have e1 : s - 4 * k = (d : Int) := by omega
  have hd4 : d < 4 := by omega
  have hkb : -64 ≤ k ∧ k ≤ 63 := by omega
  rw [← hk] at k1
  have e2 : IntKind.u64.wrap (s - 4 * k) = (d : Int) := by rw [e1, IntKind.wrap_u64]; omega
  have ed : IntKind.u64.wrap (IntKind.i64.wrap (s - IntKind.i64.wrap (4 * k))) = (d : Int) := by rw [show IntKind.i64.wrap (4 * k) = 4 * k from wrapI (by omega), show IntKind.i64.wrap (s - 4 * k) = s - 4 * k from wrapI (by omega)]; exact e2
  refine cps fun Q hQ => ?_
  rw [← hk, ← hd] at hQ
  clear hk hd
  by_cases hk0 : 0 ≤ k
  · obtain ⟨K, rfl⟩ := Int.eq_ofNat_of_zero_le hk0
    have HK : Hid (headK (K : Nat) = List.replicate (K + 1) true ++ [false]) := by show _ = _; unfold headK; rw [if_pos (by omega)]; rfl
    go_enter Try.func38, Try.ntmps38
    go_wp2_with (go_at_call 65; refine (k1 _).mono ?_; rintro e w1 ⟨rfl, hw⟩; rw [hw]; clear hw w1)
    go_loopw [4, 5] (fun v i wr => ∃ j : Nat, j ≤ K + 1 ∧ i = .int .i64 j ∧ Hid (wr.ownsRow w.heap.size 5 1 v j (chars (List.replicate j true))) ∧ Hid (Below w.heap.size w wr)) (fun _ i _ => K + 1 - (intOf i).toNat)
    case atStart => exact ⟨0, Nat.zero_le _, rfl, World.ownsRow_nil _ _ _ _, Below.refl _ _⟩
    case round =>
      rename World => wr
      obtain ⟨j, hj, rfl, hown, hb⟩ := hrel
      have hs := hb.out.size
      by_cases hlt : j < K + 1
      · have hlt2 : decide ((j : Int) ≤ (K : Int)) = true := decide_eq_true (by omega)
        go_wp2_with (at_builtin; go_must (refine append1 rfl _ _ 103 rfl w.heap.size 5 i0 (.int .u8 0) 1 Try.underlying103 hi hz0 hz1 hz2 rfl _ _ _ hown.out rfl rfl rfl (by omega) (by omega) hs ?_); intro v' w5 hown1 hb1 hne1 _; have HO5 : Hid (World.ownsRow _ _ _ _ _ _ _) := hown1; have HB5 : Hid (Below _ _ _) := hb1; clear hown1 hb1 hne1)
        go_roundw
        case rel => exact ⟨j + 1, by omega, by go_num, by show World.ownsRow _ _ _ _ _ _ _; rw [chars_rep]; exact HO5.out, hb.out.trans HB5.out⟩
        case measure => simp [intOf]; omega
      · have hjn : j = K + 1 := by omega
        subst hjn
        have hlt2 : decide (((K + 1 : Nat) : Int) ≤ (K : Int)) = false := decide_eq_false (by omega)
        have hlt3 : decide ((K : Int) < 0) = false := decide_eq_false (by omega)
        have hlt4 : decide ((0 : Int) ≤ (K : Int)) = true := decide_eq_true (by omega)
        go_wp2
        refine wp_loop_rounds 1 ?_
        rw [rounds_succ]
        go_wp2_with (at_builtin; go_must (refine append1 rfl _ _ 103 rfl w.heap.size 5 i0 (.int .u8 0) 1 Try.underlying103 hi hz0 hz1 hz2 rfl _ _ _ hown.out rfl rfl rfl (by omega) (by omega) hs ?_); intro v' w5 hown1 hb1 hne1 _; have HO5 : Hid (World.ownsRow _ _ _ _ _ _ _) := hown1; have HB5 : Hid (Below _ _ _) := hb1; clear hown1 hb1 hne1)
        obtain ⟨L, hL⟩ : ∃ L, L = headK (K : Int) := ⟨_, rfl⟩
        have hLl : L.length ≤ 66 := by rw [hL, HK.out]; simp; omega
        have hO : w5.ownsRow w.heap.size 5 1 v' ((K + 1) + 1) ((L.map bitByte).map fun b => .int .u8 b.toNat) := by
          have := HO5.out
          rw [show chars (List.replicate (K + 1) true) ++ [Value.int IntKind.u8 48] = (L.map bitByte).map fun b => Value.int .u8 b.toNat by rw [hL, HK.out]; simp [chars, bitByte]] at this
          exact this
        have hrow : ∀ wx, Below w5.heap.size w5 wx → (convert 103 9 v').run Try.prog wx = .ok (.string ⟨(L.map bitByte).toArray⟩) wx := fun wx hb => by
          refine run_convert_own (P := Try.prog) (n := (K + 1) + 1) (base := w.heap.size) (L.map bitByte) ?_ Try.underlying103 Try.underlying5 Try.underlying9
          obtain ⟨h1, h2⟩ := hO
          refine ⟨h1, ?_⟩
          rcases h2 with hn | ⟨g, cap, cur, rfl, hb1, hg, rest⟩
          · exact .inl hn
          · exact .inr ⟨g, cap, cur, rfl, hb1, (hb.block g (Array.getElem?_eq_some_iff.1 hg).1).trans hg, rest⟩
        have c1 := hrow w5.drew (cdrew (Below.refl _ _))
        have hsz1 : (⟨(L.map bitByte).toArray⟩ : ByteArray).size = L.length := by simp [ByteArray.size]
        have HIB : Hid (IsBits ⟨(L.map bitByte).toArray⟩ L) := by show _ = _; simp
        have HLL : Hid (L = headK (K : Int)) := hL
        have HROW : Hid _ := hrow
        clear hL hO hrow HK
        generalize (⟨(L.map bitByte).toArray⟩ : ByteArray) = T1 at *
        go_region_with (first
          | (go_at_call 36; (try rw [ed]); go_must (refine (text_any d 2 (by decide) _).mono ?_; rintro e w7 ⟨t, rfl, ht, hb7⟩; have htz := isBits_size ht; rw [bitsOf_length] at htz; have HB7 : Hid (Below _ _ _) := hb7; have c2 := HROW.out w7 (cthen (cdrew (Below.refl _ _)) hb7); have c3 := fun wx => run_string_add_sum (P := Try.prog) wx T1 t (by rw [htz, hsz1]; omega); clear hb7)))
        all_goals
          go_wp2
          refine bodyPost_ret (v := .string (T1 ++ t)) (by simp [results, Try.results38, go_sem]) rfl (hQ.out _ _ ⟨_, rfl, ?_, ?_⟩)
          · rw [← HLL.out]; exact isBits_append HIB.out ht
          · exact (hb.out.trans HB5.out).drew.trans (HB7.out.mono (by have := (hb.out.trans HB5.out).size; simpa using this))
  · have HK : Hid (headK k = List.replicate (-k).toNat false ++ [true]) := by show _ = _; unfold headK; rw [if_neg hk0]
    have hlt4 : decide ((0 : Int) ≤ k) = false := decide_eq_false hk0
    go_enter Try.func38, Try.ntmps38
    go_wp2_with (go_at_call 65; refine (k1 _).mono ?_; rintro e w1 ⟨rfl, hw⟩; rw [hw]; clear hw w1)
    refine wp_loop_rounds 1 ?_
    rw [rounds_succ]
    go_wp2
    go_loopw [4, 6] (fun v i wr => ∃ j : Nat, j ≤ (-k).toNat ∧ i = .int .i64 (-(j : Int)) ∧ Hid (wr.ownsRow w.heap.size 5 1 v j (chars (List.replicate j false))) ∧ Hid (Below w.heap.size w wr)) (fun _ i _ => (-k).toNat - (-(intOf i)).toNat)
    case atStart => exact ⟨0, Nat.zero_le _, rfl, World.ownsRow_nil _ _ _ _, Below.refl _ _⟩
    case round =>
      rename World => wr
      obtain ⟨j, hj, rfl, hown, hb⟩ := hrel
      have hs := hb.out.size
      by_cases hlt : j < (-k).toNat
      · have hlt2 : decide (k < -(j : Int)) = true := decide_eq_true (by omega)
        go_wp2_with (at_builtin; go_must (refine append1 rfl _ _ 103 rfl w.heap.size 5 i0 (.int .u8 0) 1 Try.underlying103 hi hz0 hz1 hz2 rfl _ _ _ hown.out rfl rfl rfl (by omega) (by omega) hs ?_); intro v' w5 hown1 hb1 hne1 _; have HO5 : Hid (World.ownsRow _ _ _ _ _ _ _) := hown1; have HB5 : Hid (Below _ _ _) := hb1; clear hown1 hb1 hne1)
        go_roundw
        case rel => exact ⟨j + 1, by omega, by go_num, by show World.ownsRow _ _ _ _ _ _ _; rw [chars_rep]; exact HO5.out, hb.out.trans HB5.out⟩
        case measure => simp [intOf]; omega
      · have hjn : j = (-k).toNat := by omega
        subst hjn
        have hlt2 : decide (k < -(((-k).toNat : Nat) : Int)) = false := decide_eq_false (by omega)
        go_wp2_with (at_builtin; go_must (refine append1 rfl _ _ 103 rfl w.heap.size 5 i0 (.int .u8 0) 1 Try.underlying103 hi hz0 hz1 hz2 rfl _ _ _ hown.out rfl rfl rfl (by omega) (by omega) hs ?_); intro v' w5 hown1 hb1 hne1 _; have HO5 : Hid (World.ownsRow _ _ _ _ _ _ _) := hown1; have HB5 : Hid (Below _ _ _) := hb1; clear hown1 hb1 hne1)
        obtain ⟨L, hL⟩ : ∃ L, L = headK k := ⟨_, rfl⟩
        have hLl : L.length ≤ 66 := by rw [hL, HK.out]; simp; omega
        have hO : w5.ownsRow w.heap.size 5 1 v' ((-k).toNat + 1) ((L.map bitByte).map fun b => .int .u8 b.toNat) := by
          have := HO5.out
          rw [show chars (List.replicate (-k).toNat false) ++ [Value.int IntKind.u8 49] = (L.map bitByte).map fun b => Value.int .u8 b.toNat by rw [hL, HK.out]; simp [chars, bitByte]] at this
          exact this
        have hrow : ∀ wx, Below w5.heap.size w5 wx → (convert 103 9 v').run Try.prog wx = .ok (.string ⟨(L.map bitByte).toArray⟩) wx := fun wx hb => by
          refine run_convert_own (P := Try.prog) (n := (-k).toNat + 1) (base := w.heap.size) (L.map bitByte) ?_ Try.underlying103 Try.underlying5 Try.underlying9
          obtain ⟨h1, h2⟩ := hO
          refine ⟨h1, ?_⟩
          rcases h2 with hn | ⟨g, cap, cur, rfl, hb1, hg, rest⟩
          · exact .inl hn
          · exact .inr ⟨g, cap, cur, rfl, hb1, (hb.block g (Array.getElem?_eq_some_iff.1 hg).1).trans hg, rest⟩
        have c1 := hrow w5.drew (cdrew (Below.refl _ _))
        have hsz1 : (⟨(L.map bitByte).toArray⟩ : ByteArray).size = L.length := by simp [ByteArray.size]
        have HIB : Hid (IsBits ⟨(L.map bitByte).toArray⟩ L) := by show _ = _; simp
        have HLL : Hid (L = headK k) := hL
        have HROW : Hid _ := hrow
        clear hL hO hrow HK
        generalize (⟨(L.map bitByte).toArray⟩ : ByteArray) = T1 at *
        go_region_with (first
          | (go_at_call 36; (try rw [ed]); refine (text_any d 2 (by decide) _).mono ?_; rintro e w7 ⟨t, rfl, ht, hb7⟩; have htz := isBits_size ht; rw [bitsOf_length] at htz; have HB7 : Hid (Below _ _ _) := hb7; have c2 := HROW.out w7 (cthen (cdrew (Below.refl _ _)) hb7); have c3 := fun wx => run_string_add_sum (P := Try.prog) wx T1 t (by rw [htz, hsz1]; omega); clear hb7))
        all_goals
          go_wp2
          refine bodyPost_ret (v := .string (T1 ++ t)) (by simp [results, Try.results38, go_sem]) rfl (hQ.out _ _ ⟨_, rfl, ?_, ?_⟩)
          · rw [← HLL.out]; exact isBits_append HIB.out ht
          · exact (hb.out.trans HB5.out).drew.trans (HB7.out.mono (by have := (hb.out.trans HB5.out).size; simpa using this))
end Go.Proofs.Ytajlgpamcpgalaa
