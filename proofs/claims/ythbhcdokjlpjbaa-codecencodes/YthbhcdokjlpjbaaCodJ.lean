import Derived.Test.YthbhcdokjlpjbaaCodI
namespace Go.Proofs.Ythbhcdokjlpjbaa
open Go.ChangeShapes Go.WideShapes Go.ChangeAt Go.RowKit
set_option linter.unusedVariables false
set_option linter.unusedSimpArgs false
set_option maxRecDepth 100000

/-! ### Join: the string that parts seem to write -/
def wrExp (eb ex : Int) : List Bool := if 0 ≤ eb ∧ eb ≤ 2 ∧ 0 ≤ ex ∧ ex ≤ 3 then (bitsOf ex.toNat 2).take eb.toNat else []
def wrFrac (fb : Int) (fr : Nat) : List Bool := if 0 ≤ fb ∧ fb ≤ 64 then bitsOf fr fb.toNat else []
def wrRun (ones : Bool) (run : Int) : List Bool := List.replicate (min run.toNat 63) ones ++ [!ones]
def writtenL (ones : Bool) (run eb ex fb : Int) (fr : Nat) : List Bool := wrRun ones run ++ wrExp eb ex ++ wrFrac fb fr
theorem written_parts (t : List Bool) (ht : t ≠ []) (hl : t.length ≤ 63) :
    ∃ z, writtenL (onesL t) (runL t) (min (restL t).length 2 : Nat) (expL t) ((restL t).length - 2 : Nat) (fracL t) = t ++ z := by
  have key : ∀ u, restL t = u → u.length ≤ 62 → wrExp (min (restL t).length 2 : Nat) (expL t) ++ wrFrac ((restL t).length - 2 : Nat) (fracL t) = u := by
    rintro u hu hul
    have hex : expL t < 4 := by
      have := numOf_lt ((restL t ++ noughts 2).take 2)
      rw [show ((restL t ++ noughts 2).take 2).length = 2 by simp] at this
      exact this
    have e1 : wrExp (min (restL t).length 2 : Nat) (expL t) = u.take 2 := by
      unfold wrExp
      rw [if_pos (by omega), Int.toNat_natCast, Int.toNat_natCast]
      have : bitsOf (expL t) 2 = (u ++ noughts 2).take 2 := by
        have h := bitsOf_numOf ((restL t ++ noughts 2).take 2)
        rw [show ((restL t ++ noughts 2).take 2).length = 2 by simp] at h
        rw [← hu]; exact h
      rw [this, hu]
      match u with
      | [] => rfl
      | [a] => rfl
      | a :: b :: v => simp
    have e2 : wrFrac ((restL t).length - 2 : Nat) (fracL t) = u.drop 2 := by
      unfold wrFrac
      rw [hu, if_pos (by omega), Int.toNat_natCast]
      have h := bitsOf_numOf (u.drop 2)
      rw [List.length_drop] at h
      rw [show fracL t = numOf (u.drop 2) by rw [← hu]; rfl]; exact h
    rw [e1, e2, List.take_append_drop]
  obtain ⟨b, r, tl, rfl, htl⟩ := split_run t ht
  have hr : r + 1 ≤ 63 := by rw [List.length_append, List.length_replicate] at hl; omega
  rcases htl with rfl | ⟨u, rfl⟩
  · rw [List.append_nil] at *
    have h1 := runL_rep b r [] (.inl rfl)
    have h2 := onesL_rep b r []
    rw [List.append_nil] at h1 h2
    refine ⟨[!b], ?_⟩
    rw [writtenL, List.append_assoc, key [] (restL_end b r) (by decide), List.append_nil, h1, h2, wrRun, Int.toNat_natCast, Nat.min_eq_left (by omega)]
  · have h1 := runL_rep b r ((!b) :: u) (.inr ⟨u, rfl⟩)
    have h2 := onesL_rep b r ((!b) :: u)
    refine ⟨[], ?_⟩
    rw [writtenL, List.append_assoc, key u (restL_rep b r u) (by simp at hl; omega), List.append_nil, h1, h2, wrRun, Int.toNat_natCast, Nat.min_eq_left (by omega)]
    simp
theorem writtenL_length (ones : Bool) (run eb ex fb : Int) (fr : Nat) : (writtenL ones run eb ex fb fr).length ≤ 130 := by
  unfold writtenL wrRun wrExp wrFrac
  rw [List.length_append, List.length_append, List.length_append, List.length_replicate]
  have h1 : (if 0 ≤ eb ∧ eb ≤ 2 ∧ 0 ≤ ex ∧ ex ≤ 3 then (bitsOf ex.toNat 2).take eb.toNat else []).length ≤ 2 := by
    split
    · rw [List.length_take, bitsOf_length]; omega
    · simp
  have h2 : (if 0 ≤ fb ∧ fb ≤ 64 then bitsOf fr fb.toNat else []).length ≤ 64 := by
    split
    · rw [bitsOf_length]; omega
    · simp
  simp only [List.length_singleton]
  omega
theorem chars_text {base n : Nat} {v : Value} {w5 : World} {L : List Bool} (h : w5.ownsRow base 5 1 v n (chars L)) (wx : World) (hb : Below w5.heap.size w5 wx) :
    (convert 84 9 v).run Try.prog wx = .ok (.string ⟨(L.map bitByte).toArray⟩) wx := by
  refine run_convert_own (P := Try.prog) (n := n) (base := base) (L.map bitByte) ?_ Try.underlying84 Try.underlying5 Try.underlying9
  have e : (L.map bitByte).map (fun b => Value.int .u8 b.toNat) = chars L := by simp [chars, Function.comp_def]
  rw [e]
  obtain ⟨h1, h2⟩ := h
  refine ⟨h1, ?_⟩
  rcases h2 with hn | ⟨g, cap, cur, rfl, hb1, hg, rest⟩
  · exact .inl hn
  · exact .inr ⟨g, cap, cur, rfl, hb1, (hb.block g (Array.getElem?_eq_some_iff.1 hg).1).trans hg, rest⟩
def fdI (neg ones : Bool) (run reg eb ex fb : Int) (fr : Nat) : Value := .agg #[.bool neg, .bool ones, .int .i64 run, .int .i64 reg, .int .i64 eb, .int .i64 ex, .int .i64 fb, .int .u64 fr]
set_option maxHeartbeats 1000000 in
theorem written6_any (neg ones : Bool) (run reg eb ex fb : Int) (fr : Nat) (w : World) :
    Calls Try.prog 35 #[fdI neg ones run reg eb ex fb fr] w fun e w' => ∃ s, e = .returned (.string s) ∧ IsBits s (writtenL ones run eb ex fb fr) ∧ Below w.heap.size w w' := by
  obtain ⟨i0, hi, hz0, hz1, hz2⟩ := info_parts infoU8
  unfold fdI
  refine cps fun Q hQ => ?_
  cases ones
  · go_enter Try.func35, Try.ntmps35
    go_upto_block 0 with fail
    obtain ⟨W0, hW0⟩ : ∃ W0, W0 = w.alloc (.cells #[.bool neg, .bool false, .int .i64 run, .int .i64 reg, .int .i64 eb, .int .i64 ex, .int .i64 fb, .int .u64 fr] 25) := ⟨_, rfl⟩
    rw [← hW0]
    have R0 : W0.heap[w.heap.size]? = some (.cells #[.bool neg, .bool false, .int .i64 run, .int .i64 reg, .int .i64 eb, .int .i64 ex, .int .i64 fb, .int .u64 fr] 25 (0, 0)) := by rw [hW0]; exact rownew w _ _
    have B0 : Below w.heap.size w W0 := by rw [hW0]; exact cmore (Below.refl _ _) _
    have z0 : w.heap.size < W0.heap.size := by rw [hW0]; simp
    have HR0 : Hid _ := R0
    have HB0 : Hid (Below w.heap.size w W0) := B0
    have cl : ∀ wr, Below W0.heap.size W0 wr → wr.cell? ⟨w.heap.size, 2, none⟩ = some (.int .i64 run) := fun wr h => (h.cell (p := ⟨w.heap.size, 2, none⟩) z0).trans (rowcell R0 2)
    have CE : Hid (∀ wr, Below W0.heap.size W0 wr → wr.cell? ⟨w.heap.size, 4, none⟩ = some (.int .i64 eb) ∧ wr.cell? ⟨w.heap.size, 5, none⟩ = some (.int .i64 ex)) := fun wr h => ⟨(h.cell (p := ⟨w.heap.size, 4, none⟩) z0).trans (rowcell R0 4), (h.cell (p := ⟨w.heap.size, 5, none⟩) z0).trans (rowcell R0 5)⟩
    have CF : Hid (∀ wr, Below W0.heap.size W0 wr → wr.cell? ⟨w.heap.size, 6, none⟩ = some (.int .i64 fb) ∧ wr.cell? ⟨w.heap.size, 7, none⟩ = some (.int .u64 fr)) := fun wr h => ⟨(h.cell (p := ⟨w.heap.size, 6, none⟩) z0).trans (rowcell R0 6), (h.cell (p := ⟨w.heap.size, 7, none⟩) z0).trans (rowcell R0 7)⟩
    clear hW0 R0 B0
    go_cut [3] from 5 (fun v wr => Hid (wr.ownsRow W0.heap.size 5 1 v (min run.toNat 63) (chars (List.replicate (min run.toNat 63) false))) ∧ Hid (Below W0.heap.size W0 wr))
    case rest =>
      obtain ⟨hown, hb⟩ := hcut
      have hs := hb.out.size
      obtain ⟨S0, hS0⟩ : ∃ S0 : ByteArray, S0 = ⟨((wrRun false run).map bitByte).toArray⟩ := ⟨_, rfl⟩
      have HI : Hid (IsBits S0 (wrRun false run)) := by show _ = _; rw [hS0]
      have HS0 : Hid (S0 = ⟨((wrRun false run).map bitByte).toArray⟩) := hS0
      have hz0' : S0.size ≤ 64 := by rw [isBits_size HI.out, wrRun, List.length_append, List.length_replicate]; simp; omega
      clear hS0
      go_upto_region 11 with (at_builtin; go_must (refine append1 rfl _ _ 84 rfl W0.heap.size 5 i0 (.int .u8 0) 1 Try.underlying84 hi hz0 hz1 hz2 rfl _ _ _ hown.out rfl rfl rfl (by omega) (by omega) hs ?_); intro v' w5 hown1 hb1 hne1 _; have HB5 : Hid (Below _ _ _) := hb1; have g0 := chars_text (L := wrRun false run) (by simpa [chars, wrRun, bitByte] using hown1) w5 (Below.refl _ _); rw [← HS0.out] at g0; clear hown1 hb1 hne1)
      have HB : Hid (Below W0.heap.size W0 w5) := hb.out.trans HB5.out
      obtain ⟨c4, c5⟩ := CE.out w5 HB.out
      clear g0 hown hb hs HB5
      go_cut [47] from 30 (fun s47 wx => s47 = .bool (decide (0 ≤ eb ∧ eb ≤ 2 ∧ 0 ≤ ex ∧ ex ≤ 3)) ∧ wx = w5)
      case first =>
        go_wp2
        all_goals
          go_meet
          case rel => exact ⟨by first | (congr 1; rw [Bool.eq_iff_iff]; simp; omega) | (simp_all <;> omega), rfl⟩
      case rest =>
        obtain ⟨h47, hwc⟩ := hcut
        subst h47
        rw [hwc]
        clear hwc wc
        go_upto_if 47 with fail
        go_cut [6] from 47 (fun s6 wx => ∃ S1 : ByteArray, s6 = .string S1 ∧ S1.size ≤ 66 ∧ Hid (IsBits S1 (wrRun false run ++ wrExp eb ex)) ∧ Hid (Below W0.heap.size W0 wx))
        case first =>
          by_cases hq : 0 ≤ eb ∧ eb ≤ 2 ∧ 0 ≤ ex ∧ ex ≤ 3
          · rw [decide_eq_true hq]
            have HE : Hid (wrExp eb ex = (bitsOf ex.toNat 2).take eb.toNat) := if_pos hq
            obtain ⟨q1, q2, q3, q4⟩ := hq
            obtain ⟨EB, rfl⟩ := Int.eq_ofNat_of_zero_le q1
            obtain ⟨EX, rfl⟩ := Int.eq_ofNat_of_zero_le q3
            have eu : IntKind.u64.wrap (EX : Int) = (EX : Int) := by rw [IntKind.wrap_u64]; omega
            clear q1 q3
            go_upto_region 12 with fail
            refine wpC_region (fun W => W.cell? ⟨w.heap.size, 4, none⟩ = some (.int .i64 EB) ∧ W.cell? ⟨w.heap.size, 5, none⟩ = some (.int .i64 EX)) (by kernel_rfl) ?_
            refine wpC_take 0 (v := ?_) rfl (by kernel_rfl) (fun _ _ _ h => h) (by kernel_rfl) ?_ ?_; rotate_left; · (intro wC hC; obtain ⟨c4, c5⟩ := hC; go_simp <;> with_reducible rfl)
            refine wpC_take 1 (v := ?_) rfl (by kernel_rfl) (fun _ _ _ h => h) (by kernel_rfl) ?_ ?_; rotate_left; · (intro wC hC; obtain ⟨c4, c5⟩ := hC; go_simp <;> with_reducible rfl)
            refine wpC_take 2 (v := ?_) rfl (by kernel_rfl) (fun _ _ _ h => h) (by kernel_rfl) ?_ ?_; rotate_left; · (intro wC hC; obtain ⟨c4, c5⟩ := hC; go_simp <;> with_reducible rfl)
            refine wpC_take 3 (v := ?_) rfl (by kernel_rfl) (fun _ _ _ h => h) (by kernel_rfl) ?_ ?_; rotate_left; · (intro wC hC; obtain ⟨c4, c5⟩ := hC; go_simp <;> with_reducible rfl)
            refine wpC_take 5 (v := ?_) rfl (by kernel_rfl) (fun _ _ _ h => h) (by kernel_rfl) ?_ ?_; rotate_left; · (intro wC hC; obtain ⟨c4, c5⟩ := hC; go_simp <;> with_reducible rfl)
            refine wpC_take 6 (v := ?_) rfl (by kernel_rfl) (fun _ _ _ h => h) (by kernel_rfl) ?_ ?_; rotate_left; · (intro wC hC; obtain ⟨c4, c5⟩ := hC; go_simp <;> with_reducible rfl)
            refine wpC_step 4 rfl (by kernel_rfl) (by kernel_rfl) ⟨c4, c5⟩ (fun K hK => ?_)
            go_simp
            go_wp2_with ((go_at_call 29; (try rw [eu]); refine (text_any EX 2 (by decide) _).mono ?_; rintro e w7 ⟨t, rfl, ht, hb7⟩))
            try (refine hK _ _ ?_; clear hK K)
            have HB7 : Hid (Below W0.heap.size W0 w7) := HB.out.drew.trans (hb7.mono (by have := HB.out.size; simpa using this))
            obtain ⟨c4', c5'⟩ := CE.out w7 HB7.out
            have htz := isBits_size ht
            rw [bitsOf_length] at htz
            have g1 := slice_h (P := Try.prog) (s := t) Try.underlying9 (EB : Int) EB rfl (by omega)
            have hi2 : IsBits (t.extract 0 EB) (wrExp EB EX) := by
              have := isBits_extract ht 0 EB
              rw [HE.out, Int.toNat_natCast, Int.toNat_natCast]; simpa using this
            have hez : (t.extract 0 EB).size = EB := by rw [ByteArray.size_extract]; omega
            have g2 := fun wx => run_string_add_sum (P := Try.prog) wx S0 (t.extract 0 EB) (by rw [hez]; omega)
            have HI2 : Hid _ := isBits_append HI.out hi2
            have hz9 : (S0 ++ t.extract 0 EB).size ≤ 66 := by rw [ByteArray.size_append, hez]; omega
            generalize t.extract 0 EB = t2 at *
            refine wpC_take 7 (v := ?_) rfl (by kernel_rfl) (fun _ _ _ h => h) (by kernel_rfl) ?_ ?_; rotate_left; · (intro wC hC; obtain ⟨c4, c5⟩ := hC; go_simp <;> with_reducible rfl)
            refine wpC_take 8 (v := ?_) rfl (by kernel_rfl) (fun _ _ _ h => h) (by kernel_rfl) ?_ ?_; rotate_left; · (intro wC hC; obtain ⟨c4, c5⟩ := hC; go_simp <;> with_reducible rfl)
            generalize S0 ++ t2 = S1 at *
            refine wpC_step 9 rfl (by kernel_rfl) (by kernel_rfl) ⟨c4', c5'⟩ (fun K hK => ?_)
            go_simp
            try (refine hK _ _ ?_; clear hK K)
            refine wpC_done (by kernel_rfl) ⟨c4', c5'⟩ ?_
            go_wp2_with fail
            go_meet
            case rel => exact ⟨S1, rfl, hz9, HI2.out, HB7.out⟩
          · rw [decide_eq_false hq]
            have HE : Hid (wrExp eb ex = []) := if_neg hq
            go_wp2
            go_meet
            case rel => exact ⟨S0, rfl, by omega, by rw [HE.out, List.append_nil]; exact HI.out, HB.out⟩
        case rest =>
          obtain ⟨S1, rfl, hz1', HI1, HB1⟩ := hcut
          rename World => w6
          obtain ⟨c6, c7⟩ := CF.out w6 HB1.out
          clear HB HI HS0 c4 c5 HR0 hz0'
          go_upto_region 13 with fail
          go_cut [64] from 57 (fun s64 wx => s64 = .bool (decide (0 ≤ fb ∧ fb ≤ 64)) ∧ wx = w6)
          case first =>
            go_wp2
            all_goals
              go_meet
              case rel => exact ⟨by first | (congr 1; rw [Bool.eq_iff_iff]; simp; omega) | (simp_all <;> omega), rfl⟩
          case rest =>
            obtain ⟨h64, hwc⟩ := hcut
            subst h64
            rw [hwc]
            clear hwc
            go_upto_if 64 with fail
            by_cases hq : 0 ≤ fb ∧ fb ≤ 64
            · rw [decide_eq_true hq]
              have HF : Hid (wrFrac fb fr = bitsOf fr fb.toNat) := if_pos hq
              obtain ⟨q1, q2⟩ := hq
              obtain ⟨FB, rfl⟩ := Int.eq_ofNat_of_zero_le q1
              clear q1
              go_wp2_with (go_at_call 29; refine (text_any fr FB (by omega) _).mono ?_; rintro e w7 ⟨t, rfl, ht, hb7⟩; have htz := isBits_size ht; rw [bitsOf_length] at htz; have HT : Hid _ := ht; have HB7 : Hid (Below W0.heap.size W0 w7) := HB1.out.trans (hb7.mono HB1.out.size); have g2 := (fun wx => run_string_add_sum (P := Try.prog) wx S1 t (by rw [htz]; omega)); clear hb7 ht)
              refine hQ.out _ _ ⟨_, rfl, ?_, HB0.out.trans (HB7.out.mono (by omega))⟩
              have := isBits_append HI1.out HT.out
              rw [writtenL, HF.out, Int.toNat_natCast]; exact this
            · rw [decide_eq_false hq]
              have HF : Hid (wrFrac fb fr = []) := if_neg hq
              go_wp2
              exact hQ.out _ _ ⟨S1, rfl, by rw [writtenL, HF.out, List.append_nil]; exact HI1.out, HB0.out.trans (HB1.out.mono (by omega))⟩
    go_wp2_with fail
    go_loopw [3, 5] (fun v i wr => ∃ j : Nat, j ≤ min run.toNat 63 ∧ i = .int .i64 j ∧ Hid (wr.ownsRow W0.heap.size 5 1 v j (chars (List.replicate j false))) ∧ Hid (Below W0.heap.size W0 wr)) (fun _ i _ => 63 - (intOf i).toNat)
    case atStart => exact ⟨0, Nat.zero_le _, rfl, World.ownsRow_nil _ _ _ _, Below.refl _ _⟩
    case round =>
      rename World => wr
      obtain ⟨j, hj, rfl, hown, hb⟩ := hrel
      have hs := hb.out.size
      have c2 := cl wr hb.out
      by_cases hlt : j < min run.toNat 63
      · have hlt2 : decide ((j : Int) < run) = true := decide_eq_true (by omega)
        have hlt3 : decide ((j : Int) < 63) = true := decide_eq_true (by omega)
        go_wp2_with (at_builtin; go_must (refine append1 rfl _ _ 84 rfl W0.heap.size 5 i0 (.int .u8 0) 1 Try.underlying84 hi hz0 hz1 hz2 rfl _ _ _ hown.out rfl rfl rfl (by omega) (by omega) hs ?_); intro v' w5 hown1 hb1 hne1 _; have HO5 : Hid (World.ownsRow _ _ _ _ _ _ _) := hown1; have HB5 : Hid (Below _ _ _) := hb1; clear hown1 hb1 hne1)
        go_roundw
        case rel => exact ⟨j + 1, by omega, by go_num, by show World.ownsRow _ _ _ _ _ _ _; rw [chars_rep]; exact HO5.out, hb.out.trans HB5.out⟩
        case measure => simp [intOf]; omega
      · have hjm : j = min run.toNat 63 := by omega
        rw [hjm] at hown
        by_cases hr : (j : Int) < run
        · have hlt3 : decide ((j : Int) < 63) = false := decide_eq_false (by omega)
          have hlt4 : decide ((j : Int) < run) = true := decide_eq_true hr
          go_wp2
          go_meet
          case rel => exact ⟨hown, hb⟩
        · have hlt4 : decide ((j : Int) < run) = false := decide_eq_false hr
          go_wp2
          go_meet
          case rel => exact ⟨hown, hb⟩
  · go_enter Try.func35, Try.ntmps35
    go_upto_block 0 with fail
    obtain ⟨W0, hW0⟩ : ∃ W0, W0 = w.alloc (.cells #[.bool neg, .bool true, .int .i64 run, .int .i64 reg, .int .i64 eb, .int .i64 ex, .int .i64 fb, .int .u64 fr] 25) := ⟨_, rfl⟩
    rw [← hW0]
    have R0 : W0.heap[w.heap.size]? = some (.cells #[.bool neg, .bool true, .int .i64 run, .int .i64 reg, .int .i64 eb, .int .i64 ex, .int .i64 fb, .int .u64 fr] 25 (0, 0)) := by rw [hW0]; exact rownew w _ _
    have B0 : Below w.heap.size w W0 := by rw [hW0]; exact cmore (Below.refl _ _) _
    have z0 : w.heap.size < W0.heap.size := by rw [hW0]; simp
    have HR0 : Hid _ := R0
    have HB0 : Hid (Below w.heap.size w W0) := B0
    have cl : ∀ wr, Below W0.heap.size W0 wr → wr.cell? ⟨w.heap.size, 2, none⟩ = some (.int .i64 run) := fun wr h => (h.cell (p := ⟨w.heap.size, 2, none⟩) z0).trans (rowcell R0 2)
    have CE : Hid (∀ wr, Below W0.heap.size W0 wr → wr.cell? ⟨w.heap.size, 4, none⟩ = some (.int .i64 eb) ∧ wr.cell? ⟨w.heap.size, 5, none⟩ = some (.int .i64 ex)) := fun wr h => ⟨(h.cell (p := ⟨w.heap.size, 4, none⟩) z0).trans (rowcell R0 4), (h.cell (p := ⟨w.heap.size, 5, none⟩) z0).trans (rowcell R0 5)⟩
    have CF : Hid (∀ wr, Below W0.heap.size W0 wr → wr.cell? ⟨w.heap.size, 6, none⟩ = some (.int .i64 fb) ∧ wr.cell? ⟨w.heap.size, 7, none⟩ = some (.int .u64 fr)) := fun wr h => ⟨(h.cell (p := ⟨w.heap.size, 6, none⟩) z0).trans (rowcell R0 6), (h.cell (p := ⟨w.heap.size, 7, none⟩) z0).trans (rowcell R0 7)⟩
    clear hW0 R0 B0
    go_cut [3] from 5 (fun v wr => Hid (wr.ownsRow W0.heap.size 5 1 v (min run.toNat 63) (chars (List.replicate (min run.toNat 63) true))) ∧ Hid (Below W0.heap.size W0 wr))
    case rest =>
      obtain ⟨hown, hb⟩ := hcut
      have hs := hb.out.size
      obtain ⟨S0, hS0⟩ : ∃ S0 : ByteArray, S0 = ⟨((wrRun true run).map bitByte).toArray⟩ := ⟨_, rfl⟩
      have HI : Hid (IsBits S0 (wrRun true run)) := by show _ = _; rw [hS0]
      have HS0 : Hid (S0 = ⟨((wrRun true run).map bitByte).toArray⟩) := hS0
      have hz0' : S0.size ≤ 64 := by rw [isBits_size HI.out, wrRun, List.length_append, List.length_replicate]; simp; omega
      clear hS0
      go_upto_region 11 with (at_builtin; go_must (refine append1 rfl _ _ 84 rfl W0.heap.size 5 i0 (.int .u8 0) 1 Try.underlying84 hi hz0 hz1 hz2 rfl _ _ _ hown.out rfl rfl rfl (by omega) (by omega) hs ?_); intro v' w5 hown1 hb1 hne1 _; have HB5 : Hid (Below _ _ _) := hb1; have g0 := chars_text (L := wrRun true run) (by simpa [chars, wrRun, bitByte] using hown1) w5 (Below.refl _ _); rw [← HS0.out] at g0; clear hown1 hb1 hne1)
      have HB : Hid (Below W0.heap.size W0 w5) := hb.out.trans HB5.out
      obtain ⟨c4, c5⟩ := CE.out w5 HB.out
      clear g0 hown hb hs HB5
      go_cut [47] from 30 (fun s47 wx => s47 = .bool (decide (0 ≤ eb ∧ eb ≤ 2 ∧ 0 ≤ ex ∧ ex ≤ 3)) ∧ wx = w5)
      case first =>
        go_wp2
        all_goals
          go_meet
          case rel => exact ⟨by first | (congr 1; rw [Bool.eq_iff_iff]; simp; omega) | (simp_all <;> omega), rfl⟩
      case rest =>
        obtain ⟨h47, hwc⟩ := hcut
        subst h47
        rw [hwc]
        clear hwc wc
        go_upto_if 47 with fail
        go_cut [6] from 47 (fun s6 wx => ∃ S1 : ByteArray, s6 = .string S1 ∧ S1.size ≤ 66 ∧ Hid (IsBits S1 (wrRun true run ++ wrExp eb ex)) ∧ Hid (Below W0.heap.size W0 wx))
        case first =>
          by_cases hq : 0 ≤ eb ∧ eb ≤ 2 ∧ 0 ≤ ex ∧ ex ≤ 3
          · rw [decide_eq_true hq]
            have HE : Hid (wrExp eb ex = (bitsOf ex.toNat 2).take eb.toNat) := if_pos hq
            obtain ⟨q1, q2, q3, q4⟩ := hq
            obtain ⟨EB, rfl⟩ := Int.eq_ofNat_of_zero_le q1
            obtain ⟨EX, rfl⟩ := Int.eq_ofNat_of_zero_le q3
            have eu : IntKind.u64.wrap (EX : Int) = (EX : Int) := by rw [IntKind.wrap_u64]; omega
            clear q1 q3
            go_upto_region 12 with fail
            refine wpC_region (fun W => W.cell? ⟨w.heap.size, 4, none⟩ = some (.int .i64 EB) ∧ W.cell? ⟨w.heap.size, 5, none⟩ = some (.int .i64 EX)) (by kernel_rfl) ?_
            refine wpC_take 0 (v := ?_) rfl (by kernel_rfl) (fun _ _ _ h => h) (by kernel_rfl) ?_ ?_; rotate_left; · (intro wC hC; obtain ⟨c4, c5⟩ := hC; go_simp <;> with_reducible rfl)
            refine wpC_take 1 (v := ?_) rfl (by kernel_rfl) (fun _ _ _ h => h) (by kernel_rfl) ?_ ?_; rotate_left; · (intro wC hC; obtain ⟨c4, c5⟩ := hC; go_simp <;> with_reducible rfl)
            refine wpC_take 2 (v := ?_) rfl (by kernel_rfl) (fun _ _ _ h => h) (by kernel_rfl) ?_ ?_; rotate_left; · (intro wC hC; obtain ⟨c4, c5⟩ := hC; go_simp <;> with_reducible rfl)
            refine wpC_take 3 (v := ?_) rfl (by kernel_rfl) (fun _ _ _ h => h) (by kernel_rfl) ?_ ?_; rotate_left; · (intro wC hC; obtain ⟨c4, c5⟩ := hC; go_simp <;> with_reducible rfl)
            refine wpC_take 5 (v := ?_) rfl (by kernel_rfl) (fun _ _ _ h => h) (by kernel_rfl) ?_ ?_; rotate_left; · (intro wC hC; obtain ⟨c4, c5⟩ := hC; go_simp <;> with_reducible rfl)
            refine wpC_take 6 (v := ?_) rfl (by kernel_rfl) (fun _ _ _ h => h) (by kernel_rfl) ?_ ?_; rotate_left; · (intro wC hC; obtain ⟨c4, c5⟩ := hC; go_simp <;> with_reducible rfl)
            refine wpC_step 4 rfl (by kernel_rfl) (by kernel_rfl) ⟨c4, c5⟩ (fun K hK => ?_)
            go_simp
            go_wp2_with ((go_at_call 29; (try rw [eu]); refine (text_any EX 2 (by decide) _).mono ?_; rintro e w7 ⟨t, rfl, ht, hb7⟩))
            try (refine hK _ _ ?_; clear hK K)
            have HB7 : Hid (Below W0.heap.size W0 w7) := HB.out.drew.trans (hb7.mono (by have := HB.out.size; simpa using this))
            obtain ⟨c4', c5'⟩ := CE.out w7 HB7.out
            have htz := isBits_size ht
            rw [bitsOf_length] at htz
            have g1 := slice_h (P := Try.prog) (s := t) Try.underlying9 (EB : Int) EB rfl (by omega)
            have hi2 : IsBits (t.extract 0 EB) (wrExp EB EX) := by
              have := isBits_extract ht 0 EB
              rw [HE.out, Int.toNat_natCast, Int.toNat_natCast]; simpa using this
            have hez : (t.extract 0 EB).size = EB := by rw [ByteArray.size_extract]; omega
            have g2 := fun wx => run_string_add_sum (P := Try.prog) wx S0 (t.extract 0 EB) (by rw [hez]; omega)
            have HI2 : Hid _ := isBits_append HI.out hi2
            have hz9 : (S0 ++ t.extract 0 EB).size ≤ 66 := by rw [ByteArray.size_append, hez]; omega
            generalize t.extract 0 EB = t2 at *
            refine wpC_take 7 (v := ?_) rfl (by kernel_rfl) (fun _ _ _ h => h) (by kernel_rfl) ?_ ?_; rotate_left; · (intro wC hC; obtain ⟨c4, c5⟩ := hC; go_simp <;> with_reducible rfl)
            refine wpC_take 8 (v := ?_) rfl (by kernel_rfl) (fun _ _ _ h => h) (by kernel_rfl) ?_ ?_; rotate_left; · (intro wC hC; obtain ⟨c4, c5⟩ := hC; go_simp <;> with_reducible rfl)
            generalize S0 ++ t2 = S1 at *
            refine wpC_step 9 rfl (by kernel_rfl) (by kernel_rfl) ⟨c4', c5'⟩ (fun K hK => ?_)
            go_simp
            try (refine hK _ _ ?_; clear hK K)
            refine wpC_done (by kernel_rfl) ⟨c4', c5'⟩ ?_
            go_wp2_with fail
            go_meet
            case rel => exact ⟨S1, rfl, hz9, HI2.out, HB7.out⟩
          · rw [decide_eq_false hq]
            have HE : Hid (wrExp eb ex = []) := if_neg hq
            go_wp2
            go_meet
            case rel => exact ⟨S0, rfl, by omega, by rw [HE.out, List.append_nil]; exact HI.out, HB.out⟩
        case rest =>
          obtain ⟨S1, rfl, hz1', HI1, HB1⟩ := hcut
          rename World => w6
          obtain ⟨c6, c7⟩ := CF.out w6 HB1.out
          clear HB HI HS0 c4 c5 HR0 hz0'
          go_upto_region 13 with fail
          go_cut [64] from 57 (fun s64 wx => s64 = .bool (decide (0 ≤ fb ∧ fb ≤ 64)) ∧ wx = w6)
          case first =>
            go_wp2
            all_goals
              go_meet
              case rel => exact ⟨by first | (congr 1; rw [Bool.eq_iff_iff]; simp; omega) | (simp_all <;> omega), rfl⟩
          case rest =>
            obtain ⟨h64, hwc⟩ := hcut
            subst h64
            rw [hwc]
            clear hwc
            go_upto_if 64 with fail
            by_cases hq : 0 ≤ fb ∧ fb ≤ 64
            · rw [decide_eq_true hq]
              have HF : Hid (wrFrac fb fr = bitsOf fr fb.toNat) := if_pos hq
              obtain ⟨q1, q2⟩ := hq
              obtain ⟨FB, rfl⟩ := Int.eq_ofNat_of_zero_le q1
              clear q1
              go_wp2_with (go_at_call 29; refine (text_any fr FB (by omega) _).mono ?_; rintro e w7 ⟨t, rfl, ht, hb7⟩; have htz := isBits_size ht; rw [bitsOf_length] at htz; have HT : Hid _ := ht; have HB7 : Hid (Below W0.heap.size W0 w7) := HB1.out.trans (hb7.mono HB1.out.size); have g2 := (fun wx => run_string_add_sum (P := Try.prog) wx S1 t (by rw [htz]; omega)); clear hb7 ht)
              refine hQ.out _ _ ⟨_, rfl, ?_, HB0.out.trans (HB7.out.mono (by omega))⟩
              have := isBits_append HI1.out HT.out
              rw [writtenL, HF.out, Int.toNat_natCast]; exact this
            · rw [decide_eq_false hq]
              have HF : Hid (wrFrac fb fr = []) := if_neg hq
              go_wp2
              exact hQ.out _ _ ⟨S1, rfl, by rw [writtenL, HF.out, List.append_nil]; exact HI1.out, HB0.out.trans (HB1.out.mono (by omega))⟩
    go_wp2_with fail
    go_loopw [3, 5] (fun v i wr => ∃ j : Nat, j ≤ min run.toNat 63 ∧ i = .int .i64 j ∧ Hid (wr.ownsRow W0.heap.size 5 1 v j (chars (List.replicate j true))) ∧ Hid (Below W0.heap.size W0 wr)) (fun _ i _ => 63 - (intOf i).toNat)
    case atStart => exact ⟨0, Nat.zero_le _, rfl, World.ownsRow_nil _ _ _ _, Below.refl _ _⟩
    case round =>
      rename World => wr
      obtain ⟨j, hj, rfl, hown, hb⟩ := hrel
      have hs := hb.out.size
      have c2 := cl wr hb.out
      by_cases hlt : j < min run.toNat 63
      · have hlt2 : decide ((j : Int) < run) = true := decide_eq_true (by omega)
        have hlt3 : decide ((j : Int) < 63) = true := decide_eq_true (by omega)
        go_wp2_with (at_builtin; go_must (refine append1 rfl _ _ 84 rfl W0.heap.size 5 i0 (.int .u8 0) 1 Try.underlying84 hi hz0 hz1 hz2 rfl _ _ _ hown.out rfl rfl rfl (by omega) (by omega) hs ?_); intro v' w5 hown1 hb1 hne1 _; have HO5 : Hid (World.ownsRow _ _ _ _ _ _ _) := hown1; have HB5 : Hid (Below _ _ _) := hb1; clear hown1 hb1 hne1)
        go_roundw
        case rel => exact ⟨j + 1, by omega, by go_num, by show World.ownsRow _ _ _ _ _ _ _; rw [chars_rep]; exact HO5.out, hb.out.trans HB5.out⟩
        case measure => simp [intOf]; omega
      · have hjm : j = min run.toNat 63 := by omega
        rw [hjm] at hown
        by_cases hr : (j : Int) < run
        · have hlt3 : decide ((j : Int) < 63) = false := decide_eq_false (by omega)
          have hlt4 : decide ((j : Int) < run) = true := decide_eq_true hr
          go_wp2
          go_meet
          case rel => exact ⟨hown, hb⟩
        · have hlt4 : decide ((j : Int) < run) = false := decide_eq_false hr
          go_wp2
          go_meet
          case rel => exact ⟨hown, hb⟩
end Go.Proofs.Ythbhcdokjlpjbaa
