import Derived.Test.YtheliihkkoohnabGreatJoin5
namespace Go.Proofs.YtheliihkkoohnabGreat
open Go.ChangeShapes Go.WideShapes Go.ChangeAt Go.RowKit
set_option linter.unusedVariables false
set_option linter.unusedSimpArgs false
set_option maxRecDepth 100000

/-! ### a number shifted up till its highest bit is 1 -/
set_option maxHeartbeats 8000000 in
theorem frisen_any {n a b c d f a' b' c' d' f' k : Nat} (h : Q5 n a b c d f) (hn : n ≠ 0) (hk : k + blen n = 320) (h' : Q5 (n * 2 ^ k) a' b' c' d' f') (w : World) :
    Calls Tryz.prog 88 #[w5V a b c d f] w fun e w' => e = .returned (.tuple #[w5V a' b' c' d' f', .int .i64 k]) ∧ Below w.heap.size w w' := by
  unfold w5V
  have HN : Hid (n ≠ 0 ∧ k + blen n = 320 ∧ Q5 (n * 2 ^ k) a' b' c' d' f') := ⟨hn, hk, h'⟩
  have HW : Hid (Q5 n a b c d f) := h
  have v0 : IntKind.i64.wrap 0 = 0 := rfl
  have v1 : IntKind.i64.wrap 1 = 1 := rfl
  have v2 : IntKind.i64.wrap 2 = 2 := rfl
  have v3 : IntKind.i64.wrap 3 = 3 := rfl
  have v4 : IntKind.i64.wrap 4 = 4 := rfl
  clear h hn hk h'
  refine cps fun Q hQ => ?_
  go_enter Tryz.func88, Tryz.ntmps88
  go_wp2
  go_loopw [4] (fun kv wr => Hid (Below w.heap.size w wr) ∧ wr.heap[w.heap.size + 1]? = some (.cells #[.int .u64 0, .int .u64 0, .int .u64 0, .int .u64 0, .int .u64 0] 134 (0, 0)) ∧
    ∃ p q r s u j : Nat, wr.heap[w.heap.size]? = some (.cells #[.int .u64 p, .int .u64 q, .int .u64 r, .int .u64 s, .int .u64 u] 134 (0, 0)) ∧ kv = .int .i64 j ∧ j ≤ 319 ∧ Hid (Q5 (n * 2 ^ j) p q r s u)) (fun kv _ => (320 - intOf kv).toNat)
  case atStart => exact ⟨cmore (cmore (Below.refl _ _) _) _, rownew' _ _ _ _ (by simp), a, b, c, d, f, 0, (Below.heap_alloc _ _ _ (by first | (simp; done) | (simp; omega))).trans (rownew' _ _ _ _ (by simp)), rfl, Nat.zero_le _, by rw [Nat.pow_zero, Nat.mul_one]; exact HW.out⟩
  case round =>
    obtain ⟨hB, hR, p, q, r, s, u, j, hX, rfl, hj, hq⟩ := hrel
    have HB : Hid (Below w.heap.size w wr) := hB.out
    have xx0 := rowcell hX 0
    have xx1 := rowcell hX 1
    have xx2 := rowcell hX 2
    have xx3 := rowcell hX 3
    have xx4 := rowcell hX 4
    have xf := rowfree hX
    have tt0 := rowcell hR 0
    have tt1 := rowcell hR 1
    have tt2 := rowcell hR 2
    have tt3 := rowcell hR 3
    have tt4 := rowcell hR 4
    have tf := rowfree hR
    simp only [List.getElem?_toArray, List.getElem?_cons_zero, List.getElem?_cons_succ] at xx0 xx1 xx2 xx3 xx4 tt0 tt1 tt2 tt3 tt4
    have GX : Hid _ := hX
    have GR : Hid _ := hR
    clear hX hR hB
    by_cases h0 : u = 0
    · subst h0
      have hj2 : j ≤ 255 := by
        obtain ⟨e, a0, a1, a2, a3, a4⟩ := hq.out
        have h1 : n * 2 ^ j < 2 ^ 256 := by rw [show (2 : Nat) ^ 256 = 115792089237316195423570985008687907853269984665640564039457584007913129639936 by decide]; omega
        have h2 : 2 ^ j ≤ n * 2 ^ j := Nat.le_mul_of_pos_left _ (Nat.pos_of_ne_zero HN.out.1)
        have h3 : j < 256 := (Nat.pow_lt_pow_iff_right (by decide : 1 < 2)).1 (Nat.lt_of_le_of_lt h2 h1)
        omega
      have hnew : Q5 (n * 2 ^ (j + 64)) 0 p q r s := by
        obtain ⟨e, a0, a1, a2, a3, a4⟩ := hq.out
        refine ⟨?_, by omega, by omega, by omega, by omega, by omega⟩
        rw [Nat.pow_add, ← Nat.mul_assoc, e, show (2 : Nat) ^ 64 = 18446744073709551616 by decide]
        omega
      have HNew : Hid (Q5 (n * 2 ^ (j + 64)) 0 p q r s) := hnew
      clear hnew
      go_wp2
      go_roundw
      case measure => simp [intOf]; omega
      case rel => exact ⟨cset5 HB.out (Nat.le_refl _), row5_other GR.out (by omega), 0, p, q, r, s, j + 64, row5 GX.out, by go_num, by omega, HNew.out⟩
    · obtain ⟨few, G, A1, A2, A3, A4, B1, B2, B3, B4, n0, n1, n2, n3, n4, f1, f2, f3, f4, f5, e0, e1, e2, e3, e4, g1, g2, g3, g4, o1, o2, o3, o4⟩ := risen5_facts hq.out h0
      have hs0 : ((u : Int) == 0) = false := beq_eq_false_iff_ne.2 (by omega)
      have k1 := mlz_any u hq.out.h4
      rw [f3] at k1
      have fG : IntKind.i64.wrap (64 - (few : Int)) = (G : Int) := by rw [wrapI (by omega)]; omega
      have mf : min few 64 = few := by omega
      have mg : min G 64 = G := by omega
      rw [← mf] at e0 e1 e2 e3 e4
      rw [← mg] at g1 g2 g3 g4
      clear mf mg
      have fg0 : (0 : Int) ≤ (few : Int) := Int.natCast_nonneg _
      have fg1 : (0 : Int) ≤ (G : Int) := Int.natCast_nonneg _
      have HF : Hid (few + G = 64 ∧ few ≤ 63 ∧ blen (n * 2 ^ j) + few = 320 ∧ Q5 (n * 2 ^ j * 2 ^ few) n0 n1 n2 n3 n4) := ⟨f1, f2, f4, f5⟩
      have hsum : IntKind.i64.wrap ((j : Int) + (few : Int)) = ((j + few : Nat) : Int) := by rw [wrapI (by omega)]; omega
      clear f1 f2 f3 f4 f5 h0
      go_wp2_with (go_at_call 90; go_must (refine (k1 _).mono ?_); rintro e w' ⟨rfl, hw'⟩; rw [hw']; clear hw' w')
      obtain ⟨wo, hwo⟩ : ∃ wo : World, wo = wr := ⟨_, rfl⟩
      rw [← hwo] at HB GR
      have hB2 : Hid (Below w.heap.size wo wr) := by show Below _ _ _; rw [hwo]; exact Below.refl _ _
      have hR2 : Hid (wr.heap[w.heap.size + 1]? = some (.cells #[.int .u64 0, .int .u64 0, .int .u64 0, .int .u64 0, .int .u64 0] 134 (0, 0))) := by show _ = _; rw [← hwo]; exact GR.out
      have hX2 := GX.out
      have HJ : Hid (Q5 (n * 2 ^ j) p q r s u) := hq.out
      have zo : w.heap.size < wo.heap.size := by have := rowlt GR.out; omega
      clear GX xx0 xx1 xx2 xx3 xx4 tt0 tt1 tt2 tt3 tt4 xf tf hq hwo
      go_loopw [6] (fun iv wr => Hid (Below w.heap.size wo wr) ∧ ∃ y0 y1 y2 y3 y4 : Nat, wr.heap[w.heap.size]? = some (.cells #[.int .u64 y0, .int .u64 y1, .int .u64 y2, .int .u64 y3, .int .u64 y4] 134 (0, 0)) ∧ wr.heap[w.heap.size + 1]? = some (.cells #[.int .u64 0, .int .u64 0, .int .u64 0, .int .u64 0, .int .u64 0] 134 (0, 0)) ∧ ((iv = .int .i64 4 ∧ p = y0 ∧ q = y1 ∧ r = y2 ∧ s = y3 ∧ u = y4) ∨ (iv = .int .i64 3 ∧ p = y0 ∧ q = y1 ∧ r = y2 ∧ s = y3 ∧ n4 = y4) ∨ (iv = .int .i64 2 ∧ p = y0 ∧ q = y1 ∧ r = y2 ∧ n3 = y3 ∧ n4 = y4) ∨ (iv = .int .i64 1 ∧ p = y0 ∧ q = y1 ∧ n2 = y2 ∧ n3 = y3 ∧ n4 = y4) ∨ (iv = .int .i64 0 ∧ p = y0 ∧ n1 = y1 ∧ n2 = y2 ∧ n3 = y3 ∧ n4 = y4))) (fun iv _ => (intOf iv).toNat)
      case atStart => exact ⟨hB2.out, p, q, r, s, u, hX2, hR2.out, .inl ⟨rfl, rfl, rfl, rfl, rfl, rfl⟩⟩
      case round =>
        obtain ⟨hB3, y0, y1, y2, y3, y4, hX3, hR3, hrel⟩ := hrel
        have HB3 : Hid (Below w.heap.size wo wr) := hB3.out
        have xx0 := rowcell hX3 0
        have xx1 := rowcell hX3 1
        have xx2 := rowcell hX3 2
        have xx3 := rowcell hX3 3
        have xx4 := rowcell hX3 4
        have tt0 := rowcell hR3 0
        have tt1 := rowcell hR3 1
        have tt2 := rowcell hR3 2
        have tt3 := rowcell hR3 3
        have tt4 := rowcell hR3 4
        have xf := rowfree hX3
        have tf := rowfree hR3
        simp only [List.getElem?_toArray, List.getElem?_cons_zero, List.getElem?_cons_succ] at xx0 xx1 xx2 xx3 xx4 tt0 tt1 tt2 tt3 tt4
        have GX3 : Hid _ := hX3
        have GR3 : Hid _ := hR3
        clear hX3 hR3 hB3 hX2
        rcases hrel with ⟨rfl, rfl, rfl, rfl, rfl, rfl⟩ | ⟨rfl, rfl, rfl, rfl, rfl, rfl⟩ | ⟨rfl, rfl, rfl, rfl, rfl, rfl⟩ | ⟨rfl, rfl, rfl, rfl, rfl, rfl⟩ | ⟨rfl, rfl, rfl, rfl, rfl, rfl⟩
        · go_wp2
          refine wpC_region (fun W => W.cell? ⟨w.heap.size, 3, none⟩ = some (.int .u64 s)) (by kernel_rfl) ?_
          refine wpC_take 0 (v := ?_) rfl (by kernel_rfl) (fun _ _ _ h => h) (by kernel_rfl) ?_ ?_; rotate_left; · (intro wC hC; obtain d0 := hC; go_simp <;> with_reducible rfl)
          refine wpC_take 1 (v := ?_) rfl (by kernel_rfl) (fun _ _ _ h => h) (by kernel_rfl) ?_ ?_; rotate_left; · (intro wC hC; obtain d0 := hC; go_simp <;> with_reducible rfl)
          refine wpC_take 2 (v := ?_) rfl (by kernel_rfl) (fun _ _ _ h => h) (by kernel_rfl) ?_ ?_; rotate_left; · (intro wC hC; obtain d0 := hC; go_simp <;> with_reducible rfl)
          refine wpC_take 4 (v := ?_) rfl (by kernel_rfl) (fun _ _ _ h => h) (by kernel_rfl) ?_ ?_; rotate_left; · (intro wC hC; obtain d0 := hC; go_simp <;> with_reducible rfl)
          refine wpC_take 6 (v := ?_) rfl (by kernel_rfl) (fun _ _ _ h => h) (by kernel_rfl) ?_ ?_; rotate_left; · (intro wC hC; obtain d0 := hC; go_simp <;> with_reducible rfl)
          refine wpC_take 7 (v := ?_) rfl (by kernel_rfl) (fun _ _ _ h => h) (by kernel_rfl) ?_ ?_; rotate_left; · (intro wC hC; obtain d0 := hC; go_simp <;> with_reducible rfl)
          refine wpC_take 8 (v := ?_) rfl (by kernel_rfl) (fun _ _ _ h => h) (by kernel_rfl) ?_ ?_; rotate_left; · (intro wC hC; obtain d0 := hC; go_simp <;> with_reducible rfl)
          refine wpC_take 9 (v := ?_) rfl (by kernel_rfl) (fun _ _ _ h => h) (by kernel_rfl) ?_ ?_; rotate_left; · (intro wC hC; obtain d0 := hC; go_simp <;> with_reducible rfl)
          refine wpC_take 10 (v := ?_) rfl (by kernel_rfl) (fun _ _ _ h => h) (by kernel_rfl) ?_ ?_; rotate_left; · (intro wC hC; obtain d0 := hC; go_simp <;> with_reducible rfl)
          refine wpC_take 11 (v := ?_) rfl (by kernel_rfl) (fun _ _ _ h => h) (by kernel_rfl) ?_ ?_; rotate_left; · (intro wC hC; obtain d0 := hC; go_simp <;> with_reducible rfl)
          refine wpC_take 12 (v := ?_) rfl (by kernel_rfl) (fun _ _ _ h => h) (by kernel_rfl) ?_ ?_; rotate_left; · (intro wC hC; obtain d0 := hC; go_simp <;> with_reducible rfl)
          refine wpC_step 3 rfl (by kernel_rfl) (by kernel_rfl) xx3 (fun K hK => ?_)
          go_simp
          try (refine hK _ _ ?_; clear hK K)
          refine wpC_take 5 (v := ?_) rfl (by kernel_rfl) (fun _ _ _ h => h) (by kernel_rfl) ?_ ?_; rotate_left; · (intro wC hC; obtain d0 := hC; go_simp <;> with_reducible rfl)
          refine wpC_take 13 (v := ?_) rfl (by kernel_rfl) (fun _ _ _ h => h) (by kernel_rfl) ?_ ?_; rotate_left; · (intro wC hC; obtain d0 := hC; go_simp <;> with_reducible rfl)
          refine wpC_take 14 (v := ?_) rfl (by kernel_rfl) (fun _ _ _ h => h) (by kernel_rfl) ?_ ?_; rotate_left; · (intro wC hC; obtain d0 := hC; go_simp <;> with_reducible rfl)
          refine wpC_step 15 rfl (by kernel_rfl) (by kernel_rfl) xx3 (fun K hK => ?_)
          go_simp
          try (refine hK _ _ ?_; clear hK K)
          refine wpC_done (by kernel_rfl) (by simp [go_sem, xx3]) ?_
          go_wp2
          go_roundw
          case measure => simp [intOf]
          case rel => exact ⟨(HB3.out.setCell (Nat.le_refl _) _).drew, p, q, r, s, n4, (rowset GX3.out 4 _).trans (by simp only [List.setIfInBounds_toArray, List.set_cons_zero, List.set_cons_succ]), rowset_other GR3.out (by omega), .inr (.inl ⟨rfl, rfl, rfl, rfl, rfl, rfl⟩)⟩
        · go_wp2
          refine wpC_region (fun W => W.cell? ⟨w.heap.size, 2, none⟩ = some (.int .u64 r)) (by kernel_rfl) ?_
          refine wpC_take 0 (v := ?_) rfl (by kernel_rfl) (fun _ _ _ h => h) (by kernel_rfl) ?_ ?_; rotate_left; · (intro wC hC; obtain d0 := hC; go_simp <;> with_reducible rfl)
          refine wpC_take 1 (v := ?_) rfl (by kernel_rfl) (fun _ _ _ h => h) (by kernel_rfl) ?_ ?_; rotate_left; · (intro wC hC; obtain d0 := hC; go_simp <;> with_reducible rfl)
          refine wpC_take 2 (v := ?_) rfl (by kernel_rfl) (fun _ _ _ h => h) (by kernel_rfl) ?_ ?_; rotate_left; · (intro wC hC; obtain d0 := hC; go_simp <;> with_reducible rfl)
          refine wpC_take 4 (v := ?_) rfl (by kernel_rfl) (fun _ _ _ h => h) (by kernel_rfl) ?_ ?_; rotate_left; · (intro wC hC; obtain d0 := hC; go_simp <;> with_reducible rfl)
          refine wpC_take 6 (v := ?_) rfl (by kernel_rfl) (fun _ _ _ h => h) (by kernel_rfl) ?_ ?_; rotate_left; · (intro wC hC; obtain d0 := hC; go_simp <;> with_reducible rfl)
          refine wpC_take 7 (v := ?_) rfl (by kernel_rfl) (fun _ _ _ h => h) (by kernel_rfl) ?_ ?_; rotate_left; · (intro wC hC; obtain d0 := hC; go_simp <;> with_reducible rfl)
          refine wpC_take 8 (v := ?_) rfl (by kernel_rfl) (fun _ _ _ h => h) (by kernel_rfl) ?_ ?_; rotate_left; · (intro wC hC; obtain d0 := hC; go_simp <;> with_reducible rfl)
          refine wpC_take 9 (v := ?_) rfl (by kernel_rfl) (fun _ _ _ h => h) (by kernel_rfl) ?_ ?_; rotate_left; · (intro wC hC; obtain d0 := hC; go_simp <;> with_reducible rfl)
          refine wpC_take 10 (v := ?_) rfl (by kernel_rfl) (fun _ _ _ h => h) (by kernel_rfl) ?_ ?_; rotate_left; · (intro wC hC; obtain d0 := hC; go_simp <;> with_reducible rfl)
          refine wpC_take 11 (v := ?_) rfl (by kernel_rfl) (fun _ _ _ h => h) (by kernel_rfl) ?_ ?_; rotate_left; · (intro wC hC; obtain d0 := hC; go_simp <;> with_reducible rfl)
          refine wpC_take 12 (v := ?_) rfl (by kernel_rfl) (fun _ _ _ h => h) (by kernel_rfl) ?_ ?_; rotate_left; · (intro wC hC; obtain d0 := hC; go_simp <;> with_reducible rfl)
          refine wpC_step 3 rfl (by kernel_rfl) (by kernel_rfl) xx2 (fun K hK => ?_)
          go_simp
          try (refine hK _ _ ?_; clear hK K)
          refine wpC_take 5 (v := ?_) rfl (by kernel_rfl) (fun _ _ _ h => h) (by kernel_rfl) ?_ ?_; rotate_left; · (intro wC hC; obtain d0 := hC; go_simp <;> with_reducible rfl)
          refine wpC_take 13 (v := ?_) rfl (by kernel_rfl) (fun _ _ _ h => h) (by kernel_rfl) ?_ ?_; rotate_left; · (intro wC hC; obtain d0 := hC; go_simp <;> with_reducible rfl)
          refine wpC_take 14 (v := ?_) rfl (by kernel_rfl) (fun _ _ _ h => h) (by kernel_rfl) ?_ ?_; rotate_left; · (intro wC hC; obtain d0 := hC; go_simp <;> with_reducible rfl)
          refine wpC_step 15 rfl (by kernel_rfl) (by kernel_rfl) xx2 (fun K hK => ?_)
          go_simp
          try (refine hK _ _ ?_; clear hK K)
          refine wpC_done (by kernel_rfl) (by simp [go_sem, xx2]) ?_
          go_wp2
          go_roundw
          case measure => simp [intOf]
          case rel => exact ⟨(HB3.out.setCell (Nat.le_refl _) _).drew, p, q, r, n3, n4, (rowset GX3.out 3 _).trans (by simp only [List.setIfInBounds_toArray, List.set_cons_zero, List.set_cons_succ]), rowset_other GR3.out (by omega), .inr (.inr (.inl ⟨rfl, rfl, rfl, rfl, rfl, rfl⟩))⟩
        · go_wp2
          refine wpC_region (fun W => W.cell? ⟨w.heap.size, 1, none⟩ = some (.int .u64 q)) (by kernel_rfl) ?_
          refine wpC_take 0 (v := ?_) rfl (by kernel_rfl) (fun _ _ _ h => h) (by kernel_rfl) ?_ ?_; rotate_left; · (intro wC hC; obtain d0 := hC; go_simp <;> with_reducible rfl)
          refine wpC_take 1 (v := ?_) rfl (by kernel_rfl) (fun _ _ _ h => h) (by kernel_rfl) ?_ ?_; rotate_left; · (intro wC hC; obtain d0 := hC; go_simp <;> with_reducible rfl)
          refine wpC_take 2 (v := ?_) rfl (by kernel_rfl) (fun _ _ _ h => h) (by kernel_rfl) ?_ ?_; rotate_left; · (intro wC hC; obtain d0 := hC; go_simp <;> with_reducible rfl)
          refine wpC_take 4 (v := ?_) rfl (by kernel_rfl) (fun _ _ _ h => h) (by kernel_rfl) ?_ ?_; rotate_left; · (intro wC hC; obtain d0 := hC; go_simp <;> with_reducible rfl)
          refine wpC_take 6 (v := ?_) rfl (by kernel_rfl) (fun _ _ _ h => h) (by kernel_rfl) ?_ ?_; rotate_left; · (intro wC hC; obtain d0 := hC; go_simp <;> with_reducible rfl)
          refine wpC_take 7 (v := ?_) rfl (by kernel_rfl) (fun _ _ _ h => h) (by kernel_rfl) ?_ ?_; rotate_left; · (intro wC hC; obtain d0 := hC; go_simp <;> with_reducible rfl)
          refine wpC_take 8 (v := ?_) rfl (by kernel_rfl) (fun _ _ _ h => h) (by kernel_rfl) ?_ ?_; rotate_left; · (intro wC hC; obtain d0 := hC; go_simp <;> with_reducible rfl)
          refine wpC_take 9 (v := ?_) rfl (by kernel_rfl) (fun _ _ _ h => h) (by kernel_rfl) ?_ ?_; rotate_left; · (intro wC hC; obtain d0 := hC; go_simp <;> with_reducible rfl)
          refine wpC_take 10 (v := ?_) rfl (by kernel_rfl) (fun _ _ _ h => h) (by kernel_rfl) ?_ ?_; rotate_left; · (intro wC hC; obtain d0 := hC; go_simp <;> with_reducible rfl)
          refine wpC_take 11 (v := ?_) rfl (by kernel_rfl) (fun _ _ _ h => h) (by kernel_rfl) ?_ ?_; rotate_left; · (intro wC hC; obtain d0 := hC; go_simp <;> with_reducible rfl)
          refine wpC_take 12 (v := ?_) rfl (by kernel_rfl) (fun _ _ _ h => h) (by kernel_rfl) ?_ ?_; rotate_left; · (intro wC hC; obtain d0 := hC; go_simp <;> with_reducible rfl)
          refine wpC_step 3 rfl (by kernel_rfl) (by kernel_rfl) xx1 (fun K hK => ?_)
          go_simp
          try (refine hK _ _ ?_; clear hK K)
          refine wpC_take 5 (v := ?_) rfl (by kernel_rfl) (fun _ _ _ h => h) (by kernel_rfl) ?_ ?_; rotate_left; · (intro wC hC; obtain d0 := hC; go_simp <;> with_reducible rfl)
          refine wpC_take 13 (v := ?_) rfl (by kernel_rfl) (fun _ _ _ h => h) (by kernel_rfl) ?_ ?_; rotate_left; · (intro wC hC; obtain d0 := hC; go_simp <;> with_reducible rfl)
          refine wpC_take 14 (v := ?_) rfl (by kernel_rfl) (fun _ _ _ h => h) (by kernel_rfl) ?_ ?_; rotate_left; · (intro wC hC; obtain d0 := hC; go_simp <;> with_reducible rfl)
          refine wpC_step 15 rfl (by kernel_rfl) (by kernel_rfl) xx1 (fun K hK => ?_)
          go_simp
          try (refine hK _ _ ?_; clear hK K)
          refine wpC_done (by kernel_rfl) (by simp [go_sem, xx1]) ?_
          go_wp2
          go_roundw
          case measure => simp [intOf]
          case rel => exact ⟨(HB3.out.setCell (Nat.le_refl _) _).drew, p, q, n2, n3, n4, (rowset GX3.out 2 _).trans (by simp only [List.setIfInBounds_toArray, List.set_cons_zero, List.set_cons_succ]), rowset_other GR3.out (by omega), .inr (.inr (.inr (.inl ⟨rfl, rfl, rfl, rfl, rfl, rfl⟩)))⟩
        · go_wp2
          refine wpC_region (fun W => W.cell? ⟨w.heap.size, 0, none⟩ = some (.int .u64 p)) (by kernel_rfl) ?_
          refine wpC_take 0 (v := ?_) rfl (by kernel_rfl) (fun _ _ _ h => h) (by kernel_rfl) ?_ ?_; rotate_left; · (intro wC hC; obtain d0 := hC; go_simp <;> with_reducible rfl)
          refine wpC_take 1 (v := ?_) rfl (by kernel_rfl) (fun _ _ _ h => h) (by kernel_rfl) ?_ ?_; rotate_left; · (intro wC hC; obtain d0 := hC; go_simp <;> with_reducible rfl)
          refine wpC_take 2 (v := ?_) rfl (by kernel_rfl) (fun _ _ _ h => h) (by kernel_rfl) ?_ ?_; rotate_left; · (intro wC hC; obtain d0 := hC; go_simp <;> with_reducible rfl)
          refine wpC_take 4 (v := ?_) rfl (by kernel_rfl) (fun _ _ _ h => h) (by kernel_rfl) ?_ ?_; rotate_left; · (intro wC hC; obtain d0 := hC; go_simp <;> with_reducible rfl)
          refine wpC_take 6 (v := ?_) rfl (by kernel_rfl) (fun _ _ _ h => h) (by kernel_rfl) ?_ ?_; rotate_left; · (intro wC hC; obtain d0 := hC; go_simp <;> with_reducible rfl)
          refine wpC_take 7 (v := ?_) rfl (by kernel_rfl) (fun _ _ _ h => h) (by kernel_rfl) ?_ ?_; rotate_left; · (intro wC hC; obtain d0 := hC; go_simp <;> with_reducible rfl)
          refine wpC_take 8 (v := ?_) rfl (by kernel_rfl) (fun _ _ _ h => h) (by kernel_rfl) ?_ ?_; rotate_left; · (intro wC hC; obtain d0 := hC; go_simp <;> with_reducible rfl)
          refine wpC_take 9 (v := ?_) rfl (by kernel_rfl) (fun _ _ _ h => h) (by kernel_rfl) ?_ ?_; rotate_left; · (intro wC hC; obtain d0 := hC; go_simp <;> with_reducible rfl)
          refine wpC_take 10 (v := ?_) rfl (by kernel_rfl) (fun _ _ _ h => h) (by kernel_rfl) ?_ ?_; rotate_left; · (intro wC hC; obtain d0 := hC; go_simp <;> with_reducible rfl)
          refine wpC_take 11 (v := ?_) rfl (by kernel_rfl) (fun _ _ _ h => h) (by kernel_rfl) ?_ ?_; rotate_left; · (intro wC hC; obtain d0 := hC; go_simp <;> with_reducible rfl)
          refine wpC_take 12 (v := ?_) rfl (by kernel_rfl) (fun _ _ _ h => h) (by kernel_rfl) ?_ ?_; rotate_left; · (intro wC hC; obtain d0 := hC; go_simp <;> with_reducible rfl)
          refine wpC_step 3 rfl (by kernel_rfl) (by kernel_rfl) xx0 (fun K hK => ?_)
          go_simp
          try (refine hK _ _ ?_; clear hK K)
          refine wpC_take 5 (v := ?_) rfl (by kernel_rfl) (fun _ _ _ h => h) (by kernel_rfl) ?_ ?_; rotate_left; · (intro wC hC; obtain d0 := hC; go_simp <;> with_reducible rfl)
          refine wpC_take 13 (v := ?_) rfl (by kernel_rfl) (fun _ _ _ h => h) (by kernel_rfl) ?_ ?_; rotate_left; · (intro wC hC; obtain d0 := hC; go_simp <;> with_reducible rfl)
          refine wpC_take 14 (v := ?_) rfl (by kernel_rfl) (fun _ _ _ h => h) (by kernel_rfl) ?_ ?_; rotate_left; · (intro wC hC; obtain d0 := hC; go_simp <;> with_reducible rfl)
          refine wpC_step 15 rfl (by kernel_rfl) (by kernel_rfl) xx0 (fun K hK => ?_)
          go_simp
          try (refine hK _ _ ?_; clear hK K)
          refine wpC_done (by kernel_rfl) (by simp [go_sem, xx0]) ?_
          go_wp2
          go_roundw
          case measure => simp [intOf]
          case rel => exact ⟨(HB3.out.setCell (Nat.le_refl _) _).drew, p, n1, n2, n3, n4, (rowset GX3.out 1 _).trans (by simp only [List.setIfInBounds_toArray, List.set_cons_zero, List.set_cons_succ]), rowset_other GR3.out (by omega), .inr (.inr (.inr (.inr (⟨rfl, rfl, rfl, rfl, rfl, rfl⟩))))⟩
        · obtain ⟨hn0, hkb, hqk⟩ := HN.out
          obtain ⟨h1, h2, h3, h4⟩ := HF.out
          have ek : k = j + few := by rw [blen_two j hn0] at h3; omega
          subst ek
          rw [Nat.mul_assoc, ← Nat.pow_add] at h4
          obtain ⟨rfl, rfl, rfl, rfl, rfl⟩ := hqk.one h4
          have zw : w.heap.size + 1 < wr.heap.size := rowlt GR3.out
          clear hn0 hkb hqk h1 h2 h3 h4
          go_wp2
          refine bodyPost_ret (v := .tuple #[w5V a' b' c' d' f', .int .i64 (j + few : Nat)]) (by simp [results, Tryz.results88, go_sem, tt0, tt1, tt2, tt3, tt4, xx1, xx2, xx3, xx4, tf, w5V]; done) rfl (hQ.out _ _ ⟨rfl, ?_⟩)
          exact cset5 ((HB.out.trans HB3.out).setCell (Nat.le_refl _) _) (by omega)
end Go.Proofs.YtheliihkkoohnabGreat
