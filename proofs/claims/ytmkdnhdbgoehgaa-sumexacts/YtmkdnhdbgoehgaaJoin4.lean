import Derived.Test.YtmkdnhdbgoehgaaJoin3
import Derived.Test.YtmkdnhdbgoehgaaJoin1
import Derived.Test.YtmkdnhdbgoehgaaJoin2
namespace Go.Proofs.Ytmkdnhdbgoehgaa
set_option maxRecDepth 100000
set_option linter.unusedVariables false
set_option linter.unusedSimpArgs false

/-! ### exact whole numbers times a power of 2, and their first 128 digits (plain mathematics) -/
theorem blen_two {N : Nat} (j : Nat) (h : N ≠ 0) : blen (N * 2 ^ j) = blen N + j := by
  have hp : 0 < 2 ^ j := Nat.pow_pos (by decide)
  have e : N * 2 ^ j / 2 ^ j = N := Nat.mul_div_cancel _ hp
  have := @blen_shift (N * 2 ^ j) j (by rw [e]; exact h)
  rw [e] at this
  exact this
theorem blen_at {N m : Nat} (h1 : 2 ^ m ≤ N) (h2 : N < 2 ^ (m + 1)) : blen N = m + 1 := by
  have a := blen_le.2 h2
  have b : ¬ blen N ≤ m := fun c => by have := blen_le.1 c; omega
  omega
/-- what the first 128 digits are, and what is lost -/
theorem norm_at {N j : Nat} (h1 : 2 ^ (127 + j) ≤ N) (h2 : N < 2 ^ (128 + j)) : blen N = 128 + j ∧ normN N = N / 2 ^ j ∧ lostN N = decide (N % 2 ^ j ≠ 0) := by
  have hb : blen N = 128 + j := by
    have := @blen_at N (127 + j) h1 (by rw [show 127 + j + 1 = 128 + j by omega]; exact h2)
    omega
  refine ⟨hb, ?_, ?_⟩
  · unfold normN; rw [hb, if_neg (by omega), show 128 + j - 128 = j by omega]
  · unfold lostN; rw [hb, show 128 + j - 128 = j by omega]
    rcases Nat.eq_zero_or_pos j with rfl | hj
    · rw [Nat.pow_zero, Nat.mod_one]; rfl
    · rw [decide_eq_true (show 128 < 128 + j by omega), Bool.true_and]
theorem norm_two {N : Nat} (j : Nat) (h : N ≠ 0) : normN (N * 2 ^ j) = normN N ∧ lostN (N * 2 ^ j) = lostN N := by
  have hb := blen_two j h
  have hp : 0 < 2 ^ j := Nat.pow_pos (by decide)
  unfold normN lostN
  rw [hb]
  by_cases h1 : blen N < 128
  · rw [if_pos h1, decide_eq_false (show ¬ 128 < blen N by omega), Bool.false_and]
    by_cases h2 : blen N + j < 128
    · rw [if_pos h2, decide_eq_false (show ¬ 128 < blen N + j by omega), Bool.false_and, Nat.mul_assoc, ← Nat.pow_add, show j + (128 - (blen N + j)) = 128 - blen N by omega]
      exact ⟨rfl, rfl⟩
    · have e : 2 ^ j = 2 ^ (128 - blen N) * 2 ^ (blen N + j - 128) := by rw [← Nat.pow_add, show 128 - blen N + (blen N + j - 128) = j by omega]
      have hq : 0 < 2 ^ (blen N + j - 128) := Nat.pow_pos (by decide)
      rw [if_neg h2, e, ← Nat.mul_assoc, Nat.mul_div_cancel _ hq, Nat.mul_mod_left]
      refine ⟨rfl, ?_⟩
      simp
  · have e : 2 ^ (blen N + j - 128) = 2 ^ (blen N - 128) * 2 ^ j := by rw [← Nat.pow_add, show blen N - 128 + j = blen N + j - 128 by omega]
    rw [if_neg h1, if_neg (by omega), e, Nat.mul_div_mul_right _ _ hp, Nat.mul_mod_mul_right]
    refine ⟨rfl, ?_⟩
    by_cases h3 : 128 < blen N
    · rw [decide_eq_true h3, decide_eq_true (show 128 < blen N + j by omega), Bool.true_and, Bool.true_and]
      generalize N % 2 ^ (blen N - 128) = x at *
      generalize 2 ^ j = y at *
      by_cases hx : x = 0
      · rw [hx, Nat.zero_mul]
      · have : x * y ≠ 0 := fun c => by rcases Nat.mul_eq_zero.1 c with c | c; exact hx c; omega
        rw [decide_eq_true this, decide_eq_true hx]
    · rw [decide_eq_false h3, Bool.false_and, show blen N - 128 = 0 by omega, Nat.pow_zero, Nat.mod_one, Nat.zero_mul]
      simp
theorem exactV_two (neg : Bool) {N : Nat} (j : Nat) (e : Int) (r : Bool) : exactV neg (N * 2 ^ j) (e - j) r = exactV neg N e r := by
  have hp : 0 < 2 ^ j := Nat.pow_pos (by decide)
  by_cases h : N = 0
  · subst h; rw [Nat.zero_mul]; unfold exactV; rw [if_pos rfl, if_pos rfl]
  · have h2 : N * 2 ^ j ≠ 0 := fun c => by rcases Nat.mul_eq_zero.1 c with c | c; exact h c; omega
    obtain ⟨a, b⟩ := norm_two j h
    unfold exactV
    rw [if_neg h, if_neg h2, a, b, blen_two j h, show e - (j : Int) + ((blen N + j : Nat) : Int) - 1 = e + (blen N : Int) - 1 by omega]
/-- the first 128 digits of a sum don't hang on a far lesser number -/
theorem far_add (neg : Bool) (s : Int) {M B d : Nat} (hM : Mant M) (hB : 1 ≤ B) (hd : B < 2 ^ d) :
    exactV neg (M * 2 ^ d + B) (s - 127 - d) false = exV 1 neg (heldX s) (M / 2 ^ 64 % 2 ^ 64) (M % 2 ^ 64) true := by
  obtain ⟨m1, m2⟩ := hM
  have hp : 0 < 2 ^ d := Nat.pow_pos (by decide)
  have l1 : 2 ^ (127 + d) ≤ M * 2 ^ d + B := by rw [Nat.pow_add]; exact Nat.le_trans (Nat.mul_le_mul_right _ m1) (Nat.le_add_right _ _)
  have l2 : M * 2 ^ d + B < 2 ^ (128 + d) := by
    rw [Nat.pow_add]
    have := Nat.mul_le_mul_right (2 ^ d) (show M + 1 ≤ 2 ^ 128 from m2)
    rw [Nat.add_mul, Nat.one_mul] at this
    omega
  obtain ⟨b, nn, ll⟩ := norm_at l1 l2
  have e1 : (M * 2 ^ d + B) / 2 ^ d = M := by rw [Nat.mul_comm, Nat.mul_add_div hp, Nat.div_eq_of_lt hd, Nat.add_zero]
  have e2 : (M * 2 ^ d + B) % 2 ^ d = B := by rw [Nat.mul_comm, Nat.mul_add_mod, Nat.mod_eq_of_lt hd]
  unfold exactV
  rw [if_neg (by omega), b, nn, ll, e1, e2, decide_eq_true (show B ≠ 0 by omega), show s - 127 - (d : Int) + ((128 + d : Nat) : Int) - 1 = s by omega]
  rfl
theorem far_sub (neg : Bool) (s : Int) {M B d : Nat} (hM : Mant M) (hB : 1 ≤ B) (hd : B < 2 ^ d) :
    exactV neg (M * 2 ^ (d + 1) - B) (s - 127 - (d + 1 : Nat)) false = if M = 2 ^ 127 then exV 1 neg (heldX (s - 1)) (2 ^ 64 - 1) (2 ^ 64 - 1) true else exV 1 neg (heldX s) ((M - 1) / 2 ^ 64 % 2 ^ 64) ((M - 1) % 2 ^ 64) true := by
  obtain ⟨m1, m2⟩ := hM
  have hp : 0 < 2 ^ d := Nat.pow_pos (by decide)
  by_cases h : M = 2 ^ 127
  · rw [if_pos h]
    have eN : M * 2 ^ (d + 1) - B = (2 ^ 128 - 1) * 2 ^ d + (2 ^ d - B) := by
      rw [h, Nat.pow_succ 2 d, Nat.sub_mul, Nat.one_mul, Nat.mul_comm (2 ^ d) 2, ← Nat.mul_assoc, ← Nat.pow_succ]
      have : 2 ^ d ≤ 2 ^ 128 * 2 ^ d := Nat.le_mul_of_pos_left _ (by decide)
      show 2 ^ 128 * 2 ^ d - B = _
      omega
    have hlt : 2 ^ d - B < 2 ^ d := by omega
    have l1 : 2 ^ (127 + d) ≤ (2 ^ 128 - 1) * 2 ^ d + (2 ^ d - B) := by
      rw [Nat.pow_add]; exact Nat.le_trans (Nat.mul_le_mul_right _ (by decide)) (Nat.le_add_right _ _)
    have l2 : (2 ^ 128 - 1) * 2 ^ d + (2 ^ d - B) < 2 ^ (128 + d) := by
      rw [Nat.pow_add, Nat.sub_mul, Nat.one_mul]
      have : 2 ^ d ≤ 2 ^ 128 * 2 ^ d := Nat.le_mul_of_pos_left _ (by decide)
      omega
    obtain ⟨b, nn, ll⟩ := norm_at l1 l2
    have e1 : ((2 ^ 128 - 1) * 2 ^ d + (2 ^ d - B)) / 2 ^ d = 2 ^ 128 - 1 := by rw [Nat.mul_comm, Nat.mul_add_div hp, Nat.div_eq_of_lt hlt, Nat.add_zero]
    have e2 : ((2 ^ 128 - 1) * 2 ^ d + (2 ^ d - B)) % 2 ^ d = 2 ^ d - B := by rw [Nat.mul_comm, Nat.mul_add_mod, Nat.mod_eq_of_lt hlt]
    rw [eN]
    have h0 : ¬ ((2 ^ 128 - 1) * 2 ^ d + (2 ^ d - B) = 0) := by
      have := Nat.pow_pos (n := 127 + d) (show 0 < 2 by decide); omega
    unfold exactV
    rw [if_neg h0, b, nn, ll, e1, e2, decide_eq_true (show 2 ^ d - B ≠ 0 by omega), show s - 127 - ((d + 1 : Nat) : Int) + ((128 + d : Nat) : Int) - 1 = s - 1 by omega]
    rfl
  · rw [if_neg h]
    have hd2 : 2 ^ d ≤ 2 ^ (d + 1) := Nat.pow_le_pow_right (by decide) (by omega)
    have hp2 : 0 < 2 ^ (d + 1) := Nat.pow_pos (by decide)
    obtain ⟨m, rfl⟩ : ∃ m, M = m + 1 := ⟨M - 1, by have := Nat.pow_pos (n := 127) (show 0 < 2 by decide); omega⟩
    rw [Nat.add_sub_cancel]
    have hm1 : 2 ^ 127 ≤ m := by omega
    have hm2 : m + 1 ≤ 2 ^ 128 := by omega
    generalize hD : d + 1 = D at *
    have eN : (m + 1) * 2 ^ D - B = m * 2 ^ D + (2 ^ D - B) := by rw [Nat.add_mul, Nat.one_mul]; omega
    have hlt : 2 ^ D - B < 2 ^ D := by omega
    have l1 : 2 ^ (127 + D) ≤ m * 2 ^ D + (2 ^ D - B) := by
      rw [Nat.pow_add]; exact Nat.le_trans (Nat.mul_le_mul_right _ hm1) (Nat.le_add_right _ _)
    have l2 : m * 2 ^ D + (2 ^ D - B) < 2 ^ (128 + D) := by
      rw [Nat.pow_add]
      have := Nat.mul_le_mul_right (2 ^ D) hm2
      rw [Nat.add_mul, Nat.one_mul] at this
      omega
    obtain ⟨b, nn, ll⟩ := norm_at l1 l2
    have e1 : (m * 2 ^ D + (2 ^ D - B)) / 2 ^ D = m := by rw [Nat.mul_comm, Nat.mul_add_div hp2, Nat.div_eq_of_lt hlt, Nat.add_zero]
    have e2 : (m * 2 ^ D + (2 ^ D - B)) % 2 ^ D = 2 ^ D - B := by rw [Nat.mul_comm, Nat.mul_add_mod, Nat.mod_eq_of_lt hlt]
    rw [eN]
    have h0 : ¬ (m * 2 ^ D + (2 ^ D - B) = 0) := by
      have := Nat.pow_pos (n := 127 + D) (show 0 < 2 by decide); omega
    unfold exactV
    rw [if_neg h0, b, nn, ll, e1, e2, decide_eq_true (show 2 ^ D - B ≠ 0 by omega), show s - 127 - (D : Int) + ((128 + D : Nat) : Int) - 1 = s by omega]
    rfl
end Go.Proofs.Ytmkdnhdbgoehgaa

namespace Go.Proofs.Ytmkdnhdbgoehgaa
open Go.ChangeShapes Go.WideShapes Go.ChangeAt Go.RowKit
set_option linter.unusedVariables false
set_option linter.unusedSimpArgs false
set_option maxRecDepth 100000

/-! ### a number shifted up till its highest bit is 1 -/
theorem row4_other {w : World} {m g : Nat} {c : Array Value} {v0 v1 v2 v3 : Value} {t : TypeId} (h : w.heap[m]? = some (.cells c t (0, 0))) (hne : m ≠ g) :
    ((((w.setCell ⟨g, 0, none⟩ v0).setCell ⟨g, 1, none⟩ v1).setCell ⟨g, 2, none⟩ v2).setCell ⟨g, 3, none⟩ v3).heap[m]? = some (.cells c t (0, 0)) := by
  rw [heap_setCell_other _ _ m _ hne, heap_setCell_other _ _ m _ hne, heap_setCell_other _ _ m _ hne, heap_setCell_other _ _ m _ hne]
  exact h
set_option maxHeartbeats 8000000 in
theorem srisen_any {n a b c d a' b' c' d' k : Nat} (h : Qw n a b c d) (hn : n ≠ 0) (hk : k + blen n = 256) (h' : Qw (n * 2 ^ k) a' b' c' d') (w : World) :
    Calls Try.prog 31 #[wdV a b c d] w fun e w' => e = .returned (.tuple #[wdV a' b' c' d', .int .i64 k]) ∧ Below w.heap.size w w' := by
  unfold wdV
  have HN : Hid (n ≠ 0 ∧ k + blen n = 256 ∧ Qw (n * 2 ^ k) a' b' c' d') := ⟨hn, hk, h'⟩
  have HW : Hid (Qw n a b c d) := h
  have v0 : IntKind.i64.wrap 0 = 0 := rfl
  have v1 : IntKind.i64.wrap 1 = 1 := rfl
  have v2 : IntKind.i64.wrap 2 = 2 := rfl
  have v3 : IntKind.i64.wrap 3 = 3 := rfl
  clear h hn hk h'
  refine cps fun Q hQ => ?_
  go_enter Try.func31, Try.ntmps31
  go_wp2
  go_loopw [4] (fun kv wr => Hid (Below w.heap.size w wr) ∧ wr.heap[w.heap.size + 1]? = some (.cells #[.int .u64 0, .int .u64 0, .int .u64 0, .int .u64 0] 59 (0, 0)) ∧
    ∃ p q r s j : Nat, wr.heap[w.heap.size]? = some (.cells #[.int .u64 p, .int .u64 q, .int .u64 r, .int .u64 s] 59 (0, 0)) ∧ kv = .int .i64 j ∧ j ≤ 255 ∧ Hid (Qw (n * 2 ^ j) p q r s)) (fun kv _ => (256 - intOf kv).toNat)
  case atStart => exact ⟨cmore (cmore (Below.refl _ _) _) _, rownew' _ _ _ _ (by simp), a, b, c, d, 0, (Below.heap_alloc _ _ _ (by first | (simp; done) | (simp; omega))).trans (rownew' _ _ _ _ (by simp)), rfl, Nat.zero_le _, by rw [Nat.pow_zero, Nat.mul_one]; exact HW.out⟩
  case round =>
    obtain ⟨hB, hR, p, q, r, s, j, hX, rfl, hj, hq⟩ := hrel
    have HB : Hid (Below w.heap.size w wr) := hB.out
    have xx0 := rowcell hX 0
    have xx1 := rowcell hX 1
    have xx2 := rowcell hX 2
    have xx3 := rowcell hX 3
    have xf := rowfree hX
    have tt0 := rowcell hR 0
    have tt1 := rowcell hR 1
    have tt2 := rowcell hR 2
    have tt3 := rowcell hR 3
    have tf := rowfree hR
    simp only [List.getElem?_toArray, List.getElem?_cons_zero, List.getElem?_cons_succ] at xx0 xx1 xx2 xx3 tt0 tt1 tt2 tt3
    have GX : Hid _ := hX
    have GR : Hid _ := hR
    clear hX hR hB
    by_cases h0 : s = 0
    · subst h0
      have hj2 : j ≤ 191 := by
        obtain ⟨e, a0, a1, a2, a3⟩ := hq.out
        have h1 : n * 2 ^ j < 2 ^ 192 := by rw [show (2 : Nat) ^ 192 = 6277101735386680763835789423207666416102355444464034512896 by decide]; omega
        have h2 : 2 ^ j ≤ n * 2 ^ j := Nat.le_mul_of_pos_left _ (Nat.pos_of_ne_zero HN.out.1)
        have h3 : j < 192 := (Nat.pow_lt_pow_iff_right (by decide : 1 < 2)).1 (Nat.lt_of_le_of_lt h2 h1)
        omega
      have hnew : Qw (n * 2 ^ (j + 64)) 0 p q r := by
        obtain ⟨e, a0, a1, a2, a3⟩ := hq.out
        refine ⟨?_, by omega, by omega, by omega, by omega⟩
        rw [Nat.pow_add, ← Nat.mul_assoc, e, show (2 : Nat) ^ 64 = 18446744073709551616 by decide]
        omega
      have HNew : Hid (Qw (n * 2 ^ (j + 64)) 0 p q r) := hnew
      clear hnew
      go_wp2
      go_roundw
      case measure => simp [intOf]; omega
      case rel => exact ⟨cset4 HB.out (Nat.le_refl _), row4_other GR.out (by omega), 0, p, q, r, j + 64, row4 GX.out, by go_num, by omega, HNew.out⟩
    · obtain ⟨few, G, A0, A1, A2, A3, B1, B2, B3, n0, n1, n2, n3, f1, f2, f3, f4, f5, e0, e1, e2, e3, g1, g2, g3, o1, o2, o3⟩ := risen_facts hq.out h0
      have hs0 : ((s : Int) == 0) = false := beq_eq_false_iff_ne.2 (by omega)
      have k1 := mlz_any s hq.out.h3
      rw [f3] at k1
      have fG : IntKind.i64.wrap (64 - (few : Int)) = (G : Int) := by rw [wrapI (by omega)]; omega
      have mf : min few 64 = few := by omega
      have mg : min G 64 = G := by omega
      rw [← mf] at e0 e1 e2 e3
      rw [← mg] at g1 g2 g3
      clear mf mg
      have fg0 : (0 : Int) ≤ (few : Int) := Int.natCast_nonneg _
      have fg1 : (0 : Int) ≤ (G : Int) := Int.natCast_nonneg _
      have HF : Hid (few + G = 64 ∧ few ≤ 63 ∧ blen (n * 2 ^ j) + few = 256 ∧ Qw (n * 2 ^ j * 2 ^ few) n0 n1 n2 n3) := ⟨f1, f2, f4, f5⟩
      have hsum : IntKind.i64.wrap ((j : Int) + (few : Int)) = ((j + few : Nat) : Int) := by rw [wrapI (by omega)]; omega
      clear f1 f2 f3 f4 f5 h0
      go_wp2_with (go_at_call 52; go_must (refine (k1 _).mono ?_); rintro e w' ⟨rfl, hw'⟩; rw [hw']; clear hw' w')
      obtain ⟨wo, hwo⟩ : ∃ wo : World, wo = wr := ⟨_, rfl⟩
      rw [← hwo] at HB GR
      have hB2 : Hid (Below w.heap.size wo wr) := by show Below _ _ _; rw [hwo]; exact Below.refl _ _
      have hR2 : Hid (wr.heap[w.heap.size + 1]? = some (.cells #[.int .u64 0, .int .u64 0, .int .u64 0, .int .u64 0] 59 (0, 0))) := by show _ = _; rw [← hwo]; exact GR.out
      have hX2 := GX.out
      have HJ : Hid (Qw (n * 2 ^ j) p q r s) := hq.out
      have zo : w.heap.size < wo.heap.size := by have := rowlt GR.out; omega
      clear GX xx0 xx1 xx2 xx3 tt0 tt1 tt2 tt3 xf tf hq hwo
      go_loopw [6] (fun iv wr => Hid (Below w.heap.size wo wr) ∧ ∃ y0 y1 y2 y3 : Nat, wr.heap[w.heap.size]? = some (.cells #[.int .u64 y0, .int .u64 y1, .int .u64 y2, .int .u64 y3] 59 (0, 0)) ∧ wr.heap[w.heap.size + 1]? = some (.cells #[.int .u64 0, .int .u64 0, .int .u64 0, .int .u64 0] 59 (0, 0)) ∧ ((iv = .int .i64 3 ∧ p = y0 ∧ q = y1 ∧ r = y2 ∧ s = y3) ∨ (iv = .int .i64 2 ∧ p = y0 ∧ q = y1 ∧ r = y2 ∧ n3 = y3) ∨ (iv = .int .i64 1 ∧ p = y0 ∧ q = y1 ∧ n2 = y2 ∧ n3 = y3) ∨ (iv = .int .i64 0 ∧ p = y0 ∧ n1 = y1 ∧ n2 = y2 ∧ n3 = y3))) (fun iv _ => (intOf iv).toNat)
      case atStart => exact ⟨hB2.out, p, q, r, s, hX2, hR2.out, .inl ⟨rfl, rfl, rfl, rfl, rfl⟩⟩
      case round =>
        obtain ⟨hB3, y0, y1, y2, y3, hX3, hR3, hrel⟩ := hrel
        have HB3 : Hid (Below w.heap.size wo wr) := hB3.out
        have xx0 := rowcell hX3 0
        have xx1 := rowcell hX3 1
        have xx2 := rowcell hX3 2
        have xx3 := rowcell hX3 3
        have tt0 := rowcell hR3 0
        have tt1 := rowcell hR3 1
        have tt2 := rowcell hR3 2
        have tt3 := rowcell hR3 3
        have xf := rowfree hX3
        have tf := rowfree hR3
        simp only [List.getElem?_toArray, List.getElem?_cons_zero, List.getElem?_cons_succ] at xx0 xx1 xx2 xx3 tt0 tt1 tt2 tt3
        have GX3 : Hid _ := hX3
        have GR3 : Hid _ := hR3
        clear hX3 hR3 hB3 hX2
        rcases hrel with ⟨rfl, rfl, rfl, rfl, rfl⟩ | ⟨rfl, rfl, rfl, rfl, rfl⟩ | ⟨rfl, rfl, rfl, rfl, rfl⟩ | ⟨rfl, rfl, rfl, rfl, rfl⟩
        · go_wp2
          refine wpC_region (fun W => W.cell? ⟨w.heap.size, 2, none⟩ = some (.int .u64 r)) (by kernel_rfl) ?_
          refine wpC_take 0 (v := ?_) rfl (by kernel_rfl) (fun _ _ _ h => h) (by kernel_rfl) ?_ ?_; rotate_left; · (intro wC hC; obtain d0 := hC; go_simp <;> with_reducible rfl)
          refine wpC_take 1 (v := ?_) rfl (by kernel_rfl) (fun _ _ _ h => h) (by kernel_rfl) ?_ ?_; rotate_left; · (intro wC hC; obtain d0 := hC; go_simp <;> with_reducible rfl)
          refine wpC_take 2 (v := ?_) rfl (by kernel_rfl) (fun _ _ _ h => h) (by kernel_rfl) ?_ ?_; rotate_left; · (intro wC hC; obtain d0 := hC; go_simp <;> with_reducible rfl)
          refine wpC_take 4 (v := ?_) rfl (by kernel_rfl) (fun _ _ _ h => h) (by kernel_rfl) ?_ ?_; rotate_left; · (intro wC hC; obtain d0 := hC; go_simp <;> with_reducible rfl)
          refine wpC_take 6 (v := ?_) rfl (by kernel_rfl) (fun _ _ _ h => h) (by kernel_rfl) ?_ ?_; rotate_left; · (intro wC hC; obtain d0 := hC; go_simp <;> with_reducible rfl)
          refine wpC_take 7 (v := ?_) rfl (by kernel_rfl) (fun _ _ _ h => h) (by kernel_rfl) ?_ ?_; rotate_left; · (intro wC hC; obtain d0 := hC; go_simp <;> with_reducible rfl)
          refine wpC_take 8 (v := ?_) rfl (by kernel_rfl) (fun _ _ _ h => h) (by kernel_rfl) ?_ ?_; rotate_left; · (intro wC hC; obtain d0 := hC; go_simp <;> with_reducible rfl)
          refine wpC_take 9 (v := ?_) rfl (by kernel_rfl) (fun _ _ _ h => h) (by kernel_rfl) ?_ ?_; rotate_left; · (intro wC hC; obtain d0 := hC; go_simp <;> with_reducible rfl)
          refine wpC_take 10 (v := ?_) rfl (by kernel_rfl) (fun _ _ _ h => h) (by kernel_rfl) ?_ ?_; rotate_left; · (intro wC hC; obtain d0 := hC; go_simp <;> with_reducible rfl)
          refine wpC_take 11 (v := ?_) rfl (by kernel_rfl) (fun _ _ _ h => h) (by kernel_rfl) ?_ ?_; rotate_left; · (intro wC hC; obtain d0 := hC; go_simp <;> with_reducible rfl)
          refine wpC_take 12 (v := ?_) rfl (by kernel_rfl) (fun _ _ _ h => h) (by kernel_rfl) ?_ ?_; rotate_left; · (intro wC hC; obtain d0 := hC; go_simp <;> with_reducible rfl)
          refine wpC_step 3 rfl (by kernel_rfl) (by kernel_rfl) xx2 (fun K hK => ?_)
          go_simp
          try (refine hK _ _ ?_; clear hK K)
          refine wpC_take 5 (v := ?_) rfl (by kernel_rfl) (fun _ _ _ h => h) (by kernel_rfl) ?_ ?_; rotate_left; · (intro wC hC; obtain d0 := hC; go_simp <;> with_reducible rfl)
          refine wpC_take 13 (v := ?_) rfl (by kernel_rfl) (fun _ _ _ h => h) (by kernel_rfl) ?_ ?_; rotate_left; · (intro wC hC; obtain d0 := hC; go_simp <;> with_reducible rfl)
          refine wpC_take 14 (v := ?_) rfl (by kernel_rfl) (fun _ _ _ h => h) (by kernel_rfl) ?_ ?_; rotate_left; · (intro wC hC; obtain d0 := hC; go_simp <;> with_reducible rfl)
          refine wpC_step 15 rfl (by kernel_rfl) (by kernel_rfl) xx2 (fun K hK => ?_)
          go_simp
          try (refine hK _ _ ?_; clear hK K)
          refine wpC_done (by kernel_rfl) (by simp [go_sem, xx2]) ?_
          go_wp2
          go_roundw
          case measure => simp [intOf]
          case rel => exact ⟨(HB3.out.setCell (Nat.le_refl _) _).drew, p, q, r, n3, (rowset GX3.out 3 _).trans (by simp only [List.setIfInBounds_toArray, List.set_cons_zero, List.set_cons_succ]), rowset_other GR3.out (by omega), .inr (.inl ⟨rfl, rfl, rfl, rfl, rfl⟩)⟩
        · go_wp2
          refine wpC_region (fun W => W.cell? ⟨w.heap.size, 1, none⟩ = some (.int .u64 q)) (by kernel_rfl) ?_
          refine wpC_take 0 (v := ?_) rfl (by kernel_rfl) (fun _ _ _ h => h) (by kernel_rfl) ?_ ?_; rotate_left; · (intro wC hC; obtain d0 := hC; go_simp <;> with_reducible rfl)
          refine wpC_take 1 (v := ?_) rfl (by kernel_rfl) (fun _ _ _ h => h) (by kernel_rfl) ?_ ?_; rotate_left; · (intro wC hC; obtain d0 := hC; go_simp <;> with_reducible rfl)
          refine wpC_take 2 (v := ?_) rfl (by kernel_rfl) (fun _ _ _ h => h) (by kernel_rfl) ?_ ?_; rotate_left; · (intro wC hC; obtain d0 := hC; go_simp <;> with_reducible rfl)
          refine wpC_take 4 (v := ?_) rfl (by kernel_rfl) (fun _ _ _ h => h) (by kernel_rfl) ?_ ?_; rotate_left; · (intro wC hC; obtain d0 := hC; go_simp <;> with_reducible rfl)
          refine wpC_take 6 (v := ?_) rfl (by kernel_rfl) (fun _ _ _ h => h) (by kernel_rfl) ?_ ?_; rotate_left; · (intro wC hC; obtain d0 := hC; go_simp <;> with_reducible rfl)
          refine wpC_take 7 (v := ?_) rfl (by kernel_rfl) (fun _ _ _ h => h) (by kernel_rfl) ?_ ?_; rotate_left; · (intro wC hC; obtain d0 := hC; go_simp <;> with_reducible rfl)
          refine wpC_take 8 (v := ?_) rfl (by kernel_rfl) (fun _ _ _ h => h) (by kernel_rfl) ?_ ?_; rotate_left; · (intro wC hC; obtain d0 := hC; go_simp <;> with_reducible rfl)
          refine wpC_take 9 (v := ?_) rfl (by kernel_rfl) (fun _ _ _ h => h) (by kernel_rfl) ?_ ?_; rotate_left; · (intro wC hC; obtain d0 := hC; go_simp <;> with_reducible rfl)
          refine wpC_take 10 (v := ?_) rfl (by kernel_rfl) (fun _ _ _ h => h) (by kernel_rfl) ?_ ?_; rotate_left; · (intro wC hC; obtain d0 := hC; go_simp <;> with_reducible rfl)
          refine wpC_take 11 (v := ?_) rfl (by kernel_rfl) (fun _ _ _ h => h) (by kernel_rfl) ?_ ?_; rotate_left; · (intro wC hC; obtain d0 := hC; go_simp <;> with_reducible rfl)
          refine wpC_take 12 (v := ?_) rfl (by kernel_rfl) (fun _ _ _ h => h) (by kernel_rfl) ?_ ?_; rotate_left; · (intro wC hC; obtain d0 := hC; go_simp <;> with_reducible rfl)
          refine wpC_step 3 rfl (by kernel_rfl) (by kernel_rfl) xx1 (fun K hK => ?_)
          go_simp
          try (refine hK _ _ ?_; clear hK K)
          refine wpC_take 5 (v := ?_) rfl (by kernel_rfl) (fun _ _ _ h => h) (by kernel_rfl) ?_ ?_; rotate_left; · (intro wC hC; obtain d0 := hC; go_simp <;> with_reducible rfl)
          refine wpC_take 13 (v := ?_) rfl (by kernel_rfl) (fun _ _ _ h => h) (by kernel_rfl) ?_ ?_; rotate_left; · (intro wC hC; obtain d0 := hC; go_simp <;> with_reducible rfl)
          refine wpC_take 14 (v := ?_) rfl (by kernel_rfl) (fun _ _ _ h => h) (by kernel_rfl) ?_ ?_; rotate_left; · (intro wC hC; obtain d0 := hC; go_simp <;> with_reducible rfl)
          refine wpC_step 15 rfl (by kernel_rfl) (by kernel_rfl) xx1 (fun K hK => ?_)
          go_simp
          try (refine hK _ _ ?_; clear hK K)
          refine wpC_done (by kernel_rfl) (by simp [go_sem, xx1]) ?_
          go_wp2
          go_roundw
          case measure => simp [intOf]
          case rel => exact ⟨(HB3.out.setCell (Nat.le_refl _) _).drew, p, q, n2, n3, (rowset GX3.out 2 _).trans (by simp only [List.setIfInBounds_toArray, List.set_cons_zero, List.set_cons_succ]), rowset_other GR3.out (by omega), .inr (.inr (.inl ⟨rfl, rfl, rfl, rfl, rfl⟩))⟩
        · go_wp2
          refine wpC_region (fun W => W.cell? ⟨w.heap.size, 0, none⟩ = some (.int .u64 p)) (by kernel_rfl) ?_
          refine wpC_take 0 (v := ?_) rfl (by kernel_rfl) (fun _ _ _ h => h) (by kernel_rfl) ?_ ?_; rotate_left; · (intro wC hC; obtain d0 := hC; go_simp <;> with_reducible rfl)
          refine wpC_take 1 (v := ?_) rfl (by kernel_rfl) (fun _ _ _ h => h) (by kernel_rfl) ?_ ?_; rotate_left; · (intro wC hC; obtain d0 := hC; go_simp <;> with_reducible rfl)
          refine wpC_take 2 (v := ?_) rfl (by kernel_rfl) (fun _ _ _ h => h) (by kernel_rfl) ?_ ?_; rotate_left; · (intro wC hC; obtain d0 := hC; go_simp <;> with_reducible rfl)
          refine wpC_take 4 (v := ?_) rfl (by kernel_rfl) (fun _ _ _ h => h) (by kernel_rfl) ?_ ?_; rotate_left; · (intro wC hC; obtain d0 := hC; go_simp <;> with_reducible rfl)
          refine wpC_take 6 (v := ?_) rfl (by kernel_rfl) (fun _ _ _ h => h) (by kernel_rfl) ?_ ?_; rotate_left; · (intro wC hC; obtain d0 := hC; go_simp <;> with_reducible rfl)
          refine wpC_take 7 (v := ?_) rfl (by kernel_rfl) (fun _ _ _ h => h) (by kernel_rfl) ?_ ?_; rotate_left; · (intro wC hC; obtain d0 := hC; go_simp <;> with_reducible rfl)
          refine wpC_take 8 (v := ?_) rfl (by kernel_rfl) (fun _ _ _ h => h) (by kernel_rfl) ?_ ?_; rotate_left; · (intro wC hC; obtain d0 := hC; go_simp <;> with_reducible rfl)
          refine wpC_take 9 (v := ?_) rfl (by kernel_rfl) (fun _ _ _ h => h) (by kernel_rfl) ?_ ?_; rotate_left; · (intro wC hC; obtain d0 := hC; go_simp <;> with_reducible rfl)
          refine wpC_take 10 (v := ?_) rfl (by kernel_rfl) (fun _ _ _ h => h) (by kernel_rfl) ?_ ?_; rotate_left; · (intro wC hC; obtain d0 := hC; go_simp <;> with_reducible rfl)
          refine wpC_take 11 (v := ?_) rfl (by kernel_rfl) (fun _ _ _ h => h) (by kernel_rfl) ?_ ?_; rotate_left; · (intro wC hC; obtain d0 := hC; go_simp <;> with_reducible rfl)
          refine wpC_take 12 (v := ?_) rfl (by kernel_rfl) (fun _ _ _ h => h) (by kernel_rfl) ?_ ?_; rotate_left; · (intro wC hC; obtain d0 := hC; go_simp <;> with_reducible rfl)
          refine wpC_step 3 rfl (by kernel_rfl) (by kernel_rfl) xx0 (fun K hK => ?_)
          go_simp
          try (refine hK _ _ ?_; clear hK K)
          refine wpC_take 5 (v := ?_) rfl (by kernel_rfl) (fun _ _ _ h => h) (by kernel_rfl) ?_ ?_; rotate_left; · (intro wC hC; obtain d0 := hC; go_simp <;> with_reducible rfl)
          refine wpC_take 13 (v := ?_) rfl (by kernel_rfl) (fun _ _ _ h => h) (by kernel_rfl) ?_ ?_; rotate_left; · (intro wC hC; obtain d0 := hC; go_simp <;> with_reducible rfl)
          refine wpC_take 14 (v := ?_) rfl (by kernel_rfl) (fun _ _ _ h => h) (by kernel_rfl) ?_ ?_; rotate_left; · (intro wC hC; obtain d0 := hC; go_simp <;> with_reducible rfl)
          refine wpC_step 15 rfl (by kernel_rfl) (by kernel_rfl) xx0 (fun K hK => ?_)
          go_simp
          try (refine hK _ _ ?_; clear hK K)
          refine wpC_done (by kernel_rfl) (by simp [go_sem, xx0]) ?_
          go_wp2
          go_roundw
          case measure => simp [intOf]
          case rel => exact ⟨(HB3.out.setCell (Nat.le_refl _) _).drew, p, n1, n2, n3, (rowset GX3.out 1 _).trans (by simp only [List.setIfInBounds_toArray, List.set_cons_zero, List.set_cons_succ]), rowset_other GR3.out (by omega), .inr (.inr (.inr (⟨rfl, rfl, rfl, rfl, rfl⟩)))⟩
        · obtain ⟨hn0, hkb, hqk⟩ := HN.out
          obtain ⟨h1, h2, h3, h4⟩ := HF.out
          have ek : k = j + few := by rw [blen_two j hn0] at h3; omega
          subst ek
          rw [Nat.mul_assoc, ← Nat.pow_add] at h4
          obtain ⟨rfl, rfl, rfl, rfl⟩ := hqk.one h4
          have zw : w.heap.size + 1 < wr.heap.size := rowlt GR3.out
          clear hn0 hkb hqk h1 h2 h3 h4
          go_wp2
          refine bodyPost_ret (v := .tuple #[wdV a' b' c' d', .int .i64 (j + few : Nat)]) (by simp [results, Try.results31, go_sem, tt0, tt1, tt2, tt3, xx1, xx2, xx3, tf, wdV]; done) rfl (hQ.out _ _ ⟨rfl, ?_⟩)
          exact cset4 ((HB.out.trans HB3.out).setCell (Nat.le_refl _) _) (by omega)
end Go.Proofs.Ytmkdnhdbgoehgaa

namespace Go.Proofs.Ytmkdnhdbgoehgaa
open Go.ChangeShapes Go.WideShapes Go.ChangeAt Go.RowKit
set_option linter.unusedVariables false
set_option linter.unusedSimpArgs false
set_option maxRecDepth 100000

/-! ### two arrays of four words, compared -/
theorem run_equalIn_arr4 {P : Program} (w : World) (d : Nat) (t e : TypeId) (a0 a1 a2 a3 b0 b1 b2 b3 : Int) (ht : P.underlying t = some (.array 4 e)) (he : P.underlying e = some (.int .u64)) (hz : ∀ w, (sizeOf e).run P w = .ok 1 w) :
    (Op.equalIn (d + 2) t (.agg #[.int .u64 a0, .int .u64 a1, .int .u64 a2, .int .u64 a3]) (.agg #[.int .u64 b0, .int .u64 b1, .int .u64 b2, .int .u64 b3])).run P w = .ok (decide (a0 = b0) && decide (a1 = b1) && decide (a2 = b2) && decide (a3 = b3)) w := by
  have hk := fun w a b => run_equalIn_int (P := P) w d e .u64 .u64 a b he
  have hg : ∀ w, (isAgg e).run P w = .ok false w := fun w => by simp [isAgg, run_underlying he]
  rw [Op.equalIn]
  simp [Sem.run_bind, run_underlying ht, List.range', go_sem, hk, hz, hg]
  by_cases h0 : a0 = b0 <;> by_cases h1 : a1 = b1 <;> by_cases h2 : a2 = b2 <;> by_cases h3 : a3 = b3 <;> simp [h0, h1, h2, h3]
theorem eql_words (p0 p1 p2 p3 : Int) (w : World) :
    (Op.equalIn 10000 59 (.agg #[.int .u64 p0, .int .u64 p1, .int .u64 p2, .int .u64 p3]) (.agg #[.int .u64 0, .int .u64 0, .int .u64 0, .int .u64 0])).run Try.prog w = .ok (decide (p0 = 0) && decide (p1 = 0) && decide (p2 = 0) && decide (p3 = 0)) w :=
  run_equalIn_arr4 w 9998 _ 22 p0 p1 p2 p3 0 0 0 0 Try.underlying59 Try.underlying22 (fun w => by simp [go_sem, sizeOf]; rfl)
/-! ### package sum: placed, plus, minus of numbers; two reals -/
theorem splaced_any {f k a b c d : Nat} (hf : f ≤ 18446744073709551615) (hk : k ≤ 191) (h : Qw (f * 2 ^ k) a b c d) (w : World) :
    Calls Try.prog 28 #[.int .u64 f, .int .i64 k] w fun e w' => e = .returned (wdV a b c d) ∧ Below w.heap.size w w' := by
  obtain ⟨q, r, hr, hq, e⟩ : ∃ q r, r ≤ 63 ∧ q ≤ 2 ∧ k = 64 * q + r := ⟨k / 64, k % 64, by omega, by omega, by omega⟩
  have hlt : f * 2 ^ r < 340282366920938463463374607431768211456 := by
    have a1 : 2 ^ r ≤ 2 ^ 63 := Nat.pow_le_pow_right (by decide) hr
    have a2 : f * 2 ^ r ≤ 18446744073709551615 * 2 ^ 63 := Nat.mul_le_mul hf a1
    omega
  have hv : f * 2 ^ k = f * 2 ^ r * 2 ^ (64 * q) := by rw [e, Nat.mul_assoc, ← Nat.pow_add, Nat.add_comm]
  obtain ⟨h1, l1, t⟩ : ∃ h l, Tw (f * 2 ^ r) h l := ⟨f * 2 ^ r / 18446744073709551616, f * 2 ^ r % 18446744073709551616, by omega, by omega, by omega⟩
  have ht := t
  obtain ⟨te, th, tl⟩ := t
  rw [hv, te] at h
  have hc : q = 0 ∨ q = 1 ∨ q = 2 := by omega
  rcases hc with rfl | rfl | rfl
  · obtain ⟨rfl, rfl, rfl, rfl⟩ := h.one (show Qw _ l1 h1 0 0 from ⟨by omega, by omega, by omega, by omega, by omega⟩)
    exact splaced_at f k 0 r _ _ _ _ _ _ hr e ht hf (.inl ⟨rfl, rfl, rfl, rfl, rfl⟩) w
  · obtain ⟨rfl, rfl, rfl, rfl⟩ := h.one (show Qw _ 0 l1 h1 0 from ⟨by rw [show 64 * 1 = 64 from rfl, show (2 : Nat) ^ 64 = 18446744073709551616 by decide]; omega, by omega, by omega, by omega, by omega⟩)
    exact splaced_at f k 1 r _ _ _ _ _ _ hr e ht hf (.inr (.inl ⟨rfl, rfl, rfl, rfl, rfl⟩)) w
  · obtain ⟨rfl, rfl, rfl, rfl⟩ := h.one (show Qw _ 0 0 l1 h1 from ⟨by rw [show 64 * 2 = 128 from rfl, show (2 : Nat) ^ 128 = 340282366920938463463374607431768211456 by decide]; omega, by omega, by omega, by omega, by omega⟩)
    exact splaced_at f k 2 r _ _ _ _ _ _ hr e ht hf (.inr (.inr ⟨rfl, rfl, rfl, rfl, rfl⟩)) w
theorem splus_any {A B x0 x1 x2 x3 y0 y1 y2 y3 s0 s1 s2 s3 : Nat} (ha : Qw A x0 x1 x2 x3) (hb : Qw B y0 y1 y2 y3) (hs : Qw (A + B) s0 s1 s2 s3) (w : World) :
    Calls Try.prog 29 #[wdV x0 x1 x2 x3, wdV y0 y1 y2 y3] w fun e w' => e = .returned (wdV s0 s1 s2 s3) ∧ Below w.heap.size w w' := by
  obtain ⟨ea, a0, a1, a2, a3⟩ := ha
  obtain ⟨eb, b0, b1, b2, b3⟩ := hb
  obtain ⟨c1, e1⟩ : ∃ c, c = (x0 + y0 + 0) / 18446744073709551616 := ⟨_, rfl⟩
  obtain ⟨c2, e2⟩ : ∃ c, c = (x1 + y1 + c1) / 18446744073709551616 := ⟨_, rfl⟩
  obtain ⟨c3, e3⟩ : ∃ c, c = (x2 + y2 + c2) / 18446744073709551616 := ⟨_, rfl⟩
  obtain ⟨c4, e4⟩ : ∃ c, c = (x3 + y3 + c3) / 18446744073709551616 := ⟨_, rfl⟩
  have q1 : Qw (A + B) ((x0 + y0 + 0) % 18446744073709551616) ((x1 + y1 + c1) % 18446744073709551616) ((x2 + y2 + c2) % 18446744073709551616) ((x3 + y3 + c3) % 18446744073709551616) := by
    have := hs.lt
    refine ⟨by omega, by omega, by omega, by omega, by omega⟩
  obtain ⟨rfl, rfl, rfl, rfl⟩ := hs.one q1
  have r0 := run_add64_at x0 y0 0 (by omega)
  have r1 := run_add64_at x1 y1 c1 (by omega)
  have r2 := run_add64_at x2 y2 c2 (by omega)
  have r3 := run_add64_at x3 y3 c3 (by omega)
  rw [← e1] at r0
  rw [← e2] at r1
  rw [← e3] at r2
  rw [← e4] at r3
  exact splus_walk x0 x1 x2 x3 y0 y1 y2 y3 _ _ _ _ c1 c2 c3 c4 r0 r1 r2 r3 w
theorem sminus_any {A B x0 x1 x2 x3 y0 y1 y2 y3 s0 s1 s2 s3 : Nat} (ha : Qw A x0 x1 x2 x3) (hb : Qw B y0 y1 y2 y3) (hle : B ≤ A) (hs : Qw (A - B) s0 s1 s2 s3) (w : World) :
    Calls Try.prog 30 #[wdV x0 x1 x2 x3, wdV y0 y1 y2 y3] w fun e w' => e = .returned (wdV s0 s1 s2 s3) ∧ Below w.heap.size w w' := by
  obtain ⟨ea, a0, a1, a2, a3⟩ := ha
  obtain ⟨eb, b0, b1, b2, b3⟩ := hb
  have one : ∀ x y c : Nat, x ≤ 18446744073709551615 → y ≤ 18446744073709551615 → c ≤ 1 → ∃ s d : Nat, s = (x + 18446744073709551616 - y - c) % 18446744073709551616 ∧ d = (if x < y + c then 1 else 0) ∧ d ≤ 1 ∧ s ≤ 18446744073709551615 ∧ x + d * 18446744073709551616 = s + y + c := by
    intro x y c hx hy hc
    refine ⟨_, _, rfl, rfl, ?_, by omega, ?_⟩
    · split <;> omega
    · split <;> omega
  obtain ⟨t0, d1, e0, f0, l1, m0, u0⟩ := one x0 y0 0 a0 b0 (by omega)
  obtain ⟨t1, d2, e1, f1, l2, m1, u1⟩ := one x1 y1 d1 a1 b1 l1
  obtain ⟨t2, d3, e2, f2, l3, m2, u2⟩ := one x2 y2 d2 a2 b2 l2
  obtain ⟨t3, d4, e3, f3, l4, m3, u3⟩ := one x3 y3 d3 a3 b3 l3
  have r0 := run_sub64_at x0 y0 0 (by omega)
  have r1 := run_sub64_at x1 y1 d1 l1
  have r2 := run_sub64_at x2 y2 d2 l2
  have r3 := run_sub64_at x3 y3 d3 l3
  rw [← e0, ← f0] at r0
  rw [← e1, ← f1] at r1
  rw [← e2, ← f2] at r2
  rw [← e3, ← f3] at r3
  clear e0 f0 e1 f1 e2 f2 e3 f3 one
  have q1 : Qw (A - B) t0 t1 t2 t3 := by
    clear r0 r1 r2 r3 hs a0 a1 a2 a3 b0 b1 b2 b3
    obtain ⟨T, hT⟩ : ∃ T, T = t0 + t1 * 18446744073709551616 + t2 * 340282366920938463463374607431768211456 + t3 * 6277101735386680763835789423207666416102355444464034512896 := ⟨_, rfl⟩
    have key : A + d4 * 115792089237316195423570985008687907853269984665640564039457584007913129639936 = T + B := by
      clear l1 l2 l3 l4 m0 m1 m2 m3 hle
      omega
    have hTl : T < 115792089237316195423570985008687907853269984665640564039457584007913129639936 := by
      clear key u0 u1 u2 u3 ea eb
      omega
    refine ⟨?_, m0, m1, m2, m3⟩
    rw [← hT]
    clear hT u0 u1 u2 u3 ea eb m0 m1 m2 m3
    omega
  obtain ⟨rfl, rfl, rfl, rfl⟩ := hs.one q1
  exact sminus_walk x0 x1 x2 x3 y0 y1 y2 y3 _ _ _ _ d1 d2 d3 d4 r0 r1 r2 r3 w
set_option maxHeartbeats 4000000 in
theorem sreals_stay_same (ng : Bool) (sg : Int) (fg : Nat) (nl : Bool) (sl : Int) (fl : Nat) (z : Int) (D E : Int) (kk : Nat) (a0 a1 a2 a3 y0 y1 y2 y3 p0 p1 p2 p3 : Int) (r0 r1 r2 r3 u sc o : Int) (k : Nat) (t : Bool)
    (k0 : ∀ w, Calls Try.prog 27 #[numV 1 ng sg fg, numV 1 nl sl fl] w fun e w' => e = .returned (.int .i64 z) ∧ Below w.heap.size w w')
    (hz : decide (z < 0) = false)
    (k1 : ∀ w, Calls Try.prog 28 #[.int .u64 fg, .int .i64 191] w fun e w' => e = .returned (.agg #[.int .u64 a0, .int .u64 a1, .int .u64 a2, .int .u64 a3]) ∧ Below w.heap.size w w')
    (q1 : IntKind.i64.wrap (sg - sl) = D) (q2 : IntKind.i64.wrap (191 - D) = E) (q3 : (if E < 0 then 0 else E) = (kk : Int))
    (k2 : ∀ w, Calls Try.prog 28 #[.int .u64 fl, .int .i64 kk] w fun e w' => e = .returned (.agg #[.int .u64 y0, .int .u64 y1, .int .u64 y2, .int .u64 y3]) ∧ Below w.heap.size w w')
    (k3 : ∀ w, Calls Try.prog 29 #[.agg #[.int .u64 a0, .int .u64 a1, .int .u64 a2, .int .u64 a3], .agg #[.int .u64 y0, .int .u64 y1, .int .u64 y2, .int .u64 y3]] w fun e w' => e = .returned (.agg #[.int .u64 p0, .int .u64 p1, .int .u64 p2, .int .u64 p3]) ∧ Below w.heap.size w w')
    (hs : (ng == nl) = true)
    (h0 : (decide (p0 = 0) && decide (p1 = 0) && decide (p2 = 0) && decide (p3 = 0)) = false)
    (k5 : ∀ w, Calls Try.prog 31 #[.agg #[.int .u64 p0, .int .u64 p1, .int .u64 p2, .int .u64 p3]] w fun e w' => e = .returned (.tuple #[.agg #[.int .u64 r0, .int .u64 r1, .int .u64 r2, .int .u64 r3], .int .i64 k]) ∧ Below w.heap.size w w')
    (q4 : IntKind.i64.wrap (sg + 1) = u) (q5 : IntKind.i64.wrap (u - (k : Int)) = sc) (q6 : bits BinOp.or IntKind.u64 r1 r0 = o) (q7 : (o != 0) = t) (w : World) :
    Calls Try.prog 18 #[numV 1 ng sg fg, numV 1 nl sl fl] w fun e w' => e = .returned (.agg #[.int .i64 1, .bool ng, .int .i64 sc, .int .u64 r3, .int .u64 r2, .bool t]) ∧ Below w.heap.size w w' := by
  unfold numV at *
  have heq := eql_words p0 p1 p2 p3
  rw [h0] at heq
  refine cps fun Q hQ => ?_
  go_enter Try.func18, Try.ntmps18
  go_upto_region 3 with (go_at_call 27; go_must (refine (k0 _).mono ?_); rintro e w1 ⟨rfl, hb1⟩; have R1_0 := (hb1.block (w.heap.size) (by first | (simp; done) | (simp; omega) | omega)).trans ((Below.heap_alloc _ _ _ (by first | (simp; done) | (simp; omega) | omega)).trans ((Below.heap_alloc _ _ _ (by first | (simp; done) | (simp; omega) | omega)).trans (rownew' _ _ _ _ (by simp)))); have z1_0 : w.heap.size < w1.heap.size := Nat.lt_of_lt_of_le (by first | (simp; done) | (simp; omega) | omega) hb1.size; have c1_0_0 := rowcell R1_0 0; have c1_0_1 := rowcell R1_0 1; have c1_0_2 := rowcell R1_0 2; have c1_0_3 := rowcell R1_0 3; simp only [List.getElem?_toArray, List.getElem?_cons_zero, List.getElem?_cons_succ] at c1_0_0 c1_0_1 c1_0_2 c1_0_3; have HR1_0 : Hid _ := R1_0; clear R1_0; have R1_1 := (hb1.block (w.heap.size + 1) (by first | (simp; done) | (simp; omega) | omega)).trans ((Below.heap_alloc _ _ _ (by first | (simp; done) | (simp; omega) | omega)).trans (rownew' _ _ _ _ (by simp))); have z1_1 : w.heap.size + 1 < w1.heap.size := Nat.lt_of_lt_of_le (by first | (simp; done) | (simp; omega) | omega) hb1.size; have c1_1_0 := rowcell R1_1 0; have c1_1_1 := rowcell R1_1 1; have c1_1_2 := rowcell R1_1 2; have c1_1_3 := rowcell R1_1 3; simp only [List.getElem?_toArray, List.getElem?_cons_zero, List.getElem?_cons_succ] at c1_1_0 c1_1_1 c1_1_2 c1_1_3; have HR1_1 : Hid _ := R1_1; clear R1_1; have R1_2 := (hb1.block (w.heap.size + 1 + 1) (by first | (simp; done) | (simp; omega) | omega)).trans (rownew' _ _ _ _ (by simp)); have z1_2 : w.heap.size + 1 + 1 < w1.heap.size := Nat.lt_of_lt_of_le (by first | (simp; done) | (simp; omega) | omega) hb1.size; have HR1_2 : Hid _ := R1_2; clear R1_2; have HB1 : Hid (Below _ _ _) := hb1; clear hb1; have fr0 := rowfree HR1_0.out; have fr1 := rowfree HR1_1.out; have fr2 := rowfree HR1_2.out)
  have HBW : Hid (Below w.heap.size w w1) := cthen (cmore (cmore (cmore (Below.refl _ _) _) _) _) HB1.out
  clear c1_0_0 c1_0_1 c1_0_2 c1_0_3 c1_1_0 c1_1_1 c1_1_2 c1_1_3 fr0 fr1 fr2
  have x3 := rowcell HR1_0.out 3
  simp only [List.getElem?_toArray, List.getElem?_cons_zero, List.getElem?_cons_succ] at x3
  go_wp2_with (first
    | (go_at_call 28; have chk := HB2; go_must (refine (k2 _).mono ?_); rintro e w3 ⟨rfl, hb3⟩; have R3_0 := (hb3.block (w.heap.size) (by first | (simp; done) | (simp; omega) | omega)).trans ((Below.heap_alloc _ _ _ (by first | (simp; done) | (simp; omega) | omega)).trans HR2_0.out); have z3_0 : w.heap.size < w3.heap.size := Nat.lt_of_lt_of_le (by first | (simp; done) | (simp; omega) | omega) hb3.size; have HR3_0 : Hid _ := R3_0; clear R3_0; have R3_1 := (hb3.block (w.heap.size + 1) (by first | (simp; done) | (simp; omega) | omega)).trans ((Below.heap_alloc _ _ _ (by first | (simp; done) | (simp; omega) | omega)).trans HR2_1.out); have z3_1 : w.heap.size + 1 < w3.heap.size := Nat.lt_of_lt_of_le (by first | (simp; done) | (simp; omega) | omega) hb3.size; have HR3_1 : Hid _ := R3_1; clear R3_1; have R3_2 := (hb3.block (w.heap.size + 1 + 1) (by first | (simp; done) | (simp; omega) | omega)).trans ((Below.heap_alloc _ _ _ (by first | (simp; done) | (simp; omega) | omega)).trans HR2_2.out); have z3_2 : w.heap.size + 1 + 1 < w3.heap.size := Nat.lt_of_lt_of_le (by first | (simp; done) | (simp; omega) | omega) hb3.size; have HR3_2 : Hid _ := R3_2; clear R3_2; have R3_3 := (hb3.block (w2.heap.size) (by first | (simp; done) | (simp; omega) | omega)).trans (rownew' _ _ _ _ (by simp)); have z3_3 : w2.heap.size < w3.heap.size := Nat.lt_of_lt_of_le (by first | (simp; done) | (simp; omega) | omega) hb3.size; have c3_3_0 := rowcell R3_3 0; have c3_3_1 := rowcell R3_3 1; have c3_3_2 := rowcell R3_3 2; have c3_3_3 := rowcell R3_3 3; simp only [List.getElem?_toArray, List.getElem?_cons_zero, List.getElem?_cons_succ] at c3_3_0 c3_3_1 c3_3_2 c3_3_3; have HR3_3 : Hid _ := R3_3; clear R3_3; have HB3 : Hid (Below _ _ _) := hb3; clear hb3)
    | (go_at_call 28; go_must (refine (k1 _).mono ?_); rintro e w2 ⟨rfl, hb2⟩; have R2_0 := (hb2.block (w.heap.size) (by first | (simp; done) | (simp; omega) | omega)).trans HR1_0.out; have z2_0 : w.heap.size < w2.heap.size := Nat.lt_of_lt_of_le (by first | (simp; done) | (simp; omega) | omega) hb2.size; have c2_0_2 := rowcell R2_0 2; simp only [List.getElem?_toArray, List.getElem?_cons_zero, List.getElem?_cons_succ] at c2_0_2; have HR2_0 : Hid _ := R2_0; clear R2_0; have R2_1 := (hb2.block (w.heap.size + 1) (by first | (simp; done) | (simp; omega) | omega)).trans HR1_1.out; have z2_1 : w.heap.size + 1 < w2.heap.size := Nat.lt_of_lt_of_le (by first | (simp; done) | (simp; omega) | omega) hb2.size; have c2_1_2 := rowcell R2_1 2; have c2_1_3 := rowcell R2_1 3; simp only [List.getElem?_toArray, List.getElem?_cons_zero, List.getElem?_cons_succ] at c2_1_2 c2_1_3; have HR2_1 : Hid _ := R2_1; clear R2_1; have R2_2 := (hb2.block (w.heap.size + 1 + 1) (by first | (simp; done) | (simp; omega) | omega)).trans HR1_2.out; have z2_2 : w.heap.size + 1 + 1 < w2.heap.size := Nat.lt_of_lt_of_le (by first | (simp; done) | (simp; omega) | omega) hb2.size; have HR2_2 : Hid _ := R2_2; clear R2_2; have HB2 : Hid (Below _ _ _) := hb2; clear hb2)
    | (go_at_call 29; go_must (refine (k3 _).mono ?_); rintro e w4 ⟨rfl, hb4⟩; have R4_0 := (hb4.block (w.heap.size) (by first | (simp; done) | (simp; omega) | omega)).trans ((Below.heap_alloc _ _ _ (by first | (simp; done) | (simp; omega) | omega)).trans HR3_0.out); have z4_0 : w.heap.size < w4.heap.size := Nat.lt_of_lt_of_le (by first | (simp; done) | (simp; omega) | omega) hb4.size; have c4_0_1 := rowcell R4_0 1; simp only [List.getElem?_toArray, List.getElem?_cons_zero, List.getElem?_cons_succ] at c4_0_1; have HR4_0 : Hid _ := R4_0; clear R4_0; have R4_1 := (hb4.block (w.heap.size + 1) (by first | (simp; done) | (simp; omega) | omega)).trans ((Below.heap_alloc _ _ _ (by first | (simp; done) | (simp; omega) | omega)).trans HR3_1.out); have z4_1 : w.heap.size + 1 < w4.heap.size := Nat.lt_of_lt_of_le (by first | (simp; done) | (simp; omega) | omega) hb4.size; have c4_1_1 := rowcell R4_1 1; simp only [List.getElem?_toArray, List.getElem?_cons_zero, List.getElem?_cons_succ] at c4_1_1; have HR4_1 : Hid _ := R4_1; clear R4_1; have R4_2 := (hb4.block (w.heap.size + 1 + 1) (by first | (simp; done) | (simp; omega) | omega)).trans ((Below.heap_alloc _ _ _ (by first | (simp; done) | (simp; omega) | omega)).trans HR3_2.out); have z4_2 : w.heap.size + 1 + 1 < w4.heap.size := Nat.lt_of_lt_of_le (by first | (simp; done) | (simp; omega) | omega) hb4.size; have HR4_2 : Hid _ := R4_2; clear R4_2; have R4_3 := (hb4.block (w2.heap.size) (by first | (simp; done) | (simp; omega) | omega)).trans ((Below.heap_alloc _ _ _ (by first | (simp; done) | (simp; omega) | omega)).trans HR3_3.out); have z4_3 : w2.heap.size < w4.heap.size := Nat.lt_of_lt_of_le (by first | (simp; done) | (simp; omega) | omega) hb4.size; have HR4_3 : Hid _ := R4_3; clear R4_3; have R4_4 := (hb4.block (w3.heap.size) (by first | (simp; done) | (simp; omega) | omega)).trans (rownew' _ _ _ _ (by simp)); have z4_4 : w3.heap.size < w4.heap.size := Nat.lt_of_lt_of_le (by first | (simp; done) | (simp; omega) | omega) hb4.size; have HR4_4 : Hid _ := R4_4; clear R4_4; have HB4 : Hid (Below _ _ _) := hb4; clear hb4)
    | (go_at_call 31; go_must (refine (k5 _).mono ?_); rintro e w5 ⟨rfl, hb5⟩; have R5_0 := (hb5.block (w.heap.size) (by first | (simp; done) | (simp; omega) | omega)).trans ((Below.heap_alloc _ _ _ (by first | (simp; done) | (simp; omega) | omega)).trans HR4_0.out); have z5_0 : w.heap.size < w5.heap.size := Nat.lt_of_lt_of_le (by first | (simp; done) | (simp; omega) | omega) hb5.size; have c5_0_1 := rowcell R5_0 1; have c5_0_2 := rowcell R5_0 2; simp only [List.getElem?_toArray, List.getElem?_cons_zero, List.getElem?_cons_succ] at c5_0_1 c5_0_2; have HR5_0 : Hid _ := R5_0; clear R5_0; have R5_1 := (hb5.block (w.heap.size + 1) (by first | (simp; done) | (simp; omega) | omega)).trans ((Below.heap_alloc _ _ _ (by first | (simp; done) | (simp; omega) | omega)).trans HR4_1.out); have z5_1 : w.heap.size + 1 < w5.heap.size := Nat.lt_of_lt_of_le (by first | (simp; done) | (simp; omega) | omega) hb5.size; have HR5_1 : Hid _ := R5_1; clear R5_1; have R5_2 := (hb5.block (w.heap.size + 1 + 1) (by first | (simp; done) | (simp; omega) | omega)).trans ((Below.heap_alloc _ _ _ (by first | (simp; done) | (simp; omega) | omega)).trans HR4_2.out); have z5_2 : w.heap.size + 1 + 1 < w5.heap.size := Nat.lt_of_lt_of_le (by first | (simp; done) | (simp; omega) | omega) hb5.size; have c5_2_0 := rowcell R5_2 0; have c5_2_1 := rowcell R5_2 1; have c5_2_2 := rowcell R5_2 2; have c5_2_3 := rowcell R5_2 3; have c5_2_4 := rowcell R5_2 4; have c5_2_5 := rowcell R5_2 5; simp only [List.getElem?_toArray, List.getElem?_cons_zero, List.getElem?_cons_succ] at c5_2_0 c5_2_1 c5_2_2 c5_2_3 c5_2_4 c5_2_5; have HR5_2 : Hid _ := R5_2; clear R5_2; have R5_3 := (hb5.block (w2.heap.size) (by first | (simp; done) | (simp; omega) | omega)).trans ((Below.heap_alloc _ _ _ (by first | (simp; done) | (simp; omega) | omega)).trans HR4_3.out); have z5_3 : w2.heap.size < w5.heap.size := Nat.lt_of_lt_of_le (by first | (simp; done) | (simp; omega) | omega) hb5.size; have HR5_3 : Hid _ := R5_3; clear R5_3; have R5_4 := (hb5.block (w3.heap.size) (by first | (simp; done) | (simp; omega) | omega)).trans ((Below.heap_alloc _ _ _ (by first | (simp; done) | (simp; omega) | omega)).trans HR4_4.out); have z5_4 : w3.heap.size < w5.heap.size := Nat.lt_of_lt_of_le (by first | (simp; done) | (simp; omega) | omega) hb5.size; have HR5_4 : Hid _ := R5_4; clear R5_4; have R5_5 := (hb5.block (w4.heap.size) (by first | (simp; done) | (simp; omega) | omega)).trans (rownew' _ _ _ _ (by simp)); have z5_5 : w4.heap.size < w5.heap.size := Nat.lt_of_lt_of_le (by first | (simp; done) | (simp; omega) | omega) hb5.size; have c5_5_0 := rowcell R5_5 0; have c5_5_1 := rowcell R5_5 1; have c5_5_2 := rowcell R5_5 2; have c5_5_3 := rowcell R5_5 3; simp only [List.getElem?_toArray, List.getElem?_cons_zero, List.getElem?_cons_succ] at c5_5_0 c5_5_1 c5_5_2 c5_5_3; have HR5_5 : Hid _ := R5_5; clear R5_5; have HB5 : Hid (Below _ _ _) := hb5; clear hb5; have g5 := rowfree HR5_5.out; have g2 := rowfree HR5_2.out))
  refine bodyPost_ret (v := .agg #[.int .i64 1, .bool ng, .int .i64 sc, .int .u64 r3, .int .u64 r2, .bool t]) (by simp [results, Try.results18, go_sem, c5_2_0, c5_2_1, c5_2_2, c5_2_3, c5_2_4, c5_2_5, g2, z5_2, q7]; done) rfl (hQ.out _ _ ⟨rfl, ?_⟩)
  exact cset6 (cset4 (cthen (cmore (cthen (cmore (cthen (cmore (cthen (HBW.out) HB2.out) _) HB3.out) _) HB4.out) _) HB5.out) (by omega)) (by omega)
set_option maxHeartbeats 4000000 in
theorem sreals_stay_diff (ng : Bool) (sg : Int) (fg : Nat) (nl : Bool) (sl : Int) (fl : Nat) (z : Int) (D E : Int) (kk : Nat) (a0 a1 a2 a3 y0 y1 y2 y3 p0 p1 p2 p3 : Int) (m0 m1 m2 m3 : Int) (r0 r1 r2 r3 u sc o : Int) (k : Nat) (t : Bool)
    (k0 : ∀ w, Calls Try.prog 27 #[numV 1 ng sg fg, numV 1 nl sl fl] w fun e w' => e = .returned (.int .i64 z) ∧ Below w.heap.size w w')
    (hz : decide (z < 0) = false)
    (k1 : ∀ w, Calls Try.prog 28 #[.int .u64 fg, .int .i64 191] w fun e w' => e = .returned (.agg #[.int .u64 a0, .int .u64 a1, .int .u64 a2, .int .u64 a3]) ∧ Below w.heap.size w w')
    (q1 : IntKind.i64.wrap (sg - sl) = D) (q2 : IntKind.i64.wrap (191 - D) = E) (q3 : (if E < 0 then 0 else E) = (kk : Int))
    (k2 : ∀ w, Calls Try.prog 28 #[.int .u64 fl, .int .i64 kk] w fun e w' => e = .returned (.agg #[.int .u64 y0, .int .u64 y1, .int .u64 y2, .int .u64 y3]) ∧ Below w.heap.size w w')
    (k3 : ∀ w, Calls Try.prog 29 #[.agg #[.int .u64 a0, .int .u64 a1, .int .u64 a2, .int .u64 a3], .agg #[.int .u64 y0, .int .u64 y1, .int .u64 y2, .int .u64 y3]] w fun e w' => e = .returned (.agg #[.int .u64 p0, .int .u64 p1, .int .u64 p2, .int .u64 p3]) ∧ Below w.heap.size w w')
    (hs : (ng == nl) = false)
    (k4 : ∀ w, Calls Try.prog 30 #[.agg #[.int .u64 a0, .int .u64 a1, .int .u64 a2, .int .u64 a3], .agg #[.int .u64 y0, .int .u64 y1, .int .u64 y2, .int .u64 y3]] w fun e w' => e = .returned (.agg #[.int .u64 m0, .int .u64 m1, .int .u64 m2, .int .u64 m3]) ∧ Below w.heap.size w w')
    (h0 : (decide (m0 = 0) && decide (m1 = 0) && decide (m2 = 0) && decide (m3 = 0)) = false)
    (k5 : ∀ w, Calls Try.prog 31 #[.agg #[.int .u64 m0, .int .u64 m1, .int .u64 m2, .int .u64 m3]] w fun e w' => e = .returned (.tuple #[.agg #[.int .u64 r0, .int .u64 r1, .int .u64 r2, .int .u64 r3], .int .i64 k]) ∧ Below w.heap.size w w')
    (q4 : IntKind.i64.wrap (sg + 1) = u) (q5 : IntKind.i64.wrap (u - (k : Int)) = sc) (q6 : bits BinOp.or IntKind.u64 r1 r0 = o) (q7 : (o != 0) = t) (w : World) :
    Calls Try.prog 18 #[numV 1 ng sg fg, numV 1 nl sl fl] w fun e w' => e = .returned (.agg #[.int .i64 1, .bool ng, .int .i64 sc, .int .u64 r3, .int .u64 r2, .bool t]) ∧ Below w.heap.size w w' := by
  unfold numV at *
  have heq := eql_words m0 m1 m2 m3
  rw [h0] at heq
  refine cps fun Q hQ => ?_
  go_enter Try.func18, Try.ntmps18
  go_upto_region 3 with (go_at_call 27; go_must (refine (k0 _).mono ?_); rintro e w1 ⟨rfl, hb1⟩; have R1_0 := (hb1.block (w.heap.size) (by first | (simp; done) | (simp; omega) | omega)).trans ((Below.heap_alloc _ _ _ (by first | (simp; done) | (simp; omega) | omega)).trans ((Below.heap_alloc _ _ _ (by first | (simp; done) | (simp; omega) | omega)).trans (rownew' _ _ _ _ (by simp)))); have z1_0 : w.heap.size < w1.heap.size := Nat.lt_of_lt_of_le (by first | (simp; done) | (simp; omega) | omega) hb1.size; have c1_0_0 := rowcell R1_0 0; have c1_0_1 := rowcell R1_0 1; have c1_0_2 := rowcell R1_0 2; have c1_0_3 := rowcell R1_0 3; simp only [List.getElem?_toArray, List.getElem?_cons_zero, List.getElem?_cons_succ] at c1_0_0 c1_0_1 c1_0_2 c1_0_3; have HR1_0 : Hid _ := R1_0; clear R1_0; have R1_1 := (hb1.block (w.heap.size + 1) (by first | (simp; done) | (simp; omega) | omega)).trans ((Below.heap_alloc _ _ _ (by first | (simp; done) | (simp; omega) | omega)).trans (rownew' _ _ _ _ (by simp))); have z1_1 : w.heap.size + 1 < w1.heap.size := Nat.lt_of_lt_of_le (by first | (simp; done) | (simp; omega) | omega) hb1.size; have c1_1_0 := rowcell R1_1 0; have c1_1_1 := rowcell R1_1 1; have c1_1_2 := rowcell R1_1 2; have c1_1_3 := rowcell R1_1 3; simp only [List.getElem?_toArray, List.getElem?_cons_zero, List.getElem?_cons_succ] at c1_1_0 c1_1_1 c1_1_2 c1_1_3; have HR1_1 : Hid _ := R1_1; clear R1_1; have R1_2 := (hb1.block (w.heap.size + 1 + 1) (by first | (simp; done) | (simp; omega) | omega)).trans (rownew' _ _ _ _ (by simp)); have z1_2 : w.heap.size + 1 + 1 < w1.heap.size := Nat.lt_of_lt_of_le (by first | (simp; done) | (simp; omega) | omega) hb1.size; have HR1_2 : Hid _ := R1_2; clear R1_2; have HB1 : Hid (Below _ _ _) := hb1; clear hb1; have fr0 := rowfree HR1_0.out; have fr1 := rowfree HR1_1.out; have fr2 := rowfree HR1_2.out)
  have HBW : Hid (Below w.heap.size w w1) := cthen (cmore (cmore (cmore (Below.refl _ _) _) _) _) HB1.out
  clear c1_0_0 c1_0_1 c1_0_2 c1_0_3 c1_1_0 c1_1_1 c1_1_2 c1_1_3 fr0 fr1 fr2
  have x3 := rowcell HR1_0.out 3
  simp only [List.getElem?_toArray, List.getElem?_cons_zero, List.getElem?_cons_succ] at x3
  go_wp2_with (first
    | (go_at_call 28; have chk := HB2; go_must (refine (k2 _).mono ?_); rintro e w3 ⟨rfl, hb3⟩; have R3_0 := (hb3.block (w.heap.size) (by first | (simp; done) | (simp; omega) | omega)).trans ((Below.heap_alloc _ _ _ (by first | (simp; done) | (simp; omega) | omega)).trans HR2_0.out); have z3_0 : w.heap.size < w3.heap.size := Nat.lt_of_lt_of_le (by first | (simp; done) | (simp; omega) | omega) hb3.size; have HR3_0 : Hid _ := R3_0; clear R3_0; have R3_1 := (hb3.block (w.heap.size + 1) (by first | (simp; done) | (simp; omega) | omega)).trans ((Below.heap_alloc _ _ _ (by first | (simp; done) | (simp; omega) | omega)).trans HR2_1.out); have z3_1 : w.heap.size + 1 < w3.heap.size := Nat.lt_of_lt_of_le (by first | (simp; done) | (simp; omega) | omega) hb3.size; have HR3_1 : Hid _ := R3_1; clear R3_1; have R3_2 := (hb3.block (w.heap.size + 1 + 1) (by first | (simp; done) | (simp; omega) | omega)).trans ((Below.heap_alloc _ _ _ (by first | (simp; done) | (simp; omega) | omega)).trans HR2_2.out); have z3_2 : w.heap.size + 1 + 1 < w3.heap.size := Nat.lt_of_lt_of_le (by first | (simp; done) | (simp; omega) | omega) hb3.size; have HR3_2 : Hid _ := R3_2; clear R3_2; have R3_3 := (hb3.block (w2.heap.size) (by first | (simp; done) | (simp; omega) | omega)).trans (rownew' _ _ _ _ (by simp)); have z3_3 : w2.heap.size < w3.heap.size := Nat.lt_of_lt_of_le (by first | (simp; done) | (simp; omega) | omega) hb3.size; have c3_3_0 := rowcell R3_3 0; have c3_3_1 := rowcell R3_3 1; have c3_3_2 := rowcell R3_3 2; have c3_3_3 := rowcell R3_3 3; simp only [List.getElem?_toArray, List.getElem?_cons_zero, List.getElem?_cons_succ] at c3_3_0 c3_3_1 c3_3_2 c3_3_3; have HR3_3 : Hid _ := R3_3; clear R3_3; have HB3 : Hid (Below _ _ _) := hb3; clear hb3)
    | (go_at_call 28; go_must (refine (k1 _).mono ?_); rintro e w2 ⟨rfl, hb2⟩; have R2_0 := (hb2.block (w.heap.size) (by first | (simp; done) | (simp; omega) | omega)).trans HR1_0.out; have z2_0 : w.heap.size < w2.heap.size := Nat.lt_of_lt_of_le (by first | (simp; done) | (simp; omega) | omega) hb2.size; have c2_0_2 := rowcell R2_0 2; simp only [List.getElem?_toArray, List.getElem?_cons_zero, List.getElem?_cons_succ] at c2_0_2; have HR2_0 : Hid _ := R2_0; clear R2_0; have R2_1 := (hb2.block (w.heap.size + 1) (by first | (simp; done) | (simp; omega) | omega)).trans HR1_1.out; have z2_1 : w.heap.size + 1 < w2.heap.size := Nat.lt_of_lt_of_le (by first | (simp; done) | (simp; omega) | omega) hb2.size; have c2_1_2 := rowcell R2_1 2; have c2_1_3 := rowcell R2_1 3; simp only [List.getElem?_toArray, List.getElem?_cons_zero, List.getElem?_cons_succ] at c2_1_2 c2_1_3; have HR2_1 : Hid _ := R2_1; clear R2_1; have R2_2 := (hb2.block (w.heap.size + 1 + 1) (by first | (simp; done) | (simp; omega) | omega)).trans HR1_2.out; have z2_2 : w.heap.size + 1 + 1 < w2.heap.size := Nat.lt_of_lt_of_le (by first | (simp; done) | (simp; omega) | omega) hb2.size; have HR2_2 : Hid _ := R2_2; clear R2_2; have HB2 : Hid (Below _ _ _) := hb2; clear hb2)
    | (go_at_call 29; go_must (refine (k3 _).mono ?_); rintro e w4 ⟨rfl, hb4⟩; have R4_0 := (hb4.block (w.heap.size) (by first | (simp; done) | (simp; omega) | omega)).trans ((Below.heap_alloc _ _ _ (by first | (simp; done) | (simp; omega) | omega)).trans HR3_0.out); have z4_0 : w.heap.size < w4.heap.size := Nat.lt_of_lt_of_le (by first | (simp; done) | (simp; omega) | omega) hb4.size; have c4_0_1 := rowcell R4_0 1; simp only [List.getElem?_toArray, List.getElem?_cons_zero, List.getElem?_cons_succ] at c4_0_1; have HR4_0 : Hid _ := R4_0; clear R4_0; have R4_1 := (hb4.block (w.heap.size + 1) (by first | (simp; done) | (simp; omega) | omega)).trans ((Below.heap_alloc _ _ _ (by first | (simp; done) | (simp; omega) | omega)).trans HR3_1.out); have z4_1 : w.heap.size + 1 < w4.heap.size := Nat.lt_of_lt_of_le (by first | (simp; done) | (simp; omega) | omega) hb4.size; have c4_1_1 := rowcell R4_1 1; simp only [List.getElem?_toArray, List.getElem?_cons_zero, List.getElem?_cons_succ] at c4_1_1; have HR4_1 : Hid _ := R4_1; clear R4_1; have R4_2 := (hb4.block (w.heap.size + 1 + 1) (by first | (simp; done) | (simp; omega) | omega)).trans ((Below.heap_alloc _ _ _ (by first | (simp; done) | (simp; omega) | omega)).trans HR3_2.out); have z4_2 : w.heap.size + 1 + 1 < w4.heap.size := Nat.lt_of_lt_of_le (by first | (simp; done) | (simp; omega) | omega) hb4.size; have HR4_2 : Hid _ := R4_2; clear R4_2; have R4_3 := (hb4.block (w2.heap.size) (by first | (simp; done) | (simp; omega) | omega)).trans ((Below.heap_alloc _ _ _ (by first | (simp; done) | (simp; omega) | omega)).trans HR3_3.out); have z4_3 : w2.heap.size < w4.heap.size := Nat.lt_of_lt_of_le (by first | (simp; done) | (simp; omega) | omega) hb4.size; have c4_3_0 := rowcell R4_3 0; have c4_3_1 := rowcell R4_3 1; have c4_3_2 := rowcell R4_3 2; have c4_3_3 := rowcell R4_3 3; simp only [List.getElem?_toArray, List.getElem?_cons_zero, List.getElem?_cons_succ] at c4_3_0 c4_3_1 c4_3_2 c4_3_3; have HR4_3 : Hid _ := R4_3; clear R4_3; have R4_4 := (hb4.block (w3.heap.size) (by first | (simp; done) | (simp; omega) | omega)).trans (rownew' _ _ _ _ (by simp)); have z4_4 : w3.heap.size < w4.heap.size := Nat.lt_of_lt_of_le (by first | (simp; done) | (simp; omega) | omega) hb4.size; have c4_4_0 := rowcell R4_4 0; have c4_4_1 := rowcell R4_4 1; have c4_4_2 := rowcell R4_4 2; have c4_4_3 := rowcell R4_4 3; simp only [List.getElem?_toArray, List.getElem?_cons_zero, List.getElem?_cons_succ] at c4_4_0 c4_4_1 c4_4_2 c4_4_3; have HR4_4 : Hid _ := R4_4; clear R4_4; have HB4 : Hid (Below _ _ _) := hb4; clear hb4)
    | (go_at_call 30; go_must (refine (k4 _).mono ?_); rintro e w5 ⟨rfl, hb5⟩; have R5_0 := (hb5.block (w.heap.size) (by first | (simp; done) | (simp; omega) | omega)).trans ((Below.heap_alloc _ _ _ (by first | (simp; done) | (simp; omega) | omega)).trans HR4_0.out); have z5_0 : w.heap.size < w5.heap.size := Nat.lt_of_lt_of_le (by first | (simp; done) | (simp; omega) | omega) hb5.size; have HR5_0 : Hid _ := R5_0; clear R5_0; have R5_1 := (hb5.block (w.heap.size + 1) (by first | (simp; done) | (simp; omega) | omega)).trans ((Below.heap_alloc _ _ _ (by first | (simp; done) | (simp; omega) | omega)).trans HR4_1.out); have z5_1 : w.heap.size + 1 < w5.heap.size := Nat.lt_of_lt_of_le (by first | (simp; done) | (simp; omega) | omega) hb5.size; have HR5_1 : Hid _ := R5_1; clear R5_1; have R5_2 := (hb5.block (w.heap.size + 1 + 1) (by first | (simp; done) | (simp; omega) | omega)).trans ((Below.heap_alloc _ _ _ (by first | (simp; done) | (simp; omega) | omega)).trans HR4_2.out); have z5_2 : w.heap.size + 1 + 1 < w5.heap.size := Nat.lt_of_lt_of_le (by first | (simp; done) | (simp; omega) | omega) hb5.size; have HR5_2 : Hid _ := R5_2; clear R5_2; have R5_3 := (hb5.block (w2.heap.size) (by first | (simp; done) | (simp; omega) | omega)).trans ((Below.heap_alloc _ _ _ (by first | (simp; done) | (simp; omega) | omega)).trans HR4_3.out); have z5_3 : w2.heap.size < w5.heap.size := Nat.lt_of_lt_of_le (by first | (simp; done) | (simp; omega) | omega) hb5.size; have HR5_3 : Hid _ := R5_3; clear R5_3; have R5_4 := (hb5.block (w3.heap.size) (by first | (simp; done) | (simp; omega) | omega)).trans ((Below.heap_alloc _ _ _ (by first | (simp; done) | (simp; omega) | omega)).trans HR4_4.out); have z5_4 : w3.heap.size < w5.heap.size := Nat.lt_of_lt_of_le (by first | (simp; done) | (simp; omega) | omega) hb5.size; have HR5_4 : Hid _ := R5_4; clear R5_4; have R5_5 := (hb5.block (w4.heap.size) (by first | (simp; done) | (simp; omega) | omega)).trans (rownew' _ _ _ _ (by simp)); have z5_5 : w4.heap.size < w5.heap.size := Nat.lt_of_lt_of_le (by first | (simp; done) | (simp; omega) | omega) hb5.size; have c5_5_0 := rowcell R5_5 0; have c5_5_1 := rowcell R5_5 1; have c5_5_2 := rowcell R5_5 2; have c5_5_3 := rowcell R5_5 3; simp only [List.getElem?_toArray, List.getElem?_cons_zero, List.getElem?_cons_succ] at c5_5_0 c5_5_1 c5_5_2 c5_5_3; have HR5_5 : Hid _ := R5_5; clear R5_5; have HB5 : Hid (Below _ _ _) := hb5; clear hb5; have f5 := rowfree HR5_5.out; have f2 := rowfree HR5_2.out)
    | (go_at_call 31; go_must (refine (k5 _).mono ?_); rintro e w6 ⟨rfl, hb6⟩; have R6_0 := (hb6.block (w.heap.size) (by first | (simp; done) | (simp; omega) | omega)).trans (row4_other HR5_0.out (by omega)); have z6_0 : w.heap.size < w6.heap.size := Nat.lt_of_lt_of_le (by first | (simp; done) | (simp; omega) | omega) hb6.size; have c6_0_1 := rowcell R6_0 1; have c6_0_2 := rowcell R6_0 2; simp only [List.getElem?_toArray, List.getElem?_cons_zero, List.getElem?_cons_succ] at c6_0_1 c6_0_2; have HR6_0 : Hid _ := R6_0; clear R6_0; have R6_1 := (hb6.block (w.heap.size + 1) (by first | (simp; done) | (simp; omega) | omega)).trans (row4_other HR5_1.out (by omega)); have z6_1 : w.heap.size + 1 < w6.heap.size := Nat.lt_of_lt_of_le (by first | (simp; done) | (simp; omega) | omega) hb6.size; have HR6_1 : Hid _ := R6_1; clear R6_1; have R6_2 := (hb6.block (w.heap.size + 1 + 1) (by first | (simp; done) | (simp; omega) | omega)).trans (row4_other HR5_2.out (by omega)); have z6_2 : w.heap.size + 1 + 1 < w6.heap.size := Nat.lt_of_lt_of_le (by first | (simp; done) | (simp; omega) | omega) hb6.size; have c6_2_0 := rowcell R6_2 0; have c6_2_1 := rowcell R6_2 1; have c6_2_2 := rowcell R6_2 2; have c6_2_3 := rowcell R6_2 3; have c6_2_4 := rowcell R6_2 4; have c6_2_5 := rowcell R6_2 5; simp only [List.getElem?_toArray, List.getElem?_cons_zero, List.getElem?_cons_succ] at c6_2_0 c6_2_1 c6_2_2 c6_2_3 c6_2_4 c6_2_5; have HR6_2 : Hid _ := R6_2; clear R6_2; have R6_3 := (hb6.block (w2.heap.size) (by first | (simp; done) | (simp; omega) | omega)).trans (row4_other HR5_3.out (by omega)); have z6_3 : w2.heap.size < w6.heap.size := Nat.lt_of_lt_of_le (by first | (simp; done) | (simp; omega) | omega) hb6.size; have HR6_3 : Hid _ := R6_3; clear R6_3; have R6_4 := (hb6.block (w3.heap.size) (by first | (simp; done) | (simp; omega) | omega)).trans (row4_other HR5_4.out (by omega)); have z6_4 : w3.heap.size < w6.heap.size := Nat.lt_of_lt_of_le (by first | (simp; done) | (simp; omega) | omega) hb6.size; have HR6_4 : Hid _ := R6_4; clear R6_4; have R6_5 := (hb6.block (w4.heap.size) (by first | (simp; done) | (simp; omega) | omega)).trans (row4 HR5_5.out); have z6_5 : w4.heap.size < w6.heap.size := Nat.lt_of_lt_of_le (by first | (simp; done) | (simp; omega) | omega) hb6.size; have c6_5_0 := rowcell R6_5 0; have c6_5_1 := rowcell R6_5 1; have c6_5_2 := rowcell R6_5 2; have c6_5_3 := rowcell R6_5 3; simp only [List.getElem?_toArray, List.getElem?_cons_zero, List.getElem?_cons_succ] at c6_5_0 c6_5_1 c6_5_2 c6_5_3; have HR6_5 : Hid _ := R6_5; clear R6_5; have HB6 : Hid (Below _ _ _) := hb6; clear hb6; have g5 := rowfree HR6_5.out; have g2 := rowfree HR6_2.out))
  refine bodyPost_ret (v := .agg #[.int .i64 1, .bool ng, .int .i64 sc, .int .u64 r3, .int .u64 r2, .bool t]) (by simp [results, Try.results18, go_sem, c6_2_0, c6_2_1, c6_2_2, c6_2_3, c6_2_4, c6_2_5, g2, z6_2, q7]; done) rfl (hQ.out _ _ ⟨rfl, ?_⟩)
  exact cset6 (cset4 (cthen (cset4 (cthen (cmore (cthen (cmore (cthen (cmore (cthen (HBW.out) HB2.out) _) HB3.out) _) HB4.out) _) HB5.out) (by omega)) HB6.out) (by omega)) (by omega)
set_option maxHeartbeats 4000000 in
theorem sreals_stay_zero (ng : Bool) (sg : Int) (fg : Nat) (nl : Bool) (sl : Int) (fl : Nat) (z : Int) (D E : Int) (kk : Nat) (a0 a1 a2 a3 y0 y1 y2 y3 p0 p1 p2 p3 : Int) (m0 m1 m2 m3 : Int)
    (k0 : ∀ w, Calls Try.prog 27 #[numV 1 ng sg fg, numV 1 nl sl fl] w fun e w' => e = .returned (.int .i64 z) ∧ Below w.heap.size w w')
    (hz : decide (z < 0) = false)
    (k1 : ∀ w, Calls Try.prog 28 #[.int .u64 fg, .int .i64 191] w fun e w' => e = .returned (.agg #[.int .u64 a0, .int .u64 a1, .int .u64 a2, .int .u64 a3]) ∧ Below w.heap.size w w')
    (q1 : IntKind.i64.wrap (sg - sl) = D) (q2 : IntKind.i64.wrap (191 - D) = E) (q3 : (if E < 0 then 0 else E) = (kk : Int))
    (k2 : ∀ w, Calls Try.prog 28 #[.int .u64 fl, .int .i64 kk] w fun e w' => e = .returned (.agg #[.int .u64 y0, .int .u64 y1, .int .u64 y2, .int .u64 y3]) ∧ Below w.heap.size w w')
    (k3 : ∀ w, Calls Try.prog 29 #[.agg #[.int .u64 a0, .int .u64 a1, .int .u64 a2, .int .u64 a3], .agg #[.int .u64 y0, .int .u64 y1, .int .u64 y2, .int .u64 y3]] w fun e w' => e = .returned (.agg #[.int .u64 p0, .int .u64 p1, .int .u64 p2, .int .u64 p3]) ∧ Below w.heap.size w w')
    (hs : (ng == nl) = false)
    (k4 : ∀ w, Calls Try.prog 30 #[.agg #[.int .u64 a0, .int .u64 a1, .int .u64 a2, .int .u64 a3], .agg #[.int .u64 y0, .int .u64 y1, .int .u64 y2, .int .u64 y3]] w fun e w' => e = .returned (.agg #[.int .u64 m0, .int .u64 m1, .int .u64 m2, .int .u64 m3]) ∧ Below w.heap.size w w')
    (h0 : (decide (m0 = 0) && decide (m1 = 0) && decide (m2 = 0) && decide (m3 = 0)) = true) (w : World) :
    Calls Try.prog 18 #[numV 1 ng sg fg, numV 1 nl sl fl] w fun e w' => e = .returned (.agg #[.int .i64 0, .bool false, .int .i64 0, .int .u64 0, .int .u64 0, .bool false]) ∧ Below w.heap.size w w' := by
  unfold numV at *
  have heq := eql_words m0 m1 m2 m3
  rw [h0] at heq
  refine cps fun Q hQ => ?_
  go_enter Try.func18, Try.ntmps18
  go_upto_region 3 with (go_at_call 27; go_must (refine (k0 _).mono ?_); rintro e w1 ⟨rfl, hb1⟩; have R1_0 := (hb1.block (w.heap.size) (by first | (simp; done) | (simp; omega) | omega)).trans ((Below.heap_alloc _ _ _ (by first | (simp; done) | (simp; omega) | omega)).trans ((Below.heap_alloc _ _ _ (by first | (simp; done) | (simp; omega) | omega)).trans (rownew' _ _ _ _ (by simp)))); have z1_0 : w.heap.size < w1.heap.size := Nat.lt_of_lt_of_le (by first | (simp; done) | (simp; omega) | omega) hb1.size; have c1_0_0 := rowcell R1_0 0; have c1_0_1 := rowcell R1_0 1; have c1_0_2 := rowcell R1_0 2; have c1_0_3 := rowcell R1_0 3; simp only [List.getElem?_toArray, List.getElem?_cons_zero, List.getElem?_cons_succ] at c1_0_0 c1_0_1 c1_0_2 c1_0_3; have HR1_0 : Hid _ := R1_0; clear R1_0; have R1_1 := (hb1.block (w.heap.size + 1) (by first | (simp; done) | (simp; omega) | omega)).trans ((Below.heap_alloc _ _ _ (by first | (simp; done) | (simp; omega) | omega)).trans (rownew' _ _ _ _ (by simp))); have z1_1 : w.heap.size + 1 < w1.heap.size := Nat.lt_of_lt_of_le (by first | (simp; done) | (simp; omega) | omega) hb1.size; have c1_1_0 := rowcell R1_1 0; have c1_1_1 := rowcell R1_1 1; have c1_1_2 := rowcell R1_1 2; have c1_1_3 := rowcell R1_1 3; simp only [List.getElem?_toArray, List.getElem?_cons_zero, List.getElem?_cons_succ] at c1_1_0 c1_1_1 c1_1_2 c1_1_3; have HR1_1 : Hid _ := R1_1; clear R1_1; have R1_2 := (hb1.block (w.heap.size + 1 + 1) (by first | (simp; done) | (simp; omega) | omega)).trans (rownew' _ _ _ _ (by simp)); have z1_2 : w.heap.size + 1 + 1 < w1.heap.size := Nat.lt_of_lt_of_le (by first | (simp; done) | (simp; omega) | omega) hb1.size; have HR1_2 : Hid _ := R1_2; clear R1_2; have HB1 : Hid (Below _ _ _) := hb1; clear hb1; have fr0 := rowfree HR1_0.out; have fr1 := rowfree HR1_1.out; have fr2 := rowfree HR1_2.out)
  have HBW : Hid (Below w.heap.size w w1) := cthen (cmore (cmore (cmore (Below.refl _ _) _) _) _) HB1.out
  clear c1_0_0 c1_0_1 c1_0_2 c1_0_3 c1_1_0 c1_1_1 c1_1_2 c1_1_3 fr0 fr1 fr2
  have x3 := rowcell HR1_0.out 3
  simp only [List.getElem?_toArray, List.getElem?_cons_zero, List.getElem?_cons_succ] at x3
  go_wp2_with (first
    | (go_at_call 28; have chk := HB2; go_must (refine (k2 _).mono ?_); rintro e w3 ⟨rfl, hb3⟩; have R3_0 := (hb3.block (w.heap.size) (by first | (simp; done) | (simp; omega) | omega)).trans ((Below.heap_alloc _ _ _ (by first | (simp; done) | (simp; omega) | omega)).trans HR2_0.out); have z3_0 : w.heap.size < w3.heap.size := Nat.lt_of_lt_of_le (by first | (simp; done) | (simp; omega) | omega) hb3.size; have HR3_0 : Hid _ := R3_0; clear R3_0; have R3_1 := (hb3.block (w.heap.size + 1) (by first | (simp; done) | (simp; omega) | omega)).trans ((Below.heap_alloc _ _ _ (by first | (simp; done) | (simp; omega) | omega)).trans HR2_1.out); have z3_1 : w.heap.size + 1 < w3.heap.size := Nat.lt_of_lt_of_le (by first | (simp; done) | (simp; omega) | omega) hb3.size; have HR3_1 : Hid _ := R3_1; clear R3_1; have R3_2 := (hb3.block (w.heap.size + 1 + 1) (by first | (simp; done) | (simp; omega) | omega)).trans ((Below.heap_alloc _ _ _ (by first | (simp; done) | (simp; omega) | omega)).trans HR2_2.out); have z3_2 : w.heap.size + 1 + 1 < w3.heap.size := Nat.lt_of_lt_of_le (by first | (simp; done) | (simp; omega) | omega) hb3.size; have HR3_2 : Hid _ := R3_2; clear R3_2; have R3_3 := (hb3.block (w2.heap.size) (by first | (simp; done) | (simp; omega) | omega)).trans (rownew' _ _ _ _ (by simp)); have z3_3 : w2.heap.size < w3.heap.size := Nat.lt_of_lt_of_le (by first | (simp; done) | (simp; omega) | omega) hb3.size; have c3_3_0 := rowcell R3_3 0; have c3_3_1 := rowcell R3_3 1; have c3_3_2 := rowcell R3_3 2; have c3_3_3 := rowcell R3_3 3; simp only [List.getElem?_toArray, List.getElem?_cons_zero, List.getElem?_cons_succ] at c3_3_0 c3_3_1 c3_3_2 c3_3_3; have HR3_3 : Hid _ := R3_3; clear R3_3; have HB3 : Hid (Below _ _ _) := hb3; clear hb3)
    | (go_at_call 28; go_must (refine (k1 _).mono ?_); rintro e w2 ⟨rfl, hb2⟩; have R2_0 := (hb2.block (w.heap.size) (by first | (simp; done) | (simp; omega) | omega)).trans HR1_0.out; have z2_0 : w.heap.size < w2.heap.size := Nat.lt_of_lt_of_le (by first | (simp; done) | (simp; omega) | omega) hb2.size; have c2_0_2 := rowcell R2_0 2; simp only [List.getElem?_toArray, List.getElem?_cons_zero, List.getElem?_cons_succ] at c2_0_2; have HR2_0 : Hid _ := R2_0; clear R2_0; have R2_1 := (hb2.block (w.heap.size + 1) (by first | (simp; done) | (simp; omega) | omega)).trans HR1_1.out; have z2_1 : w.heap.size + 1 < w2.heap.size := Nat.lt_of_lt_of_le (by first | (simp; done) | (simp; omega) | omega) hb2.size; have c2_1_2 := rowcell R2_1 2; have c2_1_3 := rowcell R2_1 3; simp only [List.getElem?_toArray, List.getElem?_cons_zero, List.getElem?_cons_succ] at c2_1_2 c2_1_3; have HR2_1 : Hid _ := R2_1; clear R2_1; have R2_2 := (hb2.block (w.heap.size + 1 + 1) (by first | (simp; done) | (simp; omega) | omega)).trans HR1_2.out; have z2_2 : w.heap.size + 1 + 1 < w2.heap.size := Nat.lt_of_lt_of_le (by first | (simp; done) | (simp; omega) | omega) hb2.size; have HR2_2 : Hid _ := R2_2; clear R2_2; have HB2 : Hid (Below _ _ _) := hb2; clear hb2)
    | (go_at_call 29; go_must (refine (k3 _).mono ?_); rintro e w4 ⟨rfl, hb4⟩; have R4_0 := (hb4.block (w.heap.size) (by first | (simp; done) | (simp; omega) | omega)).trans ((Below.heap_alloc _ _ _ (by first | (simp; done) | (simp; omega) | omega)).trans HR3_0.out); have z4_0 : w.heap.size < w4.heap.size := Nat.lt_of_lt_of_le (by first | (simp; done) | (simp; omega) | omega) hb4.size; have c4_0_1 := rowcell R4_0 1; simp only [List.getElem?_toArray, List.getElem?_cons_zero, List.getElem?_cons_succ] at c4_0_1; have HR4_0 : Hid _ := R4_0; clear R4_0; have R4_1 := (hb4.block (w.heap.size + 1) (by first | (simp; done) | (simp; omega) | omega)).trans ((Below.heap_alloc _ _ _ (by first | (simp; done) | (simp; omega) | omega)).trans HR3_1.out); have z4_1 : w.heap.size + 1 < w4.heap.size := Nat.lt_of_lt_of_le (by first | (simp; done) | (simp; omega) | omega) hb4.size; have c4_1_1 := rowcell R4_1 1; simp only [List.getElem?_toArray, List.getElem?_cons_zero, List.getElem?_cons_succ] at c4_1_1; have HR4_1 : Hid _ := R4_1; clear R4_1; have R4_2 := (hb4.block (w.heap.size + 1 + 1) (by first | (simp; done) | (simp; omega) | omega)).trans ((Below.heap_alloc _ _ _ (by first | (simp; done) | (simp; omega) | omega)).trans HR3_2.out); have z4_2 : w.heap.size + 1 + 1 < w4.heap.size := Nat.lt_of_lt_of_le (by first | (simp; done) | (simp; omega) | omega) hb4.size; have HR4_2 : Hid _ := R4_2; clear R4_2; have R4_3 := (hb4.block (w2.heap.size) (by first | (simp; done) | (simp; omega) | omega)).trans ((Below.heap_alloc _ _ _ (by first | (simp; done) | (simp; omega) | omega)).trans HR3_3.out); have z4_3 : w2.heap.size < w4.heap.size := Nat.lt_of_lt_of_le (by first | (simp; done) | (simp; omega) | omega) hb4.size; have c4_3_0 := rowcell R4_3 0; have c4_3_1 := rowcell R4_3 1; have c4_3_2 := rowcell R4_3 2; have c4_3_3 := rowcell R4_3 3; simp only [List.getElem?_toArray, List.getElem?_cons_zero, List.getElem?_cons_succ] at c4_3_0 c4_3_1 c4_3_2 c4_3_3; have HR4_3 : Hid _ := R4_3; clear R4_3; have R4_4 := (hb4.block (w3.heap.size) (by first | (simp; done) | (simp; omega) | omega)).trans (rownew' _ _ _ _ (by simp)); have z4_4 : w3.heap.size < w4.heap.size := Nat.lt_of_lt_of_le (by first | (simp; done) | (simp; omega) | omega) hb4.size; have c4_4_0 := rowcell R4_4 0; have c4_4_1 := rowcell R4_4 1; have c4_4_2 := rowcell R4_4 2; have c4_4_3 := rowcell R4_4 3; simp only [List.getElem?_toArray, List.getElem?_cons_zero, List.getElem?_cons_succ] at c4_4_0 c4_4_1 c4_4_2 c4_4_3; have HR4_4 : Hid _ := R4_4; clear R4_4; have HB4 : Hid (Below _ _ _) := hb4; clear hb4)
    | (go_at_call 30; go_must (refine (k4 _).mono ?_); rintro e w5 ⟨rfl, hb5⟩; have R5_0 := (hb5.block (w.heap.size) (by first | (simp; done) | (simp; omega) | omega)).trans ((Below.heap_alloc _ _ _ (by first | (simp; done) | (simp; omega) | omega)).trans HR4_0.out); have z5_0 : w.heap.size < w5.heap.size := Nat.lt_of_lt_of_le (by first | (simp; done) | (simp; omega) | omega) hb5.size; have HR5_0 : Hid _ := R5_0; clear R5_0; have R5_1 := (hb5.block (w.heap.size + 1) (by first | (simp; done) | (simp; omega) | omega)).trans ((Below.heap_alloc _ _ _ (by first | (simp; done) | (simp; omega) | omega)).trans HR4_1.out); have z5_1 : w.heap.size + 1 < w5.heap.size := Nat.lt_of_lt_of_le (by first | (simp; done) | (simp; omega) | omega) hb5.size; have HR5_1 : Hid _ := R5_1; clear R5_1; have R5_2 := (hb5.block (w.heap.size + 1 + 1) (by first | (simp; done) | (simp; omega) | omega)).trans ((Below.heap_alloc _ _ _ (by first | (simp; done) | (simp; omega) | omega)).trans HR4_2.out); have z5_2 : w.heap.size + 1 + 1 < w5.heap.size := Nat.lt_of_lt_of_le (by first | (simp; done) | (simp; omega) | omega) hb5.size; have c5_2_0 := rowcell R5_2 0; have c5_2_1 := rowcell R5_2 1; have c5_2_2 := rowcell R5_2 2; have c5_2_3 := rowcell R5_2 3; have c5_2_4 := rowcell R5_2 4; have c5_2_5 := rowcell R5_2 5; simp only [List.getElem?_toArray, List.getElem?_cons_zero, List.getElem?_cons_succ] at c5_2_0 c5_2_1 c5_2_2 c5_2_3 c5_2_4 c5_2_5; have HR5_2 : Hid _ := R5_2; clear R5_2; have R5_3 := (hb5.block (w2.heap.size) (by first | (simp; done) | (simp; omega) | omega)).trans ((Below.heap_alloc _ _ _ (by first | (simp; done) | (simp; omega) | omega)).trans HR4_3.out); have z5_3 : w2.heap.size < w5.heap.size := Nat.lt_of_lt_of_le (by first | (simp; done) | (simp; omega) | omega) hb5.size; have HR5_3 : Hid _ := R5_3; clear R5_3; have R5_4 := (hb5.block (w3.heap.size) (by first | (simp; done) | (simp; omega) | omega)).trans ((Below.heap_alloc _ _ _ (by first | (simp; done) | (simp; omega) | omega)).trans HR4_4.out); have z5_4 : w3.heap.size < w5.heap.size := Nat.lt_of_lt_of_le (by first | (simp; done) | (simp; omega) | omega) hb5.size; have HR5_4 : Hid _ := R5_4; clear R5_4; have R5_5 := (hb5.block (w4.heap.size) (by first | (simp; done) | (simp; omega) | omega)).trans (rownew' _ _ _ _ (by simp)); have z5_5 : w4.heap.size < w5.heap.size := Nat.lt_of_lt_of_le (by first | (simp; done) | (simp; omega) | omega) hb5.size; have c5_5_0 := rowcell R5_5 0; have c5_5_1 := rowcell R5_5 1; have c5_5_2 := rowcell R5_5 2; have c5_5_3 := rowcell R5_5 3; simp only [List.getElem?_toArray, List.getElem?_cons_zero, List.getElem?_cons_succ] at c5_5_0 c5_5_1 c5_5_2 c5_5_3; have HR5_5 : Hid _ := R5_5; clear R5_5; have HB5 : Hid (Below _ _ _) := hb5; clear hb5; have f5 := rowfree HR5_5.out; have f2 := rowfree HR5_2.out))
  refine bodyPost_ret (v := .agg #[.int .i64 0, .bool false, .int .i64 0, .int .u64 0, .int .u64 0, .bool false]) (by simp [results, Try.results18, go_sem, c5_2_0, c5_2_1, c5_2_2, c5_2_3, c5_2_4, c5_2_5, f2, z5_2]; done) rfl (hQ.out _ _ ⟨rfl, ?_⟩)
  exact cset6 (cset4 (cthen (cmore (cthen (cmore (cthen (cmore (cthen (HBW.out) HB2.out) _) HB3.out) _) HB4.out) _) HB5.out) (by omega)) (by omega)
set_option maxHeartbeats 4000000 in
theorem sreals_swap_same (ng : Bool) (sg : Int) (fg : Nat) (nl : Bool) (sl : Int) (fl : Nat) (z : Int) (D E : Int) (kk : Nat) (a0 a1 a2 a3 y0 y1 y2 y3 p0 p1 p2 p3 : Int) (r0 r1 r2 r3 u sc o : Int) (k : Nat) (t : Bool)
    (k0 : ∀ w, Calls Try.prog 27 #[numV 1 nl sl fl, numV 1 ng sg fg] w fun e w' => e = .returned (.int .i64 z) ∧ Below w.heap.size w w')
    (hz : decide (z < 0) = true)
    (k1 : ∀ w, Calls Try.prog 28 #[.int .u64 fg, .int .i64 191] w fun e w' => e = .returned (.agg #[.int .u64 a0, .int .u64 a1, .int .u64 a2, .int .u64 a3]) ∧ Below w.heap.size w w')
    (q1 : IntKind.i64.wrap (sg - sl) = D) (q2 : IntKind.i64.wrap (191 - D) = E) (q3 : (if E < 0 then 0 else E) = (kk : Int))
    (k2 : ∀ w, Calls Try.prog 28 #[.int .u64 fl, .int .i64 kk] w fun e w' => e = .returned (.agg #[.int .u64 y0, .int .u64 y1, .int .u64 y2, .int .u64 y3]) ∧ Below w.heap.size w w')
    (k3 : ∀ w, Calls Try.prog 29 #[.agg #[.int .u64 a0, .int .u64 a1, .int .u64 a2, .int .u64 a3], .agg #[.int .u64 y0, .int .u64 y1, .int .u64 y2, .int .u64 y3]] w fun e w' => e = .returned (.agg #[.int .u64 p0, .int .u64 p1, .int .u64 p2, .int .u64 p3]) ∧ Below w.heap.size w w')
    (hs : (ng == nl) = true)
    (h0 : (decide (p0 = 0) && decide (p1 = 0) && decide (p2 = 0) && decide (p3 = 0)) = false)
    (k5 : ∀ w, Calls Try.prog 31 #[.agg #[.int .u64 p0, .int .u64 p1, .int .u64 p2, .int .u64 p3]] w fun e w' => e = .returned (.tuple #[.agg #[.int .u64 r0, .int .u64 r1, .int .u64 r2, .int .u64 r3], .int .i64 k]) ∧ Below w.heap.size w w')
    (q4 : IntKind.i64.wrap (sg + 1) = u) (q5 : IntKind.i64.wrap (u - (k : Int)) = sc) (q6 : bits BinOp.or IntKind.u64 r1 r0 = o) (q7 : (o != 0) = t) (w : World) :
    Calls Try.prog 18 #[numV 1 nl sl fl, numV 1 ng sg fg] w fun e w' => e = .returned (.agg #[.int .i64 1, .bool ng, .int .i64 sc, .int .u64 r3, .int .u64 r2, .bool t]) ∧ Below w.heap.size w w' := by
  unfold numV at *
  have heq := eql_words p0 p1 p2 p3
  rw [h0] at heq
  refine cps fun Q hQ => ?_
  go_enter Try.func18, Try.ntmps18
  go_upto_region 3 with (go_at_call 27; go_must (refine (k0 _).mono ?_); rintro e wa ⟨rfl, hb1⟩; have RA_0 := (hb1.block (w.heap.size) (by first | (simp; done) | (simp; omega) | omega)).trans ((Below.heap_alloc _ _ _ (by first | (simp; done) | (simp; omega) | omega)).trans ((Below.heap_alloc _ _ _ (by first | (simp; done) | (simp; omega) | omega)).trans (rownew' _ _ _ _ (by simp)))); have za_0 : w.heap.size < wa.heap.size := Nat.lt_of_lt_of_le (by first | (simp; done) | (simp; omega) | omega) hb1.size; have ca_0_0 := rowcell RA_0 0; have ca_0_1 := rowcell RA_0 1; have ca_0_2 := rowcell RA_0 2; have ca_0_3 := rowcell RA_0 3; simp only [List.getElem?_toArray, List.getElem?_cons_zero, List.getElem?_cons_succ] at ca_0_0 ca_0_1 ca_0_2 ca_0_3; have HA1_0 : Hid _ := RA_0; clear RA_0; have RA_1 := (hb1.block (w.heap.size + 1) (by first | (simp; done) | (simp; omega) | omega)).trans ((Below.heap_alloc _ _ _ (by first | (simp; done) | (simp; omega) | omega)).trans (rownew' _ _ _ _ (by simp))); have za_1 : w.heap.size + 1 < wa.heap.size := Nat.lt_of_lt_of_le (by first | (simp; done) | (simp; omega) | omega) hb1.size; have ca_1_0 := rowcell RA_1 0; have ca_1_1 := rowcell RA_1 1; have ca_1_2 := rowcell RA_1 2; have ca_1_3 := rowcell RA_1 3; simp only [List.getElem?_toArray, List.getElem?_cons_zero, List.getElem?_cons_succ] at ca_1_0 ca_1_1 ca_1_2 ca_1_3; have HA1_1 : Hid _ := RA_1; clear RA_1; have RA_2 := (hb1.block (w.heap.size + 1 + 1) (by first | (simp; done) | (simp; omega) | omega)).trans (rownew' _ _ _ _ (by simp)); have za_2 : w.heap.size + 1 + 1 < wa.heap.size := Nat.lt_of_lt_of_le (by first | (simp; done) | (simp; omega) | omega) hb1.size; have HA1_2 : Hid _ := RA_2; clear RA_2; have HA1 : Hid (Below _ _ _) := hb1; clear hb1; have fr0 := rowfree HA1_0.out; have fr1 := rowfree HA1_1.out; have fr2 := rowfree HA1_2.out)
  generalize hw1 : World.setCell _ _ _ = w1
  have HR1_0 : Hid (w1.heap[w.heap.size]? = some (.cells #[.int .i64 1, .bool ng, .int .i64 sg, .int .u64 fg] 24 (0, 0))) := by show _ = _; rw [← hw1]; exact row4_other (row4 HA1_0.out) (by omega)
  have HR1_1 : Hid (w1.heap[w.heap.size + 1]? = some (.cells #[.int .i64 1, .bool nl, .int .i64 sl, .int .u64 fl] 24 (0, 0))) := by show _ = _; rw [← hw1]; exact row4 (row4_other HA1_1.out (by omega))
  have HR1_2 : Hid (w1.heap[w.heap.size + 1 + 1]? = some (.cells #[.int .i64 0, .bool false, .int .i64 0, .int .u64 0, .int .u64 0, .bool false] 27 (0, 0))) := by show _ = _; rw [← hw1]; exact row4_other (row4_other HA1_2.out (by omega)) (by omega)
  have HBW : Hid (Below w.heap.size w w1) := by show Below _ _ _; rw [← hw1]; exact cset4 (cset4 (cthen (cmore (cmore (cmore (Below.refl _ _) _) _) _) HA1.out) (Nat.le_refl _)) (by omega)
  clear ca_0_0 ca_0_1 ca_0_2 ca_0_3 ca_1_0 ca_1_1 ca_1_2 ca_1_3 fr0 fr1 fr2 hw1 za_0 za_1 za_2
  have z1_0 : w.heap.size < w1.heap.size := rowlt HR1_0.out
  have z1_1 : w.heap.size + 1 < w1.heap.size := rowlt HR1_1.out
  have z1_2 : w.heap.size + 1 + 1 < w1.heap.size := rowlt HR1_2.out
  have x3 := rowcell HR1_0.out 3
  simp only [List.getElem?_toArray, List.getElem?_cons_zero, List.getElem?_cons_succ] at x3
  go_wp2_with (first
    | (go_at_call 28; have chk := HB2; go_must (refine (k2 _).mono ?_); rintro e w3 ⟨rfl, hb3⟩; have R3_0 := (hb3.block (w.heap.size) (by first | (simp; done) | (simp; omega) | omega)).trans ((Below.heap_alloc _ _ _ (by first | (simp; done) | (simp; omega) | omega)).trans HR2_0.out); have z3_0 : w.heap.size < w3.heap.size := Nat.lt_of_lt_of_le (by first | (simp; done) | (simp; omega) | omega) hb3.size; have HR3_0 : Hid _ := R3_0; clear R3_0; have R3_1 := (hb3.block (w.heap.size + 1) (by first | (simp; done) | (simp; omega) | omega)).trans ((Below.heap_alloc _ _ _ (by first | (simp; done) | (simp; omega) | omega)).trans HR2_1.out); have z3_1 : w.heap.size + 1 < w3.heap.size := Nat.lt_of_lt_of_le (by first | (simp; done) | (simp; omega) | omega) hb3.size; have HR3_1 : Hid _ := R3_1; clear R3_1; have R3_2 := (hb3.block (w.heap.size + 1 + 1) (by first | (simp; done) | (simp; omega) | omega)).trans ((Below.heap_alloc _ _ _ (by first | (simp; done) | (simp; omega) | omega)).trans HR2_2.out); have z3_2 : w.heap.size + 1 + 1 < w3.heap.size := Nat.lt_of_lt_of_le (by first | (simp; done) | (simp; omega) | omega) hb3.size; have HR3_2 : Hid _ := R3_2; clear R3_2; have R3_3 := (hb3.block (w2.heap.size) (by first | (simp; done) | (simp; omega) | omega)).trans (rownew' _ _ _ _ (by simp)); have z3_3 : w2.heap.size < w3.heap.size := Nat.lt_of_lt_of_le (by first | (simp; done) | (simp; omega) | omega) hb3.size; have c3_3_0 := rowcell R3_3 0; have c3_3_1 := rowcell R3_3 1; have c3_3_2 := rowcell R3_3 2; have c3_3_3 := rowcell R3_3 3; simp only [List.getElem?_toArray, List.getElem?_cons_zero, List.getElem?_cons_succ] at c3_3_0 c3_3_1 c3_3_2 c3_3_3; have HR3_3 : Hid _ := R3_3; clear R3_3; have HB3 : Hid (Below _ _ _) := hb3; clear hb3)
    | (go_at_call 28; go_must (refine (k1 _).mono ?_); rintro e w2 ⟨rfl, hb2⟩; have R2_0 := (hb2.block (w.heap.size) (by first | (simp; done) | (simp; omega) | omega)).trans HR1_0.out; have z2_0 : w.heap.size < w2.heap.size := Nat.lt_of_lt_of_le (by first | (simp; done) | (simp; omega) | omega) hb2.size; have c2_0_2 := rowcell R2_0 2; simp only [List.getElem?_toArray, List.getElem?_cons_zero, List.getElem?_cons_succ] at c2_0_2; have HR2_0 : Hid _ := R2_0; clear R2_0; have R2_1 := (hb2.block (w.heap.size + 1) (by first | (simp; done) | (simp; omega) | omega)).trans HR1_1.out; have z2_1 : w.heap.size + 1 < w2.heap.size := Nat.lt_of_lt_of_le (by first | (simp; done) | (simp; omega) | omega) hb2.size; have c2_1_2 := rowcell R2_1 2; have c2_1_3 := rowcell R2_1 3; simp only [List.getElem?_toArray, List.getElem?_cons_zero, List.getElem?_cons_succ] at c2_1_2 c2_1_3; have HR2_1 : Hid _ := R2_1; clear R2_1; have R2_2 := (hb2.block (w.heap.size + 1 + 1) (by first | (simp; done) | (simp; omega) | omega)).trans HR1_2.out; have z2_2 : w.heap.size + 1 + 1 < w2.heap.size := Nat.lt_of_lt_of_le (by first | (simp; done) | (simp; omega) | omega) hb2.size; have HR2_2 : Hid _ := R2_2; clear R2_2; have HB2 : Hid (Below _ _ _) := hb2; clear hb2)
    | (go_at_call 29; go_must (refine (k3 _).mono ?_); rintro e w4 ⟨rfl, hb4⟩; have R4_0 := (hb4.block (w.heap.size) (by first | (simp; done) | (simp; omega) | omega)).trans ((Below.heap_alloc _ _ _ (by first | (simp; done) | (simp; omega) | omega)).trans HR3_0.out); have z4_0 : w.heap.size < w4.heap.size := Nat.lt_of_lt_of_le (by first | (simp; done) | (simp; omega) | omega) hb4.size; have c4_0_1 := rowcell R4_0 1; simp only [List.getElem?_toArray, List.getElem?_cons_zero, List.getElem?_cons_succ] at c4_0_1; have HR4_0 : Hid _ := R4_0; clear R4_0; have R4_1 := (hb4.block (w.heap.size + 1) (by first | (simp; done) | (simp; omega) | omega)).trans ((Below.heap_alloc _ _ _ (by first | (simp; done) | (simp; omega) | omega)).trans HR3_1.out); have z4_1 : w.heap.size + 1 < w4.heap.size := Nat.lt_of_lt_of_le (by first | (simp; done) | (simp; omega) | omega) hb4.size; have c4_1_1 := rowcell R4_1 1; simp only [List.getElem?_toArray, List.getElem?_cons_zero, List.getElem?_cons_succ] at c4_1_1; have HR4_1 : Hid _ := R4_1; clear R4_1; have R4_2 := (hb4.block (w.heap.size + 1 + 1) (by first | (simp; done) | (simp; omega) | omega)).trans ((Below.heap_alloc _ _ _ (by first | (simp; done) | (simp; omega) | omega)).trans HR3_2.out); have z4_2 : w.heap.size + 1 + 1 < w4.heap.size := Nat.lt_of_lt_of_le (by first | (simp; done) | (simp; omega) | omega) hb4.size; have HR4_2 : Hid _ := R4_2; clear R4_2; have R4_3 := (hb4.block (w2.heap.size) (by first | (simp; done) | (simp; omega) | omega)).trans ((Below.heap_alloc _ _ _ (by first | (simp; done) | (simp; omega) | omega)).trans HR3_3.out); have z4_3 : w2.heap.size < w4.heap.size := Nat.lt_of_lt_of_le (by first | (simp; done) | (simp; omega) | omega) hb4.size; have HR4_3 : Hid _ := R4_3; clear R4_3; have R4_4 := (hb4.block (w3.heap.size) (by first | (simp; done) | (simp; omega) | omega)).trans (rownew' _ _ _ _ (by simp)); have z4_4 : w3.heap.size < w4.heap.size := Nat.lt_of_lt_of_le (by first | (simp; done) | (simp; omega) | omega) hb4.size; have HR4_4 : Hid _ := R4_4; clear R4_4; have HB4 : Hid (Below _ _ _) := hb4; clear hb4)
    | (go_at_call 31; go_must (refine (k5 _).mono ?_); rintro e w5 ⟨rfl, hb5⟩; have R5_0 := (hb5.block (w.heap.size) (by first | (simp; done) | (simp; omega) | omega)).trans ((Below.heap_alloc _ _ _ (by first | (simp; done) | (simp; omega) | omega)).trans HR4_0.out); have z5_0 : w.heap.size < w5.heap.size := Nat.lt_of_lt_of_le (by first | (simp; done) | (simp; omega) | omega) hb5.size; have c5_0_1 := rowcell R5_0 1; have c5_0_2 := rowcell R5_0 2; simp only [List.getElem?_toArray, List.getElem?_cons_zero, List.getElem?_cons_succ] at c5_0_1 c5_0_2; have HR5_0 : Hid _ := R5_0; clear R5_0; have R5_1 := (hb5.block (w.heap.size + 1) (by first | (simp; done) | (simp; omega) | omega)).trans ((Below.heap_alloc _ _ _ (by first | (simp; done) | (simp; omega) | omega)).trans HR4_1.out); have z5_1 : w.heap.size + 1 < w5.heap.size := Nat.lt_of_lt_of_le (by first | (simp; done) | (simp; omega) | omega) hb5.size; have HR5_1 : Hid _ := R5_1; clear R5_1; have R5_2 := (hb5.block (w.heap.size + 1 + 1) (by first | (simp; done) | (simp; omega) | omega)).trans ((Below.heap_alloc _ _ _ (by first | (simp; done) | (simp; omega) | omega)).trans HR4_2.out); have z5_2 : w.heap.size + 1 + 1 < w5.heap.size := Nat.lt_of_lt_of_le (by first | (simp; done) | (simp; omega) | omega) hb5.size; have c5_2_0 := rowcell R5_2 0; have c5_2_1 := rowcell R5_2 1; have c5_2_2 := rowcell R5_2 2; have c5_2_3 := rowcell R5_2 3; have c5_2_4 := rowcell R5_2 4; have c5_2_5 := rowcell R5_2 5; simp only [List.getElem?_toArray, List.getElem?_cons_zero, List.getElem?_cons_succ] at c5_2_0 c5_2_1 c5_2_2 c5_2_3 c5_2_4 c5_2_5; have HR5_2 : Hid _ := R5_2; clear R5_2; have R5_3 := (hb5.block (w2.heap.size) (by first | (simp; done) | (simp; omega) | omega)).trans ((Below.heap_alloc _ _ _ (by first | (simp; done) | (simp; omega) | omega)).trans HR4_3.out); have z5_3 : w2.heap.size < w5.heap.size := Nat.lt_of_lt_of_le (by first | (simp; done) | (simp; omega) | omega) hb5.size; have HR5_3 : Hid _ := R5_3; clear R5_3; have R5_4 := (hb5.block (w3.heap.size) (by first | (simp; done) | (simp; omega) | omega)).trans ((Below.heap_alloc _ _ _ (by first | (simp; done) | (simp; omega) | omega)).trans HR4_4.out); have z5_4 : w3.heap.size < w5.heap.size := Nat.lt_of_lt_of_le (by first | (simp; done) | (simp; omega) | omega) hb5.size; have HR5_4 : Hid _ := R5_4; clear R5_4; have R5_5 := (hb5.block (w4.heap.size) (by first | (simp; done) | (simp; omega) | omega)).trans (rownew' _ _ _ _ (by simp)); have z5_5 : w4.heap.size < w5.heap.size := Nat.lt_of_lt_of_le (by first | (simp; done) | (simp; omega) | omega) hb5.size; have c5_5_0 := rowcell R5_5 0; have c5_5_1 := rowcell R5_5 1; have c5_5_2 := rowcell R5_5 2; have c5_5_3 := rowcell R5_5 3; simp only [List.getElem?_toArray, List.getElem?_cons_zero, List.getElem?_cons_succ] at c5_5_0 c5_5_1 c5_5_2 c5_5_3; have HR5_5 : Hid _ := R5_5; clear R5_5; have HB5 : Hid (Below _ _ _) := hb5; clear hb5; have g5 := rowfree HR5_5.out; have g2 := rowfree HR5_2.out))
  refine bodyPost_ret (v := .agg #[.int .i64 1, .bool ng, .int .i64 sc, .int .u64 r3, .int .u64 r2, .bool t]) (by simp [results, Try.results18, go_sem, c5_2_0, c5_2_1, c5_2_2, c5_2_3, c5_2_4, c5_2_5, g2, z5_2, q7]; done) rfl (hQ.out _ _ ⟨rfl, ?_⟩)
  exact cset6 (cset4 (cthen (cmore (cthen (cmore (cthen (cmore (cthen (HBW.out) HB2.out) _) HB3.out) _) HB4.out) _) HB5.out) (by omega)) (by omega)
set_option maxHeartbeats 4000000 in
theorem sreals_swap_diff (ng : Bool) (sg : Int) (fg : Nat) (nl : Bool) (sl : Int) (fl : Nat) (z : Int) (D E : Int) (kk : Nat) (a0 a1 a2 a3 y0 y1 y2 y3 p0 p1 p2 p3 : Int) (m0 m1 m2 m3 : Int) (r0 r1 r2 r3 u sc o : Int) (k : Nat) (t : Bool)
    (k0 : ∀ w, Calls Try.prog 27 #[numV 1 nl sl fl, numV 1 ng sg fg] w fun e w' => e = .returned (.int .i64 z) ∧ Below w.heap.size w w')
    (hz : decide (z < 0) = true)
    (k1 : ∀ w, Calls Try.prog 28 #[.int .u64 fg, .int .i64 191] w fun e w' => e = .returned (.agg #[.int .u64 a0, .int .u64 a1, .int .u64 a2, .int .u64 a3]) ∧ Below w.heap.size w w')
    (q1 : IntKind.i64.wrap (sg - sl) = D) (q2 : IntKind.i64.wrap (191 - D) = E) (q3 : (if E < 0 then 0 else E) = (kk : Int))
    (k2 : ∀ w, Calls Try.prog 28 #[.int .u64 fl, .int .i64 kk] w fun e w' => e = .returned (.agg #[.int .u64 y0, .int .u64 y1, .int .u64 y2, .int .u64 y3]) ∧ Below w.heap.size w w')
    (k3 : ∀ w, Calls Try.prog 29 #[.agg #[.int .u64 a0, .int .u64 a1, .int .u64 a2, .int .u64 a3], .agg #[.int .u64 y0, .int .u64 y1, .int .u64 y2, .int .u64 y3]] w fun e w' => e = .returned (.agg #[.int .u64 p0, .int .u64 p1, .int .u64 p2, .int .u64 p3]) ∧ Below w.heap.size w w')
    (hs : (ng == nl) = false)
    (k4 : ∀ w, Calls Try.prog 30 #[.agg #[.int .u64 a0, .int .u64 a1, .int .u64 a2, .int .u64 a3], .agg #[.int .u64 y0, .int .u64 y1, .int .u64 y2, .int .u64 y3]] w fun e w' => e = .returned (.agg #[.int .u64 m0, .int .u64 m1, .int .u64 m2, .int .u64 m3]) ∧ Below w.heap.size w w')
    (h0 : (decide (m0 = 0) && decide (m1 = 0) && decide (m2 = 0) && decide (m3 = 0)) = false)
    (k5 : ∀ w, Calls Try.prog 31 #[.agg #[.int .u64 m0, .int .u64 m1, .int .u64 m2, .int .u64 m3]] w fun e w' => e = .returned (.tuple #[.agg #[.int .u64 r0, .int .u64 r1, .int .u64 r2, .int .u64 r3], .int .i64 k]) ∧ Below w.heap.size w w')
    (q4 : IntKind.i64.wrap (sg + 1) = u) (q5 : IntKind.i64.wrap (u - (k : Int)) = sc) (q6 : bits BinOp.or IntKind.u64 r1 r0 = o) (q7 : (o != 0) = t) (w : World) :
    Calls Try.prog 18 #[numV 1 nl sl fl, numV 1 ng sg fg] w fun e w' => e = .returned (.agg #[.int .i64 1, .bool ng, .int .i64 sc, .int .u64 r3, .int .u64 r2, .bool t]) ∧ Below w.heap.size w w' := by
  unfold numV at *
  have heq := eql_words m0 m1 m2 m3
  rw [h0] at heq
  refine cps fun Q hQ => ?_
  go_enter Try.func18, Try.ntmps18
  go_upto_region 3 with (go_at_call 27; go_must (refine (k0 _).mono ?_); rintro e wa ⟨rfl, hb1⟩; have RA_0 := (hb1.block (w.heap.size) (by first | (simp; done) | (simp; omega) | omega)).trans ((Below.heap_alloc _ _ _ (by first | (simp; done) | (simp; omega) | omega)).trans ((Below.heap_alloc _ _ _ (by first | (simp; done) | (simp; omega) | omega)).trans (rownew' _ _ _ _ (by simp)))); have za_0 : w.heap.size < wa.heap.size := Nat.lt_of_lt_of_le (by first | (simp; done) | (simp; omega) | omega) hb1.size; have ca_0_0 := rowcell RA_0 0; have ca_0_1 := rowcell RA_0 1; have ca_0_2 := rowcell RA_0 2; have ca_0_3 := rowcell RA_0 3; simp only [List.getElem?_toArray, List.getElem?_cons_zero, List.getElem?_cons_succ] at ca_0_0 ca_0_1 ca_0_2 ca_0_3; have HA1_0 : Hid _ := RA_0; clear RA_0; have RA_1 := (hb1.block (w.heap.size + 1) (by first | (simp; done) | (simp; omega) | omega)).trans ((Below.heap_alloc _ _ _ (by first | (simp; done) | (simp; omega) | omega)).trans (rownew' _ _ _ _ (by simp))); have za_1 : w.heap.size + 1 < wa.heap.size := Nat.lt_of_lt_of_le (by first | (simp; done) | (simp; omega) | omega) hb1.size; have ca_1_0 := rowcell RA_1 0; have ca_1_1 := rowcell RA_1 1; have ca_1_2 := rowcell RA_1 2; have ca_1_3 := rowcell RA_1 3; simp only [List.getElem?_toArray, List.getElem?_cons_zero, List.getElem?_cons_succ] at ca_1_0 ca_1_1 ca_1_2 ca_1_3; have HA1_1 : Hid _ := RA_1; clear RA_1; have RA_2 := (hb1.block (w.heap.size + 1 + 1) (by first | (simp; done) | (simp; omega) | omega)).trans (rownew' _ _ _ _ (by simp)); have za_2 : w.heap.size + 1 + 1 < wa.heap.size := Nat.lt_of_lt_of_le (by first | (simp; done) | (simp; omega) | omega) hb1.size; have HA1_2 : Hid _ := RA_2; clear RA_2; have HA1 : Hid (Below _ _ _) := hb1; clear hb1; have fr0 := rowfree HA1_0.out; have fr1 := rowfree HA1_1.out; have fr2 := rowfree HA1_2.out)
  generalize hw1 : World.setCell _ _ _ = w1
  have HR1_0 : Hid (w1.heap[w.heap.size]? = some (.cells #[.int .i64 1, .bool ng, .int .i64 sg, .int .u64 fg] 24 (0, 0))) := by show _ = _; rw [← hw1]; exact row4_other (row4 HA1_0.out) (by omega)
  have HR1_1 : Hid (w1.heap[w.heap.size + 1]? = some (.cells #[.int .i64 1, .bool nl, .int .i64 sl, .int .u64 fl] 24 (0, 0))) := by show _ = _; rw [← hw1]; exact row4 (row4_other HA1_1.out (by omega))
  have HR1_2 : Hid (w1.heap[w.heap.size + 1 + 1]? = some (.cells #[.int .i64 0, .bool false, .int .i64 0, .int .u64 0, .int .u64 0, .bool false] 27 (0, 0))) := by show _ = _; rw [← hw1]; exact row4_other (row4_other HA1_2.out (by omega)) (by omega)
  have HBW : Hid (Below w.heap.size w w1) := by show Below _ _ _; rw [← hw1]; exact cset4 (cset4 (cthen (cmore (cmore (cmore (Below.refl _ _) _) _) _) HA1.out) (Nat.le_refl _)) (by omega)
  clear ca_0_0 ca_0_1 ca_0_2 ca_0_3 ca_1_0 ca_1_1 ca_1_2 ca_1_3 fr0 fr1 fr2 hw1 za_0 za_1 za_2
  have z1_0 : w.heap.size < w1.heap.size := rowlt HR1_0.out
  have z1_1 : w.heap.size + 1 < w1.heap.size := rowlt HR1_1.out
  have z1_2 : w.heap.size + 1 + 1 < w1.heap.size := rowlt HR1_2.out
  have x3 := rowcell HR1_0.out 3
  simp only [List.getElem?_toArray, List.getElem?_cons_zero, List.getElem?_cons_succ] at x3
  go_wp2_with (first
    | (go_at_call 28; have chk := HB2; go_must (refine (k2 _).mono ?_); rintro e w3 ⟨rfl, hb3⟩; have R3_0 := (hb3.block (w.heap.size) (by first | (simp; done) | (simp; omega) | omega)).trans ((Below.heap_alloc _ _ _ (by first | (simp; done) | (simp; omega) | omega)).trans HR2_0.out); have z3_0 : w.heap.size < w3.heap.size := Nat.lt_of_lt_of_le (by first | (simp; done) | (simp; omega) | omega) hb3.size; have HR3_0 : Hid _ := R3_0; clear R3_0; have R3_1 := (hb3.block (w.heap.size + 1) (by first | (simp; done) | (simp; omega) | omega)).trans ((Below.heap_alloc _ _ _ (by first | (simp; done) | (simp; omega) | omega)).trans HR2_1.out); have z3_1 : w.heap.size + 1 < w3.heap.size := Nat.lt_of_lt_of_le (by first | (simp; done) | (simp; omega) | omega) hb3.size; have HR3_1 : Hid _ := R3_1; clear R3_1; have R3_2 := (hb3.block (w.heap.size + 1 + 1) (by first | (simp; done) | (simp; omega) | omega)).trans ((Below.heap_alloc _ _ _ (by first | (simp; done) | (simp; omega) | omega)).trans HR2_2.out); have z3_2 : w.heap.size + 1 + 1 < w3.heap.size := Nat.lt_of_lt_of_le (by first | (simp; done) | (simp; omega) | omega) hb3.size; have HR3_2 : Hid _ := R3_2; clear R3_2; have R3_3 := (hb3.block (w2.heap.size) (by first | (simp; done) | (simp; omega) | omega)).trans (rownew' _ _ _ _ (by simp)); have z3_3 : w2.heap.size < w3.heap.size := Nat.lt_of_lt_of_le (by first | (simp; done) | (simp; omega) | omega) hb3.size; have c3_3_0 := rowcell R3_3 0; have c3_3_1 := rowcell R3_3 1; have c3_3_2 := rowcell R3_3 2; have c3_3_3 := rowcell R3_3 3; simp only [List.getElem?_toArray, List.getElem?_cons_zero, List.getElem?_cons_succ] at c3_3_0 c3_3_1 c3_3_2 c3_3_3; have HR3_3 : Hid _ := R3_3; clear R3_3; have HB3 : Hid (Below _ _ _) := hb3; clear hb3)
    | (go_at_call 28; go_must (refine (k1 _).mono ?_); rintro e w2 ⟨rfl, hb2⟩; have R2_0 := (hb2.block (w.heap.size) (by first | (simp; done) | (simp; omega) | omega)).trans HR1_0.out; have z2_0 : w.heap.size < w2.heap.size := Nat.lt_of_lt_of_le (by first | (simp; done) | (simp; omega) | omega) hb2.size; have c2_0_2 := rowcell R2_0 2; simp only [List.getElem?_toArray, List.getElem?_cons_zero, List.getElem?_cons_succ] at c2_0_2; have HR2_0 : Hid _ := R2_0; clear R2_0; have R2_1 := (hb2.block (w.heap.size + 1) (by first | (simp; done) | (simp; omega) | omega)).trans HR1_1.out; have z2_1 : w.heap.size + 1 < w2.heap.size := Nat.lt_of_lt_of_le (by first | (simp; done) | (simp; omega) | omega) hb2.size; have c2_1_2 := rowcell R2_1 2; have c2_1_3 := rowcell R2_1 3; simp only [List.getElem?_toArray, List.getElem?_cons_zero, List.getElem?_cons_succ] at c2_1_2 c2_1_3; have HR2_1 : Hid _ := R2_1; clear R2_1; have R2_2 := (hb2.block (w.heap.size + 1 + 1) (by first | (simp; done) | (simp; omega) | omega)).trans HR1_2.out; have z2_2 : w.heap.size + 1 + 1 < w2.heap.size := Nat.lt_of_lt_of_le (by first | (simp; done) | (simp; omega) | omega) hb2.size; have HR2_2 : Hid _ := R2_2; clear R2_2; have HB2 : Hid (Below _ _ _) := hb2; clear hb2)
    | (go_at_call 29; go_must (refine (k3 _).mono ?_); rintro e w4 ⟨rfl, hb4⟩; have R4_0 := (hb4.block (w.heap.size) (by first | (simp; done) | (simp; omega) | omega)).trans ((Below.heap_alloc _ _ _ (by first | (simp; done) | (simp; omega) | omega)).trans HR3_0.out); have z4_0 : w.heap.size < w4.heap.size := Nat.lt_of_lt_of_le (by first | (simp; done) | (simp; omega) | omega) hb4.size; have c4_0_1 := rowcell R4_0 1; simp only [List.getElem?_toArray, List.getElem?_cons_zero, List.getElem?_cons_succ] at c4_0_1; have HR4_0 : Hid _ := R4_0; clear R4_0; have R4_1 := (hb4.block (w.heap.size + 1) (by first | (simp; done) | (simp; omega) | omega)).trans ((Below.heap_alloc _ _ _ (by first | (simp; done) | (simp; omega) | omega)).trans HR3_1.out); have z4_1 : w.heap.size + 1 < w4.heap.size := Nat.lt_of_lt_of_le (by first | (simp; done) | (simp; omega) | omega) hb4.size; have c4_1_1 := rowcell R4_1 1; simp only [List.getElem?_toArray, List.getElem?_cons_zero, List.getElem?_cons_succ] at c4_1_1; have HR4_1 : Hid _ := R4_1; clear R4_1; have R4_2 := (hb4.block (w.heap.size + 1 + 1) (by first | (simp; done) | (simp; omega) | omega)).trans ((Below.heap_alloc _ _ _ (by first | (simp; done) | (simp; omega) | omega)).trans HR3_2.out); have z4_2 : w.heap.size + 1 + 1 < w4.heap.size := Nat.lt_of_lt_of_le (by first | (simp; done) | (simp; omega) | omega) hb4.size; have HR4_2 : Hid _ := R4_2; clear R4_2; have R4_3 := (hb4.block (w2.heap.size) (by first | (simp; done) | (simp; omega) | omega)).trans ((Below.heap_alloc _ _ _ (by first | (simp; done) | (simp; omega) | omega)).trans HR3_3.out); have z4_3 : w2.heap.size < w4.heap.size := Nat.lt_of_lt_of_le (by first | (simp; done) | (simp; omega) | omega) hb4.size; have c4_3_0 := rowcell R4_3 0; have c4_3_1 := rowcell R4_3 1; have c4_3_2 := rowcell R4_3 2; have c4_3_3 := rowcell R4_3 3; simp only [List.getElem?_toArray, List.getElem?_cons_zero, List.getElem?_cons_succ] at c4_3_0 c4_3_1 c4_3_2 c4_3_3; have HR4_3 : Hid _ := R4_3; clear R4_3; have R4_4 := (hb4.block (w3.heap.size) (by first | (simp; done) | (simp; omega) | omega)).trans (rownew' _ _ _ _ (by simp)); have z4_4 : w3.heap.size < w4.heap.size := Nat.lt_of_lt_of_le (by first | (simp; done) | (simp; omega) | omega) hb4.size; have c4_4_0 := rowcell R4_4 0; have c4_4_1 := rowcell R4_4 1; have c4_4_2 := rowcell R4_4 2; have c4_4_3 := rowcell R4_4 3; simp only [List.getElem?_toArray, List.getElem?_cons_zero, List.getElem?_cons_succ] at c4_4_0 c4_4_1 c4_4_2 c4_4_3; have HR4_4 : Hid _ := R4_4; clear R4_4; have HB4 : Hid (Below _ _ _) := hb4; clear hb4)
    | (go_at_call 30; go_must (refine (k4 _).mono ?_); rintro e w5 ⟨rfl, hb5⟩; have R5_0 := (hb5.block (w.heap.size) (by first | (simp; done) | (simp; omega) | omega)).trans ((Below.heap_alloc _ _ _ (by first | (simp; done) | (simp; omega) | omega)).trans HR4_0.out); have z5_0 : w.heap.size < w5.heap.size := Nat.lt_of_lt_of_le (by first | (simp; done) | (simp; omega) | omega) hb5.size; have HR5_0 : Hid _ := R5_0; clear R5_0; have R5_1 := (hb5.block (w.heap.size + 1) (by first | (simp; done) | (simp; omega) | omega)).trans ((Below.heap_alloc _ _ _ (by first | (simp; done) | (simp; omega) | omega)).trans HR4_1.out); have z5_1 : w.heap.size + 1 < w5.heap.size := Nat.lt_of_lt_of_le (by first | (simp; done) | (simp; omega) | omega) hb5.size; have HR5_1 : Hid _ := R5_1; clear R5_1; have R5_2 := (hb5.block (w.heap.size + 1 + 1) (by first | (simp; done) | (simp; omega) | omega)).trans ((Below.heap_alloc _ _ _ (by first | (simp; done) | (simp; omega) | omega)).trans HR4_2.out); have z5_2 : w.heap.size + 1 + 1 < w5.heap.size := Nat.lt_of_lt_of_le (by first | (simp; done) | (simp; omega) | omega) hb5.size; have HR5_2 : Hid _ := R5_2; clear R5_2; have R5_3 := (hb5.block (w2.heap.size) (by first | (simp; done) | (simp; omega) | omega)).trans ((Below.heap_alloc _ _ _ (by first | (simp; done) | (simp; omega) | omega)).trans HR4_3.out); have z5_3 : w2.heap.size < w5.heap.size := Nat.lt_of_lt_of_le (by first | (simp; done) | (simp; omega) | omega) hb5.size; have HR5_3 : Hid _ := R5_3; clear R5_3; have R5_4 := (hb5.block (w3.heap.size) (by first | (simp; done) | (simp; omega) | omega)).trans ((Below.heap_alloc _ _ _ (by first | (simp; done) | (simp; omega) | omega)).trans HR4_4.out); have z5_4 : w3.heap.size < w5.heap.size := Nat.lt_of_lt_of_le (by first | (simp; done) | (simp; omega) | omega) hb5.size; have HR5_4 : Hid _ := R5_4; clear R5_4; have R5_5 := (hb5.block (w4.heap.size) (by first | (simp; done) | (simp; omega) | omega)).trans (rownew' _ _ _ _ (by simp)); have z5_5 : w4.heap.size < w5.heap.size := Nat.lt_of_lt_of_le (by first | (simp; done) | (simp; omega) | omega) hb5.size; have c5_5_0 := rowcell R5_5 0; have c5_5_1 := rowcell R5_5 1; have c5_5_2 := rowcell R5_5 2; have c5_5_3 := rowcell R5_5 3; simp only [List.getElem?_toArray, List.getElem?_cons_zero, List.getElem?_cons_succ] at c5_5_0 c5_5_1 c5_5_2 c5_5_3; have HR5_5 : Hid _ := R5_5; clear R5_5; have HB5 : Hid (Below _ _ _) := hb5; clear hb5; have f5 := rowfree HR5_5.out; have f2 := rowfree HR5_2.out)
    | (go_at_call 31; go_must (refine (k5 _).mono ?_); rintro e w6 ⟨rfl, hb6⟩; have R6_0 := (hb6.block (w.heap.size) (by first | (simp; done) | (simp; omega) | omega)).trans (row4_other HR5_0.out (by omega)); have z6_0 : w.heap.size < w6.heap.size := Nat.lt_of_lt_of_le (by first | (simp; done) | (simp; omega) | omega) hb6.size; have c6_0_1 := rowcell R6_0 1; have c6_0_2 := rowcell R6_0 2; simp only [List.getElem?_toArray, List.getElem?_cons_zero, List.getElem?_cons_succ] at c6_0_1 c6_0_2; have HR6_0 : Hid _ := R6_0; clear R6_0; have R6_1 := (hb6.block (w.heap.size + 1) (by first | (simp; done) | (simp; omega) | omega)).trans (row4_other HR5_1.out (by omega)); have z6_1 : w.heap.size + 1 < w6.heap.size := Nat.lt_of_lt_of_le (by first | (simp; done) | (simp; omega) | omega) hb6.size; have HR6_1 : Hid _ := R6_1; clear R6_1; have R6_2 := (hb6.block (w.heap.size + 1 + 1) (by first | (simp; done) | (simp; omega) | omega)).trans (row4_other HR5_2.out (by omega)); have z6_2 : w.heap.size + 1 + 1 < w6.heap.size := Nat.lt_of_lt_of_le (by first | (simp; done) | (simp; omega) | omega) hb6.size; have c6_2_0 := rowcell R6_2 0; have c6_2_1 := rowcell R6_2 1; have c6_2_2 := rowcell R6_2 2; have c6_2_3 := rowcell R6_2 3; have c6_2_4 := rowcell R6_2 4; have c6_2_5 := rowcell R6_2 5; simp only [List.getElem?_toArray, List.getElem?_cons_zero, List.getElem?_cons_succ] at c6_2_0 c6_2_1 c6_2_2 c6_2_3 c6_2_4 c6_2_5; have HR6_2 : Hid _ := R6_2; clear R6_2; have R6_3 := (hb6.block (w2.heap.size) (by first | (simp; done) | (simp; omega) | omega)).trans (row4_other HR5_3.out (by omega)); have z6_3 : w2.heap.size < w6.heap.size := Nat.lt_of_lt_of_le (by first | (simp; done) | (simp; omega) | omega) hb6.size; have HR6_3 : Hid _ := R6_3; clear R6_3; have R6_4 := (hb6.block (w3.heap.size) (by first | (simp; done) | (simp; omega) | omega)).trans (row4_other HR5_4.out (by omega)); have z6_4 : w3.heap.size < w6.heap.size := Nat.lt_of_lt_of_le (by first | (simp; done) | (simp; omega) | omega) hb6.size; have HR6_4 : Hid _ := R6_4; clear R6_4; have R6_5 := (hb6.block (w4.heap.size) (by first | (simp; done) | (simp; omega) | omega)).trans (row4 HR5_5.out); have z6_5 : w4.heap.size < w6.heap.size := Nat.lt_of_lt_of_le (by first | (simp; done) | (simp; omega) | omega) hb6.size; have c6_5_0 := rowcell R6_5 0; have c6_5_1 := rowcell R6_5 1; have c6_5_2 := rowcell R6_5 2; have c6_5_3 := rowcell R6_5 3; simp only [List.getElem?_toArray, List.getElem?_cons_zero, List.getElem?_cons_succ] at c6_5_0 c6_5_1 c6_5_2 c6_5_3; have HR6_5 : Hid _ := R6_5; clear R6_5; have HB6 : Hid (Below _ _ _) := hb6; clear hb6; have g5 := rowfree HR6_5.out; have g2 := rowfree HR6_2.out))
  refine bodyPost_ret (v := .agg #[.int .i64 1, .bool ng, .int .i64 sc, .int .u64 r3, .int .u64 r2, .bool t]) (by simp [results, Try.results18, go_sem, c6_2_0, c6_2_1, c6_2_2, c6_2_3, c6_2_4, c6_2_5, g2, z6_2, q7]; done) rfl (hQ.out _ _ ⟨rfl, ?_⟩)
  exact cset6 (cset4 (cthen (cset4 (cthen (cmore (cthen (cmore (cthen (cmore (cthen (HBW.out) HB2.out) _) HB3.out) _) HB4.out) _) HB5.out) (by omega)) HB6.out) (by omega)) (by omega)
set_option maxHeartbeats 4000000 in
theorem sreals_swap_zero (ng : Bool) (sg : Int) (fg : Nat) (nl : Bool) (sl : Int) (fl : Nat) (z : Int) (D E : Int) (kk : Nat) (a0 a1 a2 a3 y0 y1 y2 y3 p0 p1 p2 p3 : Int) (m0 m1 m2 m3 : Int)
    (k0 : ∀ w, Calls Try.prog 27 #[numV 1 nl sl fl, numV 1 ng sg fg] w fun e w' => e = .returned (.int .i64 z) ∧ Below w.heap.size w w')
    (hz : decide (z < 0) = true)
    (k1 : ∀ w, Calls Try.prog 28 #[.int .u64 fg, .int .i64 191] w fun e w' => e = .returned (.agg #[.int .u64 a0, .int .u64 a1, .int .u64 a2, .int .u64 a3]) ∧ Below w.heap.size w w')
    (q1 : IntKind.i64.wrap (sg - sl) = D) (q2 : IntKind.i64.wrap (191 - D) = E) (q3 : (if E < 0 then 0 else E) = (kk : Int))
    (k2 : ∀ w, Calls Try.prog 28 #[.int .u64 fl, .int .i64 kk] w fun e w' => e = .returned (.agg #[.int .u64 y0, .int .u64 y1, .int .u64 y2, .int .u64 y3]) ∧ Below w.heap.size w w')
    (k3 : ∀ w, Calls Try.prog 29 #[.agg #[.int .u64 a0, .int .u64 a1, .int .u64 a2, .int .u64 a3], .agg #[.int .u64 y0, .int .u64 y1, .int .u64 y2, .int .u64 y3]] w fun e w' => e = .returned (.agg #[.int .u64 p0, .int .u64 p1, .int .u64 p2, .int .u64 p3]) ∧ Below w.heap.size w w')
    (hs : (ng == nl) = false)
    (k4 : ∀ w, Calls Try.prog 30 #[.agg #[.int .u64 a0, .int .u64 a1, .int .u64 a2, .int .u64 a3], .agg #[.int .u64 y0, .int .u64 y1, .int .u64 y2, .int .u64 y3]] w fun e w' => e = .returned (.agg #[.int .u64 m0, .int .u64 m1, .int .u64 m2, .int .u64 m3]) ∧ Below w.heap.size w w')
    (h0 : (decide (m0 = 0) && decide (m1 = 0) && decide (m2 = 0) && decide (m3 = 0)) = true) (w : World) :
    Calls Try.prog 18 #[numV 1 nl sl fl, numV 1 ng sg fg] w fun e w' => e = .returned (.agg #[.int .i64 0, .bool false, .int .i64 0, .int .u64 0, .int .u64 0, .bool false]) ∧ Below w.heap.size w w' := by
  unfold numV at *
  have heq := eql_words m0 m1 m2 m3
  rw [h0] at heq
  refine cps fun Q hQ => ?_
  go_enter Try.func18, Try.ntmps18
  go_upto_region 3 with (go_at_call 27; go_must (refine (k0 _).mono ?_); rintro e wa ⟨rfl, hb1⟩; have RA_0 := (hb1.block (w.heap.size) (by first | (simp; done) | (simp; omega) | omega)).trans ((Below.heap_alloc _ _ _ (by first | (simp; done) | (simp; omega) | omega)).trans ((Below.heap_alloc _ _ _ (by first | (simp; done) | (simp; omega) | omega)).trans (rownew' _ _ _ _ (by simp)))); have za_0 : w.heap.size < wa.heap.size := Nat.lt_of_lt_of_le (by first | (simp; done) | (simp; omega) | omega) hb1.size; have ca_0_0 := rowcell RA_0 0; have ca_0_1 := rowcell RA_0 1; have ca_0_2 := rowcell RA_0 2; have ca_0_3 := rowcell RA_0 3; simp only [List.getElem?_toArray, List.getElem?_cons_zero, List.getElem?_cons_succ] at ca_0_0 ca_0_1 ca_0_2 ca_0_3; have HA1_0 : Hid _ := RA_0; clear RA_0; have RA_1 := (hb1.block (w.heap.size + 1) (by first | (simp; done) | (simp; omega) | omega)).trans ((Below.heap_alloc _ _ _ (by first | (simp; done) | (simp; omega) | omega)).trans (rownew' _ _ _ _ (by simp))); have za_1 : w.heap.size + 1 < wa.heap.size := Nat.lt_of_lt_of_le (by first | (simp; done) | (simp; omega) | omega) hb1.size; have ca_1_0 := rowcell RA_1 0; have ca_1_1 := rowcell RA_1 1; have ca_1_2 := rowcell RA_1 2; have ca_1_3 := rowcell RA_1 3; simp only [List.getElem?_toArray, List.getElem?_cons_zero, List.getElem?_cons_succ] at ca_1_0 ca_1_1 ca_1_2 ca_1_3; have HA1_1 : Hid _ := RA_1; clear RA_1; have RA_2 := (hb1.block (w.heap.size + 1 + 1) (by first | (simp; done) | (simp; omega) | omega)).trans (rownew' _ _ _ _ (by simp)); have za_2 : w.heap.size + 1 + 1 < wa.heap.size := Nat.lt_of_lt_of_le (by first | (simp; done) | (simp; omega) | omega) hb1.size; have HA1_2 : Hid _ := RA_2; clear RA_2; have HA1 : Hid (Below _ _ _) := hb1; clear hb1; have fr0 := rowfree HA1_0.out; have fr1 := rowfree HA1_1.out; have fr2 := rowfree HA1_2.out)
  generalize hw1 : World.setCell _ _ _ = w1
  have HR1_0 : Hid (w1.heap[w.heap.size]? = some (.cells #[.int .i64 1, .bool ng, .int .i64 sg, .int .u64 fg] 24 (0, 0))) := by show _ = _; rw [← hw1]; exact row4_other (row4 HA1_0.out) (by omega)
  have HR1_1 : Hid (w1.heap[w.heap.size + 1]? = some (.cells #[.int .i64 1, .bool nl, .int .i64 sl, .int .u64 fl] 24 (0, 0))) := by show _ = _; rw [← hw1]; exact row4 (row4_other HA1_1.out (by omega))
  have HR1_2 : Hid (w1.heap[w.heap.size + 1 + 1]? = some (.cells #[.int .i64 0, .bool false, .int .i64 0, .int .u64 0, .int .u64 0, .bool false] 27 (0, 0))) := by show _ = _; rw [← hw1]; exact row4_other (row4_other HA1_2.out (by omega)) (by omega)
  have HBW : Hid (Below w.heap.size w w1) := by show Below _ _ _; rw [← hw1]; exact cset4 (cset4 (cthen (cmore (cmore (cmore (Below.refl _ _) _) _) _) HA1.out) (Nat.le_refl _)) (by omega)
  clear ca_0_0 ca_0_1 ca_0_2 ca_0_3 ca_1_0 ca_1_1 ca_1_2 ca_1_3 fr0 fr1 fr2 hw1 za_0 za_1 za_2
  have z1_0 : w.heap.size < w1.heap.size := rowlt HR1_0.out
  have z1_1 : w.heap.size + 1 < w1.heap.size := rowlt HR1_1.out
  have z1_2 : w.heap.size + 1 + 1 < w1.heap.size := rowlt HR1_2.out
  have x3 := rowcell HR1_0.out 3
  simp only [List.getElem?_toArray, List.getElem?_cons_zero, List.getElem?_cons_succ] at x3
  go_wp2_with (first
    | (go_at_call 28; have chk := HB2; go_must (refine (k2 _).mono ?_); rintro e w3 ⟨rfl, hb3⟩; have R3_0 := (hb3.block (w.heap.size) (by first | (simp; done) | (simp; omega) | omega)).trans ((Below.heap_alloc _ _ _ (by first | (simp; done) | (simp; omega) | omega)).trans HR2_0.out); have z3_0 : w.heap.size < w3.heap.size := Nat.lt_of_lt_of_le (by first | (simp; done) | (simp; omega) | omega) hb3.size; have HR3_0 : Hid _ := R3_0; clear R3_0; have R3_1 := (hb3.block (w.heap.size + 1) (by first | (simp; done) | (simp; omega) | omega)).trans ((Below.heap_alloc _ _ _ (by first | (simp; done) | (simp; omega) | omega)).trans HR2_1.out); have z3_1 : w.heap.size + 1 < w3.heap.size := Nat.lt_of_lt_of_le (by first | (simp; done) | (simp; omega) | omega) hb3.size; have HR3_1 : Hid _ := R3_1; clear R3_1; have R3_2 := (hb3.block (w.heap.size + 1 + 1) (by first | (simp; done) | (simp; omega) | omega)).trans ((Below.heap_alloc _ _ _ (by first | (simp; done) | (simp; omega) | omega)).trans HR2_2.out); have z3_2 : w.heap.size + 1 + 1 < w3.heap.size := Nat.lt_of_lt_of_le (by first | (simp; done) | (simp; omega) | omega) hb3.size; have HR3_2 : Hid _ := R3_2; clear R3_2; have R3_3 := (hb3.block (w2.heap.size) (by first | (simp; done) | (simp; omega) | omega)).trans (rownew' _ _ _ _ (by simp)); have z3_3 : w2.heap.size < w3.heap.size := Nat.lt_of_lt_of_le (by first | (simp; done) | (simp; omega) | omega) hb3.size; have c3_3_0 := rowcell R3_3 0; have c3_3_1 := rowcell R3_3 1; have c3_3_2 := rowcell R3_3 2; have c3_3_3 := rowcell R3_3 3; simp only [List.getElem?_toArray, List.getElem?_cons_zero, List.getElem?_cons_succ] at c3_3_0 c3_3_1 c3_3_2 c3_3_3; have HR3_3 : Hid _ := R3_3; clear R3_3; have HB3 : Hid (Below _ _ _) := hb3; clear hb3)
    | (go_at_call 28; go_must (refine (k1 _).mono ?_); rintro e w2 ⟨rfl, hb2⟩; have R2_0 := (hb2.block (w.heap.size) (by first | (simp; done) | (simp; omega) | omega)).trans HR1_0.out; have z2_0 : w.heap.size < w2.heap.size := Nat.lt_of_lt_of_le (by first | (simp; done) | (simp; omega) | omega) hb2.size; have c2_0_2 := rowcell R2_0 2; simp only [List.getElem?_toArray, List.getElem?_cons_zero, List.getElem?_cons_succ] at c2_0_2; have HR2_0 : Hid _ := R2_0; clear R2_0; have R2_1 := (hb2.block (w.heap.size + 1) (by first | (simp; done) | (simp; omega) | omega)).trans HR1_1.out; have z2_1 : w.heap.size + 1 < w2.heap.size := Nat.lt_of_lt_of_le (by first | (simp; done) | (simp; omega) | omega) hb2.size; have c2_1_2 := rowcell R2_1 2; have c2_1_3 := rowcell R2_1 3; simp only [List.getElem?_toArray, List.getElem?_cons_zero, List.getElem?_cons_succ] at c2_1_2 c2_1_3; have HR2_1 : Hid _ := R2_1; clear R2_1; have R2_2 := (hb2.block (w.heap.size + 1 + 1) (by first | (simp; done) | (simp; omega) | omega)).trans HR1_2.out; have z2_2 : w.heap.size + 1 + 1 < w2.heap.size := Nat.lt_of_lt_of_le (by first | (simp; done) | (simp; omega) | omega) hb2.size; have HR2_2 : Hid _ := R2_2; clear R2_2; have HB2 : Hid (Below _ _ _) := hb2; clear hb2)
    | (go_at_call 29; go_must (refine (k3 _).mono ?_); rintro e w4 ⟨rfl, hb4⟩; have R4_0 := (hb4.block (w.heap.size) (by first | (simp; done) | (simp; omega) | omega)).trans ((Below.heap_alloc _ _ _ (by first | (simp; done) | (simp; omega) | omega)).trans HR3_0.out); have z4_0 : w.heap.size < w4.heap.size := Nat.lt_of_lt_of_le (by first | (simp; done) | (simp; omega) | omega) hb4.size; have c4_0_1 := rowcell R4_0 1; simp only [List.getElem?_toArray, List.getElem?_cons_zero, List.getElem?_cons_succ] at c4_0_1; have HR4_0 : Hid _ := R4_0; clear R4_0; have R4_1 := (hb4.block (w.heap.size + 1) (by first | (simp; done) | (simp; omega) | omega)).trans ((Below.heap_alloc _ _ _ (by first | (simp; done) | (simp; omega) | omega)).trans HR3_1.out); have z4_1 : w.heap.size + 1 < w4.heap.size := Nat.lt_of_lt_of_le (by first | (simp; done) | (simp; omega) | omega) hb4.size; have c4_1_1 := rowcell R4_1 1; simp only [List.getElem?_toArray, List.getElem?_cons_zero, List.getElem?_cons_succ] at c4_1_1; have HR4_1 : Hid _ := R4_1; clear R4_1; have R4_2 := (hb4.block (w.heap.size + 1 + 1) (by first | (simp; done) | (simp; omega) | omega)).trans ((Below.heap_alloc _ _ _ (by first | (simp; done) | (simp; omega) | omega)).trans HR3_2.out); have z4_2 : w.heap.size + 1 + 1 < w4.heap.size := Nat.lt_of_lt_of_le (by first | (simp; done) | (simp; omega) | omega) hb4.size; have HR4_2 : Hid _ := R4_2; clear R4_2; have R4_3 := (hb4.block (w2.heap.size) (by first | (simp; done) | (simp; omega) | omega)).trans ((Below.heap_alloc _ _ _ (by first | (simp; done) | (simp; omega) | omega)).trans HR3_3.out); have z4_3 : w2.heap.size < w4.heap.size := Nat.lt_of_lt_of_le (by first | (simp; done) | (simp; omega) | omega) hb4.size; have c4_3_0 := rowcell R4_3 0; have c4_3_1 := rowcell R4_3 1; have c4_3_2 := rowcell R4_3 2; have c4_3_3 := rowcell R4_3 3; simp only [List.getElem?_toArray, List.getElem?_cons_zero, List.getElem?_cons_succ] at c4_3_0 c4_3_1 c4_3_2 c4_3_3; have HR4_3 : Hid _ := R4_3; clear R4_3; have R4_4 := (hb4.block (w3.heap.size) (by first | (simp; done) | (simp; omega) | omega)).trans (rownew' _ _ _ _ (by simp)); have z4_4 : w3.heap.size < w4.heap.size := Nat.lt_of_lt_of_le (by first | (simp; done) | (simp; omega) | omega) hb4.size; have c4_4_0 := rowcell R4_4 0; have c4_4_1 := rowcell R4_4 1; have c4_4_2 := rowcell R4_4 2; have c4_4_3 := rowcell R4_4 3; simp only [List.getElem?_toArray, List.getElem?_cons_zero, List.getElem?_cons_succ] at c4_4_0 c4_4_1 c4_4_2 c4_4_3; have HR4_4 : Hid _ := R4_4; clear R4_4; have HB4 : Hid (Below _ _ _) := hb4; clear hb4)
    | (go_at_call 30; go_must (refine (k4 _).mono ?_); rintro e w5 ⟨rfl, hb5⟩; have R5_0 := (hb5.block (w.heap.size) (by first | (simp; done) | (simp; omega) | omega)).trans ((Below.heap_alloc _ _ _ (by first | (simp; done) | (simp; omega) | omega)).trans HR4_0.out); have z5_0 : w.heap.size < w5.heap.size := Nat.lt_of_lt_of_le (by first | (simp; done) | (simp; omega) | omega) hb5.size; have HR5_0 : Hid _ := R5_0; clear R5_0; have R5_1 := (hb5.block (w.heap.size + 1) (by first | (simp; done) | (simp; omega) | omega)).trans ((Below.heap_alloc _ _ _ (by first | (simp; done) | (simp; omega) | omega)).trans HR4_1.out); have z5_1 : w.heap.size + 1 < w5.heap.size := Nat.lt_of_lt_of_le (by first | (simp; done) | (simp; omega) | omega) hb5.size; have HR5_1 : Hid _ := R5_1; clear R5_1; have R5_2 := (hb5.block (w.heap.size + 1 + 1) (by first | (simp; done) | (simp; omega) | omega)).trans ((Below.heap_alloc _ _ _ (by first | (simp; done) | (simp; omega) | omega)).trans HR4_2.out); have z5_2 : w.heap.size + 1 + 1 < w5.heap.size := Nat.lt_of_lt_of_le (by first | (simp; done) | (simp; omega) | omega) hb5.size; have c5_2_0 := rowcell R5_2 0; have c5_2_1 := rowcell R5_2 1; have c5_2_2 := rowcell R5_2 2; have c5_2_3 := rowcell R5_2 3; have c5_2_4 := rowcell R5_2 4; have c5_2_5 := rowcell R5_2 5; simp only [List.getElem?_toArray, List.getElem?_cons_zero, List.getElem?_cons_succ] at c5_2_0 c5_2_1 c5_2_2 c5_2_3 c5_2_4 c5_2_5; have HR5_2 : Hid _ := R5_2; clear R5_2; have R5_3 := (hb5.block (w2.heap.size) (by first | (simp; done) | (simp; omega) | omega)).trans ((Below.heap_alloc _ _ _ (by first | (simp; done) | (simp; omega) | omega)).trans HR4_3.out); have z5_3 : w2.heap.size < w5.heap.size := Nat.lt_of_lt_of_le (by first | (simp; done) | (simp; omega) | omega) hb5.size; have HR5_3 : Hid _ := R5_3; clear R5_3; have R5_4 := (hb5.block (w3.heap.size) (by first | (simp; done) | (simp; omega) | omega)).trans ((Below.heap_alloc _ _ _ (by first | (simp; done) | (simp; omega) | omega)).trans HR4_4.out); have z5_4 : w3.heap.size < w5.heap.size := Nat.lt_of_lt_of_le (by first | (simp; done) | (simp; omega) | omega) hb5.size; have HR5_4 : Hid _ := R5_4; clear R5_4; have R5_5 := (hb5.block (w4.heap.size) (by first | (simp; done) | (simp; omega) | omega)).trans (rownew' _ _ _ _ (by simp)); have z5_5 : w4.heap.size < w5.heap.size := Nat.lt_of_lt_of_le (by first | (simp; done) | (simp; omega) | omega) hb5.size; have c5_5_0 := rowcell R5_5 0; have c5_5_1 := rowcell R5_5 1; have c5_5_2 := rowcell R5_5 2; have c5_5_3 := rowcell R5_5 3; simp only [List.getElem?_toArray, List.getElem?_cons_zero, List.getElem?_cons_succ] at c5_5_0 c5_5_1 c5_5_2 c5_5_3; have HR5_5 : Hid _ := R5_5; clear R5_5; have HB5 : Hid (Below _ _ _) := hb5; clear hb5; have f5 := rowfree HR5_5.out; have f2 := rowfree HR5_2.out))
  refine bodyPost_ret (v := .agg #[.int .i64 0, .bool false, .int .i64 0, .int .u64 0, .int .u64 0, .bool false]) (by simp [results, Try.results18, go_sem, c5_2_0, c5_2_1, c5_2_2, c5_2_3, c5_2_4, c5_2_5, f2, z5_2]; done) rfl (hQ.out _ _ ⟨rfl, ?_⟩)
  exact cset6 (cset4 (cthen (cmore (cthen (cmore (cthen (cmore (cthen (HBW.out) HB2.out) _) HB3.out) _) HB4.out) _) HB5.out) (by omega)) (by omega)
end Go.Proofs.Ytmkdnhdbgoehgaa

namespace Go.Proofs.Ytmkdnhdbgoehgaa
set_option maxRecDepth 100000
set_option linter.unusedVariables false
set_option linter.unusedSimpArgs false

/-! ### sums as whole numbers times a power of 2 (plain mathematics) -/
/-- a whole number times 2^e, its first 128 digits -/
def exI (T : Int) (e : Int) : Value := exactV (decide (T < 0)) T.natAbs e false
def sg (neg : Bool) (N : Nat) : Int := if neg then -(N : Int) else N
theorem exactV_zero (neg : Bool) (e : Int) (r : Bool) : exactV neg 0 e r = exV 0 false 0 0 0 false := by unfold exactV; rw [if_pos rfl]
theorem exI_sg (neg : Bool) (N : Nat) (e : Int) : exI (sg neg N) e = exactV neg N e false := by
  by_cases h : N = 0
  · subst h
    have : sg neg 0 = 0 := by unfold sg; cases neg <;> rfl
    rw [this, exactV_zero]
    show exactV _ 0 e false = _
    rw [exactV_zero]
  · unfold exI sg
    cases neg
    · rw [if_neg (by decide), Int.natAbs_natCast, decide_eq_false (by omega)]
    · rw [if_pos rfl, Int.natAbs_neg, Int.natAbs_natCast, decide_eq_true (by omega)]
theorem sg_mul (neg : Bool) (N c : Nat) : sg neg (N * c) = sg neg N * c := by unfold sg; cases neg <;> simp [Int.neg_mul]
theorem exI_two (T : Int) (j : Nat) (e : Int) : exI (T * ((2 ^ j : Nat) : Int)) (e - j) = exI T e := by
  have h : ∃ neg N, T = sg neg N := by
    by_cases h : T < 0
    · exact ⟨true, T.natAbs, by unfold sg; rw [if_pos rfl]; omega⟩
    · exact ⟨false, T.natAbs, by unfold sg; rw [if_neg (by decide)]; omega⟩
  obtain ⟨neg, N, rfl⟩ := h
  rw [← sg_mul, exI_sg, exI_sg, exactV_two]
theorem exI_same (T : Int) (j j' : Nat) (e e' : Int) (h : e + j = e' + j') : exI (T * ((2 ^ j : Nat) : Int)) e = exI (T * ((2 ^ j' : Nat) : Int)) e' := by
  have a := exI_two T j (e + j)
  have b := exI_two T j' (e' + j')
  rw [show e + (j : Int) - j = e by omega] at a
  rw [show e' + (j' : Int) - j' = e' by omega] at b
  rw [a, b, h]
def farD : Nat := 400
theorem farD_eq : farD = 400 := rfl
/-- what the document's Sum answers where the first scale is no less -/
def sumD (neg : Bool) (s : Int) (M : Nat) (neg' : Bool) (s' : Int) (M' : Nat) : Value :=
  let d := if 400 < s - s' then farD else (s - s').toNat
  let b := if 400 < s - s' then 1 else M'
  if neg = neg' then exactV neg (M * 2 ^ d + b) (s - 127 - d) false
  else if b ≤ M * 2 ^ d then exactV neg (M * 2 ^ d - b) (s - 127 - d) false
  else exactV neg' (b - M * 2 ^ d) (s - 127 - d) false
/-- without the bound on the distance -/
theorem sumD_near (neg : Bool) (s : Int) (M : Nat) (neg' : Bool) (s' : Int) (M' : Nat) (hM : Mant M) (hM' : Mant M') (h : s' ≤ s) (d : Nat) (hd : (d : Int) = s - s') :
    sumD neg s M neg' s' M' = if neg = neg' then exactV neg (M * 2 ^ d + M') (s - 127 - d) false else if M' ≤ M * 2 ^ d then exactV neg (M * 2 ^ d - M') (s - 127 - d) false else exactV neg' (M' - M * 2 ^ d) (s - 127 - d) false := by
  unfold sumD
  by_cases hf : 400 < s - s'
  · simp only [if_pos hf]
    have hd4 : 400 < d := by omega
    obtain ⟨m1, m2⟩ := hM'
    have m0 : 1 ≤ M' := Nat.le_trans Nat.one_le_two_pow m1
    have hlt : ∀ k, 128 ≤ k → M' < 2 ^ k := fun k hk => Nat.lt_of_lt_of_le m2 (Nat.pow_le_pow_right (by decide) hk)
    have h1k : ∀ k, 1 ≤ k → 1 < 2 ^ k := fun k hk => Nat.lt_of_lt_of_le (by decide : 1 < 2 ^ 1) (Nat.pow_le_pow_right (by decide) hk)
    have hbig : ∀ k B, 128 ≤ k → B < 2 ^ k → B ≤ M * 2 ^ k := fun k B hk hB => Nat.le_trans (Nat.le_of_lt hB) (Nat.le_mul_of_pos_left _ (by have := hM.1; have := Nat.pow_pos (n := 127) (show 0 < 2 by decide); omega))
    by_cases hn : neg = neg'
    · rw [if_pos hn, if_pos hn]
      have a := far_add neg s (M := M) (B := 1) (d := farD) hM (Nat.le_refl _) (h1k farD (by rw [farD_eq]; omega))
      have b := far_add neg s (M := M) (B := M') (d := d) hM m0 (hlt _ (by omega))
      rw [b]
      exact a
    · rw [if_neg hn, if_neg hn, if_pos (hbig farD 1 (by rw [farD_eq]; omega) (h1k farD (by rw [farD_eq]; omega))), if_pos (hbig d M' (by omega) (hlt _ (by omega)))]
      have a := far_sub neg s (M := M) (B := 1) (d := farD - 1) hM (Nat.le_refl _) (h1k (farD - 1) (by rw [farD_eq]; omega))
      rw [show farD - 1 + 1 = farD by rw [farD_eq]] at a
      have b := far_sub neg s (M := M) (B := M') (d := d - 1) hM m0 (hlt _ (by omega))
      rw [show d - 1 + 1 = d by omega] at b
      rw [b]
      exact a
  · simp only [if_neg hf]
    rw [show (s - s').toNat = d by omega]
theorem sg_add (neg : Bool) (A B : Nat) : sg neg A + sg neg B = sg neg (A + B) := by unfold sg; cases neg <;> simp <;> omega
theorem sg_sub (neg neg' : Bool) (A B : Nat) (h : neg ≠ neg') : sg neg A + sg neg' B = if B ≤ A then sg neg (A - B) else sg neg' (B - A) := by
  unfold sg
  cases neg <;> cases neg' <;> simp at h ⊢ <;> split <;> omega
/-- it is the sum of two whole numbers times a power of 2 -/
theorem sumD_int (neg : Bool) (s : Int) (M : Nat) (neg' : Bool) (s' : Int) (M' : Nat) (hM : Mant M) (hM' : Mant M') (h : s' ≤ s) (e : Int) (j j' : Nat) (hj : e + j = s) (hj' : e + j' = s') :
    sumD neg s M neg' s' M' = exI (sg neg M * ((2 ^ j : Nat) : Int) + sg neg' M' * ((2 ^ j' : Nat) : Int)) (e - 127) := by
  obtain ⟨d, hd⟩ : ∃ d : Nat, (d : Int) = s - s' := ⟨(s - s').toNat, by omega⟩
  rw [sumD_near neg s M neg' s' M' hM hM' h d hd]
  have hjd : j = d + j' := by omega
  have e1 : sg neg M * ((2 ^ j : Nat) : Int) + sg neg' M' * ((2 ^ j' : Nat) : Int) = (sg neg (M * 2 ^ d) + sg neg' M') * ((2 ^ j' : Nat) : Int) := by
    rw [hjd, Nat.pow_add, sg_mul, Int.add_mul, Int.natCast_mul, Int.mul_assoc]
  have e2 : e - 127 = s - 127 - d - j' := by omega
  rw [e1, e2, exI_two]
  by_cases hn : neg = neg'
  · subst hn
    rw [if_pos rfl, sg_add, exI_sg]
  · rw [if_neg hn, sg_sub _ _ _ _ hn]
    split
    · rw [exI_sg]
    · rw [exI_sg]
/-- the document's Sum of two numbers -/
def sumR (neg : Bool) (s : Int) (M : Nat) (neg' : Bool) (s' : Int) (M' : Nat) : Value := if s < s' then sumD neg' s' M' neg s M else sumD neg s M neg' s' M'
theorem sumR_int (neg : Bool) (s : Int) (M : Nat) (neg' : Bool) (s' : Int) (M' : Nat) (hM : Mant M) (hM' : Mant M') (e : Int) (j j' : Nat) (hj : e + j = s) (hj' : e + j' = s') :
    sumR neg s M neg' s' M' = exI (sg neg M * ((2 ^ j : Nat) : Int) + sg neg' M' * ((2 ^ j' : Nat) : Int)) (e - 127) := by
  unfold sumR
  by_cases h : s < s'
  · rw [if_pos h, sumD_int neg' s' M' neg s M hM' hM (by omega) e j' j hj' hj, Int.add_comm]
  · rw [if_neg h, sumD_int neg s M neg' s' M' hM hM' (by omega) e j j' hj hj']
/-- a number itself -/
theorem exI_real (neg : Bool) (s : Int) (hi lo : Nat) (h : WordsX hi lo) (hs : -1099511627776 ≤ s ∧ s ≤ 1099511627776) (e : Int) (j : Nat) (hj : e + j = s) :
    exI (sg neg (manX hi lo) * ((2 ^ j : Nat) : Int)) (e - 127) = exV 1 neg s hi lo false := by
  rw [show e - 127 = s - 127 - j by omega, exI_two, exI_sg]
  have hm := h.mant
  obtain ⟨b, nn, ll⟩ := @norm_at (manX hi lo) 0 hm.1 hm.2
  have h0 : manX hi lo ≠ 0 := by have := hm.1; have := Nat.pow_pos (n := 127) (show 0 < 2 by decide); omega
  unfold exactV
  rw [if_neg h0, b, nn, ll, Nat.pow_zero, Nat.div_one, Nat.mod_one]
  obtain ⟨a1, a2, a3⟩ := h
  have hx : heldX (s - 127 + ((128 + 0 : Nat) : Int) - 1) = s := by unfold heldX; rw [if_neg (by omega), if_neg (by omega)]; omega
  have w1 : manX hi lo / 2 ^ 64 % 2 ^ 64 = hi := by unfold manX; omega
  have w2 : manX hi lo % 2 ^ 64 = lo := by unfold manX; omega
  rw [hx, w1, w2]
  rfl
end Go.Proofs.Ytmkdnhdbgoehgaa

namespace Go.Proofs.Ytmkdnhdbgoehgaa
set_option maxRecDepth 100000
set_option linter.unusedVariables false
set_option linter.unusedSimpArgs false

/-! ### rounding whole numbers times a power of 2: it rises (plain mathematics) -/
theorem zX_rise {s s' : Int} {hi lo hi' lo' : Nat} {r r' : Bool} (h : WordsX hi lo) (h' : WordsX hi' lo') (h1 : -316 ≤ s) (h2 : s' < 312)
    (hle : s < s' ∨ (s = s' ∧ 2 * manX hi lo + r.toNat ≤ 2 * manX hi' lo' + r'.toNat)) : zX s hi lo r ≤ zX s' hi' lo' r' := by
  unfold zX
  have b1 : r.toNat ≤ 1 := by cases r <;> decide
  rcases hle with hl | ⟨rfl, hM⟩
  · have := zed_lt h.mant h'.mant h1 h2 (.inl hl)
    omega
  · rcases Nat.lt_or_ge (manX hi lo) (manX hi' lo') with c | c
    · have := zed_lt h.mant h'.mant h1 h2 (.inr ⟨rfl, c⟩)
      omega
    · have b2 : r'.toNat ≤ 1 := by cases r' <;> decide
      have e : manX hi lo = manX hi' lo' := by omega
      rw [e] at hM ⊢
      omega
theorem rnd_riseR (n : Nat) (s s' : Int) (hi lo hi' lo' : Nat) (r r' : Bool) (hn : Wd n) (h : WordsX hi lo) (h' : WordsX hi' lo')
    (hle : s < s' ∨ (s = s' ∧ 2 * manX hi lo + r.toNat ≤ 2 * manX hi' lo' + r'.toNat)) : rndX n s hi lo r ≤ rndX n s' hi' lo' r' := by
  have r1 := rnd_range n s hi lo r hn h
  have r2 := rnd_range n s' hi' lo' r' hn h'
  have hw := wd_le hn
  rcases mid_or n s (justX hi lo r) with hm | c1 | ⟨c0, c1⟩
  · rcases mid_or n s' (justX hi' lo' r') with hm' | c2 | ⟨c3, c2⟩
    · rw [(rnd_mid n s hi lo r hn h hm).1, (rnd_mid n s' hi' lo' r' hn h' hm').1]
      obtain ⟨a1, a2, _⟩ := hm
      obtain ⟨b1, b2, _⟩ := hm'
      exact rhe_mono _ (Nat.pow_pos (by decide)) (zX_rise h h' (by omega) (by omega) hle)
    · rw [rnd_top n s' hi' lo' r' c2]; exact r1.2
    · exfalso
      obtain ⟨a1, a2, a3⟩ := hm
      have hs : s = 8 - 4 * (n : Int) ∧ s' = s := by
        clear r1 r2 a3 h h'
        rcases hle with hl | ⟨hl, _⟩ <;> rcases c2 with c2 | ⟨c2, _⟩ <;> omega
      have hM : 2 * manX hi lo + r.toNat ≤ 2 * manX hi' lo' + r'.toNat := by
        rcases hle with hl | ⟨_, hl⟩
        · exfalso; clear r1 r2 a3 h h' c2; omega
        · exact hl
      have hj : justX hi' lo' r' = true := by
        rcases c2 with c2 | ⟨_, c2⟩
        · exfalso; clear r1 r2 a3 h h' hM; omega
        · exact c2
      obtain ⟨e0, e1⟩ := (justX_iff h' r').1 hj
      have h3 := h.mant.1
      rw [e0, e1] at hM
      have hr : r = false := by
        cases r
        · rfl
        · exfalso; simp only [Bool.toNat_true, Bool.toNat_false] at hM; omega
      refine a3 ⟨hs.1, (justX_iff h r).2 ⟨hr, ?_⟩⟩
      rw [hr] at hM
      simp only [Bool.toNat_false] at hM
      omega
  · have c2 : 4 * (n : Int) - 8 ≤ s' := by clear r1 r2 h h'; omega
    rw [rnd_top n s' hi' lo' r' c2]; exact r1.2
  · rw [rnd_low n s hi lo r c0 c1]; exact r2.1
/-- a whole number above 0 times 2^e, rounded -/
def mgI (n N : Nat) (e : Int) (r : Bool) : Nat := rndX n (heldX (e + blen N - 1)) (normN N / 2 ^ 64 % 2 ^ 64) (normN N % 2 ^ 64) (r || lostN N)
theorem man_norm {N : Nat} (h : N ≠ 0) : manX (normN N / 2 ^ 64 % 2 ^ 64) (normN N % 2 ^ 64) = normN N := by
  have h2 := (normN_mant h).2
  unfold manX
  generalize normN N = M at *
  omega
theorem blen_mono {N N' : Nat} (h : N ≤ N') : blen N ≤ blen N' := blen_le.2 (Nat.lt_of_le_of_lt h (blen_hi N'))
theorem norm_mono {N N' : Nat} (h : N ≤ N') (hb : blen N = blen N') : 2 * normN N + (lostN N).toNat ≤ 2 * normN N' + (lostN N').toNat := by
  unfold normN lostN
  rw [← hb]
  by_cases h1 : blen N < 128
  · rw [if_pos h1, if_pos h1, decide_eq_false (show ¬ 128 < blen N by omega), Bool.false_and, Bool.false_and]
    exact Nat.add_le_add_right (Nat.mul_le_mul_left 2 (Nat.mul_le_mul_right _ h)) _
  · rw [if_neg h1, if_neg h1]
    generalize decide (128 < blen N) = c
    have hp : 0 < 2 ^ (blen N - 128) := Nat.pow_pos (by decide)
    generalize 2 ^ (blen N - 128) = G at *
    have e1 := Nat.div_add_mod N G
    have e2 := Nat.div_add_mod N' G
    have hq : N / G ≤ N' / G := Nat.div_le_div_right h
    have b1 : (c && decide (N % G ≠ 0)).toNat ≤ 1 := by generalize (c && decide (N % G ≠ 0)) = x; cases x <;> decide
    rcases Nat.lt_or_ge (N / G) (N' / G) with hl | hg
    · omega
    · have e : N / G = N' / G := by omega
      rw [e] at e1 ⊢
      refine Nat.add_le_add_left ?_ _
      cases c
      · exact Nat.le_refl _
      · by_cases hz : N % G = 0
        · rw [decide_eq_false (fun x => x hz)]
          exact Nat.zero_le _
        · have : N' % G ≠ 0 := by omega
          rw [decide_eq_true hz, decide_eq_true this]
          exact Nat.le_refl _
/-- far from the bounds on scales -/
def Near (N : Nat) (e : Int) : Prop := -1099511627776 ≤ e - 1 ∧ e + blen N ≤ 1099511627776
theorem near_held {N : Nat} {e : Int} (h : Near N e) : heldX (e + blen N - 1) = e + blen N - 1 := by
  obtain ⟨a, b⟩ := h
  unfold heldX; rw [if_neg (by omega), if_neg (by omega)]
theorem near_le {N N' : Nat} {e : Int} (h : Near N' e) (hl : N ≤ N') : Near N e := by
  have := blen_mono hl
  obtain ⟨a, b⟩ := h
  exact ⟨a, by omega⟩
theorem mgI_mono {n N N' : Nat} {e : Int} (hn : Wd n) (h0 : N ≠ 0) (h : N ≤ N') (hr : Near N' e) : mgI n N e false ≤ mgI n N' e false := by
  have h0' : N' ≠ 0 := by omega
  have hb := blen_mono h
  unfold mgI
  rw [near_held hr, near_held (near_le hr h), Bool.false_or, Bool.false_or]
  refine rnd_riseR n _ _ _ _ _ _ _ _ hn (normN_words h0) (normN_words h0') ?_
  rcases Nat.lt_or_ge (blen N) (blen N') with c | c
  · exact .inl (by omega)
  · have e1 : blen N = blen N' := by omega
    refine .inr ⟨by rw [e1], ?_⟩
    rw [man_norm h0, man_norm h0']
    exact norm_mono h e1
theorem mgI_range {n N : Nat} (e : Int) (r : Bool) (hn : Wd n) (h0 : N ≠ 0) : 1 ≤ mgI n N e r ∧ mgI n N e r ≤ 2 ^ (n - 1) - 1 := rnd_range n _ _ _ _ hn (normN_words h0)
/-- the rank, and the pattern, of a whole number times 2^e -/
def rkI (n : Nat) (T e : Int) : Int := if T = 0 then 0 else if T < 0 then -(mgI n T.natAbs e false : Int) else mgI n T.natAbs e false
def patI (n : Nat) (T e : Int) : Nat := if T = 0 then 0 else patR n (decide (T < 0)) (mgI n T.natAbs e false)
theorem rkI_mono {n : Nat} {T T' e : Int} (hn : Wd n) (h : T ≤ T') (hr : Near T.natAbs e) (hr' : Near T'.natAbs e) : rkI n T e ≤ rkI n T' e := by
  unfold rkI
  by_cases h1 : T = 0
  · rw [if_pos h1]
    by_cases h2 : T' = 0
    · rw [if_pos h2]; exact Int.le_refl _
    · rw [if_neg h2, if_neg (by omega)]; omega
  · rw [if_neg h1]
    by_cases h3 : T < 0
    · rw [if_pos h3]
      have a := (mgI_range e false hn (show T.natAbs ≠ 0 by omega)).1
      by_cases h2 : T' = 0
      · rw [if_pos h2]; omega
      · rw [if_neg h2]
        by_cases h4 : T' < 0
        · rw [if_pos h4]
          have := mgI_mono hn (show T'.natAbs ≠ 0 by omega) (show T'.natAbs ≤ T.natAbs by omega) hr
          omega
        · rw [if_neg h4]; omega
    · rw [if_neg h3, if_neg (by omega), if_neg (by omega)]
      have := mgI_mono hn (show T.natAbs ≠ 0 by omega) (show T.natAbs ≤ T'.natAbs by omega) hr'
      omega
theorem rkI_neg (n : Nat) (T e : Int) : rkI n (-T) e = -rkI n T e := by
  unfold rkI
  rw [Int.natAbs_neg]
  by_cases h1 : T = 0
  · rw [if_pos h1, if_pos (by omega)]; rfl
  · rw [if_neg h1, if_neg (by omega)]
    by_cases h2 : T < 0
    · rw [if_pos h2, if_neg (by omega)]; omega
    · rw [if_neg h2, if_pos (by omega)]
theorem patI_rank {n : Nat} (T e : Int) (hn : Wd n) : extOf (patI n T e) n = rkI n T e := by
  unfold patI rkI
  by_cases h1 : T = 0
  · rw [if_pos h1, if_pos h1]; exact extOf_nought n
  · rw [if_neg h1, if_neg h1]
    obtain ⟨a, b⟩ := mgI_range e false hn (show T.natAbs ≠ 0 by omega)
    rw [extOf_patR n hn _ _ a b]
    by_cases h2 : T < 0
    · rw [decide_eq_true h2, if_pos rfl, if_pos h2]
    · rw [decide_eq_false h2, if_neg (by decide), if_neg h2]
theorem patI_lt {n : Nat} (T e : Int) (hn : Wd n) : patI n T e < 2 ^ n ∧ patI n T e ≠ 2 ^ (n - 1) := by
  obtain ⟨H, e1, e2, e3, _⟩ := wd_pows hn
  unfold patI
  by_cases h1 : T = 0
  · rw [if_pos h1]; omega
  · rw [if_neg h1]
    obtain ⟨a, b⟩ := mgI_range e false hn (show T.natAbs ≠ 0 by omega)
    unfold patR
    split <;> omega
theorem patI_neg {n : Nat} (T e : Int) (hn : Wd n) : patI n (-T) e = (2 ^ n - patI n T e) % 2 ^ n := by
  obtain ⟨H, e1, e2, e3, _⟩ := wd_pows hn
  unfold patI
  rw [Int.natAbs_neg]
  by_cases h1 : T = 0
  · rw [if_pos h1, if_pos (by omega), Nat.sub_zero, Nat.mod_self]
  · rw [if_neg h1, if_neg (by omega)]
    obtain ⟨a, b⟩ := mgI_range e false hn (show T.natAbs ≠ 0 by omega)
    unfold patR
    by_cases h2 : T < 0
    · rw [decide_eq_true h2, decide_eq_false (show ¬ -T < 0 by omega)]
      simp only [Bool.false_eq_true, if_false, if_true]
      rw [Nat.mod_eq_of_lt (by omega)]; omega
    · rw [decide_eq_false h2, decide_eq_true (show -T < 0 by omega)]
      simp only [Bool.false_eq_true, if_false, if_true]
      rw [Nat.mod_eq_of_lt (by omega)]
end Go.Proofs.Ytmkdnhdbgoehgaa

namespace Go.Proofs.Ytmkdnhdbgoehgaa
open Go.ChangeShapes Go.WideShapes Go.ChangeAt Go.RowKit
set_option linter.unusedVariables false
set_option linter.unusedSimpArgs false
set_option maxRecDepth 100000

/-! ### ranks, neighbours, signs: what is answered -/
def cmpR (n a b : Nat) : Int := if extOf a n < extOf b n then -1 else if extOf a n > extOf b n then 1 else 0
def minO (n a b : Nat) : Nat := if cmpR n a b < 0 then a % 2 ^ n else b % 2 ^ n
def maxO (n a b : Nat) : Nat := if 0 < cmpR n a b then a % 2 ^ n else b % 2 ^ n
def stepO (n p by' last : Nat) : Nat := if p % 2 ^ n = 2 ^ (n - 1) ∨ p % 2 ^ n = last then p % 2 ^ n else (p % 2 ^ n + by') % 2 ^ 64 % 2 ^ n
def nextO (n p : Nat) : Nat := stepO n p 1 (2 ^ (n - 1) - 1)
def prevO (n p : Nat) : Nat := stepO n p 18446744073709551615 ((2 ^ (n - 1) + 1) % 2 ^ 64)
def negO (n p : Nat) : Nat := minusU p % 2 ^ n
def absO (n p : Nat) : Nat := if extOf p n < 0 then negO n p else p % 2 ^ n
def narB (n p : Nat) : Bool := decide (p % 2 ^ n = 2 ^ (n - 1))
def stepsO (n a b : Nat) : Nat := u64Of (if extOf a n < extOf b n then extOf b n - extOf a n else extOf a n - extOf b n)
theorem cmpR_cases (n a b : Nat) : (cmpR n a b = -1 ∧ extOf a n < extOf b n) ∨ (cmpR n a b = 1 ∧ extOf b n < extOf a n) ∨ (cmpR n a b = 0 ∧ extOf a n = extOf b n) := by
  unfold cmpR
  by_cases h : extOf a n < extOf b n
  · rw [if_pos h]; exact .inl ⟨rfl, h⟩
  · rw [if_neg h]
    by_cases h2 : extOf a n > extOf b n
    · rw [if_pos h2]; exact .inr (.inl ⟨rfl, h2⟩)
    · rw [if_neg h2]; exact .inr (.inr ⟨rfl, by omega⟩)
theorem cmps8_no (n : Int) (a b : Nat) (hn : isW n = false) (w : World) :
    Calls Try.prog 25 #[.int .i64 n, .int .u64 a, .int .u64 b] w fun e w' => e = .returned (.tuple #[.int .i64 0, .int .i64 2]) ∧ Below w.heap.size w w' := by
  have k1 := rrank_no n a hn
  have k2 := rrank_no n b hn
  clear hn
  refine cps fun Q hQ => ?_
  go_enter Try.func25, Try.ntmps25
  go_wp2_with (first
    | (go_at_call_of 45 a; refine (k1 _).mono ?_; rintro e wx ⟨rfl, hwx⟩; rw [hwx]; clear hwx wx)
    | (go_at_call 45; refine (k2 _).mono ?_; rintro e wx ⟨rfl, hwx⟩; rw [hwx]; clear hwx wx))
  exact hQ.out _ _ ⟨rfl, Below.refl _ _⟩
theorem cmps8_ok (n a b : Nat) (hn : Wd n) (w : World) :
    Calls Try.prog 25 #[.int .i64 n, .int .u64 a, .int .u64 b] w fun e w' => e = .returned (.tuple #[.int .i64 (cmpR n a b), .int .i64 0]) ∧ Below w.heap.size w w' := by
  have k1 := rrank_ok n a hn
  have k2 := rrank_ok n b hn
  clear hn
  have hc := cmpR_cases n a b
  generalize cmpR n a b = c at *
  generalize extOf a n = x at *
  generalize extOf b n = y at *
  refine cps fun Q hQ => ?_
  rcases hc with ⟨rfl, h⟩ | ⟨rfl, h⟩ | ⟨rfl, h⟩
  · have d1 : decide (x < y) = true := decide_eq_true h
    clear h
    go_enter Try.func25, Try.ntmps25
    go_wp2_with (first
      | (go_at_call_of 45 a; refine (k1 _).mono ?_; rintro e w1 ⟨rfl, hb1⟩)
      | (go_at_call 45; refine (k2 _).mono ?_; rintro e w2 ⟨rfl, hb2⟩))
    exact hQ.out _ _ ⟨rfl, bthenS hb1 hb2⟩
  · have d1 : decide (x < y) = false := decide_eq_false (by omega)
    have d2 : decide (y < x) = true := decide_eq_true h
    clear h
    go_enter Try.func25, Try.ntmps25
    go_wp2_with (first
      | (go_at_call_of 45 a; refine (k1 _).mono ?_; rintro e w1 ⟨rfl, hb1⟩)
      | (go_at_call 45; refine (k2 _).mono ?_; rintro e w2 ⟨rfl, hb2⟩))
    exact hQ.out _ _ ⟨rfl, bthenS hb1 hb2⟩
  · have d1 : decide (x < y) = false := decide_eq_false (by omega)
    have d2 : decide (y < x) = false := decide_eq_false (by omega)
    clear h
    go_enter Try.func25, Try.ntmps25
    go_wp2_with (first
      | (go_at_call_of 45 a; refine (k1 _).mono ?_; rintro e w1 ⟨rfl, hb1⟩)
      | (go_at_call 45; refine (k2 _).mono ?_; rintro e w2 ⟨rfl, hb2⟩))
    exact hQ.out _ _ ⟨rfl, bthenS hb1 hb2⟩
theorem cmp8_ok (n a b : Nat) (hn : Wd n) (w : World) :
    Calls Try.prog 16 #[.int .i64 n, .int .u64 a, .int .u64 b] w fun e w' => e = .returned (.int .i64 (cmpR n a b)) ∧ Below w.heap.size w w' := by
  have k1 := cmps8_ok n a b hn
  clear hn
  generalize cmpR n a b = c at *
  refine cps fun Q hQ => ?_
  go_enter Try.func16, Try.ntmps16
  go_wp2_with (go_at_call 25; refine (k1 _).mono ?_; rintro e w1 ⟨rfl, hb1⟩)
  exact hQ.out _ _ ⟨rfl, hb1⟩
/-! ### steps -/
end Go.Proofs.Ytmkdnhdbgoehgaa

namespace Go.Proofs.Ytmkdnhdbgoehgaa
open Go.ChangeShapes Go.WideShapes Go.ChangeAt Go.RowKit
set_option linter.unusedVariables false
set_option linter.unusedSimpArgs false
set_option maxRecDepth 100000

theorem u64_sub (x y : Int) : IntKind.u64.wrap (IntKind.u64.wrap x - IntKind.u64.wrap y) = (u64Of (x - y) : Int) := by
  rw [IntKind.wrap_u64, IntKind.wrap_u64, IntKind.wrap_u64]; unfold u64Of; omega
def clampV (n p lo hi : Nat) : Int × Nat := if narB n p ∨ narB n lo ∨ narB n hi then (9, 0) else if 0 < cmpR n lo hi then (1, 0) else (0, minO n (maxO n p lo) hi)
end Go.Proofs.Ytmkdnhdbgoehgaa

namespace Go.Proofs.Ytmkdnhdbgoehgaa
open Go.ChangeShapes Go.WideShapes Go.ChangeAt Go.RowKit
set_option linter.unusedVariables false
set_option linter.unusedSimpArgs false
set_option maxRecDepth 100000

/-! ### ranks (plain mathematics) -/
theorem extOf_val (n x : Nat) (hn : Wd n) : extOf x n = if x % 2 ^ n < 2 ^ (n - 1) then ((x % 2 ^ n : Nat) : Int) else ((x % 2 ^ n : Nat) : Int) - ((2 ^ n : Nat) : Int) := by
  obtain ⟨H, h1, h2, h3, _⟩ := wd_pows hn
  have hw := wd_le hn
  have hm := Nat.mod_lt x (show 0 < 2 ^ n by omega)
  have ht := top_of n _ hn hm
  rw [← testBit_low x n (by omega)] at ht
  unfold extOf
  rw [ht]
  by_cases h : x % 2 ^ n < 2 ^ (n - 1)
  · rw [if_pos h, decide_eq_false (by omega)]; simp
  · rw [if_neg h, decide_eq_true (by omega)]; simp
theorem mod_mod64 (n z : Nat) (hn : Wd n) : z % 2 ^ 64 % 2 ^ n = z % 2 ^ n := Nat.mod_mod_of_dvd z (Nat.pow_dvd_pow 2 (wd_le hn).2)
theorem rank_range (n x : Nat) (hn : Wd n) : ∃ H : Nat, 2 ^ n = 2 * H ∧ 2 ^ (n - 1) = H ∧ 128 ≤ H ∧ -(H : Int) ≤ extOf x n ∧ extOf x n ≤ (H : Int) - 1 ∧ (narB n x = true ↔ extOf x n = -(H : Int)) ∧ H ≤ 9223372036854775808 := by
  obtain ⟨H, h1, h2, h3, q, hq, hq1⟩ := wd_pows hn
  have hm := Nat.mod_lt x (show 0 < 2 ^ n by omega)
  refine ⟨H, h1, h2, h3, ?_, ?_, ?_, ?_⟩
  · rw [extOf_val n x hn]; split <;> omega
  · rw [extOf_val n x hn]; split <;> omega
  · rw [extOf_val n x hn]
    unfold narB
    rw [decide_eq_true_eq]
    constructor
    · intro h; rw [if_neg (by omega)]; omega
    · intro h; split at h <;> omega
  · have := (two_pow_lt hn).2; omega
theorem rank_mod (n x : Nat) (hn : Wd n) : extOf (x % 2 ^ n) n = extOf x n := by
  rw [extOf_val n _ hn, extOf_val n x hn, Nat.mod_mod]
theorem rank_next (n p : Nat) (hn : Wd n) (H : Nat) (h2 : 2 ^ (n - 1) = H) : extOf (nextO n p) n = if extOf p n = -(H : Int) ∨ extOf p n = (H : Int) - 1 then extOf p n else extOf p n + 1 := by
  obtain ⟨H', h1, h2', h3, q, hq, hq1⟩ := wd_pows hn
  have hH : H' = H := by omega
  subst hH
  have hm := Nat.mod_lt p (show 0 < 2 ^ n by omega)
  unfold nextO stepO
  rw [mod_mod64 n _ hn]
  have e := extOf_val n p hn
  by_cases hc : p % 2 ^ n = 2 ^ (n - 1) ∨ p % 2 ^ n = 2 ^ (n - 1) - 1
  · rw [if_pos hc, rank_mod n p hn, if_pos (by rw [e]; split <;> omega)]
  · rw [if_neg hc, if_neg (by rw [e]; split <;> omega), extOf_val n _ hn, Nat.mod_mod, e]
    rw [h1] at *
    generalize p % (2 * H') = y at *
    by_cases h : y + 1 = 2 * H'
    · rw [h, Nat.mod_self]
      rw [if_pos (by omega), if_neg (by omega)]; omega
    · rw [Nat.mod_eq_of_lt (by omega)]
      split <;> split <;> omega
theorem rank_prev (n p : Nat) (hn : Wd n) (H : Nat) (h2 : 2 ^ (n - 1) = H) : extOf (prevO n p) n = if extOf p n = -(H : Int) ∨ extOf p n = 1 - (H : Int) then extOf p n else extOf p n - 1 := by
  obtain ⟨H', h1, h2', h3, q, hq, hq1⟩ := wd_pows hn
  have hH : H' = H := by omega
  subst hH
  have hm := Nat.mod_lt p (show 0 < 2 ^ n by omega)
  have hle := (two_pow_lt hn).2
  unfold prevO stepO
  rw [mod_mod64 n _ hn, Nat.mod_eq_of_lt (show 2 ^ (n - 1) + 1 < 2 ^ 64 by omega)]
  have e := extOf_val n p hn
  by_cases hc : p % 2 ^ n = 2 ^ (n - 1) ∨ p % 2 ^ n = 2 ^ (n - 1) + 1
  · rw [if_pos hc, rank_mod n p hn, if_pos (by rw [e]; split <;> omega)]
  · rw [if_neg hc, if_neg (by rw [e]; split <;> omega), extOf_val n _ hn, Nat.mod_mod, e]
    rw [h1] at *
    generalize p % (2 * H') = y at *
    by_cases h : y = 0
    · subst h
      have e2 : (0 + 18446744073709551615) % (2 * H') = 2 * H' - 1 := by
        rw [show 0 + 18446744073709551615 = (2 * H' - 1) + (2 * H') * (q - 1) by
          have : (2 * H') * (q - 1) + 2 * H' = 18446744073709551616 := by rw [← Nat.mul_succ, show (q - 1).succ = q by omega, hq, Nat.mul_comm]
          omega, Nat.add_mul_mod_self_left, Nat.mod_eq_of_lt (by omega)]
      rw [e2, if_neg (by omega), if_pos (by omega)]; omega
    · have e2 : (y + 18446744073709551615) % (2 * H') = y - 1 := by
        rw [show y + 18446744073709551615 = (y - 1) + (2 * H') * q by
          have : (2 * H') * q = 18446744073709551616 := by rw [hq, Nat.mul_comm]
          omega, Nat.add_mul_mod_self_left, Nat.mod_eq_of_lt (by omega)]
      rw [e2]
      split <;> split <;> omega
theorem rank_min (n a b : Nat) (hn : Wd n) : extOf (minO n a b) n = min (extOf a n) (extOf b n) := by
  unfold minO
  rcases cmpR_cases n a b with ⟨h, h2⟩ | ⟨h, h2⟩ | ⟨h, h2⟩ <;> rw [h]
  · rw [if_pos (by decide), rank_mod n a hn]; omega
  · rw [if_neg (by decide), rank_mod n b hn]; omega
  · rw [if_neg (by decide), rank_mod n b hn]; omega
theorem rank_max (n a b : Nat) (hn : Wd n) : extOf (maxO n a b) n = max (extOf a n) (extOf b n) := by
  unfold maxO
  rcases cmpR_cases n a b with ⟨h, h2⟩ | ⟨h, h2⟩ | ⟨h, h2⟩ <;> rw [h]
  · rw [if_neg (by decide), rank_mod n b hn]; omega
  · rw [if_pos (by decide), rank_mod n a hn]; omega
  · rw [if_neg (by decide), rank_mod n b hn]; omega
theorem rank_neg (n p : Nat) (hn : Wd n) (hp : p < 2 ^ 64) (hk : narB n p = false) : extOf (negO n p) n = -extOf p n := by
  obtain ⟨H, h1, h2, h3, _⟩ := wd_pows hn
  have hm := Nat.mod_lt p (show 0 < 2 ^ n by omega)
  unfold negO
  rw [minusU_mod n p hn hp, extOf_val n _ hn, extOf_val n p hn, Nat.mod_mod]
  unfold narB at hk
  have hk2 : ¬ p % 2 ^ n = 2 ^ (n - 1) := of_decide_eq_false hk
  rw [h1, h2] at *
  generalize p % (2 * H) = y at *
  by_cases h : y = 0
  · subst h; rw [Nat.sub_zero, Nat.mod_self, if_pos (by omega)]; simp
  · rw [Nat.mod_eq_of_lt (a := 2 * H - y) (by omega)]
    split <;> split <;> omega
/-- one on and one back; Min, Max, Clamp -/
theorem chain_facts (n p q : Nat) (hn : Wd n) :
    (cmpR n p (nextO n p) ≤ 0 ∧ stepsO n p (nextO n p) ≤ 1 ∧ (cmpR n p (nextO n p) = 0 ↔ stepsO n p (nextO n p) = 0)) ∧
    (stepsO n p (nextO n p) = 1 → cmpR n p (prevO n (nextO n p)) = 0) ∧
    stepsO n (minO n p q) (maxO n p q) = stepsO n q p ∧
    (∀ A, ((clampV n A (minO n p q) (maxO n p q)).1 = 9 ∧ (clampV n A (minO n p q) (maxO n p q)).2 = 0) ∨ ((clampV n A (minO n p q) (maxO n p q)).1 = 0 ∧ 0 ≤ cmpR n (clampV n A (minO n p q) (maxO n p q)).2 (minO n p q) ∧ 0 ≤ cmpR n (maxO n p q) (clampV n A (minO n p q) (maxO n p q)).2)) := by
  obtain ⟨H, h1, h2, h3, r1, r2, r3, h4⟩ := rank_range n p hn
  have e1 := rank_next n p hn H h2
  have e2 := rank_prev n (nextO n p) hn H h2
  have c1 := cmpR_cases n p (nextO n p)
  have c2 := cmpR_cases n p (prevO n (nextO n p))
  have s1 : stepsO n p (nextO n p) = u64Of (if extOf p n < extOf (nextO n p) n then extOf (nextO n p) n - extOf p n else extOf p n - extOf (nextO n p) n) := rfl
  have us : ∀ t : Int, 0 ≤ t → t ≤ 18446744073709551615 → ((u64Of t : Nat) : Int) = t := fun t a b => by unfold u64Of; omega
  have hs : (stepsO n p (nextO n p) = 0 ∧ extOf (nextO n p) n = extOf p n) ∨ (stepsO n p (nextO n p) = 1 ∧ extOf (nextO n p) n = extOf p n + 1) := by
    rw [s1]
    by_cases hc : extOf p n = -(H : Int) ∨ extOf p n = (H : Int) - 1
    · rw [if_pos hc] at e1
      rw [e1]
      refine .inl ⟨?_, rfl⟩
      rw [if_neg (by omega), Int.sub_self]; rfl
    · rw [if_neg hc] at e1
      rw [e1]
      refine .inr ⟨?_, rfl⟩
      rw [if_pos (by omega)]
      have := us (extOf p n + 1 - extOf p n) (by omega) (by omega)
      omega
  refine ⟨⟨?_, ?_, ?_⟩, ?_, ?_, ?_⟩
  · rcases c1 with ⟨a, b⟩ | ⟨a, b⟩ | ⟨a, b⟩ <;> rcases hs with ⟨s, t⟩ | ⟨s, t⟩ <;> omega
  · rcases hs with ⟨s, t⟩ | ⟨s, t⟩ <;> omega
  · rcases c1 with ⟨a, b⟩ | ⟨a, b⟩ | ⟨a, b⟩ <;> rcases hs with ⟨s, t⟩ | ⟨s, t⟩ <;> omega
  · intro hs1
    have ht : extOf (nextO n p) n = extOf p n + 1 := by rcases hs with ⟨s, t⟩ | ⟨s, t⟩ <;> omega
    have hb : extOf (prevO n (nextO n p)) n = extOf p n := by
      rw [e2, ht]
      by_cases hc : extOf p n = -(H : Int)
      · rw [if_pos (.inl hc)] at e1; omega
      · rw [if_neg (by omega)]; omega
    rcases c2 with ⟨a, b⟩ | ⟨a, b⟩ | ⟨a, b⟩ <;> omega
  · unfold stepsO
    rw [rank_min n p q hn, rank_max n p q hn]
    congr 1
    split <;> split <;> omega
  · intro A
    unfold clampV
    by_cases hc : narB n A = true ∨ narB n (minO n p q) = true ∨ narB n (maxO n p q) = true
    · rw [if_pos hc]; exact .inl ⟨rfl, rfl⟩
    · rw [if_neg hc]
      have hle : ¬ 0 < cmpR n (minO n p q) (maxO n p q) := by
        have m1 := rank_min n p q hn
        have m2 := rank_max n p q hn
        rcases cmpR_cases n (minO n p q) (maxO n p q) with ⟨a, b⟩ | ⟨a, b⟩ | ⟨a, b⟩ <;> omega
      rw [if_neg hle]
      refine .inr ⟨rfl, ?_, ?_⟩
      · show 0 ≤ cmpR n (minO n (maxO n A (minO n p q)) (maxO n p q)) (minO n p q)
        have m1 := rank_min n (maxO n A (minO n p q)) (maxO n p q) hn
        have m2 := rank_max n A (minO n p q) hn
        have m3 := rank_max n p q hn
        have m4 := rank_min n p q hn
        rcases cmpR_cases n (minO n (maxO n A (minO n p q)) (maxO n p q)) (minO n p q) with ⟨a, b⟩ | ⟨a, b⟩ | ⟨a, b⟩ <;> omega
      · show 0 ≤ cmpR n (maxO n p q) (minO n (maxO n A (minO n p q)) (maxO n p q))
        have m1 := rank_min n (maxO n A (minO n p q)) (maxO n p q) hn
        rcases cmpR_cases n (maxO n p q) (minO n (maxO n A (minO n p q)) (maxO n p q)) with ⟨a, b⟩ | ⟨a, b⟩ | ⟨a, b⟩ <;> omega
end Go.Proofs.Ytmkdnhdbgoehgaa

namespace Go.Proofs.Ytmkdnhdbgoehgaa
open Go.ChangeShapes Go.WideShapes Go.ChangeAt Go.RowKit
set_option linter.unusedVariables false
set_option linter.unusedSimpArgs false
set_option maxRecDepth 100000

/-! ### ties (plain mathematics) -/
theorem tieL_length (n q : Nat) (h1 : 1 ≤ n) (h2 : n ≤ 63) : (tieL n q).length = 63 := by
  unfold tieL; rw [List.length_append, bitsOf_length, List.length_cons, List.length_replicate]; omega
theorem tieL_true (n q : Nat) : true ∈ tieL n q := by unfold tieL; simp
theorem tieL_num (n q : Nat) (h1 : 1 ≤ n) (h2 : n ≤ 63) (hq : q < 2 ^ (n - 1)) : numOf (tieL n q) = q * 2 ^ (64 - n) + 2 ^ (63 - n) := by
  unfold tieL
  rw [numOf_append, numOf_bits, Nat.mod_eq_of_lt hq, numOf_cons, numOf_noughts, List.length_cons, List.length_replicate, show 63 - n + 1 = 64 - n by omega]
  simp
/-- the document's Cmp of two positive Reals -/
def cmpV (s : Int) (hi lo : Nat) (s' : Int) (hi' lo' : Nat) : Int := if s = s' ∧ hi = hi' ∧ lo = lo' then 0 else if s < s' ∨ (s = s' ∧ (hi < hi' ∨ (hi = hi' ∧ lo < lo'))) then -1 else 1
/-- two numbers on the line -/
theorem cmpV_zed {s s' : Int} {hi lo hi' lo' : Nat} (h : WordsX hi lo) (h' : WordsX hi' lo') (h1 : -316 ≤ s) (h2 : s < 312) (h3 : -316 ≤ s') (h4 : s' < 312) :
    (zed s (manX hi lo) < zed s' (manX hi' lo') → cmpV s hi lo s' hi' lo' < 0) ∧ (zed s (manX hi lo) = zed s' (manX hi' lo') → cmpV s hi lo s' hi' lo' = 0) ∧ (zed s' (manX hi' lo') < zed s (manX hi lo) → 0 < cmpV s hi lo s' hi' lo') := by
  have lx := @lexN hi lo hi' lo' h.lo64 h'.lo64
  have up := @zed_lt s s' (manX hi lo) (manX hi' lo') h.mant h'.mant h1 h4
  have dn := @zed_lt s' s (manX hi' lo') (manX hi lo) h'.mant h.mant h3 h2
  have meq : manX hi lo = manX hi' lo' → hi = hi' ∧ lo = lo' := fun e => by
    have a := h.lo64; have b := h'.lo64
    unfold manX at e; omega
  unfold cmpV
  by_cases e : s = s' ∧ hi = hi' ∧ lo = lo'
  · obtain ⟨rfl, rfl, rfl⟩ := e
    rw [if_pos ⟨rfl, rfl, rfl⟩]
    exact ⟨fun h => absurd h (Nat.lt_irrefl _), fun _ => rfl, fun h => absurd h (Nat.lt_irrefl _)⟩
  · rw [if_neg e]
    by_cases l : s < s' ∨ (s = s' ∧ (hi < hi' ∨ (hi = hi' ∧ lo < lo')))
    · rw [if_pos l]
      have := up (by rcases l with l | ⟨l1, l2⟩; exact .inl l; exact .inr ⟨l1, lx.1 l2⟩)
      exact ⟨fun _ => by decide, fun h => by omega, fun h => by omega⟩
    · rw [if_neg l]
      have := dn (by
        rcases Int.lt_trichotomy s s' with c | c | c
        · exact absurd (.inl c) l
        · refine .inr ⟨c.symm, ?_⟩
          rcases Nat.lt_trichotomy (manX hi lo) (manX hi' lo') with d | d | d
          · exact absurd (.inr ⟨c, lx.2 d⟩) l
          · exact absurd ⟨c, meq d⟩ e
          · exact d
        · exact .inl c)
      exact ⟨fun h => by omega, fun h => by omega, fun _ => by decide⟩
theorem ties_mid (n : Nat) (s : Int) (hi lo : Nat) (hn : Wd n) (h64 : n ≤ 63) (h : WordsX hi lo) (hm : midX n s (justX hi lo false)) (p : Nat) (hp : p = rndX n s hi lo false) :
    (p ≤ 2 ^ (n - 1) - 1 → cmpV s hi lo (scaleL (tieL n p)) (wordL (tieL n p)) 0 < 0 ∨ (cmpV s hi lo (scaleL (tieL n p)) (wordL (tieL n p)) 0 = 0 ∧ p % 2 = 0)) ∧
    (1 ≤ p → 0 < cmpV s hi lo (scaleL (tieL n (p - 1))) (wordL (tieL n (p - 1))) 0 ∨ (cmpV s hi lo (scaleL (tieL n (p - 1))) (wordL (tieL n (p - 1))) 0 = 0 ∧ p % 2 = 0)) := by
  have hw := wd_le hn
  have hsr : -316 ≤ s ∧ s < 312 := by
    obtain ⟨a, b, _⟩ := hm
    omega
  have hw1 : 1 ≤ n := by omega
  have tr : ∀ q, -316 ≤ scaleL (tieL n q) ∧ scaleL (tieL n q) < 312 := fun q => by
    have := scaleL_range (tieL n q) (by rw [tieL_length n q hw1 h64]; exact Nat.le_refl _)
    omega
  have pw : 2 ^ (n - 1) - 1 < 2 ^ (n - 1) := Nat.sub_lt (Nat.pow_pos (by decide)) (by decide)
  obtain ⟨e1, r1, r2⟩ := rnd_mid n s hi lo false hn h hm
  rw [← hp] at e1 r1 r2
  have hH : 0 < 2 ^ (210 - n) := Nat.pow_pos (by decide)
  have hz : zX s hi lo false = 2 * zed s (manX hi lo) := by unfold zX; rw [Bool.toNat_false, Nat.add_zero]
  obtain ⟨s1, s2⟩ := rhe_side (2 ^ (210 - n)) (zX s hi lo false) p hH e1.symm
  rw [hz] at s1 s2
  have hpl : p ≤ 2 ^ (n - 1) - 1 := r2
  have tz := fun q hq => tie_zed n q hw1 h64 hq
  clear hz e1 r2 hp hm
  generalize 2 ^ (210 - n) = H at *
  constructor
  · intro hle
    have ht := tz p (Nat.lt_of_le_of_lt hle pw)
    obtain ⟨c1, c2, c3⟩ := cmpV_zed h (words_of (tieL n p)) hsr.1 hsr.2 (tr p).1 (tr p).2
    have key : ∀ (A B H p : Nat), 2 * B = p * (2 * H) + H → (2 * A < p * (2 * H) + H → A < B) ∧ (2 * A = p * (2 * H) + H → A = B) := fun A B H p e => by
      generalize p * (2 * H) + H = x at *
      omega
    obtain ⟨q1, q2⟩ := key _ _ _ _ ht
    rcases s1 with s1 | ⟨s1, s3⟩
    · exact .inl (c1 (q1 s1))
    · exact .inr ⟨c2 (q2 s1), s3⟩
  · intro hge
    have ht := tz (p - 1) (Nat.lt_of_le_of_lt (Nat.le_trans (Nat.sub_le _ _) hpl) pw)
    obtain ⟨c1, c2, c3⟩ := cmpV_zed h (words_of (tieL n (p - 1))) hsr.1 hsr.2 (tr (p - 1)).1 (tr (p - 1)).2
    have key : ∀ (A B H p : Nat), 2 * B = p * (2 * H) + H → (p * (2 * H) + H < 2 * A → B < A) ∧ (p * (2 * H) + H = 2 * A → A = B) := fun A B H p e => by
      generalize p * (2 * H) + H = x at *
      omega
    obtain ⟨q1, q2⟩ := key _ _ _ _ ht
    rcases s2 hge with s2 | ⟨s2, s3⟩
    · exact .inl (c3 (q1 s2))
    · exact .inr ⟨c2 (q2 s2), s3⟩
theorem cmpV_scale (s : Int) (hi lo : Nat) (s' : Int) (hi' lo' : Nat) : (s < s' → cmpV s hi lo s' hi' lo' < 0) ∧ (s' < s → 0 < cmpV s hi lo s' hi' lo') := by
  unfold cmpV
  constructor
  · intro h
    rw [if_neg (by rintro ⟨e, _⟩; omega), if_pos (.inl h)]; decide
  · intro h
    rw [if_neg (by rintro ⟨e, _⟩; omega), if_neg (by rintro (e | ⟨e, _⟩) <;> omega)]; decide
/-- a number goes to the pattern on whose side of both ties it lies -/
theorem ties_all (n : Nat) (s : Int) (hi lo : Nat) (hn : n = 8 ∨ n = 16 ∨ n = 32) (h : WordsX hi lo) (p : Nat) (hp : p = rndX n s hi lo false) :
    (p = 2 ^ (n - 1) - 1 ∨ cmpV s hi lo (scaleL (tieL n p)) (wordL (tieL n p)) 0 < 0 ∨ (cmpV s hi lo (scaleL (tieL n p)) (wordL (tieL n p)) 0 = 0 ∧ p % 2 = 0)) ∧
    (p = 1 ∨ 0 < cmpV s hi lo (scaleL (tieL n (p - 1))) (wordL (tieL n (p - 1))) 0 ∨ (cmpV s hi lo (scaleL (tieL n (p - 1))) (wordL (tieL n (p - 1))) 0 = 0 ∧ p % 2 = 0)) := by
  have hw : Wd n := by rcases hn with h | h | h; exact .inl h; exact .inr (.inl h); exact .inr (.inr (.inl h))
  have h63 : n ≤ 63 := by omega
  obtain ⟨r1, r2⟩ := rnd_range n s hi lo false hw h
  rw [← hp] at r1 r2
  rcases mid_or n s (justX hi lo false) with hm | hm | ⟨hm0, hm⟩
  · obtain ⟨a, b⟩ := ties_mid n s hi lo hw h63 h hm p hp
    exact ⟨.inr (a r2), .inr (b r1)⟩
  · have e := rnd_top n s hi lo false hm
    rw [← hp] at e
    refine ⟨.inl e, .inr (.inl ((cmpV_scale s hi lo _ _ _).2 ?_))⟩
    rw [e]
    rcases hn with rfl | rfl | rfl
    · rw [show scaleL (tieL 8 (2 ^ (8 - 1) - 1 - 1)) = 22 by decide +kernel]; omega
    · rw [show scaleL (tieL 16 (2 ^ (16 - 1) - 1 - 1)) = 54 by decide +kernel]; omega
    · rw [show scaleL (tieL 32 (2 ^ (32 - 1) - 1 - 1)) = 118 by decide +kernel]; omega
  · have e := rnd_low n s hi lo false hm0 hm
    rw [← hp] at e
    refine ⟨.inr (.inl ((cmpV_scale s hi lo _ _ _).1 ?_)), .inl e⟩
    rw [e]
    rcases hn with rfl | rfl | rfl
    · rw [show scaleL (tieL 8 1) = -22 by decide +kernel]; rcases hm with hm | hm <;> omega
    · rw [show scaleL (tieL 16 1) = -54 by decide +kernel]; rcases hm with hm | hm <;> omega
    · rw [show scaleL (tieL 32 1) = -118 by decide +kernel]; rcases hm with hm | hm <;> omega
/-- the tie as a pattern of the width 64 -/
theorem cdecode_tie (n q : Nat) (h1 : 1 ≤ n) (h2 : n ≤ 63) (hq : q < 2 ^ (n - 1)) (T : Nat) (hT : T = q * 2 ^ (64 - n) + 2 ^ (63 - n)) (w : World) :
    Calls Try.prog 22 #[.int .i64 64, .int .u64 T] w fun e w' => e = .returned (.tuple #[numV 1 false (scaleL (tieL n q)) (wordL (tieL n q)), .nilIface]) ∧ Below w.heap.size w w' := by
  have hl := tieL_length n q h1 h2
  have ht := tieL_true n q
  obtain ⟨p1, p2, p3, p4⟩ := patOf_facts 64 (.inr (.inr (.inr rfl))) false (tieL n q) (by rw [hl]) ht
  have e : patOf 64 false (tieL n q) = T := by rw [hT, ← tieL_num n q h1 h2 hq]; rfl
  rw [e] at p1 p2 p3 p4
  have := cdecode_real 64 T (.inr (.inr (.inr rfl))) p1 p2 w
  rw [p3, p4] at this
  exact this
end Go.Proofs.Ytmkdnhdbgoehgaa

namespace Go.Proofs.Ytmkdnhdbgoehgaa
open Go.ChangeShapes Go.WideShapes Go.ChangeAt Go.RowKit
set_option linter.unusedVariables false
set_option linter.unusedSimpArgs false
set_option maxRecDepth 100000

/-! ### the order of ranks is the order of values -/
theorem rank_real (n x : Nat) (hn : Wd n) (hx : x < 2 ^ 64) (hk : kindOf n (x % 2 ^ n) = 1) :
    extOf x n = (if x.testBit (n - 1) then -(numOf (strS n x) : Int) else (numOf (strS n x) : Int)) ∧ 1 ≤ numOf (strS n x) ∧ numOf (strS n x) ≤ 2 ^ (n - 1) - 1 := by
  obtain ⟨ht, hp⟩ := patOf_str n x hn hx hk
  have hl := strS_length n x
  have h1 := numOf_pos _ ht
  have h2 := numOf_lt (strS n x)
  rw [hl] at h2
  have h3 : numOf (strS n x) ≤ 2 ^ (n - 1) - 1 := by omega
  refine ⟨?_, h1, h3⟩
  rw [← rank_mod n x hn, ← hp]
  exact extOf_patR n hn _ _ h1 h3
theorem rank_zero (n x : Nat) (hn : Wd n) (hk : x % 2 ^ n = 0) : extOf x n = 0 := by rw [← rank_mod n x hn, hk, extOf_nought]
def vK (n x : Nat) : Int := kindOf n (x % 2 ^ n)
def vB (n x : Nat) : Bool := if kindOf n (x % 2 ^ n) = 1 then x.testBit (n - 1) else false
def vS (n x : Nat) : Int := if kindOf n (x % 2 ^ n) = 1 then scaleL (strS n x) else 0
def vF (n x : Nat) : Nat := if kindOf n (x % 2 ^ n) = 1 then wordL (strS n x) else 0
theorem sound_v (n x : Nat) (hn : Wd n) (hx : x < 2 ^ 64) : soundN (vK n x) (vB n x) (vS n x) (vF n x) = true := by
  unfold vK vB vS vF
  by_cases hk : kindOf n (x % 2 ^ n) = 1
  · rw [if_pos hk, if_pos hk, if_pos hk, hk]
    exact sound_home n _ _ hn (strS_length n x) (patOf_str n x hn hx hk).1
  · rw [if_neg hk, if_neg hk, if_neg hk]
    rcases kind_cases n _ hk with ⟨h, _⟩ | ⟨h, _⟩ <;> rw [h] <;> rfl
theorem narB_kind (n x : Nat) (hn : Wd n) : narB n x = decide (vK n x = 2) := by
  obtain ⟨H, h1, h2, h3, _⟩ := wd_pows hn
  unfold narB vK kindOf
  rw [h2]
  by_cases h : x % 2 ^ n = 0
  · rw [if_pos h, h, decide_eq_false (by omega)]; rfl
  · rw [if_neg h]
    by_cases h4 : x % 2 ^ n = H
    · rw [if_pos h4, decide_eq_true h4]; rfl
    · rw [if_neg h4, decide_eq_false h4]; rfl
/-- strings of one width: their numbers' order -/
theorem cmpV_rank' (n a b : Nat) (hn : Wd n) (ha : a < 2 ^ 64) (hb : b < 2 ^ 64) (ka : kindOf n (a % 2 ^ n) = 1) (kb : kindOf n (b % 2 ^ n) = 1) :
    (cmpV (scaleL (strS n a)) (wordL (strS n a)) 0 (scaleL (strS n b)) (wordL (strS n b)) 0 = -1 ∧ numOf (strS n a) < numOf (strS n b)) ∨
    (cmpV (scaleL (strS n a)) (wordL (strS n a)) 0 (scaleL (strS n b)) (wordL (strS n b)) 0 = 1 ∧ numOf (strS n b) < numOf (strS n a)) ∨
    (cmpV (scaleL (strS n a)) (wordL (strS n a)) 0 (scaleL (strS n b)) (wordL (strS n b)) 0 = 0 ∧ numOf (strS n a) = numOf (strS n b)) := by
  have hw := wd_le hn
  have ta := (patOf_str n a hn ha ka).1
  have tb := (patOf_str n b hn hb kb).1
  have la := strS_length n a
  have lb := strS_length n b
  have la63 : (strS n a).length ≤ 63 := by omega
  have lb63 : (strS n b).length ≤ 63 := by omega
  have ra := scaleL_range _ la63
  have rb := scaleL_range _ lb63
  have za := zed_parse _ ta la63
  have zb := zed_parse _ tb lb63
  rw [la] at za
  rw [lb] at zb
  obtain ⟨c1, c2, c3⟩ := cmpV_zed (s := scaleL (strS n a)) (s' := scaleL (strS n b)) (words_of (strS n a)) (words_of (strS n b)) (by omega) (by omega) (by omega) (by omega)
  rw [za, zb] at c1 c2 c3
  have hp : 0 < 2 ^ (209 - (n - 1)) := Nat.pow_pos (by decide)
  have tri : cmpV (scaleL (strS n a)) (wordL (strS n a)) 0 (scaleL (strS n b)) (wordL (strS n b)) 0 = 0 ∨ cmpV (scaleL (strS n a)) (wordL (strS n a)) 0 (scaleL (strS n b)) (wordL (strS n b)) 0 = -1 ∨ cmpV (scaleL (strS n a)) (wordL (strS n a)) 0 (scaleL (strS n b)) (wordL (strS n b)) 0 = 1 := by
    unfold cmpV
    split
    · exact .inl rfl
    · split
      · exact .inr (.inl rfl)
      · exact .inr (.inr rfl)
  generalize cmpV (scaleL (strS n a)) (wordL (strS n a)) 0 (scaleL (strS n b)) (wordL (strS n b)) 0 = v at *
  generalize 2 ^ (209 - (n - 1)) = Z at *
  rcases Nat.lt_trichotomy (numOf (strS n a)) (numOf (strS n b)) with h | h | h
  · have := c1 (Nat.mul_lt_mul_of_pos_right h hp)
    exact .inl ⟨by omega, h⟩
  · have := c2 (by rw [h])
    exact .inr (.inr ⟨this, h⟩)
  · have := c3 (Nat.mul_lt_mul_of_pos_right h hp)
    exact .inr (.inl ⟨by omega, h⟩)
end Go.Proofs.Ytmkdnhdbgoehgaa
