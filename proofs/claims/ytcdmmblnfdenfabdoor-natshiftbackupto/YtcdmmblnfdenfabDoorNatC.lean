import Derived.Test.YtcdmmblnfdenfabDoorNatB
namespace Go.Proofs.YtcdmmblnfdenfabDoor
open Go.ChangeShapes Go.WideShapes Go.ChangeAt Go.RowKit
set_option linter.unusedVariables false
set_option maxRecDepth 100000

theorem dlen_ten (k : Nat) : dlen (10 ^ k) ≤ k + 1 := by
  refine dlen_le_of_lt ?_
  have h1 : 10 ^ k ≤ 16777216 ^ k := Nat.pow_le_pow_left (by decide) k
  have h2 : 0 < 16777216 ^ k := Nat.pow_pos (by decide)
  rw [Nat.pow_succ]
  omega
set_option maxHeartbeats 1000000 in
theorem ten_any (k : Nat) (hk : k ≤ 1073741824) (w : World) :
    Calls Tryd.prog 11 #[.int .i64 k] w fun e w' => ∃ v, e = .returned v ∧ Row w' v (dig (10 ^ k)) ∧ Below w.heap.size w w' := by
  refine cps fun Q hQ => ?_
  go_enter Tryd.func11, Tryd.ntmps11
  go_wp2
  have hr0 : Row (w.alloc (.cells #[.int .i64 1] 3)) (.slice (some ⟨w.heap.size, 0, none⟩) 1 1) (dig 1) := row_lit w 3 1 (by decide) (by decide)
  obtain ⟨W, hW⟩ : ∃ W, W = w.alloc (.cells #[.int .i64 1] 3) := ⟨_, rfl⟩
  have H0 : Below w.heap.size w W := by rw [hW]; exact bmore0 (Below.refl _ _) _
  rw [← hW] at hr0 ⊢
  clear hW
  go_loopw [3, 4] (fun v iv wr => ∃ j : Nat, j ≤ k ∧ iv = .int .i64 j ∧ Row wr v (dig (10 ^ j)) ∧ Below W.heap.size W wr) (fun _ iv _ => k - (intOf iv).toNat)
  case atStart => exact ⟨0, Nat.zero_le _, rfl, hr0, Below.refl _ _⟩
  case round =>
    obtain ⟨j, hj, rfl, hrow, hbel⟩ := hrel
    by_cases hlt : j < k
    · have HR : Hid (Row wr _ _) := hrow
      have k1 := fun v w x => times_any v (10 ^ j) 10 (by decide) (Nat.le_trans (dlen_ten j) (by omega)) w x
      rw [← Nat.pow_succ] at k1
      clear hrow
      go_wp2_with (go_at_call 29; refine (k1 _ _ HR.out).mono ?_; rintro e w1 ⟨v1, rfl, hr1, hb1⟩)
      go_roundw
      case measure => simp [intOf]; omega
      case rel => exact ⟨j + 1, by omega, by go_num, hr1, bthen0 hbel hb1⟩
    · have e : j = k := by omega
      subst e
      have HR : Hid (Row wr _ _) := hrow
      clear hrow
      go_wp2
      exact hQ.out _ _ ⟨_, rfl, HR.out, bthen0 H0 hbel⟩

/-- the number of the first i decimal digits of a text -/
def dnum (s : ByteArray) : Nat → Nat
  | 0 => 0
  | i + 1 => dnum s i * 10 + ((s.data.getD i 0).toNat - 48)
theorem dnum_succ (s : ByteArray) (i : Nat) (h : i < s.size) : dnum s (i + 1) = dnum s i * 10 + ((s[i]'h).toNat - 48) := by
  have : s.data.getD i 0 = s[i]'h := by
    rw [Array.getD_eq_getD_getElem?, Array.getElem?_eq_getElem (show i < s.data.size from h)]; rfl
  rw [dnum, this]
theorem dnum_lt (s : ByteArray) (i : Nat) (h : ∀ j (hj : j < s.size), 48 ≤ (s[j]'hj).toNat ∧ (s[j]'hj).toNat ≤ 57) (hi : i ≤ s.size) : dnum s i < 10 ^ i := by
  induction i with
  | zero => exact Nat.one_pos
  | succ i ih =>
    have h1 := ih (by omega)
    have h2 := h i (by omega)
    rw [dnum_succ s i (by omega), Nat.pow_succ]
    omega
theorem row_one {w : World} {v : Value} {r : Nat} (h : Row w v (dig r)) (h0 : r ≠ 0) (h1 : r < 16777216) : ∃ b off c, v = .slice (some ⟨b, off, none⟩) 1 c ∧ c ≤ 9223372036854775807 ∧ 1 ≤ c ∧ w.cell? ⟨b, off, none⟩ = some (.int .i64 r) := by
  have e : dig r = [r] := by rw [dig_pos h0, show r / 16777216 = 0 by omega, dig_zero, Nat.mod_eq_of_lt h1]
  rw [e] at h
  obtain ⟨ao, c, rfl, hc, hl, g⟩ := h.out
  rcases g with g | ⟨b, off, rfl, g⟩
  · simp at g
  · exact ⟨b, off, c, rfl, hc, hl, by simpa using g 0 (by simp)⟩
/-! ### decimal digits, the highest first -/
def ds (n : Nat) : List Nat := if h : n = 0 then [] else ds (n / 10) ++ [n % 10]
theorem ds_zero : ds 0 = [] := by unfold ds; simp
theorem ds_pos {n : Nat} (h : n ≠ 0) : ds n = ds (n / 10) ++ [n % 10] := by
  conv => lhs; unfold ds
  simp [h]
theorem ds_mem (n d : Nat) (h : d ∈ ds n) : d < 10 := by
  induction n using Nat.strongRecOn with
  | _ n ih =>
    by_cases h0 : n = 0
    · subst h0; rw [ds_zero] at h; cases h
    · rw [ds_pos h0] at h
      rcases List.mem_append.1 h with g | g
      · exact ih _ (by omega) g
      · have := List.mem_singleton.1 g; omega
theorem ds_length {n k : Nat} (h : n < 10 ^ k) : (ds n).length ≤ k := by
  induction k generalizing n with
  | zero => have : n = 0 := by simpa using h
            subst this; rw [ds_zero]; exact Nat.le_refl _
  | succ k ih =>
    by_cases h0 : n = 0
    · subst h0; rw [ds_zero]; simp
    · rw [ds_pos h0, List.length_append, List.length_singleton]
      have := ih (n := n / 10) (by rw [Nat.pow_succ] at h; omega)
      omega
/-- a row of decimal digits as a text -/
def dstr (l : List Nat) : ByteArray := ⟨(l.map fun d => (UInt8.ofNat (48 + d))).toArray⟩
theorem dstr_size (l : List Nat) : (dstr l).size = l.length := by simp [dstr, ByteArray.size]
theorem dstr_cons (d : Nat) (l : List Nat) : dstr (d :: l) = dstr [d] ++ dstr l := by
  apply ByteArray.ext
  simp [dstr]
theorem dstr_nil : dstr [] = ByteArray.empty := rfl
/-- a number in decimal digits, '0' of nought -/
def decS (n : Nat) : ByteArray := if n = 0 then dstr [0] else dstr (ds n)
set_option maxHeartbeats 2000000 in
theorem text_any (va : Value) (n : Nat) (hS : dlen n ≤ 4194304) (w : World) (ha : Row w va (dig n)) :
    Calls Tryd.prog 13 #[va] w fun e w' => e = .returned (.string (decS n)) ∧ Below w.heap.size w w' := by
  refine cps fun Q hQ => ?_
  have HA : Hid (Row w va (dig n)) := ha
  clear ha
  have hlen : (ds n).length ≤ 41943040 := by
    have h1 : n < 10 ^ (10 * dlen n) := by
      rw [Nat.pow_mul]
      exact Nat.lt_of_lt_of_le (lt_of_dlen_le (Nat.le_refl _)) (Nat.pow_le_pow_left (by decide) _)
    have := ds_length h1
    omega
  go_enter Tryd.func13, Tryd.ntmps13
  go_wp2
  go_loopw [0, 3] (fun av sv wr => ∃ (m : Nat) (acc : List Nat), Hid (ds m ++ acc = ds n) ∧ Hid (m ≤ n) ∧ Hid (Row wr av (dig m)) ∧ sv = .string (dstr acc) ∧ Below w.heap.size w wr) (fun _ sv _ => (ds n).length - (match sv with | .string b => b.size | _ => 0))
  case atStart => exact ⟨n, [], List.append_nil _, Nat.le_refl _, HA.out, rfl, Below.refl _ _⟩
  case round =>
    obtain ⟨m, acc, hacc, hmn, hrow, rfl, hbel⟩ := hrel
    obtain ⟨aa, ca, rfl, h1, h2⟩ := hrow.out.num
    by_cases h0 : 0 < dlen m
    · have hm0 : m ≠ 0 := fun h => by rw [h, dlen_zero] at h0; omega
      have HR : Hid (Row wr _ (dig m)) := hrow.out
      have hmd : dlen m ≤ 4194304 := Nat.le_trans (dlen_mono hmn.out) hS
      have hr0 : Row (wr.alloc (.cells #[.int .i64 1000000] 3)) (.slice (some ⟨wr.heap.size, 0, none⟩) 1 1) (dig 1000000) := row_lit wr 3 1000000 (by decide) (by decide)
      have k1 := fun va vb w x y => ndivmod_any va vb m 1000000 (by decide) (by omega) (Nat.le_trans (dlen_le_of_lt (k := 1) (by decide)) (by decide)) w x y
      have hqn : m / 1000000 ≤ n := Nat.le_trans (Nat.div_le_self _ _) hmn.out
      have hdm := Nat.div_add_mod' m 1000000
      have hrl : m % 1000000 < 1000000 := Nat.mod_lt _ (by decide)
      obtain ⟨q, hq⟩ : ∃ q, q = m / 1000000 := ⟨_, rfl⟩
      obtain ⟨r, hr⟩ : ∃ r, r = m % 1000000 := ⟨_, rfl⟩
      rw [← hq, ← hr] at hdm k1
      rw [← hr] at hrl
      have HM : Hid (q * 1000000 + r = m ∧ m ≠ 0 ∧ q ≤ n) := ⟨hdm, hm0, hq ▸ hqn⟩
      clear hqn hdm hq hr hm0 hrow hmd
      have hin : Hid (q ≠ 0 ∨ r ≠ 0) := by
        have := HM.out
        by_cases g : q = 0
        · right; omega
        · left; exact g
      have hsz0 : acc.length ≤ 41943040 := by
        have := congrArg List.length hacc.out
        rw [List.length_append] at this
        omega
      by_cases hr00 : r = 0
      all_goals go_wp2_with (go_at_call 36; refine (k1 _ _ _ (HR.out.below (bmore0 (Below.refl _ _) _)) hr0).mono ?_; rintro e w1 ⟨v1, v2, rfl, hr1, hr2, hb1⟩; have H1 : Below wr.heap.size wr w1 := bthen0 (bmore0 (Below.refl _ _) _) hb1; have HR1 : Hid (Row w1 v1 (dig q)) := hr1; obtain ⟨a1, c1, rfl, x1, x2⟩ := hr1.num; clear hr1; first | (rw [hr00] at hr2; obtain ⟨a2, c2, rfl, y1, y2⟩ := hr2.num; rw [dlen_zero]; clear hr2) | (obtain ⟨b2, o2, c2, rfl, y1, y2, y3⟩ := row_one hr2 hr00 (by omega); clear hr2))
      all_goals
        go_loopw [3, 6, 7] (fun sv nv kv wx => ∃ (i mm : Nat) (acc2 : List Nat), i ≤ 6 ∧ kv = .int .i64 i ∧ nv = .int .i64 mm ∧ mm < 1000000 ∧ Hid (mm < 10 ^ (6 - i)) ∧ sv = .string (dstr acc2) ∧ Hid (ds (q * 10 ^ (6 - i) + mm) ++ acc2 = ds n) ∧ Hid (i = 0 ∧ mm = r ∧ acc2 = acc ∨ acc.length < acc2.length) ∧ Below w1.heap.size w1 wx) (fun _ _ kv _ => 6 - (intOf kv).toNat)
        case atStart =>
          refine ⟨0, r, acc, by decide, rfl, ?_, hrl, hrl, rfl, ?_, .inl ⟨rfl, rfl, rfl⟩, Below.refl _ _⟩
          · first | rfl | (rw [hr00]; rfl)
          · show ds (q * 1000000 + r) ++ acc = ds n
            rw [HM.out.1]; exact hacc.out
        case round =>
          obtain ⟨i, mm, acc2, hi6, rfl, rfl, hmm, hml, rfl, hds, hpr, hbel2⟩ := hrel
          have hsz2 : acc2.length ≤ 41943040 := by
            have := congrArg List.length hds.out
            rw [List.length_append] at this
            omega
          have hcase : (i < 6 ∧ 0 < dlen q) ∨ (i < 6 ∧ ¬ 0 < dlen q ∧ 0 < mm) ∨ (i < 6 ∧ ¬ 0 < dlen q ∧ ¬ 0 < mm) ∨ ¬ i < 6 := by omega
          rcases hcase with ⟨g1, g2⟩ | ⟨g1, g2, g3⟩ | ⟨g1, g2, g3⟩ | g1
          · have HNZ : q ≠ 0 ∨ mm ≠ 0 := .inl fun h => by rw [h, dlen_zero] at g2; omega
            obtain ⟨d, hd⟩ : ∃ d, d = mm % 10 := ⟨_, rfl⟩
            have v1 : (mm : Int) % 10 = d := by omega
            have v2 : (mm : Int).tmod 10 = d := by rw [Int.tmod_eq_emod_of_nonneg (by omega)]; exact v1
            obtain ⟨m', hm'⟩ : ∃ d, d = mm / 10 := ⟨_, rfl⟩
            have v3 : (mm : Int) / 10 = m' := by omega
            have hd9 : d ≤ 9 := by omega
            have v4 : IntKind.u8.wrap ((48 : Int) + d) = (48 : Int) + d := by rw [IntKind.wrap_u8]; omega
            have hcv : (convert 59 9 (.slice (some ⟨wr.heap.size, 0, none⟩) 1 1)).run Tryd.prog (wr.alloc (.cells #[.int .u8 (48 + (d : Int))] 5)) = .ok (.string (dstr [d])) (wr.alloc (.cells #[.int .u8 (48 + (d : Int))] 5)) := by
              refine run_convert_bytes_back _ 59 9 5 ⟨wr.heap.size, 0, none⟩ 1 [UInt8.ofNat (48 + d)] Tryd.underlying59 Tryd.underlying5 Tryd.underlying9 ?_
              intro k hk
              have : k = 0 := by simpa using hk
              subst this
              refine (World.cell?_alloc_at _ _ _ _ rfl).trans ?_
              simp
              omega
            have cadd := fun wx => run_string_add_sum (P := Tryd.prog) wx (dstr [d]) (dstr acc2) (by rw [dstr_size, dstr_size, List.length_singleton]; omega)
            rw [← dstr_cons] at cadd
            have HN : Hid (ds (q * 10 ^ (5 - i) + m') ++ (d :: acc2) = ds n ∧ m' < 10 ^ (5 - i)) := by
              have p10 : 10 ^ (6 - i) = 10 ^ (5 - i) * 10 := by rw [← Nat.pow_succ]; congr 1; omega
              have h1 := hds.out
              have h2 := hml.out
              rw [p10] at h1 h2
              have hV : q * (10 ^ (5 - i) * 10) + mm ≠ 0 := by
                have : q ≠ 0 ∨ mm ≠ 0 := HNZ
                rcases this with g | g
                · have h3 : 0 < q * (10 ^ (5 - i) * 10) := Nat.mul_pos (by omega) (Nat.mul_pos (Nat.pow_pos (by decide)) (by decide))
                  omega
                · omega
              rw [ds_pos hV, ← Nat.mul_assoc] at h1
              rw [show (q * 10 ^ (5 - i) * 10 + mm) / 10 = q * 10 ^ (5 - i) + m' by omega, show (q * 10 ^ (5 - i) * 10 + mm) % 10 = d by omega, List.append_assoc] at h1
              exact ⟨h1, by omega⟩
            have hlen2 : acc.length < acc2.length + 1 := by
              rcases hpr.out with ⟨_, _, h⟩ | h
              · rw [h]; omega
              · omega
            have HL : Hid (acc.length < (d :: acc2).length) := by rw [List.length_cons]; exact hlen2
            have hmb : m' < 1000000 := by omega
            clear hd hm' hds hml hpr HNZ hlen2
            go_wp2
            go_roundw
            case measure => simp [intOf]; omega
            case rel => exact ⟨i + 1, m', d :: acc2, by omega, by go_num, rfl, hmb, (by show _ < _; rw [show 6 - (i + 1) = 5 - i by omega]; exact HN.out.2), rfl, (by show _ = _; rw [show 6 - (i + 1) = 5 - i by omega]; exact HN.out.1), .inr HL.out, bmore0 hbel2 _⟩
          · have HNZ : q ≠ 0 ∨ mm ≠ 0 := .inr (by omega)
            obtain ⟨d, hd⟩ : ∃ d, d = mm % 10 := ⟨_, rfl⟩
            have v1 : (mm : Int) % 10 = d := by omega
            have v2 : (mm : Int).tmod 10 = d := by rw [Int.tmod_eq_emod_of_nonneg (by omega)]; exact v1
            obtain ⟨m', hm'⟩ : ∃ d, d = mm / 10 := ⟨_, rfl⟩
            have v3 : (mm : Int) / 10 = m' := by omega
            have hd9 : d ≤ 9 := by omega
            have v4 : IntKind.u8.wrap ((48 : Int) + d) = (48 : Int) + d := by rw [IntKind.wrap_u8]; omega
            have hcv : (convert 59 9 (.slice (some ⟨wr.heap.size, 0, none⟩) 1 1)).run Tryd.prog (wr.alloc (.cells #[.int .u8 (48 + (d : Int))] 5)) = .ok (.string (dstr [d])) (wr.alloc (.cells #[.int .u8 (48 + (d : Int))] 5)) := by
              refine run_convert_bytes_back _ 59 9 5 ⟨wr.heap.size, 0, none⟩ 1 [UInt8.ofNat (48 + d)] Tryd.underlying59 Tryd.underlying5 Tryd.underlying9 ?_
              intro k hk
              have : k = 0 := by simpa using hk
              subst this
              refine (World.cell?_alloc_at _ _ _ _ rfl).trans ?_
              simp
              omega
            have cadd := fun wx => run_string_add_sum (P := Tryd.prog) wx (dstr [d]) (dstr acc2) (by rw [dstr_size, dstr_size, List.length_singleton]; omega)
            rw [← dstr_cons] at cadd
            have HN : Hid (ds (q * 10 ^ (5 - i) + m') ++ (d :: acc2) = ds n ∧ m' < 10 ^ (5 - i)) := by
              have p10 : 10 ^ (6 - i) = 10 ^ (5 - i) * 10 := by rw [← Nat.pow_succ]; congr 1; omega
              have h1 := hds.out
              have h2 := hml.out
              rw [p10] at h1 h2
              have hV : q * (10 ^ (5 - i) * 10) + mm ≠ 0 := by
                have : q ≠ 0 ∨ mm ≠ 0 := HNZ
                rcases this with g | g
                · have h3 : 0 < q * (10 ^ (5 - i) * 10) := Nat.mul_pos (by omega) (Nat.mul_pos (Nat.pow_pos (by decide)) (by decide))
                  omega
                · omega
              rw [ds_pos hV, ← Nat.mul_assoc] at h1
              rw [show (q * 10 ^ (5 - i) * 10 + mm) / 10 = q * 10 ^ (5 - i) + m' by omega, show (q * 10 ^ (5 - i) * 10 + mm) % 10 = d by omega, List.append_assoc] at h1
              exact ⟨h1, by omega⟩
            have hlen2 : acc.length < acc2.length + 1 := by
              rcases hpr.out with ⟨_, _, h⟩ | h
              · rw [h]; omega
              · omega
            have HL : Hid (acc.length < (d :: acc2).length) := by rw [List.length_cons]; exact hlen2
            have hmb : m' < 1000000 := by omega
            clear hd hm' hds hml hpr HNZ hlen2
            go_wp2
            go_roundw
            case measure => simp [intOf]; omega
            case rel => exact ⟨i + 1, m', d :: acc2, by omega, by go_num, rfl, hmb, (by show _ < _; rw [show 6 - (i + 1) = 5 - i by omega]; exact HN.out.2), rfl, (by show _ = _; rw [show 6 - (i + 1) = 5 - i by omega]; exact HN.out.1), .inr HL.out, bmore0 hbel2 _⟩
          · have hq0 : q = 0 := dlen_eq_zero.1 (by omega)
            have hm0 : mm = 0 := by omega
            have hend : ds q ++ acc2 = ds n := by
              have h1 := hds.out
              have h2 := hml.out
              rw [hq0, hm0, Nat.zero_mul] at h1
              rw [hq0]; exact h1
            have hlt : acc.length < acc2.length := by
              rcases hpr.out with ⟨h1, h2, h3⟩ | h
              · exact (hin.out.elim (fun g => g hq0) (fun g => g (h2.symm.trans hm0))).elim
              · exact h
            have hle : acc2.length ≤ (ds n).length := by rw [← hend, List.length_append]; omega
            have HEND : Hid (ds q ++ acc2 = ds n) := hend
            have HLT : Hid (acc.length < acc2.length ∧ acc2.length ≤ (ds n).length) := ⟨hlt, hle⟩
            clear hq0 hm0 hend hlt hle hds hml hpr
            go_wp2
            go_roundw
            case measure => have := HLT.out; simp [dstr_size]; omega
            case rel => exact ⟨q, acc2, HEND.out, HM.out.2.2, HR1.out.below hbel2, rfl, bthen0 hbel (bthen0 H1 hbel2)⟩
          · have hi : i = 6 := by omega
            subst hi
            have hend : ds q ++ acc2 = ds n := by
              have h1 := hds.out
              have h2 := hml.out
              have hm0 : mm = 0 := by simpa using h2
              rw [hm0] at h1
              simpa using h1
            have hlt : acc.length < acc2.length := by
              rcases hpr.out with ⟨h1, h2, h3⟩ | h
              · exact absurd h1 (by decide)
              · exact h
            have hle : acc2.length ≤ (ds n).length := by rw [← hend, List.length_append]; omega
            have HEND : Hid (ds q ++ acc2 = ds n) := hend
            have HLT : Hid (acc.length < acc2.length ∧ acc2.length ≤ (ds n).length) := ⟨hlt, hle⟩
            clear hend hlt hle hds hml hpr
            go_wp2
            go_roundw
            case measure => have := HLT.out; simp [dstr_size]; omega
            case rel => exact ⟨q, acc2, HEND.out, HM.out.2.2, HR1.out.below hbel2, rfl, bthen0 hbel (bthen0 H1 hbel2)⟩
    · have hm0 : m = 0 := dlen_eq_zero.1 (by omega)
      have e : acc = ds n := by have := hacc.out; rw [hm0, ds_zero] at this; exact this
      subst e
      rw [show dlen m = 0 by omega]
      clear hm0 h0
      by_cases hn0 : n = 0
      · have HQ : Hid (∀ w', Below w.heap.size w w' → Q (.returned (.string ⟨#[48]⟩)) w') := fun w' hb => hQ.out _ _ ⟨by rw [decS, if_pos hn0]; rfl, hb⟩
        subst hn0
        rw [ds_zero, dstr_nil]
        clear hacc hmn hrow HA hQ
        go_wp2
        exact HQ.out _ hbel
      · have hne : ¬ dstr (ds n) = ByteArray.empty := fun h => by
          have := congrArg ByteArray.size h
          rw [dstr_size, ds_pos hn0, List.length_append] at this
          simp at this
        have hne2 : (dstr (ds n)).toList.isEmpty = false := by rw [← decide_eq_emptyBytes]; exact decide_eq_false hne
        have HQ : Hid (∀ w', Below w.heap.size w w' → Q (.returned (.string (dstr (ds n)))) w') := fun w' hb => hQ.out _ _ ⟨by rw [decS, if_neg hn0], hb⟩
        generalize dstr (ds n) = S at *
        clear hacc hmn hrow HA hQ
        go_wp2
        exact HQ.out _ hbel
end Go.Proofs.YtcdmmblnfdenfabDoor
