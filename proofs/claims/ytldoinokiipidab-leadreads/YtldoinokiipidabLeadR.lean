import Derived.Test.YtldoinokiipidabLeadE
namespace Go.Proofs.Ytldoinokiipidab
open Go.ChangeShapes Go.WideShapes Go.ChangeAt Go.RowKit
set_option linter.unusedVariables false

/-! ### Read -/
def isDigit (c : UInt8) : Bool := c == 48 || c == 49
def okTill (s : ByteArray) (k : Nat) : Prop := ∀ j (hj : j < s.size), j < k → isDigit s[j] = true
def bitsIn (s : ByteArray) : List Bool := s.data.toList.map (· == 49)
theorem bitsIn_length (s : ByteArray) : (bitsIn s).length = s.size := by simp [bitsIn]
theorem bitsIn_isBits (s : ByteArray) (h : okTill s s.size) : IsBits s (bitsIn s) := by
  unfold IsBits bitsIn
  rw [List.map_map]
  apply List.ext_getElem?
  intro j
  by_cases hj : j < s.size
  · have e : s.data.toList[j]? = some s[j] := by rw [List.getElem?_eq_getElem (by simpa using hj)]; rfl
    rw [List.getElem?_map, e]
    have := h j hj hj
    simp [isDigit] at this
    rcases this with h | h <;> simp [h, bitByte]
  · rw [List.getElem?_eq_none (by simpa using hj), List.getElem?_eq_none (by simpa using hj)]
theorem bitsIn_getD (s : ByteArray) (j : Nat) (hj : j < s.size) : (bitsIn s).getD j false = (s[j] == 49) := by
  rw [List.getD_eq_getElem?_getD, bitsIn, List.getElem?_map, List.getElem?_eq_getElem (by simpa using hj)]; rfl
theorem okTill_succ {s : ByteArray} {k : Nat} (h : okTill s k) (hk : k < s.size) (hc : isDigit s[k] = true) : okTill s (k + 1) := by
  intro j hj hjk
  by_cases e : j = k
  · subst e; exact hc
  · exact h j hj (by omega)
theorem read_step (m : Nat) (c : Int) (b : Bool) (hm : m < 2 ^ 63) (hc : c = 48 + b.toNat) : bits BinOp.or IntKind.u64 (IntKind.u64.wrap ((m : Int) * 2)) ((c - 48) % 256) = ((2 * m + b.toNat : Nat) : Int) := by
  have e1 : IntKind.u64.wrap ((m : Int) * 2) = ((2 * m : Nat) : Int) := by rw [IntKind.wrap_u64]; omega
  have e2 : (c - 48) % 256 = ((b.toNat : Nat) : Int) := by subst hc; cases b <;> simp
  rw [e1, e2, u64_or_nat _ _ (by omega) (by cases b <;> decide)]
  rw [nat_join 1 (2 * m) b.toNat (by omega) (by cases b <;> decide)]
theorem lread_long (s : ByteArray) (h : 64 < s.size) (hs : s.size ≤ maxLen) (w : World) :
    Calls Try.prog 5 #[.string s] w fun e w' => e = .returned (.tuple #[.int .u64 0, .iface 36 (.int .i64 3)]) ∧ w' = w := by
  refine cps fun Q hQ => ?_
  go_enter Try.func5, Try.ntmps5
  go_wp2
  exact hQ.out _ _ ⟨rfl, rfl⟩
theorem rread_long (s : ByteArray) (h : 64 < s.size) (hs : s.size ≤ maxLen) (w : World) :
    Calls Try.prog 6 #[.string s] w fun e w' => e = .returned (.tuple #[.int .u64 0, .int .i64 3]) ∧ w' = w := by
  refine cps fun Q hQ => ?_
  go_enter Try.func6, Try.ntmps6
  go_wp2
  exact hQ.out _ _ ⟨rfl, rfl⟩
theorem lread_ok (s : ByteArray) (h : s.size ≤ 64) (w : World) :
    Calls Try.prog 5 #[.string s] w fun e w' => (e = .returned (.tuple #[.int .u64 (numOf (bitsIn s) : Nat), .nilIface]) ∧ okTill s s.size ∨
      e = .returned (.tuple #[.int .u64 0, .iface 36 (.int .i64 7)]) ∧ ¬ okTill s s.size) ∧ ∃ q, w' = w.drewN q := by
  refine cps fun Q hQ => ?_
  go_enter Try.func5, Try.ntmps5
  go_wp2
  go_loopw [4, 5, 12] (fun v _ i wr => ∃ (k V : Nat), k ≤ s.size ∧ i = .int .i64 k ∧ v = .int .u64 (V : Nat) ∧ Hid (V = numOf ((bitsIn s).take k)) ∧ okTill s k ∧ ∃ q, wr = w.drewN q) (fun _ _ i _ => s.size - (intOf i).toNat)
  case atStart => exact ⟨0, 0, Nat.zero_le _, rfl, rfl, rfl, fun j _ hj => absurd hj (by omega), 0, rfl⟩
  case round =>
    obtain ⟨k, V, hk, rfl, rfl, hV, hok, q, rfl⟩ := hrel
    by_cases hlt : k < s.size
    · have hstep := numOf_step (bitsIn s) k (by rw [bitsIn_length]; exact hlt)
      rw [bitsIn_getD s k hlt, ← hV.out] at hstep
      have hVl : V < 2 ^ 63 := by rw [hV.out]; exact Nat.lt_of_lt_of_le (numOf_lt _) (Nat.pow_le_pow_right (by decide) (by rw [List.length_take]; omega))
      have HS : Hid _ := hstep
      have HV : Hid _ := hVl
      clear hstep hVl
      go_wp2
      · have h48 : ((s[k]'hlt).toNat : Int) = 48 := by assumption
        have hb : s[k]'hlt = 48 := UInt8.toNat_inj.1 (by show _ = 48; omega)
        go_roundw
        case rel => exact ⟨k + 1, 2 * V, by omega, by go_num, congrArg (Value.int .u64) (by simpa using read_step V 48 false HV.out rfl), by rw [HS.out, hb]; rfl, okTill_succ hok hlt (by rw [hb]; rfl), q, rfl⟩
        case measure => simp [intOf]; omega
      · have hno : (((s[k]'hlt).toNat : Int) != 48) = true ∧ (((s[k]'hlt).toNat : Int) != 49) = true := by assumption
        simp only [bne_iff_ne, ne_eq] at hno
        refine hQ.out _ _ ⟨.inr ⟨rfl, fun ha => ?_⟩, q, rfl⟩
        have := ha k hlt hlt
        simp only [isDigit, Bool.or_eq_true, beq_iff_eq] at this
        rcases this with e | e <;> rw [e] at hno <;> simp at hno
      · have hno : (((s[k]'hlt).toNat : Int) != 48) = false ∨ (((s[k]'hlt).toNat : Int) != 49) = false := by assumption
        have h48 : ¬ ((s[k]'hlt).toNat : Int) = 48 := by assumption
        have h49 : ((s[k]'hlt).toNat : Int) = 49 := by
          rcases hno with e | e
          · simp at e; exact absurd (by omega) h48
          · simp at e; omega
        have hb : s[k]'hlt = 49 := UInt8.toNat_inj.1 (by show _ = 49; omega)
        go_roundw
        case rel => exact ⟨k + 1, 2 * V + 1, by omega, by go_num, congrArg (Value.int .u64) (by rw [h49]; exact read_step V 49 true HV.out rfl), by rw [HS.out, hb]; rfl, okTill_succ hok hlt (by rw [hb]; rfl), q, rfl⟩
        case measure => simp [intOf]; omega
    · go_wp2
      have hkn : k = s.size := by omega
      subst hkn
      exact hQ.out _ _ ⟨.inl ⟨ret_ix (by rw [hV.out, List.take_of_length_le (by rw [bitsIn_length]; omega)]), hok⟩, q, rfl⟩
theorem rread_ok (s : ByteArray) (h : s.size ≤ 64) (w : World) :
    Calls Try.prog 6 #[.string s] w fun e w' => (e = .returned (.tuple #[.int .u64 (numOf (bitsIn s) : Nat), .int .i64 0]) ∧ okTill s s.size ∨
      e = .returned (.tuple #[.int .u64 0, .int .i64 7]) ∧ ¬ okTill s s.size) ∧ ∃ q, w' = w.drewN q := by
  refine cps fun Q hQ => ?_
  go_enter Try.func6, Try.ntmps6
  go_wp2
  go_loopw [4] (fun i wr => ∃ (k : Nat), k ≤ s.size ∧ i = .int .i64 k ∧ okTill s k ∧ ∃ q, wr = w.drewN q) (fun i _ => s.size - (intOf i).toNat)
  case atStart => exact ⟨0, Nat.zero_le _, rfl, fun j _ hj => absurd hj (by omega), 0, rfl⟩
  case round =>
    obtain ⟨k, hk, rfl, hok, q, rfl⟩ := hrel
    by_cases hlt : k < s.size
    · go_wp2
      · have h48 : ((s[k]'hlt).toNat : Int) = 48 := by assumption
        have hb : s[k]'hlt = 48 := UInt8.toNat_inj.1 (by show _ = 48; omega)
        go_roundw
        case rel => exact ⟨k + 1, by omega, by go_num, okTill_succ hok hlt (by rw [hb]; rfl), q, rfl⟩
        case measure => simp [intOf]; omega
      · have hno : (((s[k]'hlt).toNat : Int) != 48) = true ∧ (((s[k]'hlt).toNat : Int) != 49) = true := by assumption
        simp only [bne_iff_ne, ne_eq] at hno
        refine hQ.out _ _ ⟨.inr ⟨rfl, fun ha => ?_⟩, q, rfl⟩
        have := ha k hlt hlt
        simp only [isDigit, Bool.or_eq_true, beq_iff_eq] at this
        rcases this with e | e <;> rw [e] at hno <;> simp at hno
      · have hno : (((s[k]'hlt).toNat : Int) != 48) = false ∨ (((s[k]'hlt).toNat : Int) != 49) = false := by assumption
        have h48 : ¬ ((s[k]'hlt).toNat : Int) = 48 := by assumption
        have h49 : ((s[k]'hlt).toNat : Int) = 49 := by
          rcases hno with e | e
          · simp at e; exact absurd (by omega) h48
          · simp at e; omega
        have hb : s[k]'hlt = 49 := UInt8.toNat_inj.1 (by show _ = 49; omega)
        go_roundw
        case rel => exact ⟨k + 1, by omega, by go_num, okTill_succ hok hlt (by rw [hb]; rfl), q, rfl⟩
        case measure => simp [intOf]; omega
    · have hkn : k = s.size := by omega
      subst hkn
      go_wp2_with (go_at_call 10; refine (number_any s _ (bitsIn_isBits s hok) (by rw [bitsIn_length]; exact h) _).mono ?_; rintro e w' ⟨rfl, rfl⟩)
      exact hQ.out _ _ ⟨.inl ⟨rfl, hok⟩, q, rfl⟩

theorem leadReads_walk (s : ByteArray) (hs : s.size ≤ maxLen) (w : World) :
    Calls Try.prog 3 #[.string s] w fun e w' => e = .returned (.bool true) ∧ Below w.heap.size w w' := by
  refine cps fun Q hQ => ?_
  by_cases h : s.size ≤ 64
  · by_cases hd : okTill s s.size
    · have HD : Hid _ := hd
      clear hd
      go_enter Try.func3, Try.ntmps3
      go_wp2_with first
        | (go_at_call 4; refine (up_any _).mono ?_; rintro e w1 ⟨rfl, hb1⟩)
        | (go_at_call 5; refine (lread_ok s h _).mono ?_; rintro e w' ⟨⟨rfl, _⟩ | ⟨_, hn⟩, q, rfl⟩; rotate_left; exact absurd HD.out hn)
        | (go_at_call 6; refine (rread_ok s h _).mono ?_; rintro e w' ⟨⟨rfl, _⟩ | ⟨_, hn⟩, q2, rfl⟩; rotate_left; exact absurd HD.out hn)
        | (go_at_call 7; refine (code_nil _).mono ?_; rintro e w' ⟨rfl, rfl⟩)
      exact hQ.out _ _ ⟨rfl, below_drewN hb1 (q + q2)⟩
    · have HD : Hid _ := hd
      clear hd
      go_enter Try.func3, Try.ntmps3
      go_wp2_with first
        | (go_at_call 4; refine (up_any _).mono ?_; rintro e w1 ⟨rfl, hb1⟩)
        | (go_at_call 5; refine (lread_ok s h _).mono ?_; rintro e w' ⟨⟨_, hn⟩ | ⟨rfl, _⟩, q, rfl⟩; exact absurd hn HD.out)
        | (go_at_call 6; refine (rread_ok s h _).mono ?_; rintro e w' ⟨⟨_, hn⟩ | ⟨rfl, _⟩, q2, rfl⟩; exact absurd hn HD.out)
        | (go_at_call 7; refine (code_any 7 _).mono ?_; rintro e w' ⟨rfl, rfl⟩)
      exact hQ.out _ _ ⟨rfl, below_drewN hb1 (q + q2)⟩
  · have h' : 64 < s.size := by omega
    go_enter Try.func3, Try.ntmps3
    go_wp2_with first
      | (go_at_call 4; refine (up_any _).mono ?_; rintro e w1 ⟨rfl, hb1⟩)
      | (go_at_call 5; refine (lread_long s h' hs _).mono ?_; rintro e w' ⟨rfl, rfl⟩)
      | (go_at_call 6; refine (rread_long s h' hs _).mono ?_; rintro e w' ⟨rfl, rfl⟩)
      | (go_at_call 7; refine (code_any 3 _).mono ?_; rintro e w' ⟨rfl, rfl⟩)
    exact hQ.out _ _ ⟨rfl, hb1⟩
end Go.Proofs.Ytldoinokiipidab
