import Derived.Test.YtckmmdmimlhmoaaDoorNatY
import Derived.Test.YtckmmdmimlhmoaaDoorNatD
import Derived.Laws.Closers25b
namespace Go.Proofs.YtckmmdmimlhmoaaDoor
open Go.ChangeShapes Go.WideShapes Go.ChangeAt Go.RowKit
set_option linter.unusedVariables false
set_option linter.unusedSimpArgs false
set_option maxRecDepth 100000

/-! ### decimal texts -/
/-- the lowest n decimal digits of x, the lowest first -/
def dle : Nat → Nat → List Nat
  | 0, _ => []
  | n + 1, x => x % 10 :: dle n (x / 10)
theorem dle_length (n x : Nat) : (dle n x).length = n := by
  induction n generalizing x with
  | zero => rfl
  | succ n ih => simp [dle, ih]
theorem dle_mem (n x d : Nat) (h : d ∈ dle n x) : d < 10 := by
  induction n generalizing x with
  | zero => simp [dle] at h
  | succ n ih =>
    rw [dle] at h
    rcases List.mem_cons.1 h with g | g
    · omega
    · exact ih _ g
theorem dle_snoc (n x : Nat) : dle (n + 1) x = dle n x ++ [x / 10 ^ n % 10] := by
  induction n generalizing x with
  | zero => simp [dle]
  | succ n ih =>
    rw [dle, ih, dle, List.cons_append, Nat.div_div_eq_div_mul, ← Nat.pow_succ']
theorem dval_rev_dle (n x : Nat) (h : x < 10 ^ n) : dval (dle n x).reverse = x := by
  induction n generalizing x with
  | zero => have : x = 0 := by simpa using h
            subst this; rfl
  | succ n ih =>
    rw [dle, List.reverse_cons, dval_snoc, ih]
    · omega
    · rw [Nat.pow_succ] at h
      exact Nat.div_lt_of_lt_mul (by rw [Nat.mul_comm]; exact h)
theorem dle_ds (n x : Nat) (h : x < 10 ^ n) : (dle n x).reverse.dropWhile (· == 0) = ds x := by
  rw [← ds_dval _ (fun d hd => dle_mem n x d (List.mem_reverse.1 hd)), dval_rev_dle n x h]

theorem notEmpty {s : ByteArray} (h : s ≠ ⟨#[]⟩) : s.toList.isEmpty = false := by
  cases e : s.toList.isEmpty with
  | false => rfl
  | true => exact absurd ((toList_nil_iff_emptyBytes s).1 (List.isEmpty_iff.1 e)) h
/-! ### strings.TrimLeft at the cutset of one nought -/
theorem dstr_size' (d : Nat) (l : List Nat) : (dstr (d :: l)).size = l.length + 1 := by rw [dstr_size]; rfl
theorem dstr_tail (d : Nat) (l : List Nat) : (dstr (d :: l)).extract 1 (dstr (d :: l)).size = dstr l := by
  apply ByteArray.ext
  rw [ByteArray.data_extract]
  apply Array.ext'
  have h1 : (List.map (fun d => (48 + UInt8.ofNat d : UInt8)) l).length = l.length := by simp
  simp [dstr, ByteArray.size]
  exact List.take_of_length_le (by simp)
theorem trimbyte_any (l : List Nat) (hl : ∀ d ∈ l, d < 10) (hs : l.length ≤ 1099511627776) (w : World) :
    Calls Tryd.prog 47 #[.string (dstr l), .int .u8 48] w fun e w' => e = .returned (.string (dstr (l.dropWhile (· == 0)))) ∧ w' = w := by
  refine cps fun Q hQ => ?_
  have HQ : Hid (∀ e w', e = .returned (.string (dstr (l.dropWhile (· == 0)))) ∧ w' = w → Q e w') := hQ.out
  have HL : Hid (∀ d ∈ l, d < 10) := hl
  clear hQ hl
  go_enter Tryd.func47, Tryd.ntmps47
  go_wp2
  go_loop [0] (fun sv => ∃ m : List Nat, sv = .string (dstr m) ∧ Hid (l.dropWhile (· == 0) = m.dropWhile (· == 0)) ∧ Hid (∀ d ∈ m, d < 10) ∧ m.length ≤ l.length) (fun sv => match sv with | .string b => b.size | _ => 0)
  case atStart => exact ⟨l, rfl, rfl, HL.out, Nat.le_refl _⟩
  case round =>
    obtain ⟨m, rfl, hm, hd, hml⟩ := hrel
    cases m with
    | nil =>
      have h0 : (dstr []).size = 0 := rfl
      have HM : Hid (l.dropWhile (· == 0) = []) := hm.out
      clear hm hd
      go_wp2
      exact HQ.out _ _ ⟨by rw [HM.out], rfl⟩
    | cons d r =>
      have hsz := dstr_size' d r
      have hrl : r.length + 1 ≤ l.length := by simpa using hml
      have hp : 0 < (dstr (d :: r)).size := by omega
      have hg := dstr_get (d :: r) 0 hp
      have hd10 := hd.out d (List.mem_cons_self ..)
      have hsl := fun w => slice_l (P := Tryd.prog) (t := 9) (s := dstr (d :: r)) Tryd.underlying9 1 1 rfl hp w
      rw [dstr_tail] at hsl
      have hg2 : ((dstr (d :: r))[0]'hp).toNat = 48 + d := by rw [hg]; simp; omega
      clear hg
      by_cases h0 : d = 0
      · subst h0
        have hg3 : (((dstr (0 :: r))[0]'hp).toNat : Int) = 48 := by omega
        have HM : Hid (l.dropWhile (· == 0) = r.dropWhile (· == 0)) := (hm.out.trans (by simp) : l.dropWhile (· == 0) = r.dropWhile (· == 0))
        have HD : Hid (∀ d ∈ r, d < 10) := fun d h => hd.out d (List.mem_cons_of_mem _ h)
        clear hm hd hg2
        go_wp2
        go_round
        case rel => exact ⟨r, rfl, HM.out, HD.out, by omega⟩
        case measure => show (dstr r).size < (dstr (0 :: r)).size; rw [hsz, dstr_size]; omega
      · have HM : Hid (l.dropWhile (· == 0) = d :: r) := (hm.out.trans (by simp [h0]) : l.dropWhile (· == 0) = d :: r)
        have hdi : ¬ ((d : Int) = 0) := by omega
        clear hm hd
        go_wp2
        exact HQ.out _ _ ⟨by rw [HM.out], rfl⟩
theorem trim_any (l : List Nat) (hl : ∀ d ∈ l, d < 10) (hs : l.length ≤ 1099511627776) (w : World) :
    Calls Tryd.prog 36 #[.string (dstr l), .string ⟨#[48]⟩] w fun e w' => e = .returned (.string (dstr (l.dropWhile (· == 0)))) ∧ w' = w := by
  have kb := trimbyte_any l hl hs w
  have KB : Hid (Calls _ _ _ _ _) := kb
  clear kb hl
  refine cps fun Q hQ => ?_
  cases l with
  | nil =>
    have h0 : dstr [] = ⟨#[]⟩ := rfl
    rw [h0]
    have hQ' := hQ.out (.returned (.string ⟨#[]⟩)) w ⟨rfl, rfl⟩
    have HQ : Hid (Q (.returned (.string ⟨#[]⟩)) w) := hQ'
    clear hQ hQ' KB
    go_enter Tryd.func36, Tryd.ntmps36
    go_wp2
    exact HQ.out
  | cons d r =>
    have hsz := dstr_size' d r
    have hne : dstr (d :: r) ≠ ⟨#[]⟩ := fun h => by
      have := congrArg ByteArray.size h
      rw [hsz] at this; cases this
    have hne2 := notEmpty hne
    go_enter Tryd.func36, Tryd.ntmps36
    go_wp2_with (go_at_call 47; refine KB.out.mono ?_; rintro e w' ⟨rfl, hw⟩; rw [hw]; clear hw w')
    exact hQ.out _ _ ⟨rfl, rfl⟩

/-! ### cmp.Or of two texts -/
set_option maxHeartbeats 1000000 in
theorem or2_any (g : Nat) (a b : ByteArray) (hb : b ≠ ⟨#[]⟩) (w : World) (h0 : w.cell? ⟨g, 0, none⟩ = some (.string a)) (h1 : w.cell? ⟨g, 1, none⟩ = some (.string b)) :
    Calls Tryd.prog 35 #[.slice (some ⟨g, 0, none⟩) 2 2] w fun e w' => e = .returned (.string (if a = ⟨#[]⟩ then b else a)) ∧ w' = w := by
  have hb3 := notEmpty hb
  refine cps fun Q hQ => ?_
  by_cases ha : a = ⟨#[]⟩
  · rw [if_pos ha] at hQ
    subst ha
    go_enter Tryd.func35, Tryd.ntmps35
    go_wp2
    go_loop [8] (fun iv => iv = .int .i64 0 ∨ iv = .int .i64 1) (fun iv => 2 - (intOf iv).toNat)
    case atStart => exact .inl rfl
    case round =>
      rcases hrel with rfl | rfl
      · go_wp2
        go_round
        case rel => exact .inr rfl
        case measure => simp [intOf]
      · go_wp2
        exact hQ.out _ _ ⟨rfl, rfl⟩
  · rw [if_neg ha] at hQ
    have ha3 := notEmpty ha
    go_enter Tryd.func35, Tryd.ntmps35
    go_wp2
    go_loop [8] (fun iv => iv = .int .i64 0) (fun iv => 2 - (intOf iv).toNat)
    case atStart => rfl
    case round =>
      subst hrel
      go_wp2
      exact hQ.out _ _ ⟨rfl, rfl⟩

/-! ### 10^n -/
theorem natpower_any (n : Nat) (hn : n ≤ 19) (w : World) :
    Calls Tryd.prog 33 #[.int .i64 n] w fun e w' => e = .returned (.int .u64 (10 ^ n : Nat)) ∧ w' = w := by
  refine cps fun Q hQ => ?_
  go_enter Tryd.func33, Tryd.ntmps33
  go_wp2
  go_loop [3, 5] (fun pv iv => ∃ i p : Nat, i ≤ n ∧ pv = .int .u64 p ∧ iv = .int .i64 i ∧ Hid (p = 10 ^ i)) (fun _ iv => n - (intOf iv).toNat)
  case atStart => exact ⟨0, 1, Nat.zero_le _, rfl, rfl, rfl⟩
  case round =>
    obtain ⟨i, p, hi, rfl, rfl, hp⟩ := hrel
    by_cases hlt : i < n
    · have hb : p * 10 ≤ 18446744073709551615 := by
        rw [hp.out, ← Nat.pow_succ]
        have : (10 : Nat) ^ (i + 1) ≤ 10 ^ 19 := Nat.pow_le_pow_right (by decide) (by omega)
        have h2 : (10 : Nat) ^ 19 = 10000000000000000000 := by decide
        omega
      go_wp2
      go_round
      case rel => exact ⟨i + 1, p * 10, by omega, by go_num, by go_num, by show _ = _; rw [hp.out, Nat.pow_succ]⟩
      case measure => simp [intOf]; omega
    · have hin : i = n := by omega
      subst hin
      have HP : Hid (p = 10 ^ i) := hp
      clear hp
      go_wp2
      exact hQ.out _ _ ⟨ret_i (by rw [HP.out]), rfl⟩
end Go.Proofs.YtckmmdmimlhmoaaDoor
