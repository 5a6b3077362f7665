import Derived.Test.YthchcocolclpoaaGreatDoorNatA
import Derived.Test.YthchcocolclpoaaGreatDoorKit
import Derived.Test.YthchcocolclpoaaGreatDoorRows
import Derived.Laws.Strings3
import Derived.Laws.ResultCell
import Derived.Deep.LoopGhost
import Derived.Deep.WholeRow
import Derived.Lib.AsciiSet
import Derived.Lib.SlTrimSet
import Derived.Lib.Walk
import Derived.Lib.Strings
import Derived.Lib.IndexBytes
namespace Go.Proofs.YthchcocolclpoaaGreatDoor
open Go.ChangeShapes Go.WideShapes Go.ChangeAt Go.RowKit
set_option linter.unusedVariables false
set_option linter.unusedSimpArgs false

/-! ### strings.TrimLeft at the ten digits -/
def tens : ByteArray := ⟨#[48, 49, 50, 51, 52, 53, 54, 55, 56, 57]⟩
theorem setInfo : (Tryz.prog.info? 97).map (fun i => (i.zero, i.size)) = some (some (.agg (Array.replicate 256 (.bool false))), 256) := by kernel_rfl
theorem tens_ascii (j : Nat) (b : UInt8) (h : tens.data.toList[j]? = some b) : b.toNat < 128 := by
  have hm := List.mem_of_getElem? h
  have : ∀ x ∈ tens.data.toList, x.toNat < 128 := by decide
  exact this b hm
set_option maxHeartbeats 4000000 in
set_option maxRecDepth 1000000 in
theorem makeset_any (w : World) :
    Calls Tryz.prog 58 #[.string tens] w fun e w' => e = .returned (.tuple #[.agg (Lib.setCells tens.data.toList), .bool true]) ∧ w' = w.alloc (.cells (Lib.setCells tens.data.toList) 97) := by
  obtain ⟨hv116, hi116⟩ := zero_of_info setInfo
  have HA : Aside (∀ (j : Nat) b, tens.data.toList[j]? = some b → b.toNat < 128) := tens_ascii
  obtain ⟨chars, hch⟩ : ∃ c, c = tens := ⟨_, rfl⟩
  have hs : chars.size < 4294967281 := by rw [hch]; decide
  rw [← hch] at HA ⊢
  clear hch
  refine cps fun Q hQ => ?_
  go_enter Tryz.func58, Tryz.ntmps58
  go_wp2
  rw [← Lib.setCells_nil]
  go_loopg [4] chars.size (fun g s4 wx => ∃ i : Nat, i + g = chars.size ∧ s4 = .int .i64 i ∧ wx = w.alloc (.cells (Lib.setCells (chars.data.toList.take i)) 97))
  case atStart => exact ⟨0, by omega, rfl, rfl⟩
  case round =>
    obtain ⟨i, hig, rfl, rfl⟩ := hrel
    cases gk with
    | zero =>
      obtain rfl : i = chars.size := by omega
      have hiz : ¬ ((chars.size : Int) < (chars.size : Int)) := by omega
      rw [show chars.data.toList.take chars.size = chars.data.toList from List.take_of_length_le (by rw [← Lib.size_eq]; exact Nat.le_refl _)]
      have hsz := Lib.setCells_size chars.data.toList
      go_wp2
      have hld := run_loadVar_new (P := Tryz.prog) w 97 (Lib.setCells chars.data.toList) 256 4 Tryz.underlying97 (by rw [Lib.setCells_size]; exact hi116)
      have hla := run_loadAt_new (P := Tryz.prog) w 97 (Lib.setCells chars.data.toList) 256 4 Tryz.underlying97 (by rw [Lib.setCells_size]; exact hi116)
      have hsa := run_storeCells_new (P := Tryz.prog) w 97 (Lib.setCells chars.data.toList) (Lib.setCells chars.data.toList) (by rw [hsz]; exact hi116) rfl (Lib.setCells_one _)
      generalize Lib.setCells chars.data.toList = SC at *
      unfold Oper.wp
      simp only [execOp, hla, Act.eval, Result.andThen]
      simp [hla, Result.andThen]
      rw [Oper.upon_value]
      have HLD : Aside _ := hld
      have HSA : Aside (Sem.run _ _ _ = _) := hsa
      clear hld hla hsa
      go_wp2
      simp only [HSA.out, Result.andThen]
      rw [Oper.upon_skip]
      go_wp2
      refine bodyPost_ret (v := .tuple #[.agg SC, .bool true]) ?_ rfl (hQ.out _ _ ⟨rfl, rfl⟩)
      rw [results_cell_tmp rfl]
      simp [asAddr, Result.andThen, HLD.out]
    | succ g =>
      have hi : i < chars.size := by omega
      have hiz : (i : Int) < (chars.size : Int) := by omega
      obtain ⟨x, hx⟩ : ∃ x : UInt8, chars[i]'hi = x := ⟨_, rfl⟩
      have hxl : chars.data.toList[i]? = some x := by rw [← hx]; exact Lib.data_getElem? chars i hi
      have hx128 : ¬ ((128 : Int) ≤ (x.toNat : Int)) := by have := HA.out i x hxl; omega
      have hx256 : (x.toNat : Int) < 256 := by have := HA.out i x hxl; omega
      have hcell := Lib.setCells_at (chars.data.toList.take i) x
      have Hx : Aside (chars.data.toList[i]? = some x) := hxl
      clear hxl
      go_wp2
      go_roundg g
      case measure => omega
      case rel => exact ⟨i + 1, by omega, by first | rfl | simp, by rw [List.take_add_one, Hx.out]; simp only [Option.toList]; rw [Lib.setCells_snoc]⟩

set_option maxHeartbeats 2000000 in
set_option maxRecDepth 1000000 in
theorem setcontains_any (b : Nat) (x : UInt8) (v : Bool) (w : World) (hc : w.cell? ⟨b, x.toNat, none⟩ = some (.bool v)) :
    Calls Tryz.prog 75 #[.pointer (some ⟨b, 0, none⟩), .int .u8 x.toNat] w fun e w' => e = .returned (.bool v) ∧ w' = w := by
  have hx256 : (x.toNat : Int) < 256 := by have := UInt8.toNat_lt x; omega
  go_enter Tryz.func75, Tryz.ntmps75
  go_wp2
  go_ret
  exact ⟨rfl, rfl⟩
set_option maxHeartbeats 2000000 in
set_option maxRecDepth 1000000 in
theorem trimset_any (s : ByteArray) (b : Nat) (cs : List UInt8) (w : World) (hset : ∀ x : UInt8, w.cell? ⟨b, x.toNat, none⟩ = some (.bool (cs.contains x))) :
    Calls Tryz.prog 59 #[.string s, .pointer (some ⟨b, 0, none⟩)] w fun e w' => e = .returned (.string ⟨(Lib.trimLeftS s.data.toList cs).toArray⟩) ∧ w' = w := by
  have HS : Aside _ := hset
  clear hset
  refine cps fun Q hQ => ?_
  go_enter Tryz.func59, Tryz.ntmps59
  go_wp2
  go_loop [0] (fun v => ∃ k : Nat, k ≤ s.size ∧ v = .string ⟨(s.data.toList.drop k).toArray⟩ ∧ Hid (∀ (j : Nat) b, j < k → s.data.toList[j]? = some b → cs.contains b = true)) (fun v => Lib.strSize v)
  case atStart => exact ⟨0, Nat.zero_le _, by simp, fun j b hj => absurd hj (Nat.not_lt_zero _)⟩
  case round =>
    obtain ⟨k, hk, rfl, hK⟩ := hrel
    have hts : (⟨(s.data.toList.drop k).toArray⟩ : ByteArray).size = s.size - k := by rw [Lib.size_mk, List.length_drop, ← Lib.size_eq]
    have hb0 : ∀ h, s.data.toList[k]? = some ((⟨(s.data.toList.drop k).toArray⟩ : ByteArray)[0]'h) := by
      intro h
      rw [← Lib.getElem_mk (s.data.toList.drop k) 0 h, List.getElem?_drop]
      rfl
    have hx1 : (⟨(s.data.toList.drop k).toArray⟩ : ByteArray).extract 1 (s.size - k) = ⟨(s.data.toList.drop (k + 1)).toArray⟩ := by
      rw [Lib.extract_mk, List.drop_drop, List.take_of_length_le (by simp; omega)]
    generalize ht : (⟨(s.data.toList.drop k).toArray⟩ : ByteArray) = t at hts hb0 hx1 ⊢
    have hK3 : Hid ((⟨(s.data.toList.drop k).toArray⟩ : ByteArray) = t) := ht
    clear ht
    have hkl : Hid (k ≤ s.data.toList.length) := by show _ ≤ _; rw [← Lib.size_eq]; exact hk
    by_cases h0 : 0 < t.size
    · have hbk := hb0 h0
      clear hb0
      have hK2 : Hid (s.data.toList[k]? = some (t[0]'h0)) := hbk
      clear hbk
      have hcx := HS.out (t[0]'h0)
      cases hin : cs.contains (t[0]'h0) <;> rw [hin] at hcx
      · have HI : Hid (cs.contains (t[0]'h0) = false) := hin
        clear hin
        go_wp2_with (go_at_call 75; refine (setcontains_any _ (t[0]'h0) _ _ hcx).mono ?_; rintro e w' ⟨rfl, hw⟩; rw [hw])
        refine hQ.out _ _ ⟨?_, rfl⟩
        rw [Lib.trimLeftS_drop s.data.toList cs k hkl.out hK.out (fun b hb => by
          rw [hK2.out] at hb
          rw [← Option.some.inj hb]
          exact HI.out), hK3.out]
        try rfl
      · have HI : Hid (cs.contains (t[0]'h0) = true) := hin
        clear hin
        go_wp2_with (go_at_call 75; refine (setcontains_any _ (t[0]'h0) _ _ hcx).mono ?_; rintro e w' ⟨rfl, hw⟩; rw [hw])
        refine ⟨⟨k + 1, by omega, rfl, fun j b hj hb => ?_⟩, ?_⟩
        · by_cases e : j = k
          · subst e
            have h3 : s.data.toList[j]? = some b := by simpa using hb
            rw [hK2.out] at h3
            rw [← Option.some.inj h3]
            exact HI.out
          · exact hK.out j b (by omega) (by simpa using hb)
        · rw [Lib.strSize_string, Lib.strSize_string, Lib.size_mk, List.length_drop, ← Lib.size_eq]
          omega
    · clear hb0
      go_wp2
      refine hQ.out _ _ ⟨?_, rfl⟩
      rw [Lib.trimLeftS_drop s.data.toList cs k hkl.out hK.out (fun b hb => by
        have : s.data.toList.length ≤ k := by rw [← Lib.size_eq]; omega
        simp [List.getElem?_eq_none this] at hb), hK3.out]
set_option maxHeartbeats 8000000 in
set_option maxRecDepth 1000000 in
/-- strings.TrimLeft at the ten digits -/
theorem trimten_any (s : ByteArray) (w : World) :
    Calls Tryz.prog 36 #[.string s, .string tens] w fun e w' => e = .returned (.string ⟨(Lib.trimLeftS s.data.toList tens.data.toList).toArray⟩) ∧ Below w.heap.size w w' := by
  obtain ⟨hv116, hi116⟩ := zero_of_info setInfo
  refine cps fun Q hQ => ?_
  by_cases h0 : s.size = 0
  · have hemps : s = ⟨#[]⟩ := ByteArray.ext (Array.eq_empty_of_size_eq_zero h0)
    subst hemps
    have HQ : Hid (Q (.returned (.string ⟨#[]⟩)) w) := hQ.out _ _ ⟨by rfl, Below.refl _ _⟩
    clear hQ
    unfold tens
    go_enter Tryz.func36, Tryz.ntmps36
    go_wp2
    exact HQ.out
  · have hM := makeset_any w
    have hemps : s.toList.isEmpty = false := by
      rw [Lib.toList_data]
      cases h : s.data.toList with
      | nil => have := Lib.size_eq s; rw [h, List.length_nil] at this; omega
      | cons _ _ => rfl
    have hsc : (storeCells ⟨w.heap.size + 1, 0, none⟩ (Lib.setCells tens.data.toList).toList 0).run Tryz.prog ((w.alloc (.cells (Lib.setCells tens.data.toList) 97)).alloc (.cells (Array.replicate 256 (.bool false)) 97)) = .ok () ((w.alloc (.cells (Lib.setCells tens.data.toList) 97)).alloc (.cells (Lib.setCells tens.data.toList) 97)) := by
      have := run_storeCells_new (P := Tryz.prog) (w.alloc (.cells (Lib.setCells tens.data.toList) 97)) 97 (Array.replicate 256 (.bool false)) (Lib.setCells tens.data.toList) (by rw [Lib.setCells_size]; exact hi116) (by rw [Lib.setCells_size, Array.size_replicate]) (Lib.setCells_one _)
      simpa using this
    have hcellAt : ∀ x : UInt8, ((w.alloc (.cells (Lib.setCells tens.data.toList) 97)).alloc (.cells (Lib.setCells tens.data.toList) 97)).cell? ⟨w.heap.size + 1, x.toNat, none⟩ = some (.bool (tens.data.toList.contains x)) := fun x => by
      rw [World.cell?_alloc_at _ _ _ _ (by simp), Lib.setCells_at]
    have hT := trimset_any s (w.heap.size + 1) tens.data.toList _ hcellAt
    clear hcellAt
    have HT : Hid (Calls _ _ _ _ _) := hT
    have HM : Hid (Calls _ _ _ _ _) := hM
    have hsz := Lib.setCells_size tens.data.toList
    have hone := Lib.setCells_one tens.data.toList
    clear hT hM
    have HQ : Hid (∀ w', Below w.heap.size w w' → Q (.returned (.string ⟨(Lib.trimLeftS s.data.toList tens.data.toList).toArray⟩)) w') := fun w' h => hQ.out _ _ ⟨rfl, h⟩
    clear hQ
    generalize Lib.setCells tens.data.toList = SC at *
    generalize Lib.trimLeftS s.data.toList tens.data.toList = TL at *
    unfold tens at *
    go_enter Tryz.func36, Tryz.ntmps36
    go_wp2_with (first
      | (go_at_call 58; refine HM.out.mono ?_; rintro e w' ⟨rfl, hw⟩; rw [hw])
      | (go_at_call 59; refine HT.out.mono ?_; rintro e w' ⟨rfl, hw⟩; rw [hw]))
    exact HQ.out _ (((Below.refl _ _).alloc (Nat.le_refl _) _).alloc (by simp) _)
end Go.Proofs.YthchcocolclpoaaGreatDoor
