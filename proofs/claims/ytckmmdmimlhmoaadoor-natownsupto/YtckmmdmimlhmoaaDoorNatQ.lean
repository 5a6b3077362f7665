import Derived.Test.YtckmmdmimlhmoaaDoorNatP
import Derived.Test.YtckmmdmimlhmoaaDoorNatsIn
import Derived.Test.YtckmmdmimlhmoaaDoorNatC
import Derived.RangeFuncBox
namespace Go.Proofs.YtckmmdmimlhmoaaDoor
open Go.ChangeShapes Go.WideShapes Go.ChangeAt Go.RowKit
set_option linter.unusedVariables false
set_option linter.unusedSimpArgs false
set_option maxRecDepth 100000

/-! ### what comes out: a number in a block of its own, no room behind it -/
def OwnU (B : Nat) (w : World) (v : Value) (x : Nat) : Prop :=
  ∃ ao, v = .slice ao (lim x).length (lim x).length ∧ (lim x).length ≤ 9223372036854775807 ∧ (lim x = [] ∨ ∃ g z, ao = some ⟨g, 0, none⟩ ∧ B ≤ g ∧ Blk w g (lim x ++ List.replicate z 0))
theorem OwnU.row {B : Nat} {w : World} {v : Value} {x : Nat} (h : OwnU B w v x) : RowU w v (lim x) := by
  obtain ⟨ao, rfl, hm, h⟩ := h
  rcases h with h | ⟨g, z, rfl, hB, hb⟩
  · exact ⟨ao, _, rfl, hm, Nat.le_refl _, .inl h⟩
  · exact Blk.row (P := []) (A := lim x) (R := List.replicate z 0) (by simpa using hb) _ (Nat.le_refl _) hm
theorem OwnU.nil (B : Nat) (w : World) : OwnU B w (.slice none 0 0) 0 := ⟨none, by rw [lim_zero]; rfl, by rw [lim_zero]; decide, .inl lim_zero⟩
theorem OwnU.below {B B' : Nat} {w w' : World} {v : Value} {x : Nat} (h : OwnU B w v x) (hb : Below w.heap.size w w') : OwnU B w' v x := by
  obtain ⟨ao, rfl, hm, h⟩ := h
  refine ⟨ao, rfl, hm, ?_⟩
  rcases h with h | ⟨g, z, rfl, hB, hk⟩
  · exact .inl h
  · exact .inr ⟨g, z, rfl, hB, hk.below hb hk.lt⟩
theorem OwnU.mono {B B' : Nat} {w : World} {v : Value} {x : Nat} (h : OwnU B w v x) (hB : B' ≤ B) : OwnU B' w v x := by
  obtain ⟨ao, rfl, hm, h⟩ := h
  refine ⟨ao, rfl, hm, ?_⟩
  rcases h with h | ⟨g, z, rfl, hb, hk⟩
  · exact .inl h
  · exact .inr ⟨g, z, rfl, by omega, hk⟩
theorem made_u64 (n : Nat) : (madeCells (Value.int .u64 0).cells (n * 1)).toList = (List.replicate n 0).map encU := by
  have e : ∀ x : Nat, [Value.int .u64 0][x % 1]?.getD default = .int .u64 0 := fun x => by rw [Nat.mod_one]; rfl
  simp [madeCells, encU, Value.cells, e, List.map_const']
theorem blk_own {w : World} {base g n c : Nat} {L : List Nat} (h : w.ownsRow base 42 1 (.slice (some ⟨g, 0, none⟩) n c) n (L.map encU)) : Blk w g L ∧ base ≤ g ∧ L.length = n ∧ c ≤ 9223372036854775807 := by
  obtain ⟨h1, h2⟩ := h
  rcases h2 with ⟨h3, _⟩ | ⟨g', cap, cur, h3, hb, hg, hn, hcap, hsz, ht⟩
  · cases h3
  · injection h3 with e1 e2 e3
    injection e1 with e1
    injection e1 with e1
    subst e1 e3
    refine ⟨⟨cur.toList.drop (n * 1), ?_⟩, hb, by simpa using h1, by unfold maxLen at hcap; omega⟩
    rw [hg, ← ht, List.take_append_drop]
/-- 'cut' of a row of the call's own -/
theorem cut_own' (g c B : Nat) (L : List Nat) (hL : Limbs L) (hc : c ≤ 9223372036854775807) (hcl : L.length ≤ c) (hB : B ≤ g) (w : World) (hb : Blk w g L) :
    Calls Tryd.prog 18 #[.slice (some ⟨g, 0, none⟩) L.length c] w fun e w' => (∃ v, e = .returned v ∧ OwnU B w v (uval L)) ∧ w' = w := by
  have hr : RowU w (.slice (some ⟨g, 0, none⟩) L.length c) L := Blk.row (P := []) (A := L) (R := []) (by simpa using hb) c hcl hc
  refine (natcut_raw _ L hL w hr).mono ?_
  rintro e w' ⟨⟨ao, c', he, rfl⟩, rfl⟩
  injection he with e1 e2 e3
  subst e1 e3
  have hk : Blk w' g (lim (uval L) ++ List.replicate (L.length - (lim (uval L)).length) 0) := by rw [← lim_cut L hL]; exact hb
  exact ⟨⟨_, rfl, _, rfl, by have := lim_le_length L hL; omega, .inr ⟨g, L.length - (lim (uval L)).length, rfl, hB, hk⟩⟩, rfl⟩

theorem cut_own2 (g c B : Nat) (L : List Nat) (hL : Limbs L) (hc : c ≤ 9223372036854775807) (hcl : L.length ≤ c) (hB : B ≤ g) (w : World) (hb : Blk w g L) :
    Calls Tryd.prog 18 #[.slice (some ⟨g, 0, none⟩) L.length c] w fun e w' => (∃ v, e = .returned v ∧ OwnU B w v (uval L) ∧ v.ownBlock = some g) ∧ w' = w := by
  have hr : RowU w (.slice (some ⟨g, 0, none⟩) L.length c) L := Blk.row (P := []) (A := L) (R := []) (by simpa using hb) c hcl hc
  refine (natcut_raw _ L hL w hr).mono ?_
  rintro e w' ⟨⟨ao, c', he, rfl⟩, rfl⟩
  injection he with e1 e2 e3
  subst e1 e3
  have hk : Blk w' g (lim (uval L) ++ List.replicate (L.length - (lim (uval L)).length) 0) := by rw [← lim_cut L hL]; exact hb
  exact ⟨⟨_, rfl, ⟨_, rfl, by have := lim_le_length L hL; omega, .inr ⟨g, L.length - (lim (uval L)).length, rfl, hB, hk⟩⟩, rfl⟩, rfl⟩
theorem OwnU.put {B r : Nat} {w : World} {v : Value} {x : Nat} {ds : Option (List Deferred)} {o : Obj} (h : OwnU B w v x) (hr : w.heap[r]? = some (.deferred ds)) : OwnU B (w.putObj r o) v x := by
  obtain ⟨ao, rfl, hm, h⟩ := h
  refine ⟨ao, rfl, hm, ?_⟩
  rcases h with h | ⟨g, z, rfl, hb, hk⟩
  · exact .inl h
  · refine .inr ⟨g, z, rfl, hb, hk.kept (grownBy_putObj' w r o) ?_⟩
    intro e
    have e := Option.some.inj e
    subst e
    obtain ⟨tl, hk⟩ := hk
    rw [hr] at hk; cases hk

theorem times_step {l m L : List Nat} {i : Nat} (hl : Limbs l) (hm : Limbs m) (hi : i < l.length) (k1 : L.length = l.length + m.length) (k2 : Limbs L) (k3 : uval L = uval (l.take i) * uval m) :
    (L.take i ++ fix (L.length - i) (uval (L.drop i) + uval m * l.getD i 0)).length = l.length + m.length ∧ Limbs (L.take i ++ fix (L.length - i) (uval (L.drop i) + uval m * l.getD i 0)) ∧
    uval (L.take i ++ fix (L.length - i) (uval (L.drop i) + uval m * l.getD i 0)) = uval (l.take (i + 1)) * uval m := by
  have hti : (L.take i).length = i := by rw [List.length_take]; omega
  refine ⟨by rw [List.length_append, hti, fix_length]; omega, ?_, ?_⟩
  · intro d hd
    rcases List.mem_append.1 hd with g | g
    · exact k2 d (List.mem_of_mem_take g)
    · exact fix_mem _ _ _ g
  · have e0 := uval_top L i
    rw [Nat.min_eq_left (by omega), k3] at e0
    have e1 : uval (l.take (i + 1)) * uval m = uval (L.take i) + 18446744073709551616 ^ i * (uval (L.drop i) + uval m * l.getD i 0) := by
      rw [uval_take_succ l i hi, Nat.add_mul, e0, Nat.mul_add, Nat.mul_assoc (18446744073709551616 ^ i), Nat.mul_comm (l.getD i 0), Nat.add_assoc]
    have h1 : uval (l.take (i + 1)) < 18446744073709551616 ^ (i + 1) := by
      have := uval_lt' (l.take (i + 1)) (fun d h => hl d (List.mem_of_mem_take h))
      rwa [List.length_take, Nat.min_eq_left (by omega)] at this
    have h2 := uval_lt' m hm
    have h3 : uval (l.take (i + 1)) * uval m < 18446744073709551616 ^ L.length := by
      refine Nat.lt_of_lt_of_le (Nat.mul_lt_mul'' h1 h2) ?_
      rw [← Nat.pow_add]
      exact Nat.pow_le_pow_right (by decide) (by omega)
    have h4 : uval (L.drop i) + uval m * l.getD i 0 < 18446744073709551616 ^ (L.length - i) := by
      have h5 : (18446744073709551616 : Nat) ^ L.length = 18446744073709551616 ^ i * 18446744073709551616 ^ (L.length - i) := by rw [← Nat.pow_add]; congr 1; omega
      rw [e1, h5] at h3
      exact Nat.lt_of_mul_lt_mul_left (Nat.lt_of_le_of_lt (Nat.le_add_left _ _) h3)
    rw [uval_app, hti, uval_fix, Nat.mod_eq_of_lt h4, e1]

set_option maxHeartbeats 4000000 in
theorem times_own (va vb : Value) (l m : List Nat) (hl : Limbs l) (hm : Limbs m) (hS : l.length + m.length ≤ 1073741824) (w : World) (ha : RowU w va l) (hb : RowU w vb m) :
    Calls Tryd.prog 23 #[va, vb] w fun e w' => ∃ v, e = .returned v ∧ OwnU w.heap.size w' v (uval l * uval m) ∧ Below w.heap.size w w' := by
  obtain ⟨i0, hi, hz0, hz1, hz2⟩ := info_parts infoU64
  have HA : Hid (RowU w va l) := ha
  have HB : Hid (RowU w vb m) := hb
  obtain ⟨aa, ca, rfl, hca, hla, hra⟩ := ha
  obtain ⟨ab, cb, rfl, hcb, hlb, hrb⟩ := hb
  have HNB : Hid (∀ g, w.heap.size ≤ g → m ≠ [] → Value.ownBlock (.slice ab m.length cb) ≠ some g) := fun g hg hne => by
    rcases hrb with h | ⟨b, off, rfl, hlt, _⟩
    · exact absurd h hne
    · intro e; simp [Value.ownBlock] at e; omega
  have HL : Hid (Limbs l) := hl
  have HM : Hid (Limbs m) := hm
  clear hra hl hm
  clear hrb
  refine cps fun Q hQ => ?_
  go_enter Tryd.func23, Tryd.ntmps23
  go_wp2_with (at_make; go_must (refine wpList_make_full _ rfl _ _ 23 rfl w.heap.size 42 i0 (.int .u64 0) 1 Tryd.underlying23 hi hz0 hz1 .i64 .i64 _ _ (l.length + m.length) rfl rfl (by omega) (by omega) (by rw [hz2]; omega) (by unfold maxLen; omega) (Nat.le_refl _) ?_); intro w1 hown hg)
  rw [made_u64] at hown
  have hbk := (blk_own hown).1
  have hbel := (Below.refl w.heap.size w).grown hg (Nat.le_refl _) (fun k hk => by cases hk)
  clear hown hg hi hz0 hz1 hz2
  go_loopw [16] (fun iv wr => ∃ (i : Nat) (L : List Nat), i ≤ l.length ∧ iv = .int .i64 i ∧ Hid (L.length = l.length + m.length ∧ Limbs L ∧ uval L = uval (l.take i) * uval m) ∧ Hid (Blk wr w.heap.size L) ∧ Hid (Below w.heap.size w wr)) (fun iv _ => l.length - (intOf iv).toNat)
  case atStart => exact ⟨0, List.replicate (l.length + m.length) 0, Nat.zero_le _, rfl, ⟨by simp, fun d h => by simp at h; omega, by rw [uval_noughts]; simp [uval]⟩, hbk, hbel⟩
  case round =>
    clear hbk hbel
    obtain ⟨i, L, hil, rfl, hst, hbk, hbel⟩ := hrel
    by_cases hlt : i < l.length
    · have hx : l.getD i 0 < 18446744073709551616 := limbs_getD HL.out i
      have hrow := HA.out.below hbel.out
      obtain ⟨bb, ob, cb', he, _, _, _, hcells⟩ := hrow.some' rfl (by omega)
      injection he with e1 e2 e3
      subst e1 e3
      have hxc := hcells i hlt
      obtain ⟨k1, k2, k3⟩ := hst.out
      have hti : (L.take i).length = i := by rw [List.length_take]; omega
      have hdi : (L.drop i).length = L.length - i := List.length_drop ..
      have hbk' : Blk wr w.heap.size (L.take i ++ L.drop i ++ []) := by rw [List.append_nil, List.take_append_drop]; exact hbk.out
      have hadd := addt_any w.heap.size (L.length - i) (l.getD i 0) (L.take i) (L.drop i) [] m (.slice ab m.length cb) (fun d h => k2 d (List.mem_of_mem_drop h)) HM.out hx (by omega) (by omega) (by omega) (by omega) wr hbk' (HB.out.below hbel.out) (fun h => HNB.out _ (Nat.le_refl _) h)
      rw [hti, hdi, List.append_nil] at hadd
      have hstep := times_step HL.out HM.out hlt k1 k2 k3
      generalize L.take i ++ fix (L.length - i) (uval (L.drop i) + uval m * l.getD i 0) = L' at *
      generalize decide (18446744073709551616 ^ (L.length - i) ≤ uval (L.drop i) + uval m * l.getD i 0) = r at *
      rw [k1] at hadd
      have HADD : Hid (Calls _ _ _ _ _) := hadd
      have HST : Hid _ := hstep
      obtain ⟨x, HX⟩ : ∃ x, Hid (l.getD i 0 = x) := ⟨_, rfl⟩
      rw [HX.out] at hxc HADD
      clear hrow hcells hx k1 k2 k3 hti hdi hbk' hstep hadd hst hbk
      go_wp2_with (go_at_call 19; refine HADD.out.mono ?_; rintro e w' ⟨rfl, hb1, hg1⟩)
      go_roundw
      case rel => exact ⟨i + 1, L', by omega, by go_num, HST.out, hb1, hbel.out.trans (grown_below hg1 (Nat.le_refl _) hbel.out.size)⟩
      case measure => simp [intOf]; omega
    · have hil' : i = l.length := by omega
      subst hil'
      obtain ⟨k1, k2, k3⟩ := hst.out
      rw [List.take_length] at k3
      have hcut := cut_own' w.heap.size (l.length + m.length) w.heap.size L k2 (by omega) (by omega) (Nat.le_refl _) wr hbk.out
      rw [k1, k3] at hcut
      have HCUT : Hid (Calls _ _ _ _ _) := hcut
      clear hcut k1 k2 k3 hst hbk
      go_wp2_with (go_at_call 18; refine HCUT.out.mono ?_; rintro e w' ⟨⟨v', rfl, hv⟩, hw⟩; rw [hw]; clear hw w')
      exact hQ.out _ _ ⟨_, rfl, hv, hbel.out⟩
end Go.Proofs.YtckmmdmimlhmoaaDoor
