import Derived.Test.YtckmmdmimlhmoaaDoorOwnA
import Derived.Deep.RegionLaw
namespace Go.Proofs.YtckmmdmimlhmoaaDoor
open Go.ChangeShapes Go.WideShapes Go.ChangeAt Go.RowKit
set_option linter.unusedVariables false
set_option linter.unusedSimpArgs false
set_option maxRecDepth 100000

/-! ### Lend -/
theorem oneU (l : List Nat) : ∀ u ∈ l.map encU, u.oneCell' = true := fun u h => by
  obtain ⟨x, _, rfl⟩ := List.mem_map.1 h; rfl
theorem RowU.news {w : World} {ao : Option Addr} {n c : Nat} {l : List Nat} (h : RowU w (.slice ao n c) l) (h0 : l ≠ []) : ∃ b off, ao = some ⟨b, off, none⟩ ∧ n = l.length ∧ ∀ j u, (l.map encU)[j]? = some u → w.cell? ((⟨b, off, none⟩ : Addr).add j) = some u := by
  obtain ⟨ao', c', he, hc, hl, h⟩ := h
  injection he with e1 e2 e3
  subst e1 e3
  rcases h with h | ⟨b, off, rfl, hlt, h⟩
  · exact absurd h h0
  · refine ⟨b, off, rfl, e2, fun j u hj => ?_⟩
    have hjl : j < l.length := by
      have := (List.getElem?_eq_some_iff.1 hj).1; simpa using this
    rw [Addr.add_lit, h j hjl, ← hj, List.getElem?_map, List.getElem?_eq_getElem hjl, List.getD_eq_getElem?_getD, List.getElem?_eq_getElem hjl]
    rfl
theorem run_append_noneU {P : Program} {w : World} (base : Nat) (t ty e : TypeId) (i : TypeInfo) (size : Nat) (ht : P.underlying t = some (.slice e)) (hi : P.info? e = some i)
    (v : Value) (n : Nat) (xs : List Value) (hown : w.ownsRow base e size v n xs) (c : Nat) :
    (Builtin.append_ #[t, t] ty #[v, .slice none 0 c]).run P w = .ok v w := by
  rcases hown.2 with ⟨rfl, rfl⟩ | ⟨g, cap, cur, rfl, _, _, hnc, _⟩
  · simp [Builtin.append_, run_underlying ht, sizeOf, typeInfo, hi, Builtin.lenOf, Builtin.firstCells]
  · simp [Builtin.append_, run_underlying ht, sizeOf, typeInfo, hi, Builtin.lenOf, Builtin.firstCells, hnc, storeCells]
/-- append of a whole row (or of none) onto an own one -/
theorem appendU_wp {P : Program} {w : World} {o : Oper} {a : Act} {K : Act → World → Prop} {Q : Exit → Act → World → Prop} (s x : Operand) (t : TypeId)
    (ho : o.op = .call { callee := .builtin .append, args := #[s, x], argTypes := #[t, t] })
    (base : Nat) (i : TypeInfo) (ht : P.underlying t = some (.slice 42)) (hi : P.info? 42 = some i) (hz : i.zero = some (.int .u64 0)) (hsize : i.size = 1) (hby : i.bytes = 8)
    (v : Value) (n : Nat) (xs : List Value) (hs : a.eval s = v) (hown : w.ownsRow base 42 1 v n xs) (vx : Value) (l : List Nat) (hx : a.eval x = vx) (hr : RowU w vx l)
    (hbytes : (n + l.length) * 8 ≤ 140737488355328) (hbase : base ≤ w.heap.size)
    (h : ∀ v' w', w'.ownsRow base 42 1 v' (n + l.length) (xs ++ l.map encU) → w.grownBy w' v.ownBlock → K (a.put o.dst v') w') : o.wp P a w K Q := by
  obtain ⟨ao, c, rfl, hc, hl, hh⟩ := hr.out
  have hmx : n + l.length ≤ maxLen := by unfold maxLen; omega
  cases ao with
  | some ad =>
    refine wp_append_own w s x t ho base 42 i (.int .u64 0) 1 8 ht hi hz hsize hby rfl (by decide) v n xs hs hown ad l.length c (l.map encU) hx (by simp) ?_ (oneU l) hmx hbytes hbase (fun v' w' h1 h2 _ => h v' w' h1 h2)
    intro j u hj
    have h0 : l ≠ [] := fun e => by rw [e] at hj; simp at hj
    obtain ⟨b, off, he, _, hcs⟩ := hr.news h0
    cases he
    exact hcs j u hj
  | none =>
    have h0 : l = [] := by
      rcases hh with h | ⟨b, off, he, _⟩
      · exact List.eq_nil_of_length_eq_zero h
      · cases he
    subst h0
    have hrun := run_append_noneU (P := P) (w := w) base t o.type 42 i 1 ht hi v n xs hown c
    unfold Oper.wp
    simp [execOp, ho, resolve, invoke, builtin, hs, hx, hrun, Result.andThen]
    exact h v w (by simpa using hown) (grown_refl w _)
theorem appendU {P : Program} {w : World} {ops : Array Oper} {rest : List Oper} {o : Oper} {a : Act} {Q : Exit → Act → World → Prop} (hgd : o.guard = none) (s x : Operand) (t : TypeId)
    (ho : o.op = .call { callee := .builtin .append, args := #[s, x], argTypes := #[t, t] })
    (base : Nat) (i : TypeInfo) (ht : P.underlying t = some (.slice 42)) (hi : P.info? 42 = some i) (hz : i.zero = some (.int .u64 0)) (hsize : i.size = 1) (hby : i.bytes = 8)
    (v : Value) (n : Nat) (xs : List Value) (hs : a.eval s = v) (hown : w.ownsRow base 42 1 v n xs) (vx : Value) (l : List Nat) (hx : a.eval x = vx) (hr : RowU w vx l)
    (hbytes : (n + l.length) * 8 ≤ 140737488355328) (hbase : base ≤ w.heap.size)
    (h : ∀ v' w', w'.ownsRow base 42 1 v' (n + l.length) (xs ++ l.map encU) → w.grownBy w' v.ownBlock → wpList P ops Q rest (a.put o.dst v') w') : wpList P ops Q (o :: rest) a w :=
  wpList_plain hgd fun _ hK => appendU_wp s x t ho base i ht hi hz hsize hby v n xs hs hown vx l hx hr hbytes hbase fun v' w' h1 h2 => hK _ _ (h v' w' h1 h2)

theorem owns_slice {w : World} {base : Nat} {e : TypeId} {size n : Nat} {v : Value} {xs : List Value} (h : w.ownsRow base e size v n xs) : ∃ ao c, v = .slice ao n c ∧ n ≤ c ∧ c ≤ 9223372036854775807 := by
  rcases h.2 with ⟨rfl, rfl⟩ | ⟨g, cap, cur, rfl, _, _, hn, hc, _⟩
  · exact ⟨none, 0, rfl, Nat.le_refl _, by decide⟩
  · exact ⟨_, cap, rfl, hn, by unfold maxLen at hc; omega⟩
theorem owns_blk {w : World} {base n : Nat} {v : Value} {L : List Nat} (h : w.ownsRow base 42 1 v n (L.map encU)) (h0 : 0 < n) : ∃ F c, v = .slice (some ⟨F, 0, none⟩) n c ∧ base ≤ F ∧ n ≤ c ∧ c ≤ 9223372036854775807 ∧ Blk w F L ∧ L.length = n := by
  obtain ⟨g, cap, rfl, hb, _⟩ := h.form h0
  obtain ⟨h1, h2, h3, h4⟩ := blk_own h
  obtain ⟨ao, c, he, hc, _⟩ := owns_slice h
  injection he with e1 e2 e3
  subst e3
  exact ⟨g, cap, rfl, hb, hc, h4, h1, h3⟩
def lentTail (i : Nat) : List Nat := (List.range i).map fun k => 7000 + k
theorem lentTail_succ (i : Nat) : lentTail (i + 1) = lentTail i ++ [7000 + i] := by simp [lentTail, List.range_succ]
/-- the struct's own cells -/
theorem box_cells {w : World} {s : Nat} {u0 u1 u2 : Value} {t : TypeId} (h : w.heap[s]? = some (.cells #[u0, u1, u2] t (0, 0))) : w.cell? ⟨s, 0, none⟩ = some u0 ∧ w.cell? ⟨s, 1, none⟩ = some u1 ∧ w.cell? ⟨s, 2, none⟩ = some u2 ∧ ∀ j, w.frozen? ⟨s, j, none⟩ = false := by
  refine ⟨?_, ?_, ?_, fun j => frozen_of_row w s j _ _ h⟩ <;> (rw [cell_of_row w s _ _ _ _ h]; rfl)
theorem box_set0 {w : World} {s : Nat} {u0 u1 u2 v : Value} {t : TypeId} (h : w.heap[s]? = some (.cells #[u0, u1, u2] t (0, 0))) : (w.setCell ⟨s, 0, none⟩ v).heap[s]? = some (.cells #[v, u1, u2] t (0, 0)) := by
  rw [heap_setCell_same w s 0 _ _ _ h]; rfl
theorem box_set1 {w : World} {s : Nat} {u0 u1 u2 v : Value} {t : TypeId} (h : w.heap[s]? = some (.cells #[u0, u1, u2] t (0, 0))) : (w.setCell ⟨s, 1, none⟩ v).heap[s]? = some (.cells #[u0, v, u2] t (0, 0)) := by
  rw [heap_setCell_same w s 1 _ _ _ h]; rfl
theorem lend_end (w wr w6 : World) (F g c cap : Nat) (l : List Nat) (hst : wr.heap[w.heap.size]? = some (.cells #[.slice (some ⟨F, 0, none⟩) (l.length + 5 : Nat) c, .slice none 0 0, .int .i64 l.length] 46 (0, 0)))
    (hblk : Blk wr F (l ++ lentTail 5)) (hlen : (l ++ lentTail 5).length = l.length + 5) (hc1 : l.length + 5 ≤ c) (hc2 : c ≤ 9223372036854775807) (hF : w.heap.size + 1 ≤ F) (hwz : w.heap.size < wr.heap.size)
    (ho : w6.ownsRow wr.heap.size 42 1 (.slice (some ⟨g, 0, none⟩) (l.length + 5 : Nat) cap) (l.length + 5) ((l ++ lentTail 5).map encU)) (hg : wr.grownBy w6 (Value.slice none 0 0).ownBlock) (hbel : Below w.heap.size w wr) :
    LentAt (w6.setCell ⟨w.heap.size, 1, none⟩ (.slice (some ⟨g, 0, none⟩) (l.length + 5 : Nat) cap)) w.heap.size F g l.length c cap (l ++ lentTail 5) (l ++ lentTail 5) ∧ w.heap.size ≤ g ∧ Below w.heap.size w (w6.setCell ⟨w.heap.size, 1, none⟩ (.slice (some ⟨g, 0, none⟩) (l.length + 5 : Nat) cap)) := by
  obtain ⟨b1, b2, b3, b4⟩ := blk_own ho
  obtain ⟨ao, c', he, hcc, hcm⟩ := owns_slice ho
  injection he with e1 e2 e3
  subst e3
  have hc : Chg (fun k => k = w.heap.size) w6 (w6.setCell ⟨w.heap.size, 1, none⟩ (.slice (some ⟨g, 0, none⟩) (l.length + 5 : Nat) cap)) := (Chg.refl _ w6).set _ _ _ rfl
  have hst6 := (hg.block w.heap.size hwz (by simp [Value.ownBlock])).trans hst
  have hFl := hblk.lt
  refine ⟨⟨box_set1 hst6, (hblk.kept hg (by simp [Value.ownBlock])).chg hc (by omega), b1.chg hc (by omega), hlen, hlen, hc1, hc2, hcc, b4, by omega⟩, by omega, ?_⟩
  refine Below.setCell (p := ⟨w.heap.size, 1, none⟩) (hbel.trans ⟨hg.os, hg.tape, hg.output, hg.size, fun k hk => hg.block k (by omega) (by simp [Value.ownBlock])⟩) (Nat.le_refl _) _
set_option maxHeartbeats 4000000 in
theorem lend_any (va : Value) (l : List Nat) (hb : l.length ≤ 16777216) (w : World) (h : RowU w va l) :
    Calls Tryd.prog 5 #[va] w fun e w' => ∃ s F G cF cG, e = .returned (.pointer (some ⟨s, 0, none⟩)) ∧ LentAt w' s F G l.length cF cG (l ++ lentTail 5) (l ++ lentTail 5) ∧ w.heap.size ≤ s ∧ w.heap.size ≤ F ∧ w.heap.size ≤ G ∧ Below w.heap.size w w' := by
  obtain ⟨i0, hi, hz0, hz1, hz2⟩ := info_parts infoU64
  obtain ⟨aa, ca, rfl, hca, hla, _⟩ := h.out
  have HA : Hid (RowU w (.slice aa l.length ca) l) := h
  clear h
  refine cps fun Q hQ => ?_
  obtain ⟨w1, hw1⟩ : ∃ w1, w1 = w.alloc (.cells #[.slice none 0 0, .slice none 0 0, .int .i64 l.length] 46) := ⟨_, rfl⟩
  have hst1 : w1.heap[w.heap.size]? = some (.cells #[.slice none 0 0, .slice none 0 0, .int .i64 l.length] 46 (0, 0)) := by rw [hw1]; exact World.alloc_heap_new _ _
  have hb1 : Below w.heap.size w w1 := by rw [hw1]; exact bmore0 (Below.refl _ _) _
  have hz1' : w1.heap.size = w.heap.size + 1 := by rw [hw1]; simp
  have HR1 : Hid (RowU w1 (.slice aa l.length ca) l) := HA.out.below hb1
  have HST1 : Hid (w1.heap[w.heap.size]? = some (.cells #[.slice none 0 0, .slice none 0 0, .int .i64 l.length] 46 (0, 0))) := hst1
  have HB1 : Hid (Below w.heap.size w w1) := hb1
  have HW1 : Hid (w1 = w.alloc (.cells #[.slice none 0 0, .slice none 0 0, .int .i64 l.length] 46)) := hw1
  have hby : (0 + l.length) * 8 ≤ 140737488355328 := by omega
  clear hst1 hb1 hw1
  go_enter Tryd.func5, Tryd.ntmps5
  go_wp2_with (at_builtin; rw [← HW1.out]; go_must (refine appendU rfl _ _ 22 rfl (w.heap.size + 1) i0 Tryd.underlying22 hi hz0 hz1 hz2 (.slice none 0 0) 0 [] rfl (World.ownsRow_nil _ _ _ _) _ l rfl HR1.out hby (by omega) ?_; intro v' w2 hown2 hg2; obtain ⟨ao2, c2, hv2, hc21, hc22⟩ := owns_slice hown2; subst hv2; rw [Nat.zero_add, List.nil_append] at hown2; have hst2 := (hg2.block w.heap.size (by omega) (by simp [Value.ownBlock])).trans HST1.out; obtain ⟨d0, d1, d2, hfz⟩ := box_cells hst2; have hfz0 := hfz 0; have hz2' := hg2.size; have HO2 : Hid (World.ownsRow _ _ _ _ _ _ _) := hown2; have HG2 : Hid (World.grownBy _ _ _) := hg2; have HST2 : Hid (w2.heap[w.heap.size]? = some (.cells #[.slice none 0 0, .slice none 0 0, .int .i64 l.length] 46 (0, 0))) := hst2; clear hown2 hg2 hst2))
  have hnn : l.length ≤ 16777216 := hb
  have HO3 : Hid ((w2.setCell ⟨w.heap.size, 0, none⟩ (.slice ao2 l.length c2)).ownsRow (w.heap.size + 1) 42 1 (.slice ao2 l.length c2) (l.length + 0) ((l ++ lentTail 0).map encU)) := by
    refine owns_chg (S := fun k => k = w.heap.size) ?_ ((Chg.refl _ w2).set _ _ _ rfl) (fun g hg e => by have := (HO2.out.lt g hg).1; omega)
    simpa [lentTail] using HO2.out
  have HST3 : Hid ((w2.setCell ⟨w.heap.size, 0, none⟩ (.slice ao2 l.length c2)).heap[w.heap.size]? = some (.cells #[.slice ao2 l.length c2, .slice none 0 0, .int .i64 l.length] 46 (0, 0))) := box_set0 HST2.out
  have HB3 : Hid (Below w.heap.size w (w2.setCell ⟨w.heap.size, 0, none⟩ (.slice ao2 l.length c2))) := by
    refine Below.setCell (p := ⟨w.heap.size, 0, none⟩) ?_ (Nat.le_refl _) _
    exact HB1.out.trans ⟨HG2.out.os, HG2.out.tape, HG2.out.output, HG2.out.size, fun k hk => HG2.out.block k (by omega) (by simp [Value.ownBlock])⟩
  clear d0 d1 d2 hfz hfz0 hb
  generalize w2.setCell ⟨w.heap.size, 0, none⟩ (.slice ao2 l.length c2) = w3 at *
  go_loopw [4] (fun iv wr => ∃ (i : Nat) (fv : Value), i ≤ 5 ∧ iv = .int .i64 i ∧ Hid (wr.heap[w.heap.size]? = some (.cells #[fv, .slice none 0 0, .int .i64 l.length] 46 (0, 0))) ∧ Hid (wr.ownsRow (w.heap.size + 1) 42 1 fv (l.length + i) ((l ++ lentTail i).map encU)) ∧ Hid (Below w.heap.size w wr)) (fun iv _ => 5 - (intOf iv).toNat)
  case atStart => exact ⟨0, _, by decide, rfl, HST3.out, HO3.out, HB3.out⟩
  case round =>
    clear HO3 HST3 HB3 HO2 HG2 HST2 hz2' hc21 hc22
    obtain ⟨i, fv, hi5, rfl, hst, ho, hbel⟩ := hrel
    obtain ⟨ao, c, rfl, hc1, hc2⟩ := owns_slice ho.out
    obtain ⟨d0, d1, d2, hfz⟩ := box_cells hst.out
    have hfz0 := hfz 0
    have hfz1 := hfz 1
    have hwz : w.heap.size < wr.heap.size := (Array.getElem?_eq_some_iff.1 hst.out).1
    by_cases hlt : i < 5
    · have hby1 : (l.length + i + 1) * 8 ≤ 140737488355328 := by omega
      have e7 : IntKind.u64.wrap (7000 + (i : Int)) = 7000 + (i : Int) := by rw [IntKind.wrap_u64]; omega
      clear hfz
      go_wp2_with (at_builtin; go_must (refine append1 rfl _ _ 22 rfl (w.heap.size + 1) 42 i0 (.int .u64 0) 8 Tryd.underlying22 hi hz0 hz1 hz2 rfl _ _ _ ho.out rfl rfl rfl hby1 (by decide) hwz ?_); intro v' w5 hown5 hb5 hne5 hg5; obtain ⟨ao5, c5, hv5, hc51, hc52⟩ := owns_slice hown5; subst hv5; have hst5 := (hb5.block w.heap.size (Nat.lt_succ_self _)).trans hst.out; obtain ⟨f0, f1, f2, hfz5⟩ := box_cells hst5; have hfz50 := hfz5 0; have HO5 : Hid (World.ownsRow _ _ _ _ _ _ _) := hown5; have HB5 : Hid (Below (w.heap.size + 1) wr w5) := hb5; have HST5 : Hid (w5.heap[w.heap.size]? = some (.cells #[.slice ao (l.length + i : Nat) c, .slice none 0 0, .int .i64 l.length] 46 (0, 0))) := hst5; clear hown5 hb5 hst5 hg5 hfz5 hne5)
      refine ⟨⟨i + 1, _, by omega, by go_num, box_set0 HST5.out, ?_, ?_⟩, by simp [intOf]; omega⟩
      · refine owns_chg (S := fun k => k = w.heap.size) ?_ ((Chg.refl _ w5).set _ _ _ rfl) (fun g hg e => by have := (HO5.out.lt g hg).1; omega)
        have := HO5.out
        rw [lentTail_succ, ← List.append_assoc, List.map_append]
        exact this
      · exact Below.setCell (p := ⟨w.heap.size, 0, none⟩) (hbel.out.trans (HB5.out.mono (Nat.le_succ _))) (Nat.le_refl _) _
    · have hi6 : i = 5 := by omega
      subst hi6
      obtain ⟨F, cF, he, hF1, hF2, hF3, hblk, hlen⟩ := owns_blk ho.out (by omega)
      injection he with e1 e2 e3
      subst e1 e3
      have hFl := hblk.lt
      have hrow : RowU wr (.slice (some ⟨F, 0, none⟩) (l.length + 5 : Nat) c) (l ++ lentTail 5) := by
        have := Blk.row (P := []) (A := l ++ lentTail 5) (R := []) (by simpa using hblk) c (by omega) hc2
        rw [hlen] at this
        exact this
      have HROW : Hid (RowU wr (.slice (some ⟨F, 0, none⟩) (l.length + 5 : Nat) c) (l ++ lentTail 5)) := hrow
      have HLEN : Hid ((l ++ lentTail 5).length = l.length + 5) := hlen
      have HBK : Hid (Blk wr F (l ++ lentTail 5)) := hblk
      have hby2 : (0 + (l ++ lentTail 5).length) * 8 ≤ 140737488355328 := by rw [hlen]; omega
      clear hrow hlen hblk
      go_wp2
      have HNEWS : Hid (∀ j u, ((l ++ lentTail 5).map encU)[j]? = some u → wr.cell? ((⟨F, 0, none⟩ : Addr).add j) = some u) := by
        obtain ⟨b, off, he, _, hcs⟩ := HROW.out.news (by rw [Ne, ← List.length_eq_zero_iff, HLEN.out]; omega)
        cases he
        exact hcs
      obtain ⟨H, hH⟩ : ∃ H, H = wr.heap.size := ⟨_, rfl⟩
      have HLE2 : Hid (((l ++ lentTail 5).map encU).length = (l.length + 5) * 1) := by show _ = _; rw [List.length_map, HLEN.out]; omega
      have hmx : 0 + (l.length + 5) ≤ maxLen := by unfold maxLen; omega
      have hfz1 := hfz 1
      go_region_law ((refine step_append_lies _ (by rfl) _ _ 22 (by rfl) H 42 i0 (.int .u64 0) 1 8 Tryd.underlying22 hi hz0 hz1 hz2 rfl (by decide) (.slice none 0 0) 0 [] (by rfl) (World.ownsRow_nil _ _ _ _) ⟨F, 0, none⟩ (l.length + 5) c ((l ++ lentTail 5).map encU) (by rfl) HLE2.out HNEWS.out (oneU _) (by omega) hmx (by omega) (by rw [hH]; exact Nat.le_refl _) H hH.symm ?_; intro g cap w6 hown6 hg6 hat6 hgl6; have hst6 := (hg6.block w.heap.size hwz (by simp [Value.ownBlock])).trans hst.out; obtain ⟨f0, f1, f2, hfz6⟩ := box_cells hst6; have hfz61 := hfz6 1))
      all_goals
        have hown7 : w6.ownsRow wr.heap.size 42 1 (.slice (some ⟨g, 0, none⟩) (l.length + 5 : Nat) cap) (l.length + 5) ((l ++ lentTail 5).map encU) := by
          rw [← hH]; simpa using hown6
        have hend := lend_end w wr w6 F g c cap l hst.out HBK.out HLEN.out hc1 hc2 hF1 hwz hown7 ⟨hg6.os, hg6.tape, hg6.output, hg6.size, hg6.block⟩ hbel.out
        clear hown7 hown6 hg6 hat6 hgl6 hst6 f0 f1 f2 hfz6 hfz61 d0 d1 d2 hfz0 hfz1
        go_wp2
        exact hQ.out _ _ ⟨_, _, _, _, _, rfl, hend.1, Nat.le_refl _, Nat.le_trans (Nat.le_succ _) hF1, hend.2.1, hend.2.2⟩
end Go.Proofs.YtckmmdmimlhmoaaDoor
