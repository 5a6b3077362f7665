import Derived.Test.YtckmmdmimlhmoaaDoorOwnC
namespace Go.Proofs.YtckmmdmimlhmoaaDoor
open Go.ChangeShapes Go.WideShapes Go.ChangeAt Go.RowKit
set_option linter.unusedVariables false
set_option linter.unusedSimpArgs false
set_option maxRecDepth 100000

theorem list_cell {w : World} {base N g c : Nat} {vs : Nat → Value} (h : w.ownsRow base 22 1 (.slice (some ⟨g, 0, none⟩) N c) N ((List.range N).map vs)) (j : Nat) (hj : j < N) : w.cell? ⟨g, j, none⟩ = some (vs j) := by
  rw [h.cellAt j (by omega), List.getElem?_map, List.getElem?_range hj]; rfl
theorem owns_mono {w : World} {base base' : Nat} {e : TypeId} {size : Nat} {v : Value} {n : Nat} {xs : List Value} (h : w.ownsRow base e size v n xs) (hb : base' ≤ base) : w.ownsRow base' e size v n xs := by
  refine ⟨h.1, ?_⟩
  rcases h.2 with hn | ⟨g, cap, cur, rfl, hB, rest⟩
  · exact .inl hn
  · exact .inr ⟨g, cap, cur, rfl, by omega, rest⟩
/-- append of one element onto a list that has no room -/
theorem appendFull1 {P : Program} {w0 : World} {ops : Array Oper} {rest : List Oper} {o : Oper} {a : Act} {Q : Exit → Act → World → Prop} {u : Value} (hgd : o.guard = none) (s x : Operand) (t : TypeId)
    (ho : o.op = .call { callee := .builtin .append, args := #[s, x], argTypes := #[t, t] })
    (i : TypeInfo) (ht : P.underlying t = some (.slice 42)) (hi : P.info? 42 = some i) (hz : i.zero = some (.int .u64 0)) (hsize : i.size = 1) (hby : i.bytes = 8)
    (ao : Option Addr) (k : Nat) (L : List Nat) (hr : RowU w0 (.slice ao k k) L) (hnone : ao = none → k = 0) (hs : a.eval s = .slice ao k k) (hu : u.oneCell' = true)
    (hx : a.eval x = .slice (some ⟨w0.heap.size, 0, none⟩) 1 1) (hbytes : (k + 1) * 8 ≤ 140737488355328)
    (h : ∀ v' w', w'.ownsRow w0.heap.size 42 1 v' (k + 1) (L.map encU ++ [u]) → Below w0.heap.size w0 w' → wpList P ops Q rest (a.put o.dst v') w') : wpList P ops Q (o :: rest) a (w0.alloc (.cells #[u] 42)) := by
  have hr2 := hr.below (bmore0 (Below.refl _ _) (.cells #[u] 42))
  obtain ⟨ao', c', he, _, _, _⟩ := id hr
  have hk : k = L.length := by injection he
  have hn := World.ownsRow_lit (base := w0.heap.size) (e := 42) (size := 1) w0 #[u] 1 (Nat.le_refl _) (by decide) rfl
  refine wpList_append_grows _ hgd s x t ho 42 i (.int .u64 0) 1 8 ht hi hz hsize hby rfl (by decide) ao k k (L.map encU) hs (fun e => ⟨hnone e, hnone e⟩) (by simp [hk]) ?_ ⟨w0.heap.size, 0, none⟩ 1 1 [u] hx rfl ?_ (by intro y hy; simp at hy; subst hy; exact hu) (by omega) (by unfold maxLen; omega) hbytes ?_
  · intro b hb j y hy
    have h0 : L ≠ [] := fun e => by rw [e] at hy; simp at hy
    obtain ⟨b', off, he, _, hcs⟩ := hr2.news h0
    rw [hb] at he; cases he
    exact hcs j y hy
  · exact hn.cells rfl
  · intro v' w' h1 h2
    refine h v' w' (owns_mono h1 (by simp)) ?_
    exact (bmore0 (Below.refl _ _) _).trans ⟨h2.os, h2.tape, h2.output, h2.size, fun k hk => h2.block k (by simp; omega) (by simp)⟩
/-- the list as it is taken up, and as it has grown -/
def GAt (wx wy : World) (i n k : Nat) (v0 gg : Value) : Prop := (k = 0 ∧ gg = v0 ∧ wy = wx) ∨ (0 < k ∧ wy.ownsRow wx.heap.size 42 1 gg (n + k) ((wrote i n ++ more i k).map encU))
set_option maxHeartbeats 8000000 in
theorem apart_any (base N : Nat) (lv : Value) (vs : Nat → Value) (Ls : Nat → List Nat) (h0 : 0 < N) (hN : N ≤ 1000) (hlen : ∀ j, j < N → (Ls j).length ≤ 16777216) (w : World) (hbase : base ≤ w.heap.size)
    (hl : w.ownsRow base 22 1 lv N ((List.range N).map vs)) (hr : Rs base w N vs Ls) :
    Calls Tryd.prog 16 #[lv] w fun e w' => e = .returned (.bool true) ∧ Below base w w' := by
  obtain ⟨i0, hi, hz0, hz1, hz2⟩ := info_parts infoU64
  obtain ⟨i1, si, sz0, sz1, sz2⟩ := info_parts infoSl
  have HST : Hid (ApAt base w w N lv vs Ls 0 0 (.slice none 0 0)) := ApAt.start hbase hl hr
  obtain ⟨lg, lc, rfl, hlg, hll⟩ := hl.form h0
  obtain ⟨ao', c', he, hlc, hlc2⟩ := owns_slice hl
  injection he with e1 e2 e3
  subst e1 e3
  have HLEN : Hid (∀ j, j < N → (Ls j).length ≤ 16777216) := hlen
  clear hl hr hlen
  refine cps fun Q hQ => ?_
  go_enter Tryd.func16, Tryd.ntmps16
  go_wp2
  go_loopw [3, 4] (fun gv iv wr => ∃ i : Nat, i ≤ N ∧ iv = .int .i64 i ∧ Hid (ApAt base w wr N (.slice (some ⟨lg, 0, none⟩) N lc) vs Ls i i gv)) (fun _ iv _ => N - (intOf iv).toNat)
  case atStart => exact ⟨0, Nat.zero_le _, rfl, HST.out⟩
  case round =>
    rename World => wo
    clear HST
    obtain ⟨i, hiN, rfl, hst⟩ := hrel
    by_cases hlt : i < N
    · have hn := HLEN.out i hlt
      have hres0 := hst.out.res i hlt
      rw [if_neg (Nat.lt_irrefl _)] at hres0
      have hcl := list_cell hst.out.list i hlt
      obtain ⟨n, hnn⟩ : ∃ n, n = (Ls i).length := ⟨_, rfl⟩
      obtain ⟨ao, hva⟩ : ∃ ao, vs i = .slice ao n n := by obtain ⟨ao, h1, _⟩ := hres0; exact ⟨ao, by rw [hnn]; exact h1⟩
      have HVA : Hid (vs i = .slice ao n n) := hva
      rw [hva] at hcl
      have HN : Hid (n = (Ls i).length) := hnn
      rw [← hnn] at hn
      have HRES0 : Hid (Res base wo (vs i) (Ls i)) := hres0
      have HLC : Hid (∀ wx, Chg (fun k => Ls i ≠ [] ∧ (vs i).ownBlock = some k) wo wx → wx.cell? ⟨lg, i, none⟩ = some (.slice ao n n)) := by
        intro wx hc
        rw [← HVA.out]
        refine list_cell (owns_chg hst.out.list hc fun g hg hs => ?_) i hlt
        obtain ⟨g', h1, _, _, h2⟩ := hres0.own hs.1
        rw [hs.2] at h1; cases h1
        exact slices_ne hst.out.list g _ hg h2
      clear hva hnn hres0
      go_wp2
      go_loopw [5] (fun kv wx => ∃ k : Nat, k ≤ n ∧ kv = .int .i64 k ∧ Hid (Chg (fun k => Ls i ≠ [] ∧ (vs i).ownBlock = some k) wo wx) ∧ Hid (Res base wx (vs i) (wroteAt i k (Ls i)))) (fun kv _ => n - (intOf kv).toNat)
      case atStart => exact ⟨0, Nat.zero_le _, rfl, Chg.refl _ _, by show Res _ _ _ _; simpa [wroteAt] using HRES0.out⟩
      case round =>
        rename World => wx
        obtain ⟨k, hkn, rfl, hc, hres⟩ := hrel
        have hcl2 := HLC.out _ hc.out
        clear hcl
        by_cases hkl : k < n
        · have hw : k < (wroteAt i k (Ls i)).length := by rw [wroteAt_length _ _ _ (by rw [← HN.out]; exact hkn), ← HN.out]; exact hkl
          obtain ⟨g, hv, hcell, hfz, hres2, hc2⟩ := hres.out.write k (1000 * i + k) hw
          rw [wroteAt_step i k (Ls i) (by rw [← HN.out]; exact hkl)] at hres2
          rw [HVA.out] at hv
          injection hv with ea eb ec
          subst ea
          have e9 : ((1000 * i + k : Nat) : Int) = 1000 * (i : Int) + (k : Int) := by omega
          rw [e9] at hres2 hc2
          have e8 : IntKind.u64.wrap (1000 * (i : Int) + (k : Int)) = 1000 * (i : Int) + (k : Int) := by rw [IntKind.wrap_u64]; omega
          have HR2 : Hid (Res _ _ _ _) := hres2
          have h00 : Ls i ≠ [] := fun e => by rw [HN.out, e] at hkl; cases hkl
          have HC2 : Hid (Chg (fun k => Ls i ≠ [] ∧ (vs i).ownBlock = some k) _ _) := hc.out.trans (hc2.mono fun k hk => ⟨h00, hk⟩)
          generalize (wroteAt i k (Ls i)).getD k 0 = d at *
          clear hres2 hc2 e9 hw eb ec h00
          go_wp2
          refine ⟨⟨k + 1, by omega, by go_num, HC2.out, HR2.out⟩, by simp [intOf]; omega⟩
        · have hk2 : k = n := by omega
          subst hk2
          have hwa : wroteAt i k (Ls i) = wrote i k := by rw [HN.out]; exact wroteAt_all i (Ls i)
          have hres2 := hres.out
          rw [hwa] at hres2
          have hap := hst.out.wrote hlt hc.out (by rw [← HN.out]; exact hres2)
          have HAP : Hid (ApAt base w wx N _ vs Ls (i + 1) i _) := hap
          have hrw := hres2.row
          rw [HVA.out] at hrw
          have hao : ao = none → k = 0 := fun e => by
            obtain ⟨ao2, h1, _, h2⟩ := hres2
            rw [HVA.out] at h1
            injection h1 with h3 h4 h5
            subst h3
            rcases h2 with h2 | ⟨g, h2, _⟩
            · have := congrArg List.length h2; rw [wrote_length] at this; simpa using this
            · rw [e] at h2; cases h2
          have HROW : Hid (RowU wx (.slice ao k k) (wrote i k)) := hrw
          clear hres hc hst hap hrw hwa hres2 HLC HRES0
          go_wp2
          go_loopw [6, 7] (fun gg kv wy => ∃ m : Nat, m ≤ 7 ∧ kv = .int .i64 m ∧ Hid (GAt wx wy i k m (.slice ao k k) gg) ∧ Hid (Below wx.heap.size wx wy)) (fun _ kv _ => 7 - (intOf kv).toNat)
          case atStart => exact ⟨0, by decide, rfl, .inl ⟨rfl, rfl, rfl⟩, Below.refl _ _⟩
          case round =>
            rename World => wy
            obtain ⟨m, hm7, rfl, hg, hbel⟩ := hrel
            by_cases hml : m < 7
            · have e8 : IntKind.u64.wrap (500000 + 1000 * (i : Int) + (m : Int)) = 500000 + 1000 * (i : Int) + (m : Int) := by rw [IntKind.wrap_u64]; omega
              rcases hg.out with ⟨rfl, rfl, rfl⟩ | ⟨hm0, hown⟩
              · have hby : (k + 1) * 8 ≤ 140737488355328 := by omega
                have e9 : IntKind.u64.wrap (500000 + 1000 * (i : Int)) = 500000 + 1000 * (i : Int) := by rw [IntKind.wrap_u64]; omega
                have HAO : Hid (ao = none → k = 0) := hao
                clear hg hao
                go_wp2_with (at_builtin; go_must (refine appendFull1 rfl _ _ 22 rfl i0 Tryd.underlying22 hi hz0 hz1 hz2 ao k _ HROW.out HAO.out rfl rfl rfl hby ?_); intro v' w5 hown5 hb5; have HO5 : Hid (World.ownsRow _ _ _ _ _ _ _) := hown5; have HB5 : Hid (Below _ _ _) := hb5; clear hown5 hb5)
                refine ⟨⟨1, by decide, rfl, .inr ⟨by decide, ?_⟩, HB5.out⟩, by simp [intOf]⟩
                rw [show (wrote i k ++ more i 1).map encU = (wrote i k).map encU ++ [Value.int .u64 (500000 + 1000 * (i : Int))] by simp [more, encU]]
                exact HO5.out
              · have HO : Hid (World.ownsRow _ _ _ _ _ _ _) := hown
                have hby : (k + m + 1) * 8 ≤ 140737488355328 := by omega
                have hzz := hbel.out.size
                clear hg hown
                go_wp2_with (at_builtin; go_must (refine append1 rfl _ _ 22 rfl wx.heap.size 42 i0 (.int .u64 0) 8 Tryd.underlying22 hi hz0 hz1 hz2 rfl _ _ _ HO.out rfl rfl rfl hby (by decide) hzz ?_); intro v' w5 hown5 hb5 hne5 hg5; have HO5 : Hid (World.ownsRow _ _ _ _ _ _ _) := hown5; have HB5 : Hid (Below _ _ _) := hb5; clear hown5 hb5 hne5 hg5)
                refine ⟨⟨m + 1, by omega, by go_num, .inr ⟨by omega, ?_⟩, hbel.out.trans HB5.out⟩, by simp [intOf]; omega⟩
                have := HO5.out
                rw [more_succ, ← List.append_assoc, List.map_append]
                exact this
            · have hm8 : m = 7 := by omega
              subst hm8
              rcases hg.out with ⟨h7, _⟩ | ⟨_, hgo⟩
              · cases h7
              · have hap3 := HAP.out.below hbel.out
                obtain ⟨us, hus, hrows⟩ := hap3.rows
                have hwx := HAP.out.bel.size
                have hgo2 := owns_mono hgo hwx
                obtain ⟨ao7, c7, hgv, _, _⟩ := owns_slice hgo
                subst hgv
                have hwy := hap3.bel.size
                have HAP3 : Hid (ApAt base w wy N _ vs Ls (i + 1) i _) := hap3
                have HUS : Hid (World.ownsRow _ _ _ _ _ _ _) := hus
                have HGO : Hid (wy.ownsRow w.heap.size 42 1 (.slice ao7 (k + 7 : Nat) c7) (k + 7) ((wrote i k ++ more i 7).map encU)) := hgo2
                have HROWS : Hid (∀ j, j < i → ∃ u, us[j]? = some u ∧ _) := hrows
                have hby3 : (i + 1) * 24 ≤ 140737488355328 := by omega
                clear hg hgo hgo2 hap3 hus hrows hbel
                go_wp2_with (at_builtin; go_must (refine append1 rfl _ _ 27 rfl w.heap.size 22 i1 (.slice none 0 0) 24 Tryd.underlying27 si sz0 sz1 sz2 rfl _ _ _ HUS.out rfl rfl rfl hby3 (by decide) hwy ?_); intro v' w5 hown5 hb5 hne5 hg5; have HO5 : Hid (World.ownsRow _ _ _ _ _ _ _) := hown5; have HG5 : Hid (World.grownBy _ _ _) := hg5; clear hown5 hb5 hne5 hg5)
                refine ⟨⟨i + 1, by omega, by go_num, ?_⟩, by simp [intOf]; omega⟩
                refine HAP3.out.grow ?_ us HUS.out HROWS.out HO5.out HG5.out
                rw [← HN.out]
                exact HGO.out
    · have hiN2 : i = N := by omega
      have hf := hst.out
      rw [hiN2] at hf
      obtain ⟨us, hus, hrows⟩ := hf.rows
      obtain ⟨gg, gc, hgv, _, _⟩ := hus.form h0
      subst hgv
      obtain ⟨ao8, c8, he8, hgc, hgc2⟩ := owns_slice hus
      injection he8 with f1 f2 f3
      subst f3
      have HF : Hid (ApAt base w wo N _ vs Ls N N _) := hf
      have HUS : Hid (World.ownsRow _ _ _ _ _ _ _) := hus
      have HROWS : Hid (∀ j, j < N → ∃ u, us[j]? = some u ∧ wo.ownsRow w.heap.size 42 1 u ((Ls j).length + 7) ((wrote j (Ls j).length ++ more j 7).map encU)) := hrows
      clear hf hst hus hrows f1 f2 hiN
      go_wp2
      go_loop [8] (fun jv => ∃ j : Nat, j ≤ N ∧ jv = .int .i64 j) (fun jv => N - (intOf jv).toNat)
      case atStart => exact ⟨0, Nat.zero_le _, rfl⟩
      case round =>
        obtain ⟨j, hjN, rfl⟩ := hrel
        by_cases hjl : j < N
        · have hn := HLEN.out j hjl
          have hres := HF.out.res j hjl
          rw [if_pos hjl] at hres
          have hcl := list_cell HF.out.list j hjl
          obtain ⟨u, hu1, hu2⟩ := HROWS.out j hjl
          have hcg : wo.cell? ⟨gg, j, none⟩ = some u := (HUS.out.cellAt j (by omega)).trans hu1
          obtain ⟨n, hnn⟩ : ∃ n, n = (Ls j).length := ⟨_, rfl⟩
          rw [← hnn] at hn hres hu2
          obtain ⟨ao, hva⟩ : ∃ ao, vs j = .slice ao n n := by
            obtain ⟨ao, h1, _⟩ := hres
            rw [wrote_length] at h1; exact ⟨ao, h1⟩
          rw [hva] at hcl
          have hrow := hres.row
          rw [hva] at hrow
          have HROW : Hid (RowU wo (.slice ao n n) (wrote j n)) := hrow
          obtain ⟨F, c, hue, _, hc1, hc2, hblk, hbl⟩ := owns_blk hu2 (by omega)
          subst hue
          have HBLK : Hid (Blk wo F (wrote j n ++ more j 7)) := hblk
          clear hres hrow hblk hbl hu1 hu2 hva hnn
          go_wp2
          go_loop [10] (fun kv => ∃ k : Nat, k ≤ n ∧ kv = .int .i64 k) (fun kv => n - (intOf kv).toNat)
          case atStart => exact ⟨0, Nat.zero_le _, rfl⟩
          case round =>
            obtain ⟨k, hkn, rfl⟩ := hrel
            by_cases hkl : k < n
            · obtain ⟨b, off, c9, he9, hc9, hc91, _, hcs⟩ := HROW.out.some' (wrote_length j n) (by omega)
              have hx := hcs k hkl
              rw [wrote_get j n k hkl] at hx
              injection he9 with g1 g2 g3
              subst g1
              have hy := HBLK.out.cell k (by rw [List.length_append, wrote_length]; omega)
              have e1 : (wrote j n ++ more j 7).getD k 0 = 1000 * j + k := by
                rw [List.getD_eq_getElem?_getD, List.getElem?_append_left (by rw [wrote_length]; exact hkl), ← List.getD_eq_getElem?_getD, wrote_get j n k hkl]
              rw [e1] at hy
              have e2 : ((1000 * j + k : Nat) : Int) = 1000 * (j : Int) + (k : Int) := by omega
              rw [e2] at hx hy
              have e8 : IntKind.u64.wrap (1000 * (j : Int) + (k : Int)) = 1000 * (j : Int) + (k : Int) := by rw [IntKind.wrap_u64]; omega
              clear e1 e2 hcs g2 g3
              go_wp2
              go_round
              case rel => exact ⟨k + 1, by omega, by go_num⟩
              case measure => simp [intOf]; omega
            · clear hcl
              go_wp2
              go_loop [11] (fun mv => ∃ m : Nat, m ≤ 7 ∧ mv = .int .i64 m) (fun mv => 7 - (intOf mv).toNat)
              case atStart => exact ⟨0, Nat.zero_le _, rfl⟩
              case round =>
                obtain ⟨m, hmn, rfl⟩ := hrel
                by_cases hml : m < 7
                · have hy := HBLK.out.cell (n + m) (by rw [List.length_append, wrote_length]; simp [more]; omega)
                  have e1 : (wrote j n ++ more j 7).getD (n + m) 0 = 500000 + 1000 * j + m := by
                    rw [List.getD_eq_getElem?_getD, List.getElem?_append_right (by rw [wrote_length]; omega), wrote_length, Nat.add_sub_cancel_left, ← List.getD_eq_getElem?_getD, more_get j 7 m hml]
                  rw [e1] at hy
                  have e2 : ((500000 + 1000 * j + m : Nat) : Int) = 500000 + 1000 * (j : Int) + (m : Int) := by omega
                  rw [e2] at hy
                  have e8 : IntKind.u64.wrap (500000 + 1000 * (j : Int) + (m : Int)) = 500000 + 1000 * (j : Int) + (m : Int) := by rw [IntKind.wrap_u64]; omega
                  clear e1 e2
                  go_wp2
                  go_round
                  case rel => exact ⟨m + 1, by omega, by go_num⟩
                  case measure => simp [intOf]; omega
                · go_wp2
                  refine ⟨⟨j + 1, by omega, by go_num⟩, by simp [intOf]; omega⟩
        · go_wp2
          exact hQ.out _ _ ⟨rfl, HF.out.bel⟩
end Go.Proofs.YtckmmdmimlhmoaaDoor
