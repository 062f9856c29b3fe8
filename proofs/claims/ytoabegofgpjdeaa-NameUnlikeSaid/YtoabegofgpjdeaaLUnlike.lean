/-
  NameUnlike comes to true, whatever it is called with.
-/
import Derived.Test.YtoabegofgpjdeaaOwnStrs
import Derived.Test.YtoabegofgpjdeaaLMath
import Derived.BigRegion
namespace Go.Proofs.Ytoabegofgpjdeaa
open Go.RowKit Go.Lib
set_option linter.unusedVariables false
set_option linter.unusedSimpArgs false

theorem drop_rev {ls : List (List UInt8)} {i : Nat} (h : i < ls.length) : (ls.drop i).reverse = (ls.drop (i + 1)).reverse ++ [ls.getD i []] := by
  have e : ls.getD i [] = ls[i] := by simp [List.getD, h]
  rw [List.drop_eq_getElem_cons h, List.reverse_cons, e]

set_option maxRecDepth 100000 in
set_option maxHeartbeats 3200000 in
theorem lunlike_main (b off n c K : Nat) (ls : List (List UInt8)) (w : World) (h1 : 1 ≤ n) (h30 : n ≤ 30) (hK : K < n) (hnc : n ≤ c) (hc63 : c ≤ 9223372036854775807) (hn : ls.length = n)
    (hr : Strs w w.heap.size (some ⟨b, off, none⟩) ls) (hs : ∀ s ∈ ls, s.length ≤ 9223372036854775807) :
    Calls Try.prog 6 #[.slice (some ⟨b, off, none⟩) n c, .int .i64 (K : Nat)] w (Fine w) := by
  have HR := Lib.hid hr
  have HS := Lib.hid hs
  have HN := Lib.hid hn
  clear hr hs hn
  go_enter Try.func6, Try.ntmps6
  go_wp2_with fail
  refine (small_any w).mono ?_
  rintro x w1 ⟨rfl, hg⟩
  have HG1 := Lib.hid hg
  clear hg
  have t1 : ¬ ((n : Nat) : Int) < 1 := by omega
  have t2 : ¬ (30 : Int) < ((n : Nat) : Int) := by omega
  have t3 : ¬ ((K : Nat) : Int) < 0 := by omega
  have t4 : ¬ ((n : Nat) : Int) ≤ ((K : Nat) : Int) := by omega
  have t4n : ¬ n ≤ K := by omega
  go_wp2
  go_loopg [6] n (fun g s6 wr => ∃ i : Nat, i ≤ n ∧ g = n - i ∧ s6 = .int .i64 i ∧ w1 = wr)
  case atStart => exact ⟨0, Nat.zero_le _, rfl, rfl, rfl⟩
  case round =>
    obtain ⟨i, hi, rfl, rfl, rfl⟩ := hrel
    by_cases hlt : i < n
    · obtain ⟨b', off', e, hb, hcl⟩ := HR.out.grow HG1.out (by rw [HN.out]; omega)
      cases e
      have hc := hcl i (by rw [HN.out]; exact hlt)
      clear hcl
      generalize ls.getD i [] = s at hc
      have hsl := str_size s
      by_cases h100 : 100 < s.length
      · have hi : (100 : Int) < ((s.length : Nat) : Int) := by omega
        go_wp2
        go_ret
        exact ⟨rfl, HG1.out⟩
      · have hi : ¬ (100 : Int) < ((s.length : Nat) : Int) := by omega
        go_wp2
        go_roundg (n - (i + 1))
        case rel => exact ⟨i + 1, by omega, rfl, by go_num, rfl⟩
        case measure => omega
    · obtain rfl : n = i := by omega
      obtain ⟨α, hα⟩ : ∃ α, unlB ls = α := ⟨_, rfl⟩
      have HA := Lib.hid hα
      clear hα
      go_wp2_with fail
      refine (unlike_says HA.out w1 HN.out (by omega) (HR.out.grow HG1.out) HS.out).mono ?_
      rintro e w2 ⟨rfl, hg⟩
      have HG2 := Lib.hid (HG1.out.trans hg)
      clear hg
      go_wp2
      go_loopg [8, 9] n (fun g s8 s9 wr => ∃ (j : Nat) (v : Value), j ≤ n ∧ j = g ∧ v = s8 ∧ s9 = .int .i64 ((j : Nat) - 1) ∧ Hid (OwnS w2.heap.size v (ls.drop j).reverse wr) ∧ Hid (Grow w2 wr))
      case atStart => exact ⟨n, _, Nat.le_refl _, rfl, rfl, rfl, Lib.hid (by rw [List.drop_of_length_le (by rw [HN.out]; exact Nat.le_refl _)]; exact ownS_nil _ _), Lib.hid (Grow.refl _)⟩
      case round =>
        obtain ⟨j, v, hj, rfl, rfl, h9, HO, HG⟩ := hrel
        by_cases hj0 : 0 < j
        · obtain ⟨i, rfl⟩ : ∃ i, j = i + 1 := ⟨j - 1, by omega⟩
          rw [show ((i + 1 : Nat) : Int) - 1 = ((i : Nat) : Int) by omega] at h9
          subst h9
          have hil : i < ls.length := by rw [HN.out]; omega
          obtain ⟨b', off', e, hb, hcl⟩ := HR.out.grow (HG2.out.trans HG.out) (by rw [HN.out]; omega)
          cases e
          have hc := hcl i hil
          have HRV := Lib.hid (drop_rev hil)
          clear hcl hil
          generalize ls.getD i [] = s at hc HRV
          have HL := Lib.hid (strs_lit wr [s])
          have HO1 := Lib.hid (HO.out.grow (grow_new wr (.cells #[.string ⟨s.toArray⟩] 9)))
          have HLN : Hid ((ls.drop (i + 1)).reverse.length + 1 ≤ 1000000) := Lib.hid (by rw [List.length_reverse, List.length_drop, HN.out]; omega)
          have HB2 := Lib.hid (show w2.heap.size ≤ (wr.alloc (.cells #[.string ⟨s.toArray⟩] 9)).heap.size from (HG.out.trans (grow_new _ _)).size)
          have hw1 : IntKind.i64.wrap (((i : Nat) : Int) - 1) = ((i : Nat) : Int) - 1 := by rw [IntKind.wrap_i64]; omega
          go_wp2_with (at_builtin; refine wpList_append_strs rfl _ _ rfl w2.heap.size _ _ [s] _ 1 1 rfl HO1.out rfl rfl (by decide) HL.out HLN.out HB2.out ?_; intro v2 w3 hown3 hb3)
          have HO3 := Lib.hid (show OwnS w2.heap.size v2 (ls.drop i).reverse w3 by rw [HRV.out]; exact hown3)
          have HG3 := Lib.hid (show Grow w2 w3 from Below.trans (HG.out.trans (grow_new _ _)) hb3)
          clear hown3 hb3
          go_roundg i
          case rel => exact ⟨i, v2, by omega, rfl, rfl, rfl, HO3, HG3⟩
          case measure => omega
        · obtain rfl : j = 0 := by omega
          rw [show ((0 : Nat) : Int) - 1 = -1 by omega] at h9
          subst h9
          obtain ⟨w3, hw3⟩ : ∃ w3, w3 = wr := ⟨_, rfl⟩
          subst hw3
          have HG3 := Lib.hid (HG2.out.trans HG.out)
          rw [List.drop_zero] at HO
          obtain ⟨A3, c3, rfl, hS3⟩ := HO.out.strs
          have hlr : ls.reverse.length = n := by rw [List.length_reverse, HN.out]
          rw [hlr]
          have HSB := Lib.hid hS3
          have HLR := Lib.hid hlr
          have HR3 := Lib.hid (HR.out.grow HG3.out)
          have hKl : K < ls.length := by rw [HN.out]; exact hK
          have HUA := Lib.hid (unl_again hKl)
          obtain ⟨b', off', e, hb, hcl⟩ := HR3.out (by rw [HN.out]; omega)
          cases e
          have HCK := Lib.hid (hcl K hKl)
          have hsx := getD_len HS.out K
          clear hcl hKl hS3 hlr HG HO HG1 HG2
          generalize ls.getD K [] = x at HUA HCK hsx
          obtain ⟨β, hβ⟩ : ∃ β, unlB (ls ++ [x]) = β := ⟨_, rfl⟩
          have HB := Lib.hid hβ
          clear hβ
          obtain ⟨B, hBe⟩ : ∃ B, B = w3.heap.size := ⟨_, rfl⟩
          have HBE := Lib.hid hBe
          clear hBe
          have HSX : Hid (∀ s ∈ ls ++ [x], s.length ≤ 9223372036854775807) := Lib.hid (fun s hm => by
            rcases List.mem_append.1 hm with h | h
            · exact HS.out s h
            · have e : s = x := by simpa using h
              rw [e]; exact hsx)
          have HSE : Hid (∀ s ∈ ls ++ [[]], s.length ≤ 9223372036854775807) := Lib.hid (fun s hm => by
            rcases List.mem_append.1 hm with h | h
            · exact HS.out s h
            · have e : s = [] := by simpa using h
              rw [e]; exact Nat.zero_le _)
          have HL1 : Hid (ls.length + [x].length ≤ 1000000) := Lib.hid (by rw [HN.out, List.length_singleton]; omega)
          have HLX : Hid ((ls ++ [x]).length = n + 1) := Lib.hid (by rw [List.length_append, HN.out]; rfl)
          have HL3 : Hid (ls.length + ([[]] : List (List UInt8)).length ≤ 1000000) := Lib.hid (by rw [HN.out, List.length_singleton]; omega)
          have HLE : Hid ((ls ++ [[]]).length = n + 1) := Lib.hid (by rw [List.length_append, HN.out]; rfl)
          have HL0 : Hid (ls.length ≤ 1000000) := Lib.hid (by rw [HN.out]; omega)
          go_upto_region 15 with fail
          go_cut [10] from 61 to 70 (fun z wx => z = .bool β ∧ Grow w3 wx)
          case first =>
            refine wp_region_R ((Below B)) (n := 11) rfl (by kernel_rfl) ?_
            intro W0 hW0e hW0
            have hB0 : B ≤ W0.heap.size := by rw [HBE.out]; exact hW0.size
            have hG0 := Lib.hid (show Below B w3 W0 from HBE.out ▸ hW0)
            have HRS : Hid (∀ wg, Below B W0 wg → Strs wg wg.heap.size (some ⟨b, off, none⟩) ls) := Lib.hid (fun wg hg => by
              have h1 : Grow w3 wg := show Below w3.heap.size w3 wg from HBE.out ▸ (hG0.out.trans hg)
              exact HR3.out.grow h1)
            have hcl : ∀ wg, Below B W0 wg → wg.cell? ⟨b, off + K, none⟩ = some (.string ⟨x.toArray⟩) := fun wg hg => by
              have h1 : Grow w3 wg := show Below w3.heap.size w3 wg from HBE.out ▸ (hG0.out.trans hg)
              exact (h1.cell hb).trans HCK.out
            clear hW0
            clear hW0e
            refine wpR_take (belowOrd B) (i := 1) (v := ?vf1) rfl (by kernel_rfl) (by kernel_rfl) (by kernel_rfl) (fun _ _ _ h => h) (by rfl) ?hf1 ?rf1
            case hf1 => (intro wg hSw; go_simp <;> with_reducible rfl)
            simp only [Act.put, List.setIfInBounds_toArray, List.set_cons_zero, List.set_cons_succ]
            refine wpR_take (belowOrd B) (i := 3) (v := ?vf2) rfl (by kernel_rfl) (by kernel_rfl) (by kernel_rfl) (fun _ _ _ h => h) (by rfl) ?hf2 ?rf2
            case hf2 => (intro wg hSw; go_simp <;> with_reducible rfl)
            simp only [Act.put, List.setIfInBounds_toArray, List.set_cons_zero, List.set_cons_succ]
            refine wpR_take (belowOrd B) (i := 4) (v := ?vf3) rfl (by kernel_rfl) (by kernel_rfl) (by kernel_rfl) (fun _ _ _ h => h) (by rfl) ?hf3 ?rf3
            case hf3 => (intro wg hSw; go_simp <;> with_reducible rfl)
            simp only [Act.put, List.setIfInBounds_toArray, List.set_cons_zero, List.set_cons_succ]
            refine wpR_take (belowOrd B) (i := 5) (v := ?vf4) rfl (by kernel_rfl) (by kernel_rfl) (by kernel_rfl) (fun _ _ _ h => h) (by rfl) ?hf4 ?rf4
            case hf4 => (intro wg hSw; go_simp <;> with_reducible rfl)
            simp only [Act.put, List.setIfInBounds_toArray, List.set_cons_zero, List.set_cons_succ]
            refine wpR_take (belowOrd B) (i := 6) (v := ?vf5) rfl (by kernel_rfl) (by kernel_rfl) (by kernel_rfl) (fun _ _ _ h => h) (by rfl) ?hf5 ?rf5
            case hf5 => (intro wg hSw; go_simp <;> with_reducible rfl)
            simp only [Act.put, List.setIfInBounds_toArray, List.set_cons_zero, List.set_cons_succ]
            refine wpR_two (i := 0) (j := 7) (by kernel_rfl) ?_ ?_
            · refine wpR_op (i := 0) rfl (by rfl) (fun K hK => ?_)
              go_simp
              refine hK.out _ _ (Below.mono (grow_new _ _) (Nat.le_trans hB0 ((((belowOrd B)).refl W0)).size)) ?_
              clear hK K
              try simp only [Act.put, List.setIfInBounds_toArray, List.set_cons_zero, List.set_cons_succ]
              generalize hwM0 : World.alloc W0 (Obj.cells _ 9) = wM0
              have hN0 : Grow W0 wM0 := by rw [← hwM0]; exact grow_new _ _
              have hM0 : Below B W0 wM0 := Below.mono hN0 (Nat.le_trans hB0 ((((belowOrd B)).refl W0)).size)
              clear hwM0
              refine wpR_two (i := 2) (j := 7) (by kernel_rfl) ?_ ?_
              · refine wpR_op (i := 2) rfl (by rfl) (fun K hK => ?_)
                refine wp_first_strs _ _ rfl _ ls _ n c rfl rfl HN.out.symm (by omega) (HRS.out _ (((belowOrd B)).trans (((belowOrd B)).refl W0) hM0)) HL0.out ?_
                intro v2 wM2 hC2' hN2
                have hC2 : OwnS B v2 ls wM2 := hC2'.base (Nat.le_trans hB0 ((((belowOrd B)).trans (((belowOrd B)).refl W0) hM0)).size)
                have hM2 : Below B wM0 wM2 := Below.mono hN2 (Nat.le_trans hB0 ((((belowOrd B)).trans (((belowOrd B)).refl W0) hM0)).size)
                clear hC2'
                refine hK.out _ _ hM2 ?_
                clear hK K
                try simp only [Act.put, List.setIfInBounds_toArray, List.set_cons_zero, List.set_cons_succ]
                refine wpR_one (i := 7) (by kernel_rfl) ?_
                refine wpR_op (i := 7) rfl (by rfl) (fun K hK => ?_)
                go_simp
                refine hK.out _ _ (Below.mono (grow_new _ _) (Nat.le_trans hB0 ((((belowOrd B)).trans (((belowOrd B)).trans (((belowOrd B)).refl W0) hM0) hM2)).size)) ?_
                clear hK K
                try simp only [Act.put, List.setIfInBounds_toArray, List.set_cons_zero, List.set_cons_succ]
                have hC7 : Strs (World.alloc wM2 (.cells #[.string ⟨x.toArray⟩] 9)) (World.alloc wM2 (.cells #[.string ⟨x.toArray⟩] 9)).heap.size (some ⟨(wM2).heap.size, 0, none⟩) [x] := strs_lit wM2 [x]
                have hN7 : Grow wM2 (World.alloc wM2 (.cells #[.string ⟨x.toArray⟩] 9)) := grow_new _ _
                generalize World.alloc wM2 (.cells #[.string ⟨x.toArray⟩] 9) = wM7 at hC7 hN7 ⊢
                have hM7 : Below B wM2 wM7 := Below.mono hN7 (Nat.le_trans hB0 ((((belowOrd B)).trans (((belowOrd B)).trans (((belowOrd B)).refl W0) hM0) hM2)).size)
                refine wpR_one (i := 8) (by kernel_rfl) ?_
                refine wpR_op (i := 8) rfl (by rfl) (fun K hK => ?_)
                refine wp_append_strs _ _ rfl B _ ls [x] _ 1 1 rfl (hC2.grow hN7) rfl rfl (by decide) hC7 HL1.out (Nat.le_trans hB0 ((((belowOrd B)).trans (((belowOrd B)).trans (((belowOrd B)).trans (((belowOrd B)).refl W0) hM0) hM2) hM7)).size) ?_
                intro v8 wM8 hC8 hM8
                obtain ⟨A8, c8, e8, hS8⟩ := hC8.strs
                rw [HLX.out] at e8
                subst e8
                refine hK.out _ _ hM8 ?_
                clear hK K
                try simp only [Act.put, List.setIfInBounds_toArray, List.set_cons_zero, List.set_cons_succ]
                refine wpR_one (i := 9) (by kernel_rfl) ?_
                refine wpR_op (i := 9) rfl (by rfl) (fun K hK => ?_)
                go_simp
                refine (unlike_says HB.out wM8 HLX.out (by omega) hS8 HSX.out).mono ?_
                rintro e wM9 ⟨rfl, hN9⟩
                have hM9 : Below B wM8 wM9 := Below.mono hN9 (Nat.le_trans hB0 ((((belowOrd B)).trans (((belowOrd B)).trans (((belowOrd B)).trans (((belowOrd B)).trans (((belowOrd B)).refl W0) hM0) hM2) hM7) hM8)).size)
                refine hK.out _ _ hM9 ?_
                clear hK K
                try simp only [Act.put, List.setIfInBounds_toArray, List.set_cons_zero, List.set_cons_succ]
                refine wpR_take (belowOrd B) (i := 10) (v := ?vf6) rfl (by kernel_rfl) (by kernel_rfl) (by kernel_rfl) (fun _ _ _ h => h) (by rfl) ?hf6 ?rf6
                case hf6 => (intro wg hSw; go_simp <;> with_reducible rfl)
                simp only [Act.put, List.setIfInBounds_toArray, List.set_cons_zero, List.set_cons_succ]
                refine wpR_done (by kernel_rfl) ?_
                have hGW := Lib.hid (((belowOrd B)).trans (((belowOrd B)).trans (((belowOrd B)).trans (((belowOrd B)).trans (((belowOrd B)).trans (((belowOrd B)).refl W0) hM0) hM2) hM7) hM8) hM9)
                clear hcl
                go_wp2
                go_meet
                case rel => exact ⟨rfl, show Below w3.heap.size w3 _ from HBE.out ▸ (hG0.out.trans hGW.out)⟩
              · refine wpR_op (i := 7) rfl (by rfl) (fun K hK => ?_)
                go_simp
                refine hK.out _ _ (Below.mono (grow_new _ _) (Nat.le_trans hB0 ((((belowOrd B)).trans (((belowOrd B)).refl W0) hM0)).size)) ?_
                clear hK K
                try simp only [Act.put, List.setIfInBounds_toArray, List.set_cons_zero, List.set_cons_succ]
                have hC7 : Strs (World.alloc wM0 (.cells #[.string ⟨x.toArray⟩] 9)) (World.alloc wM0 (.cells #[.string ⟨x.toArray⟩] 9)).heap.size (some ⟨(wM0).heap.size, 0, none⟩) [x] := strs_lit wM0 [x]
                have hN7 : Grow wM0 (World.alloc wM0 (.cells #[.string ⟨x.toArray⟩] 9)) := grow_new _ _
                generalize World.alloc wM0 (.cells #[.string ⟨x.toArray⟩] 9) = wM7 at hC7 hN7 ⊢
                have hM7 : Below B wM0 wM7 := Below.mono hN7 (Nat.le_trans hB0 ((((belowOrd B)).trans (((belowOrd B)).refl W0) hM0)).size)
                refine wpR_one (i := 2) (by kernel_rfl) ?_
                refine wpR_op (i := 2) rfl (by rfl) (fun K hK => ?_)
                refine wp_first_strs _ _ rfl _ ls _ n c rfl rfl HN.out.symm (by omega) (HRS.out _ (((belowOrd B)).trans (((belowOrd B)).trans (((belowOrd B)).refl W0) hM0) hM7)) HL0.out ?_
                intro v2 wM2 hC2' hN2
                have hC2 : OwnS B v2 ls wM2 := hC2'.base (Nat.le_trans hB0 ((((belowOrd B)).trans (((belowOrd B)).trans (((belowOrd B)).refl W0) hM0) hM7)).size)
                have hM2 : Below B wM7 wM2 := Below.mono hN2 (Nat.le_trans hB0 ((((belowOrd B)).trans (((belowOrd B)).trans (((belowOrd B)).refl W0) hM0) hM7)).size)
                clear hC2'
                refine hK.out _ _ hM2 ?_
                clear hK K
                try simp only [Act.put, List.setIfInBounds_toArray, List.set_cons_zero, List.set_cons_succ]
                refine wpR_one (i := 8) (by kernel_rfl) ?_
                refine wpR_op (i := 8) rfl (by rfl) (fun K hK => ?_)
                refine wp_append_strs _ _ rfl B _ ls [x] _ 1 1 rfl hC2 rfl rfl (by decide) (hC7.grow hN2) HL1.out (Nat.le_trans hB0 ((((belowOrd B)).trans (((belowOrd B)).trans (((belowOrd B)).trans (((belowOrd B)).refl W0) hM0) hM7) hM2)).size) ?_
                intro v8 wM8 hC8 hM8
                obtain ⟨A8, c8, e8, hS8⟩ := hC8.strs
                rw [HLX.out] at e8
                subst e8
                refine hK.out _ _ hM8 ?_
                clear hK K
                try simp only [Act.put, List.setIfInBounds_toArray, List.set_cons_zero, List.set_cons_succ]
                refine wpR_one (i := 9) (by kernel_rfl) ?_
                refine wpR_op (i := 9) rfl (by rfl) (fun K hK => ?_)
                go_simp
                refine (unlike_says HB.out wM8 HLX.out (by omega) hS8 HSX.out).mono ?_
                rintro e wM9 ⟨rfl, hN9⟩
                have hM9 : Below B wM8 wM9 := Below.mono hN9 (Nat.le_trans hB0 ((((belowOrd B)).trans (((belowOrd B)).trans (((belowOrd B)).trans (((belowOrd B)).trans (((belowOrd B)).refl W0) hM0) hM7) hM2) hM8)).size)
                refine hK.out _ _ hM9 ?_
                clear hK K
                try simp only [Act.put, List.setIfInBounds_toArray, List.set_cons_zero, List.set_cons_succ]
                refine wpR_take (belowOrd B) (i := 10) (v := ?vf7) rfl (by kernel_rfl) (by kernel_rfl) (by kernel_rfl) (fun _ _ _ h => h) (by rfl) ?hf7 ?rf7
                case hf7 => (intro wg hSw; go_simp <;> with_reducible rfl)
                simp only [Act.put, List.setIfInBounds_toArray, List.set_cons_zero, List.set_cons_succ]
                refine wpR_done (by kernel_rfl) ?_
                have hGW := Lib.hid (((belowOrd B)).trans (((belowOrd B)).trans (((belowOrd B)).trans (((belowOrd B)).trans (((belowOrd B)).trans (((belowOrd B)).refl W0) hM0) hM7) hM2) hM8) hM9)
                clear hcl
                go_wp2
                go_meet
                case rel => exact ⟨rfl, show Below w3.heap.size w3 _ from HBE.out ▸ (hG0.out.trans hGW.out)⟩
            · refine wpR_op (i := 7) rfl (by rfl) (fun K hK => ?_)
              go_simp
              refine hK.out _ _ (Below.mono (grow_new _ _) (Nat.le_trans hB0 ((((belowOrd B)).refl W0)).size)) ?_
              clear hK K
              try simp only [Act.put, List.setIfInBounds_toArray, List.set_cons_zero, List.set_cons_succ]
              have hC7 : Strs (World.alloc W0 (.cells #[.string ⟨x.toArray⟩] 9)) (World.alloc W0 (.cells #[.string ⟨x.toArray⟩] 9)).heap.size (some ⟨(W0).heap.size, 0, none⟩) [x] := strs_lit W0 [x]
              have hN7 : Grow W0 (World.alloc W0 (.cells #[.string ⟨x.toArray⟩] 9)) := grow_new _ _
              generalize World.alloc W0 (.cells #[.string ⟨x.toArray⟩] 9) = wM7 at hC7 hN7 ⊢
              have hM7 : Below B W0 wM7 := Below.mono hN7 (Nat.le_trans hB0 ((((belowOrd B)).refl W0)).size)
              refine wpR_one (i := 0) (by kernel_rfl) ?_
              refine wpR_op (i := 0) rfl (by rfl) (fun K hK => ?_)
              go_simp
              refine hK.out _ _ (Below.mono (grow_new _ _) (Nat.le_trans hB0 ((((belowOrd B)).trans (((belowOrd B)).refl W0) hM7)).size)) ?_
              clear hK K
              try simp only [Act.put, List.setIfInBounds_toArray, List.set_cons_zero, List.set_cons_succ]
              generalize hwM0 : World.alloc wM7 (Obj.cells _ 9) = wM0
              have hN0 : Grow wM7 wM0 := by rw [← hwM0]; exact grow_new _ _
              have hM0 : Below B wM7 wM0 := Below.mono hN0 (Nat.le_trans hB0 ((((belowOrd B)).trans (((belowOrd B)).refl W0) hM7)).size)
              clear hwM0
              refine wpR_one (i := 2) (by kernel_rfl) ?_
              refine wpR_op (i := 2) rfl (by rfl) (fun K hK => ?_)
              refine wp_first_strs _ _ rfl _ ls _ n c rfl rfl HN.out.symm (by omega) (HRS.out _ (((belowOrd B)).trans (((belowOrd B)).trans (((belowOrd B)).refl W0) hM7) hM0)) HL0.out ?_
              intro v2 wM2 hC2' hN2
              have hC2 : OwnS B v2 ls wM2 := hC2'.base (Nat.le_trans hB0 ((((belowOrd B)).trans (((belowOrd B)).trans (((belowOrd B)).refl W0) hM7) hM0)).size)
              have hM2 : Below B wM0 wM2 := Below.mono hN2 (Nat.le_trans hB0 ((((belowOrd B)).trans (((belowOrd B)).trans (((belowOrd B)).refl W0) hM7) hM0)).size)
              clear hC2'
              refine hK.out _ _ hM2 ?_
              clear hK K
              try simp only [Act.put, List.setIfInBounds_toArray, List.set_cons_zero, List.set_cons_succ]
              refine wpR_one (i := 8) (by kernel_rfl) ?_
              refine wpR_op (i := 8) rfl (by rfl) (fun K hK => ?_)
              refine wp_append_strs _ _ rfl B _ ls [x] _ 1 1 rfl hC2 rfl rfl (by decide) ((hC7.grow hN0).grow hN2) HL1.out (Nat.le_trans hB0 ((((belowOrd B)).trans (((belowOrd B)).trans (((belowOrd B)).trans (((belowOrd B)).refl W0) hM7) hM0) hM2)).size) ?_
              intro v8 wM8 hC8 hM8
              obtain ⟨A8, c8, e8, hS8⟩ := hC8.strs
              rw [HLX.out] at e8
              subst e8
              refine hK.out _ _ hM8 ?_
              clear hK K
              try simp only [Act.put, List.setIfInBounds_toArray, List.set_cons_zero, List.set_cons_succ]
              refine wpR_one (i := 9) (by kernel_rfl) ?_
              refine wpR_op (i := 9) rfl (by rfl) (fun K hK => ?_)
              go_simp
              refine (unlike_says HB.out wM8 HLX.out (by omega) hS8 HSX.out).mono ?_
              rintro e wM9 ⟨rfl, hN9⟩
              have hM9 : Below B wM8 wM9 := Below.mono hN9 (Nat.le_trans hB0 ((((belowOrd B)).trans (((belowOrd B)).trans (((belowOrd B)).trans (((belowOrd B)).trans (((belowOrd B)).refl W0) hM7) hM0) hM2) hM8)).size)
              refine hK.out _ _ hM9 ?_
              clear hK K
              try simp only [Act.put, List.setIfInBounds_toArray, List.set_cons_zero, List.set_cons_succ]
              refine wpR_take (belowOrd B) (i := 10) (v := ?vf8) rfl (by kernel_rfl) (by kernel_rfl) (by kernel_rfl) (fun _ _ _ h => h) (by rfl) ?hf8 ?rf8
              case hf8 => (intro wg hSw; go_simp <;> with_reducible rfl)
              simp only [Act.put, List.setIfInBounds_toArray, List.set_cons_zero, List.set_cons_succ]
              refine wpR_done (by kernel_rfl) ?_
              have hGW := Lib.hid (((belowOrd B)).trans (((belowOrd B)).trans (((belowOrd B)).trans (((belowOrd B)).trans (((belowOrd B)).trans (((belowOrd B)).refl W0) hM7) hM0) hM2) hM8) hM9)
              clear hcl
              go_wp2
              go_meet
              case rel => exact ⟨rfl, show Below w3.heap.size w3 _ from HBE.out ▸ (hG0.out.trans hGW.out)⟩
          case rest =>
            obtain ⟨rfl, hgc⟩ := hcut
            have HGC := Lib.hid hgc
            obtain ⟨w4, hw4⟩ : ∃ w4, w4 = wc := ⟨_, rfl⟩
            subst hw4
            clear hgc
            have HR4 := Lib.hid (HR3.out.grow HGC.out)
            go_wp2_with (first
              | (at_builtin; refine wpList_first_strs rfl _ _ rfl _ ls _ n c rfl rfl HN.out.symm (by omega) (HR4.out.grow (grow_new _ _)) HL0.out ?_; intro v5 w5 hown5 hg5)
              | (at_builtin; refine wpList_append_strs rfl _ _ rfl _ v5 ls [[]] _ 1 1 rfl (hown5.grow (grow_new _ _)) rfl rfl (by decide) (strs_lit w5 [[]]) HL3.out (Nat.le_trans hg5.size (grow_new _ _).size) ?_; intro v6 w6 hown6 hb6; obtain ⟨A6, c6, e6, hS6⟩ := hown6.strs; rw [HLE.out] at e6; subst e6))
            have HS6 := Lib.hid hS6
            have HG6 := Lib.hid (show Grow w4 w6 from Below.trans (Below.trans (grow_new _ _) (Below.mono hg5 (grow_new _ _).size)) (Below.trans (Below.mono (grow_new _ _) (Nat.le_trans (grow_new _ _).size hg5.size)) (Below.mono hb6 (grow_new _ _).size)))
            clear hS6 hown6 hb6 hown5 hg5
            refine (unlike_says ((unl_empty ls).trans HA.out) w6 HLE.out (by omega) HS6.out HSE.out).mono ?_
            rintro e w7 ⟨rfl, hg⟩
            have HG7 := Lib.hid (HGC.out.trans (HG6.out.trans hg))
            clear hg HG6 HS6
            have hrev : unlB ls.reverse = α := (unl_rev ls).trans HA.out
            have HREV := Lib.hid hrev
            have HSR : Hid (∀ s ∈ ls.reverse, s.length ≤ 9223372036854775807) := Lib.hid (fun s hm => HS.out s (List.mem_reverse.1 hm))
            clear hrev
            go_wp2_with fail
            refine (unlike_says HREV.out w7 HLR.out (by omega) (HSB.out.grow HG7.out) HSR.out).mono ?_
            rintro e w8 ⟨rfl, hg⟩
            have HG8 := Lib.hid (HG7.out.trans hg)
            clear hg
            have HBV := Lib.hid (HB.out.symm.trans HUA.out)
            rw [HA.out] at HBV
            have HGE := Lib.hid (HG3.out.trans HG8.out)
            cases α with
            | false =>
              have hβ : β = false := HBV.out
              subst hβ
              go_wp2
              go_ret
              exact ⟨rfl, HGE.out⟩
            | true =>
              have hck := (HG8.out.cell hb).trans HCK.out
              have hT : unlB (ls.take K) = true := unl_take HA.out K
              have HT := Lib.hid hT
              have HTL : Hid ((ls.take K).length = K) := Lib.hid (by rw [List.length_take, HN.out]; omega)
              have HTS : Hid (∀ s ∈ ls.take K, s.length ≤ 9223372036854775807) := Lib.hid (fun s hm => HS.out s (List.mem_of_mem_take hm))
              have hKc : K ≤ c := by omega
              clear hT
              by_cases hx0 : x = []
              · subst hx0
                have hβ : β = true := HBV.out
                subst hβ
                go_wp2_with fail
                refine (unlike_says HT.out w8 HTL.out (by omega) ((HR3.out.grow HG8.out).take K) HTS.out).mono ?_
                rintro e w9 ⟨rfl, hg⟩
                have HG9 := Lib.hid (HGE.out.trans hg)
                clear hg
                go_wp2
                go_ret
                exact ⟨rfl, HG9.out⟩
              · have hβ : β = false := HBV.out.trans (by simpa using hx0)
                subst hβ
                have hxb : (x == []) = false := beq_eq_false_iff_ne.2 hx0
                go_wp2_with fail
                refine (unlike_says HT.out w8 HTL.out (by omega) ((HR3.out.grow HG8.out).take K) HTS.out).mono ?_
                rintro e w9 ⟨rfl, hg⟩
                have HG9 := Lib.hid (HGE.out.trans hg)
                clear hg
                go_wp2
                go_ret
                exact ⟨rfl, HG9.out⟩

set_option maxRecDepth 10000 in
set_option maxHeartbeats 800000 in
theorem lunlike_walk (A : Option Addr) (n c : Nat) (k : Int) (ls : List (List UInt8)) (w : World) (hn : ls.length = n) (hn63 : n ≤ 9223372036854775807) (hnc : n ≤ c) (hc63 : c ≤ 9223372036854775807)
    (hr : Strs w w.heap.size A ls) (hs : ∀ s ∈ ls, s.length ≤ 9223372036854775807) :
    Calls Try.prog 6 #[.slice A n c, .int .i64 k] w (Fine w) := by
  by_cases h1 : n < 1
  · have t1 : ((n : Nat) : Int) < 1 := by omega
    clear hr hs hn
    go_enter Try.func6, Try.ntmps6
    go_wp2_with fail
    refine (small_any w).mono ?_
    rintro x w1 ⟨rfl, hg⟩
    have HG1 := Lib.hid hg
    clear hg
    go_wp2
    go_ret
    exact ⟨rfl, HG1.out⟩
  have t1 : ¬ ((n : Nat) : Int) < 1 := by omega
  by_cases h2 : 30 < n
  · have t2 : (30 : Int) < ((n : Nat) : Int) := by omega
    clear hr hs hn
    go_enter Try.func6, Try.ntmps6
    go_wp2_with fail
    refine (small_any w).mono ?_
    rintro x w1 ⟨rfl, hg⟩
    have HG1 := Lib.hid hg
    clear hg
    go_wp2
    go_ret
    exact ⟨rfl, HG1.out⟩
  have t2 : ¬ (30 : Int) < ((n : Nat) : Int) := by omega
  by_cases h3 : k < 0
  · clear hr hs hn
    go_enter Try.func6, Try.ntmps6
    go_wp2_with fail
    refine (small_any w).mono ?_
    rintro x w1 ⟨rfl, hg⟩
    have HG1 := Lib.hid hg
    clear hg
    go_wp2
    go_ret
    exact ⟨rfl, HG1.out⟩
  by_cases h4 : ((n : Nat) : Int) ≤ k
  · clear hr hs hn
    go_enter Try.func6, Try.ntmps6
    go_wp2_with fail
    refine (small_any w).mono ?_
    rintro x w1 ⟨rfl, hg⟩
    have HG1 := Lib.hid hg
    clear hg
    go_wp2
    go_ret
    exact ⟨rfl, HG1.out⟩
  obtain ⟨b, off, rfl, _, _⟩ := hr (by omega)
  obtain ⟨K, rfl⟩ : ∃ K : Nat, k = (K : Nat) := ⟨k.toNat, by omega⟩
  exact lunlike_main b off n c K ls w (by omega) (by omega) (by omega) hnc hc63 hn hr hs
end Go.Proofs.Ytoabegofgpjdeaa
