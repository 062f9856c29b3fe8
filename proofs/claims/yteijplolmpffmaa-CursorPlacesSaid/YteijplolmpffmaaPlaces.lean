/-
  The law CursorPlaces at every input.
-/
import Derived.Test.YteijplolmpffmaaPairs
namespace Go.Proofs.Yteijplolmpffmaa
open Go.RowKit

set_option maxRecDepth 10000 in
set_option maxHeartbeats 800000 in
theorem places_no (A1 A2 : Option Addr) (n m c1 c2 : Nat) (a : Int) (w : World) (h1 : n ≤ 9223372036854775807) (h2 : m ≤ 9223372036854775807) (h : ¬ (n ≤ 500 ∧ m ≤ 100 ∧ 0 ≤ a ∧ a ≤ 549755813888)) :
    Calls Try.prog 7 #[.slice A1 n c1, .int .i64 a, .slice A2 m c2] w (Fine w) := by
  have HS := Lib.hid (small_any w)
  have hcase : 500 < n ∨ (n ≤ 500 ∧ 100 < m) ∨ (n ≤ 500 ∧ m ≤ 100 ∧ a < 0) ∨ (n ≤ 500 ∧ m ≤ 100 ∧ 0 ≤ a ∧ 549755813888 < a) := by omega
  clear h
  rcases hcase with hn | ⟨hn, hm⟩ | ⟨hn, hm, ha⟩ | ⟨hn, hm, ha, hb⟩
  all_goals
    go_enter Try.func7, Try.ntmps7
    go_wp2_with fail
    refine (HS.out).mono ?_
    rintro e w1 ⟨rfl, hb1⟩
    go_wp2
    go_ret
    exact ⟨rfl, hb1⟩

theorem open_shift (bs : List Int) (a : Int) (h0 : 0 ≤ a) (h1 : a ≤ 549755813888) : openS bs a = shiftS a (openS bs 0) := by
  have e1 : clampS a = a := by unfold clampS; omega
  have e0 : clampS 0 = 0 := by decide
  simp [openS, shiftS, e0, e1]

set_option linter.unusedSimpArgs false
set_option maxRecDepth 10000 in
set_option maxHeartbeats 6400000 in
theorem places_yes (A1 A2 : Option Addr) (n m c1 c2 : Nat) (bs : List Int) (a : Int) (l : List (Int × Int)) (w : World) (h1 : bs.length = n) (h2 : l.length = m) (hn : n ≤ 500) (hm : m ≤ 100) (ha0 : 0 ≤ a) (ha1 : a ≤ 549755813888) (e1 : A1 = none → c1 = 0)
    (b1 : Byt bs) (i2 : I64 l) (r1 : Nums .u8 w w.heap.size A1 bs) (r2 : Acts w w.heap.size A2 l) : Calls Try.prog 7 #[.slice A1 n c1, .int .i64 a, .slice A2 m c2] w (Fine w) := by
  have HG0 := Lib.hid (open_good bs 0 b1 (by omega))
  have HG1 := Lib.hid (open_good bs a b1 (by omega))
  have HSH := Lib.hid (open_shift bs a ha0 ha1)
  have HS := Lib.hid (small_any w)
  have H1 := Lib.hid h1
  have H2 := Lib.hid h2
  have R1 := Lib.hid r1
  have R2 := Lib.hid r2
  have I2 := Lib.hid i2
  clear h1 h2 r1 r2 b1 i2
  go_enter Try.func7, Try.ntmps7
  go_wp2_with fail
  refine (HS.out).mono ?_
  rintro e w1 ⟨rfl, hb1⟩
  have R1' := Lib.hid (R1.out.grow hb1)
  have hz1 := hb1.size
  have HB1 := Lib.hid hb1
  clear R1 hb1 HS
  go_wp2_with fail
  refine (open_any A1 n c1 bs 0 w1 H1.out (by omega) e1 R1'.out).mono ?_
  rintro e w2 ⟨c, rfl, hc1, hc2, hb2, hcc⟩
  have HC := Lib.hid hcc
  have R2' := Lib.hid (R1'.out.grow hb2)
  have hz2 := hb2.size
  have HB2 := Lib.hid hb2
  clear hcc hb2 R1'
  go_wp2_with fail
  refine (open_any A1 n c1 bs a w2 H1.out (by omega) e1 R2'.out).mono ?_
  rintro e w3 ⟨d, rfl, hd1, hd2, hb3, hdd⟩
  obtain ⟨S, hS⟩ : ∃ S : Nat → Prop, S = fun k => k = c ∨ k = d := ⟨_, rfl⟩
  have hSc : S c := by rw [hS]; exact .inl rfl
  have hSd : S d := by rw [hS]; exact .inr rfl
  have hcd : ¬ d = c := by omega
  have HSW := Lib.hid (show ∀ k, S k → w.heap.size ≤ k by intro k hk; rw [hS] at hk; omega)
  have HSX := Lib.hid (show ∀ wx : World, w3.heap.size ≤ wx.heap.size → ∀ k, S k → k < wx.heap.size by intro wx hx k hk; rw [hS] at hk; omega)
  have i1 : IsC 44 S w3 c (openS bs 0) := (HC.out S hSc (fun k hk => by rw [hS] at hk; omega)).grow hb3
  have i2 : IsC 44 S w3 d (openS bs a) := hdd S hSd (fun k hk => by rw [hS] at hk; omega)
  have hg1 := HG1.out
  rw [HSH.out] at i2 hg1
  have HB0 : Hid (Both 44 44 S c d (shiftS a) w3 w3) := ⟨_, i1, i2, HG0.out, hg1, fun h => absurd rfl h, Kept.refl _ _⟩
  have HB3 := Lib.hid ((HB1.out.trans HB2.out).trans hb3)
  have R3 := Lib.hid (R2.out.grow (Nat.le_refl _) HB3.out)
  clear hdd hb3 i1 i2 hg1 HC R2 R2' HB1 HB2 hS HG0 HG1 HSH
  go_wp2_with fail
  go_loopg [10] m (fun gk i wr => ∃ k : Nat, k ≤ m ∧ gk = m - k ∧ i = .int .i64 k ∧ Both 44 44 S c d (shiftS a) w3 wr)
  case atStart => exact ⟨0, Nat.zero_le _, rfl, rfl, HB0.out⟩
  case round =>
    obtain ⟨k, hk, rfl, rfl, s, i1, i2, g1, g2, hh, kp⟩ := hrel
    have I1 := Lib.hid i1
    have I3 := Lib.hid i2
    have G1 := Lib.hid g1
    have G2 := Lib.hid g2
    have HH := Lib.hid hh
    have KP := Lib.hid kp
    clear i1 i2 g1 g2 hh kp HB0
    by_cases hlt : k < m
    · have hkl : k < l.length := by rw [H2.out]; exact hlt
      obtain ⟨b, off, rfl, hb, hcl2⟩ := R3.out.kept HB3.out.size KP.out HSW.out (by omega)
      have hI := I2.out.at_ k
      have hc0 := (hcl2 k hkl).1
      have HC1 := Lib.hid (hcl2 k hkl).2
      clear hcl2
      generalize l.getD k (0, 0) = x at *
      obtain ⟨x, y⟩ := x
      simp only at hc0 HC1 hI
      have hbS : ¬ S b := fun h => by have := HSW.out b h; omega
      have hbl : b < wr.heap.size := Nat.lt_of_lt_of_le hb (Nat.le_trans HB3.out.size KP.out.size)
      have HCY : Hid (∀ wg, Kept S wr wg → wg.cell? ⟨b, off + k * 2 + 1, none⟩ = some (.int .i64 y)) := fun wg hg => (hg.cell (p := ⟨b, off + k * 2 + 1, none⟩) hbl hbS).trans HC1.out
      go_upto_block 2 with fail
      go_cut [11] from 43 to 150 (fun z wx => z = .bool true ∧ Both 44 44 S c d (shiftS a) w3 wx)
      case first =>
        by_cases d0 : x = 0
        · subst d0
          obtain ⟨⟨v, s1⟩, hr⟩ : ∃ r, byteS s = r := ⟨_, rfl⟩
          have gg := Lib.hid (show Good s1 from by have h := G1.out.byte; rw [hr] at h; exact h)
          have gg2 := Lib.hid (show Good (shiftS a s1) from by have h := G2.out.byte; rw [shift_byte, hr] at h; exact h)
          have gh := Lib.hid (show Held s1 from by have h := Held.byte G1.out HH.out; rw [hr] at h; exact h)
          have HR := Lib.hid hr
          clear hr
          go_wp2_with fail
          refine (byte_is v wr I1.out G1.out HR.out).mono ?_
          rintro e w5 ⟨rfl, j1, k1⟩
          have J1 := Lib.hid j1
          have K1 := Lib.hid k1
          clear j1 k1
          go_wp2_with fail
          refine (byte_is (s1 := shiftS a s1) v w5 (I3.out.kept K1.out (fun k e => e ▸ hSc) hcd) G2.out (by rw [shift_byte, HR.out])).mono ?_
          rintro e w6 ⟨rfl, j2, k2⟩
          have BB := Lib.hid (both_step hcd hSc hSd KP.out gg.out gg2.out gh.out J1.out K1.out j2 k2)
          clear j2 k2
          go_wp2_with fail
          go_meet
          exact ⟨by simp, BB.out⟩
        have d0' : (x == 0) = false := by simpa using d0
        by_cases d1 : x = 1
        · subst d1
          obtain ⟨⟨v, s1⟩, hr⟩ : ∃ r, numS y s = r := ⟨_, rfl⟩
          have gg := Lib.hid (show Good s1 from by have h := G1.out.num y; rw [hr] at h; exact h)
          have gg2 := Lib.hid (show Good (shiftS a s1) from by have h := G2.out.num y; rw [shift_num, hr] at h; exact h)
          have gh := Lib.hid (show Held s1 from by have h := Held.num G1.out HH.out y; rw [hr] at h; exact h)
          have HR := Lib.hid hr
          clear hr
          go_wp2_with fail
          refine wp_region_R ((Kept S)) (n := 16) rfl (by kernel_rfl) ?_
          intro W0 hW0e hW0
          have hcy : ∀ wg, Kept S W0 wg → wg.cell? ⟨b, off + k * 2 + 1, none⟩ = some (.int .i64 y) := fun wg hg => HCY.out wg ((Kept.of_grow hW0).trans hg)
          have HW0 := Lib.hid hW0
          clear hW0e
          refine wpR_take (keptOrd S) (i := 0) (v := ?vf1) rfl (by kernel_rfl) (by kernel_rfl) (by kernel_rfl) (fun _ _ _ h => h) (by rfl) ?hf1 ?rf1
          case hf1 => (intro wg hSw; go_simp <;> with_reducible rfl)
          simp only [Act.put, List.setIfInBounds_toArray, List.set_cons_zero, List.set_cons_succ]
          refine wpR_take (keptOrd S) (i := 1) (v := ?vf2) rfl (by kernel_rfl) (by kernel_rfl) (by kernel_rfl) (fun _ _ _ h => h) (by rfl) ?hf2 ?rf2
          case hf2 => (intro wg hSw; go_simp <;> with_reducible rfl)
          simp only [Act.put, List.setIfInBounds_toArray, List.set_cons_zero, List.set_cons_succ]
          refine wpR_take (keptOrd S) (i := 2) (v := ?vf3) rfl (by kernel_rfl) (by kernel_rfl) (by kernel_rfl) (fun _ _ _ h => h) (by rfl) ?hf3 ?rf3
          case hf3 => (intro wg hSw; go_simp <;> with_reducible rfl)
          simp only [Act.put, List.setIfInBounds_toArray, List.set_cons_zero, List.set_cons_succ]
          refine wpR_take (keptOrd S) (i := 3) (v := ?vf4) rfl (by kernel_rfl) (by kernel_rfl) (by kernel_rfl) (fun _ _ _ h => h) (by rfl) ?hf4 ?rf4
          case hf4 => (intro wg hSw; go_simp <;> with_reducible rfl)
          simp only [Act.put, List.setIfInBounds_toArray, List.set_cons_zero, List.set_cons_succ]
          refine wpR_take (keptOrd S) (i := 4) (v := ?vf5) rfl (by kernel_rfl) (by kernel_rfl) (by kernel_rfl) (fun _ _ _ h => h) (by rfl) ?hf5 ?rf5
          case hf5 => (intro wg hSw; go_simp <;> with_reducible rfl)
          simp only [Act.put, List.setIfInBounds_toArray, List.set_cons_zero, List.set_cons_succ]
          refine wpR_take (keptOrd S) (i := 5) (v := ?vf6) rfl (by kernel_rfl) (by kernel_rfl) (by kernel_rfl) (fun _ _ _ h => h) (by rfl) ?hf6 ?rf6
          case hf6 => (intro wg hSw; go_simp <;> with_reducible rfl)
          simp only [Act.put, List.setIfInBounds_toArray, List.set_cons_zero, List.set_cons_succ]
          refine wpR_take (keptOrd S) (i := 7) (v := ?vf7) rfl (by kernel_rfl) (by kernel_rfl) (by kernel_rfl) (fun _ _ _ h => h) (by rfl) ?hf7 ?rf7
          case hf7 => (intro wg hSw; go_simp <;> with_reducible rfl)
          simp only [Act.put, List.setIfInBounds_toArray, List.set_cons_zero, List.set_cons_succ]
          refine wpR_take (keptOrd S) (i := 8) (v := ?vf8) rfl (by kernel_rfl) (by kernel_rfl) (by kernel_rfl) (fun _ _ _ h => h) (by rfl) ?hf8 ?rf8
          case hf8 => (intro wg hSw; go_simp <;> with_reducible rfl)
          simp only [Act.put, List.setIfInBounds_toArray, List.set_cons_zero, List.set_cons_succ]
          refine wpR_take (keptOrd S) (i := 9) (v := ?vf9) rfl (by kernel_rfl) (by kernel_rfl) (by kernel_rfl) (fun _ _ _ h => h) (by rfl) ?hf9 ?rf9
          case hf9 => (intro wg hSw; go_simp <;> with_reducible rfl)
          simp only [Act.put, List.setIfInBounds_toArray, List.set_cons_zero, List.set_cons_succ]
          refine wpR_take (keptOrd S) (i := 10) (v := ?vf10) rfl (by kernel_rfl) (by kernel_rfl) (by kernel_rfl) (fun _ _ _ h => h) (by rfl) ?hf10 ?rf10
          case hf10 => (intro wg hSw; go_simp <;> with_reducible rfl)
          simp only [Act.put, List.setIfInBounds_toArray, List.set_cons_zero, List.set_cons_succ]
          refine wpR_take (keptOrd S) (i := 11) (v := ?vf11) rfl (by kernel_rfl) (by kernel_rfl) (by kernel_rfl) (fun _ _ _ h => h) (by rfl) ?hf11 ?rf11
          case hf11 => (intro wg hSw; go_simp <;> with_reducible rfl)
          simp only [Act.put, List.setIfInBounds_toArray, List.set_cons_zero, List.set_cons_succ]
          refine wpR_take (keptOrd S) (i := 12) (v := ?vf12) rfl (by kernel_rfl) (by kernel_rfl) (by kernel_rfl) (fun _ _ _ h => h) (by rfl) ?hf12 ?rf12
          case hf12 => (intro wg hSw; go_simp <;> with_reducible rfl)
          simp only [Act.put, List.setIfInBounds_toArray, List.set_cons_zero, List.set_cons_succ]
          refine wpR_one (i := 6) (by kernel_rfl) ?_
          refine wpR_op (i := 6) rfl (by rfl) (fun K hK => ?_)
          go_simp
          refine (num_is y v _ (I1.out.grow HW0.out) G1.out hI.2 HR.out).mono ?_
          rintro e wM6 ⟨rfl, j1, k1⟩
          have hM6 : Kept S W0 wM6 := k1.mono (fun k e => e ▸ hSc)
          refine hK.out _ _ hM6 ?_
          clear hK K
          try simp only [Act.put, List.setIfInBounds_toArray, List.set_cons_zero, List.set_cons_succ]
          refine wpR_one (i := 13) (by kernel_rfl) ?_
          refine wpR_op (i := 13) rfl (by rfl) (fun K hK => ?_)
          go_simp
          refine (num_is (s1 := shiftS a s1) y v _ ((I3.out.grow HW0.out).kept k1 (fun k e => e ▸ hSc) hcd) G2.out hI.2 (by rw [shift_num, HR.out])).mono ?_
          rintro e wM13 ⟨rfl, j2, k2⟩
          have hM13 : Kept S wM6 wM13 := k2.mono (fun k e => e ▸ hSd)
          refine hK.out _ _ hM13 ?_
          clear hK K
          try simp only [Act.put, List.setIfInBounds_toArray, List.set_cons_zero, List.set_cons_succ]
          refine wpR_take (keptOrd S) (i := 14) (v := ?vf13) rfl (by kernel_rfl) (by kernel_rfl) (by kernel_rfl) (fun _ _ _ h => h) (by rfl) ?hf13 ?rf13
          case hf13 => (intro wg hSw; go_simp <;> with_reducible rfl)
          simp only [Act.put, List.setIfInBounds_toArray, List.set_cons_zero, List.set_cons_succ]
          refine wpR_take (keptOrd S) (i := 15) (v := ?vf14) rfl (by kernel_rfl) (by kernel_rfl) (by kernel_rfl) (fun _ _ _ h => h) (by rfl) ?hf14 ?rf14
          case hf14 => (intro wg hSw; go_simp <;> with_reducible rfl)
          simp only [Act.put, List.setIfInBounds_toArray, List.set_cons_zero, List.set_cons_succ]
          refine wpR_done (by kernel_rfl) ?_
          have BB := Lib.hid (both_step hcd hSc hSd (KP.out.trans (Kept.of_grow HW0.out)) gg.out gg2.out gh.out j1 k1 j2 k2)
          clear hcy j1 k1 j2 k2 hM6 hM13
          go_wp2_with fail
          go_meet
          exact ⟨by simp, BB.out⟩
        have d1' : (x == 1) = false := by simpa using d1
        by_cases d2 : x = 2
        · subst d2
          obtain ⟨⟨v, s1⟩, hr⟩ : ∃ r, intS s = r := ⟨_, rfl⟩
          have gg := Lib.hid (show Good s1 from by have h := G1.out.int; rw [hr] at h; exact h)
          have gg2 := Lib.hid (show Good (shiftS a s1) from by have h := G2.out.int; rw [shift_int, hr] at h; exact h)
          have gh := Lib.hid (show Held s1 from by have h := Held.int G1.out HH.out; rw [hr] at h; exact h)
          have HR := Lib.hid hr
          clear hr
          go_wp2_with fail
          refine (int_is v wr I1.out G1.out HR.out).mono ?_
          rintro e w5 ⟨rfl, j1, k1⟩
          have J1 := Lib.hid j1
          have K1 := Lib.hid k1
          clear j1 k1
          go_wp2_with fail
          refine (int_is (s1 := shiftS a s1) v w5 (I3.out.kept K1.out (fun k e => e ▸ hSc) hcd) G2.out (by rw [shift_int, HR.out])).mono ?_
          rintro e w6 ⟨rfl, j2, k2⟩
          have BB := Lib.hid (both_step hcd hSc hSd KP.out gg.out gg2.out gh.out J1.out K1.out j2 k2)
          clear j2 k2
          go_wp2_with fail
          go_meet
          exact ⟨by simp, BB.out⟩
        have d2' : (x == 2) = false := by simpa using d2
        by_cases d3 : x = 3
        · subst d3
          obtain ⟨⟨xs, s1⟩, hr⟩ : ∃ r, takeS y s = r := ⟨_, rfl⟩
          have gg := Lib.hid (show Good s1 from by have h := G1.out.take y; rw [hr] at h; exact h)
          have gg2 := Lib.hid (show Good (shiftS a s1) from by have h := G2.out.take y; rw [shift_take, hr] at h; exact h)
          have gh := Lib.hid (show Held s1 from by have h := Held.take G1.out HH.out y; rw [hr] at h; exact h)
          have HR := Lib.hid hr
          obtain ⟨N, hN⟩ : ∃ N, xs.length = N := ⟨_, rfl⟩
          obtain ⟨st, hst⟩ : ∃ st, strOfNums xs = st := ⟨_, rfl⟩
          have HN := Lib.hid hN
          have HST := Lib.hid hst
          clear hr hN hst
          go_wp2_with fail
          refine wp_region_R ((Kept S)) (n := 18) rfl (by kernel_rfl) ?_
          intro W0 hW0e hW0
          have hcy : ∀ wg, Kept S W0 wg → wg.cell? ⟨b, off + k * 2 + 1, none⟩ = some (.int .i64 y) := fun wg hg => HCY.out wg ((Kept.of_grow hW0).trans hg)
          have HW0 := Lib.hid hW0
          have hSW : ∀ k, S k → k < W0.heap.size := HSX.out W0 (Nat.le_trans KP.out.size HW0.out.size)
          clear hW0e
          refine wpR_take (keptOrd S) (i := 0) (v := ?vf15) rfl (by kernel_rfl) (by kernel_rfl) (by kernel_rfl) (fun _ _ _ h => h) (by rfl) ?hf15 ?rf15
          case hf15 => (intro wg hSw; go_simp <;> with_reducible rfl)
          simp only [Act.put, List.setIfInBounds_toArray, List.set_cons_zero, List.set_cons_succ]
          refine wpR_take (keptOrd S) (i := 1) (v := ?vf16) rfl (by kernel_rfl) (by kernel_rfl) (by kernel_rfl) (fun _ _ _ h => h) (by rfl) ?hf16 ?rf16
          case hf16 => (intro wg hSw; go_simp <;> with_reducible rfl)
          simp only [Act.put, List.setIfInBounds_toArray, List.set_cons_zero, List.set_cons_succ]
          refine wpR_take (keptOrd S) (i := 2) (v := ?vf17) rfl (by kernel_rfl) (by kernel_rfl) (by kernel_rfl) (fun _ _ _ h => h) (by rfl) ?hf17 ?rf17
          case hf17 => (intro wg hSw; go_simp <;> with_reducible rfl)
          simp only [Act.put, List.setIfInBounds_toArray, List.set_cons_zero, List.set_cons_succ]
          refine wpR_take (keptOrd S) (i := 3) (v := ?vf18) rfl (by kernel_rfl) (by kernel_rfl) (by kernel_rfl) (fun _ _ _ h => h) (by rfl) ?hf18 ?rf18
          case hf18 => (intro wg hSw; go_simp <;> with_reducible rfl)
          simp only [Act.put, List.setIfInBounds_toArray, List.set_cons_zero, List.set_cons_succ]
          refine wpR_take (keptOrd S) (i := 4) (v := ?vf19) rfl (by kernel_rfl) (by kernel_rfl) (by kernel_rfl) (fun _ _ _ h => h) (by rfl) ?hf19 ?rf19
          case hf19 => (intro wg hSw; go_simp <;> with_reducible rfl)
          simp only [Act.put, List.setIfInBounds_toArray, List.set_cons_zero, List.set_cons_succ]
          refine wpR_take (keptOrd S) (i := 5) (v := ?vf20) rfl (by kernel_rfl) (by kernel_rfl) (by kernel_rfl) (fun _ _ _ h => h) (by rfl) ?hf20 ?rf20
          case hf20 => (intro wg hSw; go_simp <;> with_reducible rfl)
          simp only [Act.put, List.setIfInBounds_toArray, List.set_cons_zero, List.set_cons_succ]
          refine wpR_take (keptOrd S) (i := 8) (v := ?vf21) rfl (by kernel_rfl) (by kernel_rfl) (by kernel_rfl) (fun _ _ _ h => h) (by rfl) ?hf21 ?rf21
          case hf21 => (intro wg hSw; go_simp <;> with_reducible rfl)
          simp only [Act.put, List.setIfInBounds_toArray, List.set_cons_zero, List.set_cons_succ]
          refine wpR_take (keptOrd S) (i := 9) (v := ?vf22) rfl (by kernel_rfl) (by kernel_rfl) (by kernel_rfl) (fun _ _ _ h => h) (by rfl) ?hf22 ?rf22
          case hf22 => (intro wg hSw; go_simp <;> with_reducible rfl)
          simp only [Act.put, List.setIfInBounds_toArray, List.set_cons_zero, List.set_cons_succ]
          refine wpR_take (keptOrd S) (i := 10) (v := ?vf23) rfl (by kernel_rfl) (by kernel_rfl) (by kernel_rfl) (fun _ _ _ h => h) (by rfl) ?hf23 ?rf23
          case hf23 => (intro wg hSw; go_simp <;> with_reducible rfl)
          simp only [Act.put, List.setIfInBounds_toArray, List.set_cons_zero, List.set_cons_succ]
          refine wpR_take (keptOrd S) (i := 11) (v := ?vf24) rfl (by kernel_rfl) (by kernel_rfl) (by kernel_rfl) (fun _ _ _ h => h) (by rfl) ?hf24 ?rf24
          case hf24 => (intro wg hSw; go_simp <;> with_reducible rfl)
          simp only [Act.put, List.setIfInBounds_toArray, List.set_cons_zero, List.set_cons_succ]
          refine wpR_take (keptOrd S) (i := 12) (v := ?vf25) rfl (by kernel_rfl) (by kernel_rfl) (by kernel_rfl) (fun _ _ _ h => h) (by rfl) ?hf25 ?rf25
          case hf25 => (intro wg hSw; go_simp <;> with_reducible rfl)
          simp only [Act.put, List.setIfInBounds_toArray, List.set_cons_zero, List.set_cons_succ]
          refine wpR_take (keptOrd S) (i := 13) (v := ?vf26) rfl (by kernel_rfl) (by kernel_rfl) (by kernel_rfl) (fun _ _ _ h => h) (by rfl) ?hf26 ?rf26
          case hf26 => (intro wg hSw; go_simp <;> with_reducible rfl)
          simp only [Act.put, List.setIfInBounds_toArray, List.set_cons_zero, List.set_cons_succ]
          refine wpR_one (i := 6) (by kernel_rfl) ?_
          refine wpR_op (i := 6) rfl (by rfl) (fun K hK => ?_)
          go_simp
          refine (taken_is y xs N _ (I1.out.grow HW0.out) G1.out HR.out HN.out).mono ?_
          rintro e wM6 ⟨A6, c6, ⟨rfl, j1, k1⟩, n6, o6⟩
          have hM6 : Kept S W0 wM6 := k1.mono (fun k e => e ▸ hSc)
          have hs6 : ∀ wg, Kept S wM6 wg → (convert 22 9 (.slice A6 N c6)).run Try.prog wg = .ok (.string st) wg := fun wg hg => by rw [← HST.out]; exact conv_kept n6 o6 hSW hg HN.out
          refine hK.out _ _ hM6 ?_
          clear hK K
          try simp only [Act.put, List.setIfInBounds_toArray, List.set_cons_zero, List.set_cons_succ]
          refine wpR_take (keptOrd S) (i := 7) (v := ?vf27) rfl (by kernel_rfl) (by kernel_rfl) (by kernel_rfl) (fun _ _ _ h => h) (by rfl) ?hf27 ?rf27
          case hf27 => (intro wg hSw; go_simp <;> with_reducible rfl)
          simp only [Act.put, List.setIfInBounds_toArray, List.set_cons_zero, List.set_cons_succ]
          refine wpR_one (i := 14) (by kernel_rfl) ?_
          refine wpR_op (i := 14) rfl (by rfl) (fun K hK => ?_)
          go_simp
          refine (taken_is (s1 := shiftS a s1) y xs N _ ((I3.out.grow HW0.out).kept k1 (fun k e => e ▸ hSc) hcd) G2.out (by rw [shift_take, HR.out]) HN.out).mono ?_
          rintro e wM14 ⟨A14, c14, ⟨rfl, j2, k2⟩, n14, o14⟩
          have hM14 : Kept S wM6 wM14 := k2.mono (fun k e => e ▸ hSd)
          have hs14 : ∀ wg, Kept S wM14 wg → (convert 22 9 (.slice A14 N c14)).run Try.prog wg = .ok (.string st) wg := fun wg hg => by rw [← HST.out]; exact conv_kept n14 o14 (fun k h => Nat.lt_of_lt_of_le (hSW k h) hM6.size) hg HN.out
          refine hK.out _ _ hM14 ?_
          clear hK K
          try simp only [Act.put, List.setIfInBounds_toArray, List.set_cons_zero, List.set_cons_succ]
          refine wpR_take (keptOrd S) (i := 15) (v := ?vf28) rfl (by kernel_rfl) (by kernel_rfl) (by kernel_rfl) (fun _ _ _ h => h) (by rfl) ?hf28 ?rf28
          case hf28 => (intro wg hSw; go_simp <;> with_reducible rfl)
          simp only [Act.put, List.setIfInBounds_toArray, List.set_cons_zero, List.set_cons_succ]
          refine wpR_take (keptOrd S) (i := 16) (v := ?vf29) rfl (by kernel_rfl) (by kernel_rfl) (by kernel_rfl) (fun _ _ _ h => h) (by rfl) ?hf29 ?rf29
          case hf29 => (intro wg hSw; go_simp <;> with_reducible rfl)
          simp only [Act.put, List.setIfInBounds_toArray, List.set_cons_zero, List.set_cons_succ]
          refine wpR_take (keptOrd S) (i := 17) (v := ?vf30) rfl (by kernel_rfl) (by kernel_rfl) (by kernel_rfl) (fun _ _ _ h => h) (by rfl) ?hf30 ?rf30
          case hf30 => (intro wg hSw; go_simp <;> with_reducible rfl)
          simp only [Act.put, List.setIfInBounds_toArray, List.set_cons_zero, List.set_cons_succ]
          refine wpR_done (by kernel_rfl) ?_
          have BB := Lib.hid (both_step hcd hSc hSd (KP.out.trans (Kept.of_grow HW0.out)) gg.out gg2.out gh.out j1 k1 j2 k2)
          clear hcy j1 k1 j2 k2 hM6 hM14 hs6 hs14 n6 o6 n14 o14 hSW
          go_wp2_with fail
          go_meet
          exact ⟨by simp, BB.out⟩
        have d3' : (x == 3) = false := by simpa using d3
        go_wp2_with fail
        go_meet
        exact ⟨rfl, s, I1.out, I3.out, G1.out, G2.out, HH.out, KP.out⟩
      case rest =>
        obtain ⟨rfl, u, j1, j2, g1, g2, hu, kp⟩ := hcut
        have IU1 := Lib.hid j1
        have IU2 := Lib.hid j2
        have GU1 := Lib.hid g1
        have GU2 := Lib.hid g2
        have HU := Lib.hid hu
        have KU := Lib.hid kp
        obtain ⟨n1, hn1⟩ : ∃ n1, u.bs.length = n1 := ⟨_, rfl⟩
        have HN1 := Lib.hid hn1
        have hpl := g1.pl
        have hp0 := g1.p0
        have hwr : IntKind.i64.wrap (u.p + a) = u.p + a := by rw [IntKind.wrap_i64]; omega
        obtain ⟨Q, hQ⟩ : ∃ Q, u.q = Q := ⟨_, rfl⟩
        have hQb : u.e ≠ 0 → 0 ≤ Q ∧ Q ≤ 2199023255552 := fun h => by have := hu h; omega
        have HQ := Lib.hid hQ
        clear j1 j2 g1 g2 hu kp hn1 hQ I1 I3 G1 G2 HH KP HCY HC1 hc0 hpl
        by_cases he : u.e = 0
        · have HE := Lib.hid he
          clear he hQb
          go_wp2_with fail
          refine (fault_1 wc IU1.out 0 Q HE.out HQ.out).mono ?_
          rintro e w7 ⟨rfl, hb7⟩
          have HB7 := Lib.hid hb7
          clear hb7
          go_wp2_with fail
          generalize hw8 : w7.alloc _ = w8
          obtain ⟨bf, hbf⟩ : ∃ bf, w7.heap.size = bf := ⟨_, rfl⟩
          have hb8 : Grow w7 w8 := by rw [← hw8]; exact grow_new _ _
          have hf8 : w8.heap[bf]? = some (.cells #[.int .i64 0, .int .i64 0, .int .i64 Q] 40 (0, 0)) := by rw [← hw8, ← hbf]; exact heap_alloc_new w7 _
          have hfl8 : bf < w8.heap.size := by rw [← hw8, ← hbf]; simp
          have hfc : wc.heap.size ≤ bf := by rw [← hbf]; exact HB7.out.size
          have HB8 := Lib.hid (HB7.out.trans hb8)
          rw [hbf]
          clear hw8 hbf hb8
          refine (fault_1 w8 (IU2.out.grow HB8.out) 0 Q HE.out (by show (if u.e = 0 then u.q else u.q + a) = Q; rw [if_pos HE.out]; exact HQ.out)).mono ?_
          rintro e w9 ⟨rfl, hb9⟩
          have hf9 := (hb9.block bf hfl8).trans hf8
          have hfl9 : bf < w9.heap.size := Nat.lt_of_lt_of_le hfl8 hb9.size
          obtain ⟨hf0, hf1, hf2⟩ := fault_cells hf9
          have hz0 := frozen5 hf9
          have hz2 := hz0 2
          have HF9 := Lib.hid hf9
          have HB9 := Lib.hid (HB8.out.trans hb9)
          clear hf8 hf9 hz0
          go_wp2_with fail
          generalize hwx : World.alloc w9 _ = WX
          obtain ⟨bg, hbg⟩ : ∃ bg, w9.heap.size = bg := ⟨_, rfl⟩
          have hgx : WX.heap[bg]? = some (.cells #[.int .i64 0, .int .i64 0, .int .i64 Q] 40 (0, 0)) := by rw [← hwx, ← hbg]; exact heap_alloc_new w9 _
          have hgw : Grow w9 WX := by rw [← hwx]; exact grow_new _ _
          have hfx := (hgw.block bf hfl9).trans HF9.out
          have hblf : bf < WX.heap.size := Nat.lt_of_lt_of_le hfl9 hgw.size
          have hblg : bg < WX.heap.size := (Array.getElem?_eq_some_iff.1 hgx).1
          have HGX := Lib.hid (HB9.out.trans hgw)
          rw [hbg]
          clear hbg hgw
          have hq : ∀ wg, Grow WX.drew wg → wg.cell? ⟨bf, 0, none⟩ = some (.int .i64 0) ∧ wg.cell? ⟨bf, 1, none⟩ = some (.int .i64 0) ∧ wg.cell? ⟨bf, 2, none⟩ = some (.int .i64 Q) := fun wg hg => fault_cells ((hg.block bf hblf).trans hfx)
          have hr : ∀ wg, Grow WX.drew wg → wg.cell? ⟨bg, 0, none⟩ = some (.int .i64 0) ∧ wg.cell? ⟨bg, 1, none⟩ = some (.int .i64 0) ∧ wg.cell? ⟨bg, 2, none⟩ = some (.int .i64 Q) := fun wg hg => fault_cells ((hg.block bg hblg).trans hgx)
          have hq0 := fun wg hg => (hq wg hg).1
          have hq1 := fun wg hg => (hq wg hg).2.1
          have hq2 := fun wg hg => (hq wg hg).2.2
          have hr0 := fun wg hg => (hr wg hg).1
          have hr1 := fun wg hg => (hr wg hg).2.1
          have hr2 := fun wg hg => (hr wg hg).2.2
          clear hq hr hfx hgx hwx hb9 hf0 hf1 hf2
          have J1 := Lib.hid (IU1.out.grow HGX.out)
          have J2 := Lib.hid (IU2.out.grow HGX.out)
          refine wp_region_grow (n := 31) rfl (by kernel_rfl) ?_
          refine wpAnyG_take (i := 0) (v := ?v31) rfl (by kernel_rfl) (by kernel_rfl) (by kernel_rfl) (fun _ _ _ h => h) (by rfl) ?h31 ?r31
          case h31 => (intro wg hSw; go_simp <;> with_reducible rfl)
          simp only [Act.put, List.setIfInBounds_toArray, List.set_cons_zero, List.set_cons_succ]
          refine wpAnyG_take (i := 1) (v := ?v32) rfl (by kernel_rfl) (by kernel_rfl) (by kernel_rfl) (fun _ _ _ h => h) (by rfl) ?h32 ?r32
          case h32 => (intro wg hSw; go_simp <;> with_reducible rfl)
          simp only [Act.put, List.setIfInBounds_toArray, List.set_cons_zero, List.set_cons_succ]
          refine wpAnyG_take (i := 2) (v := ?v33) rfl (by kernel_rfl) (by kernel_rfl) (by kernel_rfl) (fun _ _ _ h => h) (by rfl) ?h33 ?r33
          case h33 => (intro wg hSw; go_simp <;> with_reducible rfl)
          simp only [Act.put, List.setIfInBounds_toArray, List.set_cons_zero, List.set_cons_succ]
          refine wpAnyG_take (i := 3) (v := ?v34) rfl (by kernel_rfl) (by kernel_rfl) (by kernel_rfl) (fun _ _ _ h => h) (by rfl) ?h34 ?r34
          case h34 => (intro wg hSw; go_simp <;> with_reducible rfl)
          simp only [Act.put, List.setIfInBounds_toArray, List.set_cons_zero, List.set_cons_succ]
          refine wpAnyG_take (i := 4) (v := ?v35) rfl (by kernel_rfl) (by kernel_rfl) (by kernel_rfl) (fun _ _ _ h => h) (by rfl) ?h35 ?r35
          case h35 => (intro wg hSw; go_simp <;> with_reducible rfl)
          simp only [Act.put, List.setIfInBounds_toArray, List.set_cons_zero, List.set_cons_succ]
          refine wpAnyG_take (i := 5) (v := ?v36) rfl (by kernel_rfl) (by kernel_rfl) (by kernel_rfl) (fun _ _ _ h => h) (by rfl) ?h36 ?r36
          case h36 => (intro wg hSw; go_simp <;> with_reducible rfl)
          simp only [Act.put, List.setIfInBounds_toArray, List.set_cons_zero, List.set_cons_succ]
          refine wpAnyG_take (i := 6) (v := ?v37) rfl (by kernel_rfl) (by kernel_rfl) (by kernel_rfl) (fun _ _ _ h => h) (by rfl) ?h37 ?r37
          case h37 => (intro wg hSw; go_simp <;> with_reducible rfl)
          simp only [Act.put, List.setIfInBounds_toArray, List.set_cons_zero, List.set_cons_succ]
          refine wpAnyG_take (i := 7) (v := ?v38) rfl (by kernel_rfl) (by kernel_rfl) (by kernel_rfl) (fun _ _ _ h => h) (by rfl) ?h38 ?r38
          case h38 => (intro wg hSw; go_simp <;> with_reducible rfl)
          simp only [Act.put, List.setIfInBounds_toArray, List.set_cons_zero, List.set_cons_succ]
          refine wpAnyG_take (i := 8) (v := ?v39) rfl (by kernel_rfl) (by kernel_rfl) (by kernel_rfl) (fun _ _ _ h => h) (by rfl) ?h39 ?r39
          case h39 => (intro wg hSw; go_simp <;> with_reducible rfl)
          simp only [Act.put, List.setIfInBounds_toArray, List.set_cons_zero, List.set_cons_succ]
          refine wpAnyG_take (i := 9) (v := ?v40) rfl (by kernel_rfl) (by kernel_rfl) (by kernel_rfl) (fun _ _ _ h => h) (by rfl) ?h40 ?r40
          case h40 => (intro wg hSw; go_simp <;> with_reducible rfl)
          simp only [Act.put, List.setIfInBounds_toArray, List.set_cons_zero, List.set_cons_succ]
          refine wpAnyG_take (i := 10) (v := ?v41) rfl (by kernel_rfl) (by kernel_rfl) (by kernel_rfl) (fun _ _ _ h => h) (by rfl) ?h41 ?r41
          case h41 => (intro wg hSw; go_simp <;> with_reducible rfl)
          simp only [Act.put, List.setIfInBounds_toArray, List.set_cons_zero, List.set_cons_succ]
          refine wpAnyG_take (i := 12) (v := ?v42) rfl (by kernel_rfl) (by kernel_rfl) (by kernel_rfl) (fun _ _ _ h => h) (by rfl) ?h42 ?r42
          case h42 => (intro wg hSw; go_simp <;> with_reducible rfl)
          simp only [Act.put, List.setIfInBounds_toArray, List.set_cons_zero, List.set_cons_succ]
          refine wpAnyG_take (i := 13) (v := ?v43) rfl (by kernel_rfl) (by kernel_rfl) (by kernel_rfl) (fun _ _ _ h => h) (by rfl) ?h43 ?r43
          case h43 => (intro wg hSw; go_simp <;> with_reducible rfl)
          simp only [Act.put, List.setIfInBounds_toArray, List.set_cons_zero, List.set_cons_succ]
          refine wpAnyG_take (i := 14) (v := ?v44) rfl (by kernel_rfl) (by kernel_rfl) (by kernel_rfl) (fun _ _ _ h => h) (by rfl) ?h44 ?r44
          case h44 => (intro wg hSw; go_simp <;> with_reducible rfl)
          simp only [Act.put, List.setIfInBounds_toArray, List.set_cons_zero, List.set_cons_succ]
          refine wpAnyG_one (i := 11) rfl (by kernel_rfl) (by rfl) (fun K hK => ?_)
          go_simp
          refine (left_1 _ (J1.out.grow (Grow.refl _).drew) n1 HN1.out).mono ?_
          rintro e w' ⟨rfl, rfl⟩
          refine hK.out _ _ (Grow.refl _) ?_
          clear hK K
          try simp only [Act.put, List.setIfInBounds_toArray, List.set_cons_zero, List.set_cons_succ]
          refine wpAnyG_one (i := 15) rfl (by kernel_rfl) (by rfl) (fun K hK => ?_)
          go_simp
          refine (left_1 _ (J2.out.grow (Grow.refl _).drew) n1 HN1.out).mono ?_
          rintro e w' ⟨rfl, rfl⟩
          refine hK.out _ _ (Grow.refl _) ?_
          clear hK K
          try simp only [Act.put, List.setIfInBounds_toArray, List.set_cons_zero, List.set_cons_succ]
          refine wpAnyG_take (i := 16) (v := ?v45) rfl (by kernel_rfl) (by kernel_rfl) (by kernel_rfl) (fun _ _ _ h => h) (by rfl) ?h45 ?r45
          case h45 => (intro wg hSw; go_simp <;> with_reducible rfl)
          simp only [Act.put, List.setIfInBounds_toArray, List.set_cons_zero, List.set_cons_succ]
          refine wpAnyG_take (i := 17) (v := ?v46) rfl (by kernel_rfl) (by kernel_rfl) (by kernel_rfl) (fun _ _ _ h => h) (by rfl) ?h46 ?r46
          case h46 => (intro wg hSw; go_simp <;> with_reducible rfl)
          simp only [Act.put, List.setIfInBounds_toArray, List.set_cons_zero, List.set_cons_succ]
          refine wpAnyG_take (i := 18) (v := ?v47) rfl (by kernel_rfl) (by kernel_rfl) (by kernel_rfl) (fun _ _ _ h => h) (by rfl) ?h47 ?r47
          case h47 => (intro wg hSw; go_simp <;> with_reducible rfl)
          simp only [Act.put, List.setIfInBounds_toArray, List.set_cons_zero, List.set_cons_succ]
          refine wpAnyG_take (i := 19) (v := ?v48) rfl (by kernel_rfl) (by kernel_rfl) (by kernel_rfl) (fun _ _ _ h => h) (by rfl) ?h48 ?r48
          case h48 => (intro wg hSw; go_simp <;> with_reducible rfl)
          simp only [Act.put, List.setIfInBounds_toArray, List.set_cons_zero, List.set_cons_succ]
          refine wpAnyG_take (i := 20) (v := ?v49) rfl (by kernel_rfl) (by kernel_rfl) (by kernel_rfl) (fun _ _ _ h => h) (by rfl) ?h49 ?r49
          case h49 => (intro wg hSw; go_simp <;> with_reducible rfl)
          simp only [Act.put, List.setIfInBounds_toArray, List.set_cons_zero, List.set_cons_succ]
          refine wpAnyG_take (i := 21) (v := ?v50) rfl (by kernel_rfl) (by kernel_rfl) (by kernel_rfl) (fun _ _ _ h => h) (by rfl) ?h50 ?r50
          case h50 => (intro wg hSw; go_simp <;> with_reducible rfl)
          simp only [Act.put, List.setIfInBounds_toArray, List.set_cons_zero, List.set_cons_succ]
          refine wpAnyG_take (i := 23) (v := ?v51) rfl (by kernel_rfl) (by kernel_rfl) (by kernel_rfl) (fun _ _ _ h => h) (by rfl) ?h51 ?r51
          case h51 => (intro wg hSw; go_simp <;> with_reducible rfl)
          simp only [Act.put, List.setIfInBounds_toArray, List.set_cons_zero, List.set_cons_succ]
          refine wpAnyG_take (i := 25) (v := ?v52) rfl (by kernel_rfl) (by kernel_rfl) (by kernel_rfl) (fun _ _ _ h => h) (by rfl) ?h52 ?r52
          case h52 => (intro wg hSw; go_simp <;> with_reducible rfl)
          simp only [Act.put, List.setIfInBounds_toArray, List.set_cons_zero, List.set_cons_succ]
          refine wpAnyG_take (i := 26) (v := ?v53) rfl (by kernel_rfl) (by kernel_rfl) (by kernel_rfl) (fun _ _ _ h => h) (by rfl) ?h53 ?r53
          case h53 => (intro wg hSw; go_simp <;> with_reducible rfl)
          simp only [Act.put, List.setIfInBounds_toArray, List.set_cons_zero, List.set_cons_succ]
          refine wpAnyG_take (i := 27) (v := ?v54) rfl (by kernel_rfl) (by kernel_rfl) (by kernel_rfl) (fun _ _ _ h => h) (by rfl) ?h54 ?r54
          case h54 => (intro wg hSw; go_simp <;> with_reducible rfl)
          simp only [Act.put, List.setIfInBounds_toArray, List.set_cons_zero, List.set_cons_succ]
          refine wpAnyG_one (i := 22) rfl (by kernel_rfl) (by rfl) (fun K hK => ?_)
          go_simp
          refine (at_1 _ (J1.out.grow (Grow.refl _).drew) u.p rfl).mono ?_
          rintro e w' ⟨rfl, rfl⟩
          refine hK.out _ _ (Grow.refl _) ?_
          clear hK K
          try simp only [Act.put, List.setIfInBounds_toArray, List.set_cons_zero, List.set_cons_succ]
          refine wpAnyG_take (i := 24) (v := ?v55) rfl (by kernel_rfl) (by kernel_rfl) (by kernel_rfl) (fun _ _ _ h => h) (by rfl) ?h55 ?r55
          case h55 => (intro wg hSw; go_simp <;> with_reducible rfl)
          simp only [Act.put, List.setIfInBounds_toArray, List.set_cons_zero, List.set_cons_succ]
          refine wpAnyG_one (i := 28) rfl (by kernel_rfl) (by rfl) (fun K hK => ?_)
          go_simp
          refine (at_1 _ (J2.out.grow (Grow.refl _).drew) (u.p + a) rfl).mono ?_
          rintro e w' ⟨rfl, rfl⟩
          refine hK.out _ _ (Grow.refl _) ?_
          clear hK K
          try simp only [Act.put, List.setIfInBounds_toArray, List.set_cons_zero, List.set_cons_succ]
          refine wpAnyG_take (i := 29) (v := ?v56) rfl (by kernel_rfl) (by kernel_rfl) (by kernel_rfl) (fun _ _ _ h => h) (by rfl) ?h56 ?r56
          case h56 => (intro wg hSw; go_simp <;> with_reducible rfl)
          simp only [Act.put, List.setIfInBounds_toArray, List.set_cons_zero, List.set_cons_succ]
          refine wpAnyG_take (i := 30) (v := ?v57) rfl (by kernel_rfl) (by kernel_rfl) (by kernel_rfl) (fun _ _ _ h => h) (by rfl) ?h57 ?r57
          case h57 => (intro wg hSw; go_simp <;> with_reducible rfl)
          simp only [Act.put, List.setIfInBounds_toArray, List.set_cons_zero, List.set_cons_succ]
          refine wpAnyG_done (by kernel_rfl) ?_
          clear hq0 hq1 hq2 hr0 hr1 hr2
          go_wp2_with fail
          go_roundg (m - (k + 1))
          case measure => omega
          case rel => exact ⟨k + 1, by omega, rfl, by go_num, u, J1.out.grow (Grow.refl _).drew, J2.out.grow (Grow.refl _).drew, GU1.out, GU2.out, HU.out, (KU.out.trans (Kept.of_grow HGX.out)).drew⟩
        · obtain ⟨E, hE⟩ : ∃ E, u.e = E := ⟨_, rfl⟩
          have HE := Lib.hid hE
          have hE1 : (E == 0) = false := by rw [← hE]; simpa using he
          have hE2 : (E != 0) = true := by rw [← hE]; simpa using he
          obtain ⟨hQ0, hQ1⟩ := hQb he
          clear hE hQb
          go_wp2_with fail
          refine (fault_1 wc IU1.out E Q HE.out HQ.out).mono ?_
          rintro e w7 ⟨rfl, hb7⟩
          have HB7 := Lib.hid hb7
          clear hb7
          go_wp2_with fail
          generalize hw8 : w7.alloc _ = w8
          obtain ⟨bf, hbf⟩ : ∃ bf, w7.heap.size = bf := ⟨_, rfl⟩
          have hb8 : Grow w7 w8 := by rw [← hw8]; exact grow_new _ _
          have hf8 : w8.heap[bf]? = some (.cells #[.int .i64 E, .int .i64 0, .int .i64 Q] 40 (0, 0)) := by rw [← hw8, ← hbf]; exact heap_alloc_new w7 _
          have hfl8 : bf < w8.heap.size := by rw [← hw8, ← hbf]; simp
          have hfc : wc.heap.size ≤ bf := by rw [← hbf]; exact HB7.out.size
          have HB8 := Lib.hid (HB7.out.trans hb8)
          rw [hbf]
          clear hw8 hbf hb8
          refine (fault_1 w8 (IU2.out.grow HB8.out) E (Q + a) HE.out (by show (if u.e = 0 then u.q else u.q + a) = Q + a; rw [if_neg he, HQ.out])).mono ?_
          rintro e w9 ⟨rfl, hb9⟩
          have hf9 := (hb9.block bf hfl8).trans hf8
          have hfl9 : bf < w9.heap.size := Nat.lt_of_lt_of_le hfl8 hb9.size
          obtain ⟨hf0, hf1, hf2⟩ := fault_cells hf9
          have hz0 := frozen5 hf9
          have hz2 := hz0 2
          have HF9 := Lib.hid hf9
          have HB9 := Lib.hid (HB8.out.trans hb9)
          clear hf8 hf9 hz0
          go_wp2_with fail
          generalize hwx : World.alloc _ _ = WX
          obtain ⟨bg, hbg⟩ : ∃ bg, w9.heap.size = bg := ⟨_, rfl⟩
          have hga : (w9.setCell ⟨bf, 2, none⟩ (.int .i64 (Q + a))).heap[bf]? = some (.cells #[.int .i64 E, .int .i64 0, .int .i64 (Q + a)] 40 (0, 0)) := heap_setCell_same _ bf 2 _ 40 _ HF9.out
          have hsz : (w9.setCell ⟨bf, 2, none⟩ (.int .i64 (Q + a))).heap.size = w9.heap.size := by simp [World.setCell]
          have hgx : WX.heap[bg]? = some (.cells #[.int .i64 E, .int .i64 0, .int .i64 (Q + a)] 40 (0, 0)) := by rw [← hwx, ← hbg, ← hsz]; exact heap_alloc_new _ _
          have hfx : WX.heap[bf]? = some (.cells #[.int .i64 E, .int .i64 0, .int .i64 (Q + a)] 40 (0, 0)) := by rw [← hwx]; exact (Below.heap_alloc _ _ bf (by rw [hsz]; exact hfl9)).trans hga
          have hgw : Kept (fun k => k = bf) w9 WX := by rw [← hwx]; exact ((Kept.refl _ w9).one _).alloc _
          have hblf : bf < WX.heap.size := Nat.lt_of_lt_of_le hfl9 hgw.size
          have hblg : bg < WX.heap.size := (Array.getElem?_eq_some_iff.1 hgx).1
          have HGX := Lib.hid (Kept.grow HB9.out hgw (fun i e => e ▸ hfc))
          rw [hbg]
          clear hbg hgw hga hsz
          have hq : ∀ wg, Grow WX.drew wg → wg.cell? ⟨bf, 0, none⟩ = some (.int .i64 E) ∧ wg.cell? ⟨bf, 1, none⟩ = some (.int .i64 0) ∧ wg.cell? ⟨bf, 2, none⟩ = some (.int .i64 (Q + a)) := fun wg hg => fault_cells ((hg.block bf hblf).trans hfx)
          have hr : ∀ wg, Grow WX.drew wg → wg.cell? ⟨bg, 0, none⟩ = some (.int .i64 E) ∧ wg.cell? ⟨bg, 1, none⟩ = some (.int .i64 0) ∧ wg.cell? ⟨bg, 2, none⟩ = some (.int .i64 (Q + a)) := fun wg hg => fault_cells ((hg.block bg hblg).trans hgx)
          have hq0 := fun wg hg => (hq wg hg).1
          have hq1 := fun wg hg => (hq wg hg).2.1
          have hq2 := fun wg hg => (hq wg hg).2.2
          have hr0 := fun wg hg => (hr wg hg).1
          have hr1 := fun wg hg => (hr wg hg).2.1
          have hr2 := fun wg hg => (hr wg hg).2.2
          clear hq hr hfx hgx hwx hb9 hf0 hf1 hf2
          have J1 := Lib.hid (IU1.out.grow HGX.out)
          have J2 := Lib.hid (IU2.out.grow HGX.out)
          refine wp_region_grow (n := 31) rfl (by kernel_rfl) ?_
          refine wpAnyG_take (i := 0) (v := ?v58) rfl (by kernel_rfl) (by kernel_rfl) (by kernel_rfl) (fun _ _ _ h => h) (by rfl) ?h58 ?r58
          case h58 => (intro wg hSw; go_simp <;> with_reducible rfl)
          simp only [Act.put, List.setIfInBounds_toArray, List.set_cons_zero, List.set_cons_succ]
          refine wpAnyG_take (i := 1) (v := ?v59) rfl (by kernel_rfl) (by kernel_rfl) (by kernel_rfl) (fun _ _ _ h => h) (by rfl) ?h59 ?r59
          case h59 => (intro wg hSw; go_simp <;> with_reducible rfl)
          simp only [Act.put, List.setIfInBounds_toArray, List.set_cons_zero, List.set_cons_succ]
          refine wpAnyG_take (i := 2) (v := ?v60) rfl (by kernel_rfl) (by kernel_rfl) (by kernel_rfl) (fun _ _ _ h => h) (by rfl) ?h60 ?r60
          case h60 => (intro wg hSw; go_simp <;> with_reducible rfl)
          simp only [Act.put, List.setIfInBounds_toArray, List.set_cons_zero, List.set_cons_succ]
          refine wpAnyG_take (i := 3) (v := ?v61) rfl (by kernel_rfl) (by kernel_rfl) (by kernel_rfl) (fun _ _ _ h => h) (by rfl) ?h61 ?r61
          case h61 => (intro wg hSw; go_simp <;> with_reducible rfl)
          simp only [Act.put, List.setIfInBounds_toArray, List.set_cons_zero, List.set_cons_succ]
          refine wpAnyG_take (i := 4) (v := ?v62) rfl (by kernel_rfl) (by kernel_rfl) (by kernel_rfl) (fun _ _ _ h => h) (by rfl) ?h62 ?r62
          case h62 => (intro wg hSw; go_simp <;> with_reducible rfl)
          simp only [Act.put, List.setIfInBounds_toArray, List.set_cons_zero, List.set_cons_succ]
          refine wpAnyG_take (i := 5) (v := ?v63) rfl (by kernel_rfl) (by kernel_rfl) (by kernel_rfl) (fun _ _ _ h => h) (by rfl) ?h63 ?r63
          case h63 => (intro wg hSw; go_simp <;> with_reducible rfl)
          simp only [Act.put, List.setIfInBounds_toArray, List.set_cons_zero, List.set_cons_succ]
          refine wpAnyG_take (i := 6) (v := ?v64) rfl (by kernel_rfl) (by kernel_rfl) (by kernel_rfl) (fun _ _ _ h => h) (by rfl) ?h64 ?r64
          case h64 => (intro wg hSw; go_simp <;> with_reducible rfl)
          simp only [Act.put, List.setIfInBounds_toArray, List.set_cons_zero, List.set_cons_succ]
          refine wpAnyG_take (i := 7) (v := ?v65) rfl (by kernel_rfl) (by kernel_rfl) (by kernel_rfl) (fun _ _ _ h => h) (by rfl) ?h65 ?r65
          case h65 => (intro wg hSw; go_simp <;> with_reducible rfl)
          simp only [Act.put, List.setIfInBounds_toArray, List.set_cons_zero, List.set_cons_succ]
          refine wpAnyG_take (i := 8) (v := ?v66) rfl (by kernel_rfl) (by kernel_rfl) (by kernel_rfl) (fun _ _ _ h => h) (by rfl) ?h66 ?r66
          case h66 => (intro wg hSw; go_simp <;> with_reducible rfl)
          simp only [Act.put, List.setIfInBounds_toArray, List.set_cons_zero, List.set_cons_succ]
          refine wpAnyG_take (i := 9) (v := ?v67) rfl (by kernel_rfl) (by kernel_rfl) (by kernel_rfl) (fun _ _ _ h => h) (by rfl) ?h67 ?r67
          case h67 => (intro wg hSw; go_simp <;> with_reducible rfl)
          simp only [Act.put, List.setIfInBounds_toArray, List.set_cons_zero, List.set_cons_succ]
          refine wpAnyG_take (i := 10) (v := ?v68) rfl (by kernel_rfl) (by kernel_rfl) (by kernel_rfl) (fun _ _ _ h => h) (by rfl) ?h68 ?r68
          case h68 => (intro wg hSw; go_simp <;> with_reducible rfl)
          simp only [Act.put, List.setIfInBounds_toArray, List.set_cons_zero, List.set_cons_succ]
          refine wpAnyG_take (i := 12) (v := ?v69) rfl (by kernel_rfl) (by kernel_rfl) (by kernel_rfl) (fun _ _ _ h => h) (by rfl) ?h69 ?r69
          case h69 => (intro wg hSw; go_simp <;> with_reducible rfl)
          simp only [Act.put, List.setIfInBounds_toArray, List.set_cons_zero, List.set_cons_succ]
          refine wpAnyG_take (i := 13) (v := ?v70) rfl (by kernel_rfl) (by kernel_rfl) (by kernel_rfl) (fun _ _ _ h => h) (by rfl) ?h70 ?r70
          case h70 => (intro wg hSw; go_simp <;> with_reducible rfl)
          simp only [Act.put, List.setIfInBounds_toArray, List.set_cons_zero, List.set_cons_succ]
          refine wpAnyG_take (i := 14) (v := ?v71) rfl (by kernel_rfl) (by kernel_rfl) (by kernel_rfl) (fun _ _ _ h => h) (by rfl) ?h71 ?r71
          case h71 => (intro wg hSw; go_simp <;> with_reducible rfl)
          simp only [Act.put, List.setIfInBounds_toArray, List.set_cons_zero, List.set_cons_succ]
          refine wpAnyG_one (i := 11) rfl (by kernel_rfl) (by rfl) (fun K hK => ?_)
          go_simp
          refine (left_1 _ (J1.out.grow (Grow.refl _).drew) n1 HN1.out).mono ?_
          rintro e w' ⟨rfl, rfl⟩
          refine hK.out _ _ (Grow.refl _) ?_
          clear hK K
          try simp only [Act.put, List.setIfInBounds_toArray, List.set_cons_zero, List.set_cons_succ]
          refine wpAnyG_one (i := 15) rfl (by kernel_rfl) (by rfl) (fun K hK => ?_)
          go_simp
          refine (left_1 _ (J2.out.grow (Grow.refl _).drew) n1 HN1.out).mono ?_
          rintro e w' ⟨rfl, rfl⟩
          refine hK.out _ _ (Grow.refl _) ?_
          clear hK K
          try simp only [Act.put, List.setIfInBounds_toArray, List.set_cons_zero, List.set_cons_succ]
          refine wpAnyG_take (i := 16) (v := ?v72) rfl (by kernel_rfl) (by kernel_rfl) (by kernel_rfl) (fun _ _ _ h => h) (by rfl) ?h72 ?r72
          case h72 => (intro wg hSw; go_simp <;> with_reducible rfl)
          simp only [Act.put, List.setIfInBounds_toArray, List.set_cons_zero, List.set_cons_succ]
          refine wpAnyG_take (i := 17) (v := ?v73) rfl (by kernel_rfl) (by kernel_rfl) (by kernel_rfl) (fun _ _ _ h => h) (by rfl) ?h73 ?r73
          case h73 => (intro wg hSw; go_simp <;> with_reducible rfl)
          simp only [Act.put, List.setIfInBounds_toArray, List.set_cons_zero, List.set_cons_succ]
          refine wpAnyG_take (i := 18) (v := ?v74) rfl (by kernel_rfl) (by kernel_rfl) (by kernel_rfl) (fun _ _ _ h => h) (by rfl) ?h74 ?r74
          case h74 => (intro wg hSw; go_simp <;> with_reducible rfl)
          simp only [Act.put, List.setIfInBounds_toArray, List.set_cons_zero, List.set_cons_succ]
          refine wpAnyG_take (i := 19) (v := ?v75) rfl (by kernel_rfl) (by kernel_rfl) (by kernel_rfl) (fun _ _ _ h => h) (by rfl) ?h75 ?r75
          case h75 => (intro wg hSw; go_simp <;> with_reducible rfl)
          simp only [Act.put, List.setIfInBounds_toArray, List.set_cons_zero, List.set_cons_succ]
          refine wpAnyG_take (i := 20) (v := ?v76) rfl (by kernel_rfl) (by kernel_rfl) (by kernel_rfl) (fun _ _ _ h => h) (by rfl) ?h76 ?r76
          case h76 => (intro wg hSw; go_simp <;> with_reducible rfl)
          simp only [Act.put, List.setIfInBounds_toArray, List.set_cons_zero, List.set_cons_succ]
          refine wpAnyG_take (i := 21) (v := ?v77) rfl (by kernel_rfl) (by kernel_rfl) (by kernel_rfl) (fun _ _ _ h => h) (by rfl) ?h77 ?r77
          case h77 => (intro wg hSw; go_simp <;> with_reducible rfl)
          simp only [Act.put, List.setIfInBounds_toArray, List.set_cons_zero, List.set_cons_succ]
          refine wpAnyG_take (i := 23) (v := ?v78) rfl (by kernel_rfl) (by kernel_rfl) (by kernel_rfl) (fun _ _ _ h => h) (by rfl) ?h78 ?r78
          case h78 => (intro wg hSw; go_simp <;> with_reducible rfl)
          simp only [Act.put, List.setIfInBounds_toArray, List.set_cons_zero, List.set_cons_succ]
          refine wpAnyG_take (i := 25) (v := ?v79) rfl (by kernel_rfl) (by kernel_rfl) (by kernel_rfl) (fun _ _ _ h => h) (by rfl) ?h79 ?r79
          case h79 => (intro wg hSw; go_simp <;> with_reducible rfl)
          simp only [Act.put, List.setIfInBounds_toArray, List.set_cons_zero, List.set_cons_succ]
          refine wpAnyG_take (i := 26) (v := ?v80) rfl (by kernel_rfl) (by kernel_rfl) (by kernel_rfl) (fun _ _ _ h => h) (by rfl) ?h80 ?r80
          case h80 => (intro wg hSw; go_simp <;> with_reducible rfl)
          simp only [Act.put, List.setIfInBounds_toArray, List.set_cons_zero, List.set_cons_succ]
          refine wpAnyG_take (i := 27) (v := ?v81) rfl (by kernel_rfl) (by kernel_rfl) (by kernel_rfl) (fun _ _ _ h => h) (by rfl) ?h81 ?r81
          case h81 => (intro wg hSw; go_simp <;> with_reducible rfl)
          simp only [Act.put, List.setIfInBounds_toArray, List.set_cons_zero, List.set_cons_succ]
          refine wpAnyG_one (i := 22) rfl (by kernel_rfl) (by rfl) (fun K hK => ?_)
          go_simp
          refine (at_1 _ (J1.out.grow (Grow.refl _).drew) u.p rfl).mono ?_
          rintro e w' ⟨rfl, rfl⟩
          refine hK.out _ _ (Grow.refl _) ?_
          clear hK K
          try simp only [Act.put, List.setIfInBounds_toArray, List.set_cons_zero, List.set_cons_succ]
          refine wpAnyG_take (i := 24) (v := ?v82) rfl (by kernel_rfl) (by kernel_rfl) (by kernel_rfl) (fun _ _ _ h => h) (by rfl) ?h82 ?r82
          case h82 => (intro wg hSw; go_simp <;> with_reducible rfl)
          simp only [Act.put, List.setIfInBounds_toArray, List.set_cons_zero, List.set_cons_succ]
          refine wpAnyG_one (i := 28) rfl (by kernel_rfl) (by rfl) (fun K hK => ?_)
          go_simp
          refine (at_1 _ (J2.out.grow (Grow.refl _).drew) (u.p + a) rfl).mono ?_
          rintro e w' ⟨rfl, rfl⟩
          refine hK.out _ _ (Grow.refl _) ?_
          clear hK K
          try simp only [Act.put, List.setIfInBounds_toArray, List.set_cons_zero, List.set_cons_succ]
          refine wpAnyG_take (i := 29) (v := ?v83) rfl (by kernel_rfl) (by kernel_rfl) (by kernel_rfl) (fun _ _ _ h => h) (by rfl) ?h83 ?r83
          case h83 => (intro wg hSw; go_simp <;> with_reducible rfl)
          simp only [Act.put, List.setIfInBounds_toArray, List.set_cons_zero, List.set_cons_succ]
          refine wpAnyG_take (i := 30) (v := ?v84) rfl (by kernel_rfl) (by kernel_rfl) (by kernel_rfl) (fun _ _ _ h => h) (by rfl) ?h84 ?r84
          case h84 => (intro wg hSw; go_simp <;> with_reducible rfl)
          simp only [Act.put, List.setIfInBounds_toArray, List.set_cons_zero, List.set_cons_succ]
          refine wpAnyG_done (by kernel_rfl) ?_
          clear hq0 hq1 hq2 hr0 hr1 hr2
          go_wp2_with fail
          go_roundg (m - (k + 1))
          case measure => omega
          case rel => exact ⟨k + 1, by omega, rfl, by go_num, u, J1.out.grow (Grow.refl _).drew, J2.out.grow (Grow.refl _).drew, GU1.out, GU2.out, HU.out, (KU.out.trans (Kept.of_grow HGX.out)).drew⟩
    · obtain rfl : k = m := by omega
      have HF := Lib.hid (Kept.grow HB3.out KP.out HSW.out)
      go_wp2
      go_ret
      exact ⟨rfl, HF.out⟩

theorem places_walk (A1 A2 : Option Addr) (n m c1 c2 : Nat) (bs : List Int) (a : Int) (l : List (Int × Int)) (w : World) (h1 : bs.length = n) (h2 : l.length = m) (hn : n ≤ 9223372036854775807) (hm : m ≤ 9223372036854775807) (e1 : A1 = none → c1 = 0)
    (b1 : Byt bs) (i2 : I64 l) (r1 : Nums .u8 w w.heap.size A1 bs) (r2 : Acts w w.heap.size A2 l) : Calls Try.prog 7 #[.slice A1 n c1, .int .i64 a, .slice A2 m c2] w (Fine w) := by
  by_cases h : n ≤ 500 ∧ m ≤ 100 ∧ 0 ≤ a ∧ a ≤ 549755813888
  · exact places_yes A1 A2 n m c1 c2 bs a l w h1 h2 h.1 h.2.1 h.2.2.1 h.2.2.2 e1 b1 i2 r1 r2
  · exact places_no A1 A2 n m c1 c2 a w hn hm h
end Go.Proofs.Yteijplolmpffmaa
