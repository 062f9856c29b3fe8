/-
  The law CursorReads at every input.
-/
import Derived.Test.YteijplolmpffmaaPairs
import Derived.Test.YteijplolmpffmaaRefOps
namespace Go.Proofs.Yteijplolmpffmaa
open Go.RowKit

set_option maxRecDepth 10000 in
set_option maxHeartbeats 800000 in
theorem reads_no (A1 A2 : Option Addr) (n m c1 c2 : Nat) (a : Int) (w : World) (h1 : n ≤ 9223372036854775807) (h2 : m ≤ 9223372036854775807) (h : ¬ (n ≤ 500 ∧ m ≤ 100)) :
    Calls Try.prog 3 #[.slice A1 n c1, .int .i64 a, .slice A2 m c2] w (Fine w) := by
  have HS := Lib.hid (small_any w)
  have hcase : 500 < n ∨ (n ≤ 500 ∧ 100 < m) := by omega
  clear h
  rcases hcase with hn | ⟨hn, hm⟩
  all_goals
    go_enter Try.func3, Try.ntmps3
    go_wp2_with fail
    refine (HS.out).mono ?_
    rintro e w1 ⟨rfl, hb1⟩
    go_wp2
    go_ret
    exact ⟨rfl, hb1⟩

section
variable {t : TypeId} {S : Nat → Prop} {g : Nat} {s s1 : St}
theorem rbyte_is (x : Int) (w : World) (h : IsC t S w g s) (hg : Good s) (hs : byteS s = (x, s1)) : Calls Try.prog 12 #[.pointer (some ⟨g, 0, none⟩)] w (Turns t S g (.int .u8 x) s1 w) := by
  have H := rbyte_any w h hg
  rw [hs] at H
  exact H
theorem rnum_is (n : Int) (x : Nat) (w : World) (h : IsC t S w g s) (hg : Good s) (hn : n < 9223372036854775808) (hs : numS n s = (x, s1)) : Calls Try.prog 14 #[.pointer (some ⟨g, 0, none⟩), .int .i64 n] w (Turns t S g (.int .i64 (x : Nat)) s1 w) := by
  have H := rnum_any n w h hg hn
  rw [hs] at H
  exact H
theorem rint_is (x : Int) (w : World) (h : IsC t S w g s) (hg : Good s) (hs : intS s = (x, s1)) : Calls Try.prog 16 #[.pointer (some ⟨g, 0, none⟩)] w (Turns t S g (.int .i64 x) s1 w) := by
  have H := rint_any w h hg
  rw [hs] at H
  exact H
theorem rtaken_is (n : Int) (xs : List Int) (N : Nat) (w : World) (h : IsC t S w g s) (hg : Good s) (hs : takeS n s = (xs, s1)) (hN : xs.length = N) :
    Calls Try.prog 18 #[.pointer (some ⟨g, 0, none⟩), .int .i64 n] w (fun e w' => ∃ A cap, Turns t S g (.slice A N cap) s1 w e w' ∧ Nums .u8 w' w'.heap.size A xs ∧ (∀ a, A = some a → w.heap.size ≤ a.block)) := by
  have H := rtake_c n w h hg
  rw [hs] at H
  exact H.mono fun e w' hk => took_is hk hN
theorem rleft_1 (w : World) (h : IsC t S w g s) (n : Nat) (hn : s.bs.length = n) : Calls Try.prog 22 #[.pointer (some ⟨g, 0, none⟩)] w fun e w' => e = .returned (.int .i64 (n : Nat)) ∧ w = w' := by
  subst hn
  exact rleft_any w h
theorem rat_1 (w : World) (h : IsC t S w g s) (n : Int) (hn : s.p = n) : Calls Try.prog 24 #[.pointer (some ⟨g, 0, none⟩)] w fun e w' => e = .returned (.int .i64 n) ∧ w = w' := by
  subst hn
  exact rat_any w h
theorem rfault_1 (w : World) (h : IsC t S w g s) (x y : Int) (hx : s.e = x) (hy : s.q = y) : Calls Try.prog 26 #[.pointer (some ⟨g, 0, none⟩)] w (Says (x, y) w) := by
  subst hx hy
  exact rfault_any w h
theorem rend_1 (w : World) (h : IsC t S w g s) (hg : Good s) (x y : Int) (hx : endS s = (x, y)) : Calls Try.prog 28 #[.pointer (some ⟨g, 0, none⟩)] w (Says (x, y) w) := by
  have H := rend_any w h hg
  rw [hx] at H
  exact H
end

def idS (s : St) : St := s

set_option linter.unusedSimpArgs false
set_option maxRecDepth 10000 in
set_option maxHeartbeats 6400000 in
theorem reads_yes (A1 A2 : Option Addr) (n m c1 c2 : Nat) (bs : List Int) (a : Int) (l : List (Int × Int)) (w : World) (h1 : bs.length = n) (h2 : l.length = m) (hn : n ≤ 500) (hm : m ≤ 100) (e1 : A1 = none → c1 = 0)
    (b1 : Byt bs) (i2 : I64 l) (r1 : Nums .u8 w w.heap.size A1 bs) (r2 : Acts w w.heap.size A2 l) : Calls Try.prog 3 #[.slice A1 n c1, .int .i64 a, .slice A2 m c2] w (Fine w) := by
  have HG0 := Lib.hid (open_good bs a b1 (by omega))
  have HS := Lib.hid (small_any w)
  have H1 := Lib.hid h1
  have H2 := Lib.hid h2
  have R1 := Lib.hid r1
  have R2 := Lib.hid r2
  have I2 := Lib.hid i2
  clear h1 h2 r1 r2 b1 i2
  go_enter Try.func3, Try.ntmps3
  go_wp2_with fail
  refine (HS.out).mono ?_
  rintro e w1 ⟨rfl, hb1⟩
  have R1' := Lib.hid ((R1.out.grow hb1).grow (grow_new w1 (.cells #[] 5)))
  have HE := Lib.hid (own_empty w1)
  have hz1 := hb1.size
  have HB1 := Lib.hid hb1
  clear hb1 HS
  go_wp2_with (at_builtin; refine wpList_append_bytes rfl _ _ rfl w1.heap.size _ 0 n c1 [] bs A1 _ rfl HE.out rfl H1.out.symm e1 R1'.out (by omega) (by simp) ?_; intro v2 w2 hown2 hb2; (obtain ⟨Ai, ci, rfl, hAi, hNi, hcapi, hgi, hoff⟩ := own_open hown2 (grow_new _ _) hb2); have HNI := Lib.hid hNi; have HGI := Lib.hid hgi; have HOF := Lib.hid hoff; clear hown2 hb2 hNi hgi hoff)
  have hz2 := HGI.out.size
  refine (open_any Ai n ci bs a w2 H1.out (by omega) hAi HNI.out).mono ?_
  rintro e w3 ⟨c, rfl, hc1, hc2, hb3, hcc⟩
  have HC := Lib.hid hcc
  have R3 := Lib.hid (R1.out.grow ((HB1.out.trans HGI.out).trans hb3))
  have hz3 := hb3.size
  have HB3 := Lib.hid hb3
  clear hcc hb3 R1' HE
  go_wp2_with fail
  refine (ropen_any A1 n c1 bs a w3 H1.out (by omega) e1 R3.out).mono ?_
  rintro e w4 ⟨d, rfl, hd1, hd2, hb4, hdd⟩
  obtain ⟨S, hS⟩ : ∃ S : Nat → Prop, S = fun k => k = c ∨ k = d := ⟨_, rfl⟩
  have hSc : S c := by rw [hS]; exact .inl rfl
  have hSd : S d := by rw [hS]; exact .inr rfl
  have hcd : ¬ d = c := by omega
  have HSW := Lib.hid (show ∀ k, S k → w.heap.size ≤ k by intro k hk; rw [hS] at hk; omega)
  have HSX := Lib.hid (show ∀ wx : World, w4.heap.size ≤ wx.heap.size → ∀ k, S k → k < wx.heap.size by intro wx hx k hk; rw [hS] at hk; omega)
  have HOI : Hid (Off S Ai) := fun x hx h => by have := (HOF.out x hx).2; rw [hS] at h; omega
  have i1 : IsC 44 S w4 c (openS bs a) := (HC.out S hSc (fun k hk => by rw [hS] at hk; omega)).grow hb4
  have i2 : IsC 55 S w4 d (openS bs a) := hdd S hSd (fun k hk => by rw [hS] at hk; omega)
  have HB0 : Hid (Both 44 55 S c d idS w4 w4) := ⟨_, i1, i2, HG0.out, HG0.out, fun h => absurd rfl h, Kept.refl _ _⟩
  have HBI := Lib.hid (HB3.out.trans hb4)
  have HB4 := Lib.hid ((HB1.out.trans HGI.out).trans HBI.out)
  have R4 := Lib.hid (R2.out.grow (Nat.le_refl _) HB4.out)
  have NI4 := Lib.hid (HNI.out.grow HBI.out)
  have NB4 := Lib.hid (R1.out.below HB4.out)
  clear hdd hb4 i1 i2 HC R2 R1 R3 HB1 HB3 hS HG0 HNI HGI HOF HBI
  go_wp2_with fail
  go_loopg [11] m (fun gk i wr => ∃ k : Nat, k ≤ m ∧ gk = m - k ∧ i = .int .i64 k ∧ Both 44 55 S c d idS w4 wr)
  case atStart => exact ⟨0, Nat.zero_le _, rfl, rfl, HB0.out⟩
  case round =>
    obtain ⟨k, hk, rfl, rfl, s, i1, i2, g1, _, hh, kp⟩ := hrel
    have I1 := Lib.hid i1
    have I3 := Lib.hid (show IsC 55 S wr d s from i2)
    have G1 := Lib.hid g1
    have HH := Lib.hid hh
    have KP := Lib.hid kp
    clear i1 i2 g1 hh kp HB0
    by_cases hlt : k < m
    · have hkl : k < l.length := by rw [H2.out]; exact hlt
      obtain ⟨b, off, rfl, hb, hcl2⟩ := R4.out.kept HB4.out.size KP.out HSW.out (by omega)
      have hI := I2.out.at_ k
      have hc0 := (hcl2 k hkl).1
      have hc1y := (hcl2 k hkl).2
      clear hcl2
      generalize l.getD k (0, 0) = x at *
      obtain ⟨x, y⟩ := x
      simp only at hc0 hc1y hI
      have hbS : ¬ S b := fun h => by have := HSW.out b h; omega
      have hbl : b < wr.heap.size := Nat.lt_of_lt_of_le hb (Nat.le_trans HB4.out.size KP.out.size)
      have HCY : Hid (∀ wg, Kept S wr wg → wg.cell? ⟨b, off + k * 2 + 1, none⟩ = some (.int .i64 y)) := fun wg hg => (hg.cell (p := ⟨b, off + k * 2 + 1, none⟩) hbl hbS).trans hc1y
      have hSce : ∀ k, k = c → S k := fun k e => e ▸ hSc
      have hSde : ∀ k, k = d → S k := fun k e => e ▸ hSd
      have HSC := Lib.hid hSce
      have HSD := Lib.hid hSde
      clear hSce hSde
      go_upto_block 2 with fail
      go_cut [12] from 34 to 146 (fun z wx => z = .bool true ∧ Both 44 55 S c d idS w4 wx)
      case first =>
        by_cases d0 : x = 0
        · subst d0
          obtain ⟨⟨v, s1⟩, hr⟩ : ∃ r, byteS s = r := ⟨_, rfl⟩
          have gg := Lib.hid (show Good s1 from by have h := G1.out.byte; rw [hr] at h; exact h)
          have gh := Lib.hid (show Held s1 from by have h := Held.byte G1.out HH.out; rw [hr] at h; exact h)
          have HR := Lib.hid hr
          clear hr
          go_wp2_with fail
          refine (byte_is v wr I1.out G1.out HR.out).mono ?_
          rintro e w5 ⟨rfl, j1, k1⟩
          have J1 := Lib.hid j1
          have K1 := Lib.hid k1
          clear j1 k1
          go_wp2_with fail
          refine (rbyte_is v w5 (I3.out.kept K1.out HSC.out hcd) G1.out HR.out).mono ?_
          rintro e w6 ⟨rfl, j2, k2⟩
          have BB := Lib.hid (both_step (f := idS) hcd hSc hSd KP.out gg.out gg.out gh.out J1.out K1.out j2 k2)
          clear j2 k2
          go_wp2_with fail
          go_meet
          exact ⟨by simp, BB.out⟩
        have d0' : (x == 0) = false := by simpa using d0
        by_cases d1 : x = 1
        · subst d1
          obtain ⟨⟨v, s1⟩, hr⟩ : ∃ r, numS y s = r := ⟨_, rfl⟩
          have gg := Lib.hid (show Good s1 from by have h := G1.out.num y; rw [hr] at h; exact h)
          have gh := Lib.hid (show Held s1 from by have h := Held.num G1.out HH.out y; rw [hr] at h; exact h)
          have HR := Lib.hid hr
          clear hr
          go_wp2_with fail
          refine wp_region_R ((Kept S)) (n := 16) rfl (by kernel_rfl) ?_
          intro W0 hW0e hW0
          have hcy : ∀ wg, Kept S W0 wg → wg.cell? ⟨b, off + k * 2 + 1, none⟩ = some (.int .i64 y) := fun wg hg => HCY.out wg ((Kept.of_grow hW0).trans hg)
          have HW0 := Lib.hid hW0
          clear hW0e
          refine wpR_take (keptOrd S) (i := 0) (v := ?vf1) rfl (by kernel_rfl) (by kernel_rfl) (by kernel_rfl) (fun _ _ _ h => h) (by rfl) ?hf1 ?rf1
          case hf1 => (intro wg hSw; go_simp <;> with_reducible rfl)
          simp only [Act.put, List.setIfInBounds_toArray, List.set_cons_zero, List.set_cons_succ]
          refine wpR_take (keptOrd S) (i := 1) (v := ?vf2) rfl (by kernel_rfl) (by kernel_rfl) (by kernel_rfl) (fun _ _ _ h => h) (by rfl) ?hf2 ?rf2
          case hf2 => (intro wg hSw; go_simp <;> with_reducible rfl)
          simp only [Act.put, List.setIfInBounds_toArray, List.set_cons_zero, List.set_cons_succ]
          refine wpR_take (keptOrd S) (i := 2) (v := ?vf3) rfl (by kernel_rfl) (by kernel_rfl) (by kernel_rfl) (fun _ _ _ h => h) (by rfl) ?hf3 ?rf3
          case hf3 => (intro wg hSw; go_simp <;> with_reducible rfl)
          simp only [Act.put, List.setIfInBounds_toArray, List.set_cons_zero, List.set_cons_succ]
          refine wpR_take (keptOrd S) (i := 3) (v := ?vf4) rfl (by kernel_rfl) (by kernel_rfl) (by kernel_rfl) (fun _ _ _ h => h) (by rfl) ?hf4 ?rf4
          case hf4 => (intro wg hSw; go_simp <;> with_reducible rfl)
          simp only [Act.put, List.setIfInBounds_toArray, List.set_cons_zero, List.set_cons_succ]
          refine wpR_take (keptOrd S) (i := 4) (v := ?vf5) rfl (by kernel_rfl) (by kernel_rfl) (by kernel_rfl) (fun _ _ _ h => h) (by rfl) ?hf5 ?rf5
          case hf5 => (intro wg hSw; go_simp <;> with_reducible rfl)
          simp only [Act.put, List.setIfInBounds_toArray, List.set_cons_zero, List.set_cons_succ]
          refine wpR_take (keptOrd S) (i := 5) (v := ?vf6) rfl (by kernel_rfl) (by kernel_rfl) (by kernel_rfl) (fun _ _ _ h => h) (by rfl) ?hf6 ?rf6
          case hf6 => (intro wg hSw; go_simp <;> with_reducible rfl)
          simp only [Act.put, List.setIfInBounds_toArray, List.set_cons_zero, List.set_cons_succ]
          refine wpR_take (keptOrd S) (i := 7) (v := ?vf7) rfl (by kernel_rfl) (by kernel_rfl) (by kernel_rfl) (fun _ _ _ h => h) (by rfl) ?hf7 ?rf7
          case hf7 => (intro wg hSw; go_simp <;> with_reducible rfl)
          simp only [Act.put, List.setIfInBounds_toArray, List.set_cons_zero, List.set_cons_succ]
          refine wpR_take (keptOrd S) (i := 8) (v := ?vf8) rfl (by kernel_rfl) (by kernel_rfl) (by kernel_rfl) (fun _ _ _ h => h) (by rfl) ?hf8 ?rf8
          case hf8 => (intro wg hSw; go_simp <;> with_reducible rfl)
          simp only [Act.put, List.setIfInBounds_toArray, List.set_cons_zero, List.set_cons_succ]
          refine wpR_take (keptOrd S) (i := 9) (v := ?vf9) rfl (by kernel_rfl) (by kernel_rfl) (by kernel_rfl) (fun _ _ _ h => h) (by rfl) ?hf9 ?rf9
          case hf9 => (intro wg hSw; go_simp <;> with_reducible rfl)
          simp only [Act.put, List.setIfInBounds_toArray, List.set_cons_zero, List.set_cons_succ]
          refine wpR_take (keptOrd S) (i := 10) (v := ?vf10) rfl (by kernel_rfl) (by kernel_rfl) (by kernel_rfl) (fun _ _ _ h => h) (by rfl) ?hf10 ?rf10
          case hf10 => (intro wg hSw; go_simp <;> with_reducible rfl)
          simp only [Act.put, List.setIfInBounds_toArray, List.set_cons_zero, List.set_cons_succ]
          refine wpR_take (keptOrd S) (i := 11) (v := ?vf11) rfl (by kernel_rfl) (by kernel_rfl) (by kernel_rfl) (fun _ _ _ h => h) (by rfl) ?hf11 ?rf11
          case hf11 => (intro wg hSw; go_simp <;> with_reducible rfl)
          simp only [Act.put, List.setIfInBounds_toArray, List.set_cons_zero, List.set_cons_succ]
          refine wpR_take (keptOrd S) (i := 12) (v := ?vf12) rfl (by kernel_rfl) (by kernel_rfl) (by kernel_rfl) (fun _ _ _ h => h) (by rfl) ?hf12 ?rf12
          case hf12 => (intro wg hSw; go_simp <;> with_reducible rfl)
          simp only [Act.put, List.setIfInBounds_toArray, List.set_cons_zero, List.set_cons_succ]
          refine wpR_one (i := 6) (by kernel_rfl) ?_
          refine wpR_op (i := 6) rfl (by rfl) (fun K hK => ?_)
          go_simp
          refine (num_is y v _ (I1.out.grow HW0.out) G1.out hI.2 HR.out).mono ?_
          rintro e wM6 ⟨rfl, j1, k1⟩
          have hM6 : Kept S W0 wM6 := k1.mono HSC.out
          refine hK.out _ _ hM6 ?_
          clear hK K
          try simp only [Act.put, List.setIfInBounds_toArray, List.set_cons_zero, List.set_cons_succ]
          refine wpR_one (i := 13) (by kernel_rfl) ?_
          refine wpR_op (i := 13) rfl (by rfl) (fun K hK => ?_)
          go_simp
          refine (rnum_is y v _ ((I3.out.grow HW0.out).kept k1 HSC.out hcd) G1.out hI.2 HR.out).mono ?_
          rintro e wM13 ⟨rfl, j2, k2⟩
          have hM13 : Kept S wM6 wM13 := k2.mono HSD.out
          refine hK.out _ _ hM13 ?_
          clear hK K
          try simp only [Act.put, List.setIfInBounds_toArray, List.set_cons_zero, List.set_cons_succ]
          refine wpR_take (keptOrd S) (i := 14) (v := ?vf13) rfl (by kernel_rfl) (by kernel_rfl) (by kernel_rfl) (fun _ _ _ h => h) (by rfl) ?hf13 ?rf13
          case hf13 => (intro wg hSw; go_simp <;> with_reducible rfl)
          simp only [Act.put, List.setIfInBounds_toArray, List.set_cons_zero, List.set_cons_succ]
          refine wpR_take (keptOrd S) (i := 15) (v := ?vf14) rfl (by kernel_rfl) (by kernel_rfl) (by kernel_rfl) (fun _ _ _ h => h) (by rfl) ?hf14 ?rf14
          case hf14 => (intro wg hSw; go_simp <;> with_reducible rfl)
          simp only [Act.put, List.setIfInBounds_toArray, List.set_cons_zero, List.set_cons_succ]
          refine wpR_done (by kernel_rfl) ?_
          have BB := Lib.hid (both_step (f := idS) hcd hSc hSd (KP.out.trans (Kept.of_grow HW0.out)) gg.out gg.out gh.out j1 k1 j2 k2)
          clear hcy j1 k1 j2 k2 hM6 hM13
          go_wp2_with fail
          go_meet
          exact ⟨by simp, BB.out⟩
        have d1' : (x == 1) = false := by simpa using d1
        by_cases d2 : x = 2
        · subst d2
          obtain ⟨⟨v, s1⟩, hr⟩ : ∃ r, intS s = r := ⟨_, rfl⟩
          have gg := Lib.hid (show Good s1 from by have h := G1.out.int; rw [hr] at h; exact h)
          have gh := Lib.hid (show Held s1 from by have h := Held.int G1.out HH.out; rw [hr] at h; exact h)
          have HR := Lib.hid hr
          clear hr
          go_wp2_with fail
          refine (int_is v wr I1.out G1.out HR.out).mono ?_
          rintro e w5 ⟨rfl, j1, k1⟩
          have J1 := Lib.hid j1
          have K1 := Lib.hid k1
          clear j1 k1
          go_wp2_with fail
          refine (rint_is v w5 (I3.out.kept K1.out HSC.out hcd) G1.out HR.out).mono ?_
          rintro e w6 ⟨rfl, j2, k2⟩
          have BB := Lib.hid (both_step (f := idS) hcd hSc hSd KP.out gg.out gg.out gh.out J1.out K1.out j2 k2)
          clear j2 k2
          go_wp2_with fail
          go_meet
          exact ⟨by simp, BB.out⟩
        have d2' : (x == 2) = false := by simpa using d2
        by_cases d3 : x = 3
        · subst d3
          obtain ⟨⟨xs, s1⟩, hr⟩ : ∃ r, takeS y s = r := ⟨_, rfl⟩
          have gg := Lib.hid (show Good s1 from by have h := G1.out.take y; rw [hr] at h; exact h)
          have gh := Lib.hid (show Held s1 from by have h := Held.take G1.out HH.out y; rw [hr] at h; exact h)
          have HR := Lib.hid hr
          obtain ⟨N, hN⟩ : ∃ N, xs.length = N := ⟨_, rfl⟩
          obtain ⟨st, hst⟩ : ∃ st, strOfNums xs = st := ⟨_, rfl⟩
          have HN := Lib.hid hN
          have HST := Lib.hid hst
          clear hr hN hst
          go_wp2_with fail
          refine wp_region_R ((Kept S)) (n := 18) rfl (by kernel_rfl) ?_
          intro W0 hW0e hW0
          have hcy : ∀ wg, Kept S W0 wg → wg.cell? ⟨b, off + k * 2 + 1, none⟩ = some (.int .i64 y) := fun wg hg => HCY.out wg ((Kept.of_grow hW0).trans hg)
          have HW0 := Lib.hid hW0
          have hSW : ∀ k, S k → k < W0.heap.size := HSX.out W0 (Nat.le_trans KP.out.size HW0.out.size)
          clear hW0e
          refine wpR_take (keptOrd S) (i := 0) (v := ?vf15) rfl (by kernel_rfl) (by kernel_rfl) (by kernel_rfl) (fun _ _ _ h => h) (by rfl) ?hf15 ?rf15
          case hf15 => (intro wg hSw; go_simp <;> with_reducible rfl)
          simp only [Act.put, List.setIfInBounds_toArray, List.set_cons_zero, List.set_cons_succ]
          refine wpR_take (keptOrd S) (i := 1) (v := ?vf16) rfl (by kernel_rfl) (by kernel_rfl) (by kernel_rfl) (fun _ _ _ h => h) (by rfl) ?hf16 ?rf16
          case hf16 => (intro wg hSw; go_simp <;> with_reducible rfl)
          simp only [Act.put, List.setIfInBounds_toArray, List.set_cons_zero, List.set_cons_succ]
          refine wpR_take (keptOrd S) (i := 2) (v := ?vf17) rfl (by kernel_rfl) (by kernel_rfl) (by kernel_rfl) (fun _ _ _ h => h) (by rfl) ?hf17 ?rf17
          case hf17 => (intro wg hSw; go_simp <;> with_reducible rfl)
          simp only [Act.put, List.setIfInBounds_toArray, List.set_cons_zero, List.set_cons_succ]
          refine wpR_take (keptOrd S) (i := 3) (v := ?vf18) rfl (by kernel_rfl) (by kernel_rfl) (by kernel_rfl) (fun _ _ _ h => h) (by rfl) ?hf18 ?rf18
          case hf18 => (intro wg hSw; go_simp <;> with_reducible rfl)
          simp only [Act.put, List.setIfInBounds_toArray, List.set_cons_zero, List.set_cons_succ]
          refine wpR_take (keptOrd S) (i := 4) (v := ?vf19) rfl (by kernel_rfl) (by kernel_rfl) (by kernel_rfl) (fun _ _ _ h => h) (by rfl) ?hf19 ?rf19
          case hf19 => (intro wg hSw; go_simp <;> with_reducible rfl)
          simp only [Act.put, List.setIfInBounds_toArray, List.set_cons_zero, List.set_cons_succ]
          refine wpR_take (keptOrd S) (i := 5) (v := ?vf20) rfl (by kernel_rfl) (by kernel_rfl) (by kernel_rfl) (fun _ _ _ h => h) (by rfl) ?hf20 ?rf20
          case hf20 => (intro wg hSw; go_simp <;> with_reducible rfl)
          simp only [Act.put, List.setIfInBounds_toArray, List.set_cons_zero, List.set_cons_succ]
          refine wpR_take (keptOrd S) (i := 8) (v := ?vf21) rfl (by kernel_rfl) (by kernel_rfl) (by kernel_rfl) (fun _ _ _ h => h) (by rfl) ?hf21 ?rf21
          case hf21 => (intro wg hSw; go_simp <;> with_reducible rfl)
          simp only [Act.put, List.setIfInBounds_toArray, List.set_cons_zero, List.set_cons_succ]
          refine wpR_take (keptOrd S) (i := 9) (v := ?vf22) rfl (by kernel_rfl) (by kernel_rfl) (by kernel_rfl) (fun _ _ _ h => h) (by rfl) ?hf22 ?rf22
          case hf22 => (intro wg hSw; go_simp <;> with_reducible rfl)
          simp only [Act.put, List.setIfInBounds_toArray, List.set_cons_zero, List.set_cons_succ]
          refine wpR_take (keptOrd S) (i := 10) (v := ?vf23) rfl (by kernel_rfl) (by kernel_rfl) (by kernel_rfl) (fun _ _ _ h => h) (by rfl) ?hf23 ?rf23
          case hf23 => (intro wg hSw; go_simp <;> with_reducible rfl)
          simp only [Act.put, List.setIfInBounds_toArray, List.set_cons_zero, List.set_cons_succ]
          refine wpR_take (keptOrd S) (i := 11) (v := ?vf24) rfl (by kernel_rfl) (by kernel_rfl) (by kernel_rfl) (fun _ _ _ h => h) (by rfl) ?hf24 ?rf24
          case hf24 => (intro wg hSw; go_simp <;> with_reducible rfl)
          simp only [Act.put, List.setIfInBounds_toArray, List.set_cons_zero, List.set_cons_succ]
          refine wpR_take (keptOrd S) (i := 12) (v := ?vf25) rfl (by kernel_rfl) (by kernel_rfl) (by kernel_rfl) (fun _ _ _ h => h) (by rfl) ?hf25 ?rf25
          case hf25 => (intro wg hSw; go_simp <;> with_reducible rfl)
          simp only [Act.put, List.setIfInBounds_toArray, List.set_cons_zero, List.set_cons_succ]
          refine wpR_take (keptOrd S) (i := 13) (v := ?vf26) rfl (by kernel_rfl) (by kernel_rfl) (by kernel_rfl) (fun _ _ _ h => h) (by rfl) ?hf26 ?rf26
          case hf26 => (intro wg hSw; go_simp <;> with_reducible rfl)
          simp only [Act.put, List.setIfInBounds_toArray, List.set_cons_zero, List.set_cons_succ]
          refine wpR_one (i := 6) (by kernel_rfl) ?_
          refine wpR_op (i := 6) rfl (by rfl) (fun K hK => ?_)
          go_simp
          refine (taken_is y xs N _ (I1.out.grow HW0.out) G1.out HR.out HN.out).mono ?_
          rintro e wM6 ⟨A6, c6, ⟨rfl, j1, k1⟩, n6, o6⟩
          have hM6 : Kept S W0 wM6 := k1.mono HSC.out
          have hs6 : ∀ wg, Kept S wM6 wg → (convert 22 9 (.slice A6 N c6)).run Try.prog wg = .ok (.string st) wg := fun wg hg => by rw [← HST.out]; exact conv_kept n6 o6 hSW hg HN.out
          refine hK.out _ _ hM6 ?_
          clear hK K
          try simp only [Act.put, List.setIfInBounds_toArray, List.set_cons_zero, List.set_cons_succ]
          refine wpR_take (keptOrd S) (i := 7) (v := ?vf27) rfl (by kernel_rfl) (by kernel_rfl) (by kernel_rfl) (fun _ _ _ h => h) (by rfl) ?hf27 ?rf27
          case hf27 => (intro wg hSw; go_simp <;> with_reducible rfl)
          simp only [Act.put, List.setIfInBounds_toArray, List.set_cons_zero, List.set_cons_succ]
          refine wpR_one (i := 14) (by kernel_rfl) ?_
          refine wpR_op (i := 14) rfl (by rfl) (fun K hK => ?_)
          go_simp
          refine (rtaken_is y xs N _ ((I3.out.grow HW0.out).kept k1 HSC.out hcd) G1.out HR.out HN.out).mono ?_
          rintro e wM14 ⟨A14, c14, ⟨rfl, j2, k2⟩, n14, o14⟩
          have hM14 : Kept S wM6 wM14 := k2.mono HSD.out
          have hs14 : ∀ wg, Kept S wM14 wg → (convert 22 9 (.slice A14 N c14)).run Try.prog wg = .ok (.string st) wg := fun wg hg => by rw [← HST.out]; exact conv_kept n14 o14 (fun k h => Nat.lt_of_lt_of_le (hSW k h) hM6.size) hg HN.out
          refine hK.out _ _ hM14 ?_
          clear hK K
          try simp only [Act.put, List.setIfInBounds_toArray, List.set_cons_zero, List.set_cons_succ]
          refine wpR_take (keptOrd S) (i := 15) (v := ?vf28) rfl (by kernel_rfl) (by kernel_rfl) (by kernel_rfl) (fun _ _ _ h => h) (by rfl) ?hf28 ?rf28
          case hf28 => (intro wg hSw; go_simp <;> with_reducible rfl)
          simp only [Act.put, List.setIfInBounds_toArray, List.set_cons_zero, List.set_cons_succ]
          refine wpR_take (keptOrd S) (i := 16) (v := ?vf29) rfl (by kernel_rfl) (by kernel_rfl) (by kernel_rfl) (fun _ _ _ h => h) (by rfl) ?hf29 ?rf29
          case hf29 => (intro wg hSw; go_simp <;> with_reducible rfl)
          simp only [Act.put, List.setIfInBounds_toArray, List.set_cons_zero, List.set_cons_succ]
          refine wpR_take (keptOrd S) (i := 17) (v := ?vf30) rfl (by kernel_rfl) (by kernel_rfl) (by kernel_rfl) (fun _ _ _ h => h) (by rfl) ?hf30 ?rf30
          case hf30 => (intro wg hSw; go_simp <;> with_reducible rfl)
          simp only [Act.put, List.setIfInBounds_toArray, List.set_cons_zero, List.set_cons_succ]
          refine wpR_done (by kernel_rfl) ?_
          have BB := Lib.hid (both_step (f := idS) hcd hSc hSd (KP.out.trans (Kept.of_grow HW0.out)) gg.out gg.out gh.out j1 k1 j2 k2)
          clear hcy j1 k1 j2 k2 hM6 hM14 hs6 hs14 n6 o6 n14 o14 hSW
          go_wp2_with fail
          go_meet
          exact ⟨by simp, BB.out⟩
        have d3' : (x == 3) = false := by simpa using d3
        by_cases d4 : x = 4
        · subst d4
          have gg := Lib.hid (G1.out.fail y)
          have gh := Lib.hid (Held.fail G1.out HH.out y)
          go_wp2_with fail
          refine (fail_any y wr I1.out).mono ?_
          rintro e w5 ⟨rfl, j1, k1⟩
          have J1 := Lib.hid j1
          have K1 := Lib.hid k1
          have hcy := HCY.out w5 (k1.mono HSC.out)
          clear j1 k1 hc1y
          go_wp2_with fail
          refine (rfail_any y w5 (I3.out.kept K1.out HSC.out hcd) G1.out).mono ?_
          rintro e w6 ⟨rfl, j2, k2⟩
          have BB := Lib.hid (both_step (f := idS) hcd hSc hSd KP.out gg.out gg.out gh.out J1.out K1.out j2 k2)
          clear j2 k2 hcy
          go_wp2_with fail
          go_meet
          exact ⟨rfl, BB.out⟩
        have d4' : (x == 4) = false := by simpa using d4
        go_wp2_with fail
        go_meet
        exact ⟨rfl, s, I1.out, I3.out, G1.out, G1.out, HH.out, KP.out⟩
      case rest =>
        obtain ⟨rfl, u, j1, j2, g1, _, hu, kp⟩ := hcut
        have IU1 := Lib.hid j1
        have IU2 := Lib.hid (show IsC 55 S wc d u from j2)
        have GU := Lib.hid g1
        have HU := Lib.hid hu
        have KU := Lib.hid kp
        obtain ⟨n1, hn1⟩ : ∃ n1, u.bs.length = n1 := ⟨_, rfl⟩
        obtain ⟨p1, hp1⟩ : ∃ p1, u.p = p1 := ⟨_, rfl⟩
        obtain ⟨x1, hx1⟩ : ∃ x1, u.e = x1 := ⟨_, rfl⟩
        obtain ⟨q1, hq1⟩ : ∃ q1, u.q = q1 := ⟨_, rfl⟩
        obtain ⟨⟨x2, q2⟩, he1⟩ : ∃ f, endS u = f := ⟨_, rfl⟩
        have N1 := Lib.hid hn1
        have P1 := Lib.hid hp1
        have X1 := Lib.hid hx1
        have Q1 := Lib.hid hq1
        have E1 := Lib.hid he1
        clear j1 j2 g1 hu kp hn1 hp1 hx1 hq1 he1 I1 I3 G1 HH KP HCY hc1y hc0
        go_wp2_with fail
        refine (left_1 wc IU1.out n1 N1.out).mono ?_
        rintro e w' ⟨rfl, rfl⟩
        go_wp2_with fail
        refine (rleft_1 wc IU2.out n1 N1.out).mono ?_
        rintro e w' ⟨rfl, rfl⟩
        go_wp2_with fail
        refine (at_1 wc IU1.out p1 P1.out).mono ?_
        rintro e w' ⟨rfl, rfl⟩
        go_wp2_with fail
        refine (rat_1 wc IU2.out p1 P1.out).mono ?_
        rintro e w' ⟨rfl, rfl⟩
        go_wp2_with fail
        refine (fault_1 wc IU1.out x1 q1 X1.out Q1.out).mono ?_
        rintro e w5 ⟨rfl, hb5⟩
        have HB5 := Lib.hid hb5
        clear hb5
        go_wp2_with fail
        refine (rfault_1 w5 (IU2.out.grow HB5.out) x1 q1 X1.out Q1.out).mono ?_
        rintro e w6 ⟨rfl, hb6⟩
        have HB6 := Lib.hid (HB5.out.trans hb6)
        clear hb6
        go_wp2_with fail
        refine (end_1 w6 (IU1.out.grow HB6.out) GU.out x2 q2 E1.out).mono ?_
        rintro e w7 ⟨rfl, hb7⟩
        have HB7 := Lib.hid (HB6.out.trans hb7)
        clear hb7
        go_wp2_with fail
        refine (rend_1 w7 (IU2.out.grow HB7.out) GU.out x2 q2 E1.out).mono ?_
        rintro e w8 ⟨rfl, hb8⟩
        have HB8 := Lib.hid (HB7.out.trans hb8)
        clear hb8
        go_wp2_with fail
        go_roundg (m - (k + 1))
        case measure => omega
        case rel => exact ⟨k + 1, by omega, rfl, by go_num, u, IU1.out.grow HB8.out, IU2.out.grow HB8.out, GU.out, GU.out, HU.out, KU.out.trans (Kept.of_grow HB8.out)⟩
    · obtain rfl : k = m := by omega
      have hs1 := conv_any (k := 22) ci (NI4.out.kept HOI.out KP.out (Nat.le_refl _)) rfl
      have hs2 := conv_any (k := 22) c1 (NB4.out.keep_ HB4.out.size KP.out HSW.out) rfl
      rw [H1.out] at hs1 hs2
      generalize hst : strOfNums bs = st at *
      have HF := Lib.hid (Kept.grow HB4.out KP.out HSW.out)
      clear hst
      go_wp2
      go_ret
      exact ⟨rfl, HF.out⟩

theorem reads_walk (A1 A2 : Option Addr) (n m c1 c2 : Nat) (bs : List Int) (a : Int) (l : List (Int × Int)) (w : World) (h1 : bs.length = n) (h2 : l.length = m) (hn : n ≤ 9223372036854775807) (hm : m ≤ 9223372036854775807) (e1 : A1 = none → c1 = 0)
    (b1 : Byt bs) (i2 : I64 l) (r1 : Nums .u8 w w.heap.size A1 bs) (r2 : Acts w w.heap.size A2 l) : Calls Try.prog 3 #[.slice A1 n c1, .int .i64 a, .slice A2 m c2] w (Fine w) := by
  by_cases h : n ≤ 500 ∧ m ≤ 100
  · exact reads_yes A1 A2 n m c1 c2 bs a l w h1 h2 h.1 h.2 e1 b1 i2 r1 r2
  · exact reads_no A1 A2 n m c1 c2 a w hn hm h
end Go.Proofs.Yteijplolmpffmaa
