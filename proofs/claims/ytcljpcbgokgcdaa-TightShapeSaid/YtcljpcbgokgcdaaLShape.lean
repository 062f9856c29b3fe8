/-
  TightShape comes to true, whatever it is called with.
-/
import Derived.Test.YtcljpcbgokgcdaaLOnce
import Derived.Test.YtcljpcbgokgcdaaTightA
import Derived.Test.YtcljpcbgokgcdaaBigMake
namespace Go.Proofs.Ytcljpcbgokgcdaa
open Go.RowKit Go.Lib
set_option linter.unusedSimpArgs false
set_option linter.unusedVariables false

set_option maxRecDepth 10000 in
set_option maxHeartbeats 6400000 in
theorem shape_walk (A : Option Addr) (n c : Nat) (xs : List Nd) (w : World) (hx : IsNodes w A n c xs) :
    Calls Try.prog 8 #[.slice A n c] w (Says true w) := by
  have HX := Lib.hid hx
  clear hx
  go_enter Try.func8, Try.ntmps8
  go_wp2_with fail
  refine (small_any _).mono ?_
  rintro e w1 ⟨rfl, hg1⟩
  have HG1 := Lib.hid hg1
  clear hg1
  go_wp2_with fail
  refine (few_any A n c xs w _ HX.out HG1.out).mono ?_
  rintro e w2 ⟨rfl, hg2⟩
  have HG2 := Lib.hid (HG1.out.trans hg2)
  clear hg2 HG1
  go_wp2_with fail
  refine (makeB_any A n c xs w _ HX.out HG2.out).mono ?_
  rintro e w3 ⟨hg3, ⟨hr, rfl⟩ | ⟨hr, g, r, hgg, rfl, hrl, hcp⟩⟩
  · have HG3 := Lib.hid (HG2.out.trans hg3)
    clear hg3 hr
    cases hfx : fewB xs with
    | false =>
      clear hfx
      go_wp2
      go_ret
      exact ⟨rfl, HG3.out⟩
    | true =>
      clear hfx
      go_wp2
      go_ret
      exact ⟨rfl, HG3.out⟩
  cases hfx : fewB xs with
  | false =>
    have HG3 := Lib.hid (HG2.out.trans hg3)
    clear hg3 hr hfx hrl hcp hgg
    go_wp2
    go_ret
    exact ⟨rfl, HG3.out⟩
  | true =>
    obtain ⟨hfine, hwi, hn100⟩ := few_fine HX.out hfx
    obtain ⟨k1, k2, k3, k4, k5, k6, k7⟩ := form_right hr hfine
    obtain ⟨nd, l', m, r0, hxe, hfe, hsh, hk3, hk12⟩ := shape_form hr hfine
    have hnp : 1 ≤ n := by rw [← HX.out.1, hxe, List.length_cons]; omega
    have hrp : 1 ≤ r := by rw [← hrl, hfe, List.length_cons]; omega
    have hr100 : r ≤ 100 := by rw [← hrl]; have := HX.out.1; omega
    have HNA := Lib.hid ((HX.out.2.2.2.1.grow HG2.out).grow hg3)
    have HNF := Lib.hid hcp.nodes
    rw [hxe] at HNA
    rw [hfe] at HNF hrl k5
    have HFN := Lib.hid (hfine.2.1 nd (by rw [hxe]; simp))
    have HFM := Lib.hid (k5.2.1 m (by simp))
    have HRL := Lib.hid hrl
    have HSH := Lib.hid hsh
    have HK3 := Lib.hid hk3
    have HK12 := Lib.hid hk12
    have HG3 := Lib.hid (HG2.out.trans hg3)
    obtain ⟨b, off, rfl, hb, hat⟩ := HNA.out (by simp)
    obtain ⟨A1, c1, A2, c2, A3, c3, p0, p1, p2, p3, hnd⟩ := hat 0 (by simp)
    obtain ⟨b', off', e', hb', hat'⟩ := HNF.out (by simp)
    cases e'
    obtain ⟨D1, d1, D2, d2, D3, d3, q0, q1, q2, q3, hmd⟩ := hat' 0 (by simp)
    rw [show (nd :: l').getD 0 nd0 = nd from rfl, Nat.zero_mul, Nat.add_zero] at p0 p1 p2 p3
    rw [show (m :: r0).getD 0 nd0 = m from rfl, Nat.zero_mul, Nat.zero_add] at q0 q1 q2 q3
    rw [show (nd :: l').getD 0 nd0 = nd from rfl] at hnd
    rw [show (m :: r0).getD 0 nd0 = m from rfl] at hmd
    have P0 := Lib.hid p0
    have P1 := Lib.hid p1
    have P2 := Lib.hid p2
    have Q0 := Lib.hid q0
    have Q1 := Lib.hid q1
    have Q2 := Lib.hid q2
    have HND := Lib.hid hnd
    have HMD := Lib.hid hmd
    have HLB := Lib.hid hb
    have HLG := Lib.hid hb'
    have hni : ¬ ((n : Nat) : Int) < 1 := by omega
    have hri : ¬ ((r : Nat) : Int) < 1 := by omega
    have hn0 : 0 < n := by omega
    have hrp0 : 0 < r := by omega
    have hnz : decide (n = 0) = false := decide_eq_false (by omega)
    have hrz : decide (r = 0) = false := decide_eq_false (by omega)
    have hnz1 : decide (n < 1) = false := decide_eq_false (by omega)
    have hrz1 : decide (r < 1) = false := decide_eq_false (by omega)
    have hnz2 : decide (((n : Nat) : Int) < 1) = false := decide_eq_false (by omega)
    have hrz2 : decide (((r : Nat) : Int) < 1) = false := decide_eq_false (by omega)
    clear hg3 hcp hrl hsh hk3 hk12 k1 k2 k3 k4 k5 k6 k7 hr hgg hfx hfine hwi hxe hfe HX HNA HNF hat hat' p0 p1 p2 p3 q0 q1 q2 q3 hnd hmd hb hb' HG2
    obtain ⟨sl, hsl⟩ : ∃ sl, nd.shp.length = sl := ⟨_, rfl⟩
    have HSL := Lib.hid hsl
    have HSM : Hid (m.shp.length = sl) := Lib.hid (by rw [HSH.out, hsl])
    rw [hsl] at P1
    rw [HSM.out] at Q1
    have hsl6 : sl ≤ 1100000 := by rw [← hsl]; exact HFN.out.2.1
    clear hsl
    go_wp2
    refine wp_region_R Grow (n := 20) rfl (by kernel_rfl) ?_
    intro W0 hW0e hW0
    have HW0 := Lib.hid hW0
    have p1 : ∀ wg, Grow W0 wg → wg.cell? ⟨b, off + 1, none⟩ = some (.slice A1 sl c1) := fun wg h => ((HW0.out.trans h).cell (p := ⟨b, off + 1, none⟩) HLB.out).trans P1.out
    have q1 : ∀ wg, Grow W0 wg → wg.cell? ⟨g, 1, none⟩ = some (.slice D1 sl d1) := fun wg h => ((HW0.out.trans h).cell (p := ⟨g, 1, none⟩) HLG.out).trans Q1.out
    clear hW0e
    refine wpR_take growOrd (i := 0) (v := ?vf1) rfl (by kernel_rfl) (by kernel_rfl) (by kernel_rfl) (fun _ _ _ h => h) (by rfl) ?hf1 ?rf1
    case hf1 => (intro wg hSw; go_simp <;> with_reducible rfl)
    simp only [Act.put, List.setIfInBounds_toArray, List.set_cons_zero, List.set_cons_succ]
    refine wpR_take growOrd (i := 1) (v := ?vf2) rfl (by kernel_rfl) (by kernel_rfl) (by kernel_rfl) (fun _ _ _ h => h) (by rfl) ?hf2 ?rf2
    case hf2 => (intro wg hSw; go_simp <;> with_reducible rfl)
    simp only [Act.put, List.setIfInBounds_toArray, List.set_cons_zero, List.set_cons_succ]
    refine wpR_take growOrd (i := 2) (v := ?vf3) rfl (by kernel_rfl) (by kernel_rfl) (by kernel_rfl) (fun _ _ _ h => h) (by rfl) ?hf3 ?rf3
    case hf3 => (intro wg hSw; go_simp <;> with_reducible rfl)
    simp only [Act.put, List.setIfInBounds_toArray, List.set_cons_zero, List.set_cons_succ]
    refine wpR_take growOrd (i := 3) (v := ?vf4) rfl (by kernel_rfl) (by kernel_rfl) (by kernel_rfl) (fun _ _ _ h => h) (by rfl) ?hf4 ?rf4
    case hf4 => (intro wg hSw; go_simp <;> with_reducible rfl)
    simp only [Act.put, List.setIfInBounds_toArray, List.set_cons_zero, List.set_cons_succ]
    refine wpR_take growOrd (i := 4) (v := ?vf5) rfl (by kernel_rfl) (by kernel_rfl) (by kernel_rfl) (fun _ _ _ h => h) (by rfl) ?hf5 ?rf5
    case hf5 => (intro wg hSw; go_simp <;> with_reducible rfl)
    simp only [Act.put, List.setIfInBounds_toArray, List.set_cons_zero, List.set_cons_succ]
    refine wpR_take growOrd (i := 5) (v := ?vf6) rfl (by kernel_rfl) (by kernel_rfl) (by kernel_rfl) (fun _ _ _ h => h) (by rfl) ?hf6 ?rf6
    case hf6 => (intro wg hSw; go_simp <;> with_reducible rfl)
    simp only [Act.put, List.setIfInBounds_toArray, List.set_cons_zero, List.set_cons_succ]
    refine wpR_take growOrd (i := 6) (v := ?vf7) rfl (by kernel_rfl) (by kernel_rfl) (by kernel_rfl) (fun _ _ _ h => h) (by rfl) ?hf7 ?rf7
    case hf7 => (intro wg hSw; go_simp <;> with_reducible rfl)
    simp only [Act.put, List.setIfInBounds_toArray, List.set_cons_zero, List.set_cons_succ]
    refine wpR_take growOrd (i := 7) (v := ?vf8) rfl (by kernel_rfl) (by kernel_rfl) (by kernel_rfl) (fun _ _ _ h => h) (by rfl) ?hf8 ?rf8
    case hf8 => (intro wg hSw; go_simp <;> with_reducible rfl)
    simp only [Act.put, List.setIfInBounds_toArray, List.set_cons_zero, List.set_cons_succ]
    refine wpR_take growOrd (i := 8) (v := ?vf9) rfl (by kernel_rfl) (by kernel_rfl) (by kernel_rfl) (fun _ _ _ h => h) (by rfl) ?hf9 ?rf9
    case hf9 => (intro wg hSw; go_simp <;> with_reducible rfl)
    simp only [Act.put, List.setIfInBounds_toArray, List.set_cons_zero, List.set_cons_succ]
    refine wpR_take growOrd (i := 9) (v := ?vf10) rfl (by kernel_rfl) (by kernel_rfl) (by kernel_rfl) (fun _ _ _ h => h) (by rfl) ?hf10 ?rf10
    case hf10 => (intro wg hSw; go_simp <;> with_reducible rfl)
    simp only [Act.put, List.setIfInBounds_toArray, List.set_cons_zero, List.set_cons_succ]
    refine wpR_take growOrd (i := 10) (v := ?vf11) rfl (by kernel_rfl) (by kernel_rfl) (by kernel_rfl) (fun _ _ _ h => h) (by rfl) ?hf11 ?rf11
    case hf11 => (intro wg hSw; go_simp <;> with_reducible rfl)
    simp only [Act.put, List.setIfInBounds_toArray, List.set_cons_zero, List.set_cons_succ]
    refine wpR_take growOrd (i := 11) (v := ?vf12) rfl (by kernel_rfl) (by kernel_rfl) (by kernel_rfl) (fun _ _ _ h => h) (by rfl) ?hf12 ?rf12
    case hf12 => (intro wg hSw; go_simp <;> with_reducible rfl)
    simp only [Act.put, List.setIfInBounds_toArray, List.set_cons_zero, List.set_cons_succ]
    refine wpR_take growOrd (i := 12) (v := ?vf13) rfl (by kernel_rfl) (by kernel_rfl) (by kernel_rfl) (fun _ _ _ h => h) (by rfl) ?hf13 ?rf13
    case hf13 => (intro wg hSw; go_simp <;> with_reducible rfl)
    simp only [Act.put, List.setIfInBounds_toArray, List.set_cons_zero, List.set_cons_succ]
    refine wpR_take growOrd (i := 13) (v := ?vf14) rfl (by kernel_rfl) (by kernel_rfl) (by kernel_rfl) (fun _ _ _ h => h) (by rfl) ?hf14 ?rf14
    case hf14 => (intro wg hSw; go_simp <;> with_reducible rfl)
    simp only [Act.put, List.setIfInBounds_toArray, List.set_cons_zero, List.set_cons_succ]
    refine wpR_take growOrd (i := 14) (v := ?vf15) rfl (by kernel_rfl) (by kernel_rfl) (by kernel_rfl) (fun _ _ _ h => h) (by rfl) ?hf15 ?rf15
    case hf15 => (intro wg hSw; go_simp <;> with_reducible rfl)
    simp only [Act.put, List.setIfInBounds_toArray, List.set_cons_zero, List.set_cons_succ]
    refine wpR_take growOrd (i := 15) (v := ?vf16) rfl (by kernel_rfl) (by kernel_rfl) (by kernel_rfl) (fun _ _ _ h => h) (by rfl) ?hf16 ?rf16
    case hf16 => (intro wg hSw; go_simp <;> with_reducible rfl)
    simp only [Act.put, List.setIfInBounds_toArray, List.set_cons_zero, List.set_cons_succ]
    refine wpR_take growOrd (i := 16) (v := ?vf17) rfl (by kernel_rfl) (by kernel_rfl) (by kernel_rfl) (fun _ _ _ h => h) (by rfl) ?hf17 ?rf17
    case hf17 => (intro wg hSw; go_simp <;> with_reducible rfl)
    simp only [Act.put, List.setIfInBounds_toArray, List.set_cons_zero, List.set_cons_succ]
    refine wpR_one (i := 17) (by kernel_rfl) ?_
    refine wpR_op (i := 17) rfl (by rfl) (fun K hK => ?_)
    go_simp
    refine (rsame_any A1 D1 sl sl c1 d1 nd.shp m.shp W0 HSL.out HSM.out hsl6 hsl6 (HND.out.grow (HW0.out.trans (Grow.refl W0))).1 (HMD.out.grow (HW0.out.trans (Grow.refl W0))).1).mono ?_
    rw [HSH.out, decide_eq_true rfl]
    rintro e wM17 ⟨rfl, hM17⟩
    refine hK.out _ _ hM17 ?_
    clear hK K
    try simp only [Act.put, List.setIfInBounds_toArray, List.set_cons_zero, List.set_cons_succ]
    refine wpR_take growOrd (i := 18) (v := ?vf18) rfl (by kernel_rfl) (by kernel_rfl) (by kernel_rfl) (fun _ _ _ h => h) (by rfl) ?hf18 ?rf18
    case hf18 => (intro wg hSw; go_simp <;> with_reducible rfl)
    simp only [Act.put, List.setIfInBounds_toArray, List.set_cons_zero, List.set_cons_succ]
    refine wpR_take growOrd (i := 19) (v := ?vf19) rfl (by kernel_rfl) (by kernel_rfl) (by kernel_rfl) (fun _ _ _ h => h) (by rfl) ?hf19 ?rf19
    case hf19 => (intro wg hSw; go_simp <;> with_reducible rfl)
    simp only [Act.put, List.setIfInBounds_toArray, List.set_cons_zero, List.set_cons_succ]
    refine wpR_done (by kernel_rfl) ?_
    have HGX := Lib.hid (HW0.out.trans hM17)
    clear p1 q1 hM17 HW0
    have HG4 := Lib.hid (HG3.out.trans HGX.out)
    have HND4 := Lib.hid (HND.out.grow HGX.out)
    have HMD4 := Lib.hid (HMD.out.grow HGX.out)
    have R0 : Hid (wM17.cell? ⟨b, off, none⟩ = some (.int .i64 nd.kind)) := Lib.hid ((HGX.out.cell (p := ⟨b, off, none⟩) HLB.out).trans P0.out)
    have R2 : Hid (wM17.cell? ⟨b, off + 2, none⟩ = some (.slice A2 nd.ints.length c2)) := Lib.hid ((HGX.out.cell (p := ⟨b, off + 2, none⟩) HLB.out).trans P2.out)
    have S0 : Hid (wM17.cell? ⟨g, 0, none⟩ = some (.int .i64 m.kind)) := Lib.hid ((HGX.out.cell (p := ⟨g, 0, none⟩) HLG.out).trans Q0.out)
    have S2 : Hid (wM17.cell? ⟨g, 2, none⟩ = some (.slice D2 m.ints.length d2)) := Lib.hid ((HGX.out.cell (p := ⟨g, 2, none⟩) HLG.out).trans Q2.out)
    have HLB4 : Hid (b < wM17.heap.size) := Lib.hid (Nat.lt_of_lt_of_le HLB.out HGX.out.size)
    have HLG4 : Hid (g < wM17.heap.size) := Lib.hid (Nat.lt_of_lt_of_le HLG.out HGX.out.size)
    clear HGX P0 P1 P2 Q0 Q1 Q2 HND HMD HG3 HLB HLG
    obtain ⟨kd, hkd⟩ : ∃ kd, nd.kind = kd := ⟨_, rfl⟩
    obtain ⟨km, hkm⟩ : ∃ km, m.kind = km := ⟨_, rfl⟩
    rw [hkd] at R0 HK3 HK12
    rw [hkm] at S0 HK3 HK12
    clear hkd hkm
    have r0' := R0.out
    by_cases h12 : kd = 1 ∨ kd = 2
    · obtain ⟨hr0, hie, hmk⟩ := HK12.out h12
      have HIE := Lib.hid hie
      obtain ⟨li, hli⟩ : ∃ li, nd.ints.length = li := ⟨_, rfl⟩
      have HLI := Lib.hid hli
      have HLJ : Hid (m.ints.length = li) := Lib.hid (by rw [hie, hli])
      have hli6 : li ≤ 1100000 := by rw [← hli]; exact HFN.out.2.2.1
      rw [hli] at R2
      rw [HLJ.out] at S2
      have hr1 : r = 1 := by have := HRL.out; rw [hr0] at this; exact this.symm
      subst hr1
      clear hr0 hie hli HK12 HK3 hri hrz hrz1 hrz2 hrp0 hrp hr100
      rcases h12 with rfl | rfl
      · rcases hmk with rfl | rfl
        · go_wp2
          refine wp_region_R Grow (n := 32) rfl (by kernel_rfl) ?_
          intro W0 hW0e hW0
          have HW1 := Lib.hid hW0
          have q0 : ∀ wg, Grow W0 wg → wg.cell? ⟨g, 0, none⟩ = some (.int .i64 1) := fun wg h => ((HW1.out.trans h).cell (p := ⟨g, 0, none⟩) HLG4.out).trans S0.out
          have p2 : ∀ wg, Grow W0 wg → wg.cell? ⟨b, off + 2, none⟩ = some (.slice A2 li c2) := fun wg h => ((HW1.out.trans h).cell (p := ⟨b, off + 2, none⟩) HLB4.out).trans R2.out
          have q2 : ∀ wg, Grow W0 wg → wg.cell? ⟨g, 2, none⟩ = some (.slice D2 li d2) := fun wg h => ((HW1.out.trans h).cell (p := ⟨g, 2, none⟩) HLG4.out).trans S2.out
          clear hW0e
          refine wpR_take growOrd (i := 0) (v := ?vf20) rfl (by kernel_rfl) (by kernel_rfl) (by kernel_rfl) (fun _ _ _ h => h) (by rfl) ?hf20 ?rf20
          case hf20 => (intro wg hSw; go_simp <;> with_reducible rfl)
          simp only [Act.put, List.setIfInBounds_toArray, List.set_cons_zero, List.set_cons_succ]
          refine wpR_take growOrd (i := 1) (v := ?vf21) rfl (by kernel_rfl) (by kernel_rfl) (by kernel_rfl) (fun _ _ _ h => h) (by rfl) ?hf21 ?rf21
          case hf21 => (intro wg hSw; go_simp <;> with_reducible rfl)
          simp only [Act.put, List.setIfInBounds_toArray, List.set_cons_zero, List.set_cons_succ]
          refine wpR_take growOrd (i := 2) (v := ?vf22) rfl (by kernel_rfl) (by kernel_rfl) (by kernel_rfl) (fun _ _ _ h => h) (by rfl) ?hf22 ?rf22
          case hf22 => (intro wg hSw; go_simp <;> with_reducible rfl)
          simp only [Act.put, List.setIfInBounds_toArray, List.set_cons_zero, List.set_cons_succ]
          refine wpR_take growOrd (i := 3) (v := ?vf23) rfl (by kernel_rfl) (by kernel_rfl) (by kernel_rfl) (fun _ _ _ h => h) (by rfl) ?hf23 ?rf23
          case hf23 => (intro wg hSw; go_simp <;> with_reducible rfl)
          simp only [Act.put, List.setIfInBounds_toArray, List.set_cons_zero, List.set_cons_succ]
          refine wpR_take growOrd (i := 4) (v := ?vf24) rfl (by kernel_rfl) (by kernel_rfl) (by kernel_rfl) (fun _ _ _ h => h) (by rfl) ?hf24 ?rf24
          case hf24 => (intro wg hSw; go_simp <;> with_reducible rfl)
          simp only [Act.put, List.setIfInBounds_toArray, List.set_cons_zero, List.set_cons_succ]
          refine wpR_take growOrd (i := 5) (v := ?vf25) rfl (by kernel_rfl) (by kernel_rfl) (by kernel_rfl) (fun _ _ _ h => h) (by rfl) ?hf25 ?rf25
          case hf25 => (intro wg hSw; go_simp <;> with_reducible rfl)
          simp only [Act.put, List.setIfInBounds_toArray, List.set_cons_zero, List.set_cons_succ]
          refine wpR_take growOrd (i := 6) (v := ?vf26) rfl (by kernel_rfl) (by kernel_rfl) (by kernel_rfl) (fun _ _ _ h => h) (by rfl) ?hf26 ?rf26
          case hf26 => (intro wg hSw; go_simp <;> with_reducible rfl)
          simp only [Act.put, List.setIfInBounds_toArray, List.set_cons_zero, List.set_cons_succ]
          refine wpR_take growOrd (i := 7) (v := ?vf27) rfl (by kernel_rfl) (by kernel_rfl) (by kernel_rfl) (fun _ _ _ h => h) (by rfl) ?hf27 ?rf27
          case hf27 => (intro wg hSw; go_simp <;> with_reducible rfl)
          simp only [Act.put, List.setIfInBounds_toArray, List.set_cons_zero, List.set_cons_succ]
          refine wpR_take growOrd (i := 8) (v := ?vf28) rfl (by kernel_rfl) (by kernel_rfl) (by kernel_rfl) (fun _ _ _ h => h) (by rfl) ?hf28 ?rf28
          case hf28 => (intro wg hSw; go_simp <;> with_reducible rfl)
          simp only [Act.put, List.setIfInBounds_toArray, List.set_cons_zero, List.set_cons_succ]
          refine wpR_take growOrd (i := 9) (v := ?vf29) rfl (by kernel_rfl) (by kernel_rfl) (by kernel_rfl) (fun _ _ _ h => h) (by rfl) ?hf29 ?rf29
          case hf29 => (intro wg hSw; go_simp <;> with_reducible rfl)
          simp only [Act.put, List.setIfInBounds_toArray, List.set_cons_zero, List.set_cons_succ]
          refine wpR_take growOrd (i := 10) (v := ?vf30) rfl (by kernel_rfl) (by kernel_rfl) (by kernel_rfl) (fun _ _ _ h => h) (by rfl) ?hf30 ?rf30
          case hf30 => (intro wg hSw; go_simp <;> with_reducible rfl)
          simp only [Act.put, List.setIfInBounds_toArray, List.set_cons_zero, List.set_cons_succ]
          refine wpR_take growOrd (i := 11) (v := ?vf31) rfl (by kernel_rfl) (by kernel_rfl) (by kernel_rfl) (fun _ _ _ h => h) (by rfl) ?hf31 ?rf31
          case hf31 => (intro wg hSw; go_simp <;> with_reducible rfl)
          simp only [Act.put, List.setIfInBounds_toArray, List.set_cons_zero, List.set_cons_succ]
          refine wpR_take growOrd (i := 12) (v := ?vf32) rfl (by kernel_rfl) (by kernel_rfl) (by kernel_rfl) (fun _ _ _ h => h) (by rfl) ?hf32 ?rf32
          case hf32 => (intro wg hSw; go_simp <;> with_reducible rfl)
          simp only [Act.put, List.setIfInBounds_toArray, List.set_cons_zero, List.set_cons_succ]
          refine wpR_take growOrd (i := 13) (v := ?vf33) rfl (by kernel_rfl) (by kernel_rfl) (by kernel_rfl) (fun _ _ _ h => h) (by rfl) ?hf33 ?rf33
          case hf33 => (intro wg hSw; go_simp <;> with_reducible rfl)
          simp only [Act.put, List.setIfInBounds_toArray, List.set_cons_zero, List.set_cons_succ]
          refine wpR_take growOrd (i := 14) (v := ?vf34) rfl (by kernel_rfl) (by kernel_rfl) (by kernel_rfl) (fun _ _ _ h => h) (by rfl) ?hf34 ?rf34
          case hf34 => (intro wg hSw; go_simp <;> with_reducible rfl)
          simp only [Act.put, List.setIfInBounds_toArray, List.set_cons_zero, List.set_cons_succ]
          refine wpR_one (i := 15) (by kernel_rfl) ?_
          refine wpR_op (i := 15) rfl (by rfl) (fun K hK => ?_)
          go_simp
          refine (rsame_any A2 D2 li li c2 d2 nd.ints m.ints W0 HLI.out HLJ.out hli6 hli6 (HND4.out.grow (HW1.out.trans (Grow.refl W0))).2.1 (HMD4.out.grow (HW1.out.trans (Grow.refl W0))).2.1).mono ?_
          rw [HIE.out, decide_eq_true rfl]
          rintro e wM15 ⟨rfl, hM15⟩
          have q0' : ∀ wg, Grow wM15 wg → wg.cell? ⟨g, 0, none⟩ = some (.int .i64 1) := fun wg h => q0 wg (hM15.trans h)
          refine hK.out _ _ hM15 ?_
          clear hK K
          try simp only [Act.put, List.setIfInBounds_toArray, List.set_cons_zero, List.set_cons_succ]
          refine wpR_take growOrd (i := 16) (v := ?vf35) rfl (by kernel_rfl) (by kernel_rfl) (by kernel_rfl) (fun _ _ _ h => h) (by rfl) ?hf35 ?rf35
          case hf35 => (intro wg hSw; go_simp <;> with_reducible rfl)
          simp only [Act.put, List.setIfInBounds_toArray, List.set_cons_zero, List.set_cons_succ]
          refine wpR_take growOrd (i := 17) (v := ?vf36) rfl (by kernel_rfl) (by kernel_rfl) (by kernel_rfl) (fun _ _ _ h => h) (by rfl) ?hf36 ?rf36
          case hf36 => (intro wg hSw; go_simp <;> with_reducible rfl)
          simp only [Act.put, List.setIfInBounds_toArray, List.set_cons_zero, List.set_cons_succ]
          refine wpR_take growOrd (i := 18) (v := ?vf37) rfl (by kernel_rfl) (by kernel_rfl) (by kernel_rfl) (fun _ _ _ h => h) (by rfl) ?hf37 ?rf37
          case hf37 => (intro wg hSw; go_simp <;> with_reducible rfl)
          simp only [Act.put, List.setIfInBounds_toArray, List.set_cons_zero, List.set_cons_succ]
          refine wpR_take growOrd (i := 19) (v := ?vf38) rfl (by kernel_rfl) (by kernel_rfl) (by kernel_rfl) (fun _ _ _ h => h) (by rfl) ?hf38 ?rf38
          case hf38 => (intro wg hSw; go_simp <;> with_reducible rfl)
          simp only [Act.put, List.setIfInBounds_toArray, List.set_cons_zero, List.set_cons_succ]
          refine wpR_take growOrd (i := 20) (v := ?vf39) rfl (by kernel_rfl) (by kernel_rfl) (by kernel_rfl) (fun _ _ _ h => h) (by rfl) ?hf39 ?rf39
          case hf39 => (intro wg hSw; go_simp <;> with_reducible rfl)
          simp only [Act.put, List.setIfInBounds_toArray, List.set_cons_zero, List.set_cons_succ]
          refine wpR_take growOrd (i := 21) (v := ?vf40) rfl (by kernel_rfl) (by kernel_rfl) (by kernel_rfl) (fun _ _ _ h => h) (by rfl) ?hf40 ?rf40
          case hf40 => (intro wg hSw; go_simp <;> with_reducible rfl)
          simp only [Act.put, List.setIfInBounds_toArray, List.set_cons_zero, List.set_cons_succ]
          refine wpR_take growOrd (i := 22) (v := ?vf41) rfl (by kernel_rfl) (by kernel_rfl) (by kernel_rfl) (fun _ _ _ h => h) (by rfl) ?hf41 ?rf41
          case hf41 => (intro wg hSw; go_simp <;> with_reducible rfl)
          simp only [Act.put, List.setIfInBounds_toArray, List.set_cons_zero, List.set_cons_succ]
          refine wpR_take growOrd (i := 23) (v := ?vf42) rfl (by kernel_rfl) (by kernel_rfl) (by kernel_rfl) (fun _ _ _ h => h) (by rfl) ?hf42 ?rf42
          case hf42 => (intro wg hSw; go_simp <;> with_reducible rfl)
          simp only [Act.put, List.setIfInBounds_toArray, List.set_cons_zero, List.set_cons_succ]
          refine wpR_pass growOrd (i := 24) rfl (by kernel_rfl) (by kernel_rfl) (by kernel_rfl) (fun _ _ _ h => h) (by rfl) ?_
          simp only [Act.put, List.setIfInBounds_toArray, List.set_cons_zero, List.set_cons_succ]
          refine wpR_pass growOrd (i := 25) rfl (by kernel_rfl) (by kernel_rfl) (by kernel_rfl) (fun _ _ _ h => h) (by rfl) ?_
          simp only [Act.put, List.setIfInBounds_toArray, List.set_cons_zero, List.set_cons_succ]
          refine wpR_pass growOrd (i := 26) rfl (by kernel_rfl) (by kernel_rfl) (by kernel_rfl) (fun _ _ _ h => h) (by rfl) ?_
          simp only [Act.put, List.setIfInBounds_toArray, List.set_cons_zero, List.set_cons_succ]
          refine wpR_pass growOrd (i := 27) rfl (by kernel_rfl) (by kernel_rfl) (by kernel_rfl) (fun _ _ _ h => h) (by rfl) ?_
          simp only [Act.put, List.setIfInBounds_toArray, List.set_cons_zero, List.set_cons_succ]
          refine wpR_pass growOrd (i := 28) rfl (by kernel_rfl) (by kernel_rfl) (by kernel_rfl) (fun _ _ _ h => h) (by rfl) ?_
          simp only [Act.put, List.setIfInBounds_toArray, List.set_cons_zero, List.set_cons_succ]
          refine wpR_take growOrd (i := 29) (v := ?vf43) rfl (by kernel_rfl) (by kernel_rfl) (by kernel_rfl) (fun _ _ _ h => h) (by rfl) ?hf43 ?rf43
          case hf43 => (intro wg hSw; go_simp <;> with_reducible rfl)
          simp only [Act.put, List.setIfInBounds_toArray, List.set_cons_zero, List.set_cons_succ]
          refine wpR_take growOrd (i := 30) (v := ?vf44) rfl (by kernel_rfl) (by kernel_rfl) (by kernel_rfl) (fun _ _ _ h => h) (by rfl) ?hf44 ?rf44
          case hf44 => (intro wg hSw; go_simp <;> with_reducible rfl)
          simp only [Act.put, List.setIfInBounds_toArray, List.set_cons_zero, List.set_cons_succ]
          refine wpR_take growOrd (i := 31) (v := ?vf45) rfl (by kernel_rfl) (by kernel_rfl) (by kernel_rfl) (fun _ _ _ h => h) (by rfl) ?hf45 ?rf45
          case hf45 => (intro wg hSw; go_simp <;> with_reducible rfl)
          simp only [Act.put, List.setIfInBounds_toArray, List.set_cons_zero, List.set_cons_succ]
          refine wpR_done (by kernel_rfl) ?_
          have HGZ := Lib.hid ((HG4.out.trans HW1.out).trans (Grow.trans (Grow.refl W0) hM15))
          clear p2 q2 q0 q0'
          go_wp2
          go_ret
          exact ⟨rfl, HGZ.out⟩
        · go_wp2
          refine wp_region_R Grow (n := 32) rfl (by kernel_rfl) ?_
          intro W0 hW0e hW0
          have HW1 := Lib.hid hW0
          have q0 : ∀ wg, Grow W0 wg → wg.cell? ⟨g, 0, none⟩ = some (.int .i64 2) := fun wg h => ((HW1.out.trans h).cell (p := ⟨g, 0, none⟩) HLG4.out).trans S0.out
          have p2 : ∀ wg, Grow W0 wg → wg.cell? ⟨b, off + 2, none⟩ = some (.slice A2 li c2) := fun wg h => ((HW1.out.trans h).cell (p := ⟨b, off + 2, none⟩) HLB4.out).trans R2.out
          have q2 : ∀ wg, Grow W0 wg → wg.cell? ⟨g, 2, none⟩ = some (.slice D2 li d2) := fun wg h => ((HW1.out.trans h).cell (p := ⟨g, 2, none⟩) HLG4.out).trans S2.out
          clear hW0e
          refine wpR_take growOrd (i := 0) (v := ?vf46) rfl (by kernel_rfl) (by kernel_rfl) (by kernel_rfl) (fun _ _ _ h => h) (by rfl) ?hf46 ?rf46
          case hf46 => (intro wg hSw; go_simp <;> with_reducible rfl)
          simp only [Act.put, List.setIfInBounds_toArray, List.set_cons_zero, List.set_cons_succ]
          refine wpR_take growOrd (i := 1) (v := ?vf47) rfl (by kernel_rfl) (by kernel_rfl) (by kernel_rfl) (fun _ _ _ h => h) (by rfl) ?hf47 ?rf47
          case hf47 => (intro wg hSw; go_simp <;> with_reducible rfl)
          simp only [Act.put, List.setIfInBounds_toArray, List.set_cons_zero, List.set_cons_succ]
          refine wpR_take growOrd (i := 2) (v := ?vf48) rfl (by kernel_rfl) (by kernel_rfl) (by kernel_rfl) (fun _ _ _ h => h) (by rfl) ?hf48 ?rf48
          case hf48 => (intro wg hSw; go_simp <;> with_reducible rfl)
          simp only [Act.put, List.setIfInBounds_toArray, List.set_cons_zero, List.set_cons_succ]
          refine wpR_take growOrd (i := 3) (v := ?vf49) rfl (by kernel_rfl) (by kernel_rfl) (by kernel_rfl) (fun _ _ _ h => h) (by rfl) ?hf49 ?rf49
          case hf49 => (intro wg hSw; go_simp <;> with_reducible rfl)
          simp only [Act.put, List.setIfInBounds_toArray, List.set_cons_zero, List.set_cons_succ]
          refine wpR_take growOrd (i := 4) (v := ?vf50) rfl (by kernel_rfl) (by kernel_rfl) (by kernel_rfl) (fun _ _ _ h => h) (by rfl) ?hf50 ?rf50
          case hf50 => (intro wg hSw; go_simp <;> with_reducible rfl)
          simp only [Act.put, List.setIfInBounds_toArray, List.set_cons_zero, List.set_cons_succ]
          refine wpR_take growOrd (i := 5) (v := ?vf51) rfl (by kernel_rfl) (by kernel_rfl) (by kernel_rfl) (fun _ _ _ h => h) (by rfl) ?hf51 ?rf51
          case hf51 => (intro wg hSw; go_simp <;> with_reducible rfl)
          simp only [Act.put, List.setIfInBounds_toArray, List.set_cons_zero, List.set_cons_succ]
          refine wpR_take growOrd (i := 6) (v := ?vf52) rfl (by kernel_rfl) (by kernel_rfl) (by kernel_rfl) (fun _ _ _ h => h) (by rfl) ?hf52 ?rf52
          case hf52 => (intro wg hSw; go_simp <;> with_reducible rfl)
          simp only [Act.put, List.setIfInBounds_toArray, List.set_cons_zero, List.set_cons_succ]
          refine wpR_take growOrd (i := 7) (v := ?vf53) rfl (by kernel_rfl) (by kernel_rfl) (by kernel_rfl) (fun _ _ _ h => h) (by rfl) ?hf53 ?rf53
          case hf53 => (intro wg hSw; go_simp <;> with_reducible rfl)
          simp only [Act.put, List.setIfInBounds_toArray, List.set_cons_zero, List.set_cons_succ]
          refine wpR_take growOrd (i := 8) (v := ?vf54) rfl (by kernel_rfl) (by kernel_rfl) (by kernel_rfl) (fun _ _ _ h => h) (by rfl) ?hf54 ?rf54
          case hf54 => (intro wg hSw; go_simp <;> with_reducible rfl)
          simp only [Act.put, List.setIfInBounds_toArray, List.set_cons_zero, List.set_cons_succ]
          refine wpR_take growOrd (i := 9) (v := ?vf55) rfl (by kernel_rfl) (by kernel_rfl) (by kernel_rfl) (fun _ _ _ h => h) (by rfl) ?hf55 ?rf55
          case hf55 => (intro wg hSw; go_simp <;> with_reducible rfl)
          simp only [Act.put, List.setIfInBounds_toArray, List.set_cons_zero, List.set_cons_succ]
          refine wpR_take growOrd (i := 10) (v := ?vf56) rfl (by kernel_rfl) (by kernel_rfl) (by kernel_rfl) (fun _ _ _ h => h) (by rfl) ?hf56 ?rf56
          case hf56 => (intro wg hSw; go_simp <;> with_reducible rfl)
          simp only [Act.put, List.setIfInBounds_toArray, List.set_cons_zero, List.set_cons_succ]
          refine wpR_take growOrd (i := 11) (v := ?vf57) rfl (by kernel_rfl) (by kernel_rfl) (by kernel_rfl) (fun _ _ _ h => h) (by rfl) ?hf57 ?rf57
          case hf57 => (intro wg hSw; go_simp <;> with_reducible rfl)
          simp only [Act.put, List.setIfInBounds_toArray, List.set_cons_zero, List.set_cons_succ]
          refine wpR_take growOrd (i := 12) (v := ?vf58) rfl (by kernel_rfl) (by kernel_rfl) (by kernel_rfl) (fun _ _ _ h => h) (by rfl) ?hf58 ?rf58
          case hf58 => (intro wg hSw; go_simp <;> with_reducible rfl)
          simp only [Act.put, List.setIfInBounds_toArray, List.set_cons_zero, List.set_cons_succ]
          refine wpR_take growOrd (i := 13) (v := ?vf59) rfl (by kernel_rfl) (by kernel_rfl) (by kernel_rfl) (fun _ _ _ h => h) (by rfl) ?hf59 ?rf59
          case hf59 => (intro wg hSw; go_simp <;> with_reducible rfl)
          simp only [Act.put, List.setIfInBounds_toArray, List.set_cons_zero, List.set_cons_succ]
          refine wpR_take growOrd (i := 14) (v := ?vf60) rfl (by kernel_rfl) (by kernel_rfl) (by kernel_rfl) (fun _ _ _ h => h) (by rfl) ?hf60 ?rf60
          case hf60 => (intro wg hSw; go_simp <;> with_reducible rfl)
          simp only [Act.put, List.setIfInBounds_toArray, List.set_cons_zero, List.set_cons_succ]
          refine wpR_one (i := 15) (by kernel_rfl) ?_
          refine wpR_op (i := 15) rfl (by rfl) (fun K hK => ?_)
          go_simp
          refine (rsame_any A2 D2 li li c2 d2 nd.ints m.ints W0 HLI.out HLJ.out hli6 hli6 (HND4.out.grow (HW1.out.trans (Grow.refl W0))).2.1 (HMD4.out.grow (HW1.out.trans (Grow.refl W0))).2.1).mono ?_
          rw [HIE.out, decide_eq_true rfl]
          rintro e wM15 ⟨rfl, hM15⟩
          have q0' : ∀ wg, Grow wM15 wg → wg.cell? ⟨g, 0, none⟩ = some (.int .i64 2) := fun wg h => q0 wg (hM15.trans h)
          refine hK.out _ _ hM15 ?_
          clear hK K
          try simp only [Act.put, List.setIfInBounds_toArray, List.set_cons_zero, List.set_cons_succ]
          refine wpR_take growOrd (i := 16) (v := ?vf61) rfl (by kernel_rfl) (by kernel_rfl) (by kernel_rfl) (fun _ _ _ h => h) (by rfl) ?hf61 ?rf61
          case hf61 => (intro wg hSw; go_simp <;> with_reducible rfl)
          simp only [Act.put, List.setIfInBounds_toArray, List.set_cons_zero, List.set_cons_succ]
          refine wpR_take growOrd (i := 17) (v := ?vf62) rfl (by kernel_rfl) (by kernel_rfl) (by kernel_rfl) (fun _ _ _ h => h) (by rfl) ?hf62 ?rf62
          case hf62 => (intro wg hSw; go_simp <;> with_reducible rfl)
          simp only [Act.put, List.setIfInBounds_toArray, List.set_cons_zero, List.set_cons_succ]
          refine wpR_take growOrd (i := 18) (v := ?vf63) rfl (by kernel_rfl) (by kernel_rfl) (by kernel_rfl) (fun _ _ _ h => h) (by rfl) ?hf63 ?rf63
          case hf63 => (intro wg hSw; go_simp <;> with_reducible rfl)
          simp only [Act.put, List.setIfInBounds_toArray, List.set_cons_zero, List.set_cons_succ]
          refine wpR_take growOrd (i := 19) (v := ?vf64) rfl (by kernel_rfl) (by kernel_rfl) (by kernel_rfl) (fun _ _ _ h => h) (by rfl) ?hf64 ?rf64
          case hf64 => (intro wg hSw; go_simp <;> with_reducible rfl)
          simp only [Act.put, List.setIfInBounds_toArray, List.set_cons_zero, List.set_cons_succ]
          refine wpR_take growOrd (i := 20) (v := ?vf65) rfl (by kernel_rfl) (by kernel_rfl) (by kernel_rfl) (fun _ _ _ h => h) (by rfl) ?hf65 ?rf65
          case hf65 => (intro wg hSw; go_simp <;> with_reducible rfl)
          simp only [Act.put, List.setIfInBounds_toArray, List.set_cons_zero, List.set_cons_succ]
          refine wpR_take growOrd (i := 21) (v := ?vf66) rfl (by kernel_rfl) (by kernel_rfl) (by kernel_rfl) (fun _ _ _ h => h) (by rfl) ?hf66 ?rf66
          case hf66 => (intro wg hSw; go_simp <;> with_reducible rfl)
          simp only [Act.put, List.setIfInBounds_toArray, List.set_cons_zero, List.set_cons_succ]
          refine wpR_take growOrd (i := 22) (v := ?vf67) rfl (by kernel_rfl) (by kernel_rfl) (by kernel_rfl) (fun _ _ _ h => h) (by rfl) ?hf67 ?rf67
          case hf67 => (intro wg hSw; go_simp <;> with_reducible rfl)
          simp only [Act.put, List.setIfInBounds_toArray, List.set_cons_zero, List.set_cons_succ]
          refine wpR_take growOrd (i := 23) (v := ?vf68) rfl (by kernel_rfl) (by kernel_rfl) (by kernel_rfl) (fun _ _ _ h => h) (by rfl) ?hf68 ?rf68
          case hf68 => (intro wg hSw; go_simp <;> with_reducible rfl)
          simp only [Act.put, List.setIfInBounds_toArray, List.set_cons_zero, List.set_cons_succ]
          refine wpR_take growOrd (i := 24) (v := ?vf69) rfl (by kernel_rfl) (by kernel_rfl) (by kernel_rfl) (fun _ _ _ h => h) (by rfl) ?hf69 ?rf69
          case hf69 => (intro wg hSw; go_simp <;> with_reducible rfl)
          simp only [Act.put, List.setIfInBounds_toArray, List.set_cons_zero, List.set_cons_succ]
          refine wpR_take growOrd (i := 25) (v := ?vf70) rfl (by kernel_rfl) (by kernel_rfl) (by kernel_rfl) (fun _ _ _ h => h) (by rfl) ?hf70 ?rf70
          case hf70 => (intro wg hSw; go_simp <;> with_reducible rfl)
          simp only [Act.put, List.setIfInBounds_toArray, List.set_cons_zero, List.set_cons_succ]
          refine wpR_take growOrd (i := 26) (v := ?vf71) rfl (by kernel_rfl) (by kernel_rfl) (by kernel_rfl) (fun _ _ _ h => h) (by rfl) ?hf71 ?rf71
          case hf71 => (intro wg hSw; go_simp <;> with_reducible rfl)
          simp only [Act.put, List.setIfInBounds_toArray, List.set_cons_zero, List.set_cons_succ]
          refine wpR_take growOrd (i := 27) (v := ?vf72) rfl (by kernel_rfl) (by kernel_rfl) (by kernel_rfl) (fun _ _ _ h => h) (by rfl) ?hf72 ?rf72
          case hf72 => (intro wg hSw; go_simp <;> with_reducible rfl)
          simp only [Act.put, List.setIfInBounds_toArray, List.set_cons_zero, List.set_cons_succ]
          refine wpR_take growOrd (i := 28) (v := ?vf73) rfl (by kernel_rfl) (by kernel_rfl) (by kernel_rfl) (fun _ _ _ h => h) (by rfl) ?hf73 ?rf73
          case hf73 => (intro wg hSw; go_simp <;> with_reducible rfl)
          simp only [Act.put, List.setIfInBounds_toArray, List.set_cons_zero, List.set_cons_succ]
          refine wpR_take growOrd (i := 29) (v := ?vf74) rfl (by kernel_rfl) (by kernel_rfl) (by kernel_rfl) (fun _ _ _ h => h) (by rfl) ?hf74 ?rf74
          case hf74 => (intro wg hSw; go_simp <;> with_reducible rfl)
          simp only [Act.put, List.setIfInBounds_toArray, List.set_cons_zero, List.set_cons_succ]
          refine wpR_take growOrd (i := 30) (v := ?vf75) rfl (by kernel_rfl) (by kernel_rfl) (by kernel_rfl) (fun _ _ _ h => h) (by rfl) ?hf75 ?rf75
          case hf75 => (intro wg hSw; go_simp <;> with_reducible rfl)
          simp only [Act.put, List.setIfInBounds_toArray, List.set_cons_zero, List.set_cons_succ]
          refine wpR_take growOrd (i := 31) (v := ?vf76) rfl (by kernel_rfl) (by kernel_rfl) (by kernel_rfl) (fun _ _ _ h => h) (by rfl) ?hf76 ?rf76
          case hf76 => (intro wg hSw; go_simp <;> with_reducible rfl)
          simp only [Act.put, List.setIfInBounds_toArray, List.set_cons_zero, List.set_cons_succ]
          refine wpR_done (by kernel_rfl) ?_
          have HGZ := Lib.hid ((HG4.out.trans HW1.out).trans (Grow.trans (Grow.refl W0) hM15))
          clear p2 q2 q0 q0'
          go_wp2
          go_ret
          exact ⟨rfl, HGZ.out⟩
      · rcases hmk with rfl | rfl
        · go_wp2
          refine wp_region_R Grow (n := 32) rfl (by kernel_rfl) ?_
          intro W0 hW0e hW0
          have HW1 := Lib.hid hW0
          have q0 : ∀ wg, Grow W0 wg → wg.cell? ⟨g, 0, none⟩ = some (.int .i64 1) := fun wg h => ((HW1.out.trans h).cell (p := ⟨g, 0, none⟩) HLG4.out).trans S0.out
          have p2 : ∀ wg, Grow W0 wg → wg.cell? ⟨b, off + 2, none⟩ = some (.slice A2 li c2) := fun wg h => ((HW1.out.trans h).cell (p := ⟨b, off + 2, none⟩) HLB4.out).trans R2.out
          have q2 : ∀ wg, Grow W0 wg → wg.cell? ⟨g, 2, none⟩ = some (.slice D2 li d2) := fun wg h => ((HW1.out.trans h).cell (p := ⟨g, 2, none⟩) HLG4.out).trans S2.out
          clear hW0e
          refine wpR_take growOrd (i := 0) (v := ?vf77) rfl (by kernel_rfl) (by kernel_rfl) (by kernel_rfl) (fun _ _ _ h => h) (by rfl) ?hf77 ?rf77
          case hf77 => (intro wg hSw; go_simp <;> with_reducible rfl)
          simp only [Act.put, List.setIfInBounds_toArray, List.set_cons_zero, List.set_cons_succ]
          refine wpR_take growOrd (i := 1) (v := ?vf78) rfl (by kernel_rfl) (by kernel_rfl) (by kernel_rfl) (fun _ _ _ h => h) (by rfl) ?hf78 ?rf78
          case hf78 => (intro wg hSw; go_simp <;> with_reducible rfl)
          simp only [Act.put, List.setIfInBounds_toArray, List.set_cons_zero, List.set_cons_succ]
          refine wpR_take growOrd (i := 2) (v := ?vf79) rfl (by kernel_rfl) (by kernel_rfl) (by kernel_rfl) (fun _ _ _ h => h) (by rfl) ?hf79 ?rf79
          case hf79 => (intro wg hSw; go_simp <;> with_reducible rfl)
          simp only [Act.put, List.setIfInBounds_toArray, List.set_cons_zero, List.set_cons_succ]
          refine wpR_take growOrd (i := 3) (v := ?vf80) rfl (by kernel_rfl) (by kernel_rfl) (by kernel_rfl) (fun _ _ _ h => h) (by rfl) ?hf80 ?rf80
          case hf80 => (intro wg hSw; go_simp <;> with_reducible rfl)
          simp only [Act.put, List.setIfInBounds_toArray, List.set_cons_zero, List.set_cons_succ]
          refine wpR_take growOrd (i := 4) (v := ?vf81) rfl (by kernel_rfl) (by kernel_rfl) (by kernel_rfl) (fun _ _ _ h => h) (by rfl) ?hf81 ?rf81
          case hf81 => (intro wg hSw; go_simp <;> with_reducible rfl)
          simp only [Act.put, List.setIfInBounds_toArray, List.set_cons_zero, List.set_cons_succ]
          refine wpR_take growOrd (i := 5) (v := ?vf82) rfl (by kernel_rfl) (by kernel_rfl) (by kernel_rfl) (fun _ _ _ h => h) (by rfl) ?hf82 ?rf82
          case hf82 => (intro wg hSw; go_simp <;> with_reducible rfl)
          simp only [Act.put, List.setIfInBounds_toArray, List.set_cons_zero, List.set_cons_succ]
          refine wpR_take growOrd (i := 6) (v := ?vf83) rfl (by kernel_rfl) (by kernel_rfl) (by kernel_rfl) (fun _ _ _ h => h) (by rfl) ?hf83 ?rf83
          case hf83 => (intro wg hSw; go_simp <;> with_reducible rfl)
          simp only [Act.put, List.setIfInBounds_toArray, List.set_cons_zero, List.set_cons_succ]
          refine wpR_take growOrd (i := 7) (v := ?vf84) rfl (by kernel_rfl) (by kernel_rfl) (by kernel_rfl) (fun _ _ _ h => h) (by rfl) ?hf84 ?rf84
          case hf84 => (intro wg hSw; go_simp <;> with_reducible rfl)
          simp only [Act.put, List.setIfInBounds_toArray, List.set_cons_zero, List.set_cons_succ]
          refine wpR_take growOrd (i := 8) (v := ?vf85) rfl (by kernel_rfl) (by kernel_rfl) (by kernel_rfl) (fun _ _ _ h => h) (by rfl) ?hf85 ?rf85
          case hf85 => (intro wg hSw; go_simp <;> with_reducible rfl)
          simp only [Act.put, List.setIfInBounds_toArray, List.set_cons_zero, List.set_cons_succ]
          refine wpR_take growOrd (i := 9) (v := ?vf86) rfl (by kernel_rfl) (by kernel_rfl) (by kernel_rfl) (fun _ _ _ h => h) (by rfl) ?hf86 ?rf86
          case hf86 => (intro wg hSw; go_simp <;> with_reducible rfl)
          simp only [Act.put, List.setIfInBounds_toArray, List.set_cons_zero, List.set_cons_succ]
          refine wpR_take growOrd (i := 10) (v := ?vf87) rfl (by kernel_rfl) (by kernel_rfl) (by kernel_rfl) (fun _ _ _ h => h) (by rfl) ?hf87 ?rf87
          case hf87 => (intro wg hSw; go_simp <;> with_reducible rfl)
          simp only [Act.put, List.setIfInBounds_toArray, List.set_cons_zero, List.set_cons_succ]
          refine wpR_take growOrd (i := 11) (v := ?vf88) rfl (by kernel_rfl) (by kernel_rfl) (by kernel_rfl) (fun _ _ _ h => h) (by rfl) ?hf88 ?rf88
          case hf88 => (intro wg hSw; go_simp <;> with_reducible rfl)
          simp only [Act.put, List.setIfInBounds_toArray, List.set_cons_zero, List.set_cons_succ]
          refine wpR_take growOrd (i := 12) (v := ?vf89) rfl (by kernel_rfl) (by kernel_rfl) (by kernel_rfl) (fun _ _ _ h => h) (by rfl) ?hf89 ?rf89
          case hf89 => (intro wg hSw; go_simp <;> with_reducible rfl)
          simp only [Act.put, List.setIfInBounds_toArray, List.set_cons_zero, List.set_cons_succ]
          refine wpR_take growOrd (i := 13) (v := ?vf90) rfl (by kernel_rfl) (by kernel_rfl) (by kernel_rfl) (fun _ _ _ h => h) (by rfl) ?hf90 ?rf90
          case hf90 => (intro wg hSw; go_simp <;> with_reducible rfl)
          simp only [Act.put, List.setIfInBounds_toArray, List.set_cons_zero, List.set_cons_succ]
          refine wpR_take growOrd (i := 14) (v := ?vf91) rfl (by kernel_rfl) (by kernel_rfl) (by kernel_rfl) (fun _ _ _ h => h) (by rfl) ?hf91 ?rf91
          case hf91 => (intro wg hSw; go_simp <;> with_reducible rfl)
          simp only [Act.put, List.setIfInBounds_toArray, List.set_cons_zero, List.set_cons_succ]
          refine wpR_one (i := 15) (by kernel_rfl) ?_
          refine wpR_op (i := 15) rfl (by rfl) (fun K hK => ?_)
          go_simp
          refine (rsame_any A2 D2 li li c2 d2 nd.ints m.ints W0 HLI.out HLJ.out hli6 hli6 (HND4.out.grow (HW1.out.trans (Grow.refl W0))).2.1 (HMD4.out.grow (HW1.out.trans (Grow.refl W0))).2.1).mono ?_
          rw [HIE.out, decide_eq_true rfl]
          rintro e wM15 ⟨rfl, hM15⟩
          have q0' : ∀ wg, Grow wM15 wg → wg.cell? ⟨g, 0, none⟩ = some (.int .i64 1) := fun wg h => q0 wg (hM15.trans h)
          refine hK.out _ _ hM15 ?_
          clear hK K
          try simp only [Act.put, List.setIfInBounds_toArray, List.set_cons_zero, List.set_cons_succ]
          refine wpR_take growOrd (i := 16) (v := ?vf92) rfl (by kernel_rfl) (by kernel_rfl) (by kernel_rfl) (fun _ _ _ h => h) (by rfl) ?hf92 ?rf92
          case hf92 => (intro wg hSw; go_simp <;> with_reducible rfl)
          simp only [Act.put, List.setIfInBounds_toArray, List.set_cons_zero, List.set_cons_succ]
          refine wpR_take growOrd (i := 17) (v := ?vf93) rfl (by kernel_rfl) (by kernel_rfl) (by kernel_rfl) (fun _ _ _ h => h) (by rfl) ?hf93 ?rf93
          case hf93 => (intro wg hSw; go_simp <;> with_reducible rfl)
          simp only [Act.put, List.setIfInBounds_toArray, List.set_cons_zero, List.set_cons_succ]
          refine wpR_take growOrd (i := 18) (v := ?vf94) rfl (by kernel_rfl) (by kernel_rfl) (by kernel_rfl) (fun _ _ _ h => h) (by rfl) ?hf94 ?rf94
          case hf94 => (intro wg hSw; go_simp <;> with_reducible rfl)
          simp only [Act.put, List.setIfInBounds_toArray, List.set_cons_zero, List.set_cons_succ]
          refine wpR_take growOrd (i := 19) (v := ?vf95) rfl (by kernel_rfl) (by kernel_rfl) (by kernel_rfl) (fun _ _ _ h => h) (by rfl) ?hf95 ?rf95
          case hf95 => (intro wg hSw; go_simp <;> with_reducible rfl)
          simp only [Act.put, List.setIfInBounds_toArray, List.set_cons_zero, List.set_cons_succ]
          refine wpR_take growOrd (i := 20) (v := ?vf96) rfl (by kernel_rfl) (by kernel_rfl) (by kernel_rfl) (fun _ _ _ h => h) (by rfl) ?hf96 ?rf96
          case hf96 => (intro wg hSw; go_simp <;> with_reducible rfl)
          simp only [Act.put, List.setIfInBounds_toArray, List.set_cons_zero, List.set_cons_succ]
          refine wpR_take growOrd (i := 21) (v := ?vf97) rfl (by kernel_rfl) (by kernel_rfl) (by kernel_rfl) (fun _ _ _ h => h) (by rfl) ?hf97 ?rf97
          case hf97 => (intro wg hSw; go_simp <;> with_reducible rfl)
          simp only [Act.put, List.setIfInBounds_toArray, List.set_cons_zero, List.set_cons_succ]
          refine wpR_take growOrd (i := 22) (v := ?vf98) rfl (by kernel_rfl) (by kernel_rfl) (by kernel_rfl) (fun _ _ _ h => h) (by rfl) ?hf98 ?rf98
          case hf98 => (intro wg hSw; go_simp <;> with_reducible rfl)
          simp only [Act.put, List.setIfInBounds_toArray, List.set_cons_zero, List.set_cons_succ]
          refine wpR_take growOrd (i := 23) (v := ?vf99) rfl (by kernel_rfl) (by kernel_rfl) (by kernel_rfl) (fun _ _ _ h => h) (by rfl) ?hf99 ?rf99
          case hf99 => (intro wg hSw; go_simp <;> with_reducible rfl)
          simp only [Act.put, List.setIfInBounds_toArray, List.set_cons_zero, List.set_cons_succ]
          refine wpR_pass growOrd (i := 24) rfl (by kernel_rfl) (by kernel_rfl) (by kernel_rfl) (fun _ _ _ h => h) (by rfl) ?_
          simp only [Act.put, List.setIfInBounds_toArray, List.set_cons_zero, List.set_cons_succ]
          refine wpR_pass growOrd (i := 25) rfl (by kernel_rfl) (by kernel_rfl) (by kernel_rfl) (fun _ _ _ h => h) (by rfl) ?_
          simp only [Act.put, List.setIfInBounds_toArray, List.set_cons_zero, List.set_cons_succ]
          refine wpR_pass growOrd (i := 26) rfl (by kernel_rfl) (by kernel_rfl) (by kernel_rfl) (fun _ _ _ h => h) (by rfl) ?_
          simp only [Act.put, List.setIfInBounds_toArray, List.set_cons_zero, List.set_cons_succ]
          refine wpR_pass growOrd (i := 27) rfl (by kernel_rfl) (by kernel_rfl) (by kernel_rfl) (fun _ _ _ h => h) (by rfl) ?_
          simp only [Act.put, List.setIfInBounds_toArray, List.set_cons_zero, List.set_cons_succ]
          refine wpR_pass growOrd (i := 28) rfl (by kernel_rfl) (by kernel_rfl) (by kernel_rfl) (fun _ _ _ h => h) (by rfl) ?_
          simp only [Act.put, List.setIfInBounds_toArray, List.set_cons_zero, List.set_cons_succ]
          refine wpR_take growOrd (i := 29) (v := ?vf100) rfl (by kernel_rfl) (by kernel_rfl) (by kernel_rfl) (fun _ _ _ h => h) (by rfl) ?hf100 ?rf100
          case hf100 => (intro wg hSw; go_simp <;> with_reducible rfl)
          simp only [Act.put, List.setIfInBounds_toArray, List.set_cons_zero, List.set_cons_succ]
          refine wpR_take growOrd (i := 30) (v := ?vf101) rfl (by kernel_rfl) (by kernel_rfl) (by kernel_rfl) (fun _ _ _ h => h) (by rfl) ?hf101 ?rf101
          case hf101 => (intro wg hSw; go_simp <;> with_reducible rfl)
          simp only [Act.put, List.setIfInBounds_toArray, List.set_cons_zero, List.set_cons_succ]
          refine wpR_take growOrd (i := 31) (v := ?vf102) rfl (by kernel_rfl) (by kernel_rfl) (by kernel_rfl) (fun _ _ _ h => h) (by rfl) ?hf102 ?rf102
          case hf102 => (intro wg hSw; go_simp <;> with_reducible rfl)
          simp only [Act.put, List.setIfInBounds_toArray, List.set_cons_zero, List.set_cons_succ]
          refine wpR_done (by kernel_rfl) ?_
          have HGZ := Lib.hid ((HG4.out.trans HW1.out).trans (Grow.trans (Grow.refl W0) hM15))
          clear p2 q2 q0 q0'
          go_wp2
          go_ret
          exact ⟨rfl, HGZ.out⟩
        · go_wp2
          refine wp_region_R Grow (n := 32) rfl (by kernel_rfl) ?_
          intro W0 hW0e hW0
          have HW1 := Lib.hid hW0
          have q0 : ∀ wg, Grow W0 wg → wg.cell? ⟨g, 0, none⟩ = some (.int .i64 2) := fun wg h => ((HW1.out.trans h).cell (p := ⟨g, 0, none⟩) HLG4.out).trans S0.out
          have p2 : ∀ wg, Grow W0 wg → wg.cell? ⟨b, off + 2, none⟩ = some (.slice A2 li c2) := fun wg h => ((HW1.out.trans h).cell (p := ⟨b, off + 2, none⟩) HLB4.out).trans R2.out
          have q2 : ∀ wg, Grow W0 wg → wg.cell? ⟨g, 2, none⟩ = some (.slice D2 li d2) := fun wg h => ((HW1.out.trans h).cell (p := ⟨g, 2, none⟩) HLG4.out).trans S2.out
          clear hW0e
          refine wpR_take growOrd (i := 0) (v := ?vf103) rfl (by kernel_rfl) (by kernel_rfl) (by kernel_rfl) (fun _ _ _ h => h) (by rfl) ?hf103 ?rf103
          case hf103 => (intro wg hSw; go_simp <;> with_reducible rfl)
          simp only [Act.put, List.setIfInBounds_toArray, List.set_cons_zero, List.set_cons_succ]
          refine wpR_take growOrd (i := 1) (v := ?vf104) rfl (by kernel_rfl) (by kernel_rfl) (by kernel_rfl) (fun _ _ _ h => h) (by rfl) ?hf104 ?rf104
          case hf104 => (intro wg hSw; go_simp <;> with_reducible rfl)
          simp only [Act.put, List.setIfInBounds_toArray, List.set_cons_zero, List.set_cons_succ]
          refine wpR_take growOrd (i := 2) (v := ?vf105) rfl (by kernel_rfl) (by kernel_rfl) (by kernel_rfl) (fun _ _ _ h => h) (by rfl) ?hf105 ?rf105
          case hf105 => (intro wg hSw; go_simp <;> with_reducible rfl)
          simp only [Act.put, List.setIfInBounds_toArray, List.set_cons_zero, List.set_cons_succ]
          refine wpR_take growOrd (i := 3) (v := ?vf106) rfl (by kernel_rfl) (by kernel_rfl) (by kernel_rfl) (fun _ _ _ h => h) (by rfl) ?hf106 ?rf106
          case hf106 => (intro wg hSw; go_simp <;> with_reducible rfl)
          simp only [Act.put, List.setIfInBounds_toArray, List.set_cons_zero, List.set_cons_succ]
          refine wpR_take growOrd (i := 4) (v := ?vf107) rfl (by kernel_rfl) (by kernel_rfl) (by kernel_rfl) (fun _ _ _ h => h) (by rfl) ?hf107 ?rf107
          case hf107 => (intro wg hSw; go_simp <;> with_reducible rfl)
          simp only [Act.put, List.setIfInBounds_toArray, List.set_cons_zero, List.set_cons_succ]
          refine wpR_take growOrd (i := 5) (v := ?vf108) rfl (by kernel_rfl) (by kernel_rfl) (by kernel_rfl) (fun _ _ _ h => h) (by rfl) ?hf108 ?rf108
          case hf108 => (intro wg hSw; go_simp <;> with_reducible rfl)
          simp only [Act.put, List.setIfInBounds_toArray, List.set_cons_zero, List.set_cons_succ]
          refine wpR_take growOrd (i := 6) (v := ?vf109) rfl (by kernel_rfl) (by kernel_rfl) (by kernel_rfl) (fun _ _ _ h => h) (by rfl) ?hf109 ?rf109
          case hf109 => (intro wg hSw; go_simp <;> with_reducible rfl)
          simp only [Act.put, List.setIfInBounds_toArray, List.set_cons_zero, List.set_cons_succ]
          refine wpR_take growOrd (i := 7) (v := ?vf110) rfl (by kernel_rfl) (by kernel_rfl) (by kernel_rfl) (fun _ _ _ h => h) (by rfl) ?hf110 ?rf110
          case hf110 => (intro wg hSw; go_simp <;> with_reducible rfl)
          simp only [Act.put, List.setIfInBounds_toArray, List.set_cons_zero, List.set_cons_succ]
          refine wpR_take growOrd (i := 8) (v := ?vf111) rfl (by kernel_rfl) (by kernel_rfl) (by kernel_rfl) (fun _ _ _ h => h) (by rfl) ?hf111 ?rf111
          case hf111 => (intro wg hSw; go_simp <;> with_reducible rfl)
          simp only [Act.put, List.setIfInBounds_toArray, List.set_cons_zero, List.set_cons_succ]
          refine wpR_take growOrd (i := 9) (v := ?vf112) rfl (by kernel_rfl) (by kernel_rfl) (by kernel_rfl) (fun _ _ _ h => h) (by rfl) ?hf112 ?rf112
          case hf112 => (intro wg hSw; go_simp <;> with_reducible rfl)
          simp only [Act.put, List.setIfInBounds_toArray, List.set_cons_zero, List.set_cons_succ]
          refine wpR_take growOrd (i := 10) (v := ?vf113) rfl (by kernel_rfl) (by kernel_rfl) (by kernel_rfl) (fun _ _ _ h => h) (by rfl) ?hf113 ?rf113
          case hf113 => (intro wg hSw; go_simp <;> with_reducible rfl)
          simp only [Act.put, List.setIfInBounds_toArray, List.set_cons_zero, List.set_cons_succ]
          refine wpR_take growOrd (i := 11) (v := ?vf114) rfl (by kernel_rfl) (by kernel_rfl) (by kernel_rfl) (fun _ _ _ h => h) (by rfl) ?hf114 ?rf114
          case hf114 => (intro wg hSw; go_simp <;> with_reducible rfl)
          simp only [Act.put, List.setIfInBounds_toArray, List.set_cons_zero, List.set_cons_succ]
          refine wpR_take growOrd (i := 12) (v := ?vf115) rfl (by kernel_rfl) (by kernel_rfl) (by kernel_rfl) (fun _ _ _ h => h) (by rfl) ?hf115 ?rf115
          case hf115 => (intro wg hSw; go_simp <;> with_reducible rfl)
          simp only [Act.put, List.setIfInBounds_toArray, List.set_cons_zero, List.set_cons_succ]
          refine wpR_take growOrd (i := 13) (v := ?vf116) rfl (by kernel_rfl) (by kernel_rfl) (by kernel_rfl) (fun _ _ _ h => h) (by rfl) ?hf116 ?rf116
          case hf116 => (intro wg hSw; go_simp <;> with_reducible rfl)
          simp only [Act.put, List.setIfInBounds_toArray, List.set_cons_zero, List.set_cons_succ]
          refine wpR_take growOrd (i := 14) (v := ?vf117) rfl (by kernel_rfl) (by kernel_rfl) (by kernel_rfl) (fun _ _ _ h => h) (by rfl) ?hf117 ?rf117
          case hf117 => (intro wg hSw; go_simp <;> with_reducible rfl)
          simp only [Act.put, List.setIfInBounds_toArray, List.set_cons_zero, List.set_cons_succ]
          refine wpR_one (i := 15) (by kernel_rfl) ?_
          refine wpR_op (i := 15) rfl (by rfl) (fun K hK => ?_)
          go_simp
          refine (rsame_any A2 D2 li li c2 d2 nd.ints m.ints W0 HLI.out HLJ.out hli6 hli6 (HND4.out.grow (HW1.out.trans (Grow.refl W0))).2.1 (HMD4.out.grow (HW1.out.trans (Grow.refl W0))).2.1).mono ?_
          rw [HIE.out, decide_eq_true rfl]
          rintro e wM15 ⟨rfl, hM15⟩
          have q0' : ∀ wg, Grow wM15 wg → wg.cell? ⟨g, 0, none⟩ = some (.int .i64 2) := fun wg h => q0 wg (hM15.trans h)
          refine hK.out _ _ hM15 ?_
          clear hK K
          try simp only [Act.put, List.setIfInBounds_toArray, List.set_cons_zero, List.set_cons_succ]
          refine wpR_take growOrd (i := 16) (v := ?vf118) rfl (by kernel_rfl) (by kernel_rfl) (by kernel_rfl) (fun _ _ _ h => h) (by rfl) ?hf118 ?rf118
          case hf118 => (intro wg hSw; go_simp <;> with_reducible rfl)
          simp only [Act.put, List.setIfInBounds_toArray, List.set_cons_zero, List.set_cons_succ]
          refine wpR_take growOrd (i := 17) (v := ?vf119) rfl (by kernel_rfl) (by kernel_rfl) (by kernel_rfl) (fun _ _ _ h => h) (by rfl) ?hf119 ?rf119
          case hf119 => (intro wg hSw; go_simp <;> with_reducible rfl)
          simp only [Act.put, List.setIfInBounds_toArray, List.set_cons_zero, List.set_cons_succ]
          refine wpR_take growOrd (i := 18) (v := ?vf120) rfl (by kernel_rfl) (by kernel_rfl) (by kernel_rfl) (fun _ _ _ h => h) (by rfl) ?hf120 ?rf120
          case hf120 => (intro wg hSw; go_simp <;> with_reducible rfl)
          simp only [Act.put, List.setIfInBounds_toArray, List.set_cons_zero, List.set_cons_succ]
          refine wpR_take growOrd (i := 19) (v := ?vf121) rfl (by kernel_rfl) (by kernel_rfl) (by kernel_rfl) (fun _ _ _ h => h) (by rfl) ?hf121 ?rf121
          case hf121 => (intro wg hSw; go_simp <;> with_reducible rfl)
          simp only [Act.put, List.setIfInBounds_toArray, List.set_cons_zero, List.set_cons_succ]
          refine wpR_take growOrd (i := 20) (v := ?vf122) rfl (by kernel_rfl) (by kernel_rfl) (by kernel_rfl) (fun _ _ _ h => h) (by rfl) ?hf122 ?rf122
          case hf122 => (intro wg hSw; go_simp <;> with_reducible rfl)
          simp only [Act.put, List.setIfInBounds_toArray, List.set_cons_zero, List.set_cons_succ]
          refine wpR_take growOrd (i := 21) (v := ?vf123) rfl (by kernel_rfl) (by kernel_rfl) (by kernel_rfl) (fun _ _ _ h => h) (by rfl) ?hf123 ?rf123
          case hf123 => (intro wg hSw; go_simp <;> with_reducible rfl)
          simp only [Act.put, List.setIfInBounds_toArray, List.set_cons_zero, List.set_cons_succ]
          refine wpR_take growOrd (i := 22) (v := ?vf124) rfl (by kernel_rfl) (by kernel_rfl) (by kernel_rfl) (fun _ _ _ h => h) (by rfl) ?hf124 ?rf124
          case hf124 => (intro wg hSw; go_simp <;> with_reducible rfl)
          simp only [Act.put, List.setIfInBounds_toArray, List.set_cons_zero, List.set_cons_succ]
          refine wpR_take growOrd (i := 23) (v := ?vf125) rfl (by kernel_rfl) (by kernel_rfl) (by kernel_rfl) (fun _ _ _ h => h) (by rfl) ?hf125 ?rf125
          case hf125 => (intro wg hSw; go_simp <;> with_reducible rfl)
          simp only [Act.put, List.setIfInBounds_toArray, List.set_cons_zero, List.set_cons_succ]
          refine wpR_take growOrd (i := 24) (v := ?vf126) rfl (by kernel_rfl) (by kernel_rfl) (by kernel_rfl) (fun _ _ _ h => h) (by rfl) ?hf126 ?rf126
          case hf126 => (intro wg hSw; go_simp <;> with_reducible rfl)
          simp only [Act.put, List.setIfInBounds_toArray, List.set_cons_zero, List.set_cons_succ]
          refine wpR_take growOrd (i := 25) (v := ?vf127) rfl (by kernel_rfl) (by kernel_rfl) (by kernel_rfl) (fun _ _ _ h => h) (by rfl) ?hf127 ?rf127
          case hf127 => (intro wg hSw; go_simp <;> with_reducible rfl)
          simp only [Act.put, List.setIfInBounds_toArray, List.set_cons_zero, List.set_cons_succ]
          refine wpR_take growOrd (i := 26) (v := ?vf128) rfl (by kernel_rfl) (by kernel_rfl) (by kernel_rfl) (fun _ _ _ h => h) (by rfl) ?hf128 ?rf128
          case hf128 => (intro wg hSw; go_simp <;> with_reducible rfl)
          simp only [Act.put, List.setIfInBounds_toArray, List.set_cons_zero, List.set_cons_succ]
          refine wpR_take growOrd (i := 27) (v := ?vf129) rfl (by kernel_rfl) (by kernel_rfl) (by kernel_rfl) (fun _ _ _ h => h) (by rfl) ?hf129 ?rf129
          case hf129 => (intro wg hSw; go_simp <;> with_reducible rfl)
          simp only [Act.put, List.setIfInBounds_toArray, List.set_cons_zero, List.set_cons_succ]
          refine wpR_take growOrd (i := 28) (v := ?vf130) rfl (by kernel_rfl) (by kernel_rfl) (by kernel_rfl) (fun _ _ _ h => h) (by rfl) ?hf130 ?rf130
          case hf130 => (intro wg hSw; go_simp <;> with_reducible rfl)
          simp only [Act.put, List.setIfInBounds_toArray, List.set_cons_zero, List.set_cons_succ]
          refine wpR_take growOrd (i := 29) (v := ?vf131) rfl (by kernel_rfl) (by kernel_rfl) (by kernel_rfl) (fun _ _ _ h => h) (by rfl) ?hf131 ?rf131
          case hf131 => (intro wg hSw; go_simp <;> with_reducible rfl)
          simp only [Act.put, List.setIfInBounds_toArray, List.set_cons_zero, List.set_cons_succ]
          refine wpR_take growOrd (i := 30) (v := ?vf132) rfl (by kernel_rfl) (by kernel_rfl) (by kernel_rfl) (fun _ _ _ h => h) (by rfl) ?hf132 ?rf132
          case hf132 => (intro wg hSw; go_simp <;> with_reducible rfl)
          simp only [Act.put, List.setIfInBounds_toArray, List.set_cons_zero, List.set_cons_succ]
          refine wpR_take growOrd (i := 31) (v := ?vf133) rfl (by kernel_rfl) (by kernel_rfl) (by kernel_rfl) (fun _ _ _ h => h) (by rfl) ?hf133 ?rf133
          case hf133 => (intro wg hSw; go_simp <;> with_reducible rfl)
          simp only [Act.put, List.setIfInBounds_toArray, List.set_cons_zero, List.set_cons_succ]
          refine wpR_done (by kernel_rfl) ?_
          have HGZ := Lib.hid ((HG4.out.trans HW1.out).trans (Grow.trans (Grow.refl W0) hM15))
          clear p2 q2 q0 q0'
          go_wp2
          go_ret
          exact ⟨rfl, HGZ.out⟩
    · have h1 : (kd != 1) = true := by simp; omega
      have h2 : (kd != 2) = true := by simp; omega
      clear HK12 h12
      by_cases h5 : kd = 5
      · subst h5
        go_wp2
        refine wp_region_R Grow (n := 22) rfl (by kernel_rfl) ?_
        intro W0 hW0e hW0
        have HW1 := Lib.hid hW0
        have p0 : ∀ wg, Grow W0 wg → wg.cell? ⟨b, off, none⟩ = some (.int .i64 5) := fun wg h => ((HW1.out.trans h).cell (p := ⟨b, off, none⟩) HLB4.out).trans R0.out
        have q0 : ∀ wg, Grow W0 wg → wg.cell? ⟨g, 0, none⟩ = some (.int .i64 km) := fun wg h => ((HW1.out.trans h).cell (p := ⟨g, 0, none⟩) HLG4.out).trans S0.out
        clear hW0e
        refine wpR_take growOrd (i := 0) (v := ?vf134) rfl (by kernel_rfl) (by kernel_rfl) (by kernel_rfl) (fun _ _ _ h => h) (by rfl) ?hf134 ?rf134
        case hf134 => (intro wg hSw; go_simp <;> with_reducible rfl)
        simp only [Act.put, List.setIfInBounds_toArray, List.set_cons_zero, List.set_cons_succ]
        refine wpR_take growOrd (i := 1) (v := ?vf135) rfl (by kernel_rfl) (by kernel_rfl) (by kernel_rfl) (fun _ _ _ h => h) (by rfl) ?hf135 ?rf135
        case hf135 => (intro wg hSw; go_simp <;> with_reducible rfl)
        simp only [Act.put, List.setIfInBounds_toArray, List.set_cons_zero, List.set_cons_succ]
        refine wpR_take growOrd (i := 2) (v := ?vf136) rfl (by kernel_rfl) (by kernel_rfl) (by kernel_rfl) (fun _ _ _ h => h) (by rfl) ?hf136 ?rf136
        case hf136 => (intro wg hSw; go_simp <;> with_reducible rfl)
        simp only [Act.put, List.setIfInBounds_toArray, List.set_cons_zero, List.set_cons_succ]
        refine wpR_take growOrd (i := 3) (v := ?vf137) rfl (by kernel_rfl) (by kernel_rfl) (by kernel_rfl) (fun _ _ _ h => h) (by rfl) ?hf137 ?rf137
        case hf137 => (intro wg hSw; go_simp <;> with_reducible rfl)
        simp only [Act.put, List.setIfInBounds_toArray, List.set_cons_zero, List.set_cons_succ]
        refine wpR_take growOrd (i := 4) (v := ?vf138) rfl (by kernel_rfl) (by kernel_rfl) (by kernel_rfl) (fun _ _ _ h => h) (by rfl) ?hf138 ?rf138
        case hf138 => (intro wg hSw; go_simp <;> with_reducible rfl)
        simp only [Act.put, List.setIfInBounds_toArray, List.set_cons_zero, List.set_cons_succ]
        refine wpR_take growOrd (i := 5) (v := ?vf139) rfl (by kernel_rfl) (by kernel_rfl) (by kernel_rfl) (fun _ _ _ h => h) (by rfl) ?hf139 ?rf139
        case hf139 => (intro wg hSw; go_simp <;> with_reducible rfl)
        simp only [Act.put, List.setIfInBounds_toArray, List.set_cons_zero, List.set_cons_succ]
        refine wpR_take growOrd (i := 6) (v := ?vf140) rfl (by kernel_rfl) (by kernel_rfl) (by kernel_rfl) (fun _ _ _ h => h) (by rfl) ?hf140 ?rf140
        case hf140 => (intro wg hSw; go_simp <;> with_reducible rfl)
        simp only [Act.put, List.setIfInBounds_toArray, List.set_cons_zero, List.set_cons_succ]
        refine wpR_take growOrd (i := 7) (v := ?vf141) rfl (by kernel_rfl) (by kernel_rfl) (by kernel_rfl) (fun _ _ _ h => h) (by rfl) ?hf141 ?rf141
        case hf141 => (intro wg hSw; go_simp <;> with_reducible rfl)
        simp only [Act.put, List.setIfInBounds_toArray, List.set_cons_zero, List.set_cons_succ]
        refine wpR_pass growOrd (i := 8) rfl (by kernel_rfl) (by kernel_rfl) (by kernel_rfl) (fun _ _ _ h => h) (by rfl) ?_
        simp only [Act.put, List.setIfInBounds_toArray, List.set_cons_zero, List.set_cons_succ]
        refine wpR_pass growOrd (i := 9) rfl (by kernel_rfl) (by kernel_rfl) (by kernel_rfl) (fun _ _ _ h => h) (by rfl) ?_
        simp only [Act.put, List.setIfInBounds_toArray, List.set_cons_zero, List.set_cons_succ]
        refine wpR_pass growOrd (i := 10) rfl (by kernel_rfl) (by kernel_rfl) (by kernel_rfl) (fun _ _ _ h => h) (by rfl) ?_
        simp only [Act.put, List.setIfInBounds_toArray, List.set_cons_zero, List.set_cons_succ]
        refine wpR_pass growOrd (i := 11) rfl (by kernel_rfl) (by kernel_rfl) (by kernel_rfl) (fun _ _ _ h => h) (by rfl) ?_
        simp only [Act.put, List.setIfInBounds_toArray, List.set_cons_zero, List.set_cons_succ]
        refine wpR_pass growOrd (i := 12) rfl (by kernel_rfl) (by kernel_rfl) (by kernel_rfl) (fun _ _ _ h => h) (by rfl) ?_
        simp only [Act.put, List.setIfInBounds_toArray, List.set_cons_zero, List.set_cons_succ]
        refine wpR_pass growOrd (i := 13) rfl (by kernel_rfl) (by kernel_rfl) (by kernel_rfl) (fun _ _ _ h => h) (by rfl) ?_
        simp only [Act.put, List.setIfInBounds_toArray, List.set_cons_zero, List.set_cons_succ]
        refine wpR_pass growOrd (i := 14) rfl (by kernel_rfl) (by kernel_rfl) (by kernel_rfl) (fun _ _ _ h => h) (by rfl) ?_
        simp only [Act.put, List.setIfInBounds_toArray, List.set_cons_zero, List.set_cons_succ]
        refine wpR_pass growOrd (i := 15) rfl (by kernel_rfl) (by kernel_rfl) (by kernel_rfl) (fun _ _ _ h => h) (by rfl) ?_
        simp only [Act.put, List.setIfInBounds_toArray, List.set_cons_zero, List.set_cons_succ]
        refine wpR_pass growOrd (i := 16) rfl (by kernel_rfl) (by kernel_rfl) (by kernel_rfl) (fun _ _ _ h => h) (by rfl) ?_
        simp only [Act.put, List.setIfInBounds_toArray, List.set_cons_zero, List.set_cons_succ]
        refine wpR_pass growOrd (i := 17) rfl (by kernel_rfl) (by kernel_rfl) (by kernel_rfl) (fun _ _ _ h => h) (by rfl) ?_
        simp only [Act.put, List.setIfInBounds_toArray, List.set_cons_zero, List.set_cons_succ]
        refine wpR_pass growOrd (i := 18) rfl (by kernel_rfl) (by kernel_rfl) (by kernel_rfl) (fun _ _ _ h => h) (by rfl) ?_
        simp only [Act.put, List.setIfInBounds_toArray, List.set_cons_zero, List.set_cons_succ]
        refine wpR_take growOrd (i := 19) (v := ?vf142) rfl (by kernel_rfl) (by kernel_rfl) (by kernel_rfl) (fun _ _ _ h => h) (by rfl) ?hf142 ?rf142
        case hf142 => (intro wg hSw; go_simp <;> with_reducible rfl)
        simp only [Act.put, List.setIfInBounds_toArray, List.set_cons_zero, List.set_cons_succ]
        refine wpR_take growOrd (i := 20) (v := ?vf143) rfl (by kernel_rfl) (by kernel_rfl) (by kernel_rfl) (fun _ _ _ h => h) (by rfl) ?hf143 ?rf143
        case hf143 => (intro wg hSw; go_simp <;> with_reducible rfl)
        simp only [Act.put, List.setIfInBounds_toArray, List.set_cons_zero, List.set_cons_succ]
        refine wpR_take growOrd (i := 21) (v := ?vf144) rfl (by kernel_rfl) (by kernel_rfl) (by kernel_rfl) (fun _ _ _ h => h) (by rfl) ?hf144 ?rf144
        case hf144 => (intro wg hSw; go_simp <;> with_reducible rfl)
        simp only [Act.put, List.setIfInBounds_toArray, List.set_cons_zero, List.set_cons_succ]
        refine wpR_done (by kernel_rfl) ?_
        clear p0 q0
        go_wp2
        go_ret
        exact ⟨rfl, HG4.out.trans HW1.out⟩
      · have h5' : (kd == 5) = false := by simpa using h5
        have hiff := HK3.out.resolve_left h5
        by_cases h3 : kd = 3
        · have h3m := hiff.1 h3
          subst h3 h3m
          clear HK3 hiff h5
          go_wp2
          refine wp_region_R Grow (n := 22) rfl (by kernel_rfl) ?_
          intro W0 hW0e hW0
          have HW1 := Lib.hid hW0
          have p0 : ∀ wg, Grow W0 wg → wg.cell? ⟨b, off, none⟩ = some (.int .i64 3) := fun wg h => ((HW1.out.trans h).cell (p := ⟨b, off, none⟩) HLB4.out).trans R0.out
          have q0 : ∀ wg, Grow W0 wg → wg.cell? ⟨g, 0, none⟩ = some (.int .i64 3) := fun wg h => ((HW1.out.trans h).cell (p := ⟨g, 0, none⟩) HLG4.out).trans S0.out
          clear hW0e
          refine wpR_take growOrd (i := 0) (v := ?vf145) rfl (by kernel_rfl) (by kernel_rfl) (by kernel_rfl) (fun _ _ _ h => h) (by rfl) ?hf145 ?rf145
          case hf145 => (intro wg hSw; go_simp <;> with_reducible rfl)
          simp only [Act.put, List.setIfInBounds_toArray, List.set_cons_zero, List.set_cons_succ]
          refine wpR_take growOrd (i := 1) (v := ?vf146) rfl (by kernel_rfl) (by kernel_rfl) (by kernel_rfl) (fun _ _ _ h => h) (by rfl) ?hf146 ?rf146
          case hf146 => (intro wg hSw; go_simp <;> with_reducible rfl)
          simp only [Act.put, List.setIfInBounds_toArray, List.set_cons_zero, List.set_cons_succ]
          refine wpR_take growOrd (i := 2) (v := ?vf147) rfl (by kernel_rfl) (by kernel_rfl) (by kernel_rfl) (fun _ _ _ h => h) (by rfl) ?hf147 ?rf147
          case hf147 => (intro wg hSw; go_simp <;> with_reducible rfl)
          simp only [Act.put, List.setIfInBounds_toArray, List.set_cons_zero, List.set_cons_succ]
          refine wpR_take growOrd (i := 3) (v := ?vf148) rfl (by kernel_rfl) (by kernel_rfl) (by kernel_rfl) (fun _ _ _ h => h) (by rfl) ?hf148 ?rf148
          case hf148 => (intro wg hSw; go_simp <;> with_reducible rfl)
          simp only [Act.put, List.setIfInBounds_toArray, List.set_cons_zero, List.set_cons_succ]
          refine wpR_take growOrd (i := 4) (v := ?vf149) rfl (by kernel_rfl) (by kernel_rfl) (by kernel_rfl) (fun _ _ _ h => h) (by rfl) ?hf149 ?rf149
          case hf149 => (intro wg hSw; go_simp <;> with_reducible rfl)
          simp only [Act.put, List.setIfInBounds_toArray, List.set_cons_zero, List.set_cons_succ]
          refine wpR_take growOrd (i := 5) (v := ?vf150) rfl (by kernel_rfl) (by kernel_rfl) (by kernel_rfl) (fun _ _ _ h => h) (by rfl) ?hf150 ?rf150
          case hf150 => (intro wg hSw; go_simp <;> with_reducible rfl)
          simp only [Act.put, List.setIfInBounds_toArray, List.set_cons_zero, List.set_cons_succ]
          refine wpR_take growOrd (i := 6) (v := ?vf151) rfl (by kernel_rfl) (by kernel_rfl) (by kernel_rfl) (fun _ _ _ h => h) (by rfl) ?hf151 ?rf151
          case hf151 => (intro wg hSw; go_simp <;> with_reducible rfl)
          simp only [Act.put, List.setIfInBounds_toArray, List.set_cons_zero, List.set_cons_succ]
          refine wpR_take growOrd (i := 7) (v := ?vf152) rfl (by kernel_rfl) (by kernel_rfl) (by kernel_rfl) (fun _ _ _ h => h) (by rfl) ?hf152 ?rf152
          case hf152 => (intro wg hSw; go_simp <;> with_reducible rfl)
          simp only [Act.put, List.setIfInBounds_toArray, List.set_cons_zero, List.set_cons_succ]
          refine wpR_take growOrd (i := 8) (v := ?vf153) rfl (by kernel_rfl) (by kernel_rfl) (by kernel_rfl) (fun _ _ _ h => h) (by rfl) ?hf153 ?rf153
          case hf153 => (intro wg hSw; go_simp <;> with_reducible rfl)
          simp only [Act.put, List.setIfInBounds_toArray, List.set_cons_zero, List.set_cons_succ]
          refine wpR_take growOrd (i := 9) (v := ?vf154) rfl (by kernel_rfl) (by kernel_rfl) (by kernel_rfl) (fun _ _ _ h => h) (by rfl) ?hf154 ?rf154
          case hf154 => (intro wg hSw; go_simp <;> with_reducible rfl)
          simp only [Act.put, List.setIfInBounds_toArray, List.set_cons_zero, List.set_cons_succ]
          refine wpR_take growOrd (i := 10) (v := ?vf155) rfl (by kernel_rfl) (by kernel_rfl) (by kernel_rfl) (fun _ _ _ h => h) (by rfl) ?hf155 ?rf155
          case hf155 => (intro wg hSw; go_simp <;> with_reducible rfl)
          simp only [Act.put, List.setIfInBounds_toArray, List.set_cons_zero, List.set_cons_succ]
          refine wpR_take growOrd (i := 11) (v := ?vf156) rfl (by kernel_rfl) (by kernel_rfl) (by kernel_rfl) (fun _ _ _ h => h) (by rfl) ?hf156 ?rf156
          case hf156 => (intro wg hSw; go_simp <;> with_reducible rfl)
          simp only [Act.put, List.setIfInBounds_toArray, List.set_cons_zero, List.set_cons_succ]
          refine wpR_take growOrd (i := 12) (v := ?vf157) rfl (by kernel_rfl) (by kernel_rfl) (by kernel_rfl) (fun _ _ _ h => h) (by rfl) ?hf157 ?rf157
          case hf157 => (intro wg hSw; go_simp <;> with_reducible rfl)
          simp only [Act.put, List.setIfInBounds_toArray, List.set_cons_zero, List.set_cons_succ]
          refine wpR_take growOrd (i := 13) (v := ?vf158) rfl (by kernel_rfl) (by kernel_rfl) (by kernel_rfl) (fun _ _ _ h => h) (by rfl) ?hf158 ?rf158
          case hf158 => (intro wg hSw; go_simp <;> with_reducible rfl)
          simp only [Act.put, List.setIfInBounds_toArray, List.set_cons_zero, List.set_cons_succ]
          refine wpR_take growOrd (i := 14) (v := ?vf159) rfl (by kernel_rfl) (by kernel_rfl) (by kernel_rfl) (fun _ _ _ h => h) (by rfl) ?hf159 ?rf159
          case hf159 => (intro wg hSw; go_simp <;> with_reducible rfl)
          simp only [Act.put, List.setIfInBounds_toArray, List.set_cons_zero, List.set_cons_succ]
          refine wpR_take growOrd (i := 15) (v := ?vf160) rfl (by kernel_rfl) (by kernel_rfl) (by kernel_rfl) (fun _ _ _ h => h) (by rfl) ?hf160 ?rf160
          case hf160 => (intro wg hSw; go_simp <;> with_reducible rfl)
          simp only [Act.put, List.setIfInBounds_toArray, List.set_cons_zero, List.set_cons_succ]
          refine wpR_take growOrd (i := 16) (v := ?vf161) rfl (by kernel_rfl) (by kernel_rfl) (by kernel_rfl) (fun _ _ _ h => h) (by rfl) ?hf161 ?rf161
          case hf161 => (intro wg hSw; go_simp <;> with_reducible rfl)
          simp only [Act.put, List.setIfInBounds_toArray, List.set_cons_zero, List.set_cons_succ]
          refine wpR_take growOrd (i := 17) (v := ?vf162) rfl (by kernel_rfl) (by kernel_rfl) (by kernel_rfl) (fun _ _ _ h => h) (by rfl) ?hf162 ?rf162
          case hf162 => (intro wg hSw; go_simp <;> with_reducible rfl)
          simp only [Act.put, List.setIfInBounds_toArray, List.set_cons_zero, List.set_cons_succ]
          refine wpR_take growOrd (i := 18) (v := ?vf163) rfl (by kernel_rfl) (by kernel_rfl) (by kernel_rfl) (fun _ _ _ h => h) (by rfl) ?hf163 ?rf163
          case hf163 => (intro wg hSw; go_simp <;> with_reducible rfl)
          simp only [Act.put, List.setIfInBounds_toArray, List.set_cons_zero, List.set_cons_succ]
          refine wpR_take growOrd (i := 19) (v := ?vf164) rfl (by kernel_rfl) (by kernel_rfl) (by kernel_rfl) (fun _ _ _ h => h) (by rfl) ?hf164 ?rf164
          case hf164 => (intro wg hSw; go_simp <;> with_reducible rfl)
          simp only [Act.put, List.setIfInBounds_toArray, List.set_cons_zero, List.set_cons_succ]
          refine wpR_take growOrd (i := 20) (v := ?vf165) rfl (by kernel_rfl) (by kernel_rfl) (by kernel_rfl) (fun _ _ _ h => h) (by rfl) ?hf165 ?rf165
          case hf165 => (intro wg hSw; go_simp <;> with_reducible rfl)
          simp only [Act.put, List.setIfInBounds_toArray, List.set_cons_zero, List.set_cons_succ]
          refine wpR_take growOrd (i := 21) (v := ?vf166) rfl (by kernel_rfl) (by kernel_rfl) (by kernel_rfl) (fun _ _ _ h => h) (by rfl) ?hf166 ?rf166
          case hf166 => (intro wg hSw; go_simp <;> with_reducible rfl)
          simp only [Act.put, List.setIfInBounds_toArray, List.set_cons_zero, List.set_cons_succ]
          refine wpR_done (by kernel_rfl) ?_
          clear p0 q0
          go_wp2
          go_ret
          exact ⟨rfl, HG4.out.trans HW1.out⟩
        · have h3' : (kd == 3) = false := by simpa using h3
          have h3m : (km == 3) = false := by simpa using fun h => h3 (hiff.2 h)
          clear HK3 hiff h5 h3
          go_wp2
          refine wp_region_R Grow (n := 22) rfl (by kernel_rfl) ?_
          intro W0 hW0e hW0
          have HW1 := Lib.hid hW0
          have p0 : ∀ wg, Grow W0 wg → wg.cell? ⟨b, off, none⟩ = some (.int .i64 kd) := fun wg h => ((HW1.out.trans h).cell (p := ⟨b, off, none⟩) HLB4.out).trans R0.out
          have q0 : ∀ wg, Grow W0 wg → wg.cell? ⟨g, 0, none⟩ = some (.int .i64 km) := fun wg h => ((HW1.out.trans h).cell (p := ⟨g, 0, none⟩) HLG4.out).trans S0.out
          clear hW0e
          refine wpR_take growOrd (i := 0) (v := ?vf167) rfl (by kernel_rfl) (by kernel_rfl) (by kernel_rfl) (fun _ _ _ h => h) (by rfl) ?hf167 ?rf167
          case hf167 => (intro wg hSw; go_simp <;> with_reducible rfl)
          simp only [Act.put, List.setIfInBounds_toArray, List.set_cons_zero, List.set_cons_succ]
          refine wpR_take growOrd (i := 1) (v := ?vf168) rfl (by kernel_rfl) (by kernel_rfl) (by kernel_rfl) (fun _ _ _ h => h) (by rfl) ?hf168 ?rf168
          case hf168 => (intro wg hSw; go_simp <;> with_reducible rfl)
          simp only [Act.put, List.setIfInBounds_toArray, List.set_cons_zero, List.set_cons_succ]
          refine wpR_take growOrd (i := 2) (v := ?vf169) rfl (by kernel_rfl) (by kernel_rfl) (by kernel_rfl) (fun _ _ _ h => h) (by rfl) ?hf169 ?rf169
          case hf169 => (intro wg hSw; go_simp <;> with_reducible rfl)
          simp only [Act.put, List.setIfInBounds_toArray, List.set_cons_zero, List.set_cons_succ]
          refine wpR_take growOrd (i := 3) (v := ?vf170) rfl (by kernel_rfl) (by kernel_rfl) (by kernel_rfl) (fun _ _ _ h => h) (by rfl) ?hf170 ?rf170
          case hf170 => (intro wg hSw; go_simp <;> with_reducible rfl)
          simp only [Act.put, List.setIfInBounds_toArray, List.set_cons_zero, List.set_cons_succ]
          refine wpR_take growOrd (i := 4) (v := ?vf171) rfl (by kernel_rfl) (by kernel_rfl) (by kernel_rfl) (fun _ _ _ h => h) (by rfl) ?hf171 ?rf171
          case hf171 => (intro wg hSw; go_simp <;> with_reducible rfl)
          simp only [Act.put, List.setIfInBounds_toArray, List.set_cons_zero, List.set_cons_succ]
          refine wpR_take growOrd (i := 5) (v := ?vf172) rfl (by kernel_rfl) (by kernel_rfl) (by kernel_rfl) (fun _ _ _ h => h) (by rfl) ?hf172 ?rf172
          case hf172 => (intro wg hSw; go_simp <;> with_reducible rfl)
          simp only [Act.put, List.setIfInBounds_toArray, List.set_cons_zero, List.set_cons_succ]
          refine wpR_take growOrd (i := 6) (v := ?vf173) rfl (by kernel_rfl) (by kernel_rfl) (by kernel_rfl) (fun _ _ _ h => h) (by rfl) ?hf173 ?rf173
          case hf173 => (intro wg hSw; go_simp <;> with_reducible rfl)
          simp only [Act.put, List.setIfInBounds_toArray, List.set_cons_zero, List.set_cons_succ]
          refine wpR_take growOrd (i := 7) (v := ?vf174) rfl (by kernel_rfl) (by kernel_rfl) (by kernel_rfl) (fun _ _ _ h => h) (by rfl) ?hf174 ?rf174
          case hf174 => (intro wg hSw; go_simp <;> with_reducible rfl)
          simp only [Act.put, List.setIfInBounds_toArray, List.set_cons_zero, List.set_cons_succ]
          refine wpR_take growOrd (i := 8) (v := ?vf175) rfl (by kernel_rfl) (by kernel_rfl) (by kernel_rfl) (fun _ _ _ h => h) (by rfl) ?hf175 ?rf175
          case hf175 => (intro wg hSw; go_simp <;> with_reducible rfl)
          simp only [Act.put, List.setIfInBounds_toArray, List.set_cons_zero, List.set_cons_succ]
          refine wpR_take growOrd (i := 9) (v := ?vf176) rfl (by kernel_rfl) (by kernel_rfl) (by kernel_rfl) (fun _ _ _ h => h) (by rfl) ?hf176 ?rf176
          case hf176 => (intro wg hSw; go_simp <;> with_reducible rfl)
          simp only [Act.put, List.setIfInBounds_toArray, List.set_cons_zero, List.set_cons_succ]
          refine wpR_take growOrd (i := 10) (v := ?vf177) rfl (by kernel_rfl) (by kernel_rfl) (by kernel_rfl) (fun _ _ _ h => h) (by rfl) ?hf177 ?rf177
          case hf177 => (intro wg hSw; go_simp <;> with_reducible rfl)
          simp only [Act.put, List.setIfInBounds_toArray, List.set_cons_zero, List.set_cons_succ]
          refine wpR_take growOrd (i := 11) (v := ?vf178) rfl (by kernel_rfl) (by kernel_rfl) (by kernel_rfl) (fun _ _ _ h => h) (by rfl) ?hf178 ?rf178
          case hf178 => (intro wg hSw; go_simp <;> with_reducible rfl)
          simp only [Act.put, List.setIfInBounds_toArray, List.set_cons_zero, List.set_cons_succ]
          refine wpR_take growOrd (i := 12) (v := ?vf179) rfl (by kernel_rfl) (by kernel_rfl) (by kernel_rfl) (fun _ _ _ h => h) (by rfl) ?hf179 ?rf179
          case hf179 => (intro wg hSw; go_simp <;> with_reducible rfl)
          simp only [Act.put, List.setIfInBounds_toArray, List.set_cons_zero, List.set_cons_succ]
          refine wpR_take growOrd (i := 13) (v := ?vf180) rfl (by kernel_rfl) (by kernel_rfl) (by kernel_rfl) (fun _ _ _ h => h) (by rfl) ?hf180 ?rf180
          case hf180 => (intro wg hSw; go_simp <;> with_reducible rfl)
          simp only [Act.put, List.setIfInBounds_toArray, List.set_cons_zero, List.set_cons_succ]
          refine wpR_take growOrd (i := 14) (v := ?vf181) rfl (by kernel_rfl) (by kernel_rfl) (by kernel_rfl) (fun _ _ _ h => h) (by rfl) ?hf181 ?rf181
          case hf181 => (intro wg hSw; go_simp <;> with_reducible rfl)
          simp only [Act.put, List.setIfInBounds_toArray, List.set_cons_zero, List.set_cons_succ]
          refine wpR_take growOrd (i := 15) (v := ?vf182) rfl (by kernel_rfl) (by kernel_rfl) (by kernel_rfl) (fun _ _ _ h => h) (by rfl) ?hf182 ?rf182
          case hf182 => (intro wg hSw; go_simp <;> with_reducible rfl)
          simp only [Act.put, List.setIfInBounds_toArray, List.set_cons_zero, List.set_cons_succ]
          refine wpR_take growOrd (i := 16) (v := ?vf183) rfl (by kernel_rfl) (by kernel_rfl) (by kernel_rfl) (fun _ _ _ h => h) (by rfl) ?hf183 ?rf183
          case hf183 => (intro wg hSw; go_simp <;> with_reducible rfl)
          simp only [Act.put, List.setIfInBounds_toArray, List.set_cons_zero, List.set_cons_succ]
          refine wpR_take growOrd (i := 17) (v := ?vf184) rfl (by kernel_rfl) (by kernel_rfl) (by kernel_rfl) (fun _ _ _ h => h) (by rfl) ?hf184 ?rf184
          case hf184 => (intro wg hSw; go_simp <;> with_reducible rfl)
          simp only [Act.put, List.setIfInBounds_toArray, List.set_cons_zero, List.set_cons_succ]
          refine wpR_take growOrd (i := 18) (v := ?vf185) rfl (by kernel_rfl) (by kernel_rfl) (by kernel_rfl) (fun _ _ _ h => h) (by rfl) ?hf185 ?rf185
          case hf185 => (intro wg hSw; go_simp <;> with_reducible rfl)
          simp only [Act.put, List.setIfInBounds_toArray, List.set_cons_zero, List.set_cons_succ]
          refine wpR_take growOrd (i := 19) (v := ?vf186) rfl (by kernel_rfl) (by kernel_rfl) (by kernel_rfl) (fun _ _ _ h => h) (by rfl) ?hf186 ?rf186
          case hf186 => (intro wg hSw; go_simp <;> with_reducible rfl)
          simp only [Act.put, List.setIfInBounds_toArray, List.set_cons_zero, List.set_cons_succ]
          refine wpR_take growOrd (i := 20) (v := ?vf187) rfl (by kernel_rfl) (by kernel_rfl) (by kernel_rfl) (fun _ _ _ h => h) (by rfl) ?hf187 ?rf187
          case hf187 => (intro wg hSw; go_simp <;> with_reducible rfl)
          simp only [Act.put, List.setIfInBounds_toArray, List.set_cons_zero, List.set_cons_succ]
          refine wpR_take growOrd (i := 21) (v := ?vf188) rfl (by kernel_rfl) (by kernel_rfl) (by kernel_rfl) (fun _ _ _ h => h) (by rfl) ?hf188 ?rf188
          case hf188 => (intro wg hSw; go_simp <;> with_reducible rfl)
          simp only [Act.put, List.setIfInBounds_toArray, List.set_cons_zero, List.set_cons_succ]
          refine wpR_done (by kernel_rfl) ?_
          clear p0 q0
          go_wp2
          go_ret
          exact ⟨rfl, HG4.out.trans HW1.out⟩
end Go.Proofs.Ytcljpcbgokgcdaa
