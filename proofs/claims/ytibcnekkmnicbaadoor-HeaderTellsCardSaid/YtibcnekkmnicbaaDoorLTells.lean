/-
  HeaderTells comes to true, whatever it is called with.
-/
import Derived.Test.YtibcnekkmnicbaaDoorLBack
import Derived.Test.YtibcnekkmnicbaaDoorRParse
namespace Go.Proofs.YtibcnekkmnicbaaDoor
open Go.RowKit Go.Lib
set_option linter.unusedSimpArgs false
set_option linter.unusedVariables false
set_option maxRecDepth 10000

set_option maxHeartbeats 6400000 in
theorem ltells_walk (h : Hd) (A : Option Addr) (n c : Nat) (s : List UInt8) (w : World) (k : IsHead w A n c h) (hL : MaxAt w) (hl : s.length ≤ 9223372036854775807) :
    Calls Tryd.prog 3 #[hdV h A n c, .string ⟨s.toArray⟩] w (Fine w) := by
  have hg1 := grow_new w (.cells #[.string ⟨h.res.toArray⟩, .string ⟨h.left.toArray⟩, .string ⟨h.name.toArray⟩, .string ⟨h.right.toArray⟩, .string ⟨h.f.toArray⟩, .string ⟨h.g.toArray⟩, .slice A n c] 24)
  have HG1 := Lib.hid hg1
  have HB1 := Lib.hid (boxH_new w h A n c)
  have HK1 := Lib.hid (k.grow hg1)
  have HM1 := Lib.hid (hL.grow hg1)
  obtain ⟨nb, hnb2⟩ : ∃ nb, w.heap.size = nb := ⟨_, rfl⟩
  have HNB := Lib.hid hnb2
  rw [hnb2] at HB1
  have hsz := str_size s
  have HM0 := Lib.hid hL
  unfold hdV strv
  clear k hg1 hnb2 hL
  go_enter Tryd.func3, Tryd.ntmps3
  go_upto_region 1 with fail
  rw [HNB.out]
  generalize w.alloc (.cells #[.string ⟨h.res.toArray⟩, .string ⟨h.left.toArray⟩, .string ⟨h.name.toArray⟩, .string ⟨h.right.toArray⟩, .string ⟨h.f.toArray⟩, .string ⟨h.g.toArray⟩, .slice A n c] 24) = w1 at HG1 HB1 HK1 HM1 ⊢
  have HS := Lib.hid (small_any w1 HM1.out)
  go_wp2_with fail
  refine (HS.out).mono ?_
  rintro e w2 ⟨rfl, hg⟩
  have HG2 := Lib.hid (HG1.out.trans hg)
  have HB2 := Lib.hid (HB1.out.grow hg)
  have HK2 := Lib.hid (HK1.out.grow hg)
  clear hg HS HB1 HK1 HM1
  have b0 := HB2.out.at0
  have b1 := HB2.out.at1
  have b2 := HB2.out.at2
  have b3 := HB2.out.at3
  have b4 := HB2.out.at4
  have b5 := HB2.out.at5
  have b6 := HB2.out.at6
  by_cases hf : fewP h
  rotate_left
  · have hc := few_says (decide_eq_false hf) HK2.out
    unfold hdV strv at hc
    have HC := Lib.hid hc
    clear hc hf
    go_wp2_with fail
    refine (HC.out).mono ?_
    rintro e w3 ⟨rfl, hg⟩
    have HG3 := Lib.hid (HG2.out.trans hg)
    clear hg b0 b1 b2 b3 b4 b5 b6
    go_wp2
    go_ret
    exact ⟨rfl, HG3.out⟩
  have hc := few_says (decide_eq_true hf) HK2.out
  unfold hdV strv at hc
  have HC := Lib.hid hc
  obtain ⟨hin, hfl, hfe⟩ := few_in HK2.out hf
  have HIN := Lib.hid hin
  have HFL := Lib.hid hfl
  have HFE := Lib.hid hfe
  have HM2 := Lib.hid (HM0.out.grow HG2.out)
  clear hc hf hin hfl hfe HK2
  by_cases hlen : 300 < s.length
  · have hli : (300 : Int) < ((s.length : Nat) : Int) := by omega
    have hlb : decide ((300 : Int) < ((s.length : Nat) : Int)) = true := decide_eq_true hli
    have hlc : decide (300 < s.length) = true := decide_eq_true hlen
    go_wp2_with fail
    refine (HC.out).mono ?_
    rintro e w3 ⟨rfl, hg⟩
    have HG3 := Lib.hid (HG2.out.trans hg)
    clear hg b0 b1 b2 b3 b4 b5 b6
    go_wp2
    go_ret
    exact ⟨rfl, HG3.out⟩
  have hli : ¬ (300 : Int) < ((s.length : Nat) : Int) := by omega
  have hlb : decide ((300 : Int) < ((s.length : Nat) : Int)) = false := decide_eq_false hli
  have hlc : decide (300 < s.length) = false := decide_eq_false hlen
  go_wp2_with fail
  refine (HC.out).mono ?_
  rintro e w3 ⟨rfl, hg⟩
  have HG3 := Lib.hid (HG2.out.trans hg)
  have HB3 := Lib.hid (HB2.out.grow hg)
  have HI3 := Lib.hid (HIN.out.grow hg)
  clear hg b0 b1 b2 b3 b4 b5 b6 HC HB2 HIN
  have b0 := HB3.out.at0
  have b1 := HB3.out.at1
  have b2 := HB3.out.at2
  have b3 := HB3.out.at3
  have b4 := HB3.out.at4
  have b5 := HB3.out.at5
  have b6 := HB3.out.at6
  clear b0 b1 b2 b3 b4 b5 b6
  have HM3 := Lib.hid (HM0.out.grow HG3.out)
  obtain ⟨o, ho⟩ : ∃ o, parseP s = o := ⟨_, rfl⟩
  obtain ⟨X, hX⟩ : ∃ X, o.getD hd0 = X := ⟨_, rfl⟩
  obtain ⟨β, hβ⟩ : ∃ β, o.isSome = β := ⟨_, rfl⟩
  have HP := Lib.hid (pparse_says ho hX hβ (by omega) w3 HM3.out)
  have HQ : Hid (∀ W, Calls Tryd.prog 11 #[.string ⟨s.toArray⟩] W (ParsP X β W)) := Lib.hid (fun W => by
    have := rparse_any s W (by omega)
    rw [← parse_same, ho, hX, hβ] at this
    exact this)
  clear ho hX hβ
  go_wp2_with fail
  refine (HP.out).mono ?_
  rintro e w4 ⟨A1, n1, c1, rfl, hin, hg⟩
  have hga := grow_new w4 (.cells #[.string ⟨X.res.toArray⟩, .string ⟨X.left.toArray⟩, .string ⟨X.name.toArray⟩, .string ⟨X.right.toArray⟩, .string ⟨X.f.toArray⟩, .string ⟨X.g.toArray⟩, .slice A1 n1 c1] 24)
  have HG5 := Lib.hid ((HG3.out.trans hg).trans hga)
  have HB5 := Lib.hid ((HB3.out.grow hg).grow hga)
  have HI5 := Lib.hid ((HI3.out.grow hg).grow hga)
  have HX5 := Lib.hid (boxH_new w4 X A1 n1 c1)
  have HJ5 := Lib.hid (hin.grow hga)
  obtain ⟨xb, hxb⟩ : ∃ xb, w4.heap.size = xb := ⟨_, rfl⟩
  have HXB := Lib.hid hxb
  rw [hxb] at HX5
  unfold hdV strv
  clear hin hg hga hxb HP HB3 HI3 HG3
  go_upto_region 6 with fail
  rw [HXB.out]
  generalize w4.alloc (.cells #[.string ⟨X.res.toArray⟩, .string ⟨X.left.toArray⟩, .string ⟨X.name.toArray⟩, .string ⟨X.right.toArray⟩, .string ⟨X.f.toArray⟩, .string ⟨X.g.toArray⟩, .slice A1 n1 c1] 24) = w5 at HG5 HB5 HI5 HX5 HJ5 ⊢
  go_wp2_with fail
  refine (HQ.out w5).mono ?_
  rintro e w6 ⟨A2, n2, c2, rfl, hin, hg⟩
  have hga := grow_new w6 (.cells #[.string ⟨X.res.toArray⟩, .string ⟨X.left.toArray⟩, .string ⟨X.name.toArray⟩, .string ⟨X.right.toArray⟩, .string ⟨X.f.toArray⟩, .string ⟨X.g.toArray⟩, .slice A2 n2 c2] 24)
  have HG7 := Lib.hid ((HG5.out.trans hg).trans hga)
  have HB7 := Lib.hid ((HB5.out.grow hg).grow hga)
  have HI7 := Lib.hid ((HI5.out.grow hg).grow hga)
  have HX7 := Lib.hid ((HX5.out.grow hg).grow hga)
  have HJ7 := Lib.hid ((HJ5.out.grow hg).grow hga)
  have HY7 := Lib.hid (boxH_new w6 X A2 n2 c2)
  have HK7 := Lib.hid (hin.grow hga)
  obtain ⟨yb, hyb⟩ : ∃ yb, w6.heap.size = yb := ⟨_, rfl⟩
  have HYB := Lib.hid hyb
  rw [hyb] at HY7
  unfold hdV strv
  clear hin hg hga hyb HQ HB5 HI5 HG5 HX5 HJ5
  go_upto_region 7 with fail
  rw [HYB.out]
  generalize w6.alloc (.cells #[.string ⟨X.res.toArray⟩, .string ⟨X.left.toArray⟩, .string ⟨X.name.toArray⟩, .string ⟨X.right.toArray⟩, .string ⟨X.f.toArray⟩, .string ⟨X.g.toArray⟩, .slice A2 n2 c2] 24) = w7 at HG7 HB7 HI7 HX7 HJ7 HY7 HK7 ⊢
  obtain ⟨ρ, HR⟩ : ∃ ρ, Hid (rightH h = ρ) := ⟨_, Lib.hid rfl⟩
  obtain ⟨T, HT⟩ : ∃ T, Hid (headD h = T) := ⟨_, Lib.hid rfl⟩
  have HC3 : Hid (∀ W, Grow w7 W → Calls Tryd.prog 12 #[.agg #[.string ⟨h.res.toArray⟩, .string ⟨h.left.toArray⟩, .string ⟨h.name.toArray⟩, .string ⟨h.right.toArray⟩, .string ⟨h.f.toArray⟩, .string ⟨h.g.toArray⟩, .slice A n c]] W (Says ρ W)) := Lib.hid (fun W hW => right_says2 HR.out (HI7.out.grow hW))
  have HC5 : Hid (∀ W, Grow w7 W → Calls Tryd.prog 13 #[.agg #[.string ⟨h.res.toArray⟩, .string ⟨h.left.toArray⟩, .string ⟨h.name.toArray⟩, .string ⟨h.right.toArray⟩, .string ⟨h.f.toArray⟩, .string ⟨h.g.toArray⟩, .slice A n c]] W (Says ρ W)) := Lib.hid (fun W hW => by
    have := rrightH_any h A n c W (HI7.out.grow hW)
    rw [HR.out] at this
    exact this)
  have HC10 : Hid (∀ W, Grow w7 W → Calls Tryd.prog 14 #[.agg #[.string ⟨h.res.toArray⟩, .string ⟨h.left.toArray⟩, .string ⟨h.name.toArray⟩, .string ⟨h.right.toArray⟩, .string ⟨h.f.toArray⟩, .string ⟨h.g.toArray⟩, .slice A n c]] W (Gave T W)) := Lib.hid (fun W hW => text_says HT.out (HI7.out.grow hW))
  have HC12 : Hid (∀ W, Grow w7 W → Calls Tryd.prog 15 #[.agg #[.string ⟨h.res.toArray⟩, .string ⟨h.left.toArray⟩, .string ⟨h.name.toArray⟩, .string ⟨h.right.toArray⟩, .string ⟨h.f.toArray⟩, .string ⟨h.g.toArray⟩, .slice A n c]] W (Gave T W)) := Lib.hid (fun W hW => by
    have := rtext_any h A n c W (HI7.out.grow hW)
    rw [HT.out] at this
    exact this)
  have HC18 : Hid (∀ W, Grow w7 W → Calls Tryd.prog 16 #[.agg #[.string ⟨X.res.toArray⟩, .string ⟨X.left.toArray⟩, .string ⟨X.name.toArray⟩, .string ⟨X.right.toArray⟩, .string ⟨X.f.toArray⟩, .string ⟨X.g.toArray⟩, .slice A1 n1 c1], .agg #[.string ⟨X.res.toArray⟩, .string ⟨X.left.toArray⟩, .string ⟨X.name.toArray⟩, .string ⟨X.right.toArray⟩, .string ⟨X.f.toArray⟩, .string ⟨X.g.toArray⟩, .slice A2 n2 c2]] W (Says true W)) := Lib.hid (fun W hW => same_says rfl (HJ7.out.grow hW) (HK7.out.grow hW))
  clear HI7 HJ7 HK7 HR HT HFL HFE HM2 HM3 HXB HYB HNB
  refine wp_region_R Grow (n := 26) rfl (by kernel_rfl) ?_
  intro W0 hW0e hW0
  have HW0 : Hid (Grow w7 W0) := Lib.hid hW0
  have p0 : ∀ wg, Grow W0 wg → wg.cell? ⟨nb, 0, none⟩ = some (.string ⟨h.res.toArray⟩) := fun wg hh => (HB7.out.grow (HW0.out.trans hh)).at0
  have p1 : ∀ wg, Grow W0 wg → wg.cell? ⟨nb, 1, none⟩ = some (.string ⟨h.left.toArray⟩) := fun wg hh => (HB7.out.grow (HW0.out.trans hh)).at1
  have p2 : ∀ wg, Grow W0 wg → wg.cell? ⟨nb, 2, none⟩ = some (.string ⟨h.name.toArray⟩) := fun wg hh => (HB7.out.grow (HW0.out.trans hh)).at2
  have p3 : ∀ wg, Grow W0 wg → wg.cell? ⟨nb, 3, none⟩ = some (.string ⟨h.right.toArray⟩) := fun wg hh => (HB7.out.grow (HW0.out.trans hh)).at3
  have p4 : ∀ wg, Grow W0 wg → wg.cell? ⟨nb, 4, none⟩ = some (.string ⟨h.f.toArray⟩) := fun wg hh => (HB7.out.grow (HW0.out.trans hh)).at4
  have p5 : ∀ wg, Grow W0 wg → wg.cell? ⟨nb, 5, none⟩ = some (.string ⟨h.g.toArray⟩) := fun wg hh => (HB7.out.grow (HW0.out.trans hh)).at5
  have p6 : ∀ wg, Grow W0 wg → wg.cell? ⟨nb, 6, none⟩ = some (.slice A n c) := fun wg hh => (HB7.out.grow (HW0.out.trans hh)).at6
  clear hW0e
  refine wpR_take growOrd (i := 0) (v := ?vf1) rfl (by kernel_rfl) (by kernel_rfl) (by kernel_rfl) (fun _ _ _ h => h) (by rfl) ?hf1 ?rf1
  case hf1 => (intro wg hSw; go_simp <;> with_reducible rfl)
  simp only [Act.put, List.setIfInBounds_toArray, List.set_cons_zero, List.set_cons_succ]
  refine wpR_take growOrd (i := 1) (v := ?vf2) rfl (by kernel_rfl) (by kernel_rfl) (by kernel_rfl) (fun _ _ _ h => h) (by rfl) ?hf2 ?rf2
  case hf2 => (intro wg hSw; go_simp <;> with_reducible rfl)
  simp only [Act.put, List.setIfInBounds_toArray, List.set_cons_zero, List.set_cons_succ]
  refine wpR_take growOrd (i := 2) (v := ?vf3) rfl (by kernel_rfl) (by kernel_rfl) (by kernel_rfl) (fun _ _ _ h => h) (by rfl) ?hf3 ?rf3
  case hf3 => (intro wg hSw; go_simp <;> with_reducible rfl)
  simp only [Act.put, List.setIfInBounds_toArray, List.set_cons_zero, List.set_cons_succ]
  refine wpR_take growOrd (i := 4) (v := ?vf4) rfl (by kernel_rfl) (by kernel_rfl) (by kernel_rfl) (fun _ _ _ h => h) (by rfl) ?hf4 ?rf4
  case hf4 => (intro wg hSw; go_simp <;> with_reducible rfl)
  simp only [Act.put, List.setIfInBounds_toArray, List.set_cons_zero, List.set_cons_succ]
  refine wpR_one (i := 3) (by kernel_rfl) ?_
  refine wpR_op (i := 3) rfl (by rfl) (fun K hK => ?_)
  go_simp
  refine (HC3.out W0 (HW0.out.trans (Grow.refl W0))).mono ?_
  rintro e wM3 ⟨rfl, hM3⟩
  refine hK.out _ _ hM3 ?_
  clear hK K
  try simp only [Act.put, List.setIfInBounds_toArray, List.set_cons_zero, List.set_cons_succ]
  refine wpR_one (i := 5) (by kernel_rfl) ?_
  refine wpR_op (i := 5) rfl (by rfl) (fun K hK => ?_)
  go_simp
  refine (HC5.out wM3 (HW0.out.trans (Grow.trans (Grow.refl W0) hM3))).mono ?_
  rintro e wM5 ⟨rfl, hM5⟩
  have HM5 : Hid (Grow w7 wM5) := Lib.hid ((HW0.out.trans (Grow.trans (Grow.refl W0) hM3)).trans hM5)
  clear p0 p1 p2 p3 p4 p5 p6
  have p0 : ∀ wg, Grow wM5 wg → wg.cell? ⟨nb, 0, none⟩ = some (.string ⟨h.res.toArray⟩) := fun wg hh => (HB7.out.grow (HM5.out.trans hh)).at0
  have p1 : ∀ wg, Grow wM5 wg → wg.cell? ⟨nb, 1, none⟩ = some (.string ⟨h.left.toArray⟩) := fun wg hh => (HB7.out.grow (HM5.out.trans hh)).at1
  have p2 : ∀ wg, Grow wM5 wg → wg.cell? ⟨nb, 2, none⟩ = some (.string ⟨h.name.toArray⟩) := fun wg hh => (HB7.out.grow (HM5.out.trans hh)).at2
  have p3 : ∀ wg, Grow wM5 wg → wg.cell? ⟨nb, 3, none⟩ = some (.string ⟨h.right.toArray⟩) := fun wg hh => (HB7.out.grow (HM5.out.trans hh)).at3
  have p4 : ∀ wg, Grow wM5 wg → wg.cell? ⟨nb, 4, none⟩ = some (.string ⟨h.f.toArray⟩) := fun wg hh => (HB7.out.grow (HM5.out.trans hh)).at4
  have p5 : ∀ wg, Grow wM5 wg → wg.cell? ⟨nb, 5, none⟩ = some (.string ⟨h.g.toArray⟩) := fun wg hh => (HB7.out.grow (HM5.out.trans hh)).at5
  have p6 : ∀ wg, Grow wM5 wg → wg.cell? ⟨nb, 6, none⟩ = some (.slice A n c) := fun wg hh => (HB7.out.grow (HM5.out.trans hh)).at6
  refine hK.out _ _ hM5 ?_
  clear hK K
  try simp only [Act.put, List.setIfInBounds_toArray, List.set_cons_zero, List.set_cons_succ]
  refine wpR_take growOrd (i := 6) (v := ?vf5) rfl (by kernel_rfl) (by kernel_rfl) (by kernel_rfl) (fun _ _ _ h => h) (by rfl) ?hf5 ?rf5
  case hf5 => (intro wg hSw; go_simp <;> with_reducible rfl)
  simp only [Act.put, List.setIfInBounds_toArray, List.set_cons_zero, List.set_cons_succ]
  refine wpR_take growOrd (i := 7) (v := ?vf6) rfl (by kernel_rfl) (by kernel_rfl) (by kernel_rfl) (fun _ _ _ h => h) (by rfl) ?hf6 ?rf6
  case hf6 => (intro wg hSw; go_simp <;> with_reducible rfl)
  simp only [Act.put, List.setIfInBounds_toArray, List.set_cons_zero, List.set_cons_succ]
  refine wpR_take growOrd (i := 8) (v := ?vf7) rfl (by kernel_rfl) (by kernel_rfl) (by kernel_rfl) (fun _ _ _ h => h) (by rfl) ?hf7 ?rf7
  case hf7 => (intro wg hSw; go_simp <;> with_reducible rfl)
  simp only [Act.put, List.setIfInBounds_toArray, List.set_cons_zero, List.set_cons_succ]
  refine wpR_take growOrd (i := 9) (v := ?vf8) rfl (by kernel_rfl) (by kernel_rfl) (by kernel_rfl) (fun _ _ _ h => h) (by rfl) ?hf8 ?rf8
  case hf8 => (intro wg hSw; go_simp <;> with_reducible rfl)
  simp only [Act.put, List.setIfInBounds_toArray, List.set_cons_zero, List.set_cons_succ]
  refine wpR_take growOrd (i := 11) (v := ?vf9) rfl (by kernel_rfl) (by kernel_rfl) (by kernel_rfl) (fun _ _ _ h => h) (by rfl) ?hf9 ?rf9
  case hf9 => (intro wg hSw; go_simp <;> with_reducible rfl)
  simp only [Act.put, List.setIfInBounds_toArray, List.set_cons_zero, List.set_cons_succ]
  refine wpR_one (i := 10) (by kernel_rfl) ?_
  refine wpR_op (i := 10) rfl (by rfl) (fun K hK => ?_)
  go_simp
  refine (HC10.out wM5 (HW0.out.trans (Grow.trans (Grow.trans (Grow.refl W0) hM3) hM5))).mono ?_
  rintro e wM10 ⟨rfl, hM10⟩
  refine hK.out _ _ hM10 ?_
  clear hK K
  try simp only [Act.put, List.setIfInBounds_toArray, List.set_cons_zero, List.set_cons_succ]
  refine wpR_one (i := 12) (by kernel_rfl) ?_
  refine wpR_op (i := 12) rfl (by rfl) (fun K hK => ?_)
  go_simp
  refine (HC12.out wM10 (HW0.out.trans (Grow.trans (Grow.trans (Grow.trans (Grow.refl W0) hM3) hM5) hM10))).mono ?_
  rintro e wM12 ⟨rfl, hM12⟩
  have HM12 : Hid (Grow w7 wM12) := Lib.hid ((HW0.out.trans (Grow.trans (Grow.trans (Grow.trans (Grow.refl W0) hM3) hM5) hM10)).trans hM12)
  clear p0 p1 p2 p3 p4 p5 p6
  have x0 : ∀ wg, Grow wM12 wg → wg.cell? ⟨xb, 0, none⟩ = some (.string ⟨X.res.toArray⟩) := fun wg hh => (HX7.out.grow (HM12.out.trans hh)).at0
  have x1 : ∀ wg, Grow wM12 wg → wg.cell? ⟨xb, 1, none⟩ = some (.string ⟨X.left.toArray⟩) := fun wg hh => (HX7.out.grow (HM12.out.trans hh)).at1
  have x2 : ∀ wg, Grow wM12 wg → wg.cell? ⟨xb, 2, none⟩ = some (.string ⟨X.name.toArray⟩) := fun wg hh => (HX7.out.grow (HM12.out.trans hh)).at2
  have x3 : ∀ wg, Grow wM12 wg → wg.cell? ⟨xb, 3, none⟩ = some (.string ⟨X.right.toArray⟩) := fun wg hh => (HX7.out.grow (HM12.out.trans hh)).at3
  have x4 : ∀ wg, Grow wM12 wg → wg.cell? ⟨xb, 4, none⟩ = some (.string ⟨X.f.toArray⟩) := fun wg hh => (HX7.out.grow (HM12.out.trans hh)).at4
  have x5 : ∀ wg, Grow wM12 wg → wg.cell? ⟨xb, 5, none⟩ = some (.string ⟨X.g.toArray⟩) := fun wg hh => (HX7.out.grow (HM12.out.trans hh)).at5
  have x6 : ∀ wg, Grow wM12 wg → wg.cell? ⟨xb, 6, none⟩ = some (.slice A1 n1 c1) := fun wg hh => (HX7.out.grow (HM12.out.trans hh)).at6
  have y0 : ∀ wg, Grow wM12 wg → wg.cell? ⟨yb, 0, none⟩ = some (.string ⟨X.res.toArray⟩) := fun wg hh => (HY7.out.grow (HM12.out.trans hh)).at0
  have y1 : ∀ wg, Grow wM12 wg → wg.cell? ⟨yb, 1, none⟩ = some (.string ⟨X.left.toArray⟩) := fun wg hh => (HY7.out.grow (HM12.out.trans hh)).at1
  have y2 : ∀ wg, Grow wM12 wg → wg.cell? ⟨yb, 2, none⟩ = some (.string ⟨X.name.toArray⟩) := fun wg hh => (HY7.out.grow (HM12.out.trans hh)).at2
  have y3 : ∀ wg, Grow wM12 wg → wg.cell? ⟨yb, 3, none⟩ = some (.string ⟨X.right.toArray⟩) := fun wg hh => (HY7.out.grow (HM12.out.trans hh)).at3
  have y4 : ∀ wg, Grow wM12 wg → wg.cell? ⟨yb, 4, none⟩ = some (.string ⟨X.f.toArray⟩) := fun wg hh => (HY7.out.grow (HM12.out.trans hh)).at4
  have y5 : ∀ wg, Grow wM12 wg → wg.cell? ⟨yb, 5, none⟩ = some (.string ⟨X.g.toArray⟩) := fun wg hh => (HY7.out.grow (HM12.out.trans hh)).at5
  have y6 : ∀ wg, Grow wM12 wg → wg.cell? ⟨yb, 6, none⟩ = some (.slice A2 n2 c2) := fun wg hh => (HY7.out.grow (HM12.out.trans hh)).at6
  refine hK.out _ _ hM12 ?_
  clear hK K
  try simp only [Act.put, List.setIfInBounds_toArray, List.set_cons_zero, List.set_cons_succ]
  refine wpR_take growOrd (i := 13) (v := ?vf10) rfl (by kernel_rfl) (by kernel_rfl) (by kernel_rfl) (fun _ _ _ h => h) (by rfl) ?hf10 ?rf10
  case hf10 => (intro wg hSw; go_simp <;> with_reducible rfl)
  simp only [Act.put, List.setIfInBounds_toArray, List.set_cons_zero, List.set_cons_succ]
  refine wpR_take growOrd (i := 14) (v := ?vf11) rfl (by kernel_rfl) (by kernel_rfl) (by kernel_rfl) (fun _ _ _ h => h) (by rfl) ?hf11 ?rf11
  case hf11 => (intro wg hSw; go_simp <;> with_reducible rfl)
  simp only [Act.put, List.setIfInBounds_toArray, List.set_cons_zero, List.set_cons_succ]
  refine wpR_take growOrd (i := 15) (v := ?vf12) rfl (by kernel_rfl) (by kernel_rfl) (by kernel_rfl) (fun _ _ _ h => h) (by rfl) ?hf12 ?rf12
  case hf12 => (intro wg hSw; go_simp <;> with_reducible rfl)
  simp only [Act.put, List.setIfInBounds_toArray, List.set_cons_zero, List.set_cons_succ]
  refine wpR_take growOrd (i := 16) (v := ?vf13) rfl (by kernel_rfl) (by kernel_rfl) (by kernel_rfl) (fun _ _ _ h => h) (by rfl) ?hf13 ?rf13
  case hf13 => (intro wg hSw; go_simp <;> with_reducible rfl)
  simp only [Act.put, List.setIfInBounds_toArray, List.set_cons_zero, List.set_cons_succ]
  refine wpR_take growOrd (i := 17) (v := ?vf14) rfl (by kernel_rfl) (by kernel_rfl) (by kernel_rfl) (fun _ _ _ h => h) (by rfl) ?hf14 ?rf14
  case hf14 => (intro wg hSw; go_simp <;> with_reducible rfl)
  simp only [Act.put, List.setIfInBounds_toArray, List.set_cons_zero, List.set_cons_succ]
  refine wpR_one (i := 18) (by kernel_rfl) ?_
  refine wpR_op (i := 18) rfl (by rfl) (fun K hK => ?_)
  go_simp
  refine (HC18.out wM12 (HW0.out.trans (Grow.trans (Grow.trans (Grow.trans (Grow.trans (Grow.refl W0) hM3) hM5) hM10) hM12))).mono ?_
  rintro e wM18 ⟨rfl, hM18⟩
  refine hK.out _ _ hM18 ?_
  clear hK K
  try simp only [Act.put, List.setIfInBounds_toArray, List.set_cons_zero, List.set_cons_succ]
  refine wpR_take growOrd (i := 19) (v := ?vf15) rfl (by kernel_rfl) (by kernel_rfl) (by kernel_rfl) (fun _ _ _ h => h) (by rfl) ?hf15 ?rf15
  case hf15 => (intro wg hSw; go_simp <;> with_reducible rfl)
  simp only [Act.put, List.setIfInBounds_toArray, List.set_cons_zero, List.set_cons_succ]
  refine wpR_take growOrd (i := 20) (v := ?vf16) rfl (by kernel_rfl) (by kernel_rfl) (by kernel_rfl) (fun _ _ _ h => h) (by rfl) ?hf16 ?rf16
  case hf16 => (intro wg hSw; go_simp <;> with_reducible rfl)
  simp only [Act.put, List.setIfInBounds_toArray, List.set_cons_zero, List.set_cons_succ]
  refine wpR_take growOrd (i := 21) (v := ?vf17) rfl (by kernel_rfl) (by kernel_rfl) (by kernel_rfl) (fun _ _ _ h => h) (by rfl) ?hf17 ?rf17
  case hf17 => (intro wg hSw; go_simp <;> with_reducible rfl)
  simp only [Act.put, List.setIfInBounds_toArray, List.set_cons_zero, List.set_cons_succ]
  refine wpR_take growOrd (i := 22) (v := ?vf18) rfl (by kernel_rfl) (by kernel_rfl) (by kernel_rfl) (fun _ _ _ h => h) (by rfl) ?hf18 ?rf18
  case hf18 => (intro wg hSw; go_simp <;> with_reducible rfl)
  simp only [Act.put, List.setIfInBounds_toArray, List.set_cons_zero, List.set_cons_succ]
  refine wpR_take growOrd (i := 23) (v := ?vf19) rfl (by kernel_rfl) (by kernel_rfl) (by kernel_rfl) (fun _ _ _ h => h) (by rfl) ?hf19 ?rf19
  case hf19 => (intro wg hSw; go_simp <;> with_reducible rfl)
  simp only [Act.put, List.setIfInBounds_toArray, List.set_cons_zero, List.set_cons_succ]
  refine wpR_take growOrd (i := 24) (v := ?vf20) rfl (by kernel_rfl) (by kernel_rfl) (by kernel_rfl) (fun _ _ _ h => h) (by rfl) ?hf20 ?rf20
  case hf20 => (intro wg hSw; go_simp <;> with_reducible rfl)
  simp only [Act.put, List.setIfInBounds_toArray, List.set_cons_zero, List.set_cons_succ]
  refine wpR_take growOrd (i := 25) (v := ?vf21) rfl (by kernel_rfl) (by kernel_rfl) (by kernel_rfl) (fun _ _ _ h => h) (by rfl) ?hf21 ?rf21
  case hf21 => (intro wg hSw; go_simp <;> with_reducible rfl)
  simp only [Act.put, List.setIfInBounds_toArray, List.set_cons_zero, List.set_cons_succ]
  refine wpR_done (by kernel_rfl) ?_
  have HGT := Lib.hid (HG7.out.trans (HW0.out.trans (Grow.trans (Grow.trans (Grow.trans (Grow.trans (Grow.trans (Grow.refl W0) hM3) hM5) hM10) hM12) hM18)))
  go_wp2
  go_ret
  exact ⟨rfl, HGT.out⟩
end Go.Proofs.YtibcnekkmnicbaaDoor
