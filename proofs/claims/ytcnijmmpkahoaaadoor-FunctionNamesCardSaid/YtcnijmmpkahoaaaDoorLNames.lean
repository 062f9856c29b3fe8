/-
  FunctionNames comes to true, whatever it is called with.
-/
import Derived.Test.YtcnijmmpkahoaaaDoorSmall
import Derived.Test.YtcnijmmpkahoaaaDoorLaidIn
namespace Go.Proofs.YtcnijmmpkahoaaaDoor
open Go.RowKit Go.Lib
set_option linter.unusedSimpArgs false
set_option linter.unusedVariables false
set_option maxRecDepth 100000

set_option maxHeartbeats 12800000 in
theorem lnames_walk (A : Option Addr) (n c : Nat) (ls : List (List UInt8)) (w : World) (h : IsLines w A n c ls) (hL : Laid w) :
    Calls Tryd.prog 5 #[.slice A n c] w (Fine w) := by
  have hm : MaxAt w := hL
  have HM := Lib.hid hm
  have HS0 := Lib.hid (small_any w hm)
  have HIS := Lib.hid h
  clear hL hm h
  go_enter Tryd.func5, Tryd.ntmps5
  go_wp2_with fail
  refine (HS0.out).mono ?_
  rintro e x0 ⟨rfl, hg⟩
  have HGX0 := Lib.hid hg
  have HIS0 := Lib.hid (HIS.out.grow hg)
  obtain ⟨φ, hφ⟩ : ∃ φ, decide (fewL ls) = φ := ⟨_, rfl⟩
  have hfw := fewl_any A n c ls x0 HIS0.out
  rw [hφ] at hfw
  have HFW := Lib.hid hfw
  have HFI := Lib.hid hφ
  clear hg hφ hfw
  go_wp2_with fail
  refine (HFW.out).mono ?_
  rintro e x1 ⟨rfl, hg⟩
  have HGX1 := Lib.hid (HGX0.out.trans hg)
  have HIS1 := Lib.hid (HIS0.out.grow hg)
  clear hg HFW HGX0 HIS0 HIS HS0
  cases φ with
  | false =>
    go_wp2
    go_ret
    exact ⟨rfl, HGX1.out⟩
  | true =>
  have HFEW : Hid (fewL ls) := Lib.hid (of_decide_eq_true HFI.out)
  have HIN := Lib.hid (HIS1.out.few HFEW.out)
  clear HIS1 HFI
  obtain ⟨o, ho⟩ : ∃ o, headL ls = o := ⟨_, rfl⟩
  have HO := Lib.hid ho
  clear ho
  cases o with
  | none =>
    have HR : Hid ((headL ls).isSome = false) := Lib.hid (by rw [HO.out]; rfl)
    have HNM : Hid (nameL ls = []) := Lib.hid (by unfold nameL; rw [HO.out])
    have HINr := HIN
    have HMW := Lib.hid (HM.out.grow HGX1.out)
    have HS := Lib.hid (HINr.out.right HMW.out HR.out)
    go_wp2_with fail
    refine (HS.out).mono ?_
    rintro e x2 ⟨rfl, hg⟩
    have HGX2 := Lib.hid (HGX1.out.trans (hg))
    have HINn := Lib.hid (HINr.out.grow hg)
    clear hg HS HMW HGX1 HIN HINr
    have HIN := HINn
    clear HINn
    have HINr := HIN
    have HMW := Lib.hid (HM.out.grow HGX2.out)
    have HS := Lib.hid (HINr.out.name HMW.out HNM.out)
    go_wp2_with fail
    refine (HS.out).mono ?_
    rintro e x3 ⟨rfl, hg⟩
    have HGX3 := Lib.hid (HGX2.out.trans (hg))
    have HINn := Lib.hid (HINr.out.grow hg)
    clear hg HS HMW HGX2 HIN HINr
    have HIN := HINn
    clear HINn
    go_wp2
    go_ret
    exact ⟨rfl, HGX3.out⟩
  | some h =>
    have HR : Hid ((headL ls).isSome = true) := Lib.hid (by rw [HO.out]; rfl)
    have HNM : Hid (nameL ls = h.name) := Lib.hid (by unfold nameL; rw [HO.out])
    have HGD := Lib.hid (good_of HO.out)
    have hne : ls ≠ [] := (headL_iff.1 HO.out).1
    have hkl : 0 < ls.length := by cases ls with
      | nil => exact absurd rfl hne
      | cons a r => simp
    have hn0 : 0 < n := by have := HIN.out.len; omega
    have h0i : decide (((n : Nat) : Int) < 1) = false := by rw [decide_eq_false_iff_not]; omega
    have h0n : decide (n < 1) = false := by rw [decide_eq_false_iff_not]; omega
    have HKL := Lib.hid hkl
    clear hne hkl
    have HINr := HIN
    have HMW := Lib.hid (HM.out.grow HGX1.out)
    have HS := Lib.hid (HINr.out.right HMW.out HR.out)
    go_wp2_with fail
    refine (HS.out).mono ?_
    rintro e x2 ⟨rfl, hg⟩
    have HGX2 := Lib.hid (HGX1.out.trans (hg))
    have HINn := Lib.hid (HINr.out.grow hg)
    clear hg HS HMW HGX1 HIN HINr
    have HIN := HINn
    clear HINn
    obtain ⟨b, off, rfl, hbb, hcl⟩ := HIN.out.strs HKL.out
    have hc := hcl 0 HKL.out
    have hx1 := getD_len HIN.out.each 0
    have hpr := HGD.out.parse
    obtain ⟨s, hs⟩ : ∃ s, ls.getD 0 [] = s := ⟨_, rfl⟩
    rw [hs] at hc hx1 hpr
    have hc' : x2.cell? ⟨b, off, none⟩ = some (.string ⟨s.toArray⟩) := hc
    have hpa := pparse_any s x2 (by omega) (HM.out.grow HGX2.out)
    rw [parse_same, hpr] at hpa
    have HPA := Lib.hid hpa
    have HAE := Lib.hid (allH_each hpr hx1)
    clear hpa hcl hbb hs hx1 hpr
    go_wp2_with fail
    refine (HPA.out).mono ?_
    rintro e x3 ⟨A3, n3, c3, rfl, hin, hg⟩
    simp only [Option.getD, Option.isSome] at hin ⊢
    have hg4 := grow_new x3 (.cells #[.string ⟨h.res.toArray⟩, .string ⟨h.left.toArray⟩, .string ⟨h.name.toArray⟩, .string ⟨h.right.toArray⟩, .string ⟨h.f.toArray⟩, .string ⟨h.g.toArray⟩, .slice A3 n3 c3] 33)
    have HGX4 := Lib.hid ((HGX2.out.trans hg).trans hg4)
    have hb4 := boxH_new x3 h A3 n3 c3
    have HIN4 := Lib.hid ((HIN.out.grow hg).grow hg4)
    obtain ⟨nb, hnb⟩ : ∃ nb, x3.heap.size = nb := ⟨_, rfl⟩
    have HNB := Lib.hid hnb
    rw [hnb] at hb4
    have HB4 := Lib.hid hb4
    unfold hdV strv
    clear hg hg4 hin hc hc' hb4 hnb HPA HIN HGX2
    go_upto_region 8 with fail
    rw [HNB.out]
    generalize x3.alloc (.cells #[.string ⟨h.res.toArray⟩, .string ⟨h.left.toArray⟩, .string ⟨h.name.toArray⟩, .string ⟨h.right.toArray⟩, .string ⟨h.f.toArray⟩, .string ⟨h.g.toArray⟩, .slice A3 n3 c3] 33) = x4 at HGX4 HIN4 HB4 ⊢
    have HIN := HIN4
    clear HIN4
    obtain ⟨lab, hlab⟩ : ∃ lab, labelsD ls = lab := ⟨_, rfl⟩
    obtain ⟨m, hm⟩ : ∃ m, lab.length = m := ⟨_, rfl⟩
    have HLB := Lib.hid hlab
    have HMM := Lib.hid hm
    have HEL : Hid (∀ t ∈ lab, rightD t = true ∧ t ≠ h.name ∧ t ≠ h.right) := Lib.hid (by rw [← hlab]; exact HGD.out.each)
    have HUL : Hid (unlB lab = true) := Lib.hid (by rw [← hlab]; exact HGD.out.unl)
    clear hlab hm
    have HINr := HIN
    have HB4r := HB4
    have HMW := Lib.hid (HM.out.grow HGX4.out)
    have HS := Lib.hid (HINr.out.labels HMW.out HLB.out HMM.out)
    go_wp2_with fail
    refine (HS.out).mono ?_
    rintro e x5 ⟨A5, c5, rfl, hl, hg⟩
    have HGX5 := Lib.hid (HGX4.out.trans (hg))
    have HINn := Lib.hid (HINr.out.grow hg)
    have HB4n := Lib.hid (HB4r.out.grow hg)
    have HL5 := Lib.hid hl
    clear hl
    clear hg HS HMW HGX4 HIN HINr HB4 HB4r
    have HIN := HINn
    clear HINn
    have HB4 := HB4n
    clear HB4n
    have hmt : m ≤ 1000 := HL5.out.top
    go_wp2
    go_loopg [8] m (fun g s8 wr => ∃ k : Nat, k ≤ m ∧ g = m - k ∧ s8 = .int .i64 k ∧ Hid (Grow x5 wr))
    case atStart => exact ⟨0, Nat.zero_le _, rfl, rfl, Lib.hid (Grow.refl _)⟩
    case round =>
      obtain ⟨k, hk, rfl, rfl, HG⟩ := hrel
      by_cases hlt : k < m
      · have hkl : k < lab.length := by rw [HMM.out]; exact hlt
        have hst := HL5.out.strs.grow HG.out
        obtain ⟨b7, off7, rfl, hbb, hcl⟩ := hst (by omega)
        have hc := hcl k hkl
        have hx1 := getD_len HL5.out.each k
        have hel := HEL.out (lab.getD k []) (by
          have e : lab.getD k [] = lab[k] := by simp [List.getD, hkl]
          rw [e]
          exact List.getElem_mem hkl)
        clear hcl hkl hst
        generalize lab.getD k [] = x at hc hx1 hel
        obtain ⟨hr1, hr2, hr3⟩ := hel
        have HC := Lib.hid (fun W => right_says hr1 W (show x.length ≤ 1100000 by omega))
        have e2 : (x == h.name) = false := beq_eq_false_iff_ne.2 hr2
        have e3 : (x == h.right) = false := beq_eq_false_iff_ne.2 hr3
        have HCC := Lib.hid hc
        have HBB := Lib.hid hbb
        have HB5 := Lib.hid (HB4.out.grow HG.out)
        clear hr1 hr2 hr3 hc hbb hx1
        go_upto_region 12 with fail
        refine wp_region_R Grow (n := 24) rfl (by kernel_rfl) ?_
        intro W0 hW0e hW0
        have HW0 : Hid (Grow wr W0) := Lib.hid hW0
        have p0 : ∀ wg, Grow W0 wg → wg.cell? ⟨b7, off7 + k, none⟩ = some (.string ⟨x.toArray⟩) := fun wg hh => ((HW0.out.trans hh).cell HBB.out).trans HCC.out
        have p2 : ∀ wg, Grow W0 wg → wg.cell? ⟨nb, 2, none⟩ = some (.string ⟨h.name.toArray⟩) := fun wg hh => (HB5.out.grow (HW0.out.trans hh)).at2
        have p3 : ∀ wg, Grow W0 wg → wg.cell? ⟨nb, 3, none⟩ = some (.string ⟨h.right.toArray⟩) := fun wg hh => (HB5.out.grow (HW0.out.trans hh)).at3
        clear hW0e
        refine wpR_take growOrd (i := 0) (v := ?vf1) rfl (by kernel_rfl) (by kernel_rfl) (by kernel_rfl) (fun _ _ _ h => h) (by rfl) ?hf1 ?rf1
        case hf1 => (intro wg hSw; go_simp <;> with_reducible rfl)
        simp only [Act.put, List.setIfInBounds_toArray, List.set_cons_zero, List.set_cons_succ]
        refine wpR_take growOrd (i := 1) (v := ?vf2) rfl (by kernel_rfl) (by kernel_rfl) (by kernel_rfl) (fun _ _ _ h => h) (by rfl) ?hf2 ?rf2
        case hf2 => (intro wg hSw; go_simp <;> with_reducible rfl)
        simp only [Act.put, List.setIfInBounds_toArray, List.set_cons_zero, List.set_cons_succ]
        refine wpR_take growOrd (i := 2) (v := ?vf3) rfl (by kernel_rfl) (by kernel_rfl) (by kernel_rfl) (fun _ _ _ h => h) (by rfl) ?hf3 ?rf3
        case hf3 => (intro wg hSw; go_simp <;> with_reducible rfl)
        simp only [Act.put, List.setIfInBounds_toArray, List.set_cons_zero, List.set_cons_succ]
        refine wpR_take growOrd (i := 3) (v := ?vf4) rfl (by kernel_rfl) (by kernel_rfl) (by kernel_rfl) (fun _ _ _ h => h) (by rfl) ?hf4 ?rf4
        case hf4 => (intro wg hSw; go_simp <;> with_reducible rfl)
        simp only [Act.put, List.setIfInBounds_toArray, List.set_cons_zero, List.set_cons_succ]
        refine wpR_one (i := 4) (by kernel_rfl) ?_
        refine wpR_op (i := 4) rfl (by rfl) (fun K hK => ?_)
        go_simp
        refine (HC.out W0).mono ?_
        rintro e wM4 ⟨rfl, hM4⟩
        have HM4 : Hid (Grow wr wM4) := Lib.hid ((HW0.out.trans (Grow.refl W0)).trans hM4)
        clear p0 p2 p3
        have p0 : ∀ wg, Grow wM4 wg → wg.cell? ⟨b7, off7 + k, none⟩ = some (.string ⟨x.toArray⟩) := fun wg hh => ((HM4.out.trans hh).cell HBB.out).trans HCC.out
        have p2 : ∀ wg, Grow wM4 wg → wg.cell? ⟨nb, 2, none⟩ = some (.string ⟨h.name.toArray⟩) := fun wg hh => (HB5.out.grow (HM4.out.trans hh)).at2
        have p3 : ∀ wg, Grow wM4 wg → wg.cell? ⟨nb, 3, none⟩ = some (.string ⟨h.right.toArray⟩) := fun wg hh => (HB5.out.grow (HM4.out.trans hh)).at3
        refine hK.out _ _ hM4 ?_
        clear hK K
        try simp only [Act.put, List.setIfInBounds_toArray, List.set_cons_zero, List.set_cons_succ]
        refine wpR_take growOrd (i := 5) (v := ?vf5) rfl (by kernel_rfl) (by kernel_rfl) (by kernel_rfl) (fun _ _ _ h => h) (by rfl) ?hf5 ?rf5
        case hf5 => (intro wg hSw; go_simp <;> with_reducible rfl)
        simp only [Act.put, List.setIfInBounds_toArray, List.set_cons_zero, List.set_cons_succ]
        refine wpR_take growOrd (i := 6) (v := ?vf6) rfl (by kernel_rfl) (by kernel_rfl) (by kernel_rfl) (fun _ _ _ h => h) (by rfl) ?hf6 ?rf6
        case hf6 => (intro wg hSw; go_simp <;> with_reducible rfl)
        simp only [Act.put, List.setIfInBounds_toArray, List.set_cons_zero, List.set_cons_succ]
        refine wpR_take growOrd (i := 7) (v := ?vf7) rfl (by kernel_rfl) (by kernel_rfl) (by kernel_rfl) (fun _ _ _ h => h) (by rfl) ?hf7 ?rf7
        case hf7 => (intro wg hSw; go_simp <;> with_reducible rfl)
        simp only [Act.put, List.setIfInBounds_toArray, List.set_cons_zero, List.set_cons_succ]
        refine wpR_take growOrd (i := 8) (v := ?vf8) rfl (by kernel_rfl) (by kernel_rfl) (by kernel_rfl) (fun _ _ _ h => h) (by rfl) ?hf8 ?rf8
        case hf8 => (intro wg hSw; go_simp <;> with_reducible rfl)
        simp only [Act.put, List.setIfInBounds_toArray, List.set_cons_zero, List.set_cons_succ]
        refine wpR_take growOrd (i := 9) (v := ?vf9) rfl (by kernel_rfl) (by kernel_rfl) (by kernel_rfl) (fun _ _ _ h => h) (by rfl) ?hf9 ?rf9
        case hf9 => (intro wg hSw; go_simp <;> with_reducible rfl)
        simp only [Act.put, List.setIfInBounds_toArray, List.set_cons_zero, List.set_cons_succ]
        refine wpR_take growOrd (i := 10) (v := ?vf10) rfl (by kernel_rfl) (by kernel_rfl) (by kernel_rfl) (fun _ _ _ h => h) (by rfl) ?hf10 ?rf10
        case hf10 => (intro wg hSw; go_simp <;> with_reducible rfl)
        simp only [Act.put, List.setIfInBounds_toArray, List.set_cons_zero, List.set_cons_succ]
        refine wpR_take growOrd (i := 11) (v := ?vf11) rfl (by kernel_rfl) (by kernel_rfl) (by kernel_rfl) (fun _ _ _ h => h) (by rfl) ?hf11 ?rf11
        case hf11 => (intro wg hSw; go_simp <;> with_reducible rfl)
        simp only [Act.put, List.setIfInBounds_toArray, List.set_cons_zero, List.set_cons_succ]
        refine wpR_take growOrd (i := 12) (v := ?vf12) rfl (by kernel_rfl) (by kernel_rfl) (by kernel_rfl) (fun _ _ _ h => h) (by rfl) ?hf12 ?rf12
        case hf12 => (intro wg hSw; go_simp <;> with_reducible rfl)
        simp only [Act.put, List.setIfInBounds_toArray, List.set_cons_zero, List.set_cons_succ]
        refine wpR_take growOrd (i := 13) (v := ?vf13) rfl (by kernel_rfl) (by kernel_rfl) (by kernel_rfl) (fun _ _ _ h => h) (by rfl) ?hf13 ?rf13
        case hf13 => (intro wg hSw; go_simp <;> with_reducible rfl)
        simp only [Act.put, List.setIfInBounds_toArray, List.set_cons_zero, List.set_cons_succ]
        refine wpR_take growOrd (i := 14) (v := ?vf14) rfl (by kernel_rfl) (by kernel_rfl) (by kernel_rfl) (fun _ _ _ h => h) (by rfl) ?hf14 ?rf14
        case hf14 => (intro wg hSw; go_simp <;> with_reducible rfl)
        simp only [Act.put, List.setIfInBounds_toArray, List.set_cons_zero, List.set_cons_succ]
        refine wpR_take growOrd (i := 15) (v := ?vf15) rfl (by kernel_rfl) (by kernel_rfl) (by kernel_rfl) (fun _ _ _ h => h) (by rfl) ?hf15 ?rf15
        case hf15 => (intro wg hSw; go_simp <;> with_reducible rfl)
        simp only [Act.put, List.setIfInBounds_toArray, List.set_cons_zero, List.set_cons_succ]
        refine wpR_take growOrd (i := 16) (v := ?vf16) rfl (by kernel_rfl) (by kernel_rfl) (by kernel_rfl) (fun _ _ _ h => h) (by rfl) ?hf16 ?rf16
        case hf16 => (intro wg hSw; go_simp <;> with_reducible rfl)
        simp only [Act.put, List.setIfInBounds_toArray, List.set_cons_zero, List.set_cons_succ]
        refine wpR_take growOrd (i := 17) (v := ?vf17) rfl (by kernel_rfl) (by kernel_rfl) (by kernel_rfl) (fun _ _ _ h => h) (by rfl) ?hf17 ?rf17
        case hf17 => (intro wg hSw; go_simp <;> with_reducible rfl)
        simp only [Act.put, List.setIfInBounds_toArray, List.set_cons_zero, List.set_cons_succ]
        refine wpR_take growOrd (i := 18) (v := ?vf18) rfl (by kernel_rfl) (by kernel_rfl) (by kernel_rfl) (fun _ _ _ h => h) (by rfl) ?hf18 ?rf18
        case hf18 => (intro wg hSw; go_simp <;> with_reducible rfl)
        simp only [Act.put, List.setIfInBounds_toArray, List.set_cons_zero, List.set_cons_succ]
        refine wpR_take growOrd (i := 19) (v := ?vf19) rfl (by kernel_rfl) (by kernel_rfl) (by kernel_rfl) (fun _ _ _ h => h) (by rfl) ?hf19 ?rf19
        case hf19 => (intro wg hSw; go_simp <;> with_reducible rfl)
        simp only [Act.put, List.setIfInBounds_toArray, List.set_cons_zero, List.set_cons_succ]
        refine wpR_take growOrd (i := 20) (v := ?vf20) rfl (by kernel_rfl) (by kernel_rfl) (by kernel_rfl) (fun _ _ _ h => h) (by rfl) ?hf20 ?rf20
        case hf20 => (intro wg hSw; go_simp <;> with_reducible rfl)
        simp only [Act.put, List.setIfInBounds_toArray, List.set_cons_zero, List.set_cons_succ]
        refine wpR_take growOrd (i := 21) (v := ?vf21) rfl (by kernel_rfl) (by kernel_rfl) (by kernel_rfl) (fun _ _ _ h => h) (by rfl) ?hf21 ?rf21
        case hf21 => (intro wg hSw; go_simp <;> with_reducible rfl)
        simp only [Act.put, List.setIfInBounds_toArray, List.set_cons_zero, List.set_cons_succ]
        refine wpR_take growOrd (i := 22) (v := ?vf22) rfl (by kernel_rfl) (by kernel_rfl) (by kernel_rfl) (fun _ _ _ h => h) (by rfl) ?hf22 ?rf22
        case hf22 => (intro wg hSw; go_simp <;> with_reducible rfl)
        simp only [Act.put, List.setIfInBounds_toArray, List.set_cons_zero, List.set_cons_succ]
        refine wpR_take growOrd (i := 23) (v := ?vf23) rfl (by kernel_rfl) (by kernel_rfl) (by kernel_rfl) (fun _ _ _ h => h) (by rfl) ?hf23 ?rf23
        case hf23 => (intro wg hSw; go_simp <;> with_reducible rfl)
        simp only [Act.put, List.setIfInBounds_toArray, List.set_cons_zero, List.set_cons_succ]
        refine wpR_done (by kernel_rfl) ?_
        have HGT := Lib.hid (HG.out.trans (HW0.out.trans (Grow.trans (Grow.refl W0) hM4)))
        clear p0 p2 p3
        go_wp2
        go_roundg (m - (k + 1))
        case rel => exact ⟨k + 1, by omega, rfl, by go_num, HGT⟩
        case measure => omega
      · obtain rfl : m = k := by omega
        obtain ⟨y5, hy5⟩ : ∃ y5, y5 = wr := ⟨_, rfl⟩
        subst hy5
        have HGY := Lib.hid (HGX5.out.trans HG.out)
        have HIY := Lib.hid (HIN.out.grow HG.out)
        have HBY := Lib.hid (HB4.out.grow HG.out)
        have HLY := Lib.hid (HL5.out.grow HG.out)
        have HC6 : Hid (∀ W, Grow y5 W → Calls Tryd.prog 17 #[.slice (some ⟨b, off, none⟩) n c] W (Gave h.name W)) := Lib.hid (fun W hW => (HIY.out.grow hW).name (HM.out.grow (HGY.out.trans hW)) HNM.out)
        have HNL : Hid (h.name.length ≤ 1100000) := Lib.hid (by have := HAE.out h.name (by simp [allH]); omega)
        have HC14 : Hid (∀ W, Calls Tryd.prog 24 #[.string ⟨h.name.toArray⟩] W (Says true W)) := Lib.hid (fun W => right_says HGD.out.right W HNL.out)
        have HC18 : Hid (∀ W, Grow y5 W → Calls Tryd.prog 25 #[.slice A5 m c5] W (Says true W)) := Lib.hid (fun W hW => unlike_says HUL.out W HLY.out.len (by have := HLY.out.top; omega) (HLY.out.grow hW).strs (fun t ht => by have := HLY.out.each t ht; omega))
        clear HIY HLY HIN HB4 HL5 HG HGD HEL HUL HAE
        go_upto_region 14 with fail
        refine wp_region_R Grow (n := 21) rfl (by kernel_rfl) ?_
        intro W0 hW0e hW0
        have HW0 : Hid (Grow y5 W0) := Lib.hid hW0
        have p2 : ∀ wg, Grow W0 wg → wg.cell? ⟨nb, 2, none⟩ = some (.string ⟨h.name.toArray⟩) := fun wg hh => (HBY.out.grow (HW0.out.trans hh)).at2
        clear hW0e
        refine wpR_take growOrd (i := 0) (v := ?vf24) rfl (by kernel_rfl) (by kernel_rfl) (by kernel_rfl) (fun _ _ _ h => h) (by rfl) ?hf24 ?rf24
        case hf24 => (intro wg hSw; go_simp <;> with_reducible rfl)
        simp only [Act.put, List.setIfInBounds_toArray, List.set_cons_zero, List.set_cons_succ]
        refine wpR_take growOrd (i := 1) (v := ?vf25) rfl (by kernel_rfl) (by kernel_rfl) (by kernel_rfl) (fun _ _ _ h => h) (by rfl) ?hf25 ?rf25
        case hf25 => (intro wg hSw; go_simp <;> with_reducible rfl)
        simp only [Act.put, List.setIfInBounds_toArray, List.set_cons_zero, List.set_cons_succ]
        refine wpR_take growOrd (i := 2) (v := ?vf26) rfl (by kernel_rfl) (by kernel_rfl) (by kernel_rfl) (fun _ _ _ h => h) (by rfl) ?hf26 ?rf26
        case hf26 => (intro wg hSw; go_simp <;> with_reducible rfl)
        simp only [Act.put, List.setIfInBounds_toArray, List.set_cons_zero, List.set_cons_succ]
        refine wpR_take growOrd (i := 3) (v := ?vf27) rfl (by kernel_rfl) (by kernel_rfl) (by kernel_rfl) (fun _ _ _ h => h) (by rfl) ?hf27 ?rf27
        case hf27 => (intro wg hSw; go_simp <;> with_reducible rfl)
        simp only [Act.put, List.setIfInBounds_toArray, List.set_cons_zero, List.set_cons_succ]
        refine wpR_take growOrd (i := 4) (v := ?vf28) rfl (by kernel_rfl) (by kernel_rfl) (by kernel_rfl) (fun _ _ _ h => h) (by rfl) ?hf28 ?rf28
        case hf28 => (intro wg hSw; go_simp <;> with_reducible rfl)
        simp only [Act.put, List.setIfInBounds_toArray, List.set_cons_zero, List.set_cons_succ]
        refine wpR_take growOrd (i := 5) (v := ?vf29) rfl (by kernel_rfl) (by kernel_rfl) (by kernel_rfl) (fun _ _ _ h => h) (by rfl) ?hf29 ?rf29
        case hf29 => (intro wg hSw; go_simp <;> with_reducible rfl)
        simp only [Act.put, List.setIfInBounds_toArray, List.set_cons_zero, List.set_cons_succ]
        refine wpR_take growOrd (i := 7) (v := ?vf30) rfl (by kernel_rfl) (by kernel_rfl) (by kernel_rfl) (fun _ _ _ h => h) (by rfl) ?hf30 ?rf30
        case hf30 => (intro wg hSw; go_simp <;> with_reducible rfl)
        simp only [Act.put, List.setIfInBounds_toArray, List.set_cons_zero, List.set_cons_succ]
        refine wpR_take growOrd (i := 8) (v := ?vf31) rfl (by kernel_rfl) (by kernel_rfl) (by kernel_rfl) (fun _ _ _ h => h) (by rfl) ?hf31 ?rf31
        case hf31 => (intro wg hSw; go_simp <;> with_reducible rfl)
        simp only [Act.put, List.setIfInBounds_toArray, List.set_cons_zero, List.set_cons_succ]
        refine wpR_one (i := 6) (by kernel_rfl) ?_
        refine wpR_op (i := 6) rfl (by rfl) (fun K hK => ?_)
        go_simp
        refine (HC6.out W0 (HW0.out.trans (Grow.refl W0))).mono ?_
        rintro e wM6 ⟨rfl, hM6⟩
        have HM6 : Hid (Grow y5 wM6) := Lib.hid ((HW0.out.trans (Grow.refl W0)).trans hM6)
        clear p2
        have p2 : ∀ wg, Grow wM6 wg → wg.cell? ⟨nb, 2, none⟩ = some (.string ⟨h.name.toArray⟩) := fun wg hh => (HBY.out.grow (HM6.out.trans hh)).at2
        refine hK.out _ _ hM6 ?_
        clear hK K
        try simp only [Act.put, List.setIfInBounds_toArray, List.set_cons_zero, List.set_cons_succ]
        refine wpR_take growOrd (i := 9) (v := ?vf32) rfl (by kernel_rfl) (by kernel_rfl) (by kernel_rfl) (fun _ _ _ h => h) (by rfl) ?hf32 ?rf32
        case hf32 => (intro wg hSw; go_simp <;> with_reducible rfl)
        simp only [Act.put, List.setIfInBounds_toArray, List.set_cons_zero, List.set_cons_succ]
        refine wpR_take growOrd (i := 10) (v := ?vf33) rfl (by kernel_rfl) (by kernel_rfl) (by kernel_rfl) (fun _ _ _ h => h) (by rfl) ?hf33 ?rf33
        case hf33 => (intro wg hSw; go_simp <;> with_reducible rfl)
        simp only [Act.put, List.setIfInBounds_toArray, List.set_cons_zero, List.set_cons_succ]
        refine wpR_take growOrd (i := 11) (v := ?vf34) rfl (by kernel_rfl) (by kernel_rfl) (by kernel_rfl) (fun _ _ _ h => h) (by rfl) ?hf34 ?rf34
        case hf34 => (intro wg hSw; go_simp <;> with_reducible rfl)
        simp only [Act.put, List.setIfInBounds_toArray, List.set_cons_zero, List.set_cons_succ]
        refine wpR_take growOrd (i := 12) (v := ?vf35) rfl (by kernel_rfl) (by kernel_rfl) (by kernel_rfl) (fun _ _ _ h => h) (by rfl) ?hf35 ?rf35
        case hf35 => (intro wg hSw; go_simp <;> with_reducible rfl)
        simp only [Act.put, List.setIfInBounds_toArray, List.set_cons_zero, List.set_cons_succ]
        refine wpR_take growOrd (i := 13) (v := ?vf36) rfl (by kernel_rfl) (by kernel_rfl) (by kernel_rfl) (fun _ _ _ h => h) (by rfl) ?hf36 ?rf36
        case hf36 => (intro wg hSw; go_simp <;> with_reducible rfl)
        simp only [Act.put, List.setIfInBounds_toArray, List.set_cons_zero, List.set_cons_succ]
        refine wpR_one (i := 14) (by kernel_rfl) ?_
        refine wpR_op (i := 14) rfl (by rfl) (fun K hK => ?_)
        go_simp
        refine (HC14.out wM6).mono ?_
        rintro e wM14 ⟨rfl, hM14⟩
        refine hK.out _ _ hM14 ?_
        clear hK K
        try simp only [Act.put, List.setIfInBounds_toArray, List.set_cons_zero, List.set_cons_succ]
        refine wpR_take growOrd (i := 15) (v := ?vf37) rfl (by kernel_rfl) (by kernel_rfl) (by kernel_rfl) (fun _ _ _ h => h) (by rfl) ?hf37 ?rf37
        case hf37 => (intro wg hSw; go_simp <;> with_reducible rfl)
        simp only [Act.put, List.setIfInBounds_toArray, List.set_cons_zero, List.set_cons_succ]
        refine wpR_take growOrd (i := 16) (v := ?vf38) rfl (by kernel_rfl) (by kernel_rfl) (by kernel_rfl) (fun _ _ _ h => h) (by rfl) ?hf38 ?rf38
        case hf38 => (intro wg hSw; go_simp <;> with_reducible rfl)
        simp only [Act.put, List.setIfInBounds_toArray, List.set_cons_zero, List.set_cons_succ]
        refine wpR_take growOrd (i := 17) (v := ?vf39) rfl (by kernel_rfl) (by kernel_rfl) (by kernel_rfl) (fun _ _ _ h => h) (by rfl) ?hf39 ?rf39
        case hf39 => (intro wg hSw; go_simp <;> with_reducible rfl)
        simp only [Act.put, List.setIfInBounds_toArray, List.set_cons_zero, List.set_cons_succ]
        refine wpR_one (i := 18) (by kernel_rfl) ?_
        refine wpR_op (i := 18) rfl (by rfl) (fun K hK => ?_)
        go_simp
        refine (HC18.out wM14 (HW0.out.trans (Grow.trans (Grow.trans (Grow.refl W0) hM6) hM14))).mono ?_
        rintro e wM18 ⟨rfl, hM18⟩
        refine hK.out _ _ hM18 ?_
        clear hK K
        try simp only [Act.put, List.setIfInBounds_toArray, List.set_cons_zero, List.set_cons_succ]
        refine wpR_take growOrd (i := 19) (v := ?vf40) rfl (by kernel_rfl) (by kernel_rfl) (by kernel_rfl) (fun _ _ _ h => h) (by rfl) ?hf40 ?rf40
        case hf40 => (intro wg hSw; go_simp <;> with_reducible rfl)
        simp only [Act.put, List.setIfInBounds_toArray, List.set_cons_zero, List.set_cons_succ]
        refine wpR_take growOrd (i := 20) (v := ?vf41) rfl (by kernel_rfl) (by kernel_rfl) (by kernel_rfl) (fun _ _ _ h => h) (by rfl) ?hf41 ?rf41
        case hf41 => (intro wg hSw; go_simp <;> with_reducible rfl)
        simp only [Act.put, List.setIfInBounds_toArray, List.set_cons_zero, List.set_cons_succ]
        refine wpR_done (by kernel_rfl) ?_
        have HGT := Lib.hid (HGY.out.trans (HW0.out.trans (Grow.trans (Grow.trans (Grow.trans (Grow.refl W0) hM6) hM14) hM18)))
        go_wp2
        go_ret
        exact ⟨rfl, HGT.out⟩
end Go.Proofs.YtcnijmmpkahoaaaDoor
