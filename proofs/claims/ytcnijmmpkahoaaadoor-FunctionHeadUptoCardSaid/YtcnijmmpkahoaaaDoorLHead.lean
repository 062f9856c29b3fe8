/-
  FunctionHead comes to true, whatever it is called with.
-/
import Derived.Test.YtcnijmmpkahoaaaDoorSmall
import Derived.Test.YtcnijmmpkahoaaaDoorLaidIn
import Derived.Test.YtcnijmmpkahoaaaDoorFew
namespace Go.Proofs.YtcnijmmpkahoaaaDoor
open Go.RowKit Go.Lib
set_option linter.unusedSimpArgs false
set_option linter.unusedVariables false
set_option maxRecDepth 100000

theorem ptext_says {h : Hd} {t : List UInt8} (e : headD h = t) {A : Option Addr} {n c : Nat} {W : World} (k : HdIn W A n c h) : Calls Tryd.prog 27 #[hdV h A n c] W (Gave t W) := by
  have := ptext_any h A n c W k
  rw [e] at this
  exact this
theorem pright_says {h : Hd} {b : Bool} (e : rightH h = b) {A : Option Addr} {n c : Nat} {W : World} (k : HdIn W A n c h) : Calls Tryd.prog 28 #[hdV h A n c] W (Says b W) := by
  have := pright_any h A n c W k
  rw [e] at this
  exact this
theorem IsHead.grow {W W' : World} {A : Option Addr} {n c : Nat} {h : Hd} (k : IsHead W A n c h) (hg : Grow W W') : IsHead W' A n c h := ⟨k.1, k.2.1, k.2.2.1.grow hg, k.2.2.2⟩
set_option maxHeartbeats 12800000 in
theorem lhead_walk (h : Hd) (A : Option Addr) (n c : Nat) (w : World) (hi : IsHead w A n c h) (hk : HdIn w A n c h) (hL : Laid w) :
    Calls Tryd.prog 7 #[hdV h A n c] w (Fine w) := by
  have hm : MaxAt w := hL
  have HM := Lib.hid hm
  have hg0 := grow_new w (.cells #[.string ⟨h.res.toArray⟩, .string ⟨h.left.toArray⟩, .string ⟨h.name.toArray⟩, .string ⟨h.right.toArray⟩, .string ⟨h.f.toArray⟩, .string ⟨h.g.toArray⟩, .slice A n c] 33)
  have HG0 := Lib.hid hg0
  have HB0 := Lib.hid (boxH_new w h A n c)
  have HI0 := Lib.hid (hi.grow hg0)
  have HK0 := Lib.hid (hk.grow hg0)
  obtain ⟨nb, hnb⟩ : ∃ nb, w.heap.size = nb := ⟨_, rfl⟩
  have HNB := Lib.hid hnb
  rw [hnb] at HB0
  unfold hdV strv
  clear hL hm hi hk hg0 hnb
  go_enter Tryd.func7, Tryd.ntmps7
  go_upto_region 1 with fail
  rw [HNB.out]
  generalize w.alloc (.cells #[.string ⟨h.res.toArray⟩, .string ⟨h.left.toArray⟩, .string ⟨h.name.toArray⟩, .string ⟨h.right.toArray⟩, .string ⟨h.f.toArray⟩, .string ⟨h.g.toArray⟩, .slice A n c] 33) = w0 at HG0 HB0 HI0 HK0 ⊢
  have HS0 := Lib.hid (small_any w0 (HM.out.grow HG0.out))
  go_wp2_with fail
  refine (HS0.out).mono ?_
  rintro e w1 ⟨rfl, hg⟩
  have HG1 := Lib.hid (HG0.out.trans hg)
  have HB1 := Lib.hid (HB0.out.grow hg)
  have HI1 := Lib.hid (HI0.out.grow hg)
  have HK1 := Lib.hid (HK0.out.grow hg)
  clear hg HS0 HB0 HI0 HK0 HG0

  have b0 := HB1.out.at0
  have b1 := HB1.out.at1
  have b2 := HB1.out.at2
  have b3 := HB1.out.at3
  have b4 := HB1.out.at4
  have b5 := HB1.out.at5
  have b6 := HB1.out.at6
  obtain ⟨φ, hφ⟩ : ∃ φ, decide (fewP h) = φ := ⟨_, rfl⟩
  have hfw := few_any h A n c w1 HI1.out
  unfold hdV strv at hfw
  rw [hφ] at hfw
  have HFW := Lib.hid hfw
  clear hφ hfw
  go_wp2_with fail
  refine (HFW.out).mono ?_
  rintro e w2 ⟨rfl, hg⟩
  have HG2 := Lib.hid (HG1.out.trans hg)
  have HB2 := Lib.hid (HB1.out.grow hg)
  have HK2 := Lib.hid (HK1.out.grow hg)
  clear hg HFW HB1 HI1 HK1 HG1
  clear b0 b1 b2 b3 b4 b5 b6
  have b0 := HB2.out.at0
  have b1 := HB2.out.at1
  have b2 := HB2.out.at2
  have b3 := HB2.out.at3
  have b4 := HB2.out.at4
  have b5 := HB2.out.at5
  have b6 := HB2.out.at6
  obtain ⟨s, hs⟩ : ∃ s, headD h = s := ⟨_, rfl⟩
  have htx := ptext_says hs HK2.out
  unfold hdV strv at htx
  have HTX := Lib.hid htx
  have HHS := Lib.hid hs
  clear hs htx
  go_wp2_with fail
  refine (HTX.out).mono ?_
  rintro e w3 ⟨rfl, hg⟩
  have HG3 := Lib.hid (HG2.out.trans hg)
  have HB3 := Lib.hid (HB2.out.grow hg)
  have HK3 := Lib.hid (HK2.out.grow hg)
  clear hg HTX HB2 HK2 HG2
  clear b0 b1 b2 b3 b4 b5 b6
  cases φ with
  | false =>
    go_wp2
    go_ret
    exact ⟨rfl, HG3.out⟩
  | true =>
  have hsz := str_size s
  by_cases h5 : 1000 < s.length
  · have h5i : (1000 : Int) < ((s.length : Nat) : Int) := by omega
    go_wp2
    go_ret
    exact ⟨rfl, HG3.out⟩
  have h5i : ¬ (1000 : Int) < ((s.length : Nat) : Int) := by omega
  have hgr := grow_new w3 (.cells #[.string ⟨s.toArray⟩] 9)
  have HLI : Hid (LinesAt (w3.alloc (.cells #[.string ⟨s.toArray⟩] 9)) (some ⟨w3.heap.size, 0, none⟩) 1 1 [s]) := Lib.hid (lit_lines w3 [s] (by simp) (fun t ht => by
    have e : t = s := by simpa using ht
    rw [e]
    omega) (by show s.length + 0 ≤ 10000; omega))
  have HG4 := Lib.hid (HG3.out.trans hgr)
  have HB4 := Lib.hid (HB3.out.grow hgr)
  have HK4 := Lib.hid (HK3.out.grow hgr)
  obtain ⟨α, hα⟩ : ∃ α, rightH h = α := ⟨_, rfl⟩
  have HA := Lib.hid hα
  have hal : headL [s] = if α = true then some h else none := by
    have := head_alone (h := h) (by rw [HHS.out]; omega)
    rw [HHS.out, hα] at this
    exact this
  have HAL := Lib.hid hal
  have HRI : Hid ((headL [s]).isSome = α) := Lib.hid (by rw [hal]; cases α <;> rfl)
  have HNM : Hid (α = true → nameL [s] = h.name) := Lib.hid (fun e => by unfold nameL; rw [hal, if_pos e])
  obtain ⟨lb, hlb⟩ : ∃ lb, w3.heap.size = lb := ⟨_, rfl⟩
  have HLB := Lib.hid hlb
  rw [hlb] at HLI
  clear hgr HG3 HB3 HK3 hα hal hlb h5
  go_upto_region 7 with fail
  rw [HLB.out]
  generalize w3.alloc (.cells #[.string ⟨s.toArray⟩] 9) = w4 at HLI HG4 HB4 HK4 ⊢
  have b0 := HB4.out.at0
  have b1 := HB4.out.at1
  have b2 := HB4.out.at2
  have b3 := HB4.out.at3
  have b4 := HB4.out.at4
  have b5 := HB4.out.at5
  have b6 := HB4.out.at6
  have hrt := pright_says HA.out HK4.out
  unfold hdV strv at hrt
  have HRT := Lib.hid hrt
  clear hrt
  go_wp2_with fail
  refine (HRT.out).mono ?_
  rintro e w5 ⟨rfl, hg⟩
  have HG5 := Lib.hid (HG4.out.trans hg)
  have HB5 := Lib.hid (HB4.out.grow hg)
  have HL5 := Lib.hid (HLI.out.grow hg)
  clear hg HRT HB4 HK4 HG4 HLI
  clear b0 b1 b2 b3 b4 b5 b6
  have HC3 : Hid (∀ W, Grow w5 W → Calls Tryd.prog 15 #[.slice (some ⟨lb, 0, none⟩) 1 1] W (Says α W)) := Lib.hid (fun W hW => (HL5.out.grow hW).right (HM.out.grow (HG5.out.trans hW)) HRI.out)
  have HC20 : Hid (∀ W, Grow w5 W → Calls Tryd.prog 13 #[.slice (some ⟨lb, 0, none⟩) 1 1] W (Lines [] 0 W)) := Lib.hid (fun W hW => (HL5.out.grow hW).labels (HM.out.grow (HG5.out.trans hW)) (labels_one s) rfl)
  cases α with
  | false =>
    clear HNM HAL HRI
    go_upto_region 8 with fail
    refine wp_region_R Grow (n := 25) rfl (by kernel_rfl) ?_
    intro W0 hW0e hW0
    have HW0 : Hid (Grow w5 W0) := Lib.hid hW0
    clear hW0e
    refine wpR_take growOrd (i := 0) (v := ?vf1) rfl (by kernel_rfl) (by kernel_rfl) (by kernel_rfl) (fun _ _ _ h => h) (by rfl) ?hf1 ?rf1
    case hf1 => (intro wg hSw; go_simp <;> with_reducible rfl)
    simp only [Act.put, List.setIfInBounds_toArray, List.set_cons_zero, List.set_cons_succ]
    refine wpR_take growOrd (i := 1) (v := ?vf2) rfl (by kernel_rfl) (by kernel_rfl) (by kernel_rfl) (fun _ _ _ h => h) (by rfl) ?hf2 ?rf2
    case hf2 => (intro wg hSw; go_simp <;> with_reducible rfl)
    simp only [Act.put, List.setIfInBounds_toArray, List.set_cons_zero, List.set_cons_succ]
    refine wpR_take growOrd (i := 2) (v := ?vf3) rfl (by kernel_rfl) (by kernel_rfl) (by kernel_rfl) (fun _ _ _ h => h) (by rfl) ?hf3 ?rf3
    case hf3 => (intro wg hSw; go_simp <;> with_reducible rfl)
    simp only [Act.put, List.setIfInBounds_toArray, List.set_cons_zero, List.set_cons_succ]
    refine wpR_take growOrd (i := 4) (v := ?vf4) rfl (by kernel_rfl) (by kernel_rfl) (by kernel_rfl) (fun _ _ _ h => h) (by rfl) ?hf4 ?rf4
    case hf4 => (intro wg hSw; go_simp <;> with_reducible rfl)
    simp only [Act.put, List.setIfInBounds_toArray, List.set_cons_zero, List.set_cons_succ]
    refine wpR_one (i := 3) (by kernel_rfl) ?_
    refine wpR_op (i := 3) rfl (by rfl) (fun K hK => ?_)
    go_simp
    refine (HC3.out W0 (HW0.out.trans (Grow.refl W0))).mono ?_
    rintro e wM3 ⟨rfl, hM3⟩
    refine hK.out _ _ hM3 ?_
    clear hK K
    try simp only [Act.put, List.setIfInBounds_toArray, List.set_cons_zero, List.set_cons_succ]
    refine wpR_take growOrd (i := 5) (v := ?vf5) rfl (by kernel_rfl) (by kernel_rfl) (by kernel_rfl) (fun _ _ _ h => h) (by rfl) ?hf5 ?rf5
    case hf5 => (intro wg hSw; go_simp <;> with_reducible rfl)
    simp only [Act.put, List.setIfInBounds_toArray, List.set_cons_zero, List.set_cons_succ]
    refine wpR_take growOrd (i := 6) (v := ?vf6) rfl (by kernel_rfl) (by kernel_rfl) (by kernel_rfl) (fun _ _ _ h => h) (by rfl) ?hf6 ?rf6
    case hf6 => (intro wg hSw; go_simp <;> with_reducible rfl)
    simp only [Act.put, List.setIfInBounds_toArray, List.set_cons_zero, List.set_cons_succ]
    refine wpR_take growOrd (i := 7) (v := ?vf7) rfl (by kernel_rfl) (by kernel_rfl) (by kernel_rfl) (fun _ _ _ h => h) (by rfl) ?hf7 ?rf7
    case hf7 => (intro wg hSw; go_simp <;> with_reducible rfl)
    simp only [Act.put, List.setIfInBounds_toArray, List.set_cons_zero, List.set_cons_succ]
    refine wpR_take growOrd (i := 8) (v := ?vf8) rfl (by kernel_rfl) (by kernel_rfl) (by kernel_rfl) (fun _ _ _ h => h) (by rfl) ?hf8 ?rf8
    case hf8 => (intro wg hSw; go_simp <;> with_reducible rfl)
    simp only [Act.put, List.setIfInBounds_toArray, List.set_cons_zero, List.set_cons_succ]
    refine wpR_take growOrd (i := 9) (v := ?vf9) rfl (by kernel_rfl) (by kernel_rfl) (by kernel_rfl) (fun _ _ _ h => h) (by rfl) ?hf9 ?rf9
    case hf9 => (intro wg hSw; go_simp <;> with_reducible rfl)
    simp only [Act.put, List.setIfInBounds_toArray, List.set_cons_zero, List.set_cons_succ]
    refine wpR_take growOrd (i := 10) (v := ?vf10) rfl (by kernel_rfl) (by kernel_rfl) (by kernel_rfl) (fun _ _ _ h => h) (by rfl) ?hf10 ?rf10
    case hf10 => (intro wg hSw; go_simp <;> with_reducible rfl)
    simp only [Act.put, List.setIfInBounds_toArray, List.set_cons_zero, List.set_cons_succ]
    refine wpR_pass growOrd (i := 11) rfl (by kernel_rfl) (by kernel_rfl) (by kernel_rfl) (fun _ _ _ h => h) (by rfl) ?_
    simp only [Act.put, List.setIfInBounds_toArray, List.set_cons_zero, List.set_cons_succ]
    refine wpR_pass growOrd (i := 12) rfl (by kernel_rfl) (by kernel_rfl) (by kernel_rfl) (fun _ _ _ h => h) (by rfl) ?_
    simp only [Act.put, List.setIfInBounds_toArray, List.set_cons_zero, List.set_cons_succ]
    refine wpR_pass growOrd (i := 13) rfl (by kernel_rfl) (by kernel_rfl) (by kernel_rfl) (fun _ _ _ h => h) (by rfl) ?_
    simp only [Act.put, List.setIfInBounds_toArray, List.set_cons_zero, List.set_cons_succ]
    refine wpR_pass growOrd (i := 14) rfl (by kernel_rfl) (by kernel_rfl) (by kernel_rfl) (fun _ _ _ h => h) (by rfl) ?_
    simp only [Act.put, List.setIfInBounds_toArray, List.set_cons_zero, List.set_cons_succ]
    refine wpR_pass growOrd (i := 15) rfl (by kernel_rfl) (by kernel_rfl) (by kernel_rfl) (fun _ _ _ h => h) (by rfl) ?_
    simp only [Act.put, List.setIfInBounds_toArray, List.set_cons_zero, List.set_cons_succ]
    refine wpR_take growOrd (i := 16) (v := ?vf11) rfl (by kernel_rfl) (by kernel_rfl) (by kernel_rfl) (fun _ _ _ h => h) (by rfl) ?hf11 ?rf11
    case hf11 => (intro wg hSw; go_simp <;> with_reducible rfl)
    simp only [Act.put, List.setIfInBounds_toArray, List.set_cons_zero, List.set_cons_succ]
    refine wpR_take growOrd (i := 17) (v := ?vf12) rfl (by kernel_rfl) (by kernel_rfl) (by kernel_rfl) (fun _ _ _ h => h) (by rfl) ?hf12 ?rf12
    case hf12 => (intro wg hSw; go_simp <;> with_reducible rfl)
    simp only [Act.put, List.setIfInBounds_toArray, List.set_cons_zero, List.set_cons_succ]
    refine wpR_take growOrd (i := 18) (v := ?vf13) rfl (by kernel_rfl) (by kernel_rfl) (by kernel_rfl) (fun _ _ _ h => h) (by rfl) ?hf13 ?rf13
    case hf13 => (intro wg hSw; go_simp <;> with_reducible rfl)
    simp only [Act.put, List.setIfInBounds_toArray, List.set_cons_zero, List.set_cons_succ]
    refine wpR_take growOrd (i := 19) (v := ?vf14) rfl (by kernel_rfl) (by kernel_rfl) (by kernel_rfl) (fun _ _ _ h => h) (by rfl) ?hf14 ?rf14
    case hf14 => (intro wg hSw; go_simp <;> with_reducible rfl)
    simp only [Act.put, List.setIfInBounds_toArray, List.set_cons_zero, List.set_cons_succ]
    refine wpR_one (i := 20) (by kernel_rfl) ?_
    refine wpR_op (i := 20) rfl (by rfl) (fun K hK => ?_)
    go_simp
    refine (HC20.out wM3 (HW0.out.trans (Grow.trans (Grow.refl W0) hM3))).mono ?_
    rintro e wM20 ⟨A20, c20, rfl, _, hM20⟩
    refine hK.out _ _ hM20 ?_
    clear hK K
    try simp only [Act.put, List.setIfInBounds_toArray, List.set_cons_zero, List.set_cons_succ]
    refine wpR_take growOrd (i := 21) (v := ?vf15) rfl (by kernel_rfl) (by kernel_rfl) (by kernel_rfl) (fun _ _ _ h => h) (by rfl) ?hf15 ?rf15
    case hf15 => (intro wg hSw; go_simp <;> with_reducible rfl)
    simp only [Act.put, List.setIfInBounds_toArray, List.set_cons_zero, List.set_cons_succ]
    refine wpR_take growOrd (i := 22) (v := ?vf16) rfl (by kernel_rfl) (by kernel_rfl) (by kernel_rfl) (fun _ _ _ h => h) (by rfl) ?hf16 ?rf16
    case hf16 => (intro wg hSw; go_simp <;> with_reducible rfl)
    simp only [Act.put, List.setIfInBounds_toArray, List.set_cons_zero, List.set_cons_succ]
    refine wpR_take growOrd (i := 23) (v := ?vf17) rfl (by kernel_rfl) (by kernel_rfl) (by kernel_rfl) (fun _ _ _ h => h) (by rfl) ?hf17 ?rf17
    case hf17 => (intro wg hSw; go_simp <;> with_reducible rfl)
    simp only [Act.put, List.setIfInBounds_toArray, List.set_cons_zero, List.set_cons_succ]
    refine wpR_take growOrd (i := 24) (v := ?vf18) rfl (by kernel_rfl) (by kernel_rfl) (by kernel_rfl) (fun _ _ _ h => h) (by rfl) ?hf18 ?rf18
    case hf18 => (intro wg hSw; go_simp <;> with_reducible rfl)
    simp only [Act.put, List.setIfInBounds_toArray, List.set_cons_zero, List.set_cons_succ]
    refine wpR_done (by kernel_rfl) ?_
    have HGT := Lib.hid (HG5.out.trans (HW0.out.trans (Grow.trans (Grow.trans (Grow.refl W0) hM3) hM20)))
    go_wp2
    go_ret
    exact ⟨rfl, HGT.out⟩
  | true =>
    have HN2 := Lib.hid (HNM.out rfl)
    have HC12 : Hid (∀ W, Grow w5 W → Calls Tryd.prog 17 #[.slice (some ⟨lb, 0, none⟩) 1 1] W (Gave h.name W)) := Lib.hid (fun W hW => (HL5.out.grow hW).name (HM.out.grow (HG5.out.trans hW)) HN2.out)
    clear HNM HAL HRI HN2
    go_upto_region 8 with fail
    refine wp_region_R Grow (n := 25) rfl (by kernel_rfl) ?_
    intro W0 hW0e hW0
    have HW0 : Hid (Grow w5 W0) := Lib.hid hW0
    have p2 : ∀ wg, Grow W0 wg → wg.cell? ⟨nb, 2, none⟩ = some (.string ⟨h.name.toArray⟩) := fun wg hh => (HB5.out.grow (HW0.out.trans hh)).at2
    clear hW0e
    refine wpR_take growOrd (i := 0) (v := ?vf19) rfl (by kernel_rfl) (by kernel_rfl) (by kernel_rfl) (fun _ _ _ h => h) (by rfl) ?hf19 ?rf19
    case hf19 => (intro wg hSw; go_simp <;> with_reducible rfl)
    simp only [Act.put, List.setIfInBounds_toArray, List.set_cons_zero, List.set_cons_succ]
    refine wpR_take growOrd (i := 1) (v := ?vf20) rfl (by kernel_rfl) (by kernel_rfl) (by kernel_rfl) (fun _ _ _ h => h) (by rfl) ?hf20 ?rf20
    case hf20 => (intro wg hSw; go_simp <;> with_reducible rfl)
    simp only [Act.put, List.setIfInBounds_toArray, List.set_cons_zero, List.set_cons_succ]
    refine wpR_take growOrd (i := 2) (v := ?vf21) rfl (by kernel_rfl) (by kernel_rfl) (by kernel_rfl) (fun _ _ _ h => h) (by rfl) ?hf21 ?rf21
    case hf21 => (intro wg hSw; go_simp <;> with_reducible rfl)
    simp only [Act.put, List.setIfInBounds_toArray, List.set_cons_zero, List.set_cons_succ]
    refine wpR_take growOrd (i := 4) (v := ?vf22) rfl (by kernel_rfl) (by kernel_rfl) (by kernel_rfl) (fun _ _ _ h => h) (by rfl) ?hf22 ?rf22
    case hf22 => (intro wg hSw; go_simp <;> with_reducible rfl)
    simp only [Act.put, List.setIfInBounds_toArray, List.set_cons_zero, List.set_cons_succ]
    refine wpR_one (i := 3) (by kernel_rfl) ?_
    refine wpR_op (i := 3) rfl (by rfl) (fun K hK => ?_)
    go_simp
    refine (HC3.out W0 (HW0.out.trans (Grow.refl W0))).mono ?_
    rintro e wM3 ⟨rfl, hM3⟩
    have HM3 : Hid (Grow w5 wM3) := Lib.hid ((HW0.out.trans (Grow.refl W0)).trans hM3)
    clear p2
    have p2 : ∀ wg, Grow wM3 wg → wg.cell? ⟨nb, 2, none⟩ = some (.string ⟨h.name.toArray⟩) := fun wg hh => (HB5.out.grow (HM3.out.trans hh)).at2
    refine hK.out _ _ hM3 ?_
    clear hK K
    try simp only [Act.put, List.setIfInBounds_toArray, List.set_cons_zero, List.set_cons_succ]
    refine wpR_take growOrd (i := 5) (v := ?vf23) rfl (by kernel_rfl) (by kernel_rfl) (by kernel_rfl) (fun _ _ _ h => h) (by rfl) ?hf23 ?rf23
    case hf23 => (intro wg hSw; go_simp <;> with_reducible rfl)
    simp only [Act.put, List.setIfInBounds_toArray, List.set_cons_zero, List.set_cons_succ]
    refine wpR_take growOrd (i := 6) (v := ?vf24) rfl (by kernel_rfl) (by kernel_rfl) (by kernel_rfl) (fun _ _ _ h => h) (by rfl) ?hf24 ?rf24
    case hf24 => (intro wg hSw; go_simp <;> with_reducible rfl)
    simp only [Act.put, List.setIfInBounds_toArray, List.set_cons_zero, List.set_cons_succ]
    refine wpR_take growOrd (i := 7) (v := ?vf25) rfl (by kernel_rfl) (by kernel_rfl) (by kernel_rfl) (fun _ _ _ h => h) (by rfl) ?hf25 ?rf25
    case hf25 => (intro wg hSw; go_simp <;> with_reducible rfl)
    simp only [Act.put, List.setIfInBounds_toArray, List.set_cons_zero, List.set_cons_succ]
    refine wpR_take growOrd (i := 8) (v := ?vf26) rfl (by kernel_rfl) (by kernel_rfl) (by kernel_rfl) (fun _ _ _ h => h) (by rfl) ?hf26 ?rf26
    case hf26 => (intro wg hSw; go_simp <;> with_reducible rfl)
    simp only [Act.put, List.setIfInBounds_toArray, List.set_cons_zero, List.set_cons_succ]
    refine wpR_take growOrd (i := 9) (v := ?vf27) rfl (by kernel_rfl) (by kernel_rfl) (by kernel_rfl) (fun _ _ _ h => h) (by rfl) ?hf27 ?rf27
    case hf27 => (intro wg hSw; go_simp <;> with_reducible rfl)
    simp only [Act.put, List.setIfInBounds_toArray, List.set_cons_zero, List.set_cons_succ]
    refine wpR_take growOrd (i := 10) (v := ?vf28) rfl (by kernel_rfl) (by kernel_rfl) (by kernel_rfl) (fun _ _ _ h => h) (by rfl) ?hf28 ?rf28
    case hf28 => (intro wg hSw; go_simp <;> with_reducible rfl)
    simp only [Act.put, List.setIfInBounds_toArray, List.set_cons_zero, List.set_cons_succ]
    refine wpR_take growOrd (i := 11) (v := ?vf29) rfl (by kernel_rfl) (by kernel_rfl) (by kernel_rfl) (fun _ _ _ h => h) (by rfl) ?hf29 ?rf29
    case hf29 => (intro wg hSw; go_simp <;> with_reducible rfl)
    simp only [Act.put, List.setIfInBounds_toArray, List.set_cons_zero, List.set_cons_succ]
    refine wpR_take growOrd (i := 13) (v := ?vf30) rfl (by kernel_rfl) (by kernel_rfl) (by kernel_rfl) (fun _ _ _ h => h) (by rfl) ?hf30 ?rf30
    case hf30 => (intro wg hSw; go_simp <;> with_reducible rfl)
    simp only [Act.put, List.setIfInBounds_toArray, List.set_cons_zero, List.set_cons_succ]
    refine wpR_take growOrd (i := 14) (v := ?vf31) rfl (by kernel_rfl) (by kernel_rfl) (by kernel_rfl) (fun _ _ _ h => h) (by rfl) ?hf31 ?rf31
    case hf31 => (intro wg hSw; go_simp <;> with_reducible rfl)
    simp only [Act.put, List.setIfInBounds_toArray, List.set_cons_zero, List.set_cons_succ]
    refine wpR_one (i := 12) (by kernel_rfl) ?_
    refine wpR_op (i := 12) rfl (by rfl) (fun K hK => ?_)
    go_simp
    refine (HC12.out wM3 (HW0.out.trans (Grow.trans (Grow.refl W0) hM3))).mono ?_
    rintro e wM12 ⟨rfl, hM12⟩
    have HM12 : Hid (Grow w5 wM12) := Lib.hid ((HW0.out.trans (Grow.trans (Grow.refl W0) hM3)).trans hM12)
    clear p2
    have p2 : ∀ wg, Grow wM12 wg → wg.cell? ⟨nb, 2, none⟩ = some (.string ⟨h.name.toArray⟩) := fun wg hh => (HB5.out.grow (HM12.out.trans hh)).at2
    refine hK.out _ _ hM12 ?_
    clear hK K
    try simp only [Act.put, List.setIfInBounds_toArray, List.set_cons_zero, List.set_cons_succ]
    refine wpR_take growOrd (i := 15) (v := ?vf32) rfl (by kernel_rfl) (by kernel_rfl) (by kernel_rfl) (fun _ _ _ h => h) (by rfl) ?hf32 ?rf32
    case hf32 => (intro wg hSw; go_simp <;> with_reducible rfl)
    simp only [Act.put, List.setIfInBounds_toArray, List.set_cons_zero, List.set_cons_succ]
    refine wpR_take growOrd (i := 16) (v := ?vf33) rfl (by kernel_rfl) (by kernel_rfl) (by kernel_rfl) (fun _ _ _ h => h) (by rfl) ?hf33 ?rf33
    case hf33 => (intro wg hSw; go_simp <;> with_reducible rfl)
    simp only [Act.put, List.setIfInBounds_toArray, List.set_cons_zero, List.set_cons_succ]
    refine wpR_take growOrd (i := 17) (v := ?vf34) rfl (by kernel_rfl) (by kernel_rfl) (by kernel_rfl) (fun _ _ _ h => h) (by rfl) ?hf34 ?rf34
    case hf34 => (intro wg hSw; go_simp <;> with_reducible rfl)
    simp only [Act.put, List.setIfInBounds_toArray, List.set_cons_zero, List.set_cons_succ]
    refine wpR_take growOrd (i := 18) (v := ?vf35) rfl (by kernel_rfl) (by kernel_rfl) (by kernel_rfl) (fun _ _ _ h => h) (by rfl) ?hf35 ?rf35
    case hf35 => (intro wg hSw; go_simp <;> with_reducible rfl)
    simp only [Act.put, List.setIfInBounds_toArray, List.set_cons_zero, List.set_cons_succ]
    refine wpR_take growOrd (i := 19) (v := ?vf36) rfl (by kernel_rfl) (by kernel_rfl) (by kernel_rfl) (fun _ _ _ h => h) (by rfl) ?hf36 ?rf36
    case hf36 => (intro wg hSw; go_simp <;> with_reducible rfl)
    simp only [Act.put, List.setIfInBounds_toArray, List.set_cons_zero, List.set_cons_succ]
    refine wpR_one (i := 20) (by kernel_rfl) ?_
    refine wpR_op (i := 20) rfl (by rfl) (fun K hK => ?_)
    go_simp
    refine (HC20.out wM12 (HW0.out.trans (Grow.trans (Grow.trans (Grow.refl W0) hM3) hM12))).mono ?_
    rintro e wM20 ⟨A20, c20, rfl, _, hM20⟩
    refine hK.out _ _ hM20 ?_
    clear hK K
    try simp only [Act.put, List.setIfInBounds_toArray, List.set_cons_zero, List.set_cons_succ]
    refine wpR_take growOrd (i := 21) (v := ?vf37) rfl (by kernel_rfl) (by kernel_rfl) (by kernel_rfl) (fun _ _ _ h => h) (by rfl) ?hf37 ?rf37
    case hf37 => (intro wg hSw; go_simp <;> with_reducible rfl)
    simp only [Act.put, List.setIfInBounds_toArray, List.set_cons_zero, List.set_cons_succ]
    refine wpR_take growOrd (i := 22) (v := ?vf38) rfl (by kernel_rfl) (by kernel_rfl) (by kernel_rfl) (fun _ _ _ h => h) (by rfl) ?hf38 ?rf38
    case hf38 => (intro wg hSw; go_simp <;> with_reducible rfl)
    simp only [Act.put, List.setIfInBounds_toArray, List.set_cons_zero, List.set_cons_succ]
    refine wpR_take growOrd (i := 23) (v := ?vf39) rfl (by kernel_rfl) (by kernel_rfl) (by kernel_rfl) (fun _ _ _ h => h) (by rfl) ?hf39 ?rf39
    case hf39 => (intro wg hSw; go_simp <;> with_reducible rfl)
    simp only [Act.put, List.setIfInBounds_toArray, List.set_cons_zero, List.set_cons_succ]
    refine wpR_take growOrd (i := 24) (v := ?vf40) rfl (by kernel_rfl) (by kernel_rfl) (by kernel_rfl) (fun _ _ _ h => h) (by rfl) ?hf40 ?rf40
    case hf40 => (intro wg hSw; go_simp <;> with_reducible rfl)
    simp only [Act.put, List.setIfInBounds_toArray, List.set_cons_zero, List.set_cons_succ]
    refine wpR_done (by kernel_rfl) ?_
    have HGT := Lib.hid (HG5.out.trans (HW0.out.trans (Grow.trans (Grow.trans (Grow.trans (Grow.refl W0) hM3) hM12) hM20)))
    go_wp2
    go_ret
    exact ⟨rfl, HGT.out⟩
end Go.Proofs.YtcnijmmpkahoaaaDoor
