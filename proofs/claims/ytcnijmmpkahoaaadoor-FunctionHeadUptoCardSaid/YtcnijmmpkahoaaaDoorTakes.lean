/-
  What name.Right, strings.Clone, name.Take and name.System come to, called with any text.
-/
import Derived.Test.YtcnijmmpkahoaaaDoorTakens
import Derived.Shelf.Pu.Clone
namespace Go.Proofs.YtcnijmmpkahoaaaDoor
open Go.RowKit Go.Lib
set_option linter.unusedSimpArgs false
set_option linter.unusedVariables false

theorem right_no {l : List UInt8} (h : takenD l ≠ l.length) : rightD l = false := by
  rw [Bool.eq_false_iff, ne_eq, right_iff]
  rintro ⟨h1, h2, _⟩
  exact h (by unfold takenD; rw [if_neg h1, h2])
theorem right_nil : rightD [] = false := by decide
theorem right_of {l : List UInt8} (h0 : l ≠ []) (h : takenD l = l.length) : rightD l = decide (rc l ≤ 32) := by
  have h1 : begW l ≠ 0 := fun e => by
    unfold takenD at h
    rw [if_pos e] at h
    exact h0 (List.eq_nil_of_length_eq_zero h.symm)
  have h2 : run l = l.length := by
    unfold takenD at h
    rw [if_neg h1] at h
    exact h
  unfold rightD
  rw [rc_run l h2]
  simp [h1, h2]

set_option maxRecDepth 10000 in
theorem right_any (l : List UInt8) (w : World) (hl : l.length ≤ 9223372036854775807) : Calls Tryd.prog 24 #[.string ⟨l.toArray⟩] w fun e w' => e = .returned (.bool (rightD l)) ∧ Grow w w' := by
  by_cases h0 : l = []
  · subst h0
    have HF := Lib.hid right_nil
    go_enter Tryd.func24, Tryd.ntmps24
    go_wp2
    go_ret
    exact ⟨by rw [HF.out]; rfl, Grow.refl _⟩
  · have HT := Lib.hid (taken_any l w)
    have hsz := str_size l
    have hne : (l == []) = false := by rw [beq_eq_false_iff_ne]; exact h0
    by_cases ht : takenD l = l.length
    · have HR := Lib.hid (right_of h0 ht)
      rw [ht] at HT
      have HC := Lib.hid (fun W => count_any l W hl)
      clear ht
      by_cases hc : rc l ≤ 32
      · have hci : ((rc l : Nat) : Int) ≤ 32 := by omega
        have HD := Lib.hid (show rightD l = true by rw [HR.out]; exact decide_eq_true hc)
        clear hc HR
        go_enter Tryd.func24, Tryd.ntmps24
        go_wp2_with fail
        refine (HT.out).mono ?_
        rintro e w1 ⟨rfl, hg⟩
        have HG := Lib.hid hg
        clear hg
        go_wp2_with fail
        refine (HC.out _).mono ?_
        rintro e w2 ⟨rfl, hg⟩
        have HG2 := Lib.hid (HG.out.trans hg)
        clear hg
        go_wp2
        go_ret
        exact ⟨by rw [HD.out]; rfl, HG2.out⟩
      · have hci : decide (((rc l : Nat) : Int) ≤ 32) = false := by rw [decide_eq_false_iff_not]; omega
        have HD := Lib.hid (show rightD l = false by rw [HR.out]; exact decide_eq_false hc)
        clear hc HR
        go_enter Tryd.func24, Tryd.ntmps24
        go_wp2_with fail
        refine (HT.out).mono ?_
        rintro e w1 ⟨rfl, hg⟩
        have HG := Lib.hid hg
        clear hg
        go_wp2_with fail
        refine (HC.out _).mono ?_
        rintro e w2 ⟨rfl, hg⟩
        have HG2 := Lib.hid (HG.out.trans hg)
        clear hg
        go_wp2
        go_ret
        exact ⟨by rw [HD.out]; rfl, HG2.out⟩
    · have HD := Lib.hid (right_no ht)
      have htb : (((takenD l : Nat) : Int) == ((l.length : Nat) : Int)) = false := by rw [beq_eq_false_iff_ne]; omega
      clear ht
      go_enter Tryd.func24, Tryd.ntmps24
      go_wp2_with fail
      refine (HT.out).mono ?_
      rintro e w1 ⟨rfl, hg⟩
      have HG := Lib.hid hg
      clear hg
      go_wp2
      go_ret
      exact ⟨by rw [HD.out]; rfl, HG.out⟩

/-- strings.Clone's own callee, as the library's contract has it -/
def cloneRen : Go.Shelf.Ren := ⟨fun | 25 => 65 | n => n, fun | 37 => 55 | 47 => 78 | n => n, fun n => n⟩
theorem cloneLays : LaysPu.n25 Tryd.prog cloneRen := {
  mixed := by kernel_rfl
  f25 := Tryd.func65.trans (congrArg some (by kernel_rfl))
  t0 := Tryd.underlying0
  a0 := Tryd.isAgg0
  z0 := Tryd.sizeOf0
  v0 := Tryd.zeroValue0
  i0 := by kernel_rfl
  t3 := Tryd.underlying3
  a3 := Tryd.isAgg3
  z3 := Tryd.sizeOf3
  v3 := Tryd.zeroValue3
  i3 := by kernel_rfl
  t4 := Tryd.underlying4
  a4 := Tryd.isAgg4
  z4 := Tryd.sizeOf4
  v4 := Tryd.zeroValue4
  i4 := by kernel_rfl
  t5 := Tryd.underlying5
  a5 := Tryd.isAgg5
  z5 := Tryd.sizeOf5
  v5 := Tryd.zeroValue5
  i5 := by kernel_rfl
  t9 := Tryd.underlying9
  a9 := Tryd.isAgg9
  z9 := Tryd.sizeOf9
  v9 := Tryd.zeroValue9
  i9 := by kernel_rfl
  t37 := Tryd.underlying55
  a37 := Tryd.isAgg55
  z37 := Tryd.sizeOf55
  v37 := Tryd.zeroValue55
  i37 := by kernel_rfl
  t47 := Tryd.underlying78
  a47 := Tryd.isAgg78
  z47 := Tryd.sizeOf78
  v47 := Tryd.zeroValue78
  i47 := by kernel_rfl }
theorem clone_any (l : List UInt8) (w : World) (hl : l.length ≤ 1100000) : Calls Tryd.prog 40 #[.string ⟨l.toArray⟩] w fun e w' => e = .returned (.string ⟨l.toArray⟩) ∧ Grow w w' := by
  have HC := Lib.hid (AnyPu.stringslite_Clone cloneLays ⟨l.toArray⟩ w (by rw [str_size]; omega))
  go_enter Tryd.func40, Tryd.ntmps40
  go_wp2_with fail
  refine (HC.out).mono ?_
  rintro e w1 ⟨rfl, hg⟩
  have HG := Lib.hid (show Grow w w1 from hg)
  clear hg
  go_wp2
  go_ret
  exact ⟨rfl, HG.out⟩

def Took (a b : List UInt8) (w : World) (e : Ending) (w' : World) : Prop := e = .returned (.tuple #[.string ⟨a.toArray⟩, .string ⟨b.toArray⟩]) ∧ Grow w w'
end Go.Proofs.YtcnijmmpkahoaaaDoor

namespace Go.Proofs.YtcnijmmpkahoaaaDoor
open Go.RowKit Go.Lib
set_option linter.unusedSimpArgs false
set_option linter.unusedVariables false

set_option maxRecDepth 10000 in
set_option maxHeartbeats 800000 in
theorem take_any (l : List UInt8) (w : World) (hl : l.length ≤ 1100000) : Calls Tryd.prog 56 #[.string ⟨l.toArray⟩] w (Took (l.take (takenD l)) (l.drop (takenD l)) w) := by
  have HT := Lib.hid (taken_any l w)
  have hle := taken_le l
  generalize takenD l = n at HT hle
  have hlt : (l.take n).length ≤ 1100000 := by rw [List.length_take]; omega
  have hld : (l.drop n).length ≤ 1100000 := by rw [List.length_drop]; omega
  have HA := Lib.hid (fun W => clone_any (l.take n) W hlt)
  have HB := Lib.hid (fun W => clone_any (l.drop n) W hld)
  have hst := slice_to l n hle
  have hsf := slice_from l n hle
  generalize l.take n = a at HA hst
  generalize l.drop n = b at HB hsf
  clear hlt hld
  go_enter Tryd.func56, Tryd.ntmps56
  go_wp2_with fail
  refine (HT.out).mono ?_
  rintro e w1 ⟨rfl, hg⟩
  have HG := Lib.hid hg
  clear hg
  go_wp2_with fail
  refine wp_region_R Grow (n := 10) rfl (by kernel_rfl) ?_
  intro W0 hW0e hW0
  have HG0 := Lib.hid (HG.out.trans hW0)
  clear hW0
  clear hW0e
  refine wpR_take growOrd (i := 0) (v := ?vf1) rfl (by kernel_rfl) (by kernel_rfl) (by kernel_rfl) (fun _ _ _ h => h) (by rfl) ?hf1 ?rf1
  case hf1 => (intro wg hSw; go_simp <;> with_reducible rfl)
  simp only [Act.put, List.setIfInBounds_toArray, List.set_cons_zero, List.set_cons_succ]
  refine wpR_take growOrd (i := 1) (v := ?vf2) rfl (by kernel_rfl) (by kernel_rfl) (by kernel_rfl) (fun _ _ _ h => h) (by rfl) ?hf2 ?rf2
  case hf2 => (intro wg hSw; go_simp <;> with_reducible rfl)
  simp only [Act.put, List.setIfInBounds_toArray, List.set_cons_zero, List.set_cons_succ]
  refine wpR_take growOrd (i := 2) (v := ?vf3) rfl (by kernel_rfl) (by kernel_rfl) (by kernel_rfl) (fun _ _ _ h => h) (by rfl) ?hf3 ?rf3
  case hf3 => (intro wg hSw; go_simp <;> with_reducible rfl)
  simp only [Act.put, List.setIfInBounds_toArray, List.set_cons_zero, List.set_cons_succ]
  refine wpR_take growOrd (i := 4) (v := ?vf4) rfl (by kernel_rfl) (by kernel_rfl) (by kernel_rfl) (fun _ _ _ h => h) (by rfl) ?hf4 ?rf4
  case hf4 => (intro wg hSw; go_simp <;> with_reducible rfl)
  simp only [Act.put, List.setIfInBounds_toArray, List.set_cons_zero, List.set_cons_succ]
  refine wpR_take growOrd (i := 5) (v := ?vf5) rfl (by kernel_rfl) (by kernel_rfl) (by kernel_rfl) (fun _ _ _ h => h) (by rfl) ?hf5 ?rf5
  case hf5 => (intro wg hSw; go_simp <;> with_reducible rfl)
  simp only [Act.put, List.setIfInBounds_toArray, List.set_cons_zero, List.set_cons_succ]
  refine wpR_take growOrd (i := 6) (v := ?vf6) rfl (by kernel_rfl) (by kernel_rfl) (by kernel_rfl) (fun _ _ _ h => h) (by rfl) ?hf6 ?rf6
  case hf6 => (intro wg hSw; go_simp <;> with_reducible rfl)
  simp only [Act.put, List.setIfInBounds_toArray, List.set_cons_zero, List.set_cons_succ]
  refine wpR_one (i := 3) (by kernel_rfl) ?_
  refine wpR_op (i := 3) rfl (by rfl) (fun K hK => ?_)
  go_simp
  refine (HA.out W0).mono ?_
  rintro e wM3 ⟨rfl, hM3⟩
  refine hK.out _ _ hM3 ?_
  clear hK K
  try simp only [Act.put, List.setIfInBounds_toArray, List.set_cons_zero, List.set_cons_succ]
  refine wpR_one (i := 7) (by kernel_rfl) ?_
  refine wpR_op (i := 7) rfl (by rfl) (fun K hK => ?_)
  go_simp
  refine (HB.out wM3).mono ?_
  rintro e wM7 ⟨rfl, hM7⟩
  refine hK.out _ _ hM7 ?_
  clear hK K
  try simp only [Act.put, List.setIfInBounds_toArray, List.set_cons_zero, List.set_cons_succ]
  refine wpR_take growOrd (i := 8) (v := ?vf7) rfl (by kernel_rfl) (by kernel_rfl) (by kernel_rfl) (fun _ _ _ h => h) (by rfl) ?hf7 ?rf7
  case hf7 => (intro wg hSw; go_simp <;> with_reducible rfl)
  simp only [Act.put, List.setIfInBounds_toArray, List.set_cons_zero, List.set_cons_succ]
  refine wpR_take growOrd (i := 9) (v := ?vf8) rfl (by kernel_rfl) (by kernel_rfl) (by kernel_rfl) (fun _ _ _ h => h) (by rfl) ?hf8 ?rf8
  case hf8 => (intro wg hSw; go_simp <;> with_reducible rfl)
  simp only [Act.put, List.setIfInBounds_toArray, List.set_cons_zero, List.set_cons_succ]
  refine wpR_done (by kernel_rfl) ?_
  have hGW := (Grow.trans (Grow.trans (Grow.refl W0) hM3) hM7)
  clear hst hsf
  go_wp2
  go_ret2
  exact ⟨rfl, HG0.out.trans hGW⟩


theorem take_says {l a b : List UInt8} (h : l.take (takenD l) = a ∧ l.drop (takenD l) = b) (w : World) (hl : l.length ≤ 1100000) : Calls Tryd.prog 56 #[.string ⟨l.toArray⟩] w (Took a b w) := by
  obtain ⟨rfl, rfl⟩ := h
  exact take_any l w hl
end Go.Proofs.YtcnijmmpkahoaaaDoor
