/-
  What name.Right, strings.Clone, name.Take and name.System come to, called with any text.
-/
import Derived.Test.YtoabegofgpjdeaaTakens
import Derived.Shelf.Pu.Clone
namespace Go.Proofs.Ytoabegofgpjdeaa
open Go.RowKit Go.Lib
set_option linter.unusedSimpArgs false
set_option linter.unusedVariables false

theorem right_no {l : List UInt8} (h : takenD l ≠ l.length) : rightD l = false := by
  rw [Bool.eq_false_iff, ne_eq, right_iff]
  rintro ⟨h1, h2, _⟩
  exact h (by unfold takenD; rw [if_neg h1, h2])
theorem right_nil : rightD [] = false := by decide
theorem right_of {l : List UInt8} (h0 : l ≠ []) (h : takenD l = l.length) : rightD l = decide (rc l ≤ 32) := by
  have h1 : begW l ≠ 0 := fun e => by
    unfold takenD at h
    rw [if_pos e] at h
    exact h0 (List.eq_nil_of_length_eq_zero h.symm)
  have h2 : run l = l.length := by
    unfold takenD at h
    rw [if_neg h1] at h
    exact h
  unfold rightD
  rw [rc_run l h2]
  simp [h1, h2]

set_option maxRecDepth 10000 in
theorem right_any (l : List UInt8) (w : World) (hl : l.length ≤ 9223372036854775807) : Calls Try.prog 11 #[.string ⟨l.toArray⟩] w fun e w' => e = .returned (.bool (rightD l)) ∧ Grow w w' := by
  by_cases h0 : l = []
  · subst h0
    have HF := Lib.hid right_nil
    go_enter Try.func11, Try.ntmps11
    go_wp2
    go_ret
    exact ⟨by rw [HF.out]; rfl, Grow.refl _⟩
  · have HT := Lib.hid (taken_any l w)
    have hsz := str_size l
    have hne : (l == []) = false := by rw [beq_eq_false_iff_ne]; exact h0
    by_cases ht : takenD l = l.length
    · have HR := Lib.hid (right_of h0 ht)
      rw [ht] at HT
      have HC := Lib.hid (fun W => count_any l W hl)
      clear ht
      by_cases hc : rc l ≤ 32
      · have hci : ((rc l : Nat) : Int) ≤ 32 := by omega
        have HD := Lib.hid (show rightD l = true by rw [HR.out]; exact decide_eq_true hc)
        clear hc HR
        go_enter Try.func11, Try.ntmps11
        go_wp2_with fail
        refine (HT.out).mono ?_
        rintro e w1 ⟨rfl, hg⟩
        have HG := Lib.hid hg
        clear hg
        go_wp2_with fail
        refine (HC.out _).mono ?_
        rintro e w2 ⟨rfl, hg⟩
        have HG2 := Lib.hid (HG.out.trans hg)
        clear hg
        go_wp2
        go_ret
        exact ⟨by rw [HD.out]; rfl, HG2.out⟩
      · have hci : decide (((rc l : Nat) : Int) ≤ 32) = false := by rw [decide_eq_false_iff_not]; omega
        have HD := Lib.hid (show rightD l = false by rw [HR.out]; exact decide_eq_false hc)
        clear hc HR
        go_enter Try.func11, Try.ntmps11
        go_wp2_with fail
        refine (HT.out).mono ?_
        rintro e w1 ⟨rfl, hg⟩
        have HG := Lib.hid hg
        clear hg
        go_wp2_with fail
        refine (HC.out _).mono ?_
        rintro e w2 ⟨rfl, hg⟩
        have HG2 := Lib.hid (HG.out.trans hg)
        clear hg
        go_wp2
        go_ret
        exact ⟨by rw [HD.out]; rfl, HG2.out⟩
    · have HD := Lib.hid (right_no ht)
      have htb : (((takenD l : Nat) : Int) == ((l.length : Nat) : Int)) = false := by rw [beq_eq_false_iff_ne]; omega
      clear ht
      go_enter Try.func11, Try.ntmps11
      go_wp2_with fail
      refine (HT.out).mono ?_
      rintro e w1 ⟨rfl, hg⟩
      have HG := Lib.hid hg
      clear hg
      go_wp2
      go_ret
      exact ⟨by rw [HD.out]; rfl, HG.out⟩

/-- strings.Clone's own callee, as the library's contract has it -/
def cloneRen : Go.Shelf.Ren := ⟨fun | 25 => 25 | n => n, fun | 37 => 30 | 47 => 39 | n => n, fun n => n⟩
theorem cloneLays : LaysPu.n25 Try.prog cloneRen := {
  mixed := by kernel_rfl
  f25 := Try.func25.trans (congrArg some (by kernel_rfl))
  t0 := Try.underlying0
  a0 := Try.isAgg0
  z0 := Try.sizeOf0
  v0 := Try.zeroValue0
  i0 := by kernel_rfl
  t3 := Try.underlying3
  a3 := Try.isAgg3
  z3 := Try.sizeOf3
  v3 := Try.zeroValue3
  i3 := by kernel_rfl
  t4 := Try.underlying4
  a4 := Try.isAgg4
  z4 := Try.sizeOf4
  v4 := Try.zeroValue4
  i4 := by kernel_rfl
  t5 := Try.underlying5
  a5 := Try.isAgg5
  z5 := Try.sizeOf5
  v5 := Try.zeroValue5
  i5 := by kernel_rfl
  t9 := Try.underlying9
  a9 := Try.isAgg9
  z9 := Try.sizeOf9
  v9 := Try.zeroValue9
  i9 := by kernel_rfl
  t37 := Try.underlying30
  a37 := Try.isAgg30
  z37 := Try.sizeOf30
  v37 := Try.zeroValue30
  i37 := by kernel_rfl
  t47 := Try.underlying39
  a47 := Try.isAgg39
  z47 := Try.sizeOf39
  v47 := Try.zeroValue39
  i47 := by kernel_rfl }
theorem clone_any (l : List UInt8) (w : World) (hl : l.length ≤ 1000000) : Calls Try.prog 18 #[.string ⟨l.toArray⟩] w fun e w' => e = .returned (.string ⟨l.toArray⟩) ∧ Grow w w' := by
  have HC := Lib.hid (AnyPu.stringslite_Clone cloneLays ⟨l.toArray⟩ w (by rw [str_size]; omega))
  go_enter Try.func18, Try.ntmps18
  go_wp2_with fail
  refine (HC.out).mono ?_
  rintro e w1 ⟨rfl, hg⟩
  have HG := Lib.hid (show Grow w w1 from hg)
  clear hg
  go_wp2
  go_ret
  exact ⟨rfl, HG.out⟩

def Took (a b : List UInt8) (w : World) (e : Ending) (w' : World) : Prop := e = .returned (.tuple #[.string ⟨a.toArray⟩, .string ⟨b.toArray⟩]) ∧ Grow w w'

set_option maxRecDepth 10000 in
set_option maxHeartbeats 800000 in
theorem take_any (l : List UInt8) (w : World) (hl : l.length ≤ 1000000) : Calls Try.prog 9 #[.string ⟨l.toArray⟩] w (Took (l.take (takenD l)) (l.drop (takenD l)) w) := by
  have HT := Lib.hid (taken_any l w)
  have hle := taken_le l
  generalize takenD l = n at HT hle
  have hlt : (l.take n).length ≤ 1000000 := by rw [List.length_take]; omega
  have hld : (l.drop n).length ≤ 1000000 := by rw [List.length_drop]; omega
  have HA := Lib.hid (fun W => clone_any (l.take n) W hlt)
  have HB := Lib.hid (fun W => clone_any (l.drop n) W hld)
  have hst := slice_to l n hle
  have hsf := slice_from l n hle
  generalize l.take n = a at HA hst
  generalize l.drop n = b at HB hsf
  clear hlt hld
  go_enter Try.func9, Try.ntmps9
  go_wp2_with fail
  refine (HT.out).mono ?_
  rintro e w1 ⟨rfl, hg⟩
  have HG := Lib.hid hg
  clear hg
  go_wp2_with fail
  refine wp_region_R Grow (n := 10) rfl (by kernel_rfl) ?_
  intro W0 hW0e hW0
  have HG0 := Lib.hid (HG.out.trans hW0)
  clear hW0
  clear hW0e
  refine wpR_take growOrd (i := 0) (v := ?vf1) rfl (by kernel_rfl) (by kernel_rfl) (by kernel_rfl) (fun _ _ _ h => h) (by rfl) ?hf1 ?rf1
  case hf1 => (intro wg hSw; go_simp <;> with_reducible rfl)
  simp only [Act.put, List.setIfInBounds_toArray, List.set_cons_zero, List.set_cons_succ]
  refine wpR_take growOrd (i := 1) (v := ?vf2) rfl (by kernel_rfl) (by kernel_rfl) (by kernel_rfl) (fun _ _ _ h => h) (by rfl) ?hf2 ?rf2
  case hf2 => (intro wg hSw; go_simp <;> with_reducible rfl)
  simp only [Act.put, List.setIfInBounds_toArray, List.set_cons_zero, List.set_cons_succ]
  refine wpR_take growOrd (i := 2) (v := ?vf3) rfl (by kernel_rfl) (by kernel_rfl) (by kernel_rfl) (fun _ _ _ h => h) (by rfl) ?hf3 ?rf3
  case hf3 => (intro wg hSw; go_simp <;> with_reducible rfl)
  simp only [Act.put, List.setIfInBounds_toArray, List.set_cons_zero, List.set_cons_succ]
  refine wpR_take growOrd (i := 4) (v := ?vf4) rfl (by kernel_rfl) (by kernel_rfl) (by kernel_rfl) (fun _ _ _ h => h) (by rfl) ?hf4 ?rf4
  case hf4 => (intro wg hSw; go_simp <;> with_reducible rfl)
  simp only [Act.put, List.setIfInBounds_toArray, List.set_cons_zero, List.set_cons_succ]
  refine wpR_take growOrd (i := 5) (v := ?vf5) rfl (by kernel_rfl) (by kernel_rfl) (by kernel_rfl) (fun _ _ _ h => h) (by rfl) ?hf5 ?rf5
  case hf5 => (intro wg hSw; go_simp <;> with_reducible rfl)
  simp only [Act.put, List.setIfInBounds_toArray, List.set_cons_zero, List.set_cons_succ]
  refine wpR_take growOrd (i := 6) (v := ?vf6) rfl (by kernel_rfl) (by kernel_rfl) (by kernel_rfl) (fun _ _ _ h => h) (by rfl) ?hf6 ?rf6
  case hf6 => (intro wg hSw; go_simp <;> with_reducible rfl)
  simp only [Act.put, List.setIfInBounds_toArray, List.set_cons_zero, List.set_cons_succ]
  refine wpR_one (i := 3) (by kernel_rfl) ?_
  refine wpR_op (i := 3) rfl (by rfl) (fun K hK => ?_)
  go_simp
  refine (HA.out W0).mono ?_
  rintro e wM3 ⟨rfl, hM3⟩
  refine hK.out _ _ hM3 ?_
  clear hK K
  try simp only [Act.put, List.setIfInBounds_toArray, List.set_cons_zero, List.set_cons_succ]
  refine wpR_one (i := 7) (by kernel_rfl) ?_
  refine wpR_op (i := 7) rfl (by rfl) (fun K hK => ?_)
  go_simp
  refine (HB.out wM3).mono ?_
  rintro e wM7 ⟨rfl, hM7⟩
  refine hK.out _ _ hM7 ?_
  clear hK K
  try simp only [Act.put, List.setIfInBounds_toArray, List.set_cons_zero, List.set_cons_succ]
  refine wpR_take growOrd (i := 8) (v := ?vf7) rfl (by kernel_rfl) (by kernel_rfl) (by kernel_rfl) (fun _ _ _ h => h) (by rfl) ?hf7 ?rf7
  case hf7 => (intro wg hSw; go_simp <;> with_reducible rfl)
  simp only [Act.put, List.setIfInBounds_toArray, List.set_cons_zero, List.set_cons_succ]
  refine wpR_take growOrd (i := 9) (v := ?vf8) rfl (by kernel_rfl) (by kernel_rfl) (by kernel_rfl) (fun _ _ _ h => h) (by rfl) ?hf8 ?rf8
  case hf8 => (intro wg hSw; go_simp <;> with_reducible rfl)
  simp only [Act.put, List.setIfInBounds_toArray, List.set_cons_zero, List.set_cons_succ]
  refine wpR_done (by kernel_rfl) ?_
  have hGW := (Grow.trans (Grow.trans (Grow.refl W0) hM3) hM7)
  clear hst hsf
  go_wp2
  go_ret2
  exact ⟨rfl, HG0.out.trans hGW⟩

theorem str_ne {a b : List UInt8} (h : a ≠ b) : ¬ (⟨a.toArray⟩ : ByteArray) = ⟨b.toArray⟩ := fun e => h (str_inj.1 e)
end Go.Proofs.Ytoabegofgpjdeaa
