/-
  What signs.Right comes to, called with any text.
-/
import Derived.Test.YtcnijmmpkahoaaaDoorShelf
import Derived.Test.YtcnijmmpkahoaaaDoorTexts
import Derived.Lib.OthersKept
namespace Go.Proofs.YtcnijmmpkahoaaaDoor
open Go.RowKit Go.Lib
set_option linter.unusedSimpArgs false

theorem rune_no {l : List UInt8} (h : (nextD l).2 = 0) : runeD l = (65533, 1) := by unfold runeD; rw [if_pos h]
theorem rune_yes {l : List UInt8} (h : (nextD l).2 ≠ 0) : runeD l = nextD l := by unfold runeD; rw [if_neg h]
theorem bytes_bad : bytesD 65533 = [239, 191, 189] := by decide
theorem pre_iff (l : List UInt8) : hasPrefix l [239, 191, 189] = true ↔ nextD l = (65533, 3) := by
  unfold hasPrefix
  rw [List.isPrefixOf_iff_prefix]
  constructor
  · rintro ⟨t, rfl⟩
    have := next_bytes (c := 65533) (by decide) t
    rw [bytes_bad] at this
    exact this
  · intro h
    have := (next_inv (l := l) (by rw [h]; decide)).2.1
    rw [h, bytes_bad] at this
    exact ⟨_, this⟩
theorem next_le {l : List UInt8} (h : (nextD l).2 ≠ 0) : (nextD l).2 ≤ l.length := by
  obtain ⟨_, h2, h3⟩ := next_inv h
  have := congrArg List.length h2
  rw [List.length_append, List.length_drop] at this
  omega

/-- the signs from pos on are right just if all are -/
def RightAt (l : List UInt8) (pos : Nat) : Prop := (signsD l).isSome = (signsD (l.drop pos)).isSome
theorem rightAt_no {l : List UInt8} {pos : Nat} (h : RightAt l pos) (hp : pos < l.length) (hn : (nextD (l.drop pos)).2 = 0) : (signsD l).isSome = false := by
  rw [h, signsD_step (fun e => by have := congrArg List.length e; simp at this; omega), if_pos hn]
  rfl
theorem rightAt_next {l : List UInt8} {pos : Nat} (h : RightAt l pos) (hp : pos < l.length) (hn : (nextD (l.drop pos)).2 ≠ 0) : RightAt l (pos + (nextD (l.drop pos)).2) := by
  unfold RightAt
  rw [h, signsD_step (fun e => by have := congrArg List.length e; simp at this; omega), if_neg hn, List.drop_drop]
  simp

set_option maxRecDepth 10000 in
set_option maxHeartbeats 800000 in
theorem sright_any (l : List UInt8) (w : World) : Calls Tryd.prog 29 #[.string ⟨l.toArray⟩] w fun e w' => e = .returned (.bool (signsD l).isSome) ∧ Grow w w' := by
  go_enter Tryd.func29, Tryd.ntmps29
  go_wp2
  go_loopg [3] l.length (fun g _ wr => ∃ pos : Nat, pos ≤ l.length ∧ g = l.length - pos ∧ RightAt l pos ∧ Going w.heap.size l pos wr ∧ Grow w wr)
  case atStart => exact ⟨0, Nat.zero_le _, rfl, rfl, going_new w l, grow_new _ _⟩
  case round =>
    obtain ⟨pos, hle, rfl, hra, hgo, hgr⟩ := hrel
    have HA := Lib.hid hra
    have HG := Lib.hid hgr
    have HO := Lib.hid hgo
    clear hra hgr
    by_cases hp : pos < l.length
    · have hnx := fun ty => hgo.next hp ty
      have hsl := slice_from l pos hle
      by_cases hn : (nextD (l.drop pos)).2 = 0
      · rw [rune_no hn] at hnx
        have hf : hasPrefix (l.drop pos) [239, 191, 189] = false := by
          rw [Bool.eq_false_iff, ne_eq, pre_iff]
          intro e
          rw [e] at hn
          cases hn
        have HP := Lib.hid (fun W => Tryd.strings_HasPrefix ⟨(l.drop pos).toArray⟩ ⟨#[239, 191, 189]⟩ W)
        have HF := Lib.hid (rightAt_no HA.out hp hn)
        have HG1 := Lib.hid (show Grow w (wr.iterAt w.heap.size ⟨l.toArray⟩ (pos + 1)) from below_iterAt HG.out (Nat.le_refl _) _ _)
        simp only at hnx
        generalize wr.iterAt w.heap.size ⟨l.toArray⟩ (pos + 1) = w1 at hnx HG1
        clear hn hgo
        go_wp2_with fail
        refine (HP.out _).mono ?_
        rintro e w2 ⟨rfl, rfl⟩
        simp only [hf]
        go_wp2
        go_ret
        exact ⟨by rw [HF.out]; rfl, HG1.out⟩
      · rw [rune_yes hn] at hnx
        obtain ⟨c, hc⟩ : ∃ c, (nextD (l.drop pos)).1 = c := ⟨_, rfl⟩
        obtain ⟨n, hnn⟩ : ∃ n, (nextD (l.drop pos)).2 = n := ⟨_, rfl⟩
        have HF := Lib.hid (rightAt_next HA.out hp hn)
        have hnl : pos + n ≤ l.length := by have := next_le hn; rw [List.length_drop] at this; omega
        have HG1 := Lib.hid (show Grow w (wr.iterAt w.heap.size ⟨l.toArray⟩ (pos + n)) from below_iterAt HG.out (Nat.le_refl _) _ _)
        have HO1 := Lib.hid (HO.out.step (pos + n))
        have HB : Hid (c = 65533 → hasPrefix (l.drop pos) [239, 191, 189] = true) := Lib.hid (fun e => by
          rw [pre_iff]
          have h3 := (next_inv hn).2.2
          rw [hc, e, bytes_bad] at h3
          exact Prod.ext (hc.trans e) h3)
        rw [hc, hnn] at hnx
        rw [hnn] at HF hn
        generalize wr.iterAt w.heap.size ⟨l.toArray⟩ (pos + n) = w1 at hnx HG1 HO1
        clear hgo hc hnn
        by_cases hc : c = 65533
        · subst hc
          have hf := HB.out rfl
          have HP := Lib.hid (fun W => Tryd.strings_HasPrefix ⟨(l.drop pos).toArray⟩ ⟨#[239, 191, 189]⟩ W)
          go_wp2_with fail
          refine (HP.out _).mono ?_
          rintro e w2 ⟨rfl, rfl⟩
          simp only [hf]
          go_wp2
          go_roundg (l.length - (pos + n))
          case rel => exact ⟨pos + n, hnl, rfl, HF.out, HO1.out, HG1.out⟩
          case measure => omega
        · have hcb : (((c : Nat) : Int) == 65533) = false := by rw [beq_eq_false_iff_ne]; omega
          clear hc
          go_wp2
          go_roundg (l.length - (pos + n))
          case rel => exact ⟨pos + n, hnl, rfl, HF.out, HO1.out, HG1.out⟩
          case measure => omega
    · obtain rfl : pos = l.length := by omega
      have hnx := fun ty => hgo.stop hp ty
      have HF : Hid ((signsD l).isSome = true) := Lib.hid (by rw [HA.out, List.drop_length]; rfl)
      clear hgo
      go_wp2
      go_ret
      exact ⟨by rw [HF.out]; rfl, HG.out⟩
end Go.Proofs.YtcnijmmpkahoaaaDoor
