/-
  What the document's own cut and split come to, called with any texts. Nothing is claimed here by itself.
-/
import Derived.Test.YtcnijmmpkahoaaaDoorWordsP
import Derived.Deep.CutBlock
import Derived.Deep.DeepCutAuto
import Derived.BigRegion
namespace Go.Proofs.YtcnijmmpkahoaaaDoor
open Go.RowKit Go.Lib
set_option linter.unusedSimpArgs false
set_option linter.unusedVariables false

set_option maxRecDepth 100000 in
theorem slice_mid (l : List UInt8) (i j : Nat) (h1 : i ≤ j) (h2 : j ≤ l.length) (W : World) : (Instr.slice 9 (.string ⟨l.toArray⟩) (some (.int .i64 (i : Nat))) (some (.int .i64 (j : Nat))) none).run Tryd.prog W = .ok (.string ⟨((l.take j).drop i).toArray⟩) W := by
  have hu : Tryd.prog.underlying 9 = some .string := by kernel_rfl
  rw [run_slice_string _ _ _ _ _ _ _ hu (by omega) (by omega) (by simp [ByteArray.size]; omega)]
  congr 2
  exact str_ext (by simp [ByteArray.size]; exact (List.drop_take).symm)

theorem occ_piece {s sep : List UInt8} {k : Nat} (hk : k + sep.length ≤ s.length) : occAt s sep k = decide ((s.drop k).take sep.length = sep) := by
  rw [occAt_iff_take s sep k hk, Bool.eq_iff_iff, beq_iff_eq, decide_eq_true_iff]
theorem cut_over {s sep : List UInt8} {k : Nat} (hk : s.length < k + sep.length) (hn : ∀ j, j < k → occAt s sep j = false) : cut s sep = (s, [], false) := by
  refine cut_none (fun j hj => ?_)
  by_cases h : j < k
  · exact hn j h
  · rw [Bool.eq_false_iff]
    intro ho
    rcases occAt_room ho with h1 | h1
    · omega
    · subst h1
      simp at hk
      omega

set_option maxRecDepth 10000 in
set_option maxHeartbeats 3200000 in
theorem rcut_any (s sep : List UInt8) (w : World) (hs : s.length ≤ 1100000) (ht : sep.length ≤ 1100000) :
    Calls Tryd.prog 82 #[.string ⟨s.toArray⟩, .string ⟨sep.toArray⟩] w (Three (cut s sep).1 (cut s sep).2.1 (cut s sep).2.2 w) := by
  have hz1 := str_size s
  have hz2 := str_size sep
  obtain ⟨n, hn⟩ : ∃ n, s.length = n := ⟨_, rfl⟩
  obtain ⟨m, hm⟩ : ∃ m, sep.length = m := ⟨_, rfl⟩
  obtain ⟨x, y, v, hc⟩ : ∃ x y v, cut s sep = (x, y, v) := ⟨_, _, _, rfl⟩
  have HC := Lib.hid hc
  rw [hc]
  rw [hn] at hz1 hs
  rw [hm] at hz2 ht
  have HN := Lib.hid hn
  have HM := Lib.hid hm
  clear hc hn hm
  go_enter Tryd.func82, Tryd.ntmps82
  go_wp2
  go_loopg [7] (n + 1) (fun g s7 wr => ∃ k : Nat, k ≤ n + 1 ∧ g = n + 1 - k ∧ s7 = .int .i64 k ∧ Hid (∀ j, j < k → occAt s sep j = false) ∧ Hid (Grow w wr))
  case atStart => exact ⟨0, Nat.zero_le _, rfl, rfl, Lib.hid (fun j hj => by omega), Lib.hid (Grow.refl _)⟩
  case round =>
    obtain ⟨k, hk, rfl, rfl, HO, HG⟩ := hrel
    by_cases hlt : k + m ≤ n
    · have hlti : ((k : Nat) : Int) + ((m : Nat) : Int) ≤ ((n : Nat) : Int) := by omega
      have hmid : ∀ W, (Instr.slice 9 (.string ⟨s.toArray⟩) (some (.int .i64 ((k : Nat) : Int))) (some (.int .i64 (((k : Nat) : Int) + ((m : Nat) : Int)))) none).run Tryd.prog W = .ok (.string ⟨((s.drop k).take m).toArray⟩) W := fun W => by
        have := slice_mid s k (k + m) (by omega) (by rw [HN.out]; exact hlt) W
        rw [List.drop_take, Nat.add_sub_cancel_left] at this
        rw [← this]
        rfl
      have HOP := Lib.hid (occ_piece (s := s) (sep := sep) (k := k) (by rw [HM.out, HN.out]; exact hlt))
      by_cases he : (s.drop k).take m = sep
      · have heb : ((s.drop k).take m == sep) = true := by rw [beq_iff_eq]; exact he
        have HX : Hid (x = s.take k ∧ y = s.drop (k + m) ∧ v = true) := Lib.hid (by
          have h1 := cut_at (s := s) (sep := sep) (i := k) (by rw [HN.out]; omega) (by rw [HOP.out, HM.out, decide_eq_true he]) HO.out
          rw [HC.out, HM.out] at h1
          simp only [Prod.mk.injEq] at h1
          exact h1)
        have hst : ∀ W, (Instr.slice 9 (.string ⟨s.toArray⟩) none (some (.int .i64 ((k : Nat) : Int))) none).run Tryd.prog W = .ok (.string ⟨x.toArray⟩) W := fun W => by
          rw [HX.out.1]; exact slice_to s k (by rw [HN.out]; omega) W
        have hsf : ∀ W, (Instr.slice 9 (.string ⟨s.toArray⟩) (some (.int .i64 (((k : Nat) : Int) + ((m : Nat) : Int)))) none none).run Tryd.prog W = .ok (.string ⟨y.toArray⟩) W := fun W => by
          rw [HX.out.2.1]; exact slice_from s (k + m) (by rw [HN.out]; omega) W
        clear HO HOP he HC
        generalize (s.drop k).take m = p at hmid heb
        have hadd : IntKind.i64.wrap (((k : Nat) : Int) + ((m : Nat) : Int)) = ((k : Nat) : Int) + ((m : Nat) : Int) := by rw [IntKind.wrap_i64]; omega
        go_wp2_with fail
        go_region
        go_wp2
        go_ret3
        exact ⟨by rw [HX.out.2.2]; rfl, HG.out.drew⟩
      · have heb : ((s.drop k).take m == sep) = false := beq_eq_false_iff_ne.2 he
        have HO2 : Hid (∀ j, j < k + 1 → occAt s sep j = false) := Lib.hid (fun j hj => by
          by_cases hjk : j = k
          · rw [hjk, HOP.out, HM.out, decide_eq_false he]
          · exact HO.out j (by omega))
        clear HO HOP he
        generalize (s.drop k).take m = p at hmid heb
        go_wp2
        go_roundg (n + 1 - (k + 1))
        case rel => exact ⟨k + 1, by omega, rfl, by go_num, HO2, HG⟩
        case measure => omega
    · have hlti : ¬ ((k : Nat) : Int) + ((m : Nat) : Int) ≤ ((n : Nat) : Int) := by omega
      have HX : Hid (x = s ∧ y = [] ∧ v = false) := Lib.hid (by
        have h1 := cut_over (s := s) (sep := sep) (k := k) (by rw [HN.out, HM.out]; omega) HO.out
        rw [HC.out] at h1
        simp only [Prod.mk.injEq] at h1
        exact h1)
      go_wp2
      go_ret3
      exact ⟨by rw [HX.out.1, HX.out.2.1, HX.out.2.2]; rfl, HG.out⟩
theorem rcut_says {s sep a b : List UInt8} {v : Bool} (h : cut s sep = (a, b, v)) (w : World) (hs : s.length ≤ 1100000) (ht : sep.length ≤ 1100000) : Calls Tryd.prog 82 #[.string ⟨s.toArray⟩, .string ⟨sep.toArray⟩] w (Three a b v w) := by
  have := rcut_any s sep w hs ht
  rw [h] at this
  exact this
end Go.Proofs.YtcnijmmpkahoaaaDoor
