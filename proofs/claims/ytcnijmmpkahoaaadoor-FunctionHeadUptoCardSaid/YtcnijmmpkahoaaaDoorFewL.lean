/-
  What the law's Few comes to: few, and short lines. Nothing is claimed here by itself.
-/
import Derived.Test.YtcnijmmpkahoaaaDoorHeadP
import Derived.Test.YtcnijmmpkahoaaaDoorStrsIn
import Derived.Test.YtcnijmmpkahoaaaDoorProg
import Derived.OpenShut
import Derived.KernelRfl
namespace Go.Proofs.YtcnijmmpkahoaaaDoor
open Go.RowKit Go.Lib
set_option linter.unusedSimpArgs false
set_option linter.unusedVariables false
set_option maxRecDepth 10000

/-- texts that came in, of any length -/
def IsLines (w : World) (a : Option Addr) (len cap : Nat) (ls : List (List UInt8)) : Prop :=
  ls.length = len ∧ len ≤ 9223372036854775807 ∧ Strs w w.heap.size a ls ∧ (∀ s ∈ ls, s.length ≤ 9223372036854775807) ∧ len ≤ cap ∧ cap ≤ 9223372036854775807 ∧ (a = none → cap = 0)
def fewL (ls : List (List UInt8)) : Prop := (∀ s ∈ ls.take 100, s.length ≤ 200) ∧ ls.length ≤ 50 ∧ sumL (ls.take 100) ≤ 2000
instance (ls : List (List UInt8)) : Decidable (fewL ls) := by unfold fewL; infer_instance
theorem few_lines {ls : List (List UInt8)} (h : fewL ls) : ls.length ≤ 50 ∧ (∀ s ∈ ls, s.length ≤ 200) ∧ sumL ls ≤ 2000 := by
  obtain ⟨h1, h2, h3⟩ := h
  rw [List.take_of_length_le (by omega)] at h1 h3
  exact ⟨h2, h1, h3⟩
theorem sum_step {ls : List (List UInt8)} {k : Nat} (h : k < ls.length) : sumL (ls.take (k + 1)) = sumL (ls.take k) + (ls.getD k []).length := by
  rw [take_step h, sum_app]
  simp [sumL]
theorem each_step {ls : List (List UInt8)} {k m : Nat} (h : ∀ x ∈ ls.take k, x.length ≤ m) (hk : k < ls.length) (hx : (ls.getD k []).length ≤ m) : ∀ x ∈ ls.take (k + 1), x.length ≤ m := by
  rw [take_step hk]
  intro x hm
  rcases List.mem_append.1 hm with hm | hm
  · exact h x hm
  · have : x = ls.getD k [] := by simpa using hm
    rw [this]; exact hx

set_option maxHeartbeats 1600000 in
theorem fewl_any (A : Option Addr) (n c : Nat) (ls : List (List UInt8)) (w : World) (h : IsLines w A n c ls) : Calls Tryd.prog 9 #[.slice A n c] w (Says (decide (fewL ls)) w) := by
  obtain ⟨γ, hγ⟩ : ∃ γ, decide (fewL ls) = γ := ⟨_, rfl⟩
  rw [hγ]
  have HY : Hid (fewL ls → γ = true) := Lib.hid (fun e => by rw [← hγ, decide_eq_true e])
  have HN : Hid (¬ fewL ls → γ = false) := Lib.hid (fun e => by rw [← hγ, decide_eq_false e])
  obtain ⟨h1, h2, h3, h4, _, _, _⟩ := h
  have HL := Lib.hid h1
  have HR := Lib.hid h3
  have HE := Lib.hid h4
  clear hγ h1 h3 h4
  go_enter Tryd.func9, Tryd.ntmps9
  go_wp2
  go_loopg [3, 4] 100 (fun g s3 s4 wr => ∃ k t : Nat, k ≤ n ∧ k ≤ 100 ∧ g = 100 - k ∧ s3 = .int .i64 t ∧ s4 = .int .i64 k ∧ t ≤ 200 * k ∧ Hid (t = sumL (ls.take k)) ∧ Hid (∀ x ∈ ls.take k, x.length ≤ 200) ∧ w = wr)
  case atStart => exact ⟨0, 0, Nat.zero_le _, Nat.zero_le _, rfl, rfl, rfl, Nat.le_refl _, Lib.hid rfl, Lib.hid (by simp), rfl⟩
  case round =>
    obtain ⟨k, t, hkn, hk1, rfl, rfl, rfl, ht, HT, HX, rfl⟩ := hrel
    by_cases hlt : k < n ∧ k < 100
    · have hkl : k < ls.length := by rw [HL.out]; exact hlt.1
      obtain ⟨b, off, rfl, _, hcl⟩ := HR.out (by omega)
      have hc := hcl k hkl
      have hx0 := getD_len HE.out k
      have HSS := Lib.hid (sum_step hkl)
      have HST := Lib.hid (fun e => each_step HX.out hkl e)
      have HNO : Hid (¬ (ls.getD k []).length ≤ 200 → ¬ fewL ls) := Lib.hid (fun e hf => e (by
        apply hf.1
        rw [List.mem_iff_getElem?]
        exact ⟨k, by rw [List.getElem?_take, if_pos hlt.2, List.getElem?_eq_getElem hkl]; simp [List.getD, hkl]⟩))
      have q1 : ((k : Nat) : Int) < ((n : Nat) : Int) := by omega
      have q2 : decide (((k : Nat) : Int) < 100) = true := by rw [decide_eq_true_iff]; omega
      have q2n : decide (k < 100) = true := by rw [decide_eq_true_iff]; omega
      have q3 : k < n := hlt.1
      clear hcl hkl
      generalize ls.getD k [] = x at hc HST HNO HSS hx0
      have hsz := str_size x
      by_cases hx : x.length ≤ 200
      · have q4 : ¬ ((200 : Int) < ((x.length : Nat) : Int)) := by omega
        have HE2 := Lib.hid (HST.out hx)
        obtain ⟨t2, ht2⟩ : ∃ t2, t + x.length = t2 := ⟨_, rfl⟩
        have HT2 : Hid (t2 = sumL (ls.take (k + 1))) := Lib.hid (by rw [HSS.out, ← HT.out]; exact ht2.symm)
        have hwr : IntKind.i64.wrap (((t : Nat) : Int) + ((x.length : Nat) : Int)) = ((t2 : Nat) : Int) := by rw [IntKind.wrap_i64]; omega
        have htb : t2 ≤ 200 * (k + 1) := by omega
        clear HST HNO HSS hx ht2
        go_wp2
        go_roundg (100 - (k + 1))
        case rel => exact ⟨k + 1, t2, by omega, by omega, rfl, by go_num, by go_num, htb, HT2, HE2, rfl⟩
        case measure => omega
      · have q4 : ((200 : Int) < ((x.length : Nat) : Int)) := by omega
        have HF := Lib.hid (HN.out (HNO.out hx))
        clear HST HNO HSS hx
        go_wp2
        go_ret
        exact ⟨by rw [HF.out]; rfl, Grow.refl _⟩
    · have HF : Hid (γ = (decide (n ≤ 50) && decide (t ≤ 2000))) := Lib.hid (by
        by_cases h5 : n ≤ 50
        · have e : k = n := by omega
          have hx := HX.out
          have ht' := HT.out
          rw [e, ← HL.out, List.take_length] at hx ht'
          by_cases h6 : t ≤ 2000
          · rw [decide_eq_true h5, decide_eq_true h6]
            exact HY.out ⟨fun x hm => hx x (List.mem_of_mem_take hm), by rw [HL.out]; exact h5, by have := sum_take ls 100; omega⟩
          · rw [decide_eq_false h6, Bool.and_false]
            exact HN.out (fun hf => h6 (by have := (few_lines hf).2.2; omega))
        · rw [decide_eq_false h5, Bool.false_and]
          exact HN.out (fun hf => h5 (by have := hf.2.1; rw [HL.out] at this; exact this)))
      by_cases h5 : n ≤ 50
      · have e : k = n := by omega
        have q1 : ¬ ((k : Nat) : Int) < ((n : Nat) : Int) := by omega
        have q1n : ¬ k < n := by omega
        have q5 : ((n : Nat) : Int) ≤ 50 := by omega
        rw [decide_eq_true h5, Bool.true_and] at HF
        by_cases h6 : t ≤ 2000
        · have q6 : decide (((t : Nat) : Int) ≤ 2000) = true := by rw [decide_eq_true_iff]; omega
          have q6n : ((t : Nat) : Int) ≤ 2000 := by omega
          rw [decide_eq_true h6] at HF
          clear hlt
          go_wp2
          go_ret
          exact ⟨by rw [HF.out]; rfl, Grow.refl _⟩
        · have q6 : decide (((t : Nat) : Int) ≤ 2000) = false := by rw [decide_eq_false_iff_not]; omega
          have q6n : ¬ ((t : Nat) : Int) ≤ 2000 := by omega
          rw [decide_eq_false h6] at HF
          clear hlt
          go_wp2
          go_ret
          exact ⟨by rw [HF.out]; rfl, Grow.refl _⟩
      · rw [decide_eq_false h5, Bool.false_and] at HF
        have q5 : ¬ ((n : Nat) : Int) ≤ 50 := by omega
        by_cases h7 : k < n
        · have q1 : ((k : Nat) : Int) < ((n : Nat) : Int) := by omega
          have q2 : decide (((k : Nat) : Int) < 100) = false := by rw [decide_eq_false_iff_not]; omega
          have q2n : decide (k < 100) = false := by rw [decide_eq_false_iff_not]; omega
          clear hlt
          go_wp2
          go_ret
          exact ⟨by rw [HF.out]; rfl, Grow.refl _⟩
        · have q1 : ¬ ((k : Nat) : Int) < ((n : Nat) : Int) := by omega
          clear hlt
          go_wp2
          go_ret
          exact ⟨by rw [HF.out]; rfl, Grow.refl _⟩
end Go.Proofs.YtcnijmmpkahoaaaDoor

namespace Go.Proofs.YtcnijmmpkahoaaaDoor
open Go.RowKit Go.Lib Go.ChangeShapes Go.WideShapes

section
variable {H : Type} {enc : TypeId × Value → H} {W : World}
theorem open_lines {base : Nat} {v : Value} {d : DataW H} {p : List MemPlace} (hv : Value.okWide Tryd.prog W .any base 22 v)
    (h : DataW.Trod enc Tryd.prog W 0 (fun _ => true) true 22 v d p) : ∃ (ls : List (List UInt8)) (a : Option Addr) (len cap : Nat), v = .slice a len cap ∧ IsLines W a len cap ls := by
  obtain ⟨a, len, cap, rfl⟩ := okWide_slice Tryd.underlying22 hv
  obtain ⟨zs, hz⟩ : ∃ zs, IsStrs W a len cap zs := by
    obtain ⟨fuel, hf⟩ := h
    rcases open_strings Tryd.underlying22 Tryd.underlying9 (by kernel_rfl) hf with ⟨hcs, _⟩ | ⟨x, l, c, zs, hcs, _, hl, hm, hz, _, hcell, hwz⟩
    · simp [Value.cells] at hcs
      obtain ⟨rfl, rfl, rfl⟩ := hcs
      exact ⟨[], .inl ⟨rfl, rfl, rfl, rfl⟩⟩
    · simp [Value.cells] at hcs
      obtain ⟨rfl, rfl, rfl⟩ := hcs
      exact ⟨zs, .inr ⟨_, rfl, hl, hm, by simpa using hz, hcell, hwz⟩⟩
  obtain ⟨ls, q1, q2, q3, q4, q5, q6, q7⟩ := strs_of_row hz
  exact ⟨ls, a, len, cap, rfl, q1, q2, q3, q4, q5, q6, q7⟩
end
end Go.Proofs.YtcnijmmpkahoaaaDoor
