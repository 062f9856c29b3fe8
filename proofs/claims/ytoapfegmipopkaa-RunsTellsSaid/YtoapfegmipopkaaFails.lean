/-
  What Fail of a cursor comes to.
-/
import Derived.Test.YtoapfegmipopkaaReaders
namespace Go.Proofs.Ytoapfegmipopkaa
open Go.RowKit

set_option maxHeartbeats 400000 in
theorem fail_any {t : TypeId} {S : Nat → Prop} {g : Nat} {s : St} (x : Int) (w : World) (h : IsC t S w g s) :
    Calls Try.prog 37 #[.pointer (some ⟨g, 0, none⟩), .int .i64 x] w (Turns t S g (.tuple #[]) (failS x s) w) := by
  have H := Lib.hid h
  obtain ⟨hS, A, cap, hb, hh⟩ := h
  obtain ⟨c0, c1, c2, c3, c4⟩ := cells5 hb
  have hf := frozen5 hb
  have hf0 := hf 0
  have hf2 := hf 2
  have hf3 := hf 3
  have hf4 := hf 4
  have HB := Lib.hid hb
  clear hb hh hf
  by_cases h0 : x = 0
  · have HE := Lib.hid (show failS x s = s by unfold failS; rw [if_pos (.inl h0)])
    subst h0
    go_enter Try.func37, Try.ntmps37
    go_wp2
    exact bodyPost_ret (results_none rfl _ _ _) rfl ⟨rfl, by rw [HE.out]; exact H.out, Kept.refl _ _⟩
  · have h0' : (x == 0) = false := by simpa using h0
    by_cases h1 : s.e = 0
    · have HE := Lib.hid (show failS x s = ⟨[], s.p, x, s.p⟩ by unfold failS; rw [if_neg (by simp [h0, h1])])
      rw [h1] at c2
      clear h1
      go_enter Try.func37, Try.ntmps37
      go_wp2
      refine bodyPost_end (results_none rfl _ _ _) rfl ⟨rfl, ?_, ((((Kept.refl _ w).one _).one _).one _).one _⟩
      rw [HE.out]
      exact ⟨hS, none, 0, set0 (set4 (set3 (set2 HB.out _) _) _) _, Has.nil⟩
    · have HE := Lib.hid (show failS x s = s by unfold failS; rw [if_pos (.inr h1)])
      have h1' : (s.e == 0) = false := by simpa using h1
      have h1'' : (s.e != 0) = true := by simpa using h1
      go_enter Try.func37, Try.ntmps37
      go_wp2
      exact bodyPost_ret (results_none rfl _ _ _) rfl ⟨rfl, by rw [HE.out]; exact H.out, Kept.refl _ _⟩

set_option maxHeartbeats 400000 in
theorem settle_any {t : TypeId} {S : Nat → Prop} {g : Nat} {s : St} (x k e0 : Nat) (w : World) (h : IsC t S w g s) (hg : Good s) (hk : e0 = 0 → k ≤ s.bs.length) :
    Calls Try.prog 36 #[.pointer (some ⟨g, 0, none⟩), .int .u64 (x : Nat), .int .i64 (k : Nat), .int .i64 (e0 : Nat)] w (Turns t S g (.int .u64 ((settleS x k e0 s).1 : Nat)) (settleS x k e0 s).2 w) := by
  by_cases h0 : e0 = 0
  · have HC := Lib.hid (pass_any w h hg (hk h0))
    have HE := Lib.hid (show settleS x k e0 s = (x, passS k s) by unfold settleS; rw [if_neg (by omega)])
    subst h0
    go_enter Try.func36, Try.ntmps36
    go_wp2_with fail
    refine (HC.out).mono ?_
    rintro e w1 ⟨A, cap, ⟨rfl, hi, hkp⟩, _⟩
    go_wp2
    go_ret
    rw [HE.out]
    exact ⟨rfl, hi, hkp⟩
  · have HC := Lib.hid (fail_any (e0 : Int) w h)
    have HE := Lib.hid (show settleS x k e0 s = (0, failS e0 s) by unfold settleS; rw [if_pos h0])
    have h0' : ((e0 : Int) != 0) = true := by simp; omega
    go_enter Try.func36, Try.ntmps36
    go_wp2_with fail
    refine (HC.out).mono ?_
    rintro e w1 ⟨rfl, hi, hkp⟩
    go_wp2
    go_ret
    rw [HE.out]
    exact ⟨rfl, hi, hkp⟩
end Go.Proofs.Ytoapfegmipopkaa
