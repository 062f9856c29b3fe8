/-
  What shape.Count comes to, called with any numbers.
-/
import Derived.Test.YtfdlngcaopcaoaaShp
import Derived.Test.YtfdlngcaopcaoaaProg
import Derived.ProofKit
import Derived.WalkKit
import Derived.Deep.LoopGhost
import Derived.Lib.Hide
namespace Go.Proofs.Ytfdlngcaopcaoaa
open Go.RowKit Go.Lib
set_option linter.unusedSimpArgs false
set_option linter.unusedVariables false

/-- its answer is v, and the world is as it was -/
def Gives (v : Value) (w : World) (e : Ending) (w' : World) : Prop := e = .returned v ∧ w' = w

theorem beyond_any (x : Int) (w : World) : Calls Try.prog 40 #[.int .i64 x] w (Gives (.bool (!okI x)) w) := by
  by_cases h0 : x < 0
  · have e : okI x = false := by simp [okI]; omega
    rw [e]
    clear e
    go_enter Try.func40, Try.ntmps40
    go_wp2
    go_ret
    exact ⟨rfl, rfl⟩
  · by_cases h1 : 1048576 < x
    · have e : okI x = false := by simp [okI]; omega
      rw [e]
      clear e
      go_enter Try.func40, Try.ntmps40
      go_wp2
      go_ret
      exact ⟨rfl, rfl⟩
    · have e : okI x = true := by simp [okI]; omega
      rw [e]
      clear e
      go_enter Try.func40, Try.ntmps40
      go_wp2
      go_ret
      exact ⟨rfl, rfl⟩

theorem all_drop {p : Int → Bool} {xs : List Int} {k : Nat} (h : k < xs.length) (hx : p (xs.getD k 0) = true) : (xs.drop k).all p = (xs.drop (k + 1)).all p := by
  rw [drop_at 0 h, List.all_cons, hx, Bool.true_and]
theorem all_fails {p : Int → Bool} {xs : List Int} {k : Nat} (h : k < xs.length) (hx : p (xs.getD k 0) = false) : (xs.drop k).all p = false := by
  rw [drop_at 0 h, List.all_cons, hx, Bool.false_and]

/-- the place of the first number that is not so, or -1 -/
def Finds (p : Int → Bool) (xs : List Int) (w : World) (e : Ending) (w' : World) : Prop :=
  ∃ j : Int, e = .returned (.int .i64 j) ∧ decide (0 ≤ j) = !(xs.all p) ∧ w' = w

set_option maxRecDepth 10000 in
set_option maxHeartbeats 800000 in
theorem indexf_any (A : Option Addr) (n c : Nat) (xs : List Int) (w : World) (hn : xs.length = n) (hm : n ≤ 9223372036854775807) (hr : Nums .i64 w w.heap.size A xs) :
    Calls Try.prog 48 #[.slice A n c, .func (.func 40) #[] #[]] w (Finds okI xs w) := by
  have HR := Lib.hid hr
  have HN := Lib.hid hn
  clear hr hn
  go_enter Try.func48, Try.ntmps48
  go_wp2
  go_loopg [8] n (fun g s8 wr => ∃ k : Nat, k ≤ n ∧ g = n - k ∧ s8 = .int .i64 k ∧ Hid ((xs.drop k).all okI = xs.all okI) ∧ w = wr)
  case atStart => exact ⟨0, Nat.zero_le _, rfl, rfl, Lib.hid rfl, rfl⟩
  case round =>
    obtain ⟨k, hk, rfl, rfl, HA, rfl⟩ := hrel
    by_cases hlt : k < n
    · have hkl : k < xs.length := by rw [HN.out]; exact hlt
      obtain ⟨b, off, rfl, hb, hcl⟩ := HR.out (by omega)
      have hc := hcl k hkl
      have HT := Lib.hid (fun h => all_drop (p := okI) hkl h)
      have HF := Lib.hid (fun h => all_fails (p := okI) hkl h)
      clear hcl hkl
      generalize xs.getD k 0 = x at hc HT HF
      cases hx : okI x with
      | true =>
        have HT' := Lib.hid (HT.out hx)
        have hx' : (!okI x) = false := by rw [hx]; rfl
        have HB := Lib.hid (beyond_any x w)
        rw [hx'] at HB
        clear hx hx' HT HF
        go_wp2_with (go_at_call 40; refine (HB.out).mono ?_; rintro e w2 ⟨rfl, rfl⟩)
        go_roundg (n - (k + 1))
        case rel => exact ⟨k + 1, by omega, rfl, by go_num, Lib.hid (HT'.out.symm.trans HA.out), rfl⟩
        case measure => omega
      | false =>
        have HF' := Lib.hid (HF.out hx)
        have hx' : (!okI x) = true := by rw [hx]; rfl
        have HB := Lib.hid (beyond_any x w)
        rw [hx'] at HB
        clear hx hx' HT HF
        go_wp2_with (go_at_call 40; refine (HB.out).mono ?_; rintro e w2 ⟨rfl, rfl⟩)
        go_ret
        refine ⟨_, rfl, ?_, rfl⟩
        rw [← HA.out, HF'.out]
        simp
    · obtain rfl : n = k := by omega
      have HF := Lib.hid (show xs.all okI = true by rw [← HA.out, List.drop_of_length_le (by rw [HN.out]; exact Nat.le_refl _)]; rfl)
      go_wp2
      go_ret
      refine ⟨_, rfl, ?_, rfl⟩
      rw [HF.out]
      rfl

set_option maxRecDepth 10000 in
set_option maxHeartbeats 800000 in
theorem index0_any (A : Option Addr) (n c : Nat) (xs : List Int) (w : World) (hn : xs.length = n) (hm : n ≤ 9223372036854775807) (hr : Nums .i64 w w.heap.size A xs) :
    Calls Try.prog 49 #[.slice A n c, .int .i64 0] w (Finds (fun x => !(0 == x)) xs w) := by
  have HR := Lib.hid hr
  have HN := Lib.hid hn
  clear hr hn
  go_enter Try.func49, Try.ntmps49
  go_wp2
  go_loopg [8] n (fun g s8 wr => ∃ k : Nat, k ≤ n ∧ g = n - k ∧ s8 = .int .i64 k ∧ Hid ((xs.drop k).all (fun x => !(0 == x)) = xs.all (fun x => !(0 == x))) ∧ w = wr)
  case atStart => exact ⟨0, Nat.zero_le _, rfl, rfl, Lib.hid rfl, rfl⟩
  case round =>
    obtain ⟨k, hk, rfl, rfl, HA, rfl⟩ := hrel
    by_cases hlt : k < n
    · have hkl : k < xs.length := by rw [HN.out]; exact hlt
      obtain ⟨b, off, rfl, hb, hcl⟩ := HR.out (by omega)
      have hc := hcl k hkl
      have HT := Lib.hid (fun h => all_drop (p := fun x => !(0 == x)) hkl h)
      have HF := Lib.hid (fun h => all_fails (p := fun x => !(0 == x)) hkl h)
      clear hcl hkl
      generalize xs.getD k 0 = x at hc HT HF
      cases hx : ((0 : Int) == x) with
      | false =>
        have HT' := Lib.hid (HT.out (by simp only [hx]; rfl))
        clear HT HF
        go_wp2
        go_roundg (n - (k + 1))
        case rel => exact ⟨k + 1, by omega, rfl, by go_num, Lib.hid (HT'.out.symm.trans HA.out), rfl⟩
        case measure => omega
      | true =>
        have HF' := Lib.hid (HF.out (by simp only [hx]; rfl))
        clear HT HF
        go_wp2
        go_ret
        refine ⟨_, rfl, ?_, rfl⟩
        rw [← HA.out, HF'.out]
        simp
    · obtain rfl : n = k := by omega
      have HF := Lib.hid (show xs.all (fun x => !(0 == x)) = true by rw [← HA.out, List.drop_of_length_le (by rw [HN.out]; exact Nat.le_refl _)]; rfl)
      go_wp2
      go_ret
      refine ⟨_, rfl, ?_, rfl⟩
      rw [HF.out]
      rfl

theorem containsf_any (A : Option Addr) (n c : Nat) (xs : List Int) (w : World) (hn : xs.length = n) (hm : n ≤ 9223372036854775807) (hr : Nums .i64 w w.heap.size A xs) :
    Calls Try.prog 41 #[.slice A n c, .func (.func 40) #[] #[]] w (Gives (.bool (!(xs.all okI))) w) := by
  have HI := Lib.hid (indexf_any A n c xs w hn hm hr)
  clear hr hn
  go_enter Try.func41, Try.ntmps41
  go_wp2_with fail
  refine (HI.out).mono ?_
  rintro e w2 ⟨j, rfl, hj, rfl⟩
  have HJ := Lib.hid hj
  clear hj HI
  go_wp2
  go_ret
  exact ⟨by rw [← HJ.out]; rfl, rfl⟩
theorem contains0_any (A : Option Addr) (n c : Nat) (xs : List Int) (w : World) (hn : xs.length = n) (hm : n ≤ 9223372036854775807) (hr : Nums .i64 w w.heap.size A xs) :
    Calls Try.prog 42 #[.slice A n c, .int .i64 0] w (Gives (.bool (!(xs.all fun x => !(0 == x)))) w) := by
  have HI := Lib.hid (index0_any A n c xs w hn hm hr)
  clear hr hn
  go_enter Try.func42, Try.ntmps42
  go_wp2_with fail
  refine (HI.out).mono ?_
  rintro e w2 ⟨j, rfl, hj, rfl⟩
  have HJ := Lib.hid hj
  clear hj HI
  go_wp2
  go_ret
  exact ⟨by rw [← HJ.out]; rfl, rfl⟩
end Go.Proofs.Ytfdlngcaopcaoaa
