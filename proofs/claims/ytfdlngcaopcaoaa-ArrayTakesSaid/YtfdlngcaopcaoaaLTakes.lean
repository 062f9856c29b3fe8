/-
  ArrayTakes comes to true, whatever it is called with.
-/
import Derived.Test.YtfdlngcaopcaoaaLMath
import Derived.Test.YtfdlngcaopcaoaaJoins
import Derived.Test.YtfdlngcaopcaoaaSmall
import Derived.Test.YtfdlngcaopcaoaaFew
namespace Go.Proofs.Ytfdlngcaopcaoaa
open Go.RowKit Go.Lib
set_option linter.unusedSimpArgs false
set_option linter.unusedVariables false

set_option maxRecDepth 10000 in
set_option maxHeartbeats 6400000 in
theorem takes_walk (A : Option Addr) (n c : Nat) (xs : List Nd) (A' : Option Addr) (n' c' : Nat) (ys : List Nd) (w : World) (hx : IsNodes w A n c xs) (hy : IsNodes w A' n' c' ys) :
    Calls Try.prog 5 #[.slice A n c, .slice A' n' c'] w (Says true w) := by
  have HX := Lib.hid hx
  have HY := Lib.hid hy
  clear hx hy
  go_enter Try.func5, Try.ntmps5
  go_wp2_with fail
  refine (small_any _).mono ?_
  rintro e w1 ⟨rfl, hg1⟩
  have HG1 := Lib.hid hg1
  clear hg1
  go_wp2_with fail
  refine (few_any A n c xs w _ HX.out HG1.out).mono ?_
  rintro e w2 ⟨rfl, hg2⟩
  have HG2 := Lib.hid (HG1.out.trans hg2)
  clear hg2 HG1
  go_wp2_with fail
  refine (few_any A' n' c' ys w _ HY.out HG2.out).mono ?_
  rintro e w3 ⟨rfl, hg3⟩
  have HG3 := Lib.hid (HG2.out.trans hg3)
  clear hg3 HG2
  cases hfx : fewB xs with
  | false =>
    go_wp2
    go_ret
    exact ⟨rfl, HG3.out⟩
  | true =>
    have HFX := Lib.hid (few_fits HX.out hfx)
    have hnl : n ≤ 100 := by have := few_len hfx; have := HX.out.1; omega
    clear hfx
    cases hfy : fewB ys with
    | false =>
      go_wp2
      go_ret
      exact ⟨rfl, HG3.out⟩
    | true =>
      have HFY := Lib.hid (few_fits HY.out hfy)
      have hnl' : n' ≤ 100 := by have := few_len hfy; have := HY.out.1; omega
      clear hfy
      have HN := Lib.hid HX.out.1
      have HN' := Lib.hid HY.out.1
      have HNX := Lib.hid (HX.out.2.2.2.1.grow HG3.out)
      have HNY := Lib.hid (HY.out.2.2.2.1.grow HG3.out)
      have hnc : n ≤ c := HX.out.2.1
      have hcm : c ≤ 9223372036854775807 := HX.out.2.2.1
      clear HX HY
      obtain ⟨z, hz⟩ : ∃ z, takeA xs = z := ⟨_, rfl⟩
      have hzn : z ≤ n := by rw [← hz, ← HN.out]; exact take_le xs
      have HRT := Lib.hid (fun h => take_right (l := xs) h)
      have HTA := Lib.hid (fun h => take_app (l := xs) h ys)
      have HSH := Lib.hid (fun i h => take_short (l := xs) (i := i) h)
      have HRS := Lib.hid (fun i h => right_short (l := xs) (i := i) h)
      have HRI := Lib.hid (right_iff_take xs)
      have HZ := Lib.hid (show (fs xs).n = z from hz)
      rw [hz] at HRT HTA HSH HRS HRI
      rw [HN.out] at HRI
      clear hz
      go_wp2_with fail
      refine (take_says HZ.out A n c _ HN.out (by omega) HFX.out HNX.out).mono ?_
      rintro e w4 ⟨rfl, hg4⟩
      have HG4 := Lib.hid (HG3.out.trans hg4)
      have HNX4 := Lib.hid (HNX.out.grow hg4)
      have HNY4 := Lib.hid (HNY.out.grow hg4)
      clear hg4 HG3 HNX HNY
      have h1 : ¬ (((z : Nat) : Int) < 0) := by omega
      have h2 : ¬ (((n : Nat) : Int) < ((z : Nat) : Int)) := by omega
      have h2n : ¬ n < z := by omega
      have hcut := run_cut_hi A n c z (by omega)
      by_cases hz0 : z = 0
      · subst hz0
        have HB : Hid (rightA xs = false) := Lib.hid (by rw [HRI.out]; simp)
        go_wp2
        go_loopg [9] 0 (fun g s9 wr => s9 = .int .i64 0 ∧ g = 0 ∧ w4 = wr)
        case atStart => exact ⟨rfl, rfl, rfl⟩
        case round =>
          obtain ⟨rfl, rfl, rfl⟩ := hrel
          go_wp2_with fail
          refine (right_says HB.out A n c _ HN.out (by omega) HFX.out HNX4.out).mono ?_
          rintro e w5 ⟨rfl, hg5⟩
          go_wp2
          go_ret
          exact ⟨rfl, HG4.out.trans hg5⟩
      · have hzp : 0 < z := by omega
        have hzi : (0 : Int) < ((z : Nat) : Int) := by omega
        have HRT' := Lib.hid (HRT.out hzp)
        have HTA' := Lib.hid (HTA.out hzp)
        have HB : Hid (rightA xs = decide (z = n)) := Lib.hid (by rw [HRI.out]; simp [hzp])
        clear HRT HTA HRI
        go_wp2_with fail
        refine (right_says HRT'.out A z c _ (by rw [List.length_take, HN.out]; omega) (by omega) (HFX.out.take z) (HNX4.out.take z)).mono ?_
        rintro e w5 ⟨rfl, hg5⟩
        have HG5 := Lib.hid (HG4.out.trans hg5)
        have HNX5 := Lib.hid (HNX4.out.grow hg5)
        have HNY5 := Lib.hid (HNY4.out.grow hg5)
        clear hg5 HG4 HNX4 HNY4
        go_wp2_with fail
        refine (copy_any A n c xs _ HN.out (by omega) HFX.out HNX5.out).mono ?_
        rintro e w6 ⟨rfl, hcp, hg6⟩
        have HG6 := Lib.hid (HG5.out.trans hg6)
        have HNX6 := Lib.hid (HNX5.out.grow hg6)
        have HNY6 := Lib.hid (HNY5.out.grow hg6)
        have HCP := Lib.hid hcp.nodes
        clear hg6 hcp HG5 HNX5 HNY5
        have hnp : 0 < n := by omega
        go_wp2_with (first | (at_builtin; refine wpList_join_w _ _ (by rfl) rfl _ n n' c' A' xs ys rfl rfl HN.out HN'.out hnp HCP.out HNY6.out (by omega) ?_; intro A7 c7 w7 HN7 HC7 HG7) | fail)
        refine (take_says (k := z) HTA'.out A7 (n + n') c7 _ (by rw [List.length_append, HN.out, HN'.out]) (by omega) (fits_app HFX.out HFY.out) HN7.out).mono ?_
        rintro e w8 ⟨rfl, hg8⟩
        have HG8 := Lib.hid (HG6.out.trans (HG7.out.trans hg8))
        have HNX8 := Lib.hid (HNX6.out.grow (HG7.out.trans hg8))
        clear hg8 HG6 HNX6 HN7 HC7 HG7 HCP HNY6
        have hzz : (((z : Nat) : Int) != ((z : Nat) : Int)) = false := by simp
        go_wp2
        go_loopg [9] z (fun g s9 wr => ∃ k : Nat, k ≤ z ∧ g = z - k ∧ s9 = .int .i64 k ∧ Hid (Grow w wr) ∧ Hid (Nodes wr wr.heap.size A xs))
        case atStart => exact ⟨0, Nat.zero_le _, rfl, rfl, HG8, HNX8⟩
        case round =>
          obtain ⟨k, hk, rfl, rfl, HG, HNX⟩ := hrel
          by_cases hlt : k < z
          · have hlti : ((k : Nat) : Int) < ((z : Nat) : Int) := by omega
            have hcutk := run_cut_hi A n c k (by omega)
            have HLK := Lib.hid (show (xs.take k).length = k by rw [List.length_take, HN.out]; omega)
            go_wp2_with fail
            refine (take_says (k := 0) (HSH.out k hlt) A k c _ HLK.out (by omega) (HFX.out.take k) (HNX.out.take k)).mono ?_
            rintro e w9 ⟨rfl, hg9⟩
            have HG9 := Lib.hid (HG.out.trans hg9)
            have HNX9 := Lib.hid (HNX.out.grow hg9)
            clear hg9
            go_wp2_with fail
            refine (right_says (HRS.out k hlt) A k c _ HLK.out (by omega) (HFX.out.take k) (HNX9.out.take k)).mono ?_
            rintro e w10 ⟨rfl, hg10⟩
            have HG10 := Lib.hid (HG9.out.trans hg10)
            have HNX10 := Lib.hid (HNX9.out.grow hg10)
            clear hg10
            go_wp2
            go_roundg (z - (k + 1))
            case rel => exact ⟨k + 1, by omega, rfl, by go_num, HG10, HNX10⟩
            case measure => omega
          · obtain rfl : z = k := by omega
            have hzz2 : ¬ ((z : Nat) : Int) < ((z : Nat) : Int) := by omega
            go_wp2_with fail
            refine (right_says HB.out A n c _ HN.out (by omega) HFX.out HNX.out).mono ?_
            rintro e w9 ⟨rfl, hg9⟩
            have HG9 := Lib.hid (HG.out.trans hg9)
            clear hg9
            by_cases hzn2 : z = n
            · subst hzn2
              have he : (((z : Nat) : Int) == ((z : Nat) : Int)) = true := by simp
              have hd : decide (z = z) = true := by simp
              rw [hd]
              go_wp2
              go_ret
              exact ⟨rfl, HG9.out⟩
            · have he : (((z : Nat) : Int) == ((n : Nat) : Int)) = false := by simp; omega
              have hd : decide (z = n) = false := decide_eq_false hzn2
              rw [hd]
              go_wp2
              go_ret
              exact ⟨rfl, HG9.out⟩
end Go.Proofs.Ytfdlngcaopcaoaa
