/-
  ShapeTells comes to true, whatever it is called with.
-/
import Derived.Test.YtbediaeaodjnmaaRIndex
import Derived.Test.YtbediaeaodjnmaaRPlace
import Derived.Test.YtbediaeaodjnmaaSmall
namespace Go.Proofs.Ytbediaeaodjnmaa
open Go.RowKit Go.Lib
set_option linter.unusedVariables false
set_option linter.unusedSimpArgs false

theorem ind_len (xs : List Int) (i : Int) : (ind xs i).length ≤ xs.length := by
  unfold ind
  split
  · rw [ofN_len, digs_len, toN_len]; exact Nat.le_refl _
  · exact Nat.zero_le _

set_option maxRecDepth 10000 in
set_option maxHeartbeats 3200000 in
theorem ltells_walk (A A' : Option Addr) (n c n' c' : Nat) (xs ys : List Int) (i : Int) (w : World) (hn : xs.length = n) (hm : n ≤ 9223372036854775807) (hn' : ys.length = n') (hm' : n' ≤ 9223372036854775807) (hr : Nums .i64 w w.heap.size A xs) (hr' : Nums .i64 w w.heap.size A' ys) (hi : -9223372036854775808 ≤ i ∧ i ≤ 9223372036854775807) :
    Calls Try.prog 3 #[.slice A n c, .slice A' n' c', .int .i64 i] w (Fine w) := by
  have HR := Lib.hid hr
  have HR' := Lib.hid hr'
  have HN := Lib.hid hn
  have HN' := Lib.hid hn'
  clear hr hr' hn hn'
  by_cases h50 : 50 < n
  · have h50i : (50 : Int) < ((n : Nat) : Int) := by omega
    go_enter Try.func3, Try.ntmps3
    go_wp2_with fail
    refine (small_any w).mono ?_
    rintro x w1 ⟨rfl, hg⟩
    have HG1 := Lib.hid hg
    clear hg
    go_wp2
    go_ret
    exact ⟨rfl, HG1.out⟩
  have h50i : ¬ (50 : Int) < ((n : Nat) : Int) := by omega
  by_cases h50' : 50 < n'
  · have h50i' : (50 : Int) < ((n' : Nat) : Int) := by omega
    go_enter Try.func3, Try.ntmps3
    go_wp2_with fail
    refine (small_any w).mono ?_
    rintro x w1 ⟨rfl, hg⟩
    have HG1 := Lib.hid hg
    clear hg
    go_wp2
    go_ret
    exact ⟨rfl, HG1.out⟩
  have h50i' : ¬ (50 : Int) < ((n' : Nat) : Int) := by omega
  have hzl := ind_len xs i
  rw [HN.out] at hzl
  have H1 := Lib.hid (fun W h => count_any A n c xs W HN.out hm h)
  have H2 := Lib.hid (fun W h => rcount_any A n c xs W HN.out hm h)
  have H3 := Lib.hid (fun W h h' => place_any A A' n c n' c' xs ys W HN.out hm HN'.out hm' h h')
  have H4 := Lib.hid (fun W h h' => rplace_any A A' n c n' c' xs ys W HN.out hm HN'.out hm' h h')
  have H5 := Lib.hid (fun W h => index_any A n c xs i W HN.out hm h hi)
  have H6 := Lib.hid (fun W h => rindex_any A n c xs i W HN.out hm h hi)
  unfold Indexed at H5 H6
  generalize cnt xs = C at H1 H2
  generalize rightB xs = β at H1 H2
  generalize plc xs ys = P at H3 H4
  generalize plcB xs ys = γ at H3 H4
  generalize indB xs i = δ at H5 H6
  generalize ind xs i = zs at H5 H6 hzl
  obtain ⟨m, hmz⟩ : ∃ m, zs.length = m := ⟨_, rfl⟩
  rw [hmz] at H5 H6 hzl
  have HM := Lib.hid hmz
  clear hmz
  go_enter Try.func3, Try.ntmps3
  go_wp2_with fail
  refine (small_any w).mono ?_
  rintro x w1 ⟨rfl, hg⟩
  have HG1 := Lib.hid hg
  have HR1 := Lib.hid (HR.out.grow hg)
  have HR1' := Lib.hid (HR'.out.grow hg)
  clear hg HR HR'
  go_wp2_with fail
  refine (H1.out w1 HR1.out).mono ?_
  rintro e w2 ⟨rfl, rfl⟩
  clear H1
  go_wp2_with fail
  refine (H2.out w2 HR1.out).mono ?_
  rintro e w3 ⟨rfl, rfl⟩
  clear H2
  have hβ : (β == β) = true := by cases β <;> rfl
  go_wp2_with fail
  refine (H3.out w3 HR1.out HR1'.out).mono ?_
  rintro e w4 ⟨rfl, hg⟩
  have HG4 := Lib.hid hg
  clear hg H3
  go_wp2_with fail
  refine (H4.out w4 (HR1.out.grow HG4.out) (HR1'.out.grow HG4.out)).mono ?_
  rintro e w5 ⟨rfl, hg⟩
  have HG5 := Lib.hid (HG4.out.trans hg)
  clear hg H4
  have hγ : (γ == γ) = true := by cases γ <;> rfl
  go_wp2_with fail
  refine (H5.out w5 (HR1.out.grow HG5.out)).mono ?_
  rintro e w6 ⟨A1, rfl, hz1, hg⟩
  have HG6 := Lib.hid (HG5.out.trans hg)
  have HZ1 := Lib.hid hz1
  clear hg H5 hz1
  go_wp2_with fail
  refine (H6.out w6 (HR1.out.grow HG6.out)).mono ?_
  rintro e w7 ⟨A2, rfl, hz2, hg⟩
  have HG7 := Lib.hid (HG6.out.trans hg)
  have HZ2 := Lib.hid (HZ1.out.grow hg)
  have HZ3 := Lib.hid hz2
  clear hg H6 hz2
  have hδ : (δ == δ) = true := by cases δ <;> rfl
  go_wp2_with fail
  refine (same_eq A1 A2 m _ _ zs w7 HM.out (by omega) HZ2.out HZ3.out).mono ?_
  rintro e w8 ⟨rfl, hg⟩
  have HG8 := Lib.hid (HG1.out.trans (HG7.out.trans hg))
  clear hg
  go_wp2
  go_ret
  exact ⟨rfl, HG8.out⟩
end Go.Proofs.Ytbediaeaodjnmaa
