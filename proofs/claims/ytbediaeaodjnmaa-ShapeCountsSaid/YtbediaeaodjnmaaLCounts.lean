/-
  ShapeCounts comes to true, whatever it is called with.
-/
import Derived.Test.YtbediaeaodjnmaaSmall
import Derived.Test.YtbediaeaodjnmaaOwn
namespace Go.Proofs.Ytbediaeaodjnmaa
open Go.RowKit Go.Lib
set_option linter.unusedVariables false
set_option linter.unusedSimpArgs false

theorem prod_rev (xs : List Nat) : prodN xs.reverse = prodN xs := by
  induction xs with
  | nil => rfl
  | cons x xs ih => rw [List.reverse_cons, prod_app, ih, prodN, prodN, prodN, Nat.mul_one, Nat.mul_comm]
theorem toN_rev (xs : List Int) : toN xs.reverse = (toN xs).reverse := by simp [toN]
theorem toN_app (xs ys : List Int) : toN (xs ++ ys) = toN xs ++ toN ys := by simp [toN]
theorem right_rev (xs : List Int) : rightB xs.reverse = rightB xs ∧ cnt xs.reverse = cnt xs := by
  have h : rightB xs.reverse = rightB xs := by
    unfold rightB
    rw [List.length_reverse, List.all_reverse, toN_rev, prod_rev]
  refine ⟨h, ?_⟩
  unfold cnt
  rw [h, toN_rev, prod_rev]
theorem right_one {xs : List Int} (h16 : xs.length < 16) : rightB (xs ++ [1]) = rightB xs ∧ cnt (xs ++ [1]) = cnt xs := by
  have hp : prodN (toN (xs ++ [1])) = prodN (toN xs) := by
    rw [toN_app, prod_app]
    simp [toN, prodN]
  have h : rightB (xs ++ [1]) = rightB xs := by
    unfold rightB
    rw [hp]
    have h1 : (xs ++ [1]).length ≤ 16 := by simp; omega
    have h2 : xs.length ≤ 16 := by omega
    have h3 : (xs ++ [1]).all okI = xs.all okI := by
      rw [List.all_append]
      have : ([1] : List Int).all okI = true := by decide
      rw [this, Bool.and_true]
    rw [h3]
    simp only [h1, h2, decide_true]
  refine ⟨h, ?_⟩
  unfold cnt
  rw [h, hp]
theorem drop_rev {xs : List Int} {i : Nat} (h : i < xs.length) : (xs.drop i).reverse = (xs.drop (i + 1)).reverse ++ [xs.getD i 0] := by
  rw [drop_at 0 h, List.reverse_cons]

set_option maxRecDepth 10000 in
set_option maxHeartbeats 3200000 in
theorem lcounts_walk (A : Option Addr) (n c : Nat) (xs : List Int) (w : World) (hn : xs.length = n) (hm : n ≤ 9223372036854775807) (hr : Nums .i64 w w.heap.size A xs) :
    Calls Try.prog 6 #[.slice A n c] w (Fine w) := by
  have HR := Lib.hid hr
  have HN := Lib.hid hn
  clear hr hn
  by_cases h50 : 50 < n
  · have h50i : (50 : Int) < ((n : Nat) : Int) := by omega
    go_enter Try.func6, Try.ntmps6
    go_wp2_with fail
    refine (small_any w).mono ?_
    rintro x w1 ⟨rfl, hg⟩
    have HG1 := Lib.hid hg
    clear hg
    go_wp2
    go_ret
    exact ⟨rfl, HG1.out⟩
  have h50i : ¬ (50 : Int) < ((n : Nat) : Int) := by omega
  have HRV := Lib.hid (right_rev xs)
  have HON := Lib.hid (fun h => right_one (xs := xs.reverse) h)
  have HCN : Hid (rightB xs = false → cnt xs = 0) := Lib.hid cnt_no
  have H1 := Lib.hid (fun W h => count_any A n c xs W HN.out hm h)
  generalize cnt xs = C at H1 HRV HCN
  generalize rightB xs = β at H1 HRV HCN
  have hβ : (β == β) = true := by cases β <;> rfl
  have hβn : (β != β) = false := by cases β <;> rfl
  have hCn : (((C : Nat) : Int) != ((C : Nat) : Int)) = false := by simp
  have hCe : (((C : Nat) : Int) == ((C : Nat) : Int)) = true := by simp
  go_enter Try.func6, Try.ntmps6
  go_wp2_with fail
  refine (small_any w).mono ?_
  rintro x w1 ⟨rfl, hg⟩
  have HG1 := Lib.hid hg
  have HR1 := Lib.hid (HR.out.grow hg)
  clear hg HR
  go_wp2_with fail
  refine (H1.out w1 HR1.out).mono ?_
  rintro e w2 ⟨rfl, rfl⟩
  clear H1
  go_wp2
  go_loopg [6, 7] n (fun g s6 s7 wr => ∃ (j : Nat) (v : Value), j ≤ n ∧ j = g ∧ v = s6 ∧ s7 = .int .i64 ((j : Nat) - 1) ∧ Hid (OwnI w2.heap.size v (xs.drop j).reverse wr) ∧ Hid (Grow w2 wr))
  case atStart => exact ⟨n, _, Nat.le_refl _, rfl, rfl, by go_num, Lib.hid (by rw [List.drop_of_length_le (by rw [HN.out]; exact Nat.le_refl _)]; exact ownI_nil _ _), Lib.hid (Grow.refl _)⟩
  case round =>
    obtain ⟨j, v, hj, rfl, rfl, h9, HO, HG⟩ := hrel
    by_cases hj0 : 0 < j
    · obtain ⟨i, rfl⟩ : ∃ i, j = i + 1 := ⟨j - 1, by omega⟩
      rw [show ((i + 1 : Nat) : Int) - 1 = ((i : Nat) : Int) by omega] at h9
      subst h9
      have hil : i < xs.length := by rw [HN.out]; omega
      obtain ⟨b, off, rfl, hb, hcl⟩ := HR1.out.grow HG.out (by omega)
      have hc := hcl i hil
      have HRD := Lib.hid (drop_rev hil)
      clear hcl hil
      generalize xs.getD i 0 = s at hc HRD
      have HL := Lib.hid (nums_lit wr [s])
      have HO1 := Lib.hid (HO.out.grow (grow_new wr (.cells #[.int .i64 s] 3)))
      have HLN : Hid (((xs.drop (i + 1)).reverse.length + 1) * 8 ≤ 140737488355328) := Lib.hid (by rw [List.length_reverse, List.length_drop, HN.out]; omega)
      have HB2 := Lib.hid (show w2.heap.size ≤ (wr.alloc (.cells #[.int .i64 s] 3)).heap.size from (HG.out.trans (grow_new _ _)).size)
      have hw1 : IntKind.i64.wrap (((i : Nat) : Int) - 1) = ((i : Nat) : Int) - 1 := by rw [IntKind.wrap_i64]; omega
      go_wp2_with (at_builtin; refine wpList_append_ints rfl _ _ rfl w2.heap.size _ 1 1 _ [s] _ rfl HO1.out rfl rfl (by simp) HL.out HLN.out HB2.out ?_; intro v2 w3 hown3 hb3)
      have HO3 := Lib.hid (show OwnI w2.heap.size v2 (xs.drop i).reverse w3 by rw [HRD.out]; exact hown3)
      have HG3 := Lib.hid (show Grow w2 w3 from Below.trans (HG.out.trans (grow_new _ _)) hb3)
      clear hown3 hb3
      go_roundg i
      case rel => exact ⟨i, v2, by omega, rfl, rfl, rfl, HO3, HG3⟩
      case measure => omega
    · obtain rfl : j = 0 := by omega
      rw [show ((0 : Nat) : Int) - 1 = -1 by omega] at h9
      subst h9
      obtain ⟨w3, hw3⟩ : ∃ w3, w3 = wr := ⟨_, rfl⟩
      subst hw3
      rw [List.drop_zero] at HO
      obtain ⟨A3, c3, rfl, hS3⟩ := HO.out.nums
      have hlr : xs.reverse.length = n := by rw [List.length_reverse, HN.out]
      rw [hlr] at HO
      rw [hlr]
      have HLR := Lib.hid hlr
      have HS3 := Lib.hid hS3
      clear hS3 hlr
      go_wp2_with fail
      refine (count_says ⟨HRV.out.2, HRV.out.1⟩ w3 HLR.out hm HS3.out).mono ?_
      rintro e w4 ⟨rfl, rfl⟩
      have HOX := Lib.hid (HO.out.grow (grow_new w4 (.cells #[.int .i64 1] 3)))
      have HLX := Lib.hid (nums_lit w4 [1])
      have HBX := Lib.hid (show w2.heap.size ≤ (w4.alloc (.cells #[.int .i64 1] 3)).heap.size from (HG.out.trans (grow_new _ _)).size)
      have HLN : Hid ((xs.reverse.length + 1) * 8 ≤ 140737488355328) := Lib.hid (by rw [HLR.out]; omega)
      have HLE : Hid ((xs.reverse ++ [1]).length = n + 1) := Lib.hid (by rw [List.length_append, HLR.out]; rfl)
      go_wp2_with (at_builtin; refine wpList_append_ints rfl _ _ rfl w2.heap.size _ 1 1 xs.reverse [1] _ rfl HOX.out rfl rfl (by simp) HLX.out HLN.out HBX.out ?_; intro v5 w5 hown5 hb5; obtain ⟨A5, c5, e5, hS5⟩ := hown5.nums; rw [HLE.out] at e5; subst e5)
      have HS5 := Lib.hid hS5
      have HG5 := Lib.hid (show Grow w2 w5 from Below.trans (HG.out.trans (grow_new _ _)) hb5)
      clear hS5 hown5 hb5 HOX HLX HBX
      by_cases h16 : n < 16
      · have h16i : ¬ (16 : Int) ≤ ((n : Nat) : Int) := by omega
        have hon := HON.out (by rw [HLR.out]; exact h16)
        rw [HRV.out.1, HRV.out.2] at hon
        have HCS := Lib.hid (count_says ⟨hon.2, hon.1⟩ (A := A5) (c := c5) w5 HLE.out (by omega) HS5.out)
        clear hon
        refine (HCS.out).mono ?_
        rintro e w6 ⟨rfl, rfl⟩
        have HG6 := Lib.hid (HG1.out.trans HG5.out)
        clear HCS
        cases β with
        | true =>
          go_wp2
          go_ret
          exact ⟨rfl, HG6.out⟩
        | false =>
          have hC0 := HCN.out rfl
          subst hC0
          go_wp2
          go_ret
          exact ⟨rfl, HG6.out⟩
      · have h16i : (16 : Int) ≤ ((n : Nat) : Int) := by omega
        have HCS := Lib.hid (count_any A5 (n + 1) c5 (xs.reverse ++ [1]) w5 HLE.out (by omega) HS5.out)
        generalize cnt (xs.reverse ++ [1]) = D at HCS
        generalize rightB (xs.reverse ++ [1]) = ε at HCS
        refine (HCS.out).mono ?_
        rintro e w6 ⟨rfl, rfl⟩
        have HG6 := Lib.hid (HG1.out.trans HG5.out)
        clear HCS
        cases β with
        | true =>
          go_wp2
          go_ret
          exact ⟨rfl, HG6.out⟩
        | false =>
          have hC0 := HCN.out rfl
          subst hC0
          go_wp2
          go_ret
          exact ⟨rfl, HG6.out⟩
end Go.Proofs.Ytbediaeaodjnmaa
