/-
  The law VarintOnce at every input.
-/
import Derived.Test.YtepemadnakgbpaaBack
namespace Go.Proofs.Ytepemadnakgbpaa
open Go.RowKit
set_option linter.unusedSimpArgs false

set_option maxRecDepth 10000 in
set_option maxHeartbeats 800000 in
theorem once_no (A : Option Addr) (n c : Nat) (w : World) (h1 : n ≤ 9223372036854775807) (h : 500 < n) : Calls Try.prog 5 #[.slice A n c] w (Fine w) := by
  go_enter Try.func5, Try.ntmps5
  go_wp2_with fail
  refine (small_any w).mono ?_
  rintro e w1 ⟨rfl, hb1⟩
  go_wp2
  go_ret
  exact ⟨rfl, hb1⟩

set_option maxRecDepth 10000 in
set_option maxHeartbeats 800000 in
theorem once_err (A : Option Addr) (n c : Nat) (bs : List Int) (e0 : Nat) (w : World) (h1 : bs.length = n) (hn : n ≤ 500) (b1 : Byt bs) (r1 : Nums .u8 w w.heap.size A bs) (ht : takeN bs = (0, 0, e0)) (he : e0 = 2 ∨ e0 = 3) :
    Calls Try.prog 5 #[.slice A n c] w (Fine w) := by
  have H1 := Lib.hid h1
  have R1 := Lib.hid r1
  have B1 := Lib.hid b1
  have HT := Lib.hid ht
  clear h1 r1 b1 ht
  go_enter Try.func5, Try.ntmps5
  go_wp2_with fail
  refine (small_any w).mono ?_
  rintro e w1 ⟨rfl, hb1⟩
  go_wp2_with fail
  refine (take_is A n c bs 0 0 e0 w1 _ H1.out.symm (by omega) B1.out (R1.out.grow hb1) HT.out).mono ?_
  rintro e w' ⟨rfl, rfl⟩
  clear H1 R1 B1 HT
  rcases he with rfl | rfl
  · go_wp2
    go_ret
    exact ⟨rfl, hb1⟩
  · go_wp2
    go_ret
    exact ⟨rfl, hb1⟩

set_option maxRecDepth 10000 in
set_option maxHeartbeats 3200000 in
theorem once_yes (A : Option Addr) (n c : Nat) (bs : List Int) (x k : Nat) (w : World) (h1 : bs.length = n) (hn : n ≤ 500) (hnc : n ≤ c) (b1 : Byt bs) (r1 : Nums .u8 w w.heap.size A bs) (ht : takeN bs = (x, k, 0)) :
    Calls Try.prog 5 #[.slice A n c] w (Fine w) := by
  obtain ⟨m, hx, hk, htake, hle, _⟩ := take_once bs 0 0 x k b1 ht
  have hpre : ∀ i, i < k → takeN (bs.take i) = (0, 0, 2) := fun i hi => take_prefix bs 0 0 x k i ht (by omega)
  have hxm : x = m := by simpa using hx
  subst hxm
  rw [Nat.zero_add] at hk
  rw [← hk] at htake hle
  have hk1 : 1 ≤ k := by rw [hk]; exact digs_pos _
  have hfit := (takeN_fits bs b1).1
  rw [ht] at hfit
  have hxl : x < 18446744073709551616 := hfit
  have hkn : k ≤ n := by omega
  have H1 := Lib.hid h1
  have R1 := Lib.hid r1
  have B1 := Lib.hid b1
  have HT := Lib.hid ht
  have HP := Lib.hid hpre
  have HK := Lib.hid hk
  have HTK := Lib.hid htake
  clear h1 r1 b1 ht hpre hk htake hx hfit hle
  go_enter Try.func5, Try.ntmps5
  go_wp2_with fail
  refine (small_any w).mono ?_
  rintro e w1 ⟨rfl, hb1⟩
  have R2 := Lib.hid (R1.out.grow hb1)
  clear R1
  go_wp2_with fail
  refine (take_is A n c bs x k 0 w1 _ H1.out.symm (by omega) B1.out R2.out HT.out).mono ?_
  rintro e w' ⟨rfl, rfl⟩
  have t1 : decide ((k : Int) < 1) = false := by simp; omega
  have t2 : decide ((n : Int) < (k : Int)) = false := by simp; omega
  have t3 : decide (n < k) = false := by simp; omega
  have hkc : k ≤ c := by omega
  have hs1 : ∀ wg, Grow w'.drew wg → (convert 22 9 (.slice A k c)).run Try.prog wg = .ok (.string (strOfNums (digs x))) wg := fun wg hg => by
    have h := conv_any (k := 22) c ((R2.out.take k).below (show Below w'.heap.size w' wg from Grow.of_drew hg)) rfl
    rw [HTK.out, ← HK.out] at h
    exact h
  have HS := Lib.hid (show strOfNums (digs x) = strOfNums (digs x) from rfl)
  generalize hS : strOfNums (digs x) = S at *
  have HSQ := Lib.hid hS
  clear hS HS
  go_wp2
  refine wp_region_grow (n := 19) rfl (by kernel_rfl) ?_
  refine wpAnyG_take (i := 0) (v := ?v1) rfl (by kernel_rfl) (by kernel_rfl) (by kernel_rfl) (fun _ _ _ h => h) (by rfl) ?h1 ?r1
  case h1 => (intro wg hSw; go_simp <;> with_reducible rfl)
  simp only [Act.put, List.setIfInBounds_toArray, List.set_cons_zero, List.set_cons_succ]
  refine wpAnyG_take (i := 1) (v := ?v2) rfl (by kernel_rfl) (by kernel_rfl) (by kernel_rfl) (fun _ _ _ h => h) (by rfl) ?h2 ?r2
  case h2 => (intro wg hSw; go_simp <;> with_reducible rfl)
  simp only [Act.put, List.setIfInBounds_toArray, List.set_cons_zero, List.set_cons_succ]
  refine wpAnyG_take (i := 2) (v := ?v3) rfl (by kernel_rfl) (by kernel_rfl) (by kernel_rfl) (fun _ _ _ h => h) (by rfl) ?h3 ?r3
  case h3 => (intro wg hSw; go_simp <;> with_reducible rfl)
  simp only [Act.put, List.setIfInBounds_toArray, List.set_cons_zero, List.set_cons_succ]
  refine wpAnyG_take (i := 3) (v := ?v4) rfl (by kernel_rfl) (by kernel_rfl) (by kernel_rfl) (fun _ _ _ h => h) (by rfl) ?h4 ?r4
  case h4 => (intro wg hSw; go_simp <;> with_reducible rfl)
  simp only [Act.put, List.setIfInBounds_toArray, List.set_cons_zero, List.set_cons_succ]
  refine wpAnyG_take (i := 4) (v := ?v5) rfl (by kernel_rfl) (by kernel_rfl) (by kernel_rfl) (fun _ _ _ h => h) (by rfl) ?h5 ?r5
  case h5 => (intro wg hSw; go_simp <;> with_reducible rfl)
  simp only [Act.put, List.setIfInBounds_toArray, List.set_cons_zero, List.set_cons_succ]
  refine wpAnyG_take (i := 5) (v := ?v6) rfl (by kernel_rfl) (by kernel_rfl) (by kernel_rfl) (fun _ _ _ h => h) (by rfl) ?h6 ?r6
  case h6 => (intro wg hSw; go_simp <;> with_reducible rfl)
  simp only [Act.put, List.setIfInBounds_toArray, List.set_cons_zero, List.set_cons_succ]
  refine wpAnyG_take (i := 6) (v := ?v7) rfl (by kernel_rfl) (by kernel_rfl) (by kernel_rfl) (fun _ _ _ h => h) (by rfl) ?h7 ?r7
  case h7 => (intro wg hSw; go_simp <;> with_reducible rfl)
  simp only [Act.put, List.setIfInBounds_toArray, List.set_cons_zero, List.set_cons_succ]
  refine wpAnyG_take (i := 7) (v := ?v8) rfl (by kernel_rfl) (by kernel_rfl) (by kernel_rfl) (fun _ _ _ h => h) (by rfl) ?h8 ?r8
  case h8 => (intro wg hSw; go_simp <;> with_reducible rfl)
  simp only [Act.put, List.setIfInBounds_toArray, List.set_cons_zero, List.set_cons_succ]
  refine wpAnyG_take (i := 8) (v := ?v9) rfl (by kernel_rfl) (by kernel_rfl) (by kernel_rfl) (fun _ _ _ h => h) (by rfl) ?h9 ?r9
  case h9 => (intro wg hSw; go_simp <;> with_reducible rfl)
  simp only [Act.put, List.setIfInBounds_toArray, List.set_cons_zero, List.set_cons_succ]
  refine wpAnyG_take (i := 9) (v := ?v10) rfl (by kernel_rfl) (by kernel_rfl) (by kernel_rfl) (fun _ _ _ h => h) (by rfl) ?h10 ?r10
  case h10 => (intro wg hSw; go_simp <;> with_reducible rfl)
  simp only [Act.put, List.setIfInBounds_toArray, List.set_cons_zero, List.set_cons_succ]
  refine wpAnyG_take (i := 13) (v := ?v11) rfl (by kernel_rfl) (by kernel_rfl) (by kernel_rfl) (fun _ _ _ h => h) (by rfl) ?h11 ?r11
  case h11 => (intro wg hSw; go_simp <;> with_reducible rfl)
  simp only [Act.put, List.setIfInBounds_toArray, List.set_cons_zero, List.set_cons_succ]
  refine wpAnyG_take (i := 14) (v := ?v12) rfl (by kernel_rfl) (by kernel_rfl) (by kernel_rfl) (fun _ _ _ h => h) (by rfl) ?h12 ?r12
  case h12 => (intro wg hSw; go_simp <;> with_reducible rfl)
  simp only [Act.put, List.setIfInBounds_toArray, List.set_cons_zero, List.set_cons_succ]
  refine wpAnyG_take (i := 15) (v := ?v13) rfl (by kernel_rfl) (by kernel_rfl) (by kernel_rfl) (fun _ _ _ h => h) (by rfl) ?h13 ?r13
  case h13 => (intro wg hSw; go_simp <;> with_reducible rfl)
  simp only [Act.put, List.setIfInBounds_toArray, List.set_cons_zero, List.set_cons_succ]
  refine wpAnyG_take (i := 16) (v := ?v14) rfl (by kernel_rfl) (by kernel_rfl) (by kernel_rfl) (fun _ _ _ h => h) (by rfl) ?h14 ?r14
  case h14 => (intro wg hSw; go_simp <;> with_reducible rfl)
  simp only [Act.put, List.setIfInBounds_toArray, List.set_cons_zero, List.set_cons_succ]
  refine wpAnyG_one (i := 10) rfl (by kernel_rfl) (by rfl) (fun K hK => ?_)
  go_simp
  refine hK.out _ _ (grow_new _ _) ?_
  clear hK K
  try simp only [Act.put, List.setIfInBounds_toArray, List.set_cons_zero, List.set_cons_succ]
  refine wpAnyG_one (i := 11) rfl (by kernel_rfl) (by rfl) (fun K hK => ?_)
  go_simp
  refine (put_nil (some ⟨w'.heap.size, 0, none⟩) 1 1 k [(x : Int)] _ rfl (by decide) (by intro y hy; simp at hy; omega) (lit_nums w'.drew .u64 25 [(x : Int)]) (by rw [flat_one, Int.toNat_natCast]; exact HK.out.symm)).mono ?_
  rintro e w5 ⟨g, rfl, hrow, hb5, _⟩
  have hs2 : ∀ wg, Grow w5 wg → (convert 22 9 (.slice (some ⟨g, 0, none⟩) k k)).run Try.prog wg = .ok (.string S) wg := fun wg hg => by
    rw [flat_one, Int.toNat_natCast, HK.out] at hrow
    have h := conv_any (k := 22) k (Nums.below (Nums.of_row hrow) hg) rfl
    rw [← HK.out, HSQ.out] at h
    exact h
  refine hK.out _ _ (hb5) ?_
  clear hK K
  try simp only [Act.put, List.setIfInBounds_toArray, List.set_cons_zero, List.set_cons_succ]
  refine wpAnyG_take (i := 12) (v := ?v15) rfl (by kernel_rfl) (by kernel_rfl) (by kernel_rfl) (fun _ _ _ h => h) (by rfl) ?h15 ?r15
  case h15 => (intro wg hSw; go_simp <;> with_reducible rfl)
  simp only [Act.put, List.setIfInBounds_toArray, List.set_cons_zero, List.set_cons_succ]
  refine wpAnyG_take (i := 17) (v := ?v16) rfl (by kernel_rfl) (by kernel_rfl) (by kernel_rfl) (fun _ _ _ h => h) (by rfl) ?h16 ?r16
  case h16 => (intro wg hSw; go_simp <;> with_reducible rfl)
  simp only [Act.put, List.setIfInBounds_toArray, List.set_cons_zero, List.set_cons_succ]
  refine wpAnyG_take (i := 18) (v := ?v17) rfl (by kernel_rfl) (by kernel_rfl) (by kernel_rfl) (fun _ _ _ h => h) (by rfl) ?h17 ?r17
  case h17 => (intro wg hSw; go_simp <;> with_reducible rfl)
  simp only [Act.put, List.setIfInBounds_toArray, List.set_cons_zero, List.set_cons_succ]
  refine wpAnyG_done (by kernel_rfl) ?_
  have hb35 : Grow w' w5 := Grow.of_drew (grow_alloc' hb5)
  have R5 := Lib.hid (R2.out.grow hb35)
  clear hs1 hs2 hrow R2
  go_wp2
  go_loopw [7] (fun v wr => ∃ i : Nat, i ≤ k ∧ v = .int .i64 i ∧ w5 = wr) (fun v _ => k - (intOf v).toNat)
  case atStart => exact ⟨0, Nat.zero_le _, rfl, rfl⟩
  case round =>
    obtain ⟨i, hi, rfl, rfl⟩ := hrel
    by_cases hlt : i < k
    · have hic : i ≤ c := by omega
      have HT' := Lib.hid (take_is A i c (bs.take i) 0 0 2 w5 _ (by rw [List.length_take, H1.out, Nat.min_eq_left (by omega)]) (by omega) (B1.out.take i) (R5.out.take i) (HP.out i hlt))
      go_wp2_with fail
      refine (HT'.out).mono ?_
      rintro e w6 ⟨rfl, rfl⟩
      go_wp2
      go_roundw
      case rel => exact ⟨i + 1, by omega, by go_num, trivial⟩
      case measure => simp [intOf]; omega
    · have e : i = k := by omega
      subst e
      go_wp2
      go_ret
      exact ⟨rfl, hb1.trans hb35⟩

theorem once_walk (A : Option Addr) (n c : Nat) (bs : List Int) (w : World) (h1 : bs.length = n) (hn : n ≤ 9223372036854775807) (hnc : n ≤ c) (b1 : Byt bs) (r1 : Nums .u8 w w.heap.size A bs) :
    Calls Try.prog 5 #[.slice A n c] w (Fine w) := by
  by_cases h : n ≤ 500
  · obtain ⟨x, k, e0, ht⟩ : ∃ x k e0, takeN bs = (x, k, e0) := ⟨_, _, _, rfl⟩
    by_cases he : e0 = 0
    · subst he
      exact once_yes A n c bs x k w h1 h hnc b1 r1 ht
    · obtain ⟨rfl, rfl, h23⟩ := take_err bs 0 0 x k e0 ht he
      exact once_err A n c bs e0 w h1 h b1 r1 ht h23
  · exact once_no A n c w hn (by omega)
end Go.Proofs.Ytepemadnakgbpaa
