/-
  The small case of the laws comes out right.
-/
import Derived.Test.YtfdlngcaopcaoaaSmallM
import Derived.Test.YtfdlngcaopcaoaaPre
namespace Go.Proofs.Ytfdlngcaopcaoaa
open Go.RowKit Go.Lib
set_option linter.unusedSimpArgs false
set_option linter.unusedVariables false

theorem right_says {ns : List Nd} {β : Bool} (h : rightA ns = β) (A : Option Addr) (n c : Nat) (w : World) (hn : ns.length = n) (hnb : n ≤ 1000000) (hf : Fits ns) (hns : Nodes w w.heap.size A ns) : Calls Try.prog 14 #[.slice A n c] w (Ret (.bool β) w) := by
  have hc := aright_any A n c ns w hn hnb hf hns
  rw [h] at hc
  exact hc
theorem take_says {ns : List Nd} {k : Nat} (h : (fs ns).n = k) (A : Option Addr) (n c : Nat) (w : World) (hn : ns.length = n) (hnb : n ≤ 1000000) (hf : Fits ns) (hns : Nodes w w.heap.size A ns) : Calls Try.prog 16 #[.slice A n c] w (Ret (.int .i64 (k : Nat)) w) := by
  have hc := take_any A n c ns w hn hnb hf hns
  rw [h] at hc
  exact hc
theorem items_says {ns : List Nd} {k : Nat} (h : (ws ns).i = k) (A : Option Addr) (n c : Nat) (w : World) (hn : ns.length = n) (hnb : n ≤ 1000000) (hf : Fits ns) (hns : Nodes w w.heap.size A ns) : Calls Try.prog 18 #[.slice A n c] w (Ret (.int .i64 (k : Nat)) w) := by
  have hc := items_any A n c ns w hn hnb hf hns
  rw [h] at hc
  exact hc
theorem depth_says {ns : List Nd} {k : Nat} (h : (ws ns).d = k) (A : Option Addr) (n c : Nat) (w : World) (hn : ns.length = n) (hnb : n ≤ 1000000) (hf : Fits ns) (hns : Nodes w w.heap.size A ns) : Calls Try.prog 20 #[.slice A n c] w (Ret (.int .i64 (k : Nat)) w) := by
  have hc := depth_any A n c ns w hn hnb hf hns
  rw [h] at hc
  exact hc
theorem rank_says {ns : List Nd} {k : Nat} (h : (ws ns).r = k) (A : Option Addr) (n c : Nat) (w : World) (hn : ns.length = n) (hnb : n ≤ 1000000) (hf : Fits ns) (hns : Nodes w w.heap.size A ns) : Calls Try.prog 22 #[.slice A n c] w (Ret (.int .i64 (k : Nat)) w) := by
  have hc := rank_any A n c ns w hn hnb hf hns
  rw [h] at hc
  exact hc
theorem same_says {xs ys : List Nd} {β : Bool} (h : decide (xs = ys) = β) (A A' : Option Addr) (n n' cap cap' : Nat) (w : World) (hn : xs.length = n) (hn' : ys.length = n') (hl : n ≤ 1000000) (hl' : n' ≤ 1000000) (hf : Fits xs) (hf' : Fits ys) (hr : Nodes w w.heap.size A xs) (hr' : Nodes w w.heap.size A' ys) :
    Calls Try.prog 24 #[.slice A n cap, .slice A' n' cap'] w (Says β w) := by
  have hc := same_any A A' n n' cap cap' xs ys w hn hn' hl hl' hf hf' hr hr'
  rw [h] at hc
  exact hc
theorem kids_says {ns : List Nd} {ks : List (List Nd)} (h : kidsA ns = ks) (A : Option Addr) (n c : Nat) (w : World) (hn : ns.length = n) (hnb : n ≤ 1000000) (hnc : n ≤ c) (hf : Fits ns) (hns : Nodes w w.heap.size A ns) :
    Calls Try.prog 10 #[.slice A n c] w (KidsP ks w) := by
  have hc := kids_any A n c ns w hn hnb hnc hf hns
  rw [h] at hc
  exact hc

set_option maxRecDepth 10000 in
set_option maxHeartbeats 12800000 in
theorem small_any (w : World) : Calls Try.prog 8 #[] w (Says true w) := by
  have HS0 := Lib.hid (show Nums .i64 (w.alloc (.cells #[.int .i64 2] 3)) (w.alloc (.cells #[.int .i64 2] 3)).heap.size (some ⟨w.heap.size, 0, none⟩) [2] from nums_lit w [2])
  have HG0 := Lib.hid (grow_new w (.cells #[.int .i64 2] 3))
  go_enter Try.func8, Try.ntmps8
  go_wp2_with fail
  refine (one_any 3 _).mono ?_
  rintro e w1 ⟨g1, rfl, hg1, hn1⟩
  have HG1 := Lib.hid (HG0.out.trans hg1)
  have HS1 := Lib.hid (HS0.out.grow hg1)
  have HN1 := Lib.hid hn1
  clear hg1 hn1 HG0 HS0
  go_wp2_with fail
  refine (one_any 4 _).mono ?_
  rintro e w2 ⟨g2, rfl, hg2, hn2⟩
  have HG2 := Lib.hid (HG1.out.trans hg2)
  have HS2 := Lib.hid (HS1.out.grow hg2)
  have HK2 := Lib.hid (kids_lit2 w2 _ _ 1 1 1 1 [nd1 3] [nd1 4] (HN1.out.grow hg2) rfl (Nat.le_refl _) hn2 rfl (Nat.le_refl _))
  clear hg2 hn2 HG1 HS1 HN1
  go_wp2_with fail
  refine (nest_yes s1 (N := 3) rfl _ 1 1 _ 2 2 _ rfl (by decide) (HS2.out.grow (grow_new _ _)) rfl (by decide) (fun k hk => by rcases List.mem_cons.1 hk with rfl | hk; exact ⟨by decide, fits1 (fit1 3)⟩; exact fitk1 (fit1 4) k hk) (by decide) HK2.out).mono ?_
  rintro e w3 ⟨ga, -, rfl, hg3, hca⟩
  have HG3 := Lib.hid (HG2.out.trans ((grow_new _ _).trans hg3))
  have HA3 := Lib.hid (show Nodes w3 w3.heap.size (some ⟨ga, 0, none⟩) sa from hca.nodes)
  clear hg3 hca HG2 HS2 HK2
  go_wp2_with fail
  have HS3 := Lib.hid (show Nums .i64 (w3.alloc (.cells #[.int .i64 2] 3)) (w3.alloc (.cells #[.int .i64 2] 3)).heap.size (some ⟨w3.heap.size, 0, none⟩) [2] from nums_lit w3 [2])
  have HG4 := Lib.hid (grow_new w3 (.cells #[.int .i64 2] 3))
  refine (one_any 3 _).mono ?_
  rintro e w5 ⟨g5, rfl, hg5, hn5⟩
  have HG5 := Lib.hid (HG4.out.trans hg5)
  have HS5 := Lib.hid (HS3.out.grow hg5)
  have HK5 := Lib.hid (kids_lit1 w5 _ 1 1 [nd1 3] hn5 rfl (Nat.le_refl _))
  clear hg5 hn5 HS3 HG4
  go_wp2_with fail
  refine (nest_no s2 _ 1 1 _ 1 1 _ rfl (by decide) (HS5.out.grow (grow_new _ _)) rfl (by decide) (fitk1 (fit1 3)) (by decide) HK5.out).mono ?_
  rintro e w6 ⟨rfl, hg6⟩
  have HG6 := Lib.hid (HG3.out.trans (HG5.out.trans ((grow_new _ _).trans hg6)))
  have HA6 := Lib.hid (HA3.out.grow (HG5.out.trans ((grow_new _ _).trans hg6)))
  clear hg6 HG3 HA3 HG5 HS5 HK5
  go_wp2_with fail
  have HS6 := Lib.hid (show Nums .i64 (w6.alloc (.cells #[.int .i64 0] 3)) (w6.alloc (.cells #[.int .i64 0] 3)).heap.size (some ⟨w6.heap.size, 0, none⟩) [0] from nums_lit w6 [0])
  refine (nest_yes s3 (N := 1) rfl _ 1 1 none 0 0 _ rfl (by decide) HS6.out rfl (by decide) (fun k hk => by cases hk) (by decide) KidsAt.none_).mono ?_
  rintro e w7 ⟨gd, -, rfl, hg7, hcd⟩
  have HG7 := Lib.hid (HG6.out.trans ((grow_new _ _).trans hg7))
  have HA7 := Lib.hid (HA6.out.grow ((grow_new _ _).trans hg7))
  have HD7 := Lib.hid (show Nodes w7 w7.heap.size (some ⟨gd, 0, none⟩) sd from hcd.nodes)
  clear hg7 hcd HG6 HA6 HS6
  go_wp2_with fail
  refine (kids_says s20 _ 3 3 w7 rfl (by decide) (Nat.le_refl _) fits_sa HA7.out).mono ?_
  rintro e w8 ⟨AK, cK, he, -, -, hk8, hg8⟩
  have he : e = .returned (.slice AK 2 cK) := he
  subst he
  obtain ⟨bk, ok, rfl, hbk, hck⟩ := hk8 (by decide)
  obtain ⟨A', c', hk1, -, hkn⟩ := hck 1 (by decide)
  have hk1 : w8.cell? ⟨bk, ok + 1, none⟩ = some (.slice A' 1 c') := hk1
  have HKC := Lib.hid hk1
  have HBK := Lib.hid hbk
  have HKN := Lib.hid (show Nodes w8 w8.heap.size A' [nd1 4] from hkn)
  have HG8 := Lib.hid (HG7.out.trans hg8)
  have HA8 := Lib.hid (HA7.out.grow hg8)
  have HD8 := Lib.hid (HD7.out.grow hg8)
  clear hk8 hg8 hck hk1 hkn hbk HG7 HA7 HD7
  go_wp2
  refine wp_region_P Grow [0, 1, 2, 3, 4, 5, 6, 7, 8, 9, 10, 11, 12, 13, 14, 15, 16, 17, 18, 19, 20, 21, 22, 23, 24, 25, 26, 27, 28, 29, 30, 31, 32, 33, 34, 35, 36, 37, 38, 39, 40, 41, 42, 43, 44, 45, 46, 47, 48, 49, 50, 51, 52, 53, 54, 55, 56, 57, 58, 59, 60, 61, 62, 63, 64, 65, 66, 67, 68, 66, 70, 71, 72, 73, 74, 75, 76, 77, 78, 79, 80, 81, 82, 83, 84, 85, 86, 87, 88, 89, 90, 91, 92, 93, 94, 95, 96, 97, 98, 99, 100, 101, 102, 103, 104, 105] (n := 106) rfl (by kernel_rfl) (by kernel_rfl) ?_
  intro W0 hW0e hW0
  have HA := Lib.hid (HA8.out.grow hW0)
  have HD := Lib.hid (HD8.out.grow hW0)
  have HKI := Lib.hid (HKN.out.grow hW0)
  have HGZ := Lib.hid (HG8.out.trans hW0)
  have hk1 : ∀ wg, Grow W0 wg → wg.cell? ⟨bk, ok + 1, none⟩ = some (.slice A' 1 c') := fun wg h => ((hW0.trans h).cell HBK.out).trans HKC.out
  clear hW0 HA8 HD8 HKN HG8
  clear hW0e
  refine wpP_op (k := 0) rfl (by kernel_rfl) (by rfl) (fun K hK => ?_)
  go_simp
  refine hK.out _ _ ((growOrd).refl _) ?_
  clear hK K
  try (simp only [put_lit]; dsimp only [List.set_cons_zero, List.set_cons_succ])
  refine wpP_op (k := 1) rfl (by kernel_rfl) (by rfl) (fun K hK => ?_)
  go_simp
  refine hK.out _ _ ((growOrd).refl _) ?_
  clear hK K
  try (simp only [put_lit]; dsimp only [List.set_cons_zero, List.set_cons_succ])
  refine wpP_op (k := 2) rfl (by kernel_rfl) (by rfl) (fun K hK => ?_)
  go_simp
  refine hK.out _ _ ((growOrd).refl _) ?_
  clear hK K
  try (simp only [put_lit]; dsimp only [List.set_cons_zero, List.set_cons_succ])
  refine wpP_op (k := 3) rfl (by kernel_rfl) (by rfl) (fun K hK => ?_)
  go_simp
  refine hK.out _ _ ((growOrd).refl _) ?_
  clear hK K
  try (simp only [put_lit]; dsimp only [List.set_cons_zero, List.set_cons_succ])
  refine wpP_op (k := 4) rfl (by kernel_rfl) (by rfl) (fun K hK => ?_)
  go_simp
  refine hK.out _ _ ((growOrd).refl _) ?_
  clear hK K
  try (simp only [put_lit]; dsimp only [List.set_cons_zero, List.set_cons_succ])
  refine wpP_op (k := 5) rfl (by kernel_rfl) (by rfl) (fun K hK => ?_)
  go_simp
  refine hK.out _ _ ((growOrd).refl _) ?_
  clear hK K
  try (simp only [put_lit]; dsimp only [List.set_cons_zero, List.set_cons_succ])
  refine wpP_op (k := 6) rfl (by kernel_rfl) (by rfl) (fun K hK => ?_)
  go_simp
  refine hK.out _ _ ((growOrd).refl _) ?_
  clear hK K
  try (simp only [put_lit]; dsimp only [List.set_cons_zero, List.set_cons_succ])
  refine wpP_op (k := 7) rfl (by kernel_rfl) (by rfl) (fun K hK => ?_)
  go_simp
  refine hK.out _ _ ((growOrd).refl _) ?_
  clear hK K
  try (simp only [put_lit]; dsimp only [List.set_cons_zero, List.set_cons_succ])
  refine wpP_op (k := 8) rfl (by kernel_rfl) (by rfl) (fun K hK => ?_)
  go_simp
  refine hK.out _ _ ((growOrd).refl _) ?_
  clear hK K
  try (simp only [put_lit]; dsimp only [List.set_cons_zero, List.set_cons_succ])
  refine wpP_op (k := 9) rfl (by kernel_rfl) (by rfl) (fun K hK => ?_)
  go_simp
  refine hK.out _ _ ((growOrd).refl _) ?_
  clear hK K
  try (simp only [put_lit]; dsimp only [List.set_cons_zero, List.set_cons_succ])
  refine wpP_op (k := 10) rfl (by kernel_rfl) (by rfl) (fun K hK => ?_)
  go_simp
  refine hK.out _ _ ((growOrd).refl _) ?_
  clear hK K
  try (simp only [put_lit]; dsimp only [List.set_cons_zero, List.set_cons_succ])
  refine wpP_op (k := 11) rfl (by kernel_rfl) (by rfl) (fun K hK => ?_)
  go_simp
  refine hK.out _ _ ((growOrd).refl _) ?_
  clear hK K
  try (simp only [put_lit]; dsimp only [List.set_cons_zero, List.set_cons_succ])
  refine wpP_op (k := 12) rfl (by kernel_rfl) (by rfl) (fun K hK => ?_)
  go_simp
  refine hK.out _ _ ((growOrd).refl _) ?_
  clear hK K
  try (simp only [put_lit]; dsimp only [List.set_cons_zero, List.set_cons_succ])
  refine wpP_op (k := 13) rfl (by kernel_rfl) (by rfl) (fun K hK => ?_)
  go_simp
  refine hK.out _ _ ((growOrd).refl _) ?_
  clear hK K
  try (simp only [put_lit]; dsimp only [List.set_cons_zero, List.set_cons_succ])
  refine wpP_op (k := 14) rfl (by kernel_rfl) (by rfl) (fun K hK => ?_)
  go_simp
  refine hK.out _ _ ((growOrd).refl _) ?_
  clear hK K
  try (simp only [put_lit]; dsimp only [List.set_cons_zero, List.set_cons_succ])
  refine wpP_op (k := 15) rfl (by kernel_rfl) (by rfl) (fun K hK => ?_)
  go_simp
  refine (right_says s4 _ 3 3 W0 rfl (by decide) fits_sa (HA.out.grow ((growOrd).refl W0))).mono ?_
  rintro e wM15 ⟨rfl, hN15⟩
  have hM15 : Grow W0 wM15 := hN15
  refine hK.out _ _ hM15 ?_
  clear hK K
  try (simp only [put_lit]; dsimp only [List.set_cons_zero, List.set_cons_succ])
  refine wpP_op (k := 16) rfl (by kernel_rfl) (by rfl) (fun K hK => ?_)
  go_simp
  refine hK.out _ _ ((growOrd).refl _) ?_
  clear hK K
  try (simp only [put_lit]; dsimp only [List.set_cons_zero, List.set_cons_succ])
  refine wpP_op (k := 17) rfl (by kernel_rfl) (by rfl) (fun K hK => ?_)
  go_simp
  refine hK.out _ _ ((growOrd).refl _) ?_
  clear hK K
  try (simp only [put_lit]; dsimp only [List.set_cons_zero, List.set_cons_succ])
  refine wpP_op (k := 18) rfl (by kernel_rfl) (by rfl) (fun K hK => ?_)
  go_simp
  refine hK.out _ _ ((growOrd).refl _) ?_
  clear hK K
  try (simp only [put_lit]; dsimp only [List.set_cons_zero, List.set_cons_succ])
  refine wpP_op (k := 19) rfl (by kernel_rfl) (by rfl) (fun K hK => ?_)
  go_simp
  refine (right_says s5 _ 1 1 wM15 rfl (by decide) fits_sd (HD.out.grow ((growOrd).trans ((growOrd).refl W0) hM15))).mono ?_
  rintro e wM19 ⟨rfl, hN19⟩
  have hM19 : Grow wM15 wM19 := hN19
  refine hK.out _ _ hM19 ?_
  clear hK K
  try (simp only [put_lit]; dsimp only [List.set_cons_zero, List.set_cons_succ])
  refine wpP_op (k := 20) rfl (by kernel_rfl) (by rfl) (fun K hK => ?_)
  go_simp
  refine hK.out _ _ ((growOrd).refl _) ?_
  clear hK K
  try (simp only [put_lit]; dsimp only [List.set_cons_zero, List.set_cons_succ])
  refine wpP_op (k := 21) rfl (by kernel_rfl) (by rfl) (fun K hK => ?_)
  go_simp
  refine hK.out _ _ ((growOrd).refl _) ?_
  clear hK K
  try (simp only [put_lit]; dsimp only [List.set_cons_zero, List.set_cons_succ])
  refine wpP_op (k := 22) rfl (by kernel_rfl) (by rfl) (fun K hK => ?_)
  go_simp
  refine hK.out _ _ ((growOrd).refl _) ?_
  clear hK K
  try (simp only [put_lit]; dsimp only [List.set_cons_zero, List.set_cons_succ])
  refine wpP_op (k := 23) rfl (by kernel_rfl) (by rfl) (fun K hK => ?_)
  go_simp
  refine hK.out _ _ ((growOrd).refl _) ?_
  clear hK K
  try (simp only [put_lit]; dsimp only [List.set_cons_zero, List.set_cons_succ])
  refine wpP_op (k := 24) rfl (by kernel_rfl) (by rfl) (fun K hK => ?_)
  go_simp
  refine (right_says s6 _ 2 3 wM19 rfl (by decide) (fits_sa.take 2) ((HA.out.take 2).grow ((growOrd).trans ((growOrd).trans ((growOrd).refl W0) hM15) hM19))).mono ?_
  rintro e wM24 ⟨rfl, hN24⟩
  have hM24 : Grow wM19 wM24 := hN24
  refine hK.out _ _ hM24 ?_
  clear hK K
  try (simp only [put_lit]; dsimp only [List.set_cons_zero, List.set_cons_succ])
  refine wpP_op (k := 25) rfl (by kernel_rfl) (by rfl) (fun K hK => ?_)
  go_simp
  refine hK.out _ _ ((growOrd).refl _) ?_
  clear hK K
  try (simp only [put_lit]; dsimp only [List.set_cons_zero, List.set_cons_succ])
  refine wpP_op (k := 26) rfl (by kernel_rfl) (by rfl) (fun K hK => ?_)
  go_simp
  refine hK.out _ _ ((growOrd).refl _) ?_
  clear hK K
  try (simp only [put_lit]; dsimp only [List.set_cons_zero, List.set_cons_succ])
  refine wpP_op (k := 27) rfl (by kernel_rfl) (by rfl) (fun K hK => ?_)
  go_simp
  refine hK.out _ _ ((growOrd).refl _) ?_
  clear hK K
  try (simp only [put_lit]; dsimp only [List.set_cons_zero, List.set_cons_succ])
  refine wpP_op (k := 28) rfl (by kernel_rfl) (by rfl) (fun K hK => ?_)
  go_simp
  refine (right_says s7 none 0 0 wM24 rfl (by decide) (fun n hn => by cases hn) Nodes.none_).mono ?_
  rintro e wM28 ⟨rfl, hN28⟩
  have hM28 : Grow wM24 wM28 := hN28
  refine hK.out _ _ hM28 ?_
  clear hK K
  try (simp only [put_lit]; dsimp only [List.set_cons_zero, List.set_cons_succ])
  refine wpP_op (k := 29) rfl (by kernel_rfl) (by rfl) (fun K hK => ?_)
  go_simp
  refine hK.out _ _ ((growOrd).refl _) ?_
  clear hK K
  try (simp only [put_lit]; dsimp only [List.set_cons_zero, List.set_cons_succ])
  refine wpP_op (k := 30) rfl (by kernel_rfl) (by rfl) (fun K hK => ?_)
  go_simp
  refine hK.out _ _ ((growOrd).refl _) ?_
  clear hK K
  try (simp only [put_lit]; dsimp only [List.set_cons_zero, List.set_cons_succ])
  refine wpP_op (k := 31) rfl (by kernel_rfl) (by rfl) (fun K hK => ?_)
  go_simp
  refine hK.out _ _ ((growOrd).refl _) ?_
  clear hK K
  try (simp only [put_lit]; dsimp only [List.set_cons_zero, List.set_cons_succ])
  refine wpP_op (k := 32) rfl (by kernel_rfl) (by rfl) (fun K hK => ?_)
  go_simp
  refine hK.out _ _ ((growOrd).refl _) ?_
  clear hK K
  try (simp only [put_lit]; dsimp only [List.set_cons_zero, List.set_cons_succ])
  refine wpP_op (k := 33) rfl (by kernel_rfl) (by rfl) (fun K hK => ?_)
  go_simp
  refine (copy_any _ 3 3 sa wM28 rfl (by decide) fits_sa (HA.out.grow ((growOrd).trans ((growOrd).trans ((growOrd).trans ((growOrd).trans ((growOrd).refl W0) hM15) hM19) hM24) hM28))).mono ?_
  rintro e wM33 ⟨rfl, hcp, hN33⟩
  have hC33 : Nodes wM33 wM33.heap.size (some ⟨(wM28).heap.size, 0, none⟩) sa := hcp.nodes
  have hM33 : Grow wM28 wM33 := hN33
  clear hcp
  refine hK.out _ _ hM33 ?_
  clear hK K
  try (simp only [put_lit]; dsimp only [List.set_cons_zero, List.set_cons_succ])
  refine wpP_op (k := 34) rfl (by kernel_rfl) (by rfl) (fun K hK => ?_)
  go_simp
  refine (one_any 5 wM33).mono ?_
  rintro e wM34 ⟨g34, rfl, hN34, hC34⟩
  have hM34 : Grow wM33 wM34 := hN34
  refine hK.out _ _ hM34 ?_
  clear hK K
  try (simp only [put_lit]; dsimp only [List.set_cons_zero, List.set_cons_succ])
  refine wpP_op (k := 35) rfl (by kernel_rfl) (by rfl) (fun K hK => ?_)
  refine wp_join _ _ rfl _ 3 1 1 _ sa [nd1 5] rfl rfl rfl rfl (by decide) (hC33.grow hN34) hC34 (by decide) ?_
  intro A35 c35 wM35 hC35 hlc35 hN35
  have hM35 : Grow wM34 wM35 := hN35
  refine hK.out _ _ hM35 ?_
  clear hK K hlc35
  try (simp only [put_lit, Nat.reduceAdd]; dsimp only [List.set_cons_zero, List.set_cons_succ])
  refine wpP_op (k := 36) rfl (by kernel_rfl) (by rfl) (fun K hK => ?_)
  go_simp
  refine (take_says s8 A35 4 c35 wM35 rfl (by decide) (fits_app fits_sa (fits1 (fit1 5))) hC35).mono ?_
  rintro e wM36 ⟨rfl, hN36⟩
  have hM36 : Grow wM35 wM36 := hN36
  refine hK.out _ _ hM36 ?_
  clear hK K
  try (simp only [put_lit]; dsimp only [List.set_cons_zero, List.set_cons_succ])
  refine wpP_op (k := 37) rfl (by kernel_rfl) (by rfl) (fun K hK => ?_)
  go_simp
  refine hK.out _ _ ((growOrd).refl _) ?_
  clear hK K
  try (simp only [put_lit]; dsimp only [List.set_cons_zero, List.set_cons_succ])
  refine wpP_op (k := 38) rfl (by kernel_rfl) (by rfl) (fun K hK => ?_)
  go_simp
  refine hK.out _ _ ((growOrd).refl _) ?_
  clear hK K
  try (simp only [put_lit]; dsimp only [List.set_cons_zero, List.set_cons_succ])
  refine wpP_op (k := 39) rfl (by kernel_rfl) (by rfl) (fun K hK => ?_)
  go_simp
  refine hK.out _ _ ((growOrd).refl _) ?_
  clear hK K
  try (simp only [put_lit]; dsimp only [List.set_cons_zero, List.set_cons_succ])
  refine wpP_op (k := 40) rfl (by kernel_rfl) (by rfl) (fun K hK => ?_)
  go_simp
  refine hK.out _ _ ((growOrd).refl _) ?_
  clear hK K
  try (simp only [put_lit]; dsimp only [List.set_cons_zero, List.set_cons_succ])
  refine wpP_op (k := 41) rfl (by kernel_rfl) (by rfl) (fun K hK => ?_)
  go_simp
  refine (items_says s9 _ 3 3 wM36 rfl (by decide) fits_sa (HA.out.grow ((growOrd).trans ((growOrd).trans ((growOrd).trans ((growOrd).trans ((growOrd).trans ((growOrd).trans ((growOrd).trans ((growOrd).trans ((growOrd).refl W0) hM15) hM19) hM24) hM28) hM33) hM34) hM35) hM36))).mono ?_
  rintro e wM41 ⟨rfl, hN41⟩
  have hM41 : Grow wM36 wM41 := hN41
  refine hK.out _ _ hM41 ?_
  clear hK K
  try (simp only [put_lit]; dsimp only [List.set_cons_zero, List.set_cons_succ])
  refine wpP_op (k := 42) rfl (by kernel_rfl) (by rfl) (fun K hK => ?_)
  go_simp
  refine hK.out _ _ ((growOrd).refl _) ?_
  clear hK K
  try (simp only [put_lit]; dsimp only [List.set_cons_zero, List.set_cons_succ])
  refine wpP_op (k := 43) rfl (by kernel_rfl) (by rfl) (fun K hK => ?_)
  go_simp
  refine hK.out _ _ ((growOrd).refl _) ?_
  clear hK K
  try (simp only [put_lit]; dsimp only [List.set_cons_zero, List.set_cons_succ])
  refine wpP_op (k := 44) rfl (by kernel_rfl) (by rfl) (fun K hK => ?_)
  go_simp
  refine hK.out _ _ ((growOrd).refl _) ?_
  clear hK K
  try (simp only [put_lit]; dsimp only [List.set_cons_zero, List.set_cons_succ])
  refine wpP_op (k := 45) rfl (by kernel_rfl) (by rfl) (fun K hK => ?_)
  go_simp
  refine hK.out _ _ ((growOrd).refl _) ?_
  clear hK K
  try (simp only [put_lit]; dsimp only [List.set_cons_zero, List.set_cons_succ])
  refine wpP_op (k := 46) rfl (by kernel_rfl) (by rfl) (fun K hK => ?_)
  go_simp
  refine (depth_says s10 _ 3 3 wM41 rfl (by decide) fits_sa (HA.out.grow ((growOrd).trans ((growOrd).trans ((growOrd).trans ((growOrd).trans ((growOrd).trans ((growOrd).trans ((growOrd).trans ((growOrd).trans ((growOrd).trans ((growOrd).refl W0) hM15) hM19) hM24) hM28) hM33) hM34) hM35) hM36) hM41))).mono ?_
  rintro e wM46 ⟨rfl, hN46⟩
  have hM46 : Grow wM41 wM46 := hN46
  refine hK.out _ _ hM46 ?_
  clear hK K
  try (simp only [put_lit]; dsimp only [List.set_cons_zero, List.set_cons_succ])
  refine wpP_op (k := 47) rfl (by kernel_rfl) (by rfl) (fun K hK => ?_)
  go_simp
  refine hK.out _ _ ((growOrd).refl _) ?_
  clear hK K
  try (simp only [put_lit]; dsimp only [List.set_cons_zero, List.set_cons_succ])
  refine wpP_op (k := 48) rfl (by kernel_rfl) (by rfl) (fun K hK => ?_)
  go_simp
  refine hK.out _ _ ((growOrd).refl _) ?_
  clear hK K
  try (simp only [put_lit]; dsimp only [List.set_cons_zero, List.set_cons_succ])
  refine wpP_op (k := 49) rfl (by kernel_rfl) (by rfl) (fun K hK => ?_)
  go_simp
  refine hK.out _ _ ((growOrd).refl _) ?_
  clear hK K
  try (simp only [put_lit]; dsimp only [List.set_cons_zero, List.set_cons_succ])
  refine wpP_op (k := 50) rfl (by kernel_rfl) (by rfl) (fun K hK => ?_)
  go_simp
  refine hK.out _ _ ((growOrd).refl _) ?_
  clear hK K
  try (simp only [put_lit]; dsimp only [List.set_cons_zero, List.set_cons_succ])
  refine wpP_op (k := 51) rfl (by kernel_rfl) (by rfl) (fun K hK => ?_)
  go_simp
  refine (depth_says s11 _ 1 1 wM46 rfl (by decide) fits_sd (HD.out.grow ((growOrd).trans ((growOrd).trans ((growOrd).trans ((growOrd).trans ((growOrd).trans ((growOrd).trans ((growOrd).trans ((growOrd).trans ((growOrd).trans ((growOrd).trans ((growOrd).refl W0) hM15) hM19) hM24) hM28) hM33) hM34) hM35) hM36) hM41) hM46))).mono ?_
  rintro e wM51 ⟨rfl, hN51⟩
  have hM51 : Grow wM46 wM51 := hN51
  refine hK.out _ _ hM51 ?_
  clear hK K
  try (simp only [put_lit]; dsimp only [List.set_cons_zero, List.set_cons_succ])
  refine wpP_op (k := 52) rfl (by kernel_rfl) (by rfl) (fun K hK => ?_)
  go_simp
  refine hK.out _ _ ((growOrd).refl _) ?_
  clear hK K
  try (simp only [put_lit]; dsimp only [List.set_cons_zero, List.set_cons_succ])
  refine wpP_op (k := 53) rfl (by kernel_rfl) (by rfl) (fun K hK => ?_)
  go_simp
  refine hK.out _ _ ((growOrd).refl _) ?_
  clear hK K
  try (simp only [put_lit]; dsimp only [List.set_cons_zero, List.set_cons_succ])
  refine wpP_op (k := 54) rfl (by kernel_rfl) (by rfl) (fun K hK => ?_)
  go_simp
  refine hK.out _ _ ((growOrd).refl _) ?_
  clear hK K
  try (simp only [put_lit]; dsimp only [List.set_cons_zero, List.set_cons_succ])
  refine wpP_op (k := 55) rfl (by kernel_rfl) (by rfl) (fun K hK => ?_)
  go_simp
  refine hK.out _ _ ((growOrd).refl _) ?_
  clear hK K
  try (simp only [put_lit]; dsimp only [List.set_cons_zero, List.set_cons_succ])
  refine wpP_op (k := 56) rfl (by kernel_rfl) (by rfl) (fun K hK => ?_)
  go_simp
  refine (rank_says s12 _ 3 3 wM51 rfl (by decide) fits_sa (HA.out.grow ((growOrd).trans ((growOrd).trans ((growOrd).trans ((growOrd).trans ((growOrd).trans ((growOrd).trans ((growOrd).trans ((growOrd).trans ((growOrd).trans ((growOrd).trans ((growOrd).trans ((growOrd).refl W0) hM15) hM19) hM24) hM28) hM33) hM34) hM35) hM36) hM41) hM46) hM51))).mono ?_
  rintro e wM56 ⟨rfl, hN56⟩
  have hM56 : Grow wM51 wM56 := hN56
  refine hK.out _ _ hM56 ?_
  clear hK K
  try (simp only [put_lit]; dsimp only [List.set_cons_zero, List.set_cons_succ])
  refine wpP_op (k := 57) rfl (by kernel_rfl) (by rfl) (fun K hK => ?_)
  go_simp
  refine hK.out _ _ ((growOrd).refl _) ?_
  clear hK K
  try (simp only [put_lit]; dsimp only [List.set_cons_zero, List.set_cons_succ])
  refine wpP_op (k := 58) rfl (by kernel_rfl) (by rfl) (fun K hK => ?_)
  go_simp
  refine hK.out _ _ ((growOrd).refl _) ?_
  clear hK K
  try (simp only [put_lit]; dsimp only [List.set_cons_zero, List.set_cons_succ])
  refine wpP_op (k := 59) rfl (by kernel_rfl) (by rfl) (fun K hK => ?_)
  go_simp
  refine hK.out _ _ ((growOrd).refl _) ?_
  clear hK K
  try (simp only [put_lit]; dsimp only [List.set_cons_zero, List.set_cons_succ])
  refine wpP_op (k := 60) rfl (by kernel_rfl) (by rfl) (fun K hK => ?_)
  go_simp
  refine hK.out _ _ ((growOrd).refl _) ?_
  clear hK K
  try (simp only [put_lit]; dsimp only [List.set_cons_zero, List.set_cons_succ])
  refine wpP_op (k := 61) rfl (by kernel_rfl) (by rfl) (fun K hK => ?_)
  go_simp
  refine hK.out _ _ ((growOrd).refl _) ?_
  clear hK K
  try (simp only [put_lit]; dsimp only [List.set_cons_zero, List.set_cons_succ])
  refine wpP_op (k := 62) rfl (by kernel_rfl) (by rfl) (fun K hK => ?_)
  go_simp
  refine (items_says s13 _ 2 3 wM56 rfl (by decide) (fits_sa.take 2) ((HA.out.take 2).grow ((growOrd).trans ((growOrd).trans ((growOrd).trans ((growOrd).trans ((growOrd).trans ((growOrd).trans ((growOrd).trans ((growOrd).trans ((growOrd).trans ((growOrd).trans ((growOrd).trans ((growOrd).trans ((growOrd).refl W0) hM15) hM19) hM24) hM28) hM33) hM34) hM35) hM36) hM41) hM46) hM51) hM56))).mono ?_
  rintro e wM62 ⟨rfl, hN62⟩
  have hM62 : Grow wM56 wM62 := hN62
  have hk2 : ∀ wg, Grow wM62 wg → wg.cell? ⟨bk, ok + 1, none⟩ = some (.slice A' 1 c') := fun wg h => hk1 wg (Grow.trans ((growOrd).trans ((growOrd).trans ((growOrd).trans ((growOrd).trans ((growOrd).trans ((growOrd).trans ((growOrd).trans ((growOrd).trans ((growOrd).trans ((growOrd).trans ((growOrd).trans ((growOrd).trans ((growOrd).refl W0) hM15) hM19) hM24) hM28) hM33) hM34) hM35) hM36) hM41) hM46) hM51) hM56) (hN62.trans h))
  clear hk1
  refine hK.out _ _ hM62 ?_
  clear hK K
  try (simp only [put_lit]; dsimp only [List.set_cons_zero, List.set_cons_succ])
  refine wpP_op (k := 63) rfl (by kernel_rfl) (by rfl) (fun K hK => ?_)
  go_simp
  refine hK.out _ _ ((growOrd).refl _) ?_
  clear hK K
  try (simp only [put_lit]; dsimp only [List.set_cons_zero, List.set_cons_succ])
  refine wpP_op (k := 64) rfl (by kernel_rfl) (by rfl) (fun K hK => ?_)
  go_simp
  refine hK.out _ _ ((growOrd).refl _) ?_
  clear hK K
  try (simp only [put_lit]; dsimp only [List.set_cons_zero, List.set_cons_succ])
  refine wpP_op (k := 65) rfl (by kernel_rfl) (by rfl) (fun K hK => ?_)
  go_simp
  refine hK.out _ _ ((growOrd).refl _) ?_
  clear hK K
  try (simp only [put_lit]; dsimp only [List.set_cons_zero, List.set_cons_succ])
  refine wpP_take growOrd (k := 66) (v := ?vf1) rfl (by kernel_rfl) (by kernel_rfl) (by kernel_rfl) (fun _ _ _ h => h) (by rfl) ?hf1 ?rf1
  case hf1 => (intro wg hSw; go_simp <;> with_reducible rfl)
  simp only [put_lit]; dsimp only [List.set_cons_zero, List.set_cons_succ]
  refine wpP_take growOrd (k := 67) (v := ?vf2) rfl (by kernel_rfl) (by kernel_rfl) (by kernel_rfl) (fun _ _ _ h => h) (by rfl) ?hf2 ?rf2
  case hf2 => (intro wg hSw; go_simp <;> with_reducible rfl)
  simp only [put_lit]; dsimp only [List.set_cons_zero, List.set_cons_succ]
  refine wpP_take growOrd (k := 68) (v := ?vf3) rfl (by kernel_rfl) (by kernel_rfl) (by kernel_rfl) (fun _ _ _ h => h) (by rfl) ?hf3 ?rf3
  case hf3 => (intro wg hSw; go_simp <;> with_reducible rfl)
  simp only [put_lit]; dsimp only [List.set_cons_zero, List.set_cons_succ]
  refine wpP_op (k := 69) rfl (by kernel_rfl) (by rfl) (fun K hK => ?_)
  go_simp
  refine (one_any 4 wM62).mono ?_
  rintro e wM69 ⟨g69, rfl, hN69, hC69⟩
  have hM69 : Grow wM62 wM69 := hN69
  refine hK.out _ _ hM69 ?_
  clear hK K
  try (simp only [put_lit]; dsimp only [List.set_cons_zero, List.set_cons_succ])
  refine wpP_op (k := 70) rfl (by kernel_rfl) (by rfl) (fun K hK => ?_)
  go_simp
  refine (same_says s14 _ _ 1 1 c' 1 wM69 rfl rfl (by decide) (by decide) (fits1 (fit1 4)) (fits1 (fit1 4)) (HKI.out.grow ((growOrd).trans ((growOrd).trans ((growOrd).trans ((growOrd).trans ((growOrd).trans ((growOrd).trans ((growOrd).trans ((growOrd).trans ((growOrd).trans ((growOrd).trans ((growOrd).trans ((growOrd).trans ((growOrd).trans ((growOrd).trans ((growOrd).refl W0) hM15) hM19) hM24) hM28) hM33) hM34) hM35) hM36) hM41) hM46) hM51) hM56) hM62) hM69)) hC69).mono ?_
  rintro e wM70 ⟨rfl, hN70⟩
  have hM70 : Grow wM69 wM70 := hN70
  refine hK.out _ _ hM70 ?_
  clear hK K
  try (simp only [put_lit]; dsimp only [List.set_cons_zero, List.set_cons_succ])
  refine wpP_op (k := 71) rfl (by kernel_rfl) (by rfl) (fun K hK => ?_)
  go_simp
  refine hK.out _ _ ((growOrd).refl _) ?_
  clear hK K
  try (simp only [put_lit]; dsimp only [List.set_cons_zero, List.set_cons_succ])
  refine wpP_op (k := 72) rfl (by kernel_rfl) (by rfl) (fun K hK => ?_)
  go_simp
  refine hK.out _ _ ((growOrd).refl _) ?_
  clear hK K
  try (simp only [put_lit]; dsimp only [List.set_cons_zero, List.set_cons_succ])
  refine wpP_op (k := 73) rfl (by kernel_rfl) (by rfl) (fun K hK => ?_)
  go_simp
  refine (one_any 3 wM70).mono ?_
  rintro e wM73 ⟨g73, rfl, hN73, hC73⟩
  have hM73 : Grow wM70 wM73 := hN73
  refine hK.out _ _ hM73 ?_
  clear hK K
  try (simp only [put_lit]; dsimp only [List.set_cons_zero, List.set_cons_succ])
  refine wpP_op (k := 74) rfl (by kernel_rfl) (by rfl) (fun K hK => ?_)
  go_simp
  refine (one_any 4 wM73).mono ?_
  rintro e wM74 ⟨g74, rfl, hN74, hC74⟩
  have hM74 : Grow wM73 wM74 := hN74
  refine hK.out _ _ hM74 ?_
  clear hK K
  try (simp only [put_lit]; dsimp only [List.set_cons_zero, List.set_cons_succ])
  refine wpP_op (k := 75) rfl (by kernel_rfl) (by rfl) (fun K hK => ?_)
  go_simp
  refine (same_says s15 _ _ 1 1 1 1 wM74 rfl rfl (by decide) (by decide) (fits1 (fit1 3)) (fits1 (fit1 4)) (hC73.grow hN74) hC74).mono ?_
  rintro e wM75 ⟨rfl, hN75⟩
  have hM75 : Grow wM74 wM75 := hN75
  refine hK.out _ _ hM75 ?_
  clear hK K
  try (simp only [put_lit]; dsimp only [List.set_cons_zero, List.set_cons_succ])
  refine wpP_op (k := 76) rfl (by kernel_rfl) (by rfl) (fun K hK => ?_)
  go_simp
  refine hK.out _ _ ((growOrd).refl _) ?_
  clear hK K
  try (simp only [put_lit]; dsimp only [List.set_cons_zero, List.set_cons_succ])
  refine wpP_op (k := 77) rfl (by kernel_rfl) (by rfl) (fun K hK => ?_)
  go_simp
  refine hK.out _ _ ((growOrd).refl _) ?_
  clear hK K
  try (simp only [put_lit]; dsimp only [List.set_cons_zero, List.set_cons_succ])
  refine wpP_op (k := 78) rfl (by kernel_rfl) (by rfl) (fun K hK => ?_)
  go_simp
  refine hK.out _ _ ((growOrd).refl _) ?_
  clear hK K
  try (simp only [put_lit]; dsimp only [List.set_cons_zero, List.set_cons_succ])
  refine wpP_op (k := 79) rfl (by kernel_rfl) (by rfl) (fun K hK => ?_)
  go_simp
  refine hK.out _ _ (grow_new _ _) ?_
  clear hK K
  try (simp only [put_lit]; dsimp only [List.set_cons_zero, List.set_cons_succ])
  generalize hwM79 : World.alloc wM75 (.cells #[.int .i64 2] 3) = wM79
  have hN79 : Grow wM75 wM79 := by rw [← hwM79]; exact grow_new _ _
  have hC79 : Nums .i64 wM79 wM79.heap.size (some ⟨(wM75).heap.size, 0, none⟩) [2] := by rw [← hwM79]; exact nums_lit wM75 [2]
  have hM79 : Grow wM75 wM79 := hN79
  clear hwM79
  refine wpP_op (k := 80) rfl (by kernel_rfl) (by rfl) (fun K hK => ?_)
  go_simp
  refine hK.out _ _ ((growOrd).refl _) ?_
  clear hK K
  try (simp only [put_lit]; dsimp only [List.set_cons_zero, List.set_cons_succ])
  refine wpP_op (k := 81) rfl (by kernel_rfl) (by rfl) (fun K hK => ?_)
  go_simp
  refine hK.out _ _ (grow_new _ _) ?_
  clear hK K
  try (simp only [put_lit]; dsimp only [List.set_cons_zero, List.set_cons_succ])
  generalize hwM81 : World.alloc wM79 (.cells #[.int .i64 1, .slice none 0 0, .slice (some ⟨wM75.heap.size, 0, none⟩) 1 1, .slice none 0 0] 32) = wM81
  have hN81 : Grow wM79 wM81 := by rw [← hwM81]; exact grow_new _ _
  have hC81 : Nodes wM81 wM81.heap.size (some ⟨(wM79).heap.size, 0, none⟩) [⟨1, [], [2], []⟩] := by rw [← hwM81]; exact node_lit wM79 1 none 0 0 (some ⟨wM75.heap.size, 0, none⟩) 1 1 none 0 0 ⟨1, [], [2], []⟩ rfl rfl rfl rfl ⟨Nums.none_, hC79, Decs.none_⟩
  have hM81 : Grow wM79 wM81 := hN81
  clear hwM81
  refine wpP_op (k := 82) rfl (by kernel_rfl) (by rfl) (fun K hK => ?_)
  go_simp
  refine (right_says s16 _ 1 1 wM81 rfl (by decide) (fits1 (fit_lit ⟨by decide, by decide⟩ (by decide) (by decide) (.inl rfl))) hC81).mono ?_
  rintro e wM82 ⟨rfl, hN82⟩
  have hM82 : Grow wM81 wM82 := hN82
  refine hK.out _ _ hM82 ?_
  clear hK K
  try (simp only [put_lit]; dsimp only [List.set_cons_zero, List.set_cons_succ])
  refine wpP_op (k := 83) rfl (by kernel_rfl) (by rfl) (fun K hK => ?_)
  go_simp
  refine hK.out _ _ ((growOrd).refl _) ?_
  clear hK K
  try (simp only [put_lit]; dsimp only [List.set_cons_zero, List.set_cons_succ])
  refine wpP_op (k := 84) rfl (by kernel_rfl) (by rfl) (fun K hK => ?_)
  go_simp
  refine hK.out _ _ ((growOrd).refl _) ?_
  clear hK K
  try (simp only [put_lit]; dsimp only [List.set_cons_zero, List.set_cons_succ])
  refine wpP_op (k := 85) rfl (by kernel_rfl) (by rfl) (fun K hK => ?_)
  go_simp
  refine hK.out _ _ ((growOrd).refl _) ?_
  clear hK K
  try (simp only [put_lit]; dsimp only [List.set_cons_zero, List.set_cons_succ])
  refine wpP_op (k := 86) rfl (by kernel_rfl) (by rfl) (fun K hK => ?_)
  go_simp
  refine hK.out _ _ ((growOrd).refl _) ?_
  clear hK K
  try (simp only [put_lit]; dsimp only [List.set_cons_zero, List.set_cons_succ])
  refine wpP_op (k := 87) rfl (by kernel_rfl) (by rfl) (fun K hK => ?_)
  go_simp
  refine hK.out _ _ (grow_new _ _) ?_
  clear hK K
  try (simp only [put_lit]; dsimp only [List.set_cons_zero, List.set_cons_succ])
  generalize hwM87 : World.alloc wM82 (.cells #[.int .i64 2, .slice none 0 0, .slice none 0 0, .slice none 0 0] 32) = wM87
  have hN87 : Grow wM82 wM87 := by rw [← hwM87]; exact grow_new _ _
  have hC87 : Nodes wM87 wM87.heap.size (some ⟨(wM82).heap.size, 0, none⟩) [⟨2, [], [], []⟩] := by rw [← hwM87]; exact node_lit wM82 2 none 0 0 none 0 0 none 0 0 ⟨2, [], [], []⟩ rfl rfl rfl rfl ⟨Nums.none_, Nums.none_, Decs.none_⟩
  have hM87 : Grow wM82 wM87 := hN87
  clear hwM87
  refine wpP_op (k := 88) rfl (by kernel_rfl) (by rfl) (fun K hK => ?_)
  go_simp
  refine (right_says s17 _ 1 1 wM87 rfl (by decide) (fits1 (fit_lit ⟨by decide, by decide⟩ (by decide) (by decide) (.inl rfl))) hC87).mono ?_
  rintro e wM88 ⟨rfl, hN88⟩
  have hM88 : Grow wM87 wM88 := hN88
  refine hK.out _ _ hM88 ?_
  clear hK K
  try (simp only [put_lit]; dsimp only [List.set_cons_zero, List.set_cons_succ])
  refine wpP_op (k := 89) rfl (by kernel_rfl) (by rfl) (fun K hK => ?_)
  go_simp
  refine hK.out _ _ ((growOrd).refl _) ?_
  clear hK K
  try (simp only [put_lit]; dsimp only [List.set_cons_zero, List.set_cons_succ])
  refine wpP_op (k := 90) rfl (by kernel_rfl) (by rfl) (fun K hK => ?_)
  go_simp
  refine hK.out _ _ ((growOrd).refl _) ?_
  clear hK K
  try (simp only [put_lit]; dsimp only [List.set_cons_zero, List.set_cons_succ])
  refine wpP_op (k := 91) rfl (by kernel_rfl) (by rfl) (fun K hK => ?_)
  go_simp
  refine hK.out _ _ ((growOrd).refl _) ?_
  clear hK K
  try (simp only [put_lit]; dsimp only [List.set_cons_zero, List.set_cons_succ])
  refine wpP_op (k := 92) rfl (by kernel_rfl) (by rfl) (fun K hK => ?_)
  go_simp
  refine hK.out _ _ ((growOrd).refl _) ?_
  clear hK K
  try (simp only [put_lit]; dsimp only [List.set_cons_zero, List.set_cons_succ])
  refine wpP_op (k := 93) rfl (by kernel_rfl) (by rfl) (fun K hK => ?_)
  go_simp
  refine hK.out _ _ (grow_new _ _) ?_
  clear hK K
  try (simp only [put_lit]; dsimp only [List.set_cons_zero, List.set_cons_succ])
  generalize hwM93 : World.alloc wM88 (.cells #[.int .i64 10, .int .i64 0] 41) = wM93
  have hN93 : Grow wM88 wM93 := by rw [← hwM93]; exact grow_new _ _
  have hC93 : Decs wM93 wM93.heap.size (some ⟨(wM88).heap.size, 0, none⟩) [(10, 0)] := by rw [← hwM93]; exact decs_lit wM88 [(10, 0)]
  have hM93 : Grow wM88 wM93 := hN93
  clear hwM93
  refine wpP_op (k := 94) rfl (by kernel_rfl) (by rfl) (fun K hK => ?_)
  go_simp
  refine hK.out _ _ ((growOrd).refl _) ?_
  clear hK K
  try (simp only [put_lit]; dsimp only [List.set_cons_zero, List.set_cons_succ])
  refine wpP_op (k := 95) rfl (by kernel_rfl) (by rfl) (fun K hK => ?_)
  go_simp
  refine hK.out _ _ (grow_new _ _) ?_
  clear hK K
  try (simp only [put_lit]; dsimp only [List.set_cons_zero, List.set_cons_succ])
  generalize hwM95 : World.alloc wM93 (.cells #[.int .i64 4, .slice none 0 0, .slice none 0 0, .slice (some ⟨wM88.heap.size, 0, none⟩) 1 1] 32) = wM95
  have hN95 : Grow wM93 wM95 := by rw [← hwM95]; exact grow_new _ _
  have hC95 : Nodes wM95 wM95.heap.size (some ⟨(wM93).heap.size, 0, none⟩) [⟨4, [], [], [(10, 0)]⟩] := by rw [← hwM95]; exact node_lit wM93 4 none 0 0 none 0 0 (some ⟨wM88.heap.size, 0, none⟩) 1 1 ⟨4, [], [], [(10, 0)]⟩ rfl rfl rfl rfl ⟨Nums.none_, Nums.none_, hC93⟩
  have hM95 : Grow wM93 wM95 := hN95
  clear hwM95
  refine wpP_op (k := 96) rfl (by kernel_rfl) (by rfl) (fun K hK => ?_)
  go_simp
  refine (right_says s18 _ 1 1 wM95 rfl (by decide) (fits1 (fit_lit ⟨by decide, by decide⟩ (by decide) (by decide) (.inr rfl))) hC95).mono ?_
  rintro e wM96 ⟨rfl, hN96⟩
  have hM96 : Grow wM95 wM96 := hN96
  refine hK.out _ _ hM96 ?_
  clear hK K
  try (simp only [put_lit]; dsimp only [List.set_cons_zero, List.set_cons_succ])
  refine wpP_op (k := 97) rfl (by kernel_rfl) (by rfl) (fun K hK => ?_)
  go_simp
  refine hK.out _ _ ((growOrd).refl _) ?_
  clear hK K
  try (simp only [put_lit]; dsimp only [List.set_cons_zero, List.set_cons_succ])
  refine wpP_op (k := 98) rfl (by kernel_rfl) (by rfl) (fun K hK => ?_)
  go_simp
  refine hK.out _ _ ((growOrd).refl _) ?_
  clear hK K
  try (simp only [put_lit]; dsimp only [List.set_cons_zero, List.set_cons_succ])
  refine wpP_op (k := 99) rfl (by kernel_rfl) (by rfl) (fun K hK => ?_)
  go_simp
  refine hK.out _ _ ((growOrd).refl _) ?_
  clear hK K
  try (simp only [put_lit]; dsimp only [List.set_cons_zero, List.set_cons_succ])
  refine wpP_op (k := 100) rfl (by kernel_rfl) (by rfl) (fun K hK => ?_)
  go_simp
  refine hK.out _ _ (grow_new _ _) ?_
  clear hK K
  try (simp only [put_lit]; dsimp only [List.set_cons_zero, List.set_cons_succ])
  generalize hwM100 : World.alloc wM96 (.cells #[.int .i64 0, .int .i64 3] 3) = wM100
  have hN100 : Grow wM96 wM100 := by rw [← hwM100]; exact grow_new _ _
  have hC100 : Nums .i64 wM100 wM100.heap.size (some ⟨(wM96).heap.size, 0, none⟩) [0, 3] := by rw [← hwM100]; exact nums_lit wM96 [0, 3]
  have hM100 : Grow wM96 wM100 := hN100
  clear hwM100
  refine wpP_op (k := 101) rfl (by kernel_rfl) (by rfl) (fun K hK => ?_)
  go_simp
  refine hK.out _ _ ((growOrd).refl _) ?_
  clear hK K
  try (simp only [put_lit]; dsimp only [List.set_cons_zero, List.set_cons_succ])
  refine wpP_op (k := 102) rfl (by kernel_rfl) (by rfl) (fun K hK => ?_)
  go_simp
  refine hK.out _ _ (grow_new _ _) ?_
  clear hK K
  try (simp only [put_lit]; dsimp only [List.set_cons_zero, List.set_cons_succ])
  generalize hwM102 : World.alloc wM100 (.cells #[.int .i64 3, .slice (some ⟨wM96.heap.size, 0, none⟩) 2 2, .slice none 0 0, .slice none 0 0] 32) = wM102
  have hN102 : Grow wM100 wM102 := by rw [← hwM102]; exact grow_new _ _
  have hC102 : Nodes wM102 wM102.heap.size (some ⟨(wM100).heap.size, 0, none⟩) [⟨3, [0, 3], [], []⟩] := by rw [← hwM102]; exact node_lit wM100 3 (some ⟨wM96.heap.size, 0, none⟩) 2 2 none 0 0 none 0 0 ⟨3, [0, 3], [], []⟩ rfl rfl rfl rfl ⟨hC100, Nums.none_, Decs.none_⟩
  have hM102 : Grow wM100 wM102 := hN102
  clear hwM102
  refine wpP_op (k := 103) rfl (by kernel_rfl) (by rfl) (fun K hK => ?_)
  go_simp
  refine (right_says s19 _ 1 1 wM102 rfl (by decide) (fits1 (fit_lit ⟨by decide, by decide⟩ (by decide) (by decide) (.inl rfl))) hC102).mono ?_
  rintro e wM103 ⟨rfl, hN103⟩
  have hM103 : Grow wM102 wM103 := hN103
  refine hK.out _ _ hM103 ?_
  clear hK K
  try (simp only [put_lit]; dsimp only [List.set_cons_zero, List.set_cons_succ])
  refine wpP_op (k := 104) rfl (by kernel_rfl) (by rfl) (fun K hK => ?_)
  go_simp
  refine hK.out _ _ ((growOrd).refl _) ?_
  clear hK K
  try (simp only [put_lit]; dsimp only [List.set_cons_zero, List.set_cons_succ])
  refine wpP_op (k := 105) rfl (by kernel_rfl) (by rfl) (fun K hK => ?_)
  go_simp
  refine hK.out _ _ ((growOrd).refl _) ?_
  clear hK K
  try (simp only [put_lit]; dsimp only [List.set_cons_zero, List.set_cons_succ])
  refine wpP_done rfl ?_
  have HGW := Lib.hid (HGZ.out.trans ((growOrd).trans ((growOrd).trans ((growOrd).trans ((growOrd).trans ((growOrd).trans ((growOrd).trans ((growOrd).trans ((growOrd).trans ((growOrd).trans ((growOrd).trans ((growOrd).trans ((growOrd).trans ((growOrd).trans ((growOrd).trans ((growOrd).trans ((growOrd).trans ((growOrd).trans ((growOrd).trans ((growOrd).trans ((growOrd).trans ((growOrd).trans ((growOrd).trans ((growOrd).trans ((growOrd).trans ((growOrd).trans ((growOrd).trans ((growOrd).trans ((growOrd).trans ((growOrd).trans ((growOrd).refl W0) hM15) hM19) hM24) hM28) hM33) hM34) hM35) hM36) hM41) hM46) hM51) hM56) hM62) hM69) hM70) hM73) hM74) hM75) hM79) hM81) hM82) hM87) hM88) hM93) hM95) hM96) hM100) hM102) hM103))
  clear hk2
  go_wp2
  go_ret
  exact ⟨rfl, HGW.out⟩
end Go.Proofs.Ytfdlngcaopcaoaa
