/-
  ShapeBack comes to true, whatever it is called with.
-/
import Derived.Test.YtbediaeaodjnmaaSmall
namespace Go.Proofs.Ytbediaeaodjnmaa
open Go.RowKit Go.Lib
set_option linter.unusedVariables false
set_option linter.unusedSimpArgs false

theorem cnt_le (xs : List Int) : cnt xs ≤ 1048576 := by
  unfold cnt
  split
  · rename_i h; exact (right_iff.1 h).2.2
  · omega
/-- what is told of a place is told its place -/
theorem back_place {xs : List Int} {i : Int} (h : indB xs i = true) : ∃ I : Nat, i = (I : Nat) ∧ I < cnt xs ∧ rightB xs = true ∧ plcB xs (ind xs i) = true ∧ plc xs (ind xs i) = I ∧ (ind xs i).length = xs.length := by
  have h' := h
  simp only [indB, Bool.and_eq_true, decide_eq_true_eq] at h
  obtain ⟨hb, h0, h1⟩ := h
  obtain ⟨I, rfl⟩ : ∃ I : Nat, i = (I : Nat) := ⟨i.toNat, by omega⟩
  have hlt : I < prodN (toN xs) := by omega
  have hpos := pos_of_prod (show prodN (toN xs) ≠ 0 by omega)
  have hin := in_to (in_digs (toN xs) I hpos)
  rw [ofN_toN (right_iff.1 hb).2.1] at hin
  have e : ind xs ((I : Nat) : Int) = ofN (digs (toN xs) I) := by simp [ind, h']
  have hpb : plcB xs (ofN (digs (toN xs) I)) = true := by simp [plcB, hb, hin]
  refine ⟨I, rfl, by rw [cnt_yes hb]; exact hlt, hb, by rw [e]; exact hpb, ?_, by rw [e, ofN_len, digs_len, toN_len]⟩
  rw [e]
  unfold plc
  rw [if_pos hpb, toN_ofN, hor_digs I _ _ hpos, Nat.zero_mul, Nat.zero_add, Nat.mod_eq_of_lt hlt]
/-- a place's numbers are told of it -/
theorem back_index {xs ys : List Int} (h : plcB xs ys = true) : rightB xs = true ∧ plc xs ys < cnt xs ∧ indB xs ((plc xs ys : Nat) : Int) = true ∧ ind xs ((plc xs ys : Nat) : Int) = ys := by
  have h' := h
  simp only [plcB, Bool.and_eq_true] at h
  obtain ⟨hb, hi⟩ := h
  obtain ⟨e1, e2, e3⟩ := in_of hi
  have hp : plc xs ys = hor 0 (toN xs) (toN ys) := by unfold plc; rw [if_pos h']
  have hlt := (hor_step 0 (toN xs) (toN ys) e2).2
  have hind : indB xs ((plc xs ys : Nat) : Int) = true := by
    simp only [indB, Bool.and_eq_true, decide_eq_true_eq]
    exact ⟨hb, by omega, by rw [hp]; omega⟩
  refine ⟨hb, by rw [cnt_yes hb, hp]; exact hlt, hind, ?_⟩
  unfold ind
  rw [if_pos hind, Int.toNat_natCast, hp, digs_hor 0 _ _ e2, e1]

set_option maxRecDepth 10000 in
set_option maxHeartbeats 3200000 in
theorem lback_a (A A' : Option Addr) (n c n' c' : Nat) (xs ys : List Int) (i : Int) (w : World) (hn : xs.length = n) (hm : n ≤ 9223372036854775807) (hn' : ys.length = n') (hm' : n' ≤ 9223372036854775807) (hr : Nums .i64 w w.heap.size A xs) (hr' : Nums .i64 w w.heap.size A' ys) (hi : -9223372036854775808 ≤ i ∧ i ≤ 9223372036854775807) (h50 : ¬ 50 < n) (h50' : ¬ 50 < n') (hb : rightB xs = false) :
    Calls Try.prog 4 #[.slice A n c, .slice A' n' c', .int .i64 i] w (Fine w) := by
  have HR := Lib.hid hr
  have HR' := Lib.hid hr'
  have HN := Lib.hid hn
  have HN' := Lib.hid hn'
  clear hr hr' hn hn'
  have h50i : ¬ (50 : Int) < ((n : Nat) : Int) := by omega
  have h50i' : ¬ (50 : Int) < ((n' : Nat) : Int) := by omega
  have H1 := Lib.hid (fun W h => count_any A n c xs W HN.out hm h)
  have H2 := Lib.hid (fun W h => index_any A n c xs i W HN.out hm h hi)
  have HBI := Lib.hid (@back_index xs ys)
  have HP0 := Lib.hid (@plc_no xs ys)
  have HIC := Lib.hid (indB_cnt xs i)
  unfold Indexed at H2
  obtain ⟨zs, hzs⟩ : ∃ zs, ind xs i = zs := ⟨_, rfl⟩
  obtain ⟨m, hmz⟩ : ∃ m, zs.length = m := ⟨_, rfl⟩
  have hzl : m ≤ n := by rw [← hmz, ← hzs, ← HN.out]; unfold ind; split <;> simp [ofN_len, digs_len, toN_len]
  have HM := Lib.hid hmz
  have H3 := Lib.hid (fun W B c2 h h' => place_any A B n c m c2 xs zs W HN.out hm HM.out (by omega) h h')
  have hC0 := cnt_no hb
  rw [hzs, hmz] at H2
  clear hmz hzs
  have H4 := Lib.hid (fun W h h' => place_any A A' n c n' c' xs ys W HN.out hm HN'.out hm' h h')
  have H5 := Lib.hid (fun W (j : Int) h hj => index_any A n c xs j W HN.out hm h hj)
  unfold Indexed at H5
  have HCB := Lib.hid (cnt_le xs)
  generalize cnt xs = C at H1 HBI HCB HIC hC0
  generalize rightB xs = β at H1 HBI hb
  generalize plc xs zs = P at H3 
  generalize plcB xs zs = γ at H3 
  generalize indB xs i = δ at H2 HIC 
  subst hb hC0
  have hd : δ = false := by rw [HIC.out]; exact nope (by omega)
  subst hd
  cases hcan : plcB xs ys with
  | false =>
    rw [hcan, HP0.out hcan] at H4
    clear hcan HBI HP0
    have H5' := Lib.hid (fun W h => H5.out W 0 h (by decide))
    clear H5
    generalize ind xs 0 = us at H5'
    generalize indB xs 0 = ε at H5'
    go_enter Try.func4, Try.ntmps4
    go_wp2_with fail
    refine (small_any w).mono ?_
    rintro x w1 ⟨rfl, hg⟩
    have HG1 := Lib.hid hg
    have HR1 := Lib.hid (HR.out.grow hg)
    have HR1' := Lib.hid (HR'.out.grow hg)
    clear hg HR HR'
    go_wp2_with fail
    refine (H1.out w1 HR1.out).mono ?_
    rintro e w2 ⟨rfl, rfl⟩
    clear H1
    go_wp2_with fail
    refine (H2.out w2 HR1.out).mono ?_
    rintro e w3 ⟨A1, rfl, hz1, hg⟩
    have HG3 := Lib.hid hg
    have HZ1 := Lib.hid hz1
    clear hg H2 hz1
    go_wp2_with fail
    refine (H3.out w3 A1 m (HR1.out.grow HG3.out) HZ1.out).mono ?_
    rintro e w4 ⟨rfl, hg⟩
    have HG4 := Lib.hid (HG3.out.trans hg)
    clear hg H3
    go_wp2_with fail
    refine (H4.out w4 (HR1.out.grow HG4.out) (HR1'.out.grow HG4.out)).mono ?_
    rintro e w5 ⟨rfl, hg⟩
    have HG5 := Lib.hid (HG4.out.trans hg)
    clear hg H4
    go_wp2_with fail
    refine (H5'.out w5 (HR1.out.grow HG5.out)).mono ?_
    rintro e w6 ⟨A2, rfl, hz2, hg⟩
    have HG6 := Lib.hid (HG1.out.trans (HG5.out.trans hg))
    clear hg H5' hz2
    go_wp2
    go_ret
    exact ⟨rfl, HG6.out⟩
  | true =>
    have hb2 := (HBI.out hcan).1
    cases hb2

set_option maxRecDepth 10000 in
set_option maxHeartbeats 3200000 in
theorem lback_b (A A' : Option Addr) (n c n' c' : Nat) (xs ys : List Int) (i : Int) (w : World) (hn : xs.length = n) (hm : n ≤ 9223372036854775807) (hn' : ys.length = n') (hm' : n' ≤ 9223372036854775807) (hr : Nums .i64 w w.heap.size A xs) (hr' : Nums .i64 w w.heap.size A' ys) (hi : -9223372036854775808 ≤ i ∧ i ≤ 9223372036854775807) (h50 : ¬ 50 < n) (h50' : ¬ 50 < n') (hb : rightB xs = true) (h0 : i < 0) :
    Calls Try.prog 4 #[.slice A n c, .slice A' n' c', .int .i64 i] w (Fine w) := by
  have HR := Lib.hid hr
  have HR' := Lib.hid hr'
  have HN := Lib.hid hn
  have HN' := Lib.hid hn'
  clear hr hr' hn hn'
  have h50i : ¬ (50 : Int) < ((n : Nat) : Int) := by omega
  have h50i' : ¬ (50 : Int) < ((n' : Nat) : Int) := by omega
  have H1 := Lib.hid (fun W h => count_any A n c xs W HN.out hm h)
  have H2 := Lib.hid (fun W h => index_any A n c xs i W HN.out hm h hi)
  have HBI := Lib.hid (@back_index xs ys)
  have HP0 := Lib.hid (@plc_no xs ys)
  have HIC := Lib.hid (indB_cnt xs i)
  unfold Indexed at H2
  obtain ⟨zs, hzs⟩ : ∃ zs, ind xs i = zs := ⟨_, rfl⟩
  obtain ⟨m, hmz⟩ : ∃ m, zs.length = m := ⟨_, rfl⟩
  have hzl : m ≤ n := by rw [← hmz, ← hzs, ← HN.out]; unfold ind; split <;> simp [ofN_len, digs_len, toN_len]
  have HM := Lib.hid hmz
  have H3 := Lib.hid (fun W B c2 h h' => place_any A B n c m c2 xs zs W HN.out hm HM.out (by omega) h h')

  rw [hzs, hmz] at H2
  clear hmz hzs
  have H4 := Lib.hid (fun W h h' => place_any A A' n c n' c' xs ys W HN.out hm HN'.out hm' h h')
  have H5 := Lib.hid (fun W (j : Int) h hj => index_any A n c xs j W HN.out hm h hj)
  unfold Indexed at H5
  have HCB := Lib.hid (cnt_le xs)
  generalize cnt xs = C at H1 HBI HCB HIC 
  generalize rightB xs = β at H1 HBI hb
  generalize plc xs zs = P at H3 
  generalize plcB xs zs = γ at H3 
  generalize indB xs i = δ at H2 HIC 
  subst hb
  have hd : δ = false := by rw [HIC.out]; exact nope (.inl h0)
  subst hd
  cases hcan : plcB xs ys with
  | false =>
    rw [hcan, HP0.out hcan] at H4
    clear hcan HBI HP0
    have H5' := Lib.hid (fun W h => H5.out W 0 h (by decide))
    clear H5
    generalize ind xs 0 = us at H5'
    generalize indB xs 0 = ε at H5'
    go_enter Try.func4, Try.ntmps4
    go_wp2_with fail
    refine (small_any w).mono ?_
    rintro x w1 ⟨rfl, hg⟩
    have HG1 := Lib.hid hg
    have HR1 := Lib.hid (HR.out.grow hg)
    have HR1' := Lib.hid (HR'.out.grow hg)
    clear hg HR HR'
    go_wp2_with fail
    refine (H1.out w1 HR1.out).mono ?_
    rintro e w2 ⟨rfl, rfl⟩
    clear H1
    go_wp2_with fail
    refine (H2.out w2 HR1.out).mono ?_
    rintro e w3 ⟨A1, rfl, hz1, hg⟩
    have HG3 := Lib.hid hg
    have HZ1 := Lib.hid hz1
    clear hg H2 hz1
    go_wp2_with fail
    refine (H3.out w3 A1 m (HR1.out.grow HG3.out) HZ1.out).mono ?_
    rintro e w4 ⟨rfl, hg⟩
    have HG4 := Lib.hid (HG3.out.trans hg)
    clear hg H3
    go_wp2_with fail
    refine (H4.out w4 (HR1.out.grow HG4.out) (HR1'.out.grow HG4.out)).mono ?_
    rintro e w5 ⟨rfl, hg⟩
    have HG5 := Lib.hid (HG4.out.trans hg)
    clear hg H4
    go_wp2_with fail
    refine (H5'.out w5 (HR1.out.grow HG5.out)).mono ?_
    rintro e w6 ⟨A2, rfl, hz2, hg⟩
    have HG6 := Lib.hid (HG1.out.trans (HG5.out.trans hg))
    clear hg H5' hz2
    go_wp2
    go_ret
    exact ⟨rfl, HG6.out⟩
  | true =>
    obtain ⟨hb2, hp2, hi2, he2⟩ := HBI.out hcan
    have H5' := Lib.hid (fun W h => H5.out W ((plc xs ys : Nat) : Int) h (by have := HCB.out; omega))
    rw [hi2, he2, HN'.out] at H5'
    rw [hcan] at H4
    clear hi2 he2 hcan HBI HP0 H5
    generalize plc xs ys = p at H4 H5' hp2
    have hp0 : ¬ ((p : Nat) : Int) < 0 := by omega
    have hpC : ((p : Nat) : Int) < ((C : Nat) : Int) := by omega
    clear hb2
    go_enter Try.func4, Try.ntmps4
    go_wp2_with fail
    refine (small_any w).mono ?_
    rintro x w1 ⟨rfl, hg⟩
    have HG1 := Lib.hid hg
    have HR1 := Lib.hid (HR.out.grow hg)
    have HR1' := Lib.hid (HR'.out.grow hg)
    clear hg HR HR'
    go_wp2_with fail
    refine (H1.out w1 HR1.out).mono ?_
    rintro e w2 ⟨rfl, rfl⟩
    clear H1
    go_wp2_with fail
    refine (H2.out w2 HR1.out).mono ?_
    rintro e w3 ⟨A1, rfl, hz1, hg⟩
    have HG3 := Lib.hid hg
    have HZ1 := Lib.hid hz1
    clear hg H2 hz1
    go_wp2_with fail
    refine (H3.out w3 A1 m (HR1.out.grow HG3.out) HZ1.out).mono ?_
    rintro e w4 ⟨rfl, hg⟩
    have HG4 := Lib.hid (HG3.out.trans hg)
    clear hg H3
    go_wp2_with fail
    refine (H4.out w4 (HR1.out.grow HG4.out) (HR1'.out.grow HG4.out)).mono ?_
    rintro e w5 ⟨rfl, hg⟩
    have HG5 := Lib.hid (HG4.out.trans hg)
    clear hg H4
    go_wp2_with fail
    refine (H5'.out w5 (HR1.out.grow HG5.out)).mono ?_
    rintro e w6 ⟨A2, rfl, hz2, hg⟩
    have HG6 := Lib.hid (HG5.out.trans hg)
    have HZ2 := Lib.hid hz2
    clear hg H5' hz2
    go_wp2_with fail
    refine (same_eq A2 A' n' _ _ ys w6 HN'.out (by omega) HZ2.out (HR1'.out.grow HG6.out)).mono ?_
    rintro e w7 ⟨rfl, hg⟩
    have HG7 := Lib.hid (HG1.out.trans (HG6.out.trans hg))
    clear hg
    go_wp2
    go_ret
    exact ⟨rfl, HG7.out⟩

set_option maxRecDepth 10000 in
set_option maxHeartbeats 3200000 in
theorem lback_c (A A' : Option Addr) (n c n' c' : Nat) (xs ys : List Int) (i : Int) (w : World) (hn : xs.length = n) (hm : n ≤ 9223372036854775807) (hn' : ys.length = n') (hm' : n' ≤ 9223372036854775807) (hr : Nums .i64 w w.heap.size A xs) (hr' : Nums .i64 w w.heap.size A' ys) (hi : -9223372036854775808 ≤ i ∧ i ≤ 9223372036854775807) (h50 : ¬ 50 < n) (h50' : ¬ 50 < n') (hb : rightB xs = true) (h0 : 0 ≤ i) (h1 : ((cnt xs : Nat) : Int) ≤ i) :
    Calls Try.prog 4 #[.slice A n c, .slice A' n' c', .int .i64 i] w (Fine w) := by
  have HR := Lib.hid hr
  have HR' := Lib.hid hr'
  have HN := Lib.hid hn
  have HN' := Lib.hid hn'
  clear hr hr' hn hn'
  have h50i : ¬ (50 : Int) < ((n : Nat) : Int) := by omega
  have h50i' : ¬ (50 : Int) < ((n' : Nat) : Int) := by omega
  have H1 := Lib.hid (fun W h => count_any A n c xs W HN.out hm h)
  have H2 := Lib.hid (fun W h => index_any A n c xs i W HN.out hm h hi)
  have HBI := Lib.hid (@back_index xs ys)
  have HP0 := Lib.hid (@plc_no xs ys)
  have HIC := Lib.hid (indB_cnt xs i)
  unfold Indexed at H2
  obtain ⟨zs, hzs⟩ : ∃ zs, ind xs i = zs := ⟨_, rfl⟩
  obtain ⟨m, hmz⟩ : ∃ m, zs.length = m := ⟨_, rfl⟩
  have hzl : m ≤ n := by rw [← hmz, ← hzs, ← HN.out]; unfold ind; split <;> simp [ofN_len, digs_len, toN_len]
  have HM := Lib.hid hmz
  have H3 := Lib.hid (fun W B c2 h h' => place_any A B n c m c2 xs zs W HN.out hm HM.out (by omega) h h')

  rw [hzs, hmz] at H2
  clear hmz hzs
  have H4 := Lib.hid (fun W h h' => place_any A A' n c n' c' xs ys W HN.out hm HN'.out hm' h h')
  have H5 := Lib.hid (fun W (j : Int) h hj => index_any A n c xs j W HN.out hm h hj)
  unfold Indexed at H5
  have HCB := Lib.hid (cnt_le xs)
  generalize cnt xs = C at H1 HBI HCB HIC h1
  generalize rightB xs = β at H1 HBI hb
  generalize plc xs zs = P at H3 
  generalize plcB xs zs = γ at H3 
  generalize indB xs i = δ at H2 HIC 
  subst hb
  have hd : δ = false := by rw [HIC.out]; exact nope (.inr h1)
  subst hd
  cases hcan : plcB xs ys with
  | false =>
    rw [hcan, HP0.out hcan] at H4
    clear hcan HBI HP0
    have H5' := Lib.hid (fun W h => H5.out W 0 h (by decide))
    clear H5
    generalize ind xs 0 = us at H5'
    generalize indB xs 0 = ε at H5'
    go_enter Try.func4, Try.ntmps4
    go_wp2_with fail
    refine (small_any w).mono ?_
    rintro x w1 ⟨rfl, hg⟩
    have HG1 := Lib.hid hg
    have HR1 := Lib.hid (HR.out.grow hg)
    have HR1' := Lib.hid (HR'.out.grow hg)
    clear hg HR HR'
    go_wp2_with fail
    refine (H1.out w1 HR1.out).mono ?_
    rintro e w2 ⟨rfl, rfl⟩
    clear H1
    go_wp2_with fail
    refine (H2.out w2 HR1.out).mono ?_
    rintro e w3 ⟨A1, rfl, hz1, hg⟩
    have HG3 := Lib.hid hg
    have HZ1 := Lib.hid hz1
    clear hg H2 hz1
    go_wp2_with fail
    refine (H3.out w3 A1 m (HR1.out.grow HG3.out) HZ1.out).mono ?_
    rintro e w4 ⟨rfl, hg⟩
    have HG4 := Lib.hid (HG3.out.trans hg)
    clear hg H3
    go_wp2_with fail
    refine (H4.out w4 (HR1.out.grow HG4.out) (HR1'.out.grow HG4.out)).mono ?_
    rintro e w5 ⟨rfl, hg⟩
    have HG5 := Lib.hid (HG4.out.trans hg)
    clear hg H4
    go_wp2_with fail
    refine (H5'.out w5 (HR1.out.grow HG5.out)).mono ?_
    rintro e w6 ⟨A2, rfl, hz2, hg⟩
    have HG6 := Lib.hid (HG1.out.trans (HG5.out.trans hg))
    clear hg H5' hz2
    go_wp2
    go_ret
    exact ⟨rfl, HG6.out⟩
  | true =>
    obtain ⟨hb2, hp2, hi2, he2⟩ := HBI.out hcan
    have H5' := Lib.hid (fun W h => H5.out W ((plc xs ys : Nat) : Int) h (by have := HCB.out; omega))
    rw [hi2, he2, HN'.out] at H5'
    rw [hcan] at H4
    clear hi2 he2 hcan HBI HP0 H5
    generalize plc xs ys = p at H4 H5' hp2
    have hp0 : ¬ ((p : Nat) : Int) < 0 := by omega
    have hpC : ((p : Nat) : Int) < ((C : Nat) : Int) := by omega
    clear hb2
    go_enter Try.func4, Try.ntmps4
    go_wp2_with fail
    refine (small_any w).mono ?_
    rintro x w1 ⟨rfl, hg⟩
    have HG1 := Lib.hid hg
    have HR1 := Lib.hid (HR.out.grow hg)
    have HR1' := Lib.hid (HR'.out.grow hg)
    clear hg HR HR'
    go_wp2_with fail
    refine (H1.out w1 HR1.out).mono ?_
    rintro e w2 ⟨rfl, rfl⟩
    clear H1
    go_wp2_with fail
    refine (H2.out w2 HR1.out).mono ?_
    rintro e w3 ⟨A1, rfl, hz1, hg⟩
    have HG3 := Lib.hid hg
    have HZ1 := Lib.hid hz1
    clear hg H2 hz1
    go_wp2_with fail
    refine (H3.out w3 A1 m (HR1.out.grow HG3.out) HZ1.out).mono ?_
    rintro e w4 ⟨rfl, hg⟩
    have HG4 := Lib.hid (HG3.out.trans hg)
    clear hg H3
    go_wp2_with fail
    refine (H4.out w4 (HR1.out.grow HG4.out) (HR1'.out.grow HG4.out)).mono ?_
    rintro e w5 ⟨rfl, hg⟩
    have HG5 := Lib.hid (HG4.out.trans hg)
    clear hg H4
    go_wp2_with fail
    refine (H5'.out w5 (HR1.out.grow HG5.out)).mono ?_
    rintro e w6 ⟨A2, rfl, hz2, hg⟩
    have HG6 := Lib.hid (HG5.out.trans hg)
    have HZ2 := Lib.hid hz2
    clear hg H5' hz2
    go_wp2_with fail
    refine (same_eq A2 A' n' _ _ ys w6 HN'.out (by omega) HZ2.out (HR1'.out.grow HG6.out)).mono ?_
    rintro e w7 ⟨rfl, hg⟩
    have HG7 := Lib.hid (HG1.out.trans (HG6.out.trans hg))
    clear hg
    go_wp2
    go_ret
    exact ⟨rfl, HG7.out⟩

set_option maxRecDepth 10000 in
set_option maxHeartbeats 3200000 in
theorem lback_d (A A' : Option Addr) (n c n' c' : Nat) (xs ys : List Int) (i : Int) (w : World) (hn : xs.length = n) (hm : n ≤ 9223372036854775807) (hn' : ys.length = n') (hm' : n' ≤ 9223372036854775807) (hr : Nums .i64 w w.heap.size A xs) (hr' : Nums .i64 w w.heap.size A' ys) (hi : -9223372036854775808 ≤ i ∧ i ≤ 9223372036854775807) (h50 : ¬ 50 < n) (h50' : ¬ 50 < n') (hib : indB xs i = true) :
    Calls Try.prog 4 #[.slice A n c, .slice A' n' c', .int .i64 i] w (Fine w) := by
  have HR := Lib.hid hr
  have HR' := Lib.hid hr'
  have HN := Lib.hid hn
  have HN' := Lib.hid hn'
  clear hr hr' hn hn'
  have h50i : ¬ (50 : Int) < ((n : Nat) : Int) := by omega
  have h50i' : ¬ (50 : Int) < ((n' : Nat) : Int) := by omega
  have H1 := Lib.hid (fun W h => count_any A n c xs W HN.out hm h)
  have H2 := Lib.hid (fun W h => index_any A n c xs i W HN.out hm h hi)
  have HBI := Lib.hid (@back_index xs ys)
  have HP0 := Lib.hid (@plc_no xs ys)
  have HIC := Lib.hid (indB_cnt xs i)
  unfold Indexed at H2
  obtain ⟨zs, hzs⟩ : ∃ zs, ind xs i = zs := ⟨_, rfl⟩
  obtain ⟨m, hmz⟩ : ∃ m, zs.length = m := ⟨_, rfl⟩
  have hzl : m ≤ n := by rw [← hmz, ← hzs, ← HN.out]; unfold ind; split <;> simp [ofN_len, digs_len, toN_len]
  have HM := Lib.hid hmz
  have H3 := Lib.hid (fun W B c2 h h' => place_any A B n c m c2 xs zs W HN.out hm HM.out (by omega) h h')
  obtain ⟨I, hI, hIC, hb, hpb, hpl, hll⟩ := back_place hib
  rw [hzs] at hpb hpl hll
  rw [hmz, HN.out] at hll
  rw [hzs, hmz] at H2
  clear hmz hzs
  have H4 := Lib.hid (fun W h h' => place_any A A' n c n' c' xs ys W HN.out hm HN'.out hm' h h')
  have H5 := Lib.hid (fun W (j : Int) h hj => index_any A n c xs j W HN.out hm h hj)
  unfold Indexed at H5
  have HCB := Lib.hid (cnt_le xs)
  generalize cnt xs = C at H1 HBI HCB HIC hIC
  generalize rightB xs = β at H1 HBI hb
  generalize plc xs zs = P at H3 hpl
  generalize plcB xs zs = γ at H3 hpb
  generalize indB xs i = δ at H2 HIC hib
  subst hb hpb hib
  have h0 : ¬ i < 0 := by omega
  have h1 : i < ((C : Nat) : Int) := by omega
  have hnn : (((m : Nat) : Int) != ((n : Nat) : Int)) = false := by rw [bne_eq_false_iff_eq]; omega
  have hpp : (((P : Nat) : Int) != i) = false := by rw [bne_eq_false_iff_eq]; omega
  clear hll hpl hI hIC
  cases hcan : plcB xs ys with
  | false =>
    rw [hcan, HP0.out hcan] at H4
    clear hcan HBI HP0
    have H5' := Lib.hid (fun W h => H5.out W 0 h (by decide))
    clear H5
    generalize ind xs 0 = us at H5'
    generalize indB xs 0 = ε at H5'
    go_enter Try.func4, Try.ntmps4
    go_wp2_with fail
    refine (small_any w).mono ?_
    rintro x w1 ⟨rfl, hg⟩
    have HG1 := Lib.hid hg
    have HR1 := Lib.hid (HR.out.grow hg)
    have HR1' := Lib.hid (HR'.out.grow hg)
    clear hg HR HR'
    go_wp2_with fail
    refine (H1.out w1 HR1.out).mono ?_
    rintro e w2 ⟨rfl, rfl⟩
    clear H1
    go_wp2_with fail
    refine (H2.out w2 HR1.out).mono ?_
    rintro e w3 ⟨A1, rfl, hz1, hg⟩
    have HG3 := Lib.hid hg
    have HZ1 := Lib.hid hz1
    clear hg H2 hz1
    go_wp2_with fail
    refine (H3.out w3 A1 m (HR1.out.grow HG3.out) HZ1.out).mono ?_
    rintro e w4 ⟨rfl, hg⟩
    have HG4 := Lib.hid (HG3.out.trans hg)
    clear hg H3
    go_wp2_with fail
    refine (H4.out w4 (HR1.out.grow HG4.out) (HR1'.out.grow HG4.out)).mono ?_
    rintro e w5 ⟨rfl, hg⟩
    have HG5 := Lib.hid (HG4.out.trans hg)
    clear hg H4
    go_wp2_with fail
    refine (H5'.out w5 (HR1.out.grow HG5.out)).mono ?_
    rintro e w6 ⟨A2, rfl, hz2, hg⟩
    have HG6 := Lib.hid (HG1.out.trans (HG5.out.trans hg))
    clear hg H5' hz2
    go_wp2
    go_ret
    exact ⟨rfl, HG6.out⟩
  | true =>
    obtain ⟨hb2, hp2, hi2, he2⟩ := HBI.out hcan
    have H5' := Lib.hid (fun W h => H5.out W ((plc xs ys : Nat) : Int) h (by have := HCB.out; omega))
    rw [hi2, he2, HN'.out] at H5'
    rw [hcan] at H4
    clear hi2 he2 hcan HBI HP0 H5
    generalize plc xs ys = p at H4 H5' hp2
    have hp0 : ¬ ((p : Nat) : Int) < 0 := by omega
    have hpC : ((p : Nat) : Int) < ((C : Nat) : Int) := by omega
    clear hb2
    go_enter Try.func4, Try.ntmps4
    go_wp2_with fail
    refine (small_any w).mono ?_
    rintro x w1 ⟨rfl, hg⟩
    have HG1 := Lib.hid hg
    have HR1 := Lib.hid (HR.out.grow hg)
    have HR1' := Lib.hid (HR'.out.grow hg)
    clear hg HR HR'
    go_wp2_with fail
    refine (H1.out w1 HR1.out).mono ?_
    rintro e w2 ⟨rfl, rfl⟩
    clear H1
    go_wp2_with fail
    refine (H2.out w2 HR1.out).mono ?_
    rintro e w3 ⟨A1, rfl, hz1, hg⟩
    have HG3 := Lib.hid hg
    have HZ1 := Lib.hid hz1
    clear hg H2 hz1
    go_wp2_with fail
    refine (H3.out w3 A1 m (HR1.out.grow HG3.out) HZ1.out).mono ?_
    rintro e w4 ⟨rfl, hg⟩
    have HG4 := Lib.hid (HG3.out.trans hg)
    clear hg H3
    go_wp2_with fail
    refine (H4.out w4 (HR1.out.grow HG4.out) (HR1'.out.grow HG4.out)).mono ?_
    rintro e w5 ⟨rfl, hg⟩
    have HG5 := Lib.hid (HG4.out.trans hg)
    clear hg H4
    go_wp2_with fail
    refine (H5'.out w5 (HR1.out.grow HG5.out)).mono ?_
    rintro e w6 ⟨A2, rfl, hz2, hg⟩
    have HG6 := Lib.hid (HG5.out.trans hg)
    have HZ2 := Lib.hid hz2
    clear hg H5' hz2
    go_wp2_with fail
    refine (same_eq A2 A' n' _ _ ys w6 HN'.out (by omega) HZ2.out (HR1'.out.grow HG6.out)).mono ?_
    rintro e w7 ⟨rfl, hg⟩
    have HG7 := Lib.hid (HG1.out.trans (HG6.out.trans hg))
    clear hg
    go_wp2
    go_ret
    exact ⟨rfl, HG7.out⟩

set_option maxRecDepth 10000 in
set_option maxHeartbeats 800000 in
theorem lback_walk (A A' : Option Addr) (n c n' c' : Nat) (xs ys : List Int) (i : Int) (w : World) (hn : xs.length = n) (hm : n ≤ 9223372036854775807) (hn' : ys.length = n') (hm' : n' ≤ 9223372036854775807) (hr : Nums .i64 w w.heap.size A xs) (hr' : Nums .i64 w w.heap.size A' ys) (hi : -9223372036854775808 ≤ i ∧ i ≤ 9223372036854775807) :
    Calls Try.prog 4 #[.slice A n c, .slice A' n' c', .int .i64 i] w (Fine w) := by
  by_cases h50 : 50 < n
  · have h50i : (50 : Int) < ((n : Nat) : Int) := by omega
    clear hr hr' hn hn'
    go_enter Try.func4, Try.ntmps4
    go_wp2_with fail
    refine (small_any w).mono ?_
    rintro x w1 ⟨rfl, hg⟩
    have HG1 := Lib.hid hg
    clear hg
    go_wp2
    go_ret
    exact ⟨rfl, HG1.out⟩
  by_cases h50' : 50 < n'
  · have h50i : ¬ (50 : Int) < ((n : Nat) : Int) := by omega
    have h50i' : (50 : Int) < ((n' : Nat) : Int) := by omega
    clear hr hr' hn hn'
    go_enter Try.func4, Try.ntmps4
    go_wp2_with fail
    refine (small_any w).mono ?_
    rintro x w1 ⟨rfl, hg⟩
    have HG1 := Lib.hid hg
    clear hg
    go_wp2
    go_ret
    exact ⟨rfl, HG1.out⟩
  cases hb : rightB xs with
  | false => exact lback_a A A' n c n' c' xs ys i w hn hm hn' hm' hr hr' hi h50 h50' hb
  | true =>
    by_cases h0 : i < 0
    · exact lback_b A A' n c n' c' xs ys i w hn hm hn' hm' hr hr' hi h50 h50' hb h0
    · by_cases h1 : ((cnt xs : Nat) : Int) ≤ i
      · exact lback_c A A' n c n' c' xs ys i w hn hm hn' hm' hr hr' hi h50 h50' hb (by omega) h1
      · refine lback_d A A' n c n' c' xs ys i w hn hm hn' hm' hr hr' hi h50 h50' ?_
        rw [indB_cnt]
        have h2 : 0 ≤ i := by omega
        have h3 : i < ((cnt xs : Nat) : Int) := by omega
        simp only [h2, h3, decide_true, Bool.and_self]
end Go.Proofs.Ytbediaeaodjnmaa
