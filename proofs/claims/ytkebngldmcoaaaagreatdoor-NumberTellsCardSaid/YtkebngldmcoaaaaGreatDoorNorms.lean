/-
  What decimal.Norm, Right and Of come to, called with any numbers.
-/
import Derived.Test.YtkebngldmcoaaaaGreatDoorProg
import Derived.Test.YtkebngldmcoaaaaGreatDoorDec
import Derived.Test.YtkebngldmcoaaaaGreatDoorBox
import Derived.WalkKit
import Derived.ProofKit
import Derived.Lib.Hide
import Derived.Deep.LoopGhost
namespace Go.Proofs.YtkebngldmcoaaaaGreatDoor
open Go.RowKit

theorem tmod_ten (q : Int) : (q.tmod 10 = 0) ↔ q % 10 = 0 := by
  constructor
  · intro h
    have := Int.tmod_add_mul_tdiv q 10
    omega
  · intro h
    exact Int.tmod_eq_zero_of_dvd (by omega)

theorem tdiv_ten {q : Int} (h : q % 10 = 0) : q.tdiv 10 = q / 10 := Int.tdiv_eq_ediv_of_dvd (by omega)

set_option maxRecDepth 10000 in
set_option maxHeartbeats 800000 in
theorem norm_any (m e : Int) (w : World) (hm : In m) (he : In e) :
    Calls Tryz.prog 38 #[.agg #[.int .i64 m, .int .i64 e]] w fun x w' =>
      x = .returned (.tuple #[.agg #[.int .i64 (norm m e).1.1, .int .i64 (norm m e).1.2], .bool (norm m e).2]) ∧ Grow w w' := by
  have hm1 := hm.1; have hm2 := hm.2; have he1 := he.1; have he2 := he.2
  have HM := Lib.hid hm
  clear hm he
  go_enter Tryz.func38, Tryz.ntmps38
  by_cases h0 : m = 0
  · subst h0
    go_wp2
    exact bodyPost_ret (v := .tuple #[.agg #[.int .i64 0, .int .i64 0], .bool true]) (by simp [results, Tryz.results38, go_sem]) rfl ⟨by rw [norm_zero], grow_new2 _ _ _⟩
  · by_cases hbig : 32767 < e
    · go_wp2
      obtain ⟨q, j, hq, hq0, hj⟩ := parts_in HM.out h0
      have hn : norm m e = ((0, 0), false) := by
        rw [norm_of hq hq0 (by omega)]
        have : okExp (e + (j : Nat)) = false := by simp [okExp]; omega
        rw [this]; rfl
      exact bodyPost_ret (v := .tuple #[.agg #[.int .i64 0, .int .i64 0], .bool false]) (by simp [results, Tryz.results38, go_sem]) rfl ⟨by rw [hn], grow_new2 _ _ _⟩
    · go_wp2
      go_loopg [] m.natAbs (fun gk wr => ∃ (q x : Int) (j : Nat), gk = q.natAbs ∧ Hid (m = q * 10 ^ j) ∧ q ≠ 0 ∧ -9223372036854775808 ≤ q ∧ q ≤ 9223372036854775807 ∧ Hid (x = e + j) ∧ -9223372036854775808 ≤ x ∧ x ≤ 32785 ∧
        wr = (w.alloc (.cells #[.int .i64 q, .int .i64 x] 28)).alloc (.cells #[.int .i64 0, .int .i64 0] 28))
      case atStart => exact ⟨m, e, 0, rfl, Lib.hid (by simp), h0, hm1, hm2, Lib.hid (by simp), he1, by omega, rfl⟩
      case round =>
        obtain ⟨q, x, j, rfl, HQ, hq, hq1, hq2, HX, hx1, hx2, rfl⟩ := hrel
        by_cases h10 : q % 10 = 0
        · have ht : q.tmod 10 = 0 := (tmod_ten q).2 h10
          have hd : q.tdiv 10 = q / 10 := tdiv_ten h10
          obtain ⟨q', hq'⟩ : ∃ q', q / 10 = q' := ⟨_, rfl⟩
          have HR : Hid (m = q' * 10 ^ (j + 1)) := Lib.hid (by rw [HQ.out, Int.pow_succ, ← Int.mul_assoc]; rw [show q' * 10 ^ j * 10 = q' * 10 * 10 ^ j by rw [Int.mul_assoc, Int.mul_comm (10 ^ j) 10, ← Int.mul_assoc], show q' * 10 = q by omega])
          have hqn : q' ≠ 0 := by omega
          have hj := j_le HM.out HR.out hqn
          have hxx := HX.out
          rw [hq'] at hd
          have HXX : Hid (x + 1 = e + ((j + 1 : Nat) : Int)) := Lib.hid (by omega)
          have hx3 : x + 1 ≤ 32785 := by omega
          have hlt : q'.natAbs < q.natAbs := by omega
          have hqa : -9223372036854775808 ≤ q' := by omega
          have hqb : q' ≤ 9223372036854775807 := by omega
          clear hxx h10 hq'
          go_wp2
          go_roundg q'.natAbs
          · exact ⟨q', x + 1, j + 1, rfl, HR, hqn, hqa, hqb, HXX, by omega, hx3, rfl⟩
          · exact hlt
        · have ht : ¬ q.tmod 10 = 0 := fun h => h10 ((tmod_ten q).1 h)
          have hj := j_le HM.out HQ.out hq
          have HN := Lib.hid (norm_of (e := e) HQ.out h10 (by omega))
          by_cases hlo : x < -32768
          · have hok : okExp (e + (j : Nat)) = false := by rw [← HX.out]; simp [okExp]; omega
            rw [hok] at HN
            have HN' := Lib.hid HN.out
            clear h10 hok HN
            go_wp2
            exact bodyPost_ret (v := .tuple #[.agg #[.int .i64 0, .int .i64 0], .bool false]) (by simp [results, Tryz.results38, go_sem]) rfl ⟨by rw [HN'.out]; rfl, grow_new2 _ _ _⟩
          · by_cases hhi : 32767 < x
            · have hok : okExp (e + (j : Nat)) = false := by rw [← HX.out]; simp [okExp]; omega
              rw [hok] at HN
              have HN' := Lib.hid HN.out
              clear h10 hok HN
              go_wp2
              exact bodyPost_ret (v := .tuple #[.agg #[.int .i64 0, .int .i64 0], .bool false]) (by simp [results, Tryz.results38, go_sem]) rfl ⟨by rw [HN'.out]; rfl, grow_new2 _ _ _⟩
            · have hok : okExp (e + (j : Nat)) = true := by rw [← HX.out]; simp [okExp]; omega
              rw [hok] at HN
              have HN' := Lib.hid HN.out
              clear h10 hok HN
              go_wp2
              exact bodyPost_ret (v := .tuple #[.agg #[.int .i64 q, .int .i64 x], .bool true]) (by simp [results, Tryz.results38, go_sem]) rfl ⟨by rw [HN'.out, HX.out]; rfl, grow_new2 _ _ _⟩

set_option maxRecDepth 10000 in
set_option maxHeartbeats 800000 in
theorem right_any (m e : Int) (w : World) (hm : In m) (he : In e) :
    Calls Tryz.prog 21 #[.agg #[.int .i64 m, .int .i64 e]] w fun x w' => x = .returned (.bool (rightB m e)) ∧ Grow w w' := by
  obtain ⟨r1, r2, b, hN⟩ : ∃ r1 r2 b, norm m e = ((r1, r2), b) := ⟨_, _, _, rfl⟩
  have HC : Hid (∀ W, Calls Tryz.prog 38 #[.agg #[.int .i64 m, .int .i64 e]] W fun x w' => x = .returned (.tuple #[.agg #[.int .i64 r1, .int .i64 r2], .bool b]) ∧ Grow W w') :=
    Lib.hid (fun W => by have h := norm_any m e W hm he; rw [hN] at h; exact h)
  have HN := Lib.hid hN
  clear hN
  go_enter Tryz.func21, Tryz.ntmps21
  go_wp2_with fail
  refine (HC.out _).mono ?_
  rintro x w1 ⟨rfl, hg⟩
  have hb := (boxed_new w (.int .i64 m) (.int .i64 e) 28).grow hg
  have hc0 : ∀ o, (w1.alloc o).cell? ⟨w.heap.size, 0, none⟩ = some (.int .i64 m) := fun o => (hb.grow (grow_new _ o)).fst
  have hc1 : ∀ o, (w1.alloc o).cell? ⟨w.heap.size, 1, none⟩ = some (.int .i64 e) := fun o => (hb.grow (grow_new _ o)).snd
  have HG := Lib.hid ((grow_new w _).trans hg)
  clear hb hg HC
  cases b
  · go_wp2
    go_ret
    exact ⟨by unfold rightB; rw [HN.out]; simp, HG.out.trans (grow_new _ _)⟩
  · by_cases h1 : r1 = m
    · subst h1
      by_cases h2 : r2 = e
      · subst h2
        go_wp2
        go_ret
        exact ⟨by unfold rightB; rw [HN.out]; simp, HG.out.trans (grow_new _ _)⟩
      · have h2' : (r2 == e) = false := by simpa using h2
        go_wp2
        go_ret
        exact ⟨by unfold rightB; rw [HN.out]; simp [h2], HG.out.trans (grow_new _ _)⟩
    · have h1' : (r1 == m) = false := by simpa using h1
      go_wp2
      all_goals
        go_ret
        exact ⟨by unfold rightB; rw [HN.out]; simp [h1], HG.out.trans (grow_new _ _)⟩

set_option maxRecDepth 10000 in
set_option maxHeartbeats 800000 in
theorem of_any (n : Int) (w : World) (hn : In n) :
    Calls Tryz.prog 31 #[.int .i64 n] w fun x w' => x = .returned (.agg #[.int .i64 (norm n 0).1.1, .int .i64 (norm n 0).1.2]) ∧ Grow w w' := by
  obtain ⟨r1, r2, b, hN⟩ : ∃ r1 r2 b, norm n 0 = ((r1, r2), b) := ⟨_, _, _, rfl⟩
  have HC : Hid (∀ W, Calls Tryz.prog 38 #[.agg #[.int .i64 n, .int .i64 0]] W fun x w' => x = .returned (.tuple #[.agg #[.int .i64 r1, .int .i64 r2], .bool b]) ∧ Grow W w') :=
    Lib.hid (fun W => by have h := norm_any n 0 W hn (by constructor <;> decide); rw [hN] at h; exact h)
  rw [hN]
  clear hN
  go_enter Tryz.func31, Tryz.ntmps31
  go_wp2_with fail
  refine (HC.out _).mono ?_
  rintro x w1 ⟨rfl, hg⟩
  have hb := (boxed_new w (.int .i64 0) (.int .i64 0) 28).grow hg
  have hc0 : ∀ o, (w1.alloc o).cell? ⟨w.heap.size, 0, none⟩ = some (.int .i64 0) := fun o => (hb.grow (grow_new _ o)).fst
  have hc1 : ∀ o, (w1.alloc o).cell? ⟨w.heap.size, 1, none⟩ = some (.int .i64 0) := fun o => (hb.grow (grow_new _ o)).snd
  have hf : ∀ o j, (w1.alloc o).frozen? ⟨w.heap.size, j, none⟩ = false := fun o j => (hb.grow (grow_new _ o)).froz j
  have HG := Lib.hid ((grow_new w _).trans hg)
  have HB := Lib.hid hb
  clear HC hb hg
  go_wp2
  have hr := ((HB.out.grow (grow_new _ (.cells #[.int .i64 r1, .int .i64 r2] 28))).put0 (.int .i64 r1)).put1 (.int .i64 r2)
  exact bodyPost_ret (v := .agg #[.int .i64 r1, .int .i64 r2]) (by simp [results, Tryz.results31, go_sem, hr.fst, hr.snd]) rfl
    ⟨rfl, ((HG.out.trans (grow_new _ _)).put (Nat.le_refl _) 0 _).put (Nat.le_refl _) 1 _⟩
end Go.Proofs.YtkebngldmcoaaaaGreatDoor
