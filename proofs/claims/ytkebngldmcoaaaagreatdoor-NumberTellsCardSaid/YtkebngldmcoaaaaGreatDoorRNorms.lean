/-
  What the document's own Norm, Right and Of come to, called with any numbers.
-/
import Derived.Test.YtkebngldmcoaaaaGreatDoorProg
import Derived.Test.YtkebngldmcoaaaaGreatDoorDec
import Derived.Test.YtkebngldmcoaaaaGreatDoorNorms
import Derived.WalkKit
import Derived.ProofKit
import Derived.Lib.Hide
import Derived.Deep.LoopGhost
namespace Go.Proofs.YtkebngldmcoaaaaGreatDoor
open Go.RowKit

theorem norm_big {m e q : Int} {j : Nat} (hm : In m) (h : m = q * 10 ^ j) (hq : q ≠ 0) (hb : 32767 < e + j) : norm m e = ((0, 0), false) := by
  obtain ⟨q2, i, h2, hq2, _⟩ := parts_in (q_in hm h) hq
  have h3 : m = q2 * 10 ^ (i + j) := by rw [h, h2, Int.mul_assoc, ← Int.pow_add]
  have := j_le hm h3 (by omega)
  rw [norm_of h3 hq2 (by omega)]
  have : okExp (e + ((i + j : Nat) : Int)) = false := by simp [okExp]; omega
  rw [this]
  rfl

set_option maxRecDepth 10000 in
set_option maxHeartbeats 800000 in
theorem rnorm_any (m e : Int) (w : World) (hm : In m) (he : In e) :
    Calls Tryz.prog 53 #[.agg #[.int .i64 m, .int .i64 e]] w fun x w' =>
      x = .returned (.tuple #[.agg #[.int .i64 (norm m e).1.1, .int .i64 (norm m e).1.2], .bool (norm m e).2]) ∧ Grow w w' := by
  have hm1 := hm.1; have hm2 := hm.2; have he1 := he.1; have he2 := he.2
  have HM := Lib.hid hm
  clear hm he
  go_enter Tryz.func53, Tryz.ntmps53
  by_cases h0 : m = 0
  · subst h0
    go_wp2
    exact bodyPost_ret (v := .tuple #[.agg #[.int .i64 0, .int .i64 0], .bool true]) (by simp [results, Tryz.results53, go_sem]) rfl ⟨by rw [norm_zero], grow_new2 _ _ _⟩
  · have h0b : (m == 0) = false := by simpa using h0
    go_wp2
    go_loopg [] m.natAbs (fun gk wr => ∃ (q x : Int) (j : Nat), gk = q.natAbs ∧ Hid (m = q * 10 ^ j) ∧ q ≠ 0 ∧ -9223372036854775808 ≤ q ∧ q ≤ 9223372036854775807 ∧ Hid (x = e + j) ∧ -9223372036854775808 ≤ x ∧ x ≤ 9223372036854775807 ∧
      wr = (w.alloc (.cells #[.int .i64 q, .int .i64 x] 28)).alloc (.cells #[.int .i64 0, .int .i64 0] 28))
    case atStart => exact ⟨m, e, 0, rfl, Lib.hid (by simp), h0, hm1, hm2, Lib.hid (by simp), he1, he2, rfl⟩
    case round =>
      obtain ⟨q, x, j, rfl, HQ, hq, hq1, hq2, HX, hx1, hx2, rfl⟩ := hrel
      by_cases hbig : 32767 < x
      · have HN := Lib.hid (norm_big (e := e) HM.out HQ.out hq (by rw [← HX.out]; exact hbig))
        have hlo : ¬ x < -32768 := by omega
        have hle : ¬ x ≤ 32767 := by omega
        by_cases ht : q.tmod 10 = 0
        · go_wp2
          exact bodyPost_ret (v := .tuple #[.agg #[.int .i64 0, .int .i64 0], .bool false]) (by simp [results, Tryz.results53, go_sem]) rfl ⟨by rw [HN.out], grow_new2 _ _ _⟩
        · go_wp2
          exact bodyPost_ret (v := .tuple #[.agg #[.int .i64 0, .int .i64 0], .bool false]) (by simp [results, Tryz.results53, go_sem]) rfl ⟨by rw [HN.out], grow_new2 _ _ _⟩
      · by_cases h10 : q % 10 = 0
        · have ht : q.tmod 10 = 0 := (tmod_ten q).2 h10
          have hd : q.tdiv 10 = q / 10 := tdiv_ten h10
          obtain ⟨q', hq'⟩ : ∃ q', q / 10 = q' := ⟨_, rfl⟩
          have HR : Hid (m = q' * 10 ^ (j + 1)) := Lib.hid (by rw [HQ.out, Int.pow_succ, ← Int.mul_assoc]; rw [show q' * 10 ^ j * 10 = q' * 10 * 10 ^ j by rw [Int.mul_assoc, Int.mul_comm (10 ^ j) 10, ← Int.mul_assoc], show q' * 10 = q by omega])
          have hqn : q' ≠ 0 := by omega
          have hxx := HX.out
          rw [hq'] at hd
          have HXX : Hid (x + 1 = e + ((j + 1 : Nat) : Int)) := Lib.hid (by omega)
          have hlt : q'.natAbs < q.natAbs := by omega
          have hqa : -9223372036854775808 ≤ q' := by omega
          have hqb : q' ≤ 9223372036854775807 := by omega
          clear hxx h10 hq'
          go_wp2
          go_roundg q'.natAbs
          · exact ⟨q', x + 1, j + 1, rfl, HR, hqn, hqa, hqb, HXX, by omega, by omega, rfl⟩
          · exact hlt
        · have ht : ¬ q.tmod 10 = 0 := fun h => h10 ((tmod_ten q).1 h)
          have hj := j_le HM.out HQ.out hq
          have HN := Lib.hid (norm_of (e := e) HQ.out h10 (by omega))
          by_cases hlo : x < -32768
          · have hok : okExp (e + (j : Nat)) = false := by rw [← HX.out]; simp [okExp]; omega
            rw [hok] at HN
            have HN' := Lib.hid HN.out
            clear h10 hok HN
            go_wp2
            exact bodyPost_ret (v := .tuple #[.agg #[.int .i64 0, .int .i64 0], .bool false]) (by simp [results, Tryz.results53, go_sem]) rfl ⟨by rw [HN'.out]; rfl, grow_new2 _ _ _⟩
          · have hok : okExp (e + (j : Nat)) = true := by rw [← HX.out]; simp [okExp]; omega
            rw [hok] at HN
            have HN' := Lib.hid HN.out
            clear h10 hok HN
            go_wp2
            exact bodyPost_ret (v := .tuple #[.agg #[.int .i64 q, .int .i64 x], .bool true]) (by simp [results, Tryz.results53, go_sem]) rfl ⟨by rw [HN'.out, HX.out]; rfl, grow_new2 _ _ _⟩

set_option maxRecDepth 10000 in
set_option maxHeartbeats 800000 in
theorem rright_any (m e : Int) (w : World) (hm : In m) (he : In e) :
    Calls Tryz.prog 40 #[.agg #[.int .i64 m, .int .i64 e]] w fun x w' => x = .returned (.bool (rightB m e)) ∧ Grow w w' := by
  obtain ⟨r1, r2, b, hN⟩ : ∃ r1 r2 b, norm m e = ((r1, r2), b) := ⟨_, _, _, rfl⟩
  have HC : Hid (∀ W, Calls Tryz.prog 53 #[.agg #[.int .i64 m, .int .i64 e]] W fun x w' => x = .returned (.tuple #[.agg #[.int .i64 r1, .int .i64 r2], .bool b]) ∧ Grow W w') :=
    Lib.hid (fun W => by have h := rnorm_any m e W hm he; rw [hN] at h; exact h)
  have HN := Lib.hid hN
  clear hN
  go_enter Tryz.func40, Tryz.ntmps40
  go_wp2_with fail
  refine (HC.out _).mono ?_
  rintro x w1 ⟨rfl, hg⟩
  have hb := (boxed_new w (.int .i64 m) (.int .i64 e) 28).grow hg
  have hc0 : ∀ o, (w1.alloc o).cell? ⟨w.heap.size, 0, none⟩ = some (.int .i64 m) := fun o => (hb.grow (grow_new _ o)).fst
  have hc1 : ∀ o, (w1.alloc o).cell? ⟨w.heap.size, 1, none⟩ = some (.int .i64 e) := fun o => (hb.grow (grow_new _ o)).snd
  have HG := Lib.hid ((grow_new w _).trans hg)
  clear hb hg HC
  cases b
  · go_wp2
    go_ret
    exact ⟨by unfold rightB; rw [HN.out]; simp, HG.out.trans (grow_new _ _)⟩
  · by_cases h1 : r1 = m
    · subst h1
      by_cases h2 : r2 = e
      · subst h2
        go_wp2
        go_ret
        exact ⟨by unfold rightB; rw [HN.out]; simp, HG.out.trans (grow_new _ _)⟩
      · have h2' : (r2 == e) = false := by simpa using h2
        go_wp2
        go_ret
        exact ⟨by unfold rightB; rw [HN.out]; simp [h2], HG.out.trans (grow_new _ _)⟩
    · have h1' : (r1 == m) = false := by simpa using h1
      go_wp2
      all_goals
        go_ret
        exact ⟨by unfold rightB; rw [HN.out]; simp [h1], HG.out.trans (grow_new _ _)⟩
end Go.Proofs.YtkebngldmcoaaaaGreatDoor
