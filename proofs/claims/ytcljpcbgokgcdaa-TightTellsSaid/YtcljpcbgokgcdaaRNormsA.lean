/-
  RNorms, Wholes, RCount, one behind the other.
-/
import Derived.Test.YtcljpcbgokgcdaaProg
import Derived.Test.YtcljpcbgokgcdaaBase
import Derived.Test.YtcljpcbgokgcdaaNorms
import Derived.WalkKit
import Derived.ProofKit
import Derived.Lib.Hide
import Derived.Deep.LoopGhost
section
/-
  What the document's own Norm, RightD and Of come to, called with any numbers.
-/
namespace Go.Proofs.Ytcljpcbgokgcdaa
open Go.RowKit

theorem norm_big {m e q : Int} {j : Nat} (hm : In m) (h : m = q * 10 ^ j) (hq : q ≠ 0) (hb : 32767 < e + j) : norm m e = ((0, 0), false) := by
  obtain ⟨q2, i, h2, hq2, _⟩ := parts_in (q_in hm h) hq
  have h3 : m = q2 * 10 ^ (i + j) := by rw [h, h2, Int.mul_assoc, ← Int.pow_add]
  have := j_le hm h3 (by omega)
  rw [norm_of h3 hq2 (by omega)]
  have : okExp (e + ((i + j : Nat) : Int)) = false := by simp [okExp]; omega
  rw [this]
  rfl

set_option maxRecDepth 10000 in
set_option maxHeartbeats 800000 in
theorem rnorm_any (m e : Int) (w : World) (hm : In m) (he : In e) :
    Calls Try.prog 58 #[.agg #[.int .i64 m, .int .i64 e]] w fun x w' =>
      x = .returned (.tuple #[.agg #[.int .i64 (norm m e).1.1, .int .i64 (norm m e).1.2], .bool (norm m e).2]) ∧ Grow w w' := by
  have hm1 := hm.1; have hm2 := hm.2; have he1 := he.1; have he2 := he.2
  have HM := Lib.hid hm
  clear hm he
  go_enter Try.func58, Try.ntmps58
  by_cases h0 : m = 0
  · subst h0
    go_wp2
    exact bodyPost_ret (v := .tuple #[.agg #[.int .i64 0, .int .i64 0], .bool true]) (by simp [results, Try.results58, go_sem]) rfl ⟨by rw [norm_zero], grow_new2 _ _ _⟩
  · have h0b : (m == 0) = false := by simpa using h0
    go_wp2
    go_loopg [] m.natAbs (fun gk wr => ∃ (q x : Int) (j : Nat), gk = q.natAbs ∧ Hid (m = q * 10 ^ j) ∧ q ≠ 0 ∧ -9223372036854775808 ≤ q ∧ q ≤ 9223372036854775807 ∧ Hid (x = e + j) ∧ -9223372036854775808 ≤ x ∧ x ≤ 9223372036854775807 ∧
      wr = (w.alloc (.cells #[.int .i64 q, .int .i64 x] 42)).alloc (.cells #[.int .i64 0, .int .i64 0] 42))
    case atStart => exact ⟨m, e, 0, rfl, Lib.hid (by simp), h0, hm1, hm2, Lib.hid (by simp), he1, he2, rfl⟩
    case round =>
      obtain ⟨q, x, j, rfl, HQ, hq, hq1, hq2, HX, hx1, hx2, rfl⟩ := hrel
      by_cases hbig : 32767 < x
      · have HN := Lib.hid (norm_big (e := e) HM.out HQ.out hq (by rw [← HX.out]; exact hbig))
        have hlo : ¬ x < -32768 := by omega
        have hle : ¬ x ≤ 32767 := by omega
        by_cases ht : q.tmod 10 = 0
        · go_wp2
          exact bodyPost_ret (v := .tuple #[.agg #[.int .i64 0, .int .i64 0], .bool false]) (by simp [results, Try.results58, go_sem]) rfl ⟨by rw [HN.out], grow_new2 _ _ _⟩
        · go_wp2
          exact bodyPost_ret (v := .tuple #[.agg #[.int .i64 0, .int .i64 0], .bool false]) (by simp [results, Try.results58, go_sem]) rfl ⟨by rw [HN.out], grow_new2 _ _ _⟩
      · by_cases h10 : q % 10 = 0
        · have ht : q.tmod 10 = 0 := (tmod_ten q).2 h10
          have hd : q.tdiv 10 = q / 10 := tdiv_ten h10
          obtain ⟨q', hq'⟩ : ∃ q', q / 10 = q' := ⟨_, rfl⟩
          have HR : Hid (m = q' * 10 ^ (j + 1)) := Lib.hid (by rw [HQ.out, Int.pow_succ, ← Int.mul_assoc]; rw [show q' * 10 ^ j * 10 = q' * 10 * 10 ^ j by rw [Int.mul_assoc, Int.mul_comm (10 ^ j) 10, ← Int.mul_assoc], show q' * 10 = q by omega])
          have hqn : q' ≠ 0 := by omega
          have hxx := HX.out
          rw [hq'] at hd
          have HXX : Hid (x + 1 = e + ((j + 1 : Nat) : Int)) := Lib.hid (by omega)
          have hlt : q'.natAbs < q.natAbs := by omega
          have hqa : -9223372036854775808 ≤ q' := by omega
          have hqb : q' ≤ 9223372036854775807 := by omega
          clear hxx h10 hq'
          go_wp2
          go_roundg q'.natAbs
          · exact ⟨q', x + 1, j + 1, rfl, HR, hqn, hqa, hqb, HXX, by omega, by omega, rfl⟩
          · exact hlt
        · have ht : ¬ q.tmod 10 = 0 := fun h => h10 ((tmod_ten q).1 h)
          have hj := j_le HM.out HQ.out hq
          have HN := Lib.hid (norm_of (e := e) HQ.out h10 (by omega))
          by_cases hlo : x < -32768
          · have hok : okExp (e + (j : Nat)) = false := by rw [← HX.out]; simp [okExp]; omega
            rw [hok] at HN
            have HN' := Lib.hid HN.out
            clear h10 hok HN
            go_wp2
            exact bodyPost_ret (v := .tuple #[.agg #[.int .i64 0, .int .i64 0], .bool false]) (by simp [results, Try.results58, go_sem]) rfl ⟨by rw [HN'.out]; rfl, grow_new2 _ _ _⟩
          · have hok : okExp (e + (j : Nat)) = true := by rw [← HX.out]; simp [okExp]; omega
            rw [hok] at HN
            have HN' := Lib.hid HN.out
            clear h10 hok HN
            go_wp2
            exact bodyPost_ret (v := .tuple #[.agg #[.int .i64 q, .int .i64 x], .bool true]) (by simp [results, Try.results58, go_sem]) rfl ⟨by rw [HN'.out, HX.out]; rfl, grow_new2 _ _ _⟩

set_option maxRecDepth 10000 in
set_option maxHeartbeats 800000 in
theorem rright_any (m e : Int) (w : World) (hm : In m) (he : In e) :
    Calls Try.prog 37 #[.agg #[.int .i64 m, .int .i64 e]] w fun x w' => x = .returned (.bool (rightD m e)) ∧ Grow w w' := by
  obtain ⟨r1, r2, b, hN⟩ : ∃ r1 r2 b, norm m e = ((r1, r2), b) := ⟨_, _, _, rfl⟩
  have HC : Hid (∀ W, Calls Try.prog 58 #[.agg #[.int .i64 m, .int .i64 e]] W fun x w' => x = .returned (.tuple #[.agg #[.int .i64 r1, .int .i64 r2], .bool b]) ∧ Grow W w') :=
    Lib.hid (fun W => by have h := rnorm_any m e W hm he; rw [hN] at h; exact h)
  have HN := Lib.hid hN
  clear hN
  go_enter Try.func37, Try.ntmps37
  go_wp2_with fail
  refine (HC.out _).mono ?_
  rintro x w1 ⟨rfl, hg⟩
  have hb := (boxed_new w (.int .i64 m) (.int .i64 e) 42).grow hg
  have hc0 : ∀ o, (w1.alloc o).cell? ⟨w.heap.size, 0, none⟩ = some (.int .i64 m) := fun o => (hb.grow (grow_new _ o)).fst
  have hc1 : ∀ o, (w1.alloc o).cell? ⟨w.heap.size, 1, none⟩ = some (.int .i64 e) := fun o => (hb.grow (grow_new _ o)).snd
  have HG := Lib.hid ((grow_new w _).trans hg)
  clear hb hg HC
  cases b
  · go_wp2
    go_ret
    exact ⟨by unfold rightD; rw [HN.out]; simp, HG.out.trans (grow_new _ _)⟩
  · by_cases h1 : r1 = m
    · subst h1
      by_cases h2 : r2 = e
      · subst h2
        go_wp2
        go_ret
        exact ⟨by unfold rightD; rw [HN.out]; simp, HG.out.trans (grow_new _ _)⟩
      · have h2' : (r2 == e) = false := by simpa using h2
        go_wp2
        go_ret
        exact ⟨by unfold rightD; rw [HN.out]; simp [h2], HG.out.trans (grow_new _ _)⟩
    · have h1' : (r1 == m) = false := by simpa using h1
      go_wp2
      all_goals
        go_ret
        exact ⟨by unfold rightD; rw [HN.out]; simp [h1], HG.out.trans (grow_new _ _)⟩
end Go.Proofs.Ytcljpcbgokgcdaa
end

section
/-
  What decimal.Whole and the document's own Whole come to.
-/
namespace Go.Proofs.Ytcljpcbgokgcdaa
open Go.RowKit

instance (n : Int) : Decidable (In n) := by unfold In; exact inferInstance

def wholeD (m e : Int) : Int × Bool := if rightD m e = true ∧ 0 ≤ e ∧ In (m * 10 ^ e.toNat) then (m * 10 ^ e.toNat, true) else (0, false)

theorem far {n : Int} (k : Nat) (h : ¬ In n) : ¬ In (n * 10 ^ k) := by
  intro hi
  exact h (q_in hi rfl)

theorem whole_not {m e n : Int} {i E : Nat} (hn : n = m * 10 ^ i) (hE : e = (E : Nat)) (hi : i < E) (h : ¬ In (n * 10)) : wholeD m e = (0, false) := by
  unfold wholeD
  rw [if_neg]
  rintro ⟨_, _, hin⟩
  subst hE
  rw [Int.toNat_natCast, show E = (i + 1) + (E - (i + 1)) by omega, Int.pow_add, ← Int.mul_assoc, Int.pow_succ, ← Int.mul_assoc, ← hn] at hin
  exact far _ h hin

theorem whole_yes {m e n : Int} {E : Nat} (hr : rightD m e = true) (hE : e = (E : Nat)) (hn : n = m * 10 ^ E) (hin : In n) : wholeD m e = (n, true) := by
  subst hE
  unfold wholeD
  rw [Int.toNat_natCast, ← hn, if_pos ⟨hr, by omega, hin⟩]

theorem whole_wrong {m e : Int} (h : rightD m e = false ∨ e < 0) : wholeD m e = (0, false) := by
  unfold wholeD
  rw [if_neg]
  rintro ⟨h1, h2, _⟩
  rcases h with h | h
  · rw [h] at h1; cases h1
  · omega

set_option maxRecDepth 10000 in
set_option maxHeartbeats 800000 in
theorem dwhole_any (m e : Int) (w : World) (hm : In m) (he : In e) :
    Calls Try.prog 56 #[.agg #[.int .i64 m, .int .i64 e]] w fun x w' => x = .returned (.tuple #[.int .i64 (wholeD m e).1, .bool (wholeD m e).2]) ∧ Grow w w' := by
  have HC := Lib.hid (fun W => right_any m e W hm he)
  have hm1 := hm.1; have hm2 := hm.2; have he1 := he.1; have he2 := he.2
  clear hm he
  go_enter Try.func56, Try.ntmps56
  go_wp2_with fail
  refine (HC.out _).mono ?_
  rintro x w1 ⟨rfl, hg⟩
  have hb := (boxed_new w (.int .i64 m) (.int .i64 e) 42).grow hg
  have hc0 := hb.fst
  have hc1 := hb.snd
  have HG := Lib.hid ((grow_new w _).trans hg)
  clear hb hg HC
  obtain ⟨r, hr⟩ : ∃ r, rightD m e = r := ⟨_, rfl⟩
  rw [hr]
  cases r
  · have HW := Lib.hid (whole_wrong (.inl hr))
    clear hr
    go_wp2
    go_ret2
    exact ⟨by rw [HW.out]; rfl, HG.out⟩
  · by_cases hneg : e < 0
    · have HW := Lib.hid (whole_wrong (m := m) (.inr hneg))
      clear hr
      go_wp2
      go_ret2
      exact ⟨by rw [HW.out]; rfl, HG.out⟩
    · obtain ⟨E, rfl⟩ := Int.eq_ofNat_of_zero_le (show 0 ≤ e by omega)
      have HR := Lib.hid hr
      clear hr
      go_wp2
      go_loopg [4, 17] E (fun gk s4 s17 wr => ∃ (n : Int) (i : Nat), gk = E - i ∧ i ≤ E ∧ s4 = .int .i64 n ∧ s17 = .int .i64 i ∧ Hid (n = m * 10 ^ i) ∧ -9223372036854775808 ≤ n ∧ n ≤ 9223372036854775807 ∧ w1 = wr)
      case atStart => exact ⟨m, 0, rfl, by omega, rfl, rfl, Lib.hid (by simp), hm1, hm2, rfl⟩
      case round =>
        obtain ⟨n, i, rfl, hiE, rfl, rfl, HN, hn1, hn2, rfl⟩ := hrel
        by_cases hlt : i < E
        · by_cases hhi : 922337203685477580 < n
          · have HW := Lib.hid (whole_not HN.out rfl hlt (fun h => by have := h.2; omega))
            go_wp2
            go_ret2
            exact ⟨by rw [HW.out]; rfl, HG.out⟩
          · by_cases hlo : n < -922337203685477580
            · have HW := Lib.hid (whole_not HN.out rfl hlt (fun h => by have := h.1; omega))
              go_wp2
              go_ret2
              exact ⟨by rw [HW.out]; rfl, HG.out⟩
            · have HN' : Hid (n * 10 = m * 10 ^ (i + 1)) := Lib.hid (by rw [HN.out, Int.pow_succ, Int.mul_assoc])
              have hE9 : (E : Int) ≤ 9223372036854775807 := he2
              go_wp2
              go_roundg (E - (i + 1))
              · exact ⟨n * 10, i + 1, rfl, hlt, rfl, rfl, HN', by omega, by omega, rfl⟩
              · omega
        · have hi : i = E := by omega
          subst hi
          have HW := Lib.hid (whole_yes HR.out rfl HN.out ⟨hn1, hn2⟩)
          clear hlt
          go_wp2
          go_ret2
          exact ⟨by rw [HW.out]; rfl, HG.out⟩

theorem whole_far {m e : Int} (hm : In m) (he : 18 < e) : wholeD m e = (0, false) := by
  unfold wholeD
  rw [if_neg]
  rintro ⟨hr, _, hin⟩
  have hq : m ≠ 0 := by
    intro h0
    subst h0
    rcases (rightD_iff hm).1 hr with ⟨_, h⟩ | ⟨h, _⟩ <;> omega
  have := j_le hin rfl hq
  omega

set_option maxRecDepth 10000 in
set_option maxHeartbeats 800000 in
theorem rwhole_any (m e : Int) (w : World) (hm : In m) (he : In e) :
    Calls Try.prog 38 #[.agg #[.int .i64 m, .int .i64 e]] w fun x w' => x = .returned (.tuple #[.int .i64 (wholeD m e).1, .bool (wholeD m e).2]) ∧ Grow w w' := by
  have HC := Lib.hid (fun W => rright_any m e W hm he)
  have HM := Lib.hid hm
  have hm1 := hm.1; have hm2 := hm.2; have he1 := he.1; have he2 := he.2
  clear hm he
  go_enter Try.func38, Try.ntmps38
  go_wp2_with fail
  refine (HC.out _).mono ?_
  rintro x w1 ⟨rfl, hg⟩
  have hb := (boxed_new w (.int .i64 m) (.int .i64 e) 42).grow hg
  have hc0 := hb.fst
  have hc1 := hb.snd
  have HG := Lib.hid ((grow_new w _).trans hg)
  clear hb hg HC
  obtain ⟨r, hr⟩ : ∃ r, rightD m e = r := ⟨_, rfl⟩
  rw [hr]
  cases r
  · have HW := Lib.hid (whole_wrong (.inl hr))
    clear hr
    go_wp2
    go_ret2
    exact ⟨by rw [HW.out]; rfl, HG.out⟩
  · by_cases hneg : e < 0
    · have HW := Lib.hid (whole_wrong (m := m) (.inr hneg))
      clear hr
      go_wp2
      go_ret2
      exact ⟨by rw [HW.out]; rfl, HG.out⟩
    · by_cases hfar : 18 < e
      · have HW := Lib.hid (whole_far HM.out hfar)
        clear hr
        go_wp2
        go_ret2
        exact ⟨by rw [HW.out]; rfl, HG.out⟩
      · obtain ⟨E, rfl⟩ := Int.eq_ofNat_of_zero_le (show 0 ≤ e by omega)
        have HR := Lib.hid hr
        have hE18 : E ≤ 18 := by omega
        clear hr
        go_wp2
        go_loopg [4, 5] E (fun gk s4 s5 wr => ∃ (n : Int) (i : Nat), gk = E - i ∧ i ≤ E ∧ s4 = .int .i64 n ∧ s5 = .int .i64 i ∧ Hid (n = m * 10 ^ i) ∧ -9223372036854775808 ≤ n ∧ n ≤ 9223372036854775807 ∧ w1 = wr)
        case atStart => exact ⟨m, 0, rfl, by omega, rfl, rfl, Lib.hid (by simp), hm1, hm2, rfl⟩
        case round =>
          obtain ⟨n, i, rfl, hiE, rfl, rfl, HN, hn1, hn2, rfl⟩ := hrel
          by_cases hlt : i < E
          · by_cases hhi : 922337203685477580 < n
            · have HW := Lib.hid (whole_not HN.out rfl hlt (fun h => by have := h.2; omega))
              go_wp2
              go_ret2
              exact ⟨by rw [HW.out]; rfl, HG.out⟩
            · by_cases hlo : n < -922337203685477580
              · have HW := Lib.hid (whole_not HN.out rfl hlt (fun h => by have := h.1; omega))
                go_wp2
                go_ret2
                exact ⟨by rw [HW.out]; rfl, HG.out⟩
              · have HN' : Hid (10 * n = m * 10 ^ (i + 1)) := Lib.hid (by rw [HN.out, Int.pow_succ, Int.mul_comm, Int.mul_assoc])
                go_wp2
                go_roundg (E - (i + 1))
                · exact ⟨10 * n, i + 1, rfl, hlt, rfl, rfl, HN', by omega, by omega, rfl⟩
                · omega
          · have hi : i = E := by omega
            subst hi
            have HW := Lib.hid (whole_yes HR.out rfl HN.out ⟨hn1, hn2⟩)
            clear hlt
            go_wp2
            go_ret2
            exact ⟨by rw [HW.out]; rfl, HG.out⟩
set_option maxRecDepth 10000 in
set_option maxHeartbeats 800000 in
theorem of_any (n : Int) (w : World) (hn : In n) :
    Calls Try.prog 24 #[.int .i64 n] w fun x w' => x = .returned (.agg #[.int .i64 (norm n 0).1.1, .int .i64 (norm n 0).1.2]) ∧ Grow w w' := by
  obtain ⟨r1, r2, b, hN⟩ : ∃ r1 r2 b, norm n 0 = ((r1, r2), b) := ⟨_, _, _, rfl⟩
  have HC : Hid (∀ W, Calls Try.prog 43 #[.agg #[.int .i64 n, .int .i64 0]] W fun x w' => x = .returned (.tuple #[.agg #[.int .i64 r1, .int .i64 r2], .bool b]) ∧ Grow W w') :=
    Lib.hid (fun W => by have h := norm_any n 0 W hn (by constructor <;> decide); rw [hN] at h; exact h)
  rw [hN]
  clear hN
  go_enter Try.func24, Try.ntmps24
  go_wp2_with fail
  refine (HC.out _).mono ?_
  rintro x w1 ⟨rfl, hg⟩
  have hb := (boxed_new w (.int .i64 0) (.int .i64 0) 42).grow hg
  have hc0 : ∀ o, (w1.alloc o).cell? ⟨w.heap.size, 0, none⟩ = some (.int .i64 0) := fun o => (hb.grow (grow_new _ o)).fst
  have hc1 : ∀ o, (w1.alloc o).cell? ⟨w.heap.size, 1, none⟩ = some (.int .i64 0) := fun o => (hb.grow (grow_new _ o)).snd
  have hf : ∀ o j, (w1.alloc o).frozen? ⟨w.heap.size, j, none⟩ = false := fun o j => (hb.grow (grow_new _ o)).froz j
  have HG := Lib.hid ((grow_new w _).trans hg)
  have HB := Lib.hid hb
  clear HC hb hg
  go_wp2
  have hr := ((HB.out.grow (grow_new _ (.cells #[.int .i64 r1, .int .i64 r2] 42))).put0 (.int .i64 r1)).put1 (.int .i64 r2)
  exact bodyPost_ret (v := .agg #[.int .i64 r1, .int .i64 r2]) (by simp [results, Try.results24, go_sem, hr.fst, hr.snd]) rfl
    ⟨rfl, ((HG.out.trans (grow_new _ _)).put (Nat.le_refl _) 0 _).put (Nat.le_refl _) 1 _⟩
set_option maxRecDepth 10000 in
set_option maxHeartbeats 800000 in
theorem rof_any (n : Int) (w : World) (hn : In n) :
    Calls Try.prog 70 #[.int .i64 n] w fun x w' => x = .returned (.agg #[.int .i64 (norm n 0).1.1, .int .i64 (norm n 0).1.2]) ∧ Grow w w' := by
  obtain ⟨r1, r2, b, hN⟩ : ∃ r1 r2 b, norm n 0 = ((r1, r2), b) := ⟨_, _, _, rfl⟩
  have HC : Hid (∀ W, Calls Try.prog 58 #[.agg #[.int .i64 n, .int .i64 0]] W fun x w' => x = .returned (.tuple #[.agg #[.int .i64 r1, .int .i64 r2], .bool b]) ∧ Grow W w') :=
    Lib.hid (fun W => by have h := rnorm_any n 0 W hn (by constructor <;> decide); rw [hN] at h; exact h)
  rw [hN]
  clear hN
  go_enter Try.func70, Try.ntmps70
  go_wp2_with fail
  refine (HC.out _).mono ?_
  rintro x w1 ⟨rfl, hg⟩
  have hb := (boxed_new w (.int .i64 0) (.int .i64 0) 42).grow hg
  have hc0 : ∀ o, (w1.alloc o).cell? ⟨w.heap.size, 0, none⟩ = some (.int .i64 0) := fun o => (hb.grow (grow_new _ o)).fst
  have hc1 : ∀ o, (w1.alloc o).cell? ⟨w.heap.size, 1, none⟩ = some (.int .i64 0) := fun o => (hb.grow (grow_new _ o)).snd
  have hf : ∀ o j, (w1.alloc o).frozen? ⟨w.heap.size, j, none⟩ = false := fun o j => (hb.grow (grow_new _ o)).froz j
  have HG := Lib.hid ((grow_new w _).trans hg)
  have HB := Lib.hid hb
  clear HC hb hg
  go_wp2
  have hr := ((HB.out.grow (grow_new _ (.cells #[.int .i64 r1, .int .i64 r2] 42))).put0 (.int .i64 r1)).put1 (.int .i64 r2)
  exact bodyPost_ret (v := .agg #[.int .i64 r1, .int .i64 r2]) (by simp [results, Try.results70, go_sem, hr.fst, hr.snd]) rfl
    ⟨rfl, ((HG.out.trans (grow_new _ _)).put (Nat.le_refl _) 0 _).put (Nat.le_refl _) 1 _⟩
theorem of_parts {n : Int} (hn : In n) : ∃ q j, norm n 0 = ((q, j), true) ∧ In q ∧ In j ∧ rightD q j = true ∧ wholeD q j = (n, true) := by
  obtain ⟨⟨⟨q, j⟩, b⟩, h⟩ : ∃ r, norm n 0 = r := ⟨_, rfl⟩
  have h1 := norm_of_int hn
  have h2 := norm_in (e := 0) hn
  have h3 := norm_exp_in (e := 0) hn
  have h4 := rightD_of (norm_right (e := 0) hn h1)
  rw [h] at h1 h2 h3 h4
  simp only at h1 h2 h3 h4
  subst h1
  refine ⟨q, j, h, h2, h3, h4, ?_⟩
  by_cases h0 : n = 0
  · subst h0
    rw [norm_zero] at h
    cases h
    decide
  · obtain ⟨q', i, hq, hq0, hi⟩ := parts_in hn h0
    rw [norm_of hq hq0 (by omega)] at h
    split at h
    · cases h
      exact whole_yes h4 (by simp) hq hn
    · cases h
end Go.Proofs.Ytcljpcbgokgcdaa
end

section
/-
  What the document's own Count comes to, called with any numbers.
-/
namespace Go.Proofs.Ytcljpcbgokgcdaa
open Go.RowKit Go.Lib
set_option linter.unusedSimpArgs false
set_option linter.unusedVariables false

def nz (x : Int) : Bool := !(0 == x)

set_option maxRecDepth 10000 in
set_option maxHeartbeats 3200000 in
theorem rcount_any (A : Option Addr) (n c : Nat) (xs : List Int) (w : World) (hn : xs.length = n) (hm : n ≤ 9223372036854775807) (hr : Nums .i64 w w.heap.size A xs) :
    Calls Try.prog 36 #[.slice A n c] w (Gives (.tuple #[.int .i64 (cnt xs : Nat), .bool (rightB xs)]) w) := by
  have HR := Lib.hid hr
  have HN := Lib.hid hn
  clear hr hn
  by_cases h16 : 16 < n
  · have h16i : (16 : Int) < ((n : Nat) : Int) := by omega
    have HB := Lib.hid (right_long (xs := xs) (by rw [HN.out]; exact h16))
    have HC := Lib.hid (cnt_no HB.out)
    rw [HB.out, HC.out]
    go_enter Try.func36, Try.ntmps36
    go_wp2
    go_ret2
    exact ⟨rfl, rfl⟩
  have h16i : ¬ (16 : Int) < ((n : Nat) : Int) := by omega
  go_enter Try.func36, Try.ntmps36
  go_wp2
  go_loopg [4, 5] n (fun g s4 s5 wr => ∃ k q : Nat, k ≤ n ∧ g = n - k ∧ s4 = .int .i64 q ∧ s5 = .int .i64 k ∧ Hid ((xs.drop k).all okI = xs.all okI) ∧ Hid ((q = 1 ∧ (xs.drop k).all nz = xs.all nz) ∨ (q = 0 ∧ xs.all nz = false)) ∧ w = wr)
  case atStart => exact ⟨0, 1, Nat.zero_le _, rfl, rfl, rfl, Lib.hid rfl, Lib.hid (.inl ⟨rfl, rfl⟩), rfl⟩
  case round =>
    obtain ⟨k, q, hk, rfl, rfl, rfl, HA, HZ, rfl⟩ := hrel
    by_cases hlt : k < n
    · have hkl : k < xs.length := by rw [HN.out]; exact hlt
      obtain ⟨b, off, rfl, hb, hcl⟩ := HR.out (by omega)
      have hc := hcl k hkl
      have HT := Lib.hid (fun h => all_drop (p := okI) hkl h)
      have HF := Lib.hid (fun h => all_fails (p := okI) hkl h)
      have HT2 := Lib.hid (fun h => all_drop (p := nz) hkl h)
      have HF2 := Lib.hid (fun h => all_fails (p := nz) hkl h)
      clear hcl hkl
      generalize xs.getD k 0 = x at hc HT HF HT2 HF2
      by_cases h0 : x < 0
      · have hd : decide (x < 0) = true := decide_eq_true h0
        have HB := Lib.hid (right_out (xs := xs) (by rw [← HA.out]; exact HF.out (by simp [okI]; omega)))
        have HC := Lib.hid (cnt_no HB.out)
        go_wp2
        go_ret2
        exact ⟨by rw [HB.out, HC.out]; rfl, rfl⟩
      have hd : decide (x < 0) = false := decide_eq_false h0
      by_cases h1 : 1048576 < x
      · have HB := Lib.hid (right_out (xs := xs) (by rw [← HA.out]; exact HF.out (by simp [okI]; omega)))
        have HC := Lib.hid (cnt_no HB.out)
        go_wp2
        go_ret2
        exact ⟨by rw [HB.out, HC.out]; rfl, rfl⟩
      have HA1 := Lib.hid ((HT.out (by simp [okI]; omega)).symm.trans HA.out)
      by_cases hx0 : x = 0
      · subst hx0
        have HZ1 : Hid (xs.all nz = false) := Lib.hid (by
          rcases HZ.out with ⟨_, h⟩ | ⟨_, h⟩
          · rw [← h]; exact HF2.out rfl
          · exact h)
        go_wp2
        go_roundg (n - (k + 1))
        case rel => exact ⟨k + 1, 0, by omega, rfl, rfl, by go_num, HA1, Lib.hid (.inr ⟨rfl, HZ1.out⟩), rfl⟩
        case measure => omega
      · have hxb : (x == 0) = false := beq_eq_false_iff_ne.2 hx0
        have HZ1 : Hid ((q = 1 ∧ (xs.drop (k + 1)).all nz = xs.all nz) ∨ (q = 0 ∧ xs.all nz = false)) := Lib.hid (by
          rcases HZ.out with ⟨hq, h⟩ | h
          · left
            refine ⟨hq, ?_⟩
            rw [← h]
            refine (HT2.out ?_).symm
            unfold nz
            have : ((0 : Int) == x) = false := beq_eq_false_iff_ne.2 (fun e => hx0 e.symm)
            rw [this]
            rfl
          · exact .inr h)
        go_wp2
        go_roundg (n - (k + 1))
        case rel => exact ⟨k + 1, q, by omega, rfl, rfl, by go_num, HA1, HZ1, rfl⟩
        case measure => omega
    · obtain rfl : n = k := by omega
      have hd1 : xs.drop n = [] := List.drop_of_length_le (by rw [HN.out]; exact Nat.le_refl _)
      have HAL : Hid (xs.all okI = true) := Lib.hid (by rw [← HA.out, hd1]; rfl)
      rcases HZ.out with ⟨rfl, hz⟩ | ⟨rfl, hz⟩
      · have HP := Lib.hid (pos_of_all HAL.out (show xs.all nz = true by rw [← hz, hd1]; rfl))
        clear hz hd1 HZ HA
        go_wp2
        go_loopg [4, 6] n (fun g s5 s20 wr => ∃ k q : Nat, k ≤ n ∧ g = n - k ∧ s5 = .int .i64 q ∧ s20 = .int .i64 k ∧ 1 ≤ q ∧ q ≤ 1048576 ∧ Hid (prodN (toN xs) = q * prodN (toN (xs.drop k))) ∧ w = wr)
        case atStart => exact ⟨0, 1, Nat.zero_le _, rfl, rfl, rfl, Nat.le_refl _, by omega, Lib.hid (by simp), rfl⟩
        case round =>
          obtain ⟨k, q, hk, rfl, rfl, rfl, hq1, hq, HQ, rfl⟩ := hrel
          by_cases hlt : k < n
          · have hkl : k < xs.length := by rw [HN.out]; exact hlt
            obtain ⟨b, off, rfl, hb, hcl⟩ := HR.out (by omega)
            have hc := hcl k hkl
            obtain ⟨m, hm', hmb⟩ := at_ok hkl HAL.out
            have HD := Lib.hid (prod_drop hkl hm')
            rw [hm'] at hc
            clear hcl hkl hm'
            have hqm : q * m ≤ 1048576 * 1048576 := Nat.mul_le_mul hq hmb
            have hpos := pos_drop HP.out (k + 1)
            have HPM : Hid (prodN (toN xs) = q * m * prodN (toN (xs.drop (k + 1)))) := Lib.hid (by rw [HQ.out, HD.out, Nat.mul_assoc])
            have HPN : Hid (0 < q * m) := Lib.hid (by
              rcases Nat.eq_zero_or_pos (q * m) with h0 | h0
              · exact absurd (by rw [HPM.out, h0, Nat.zero_mul]) HP.out
              · exact h0)
            have HLE : Hid (q * m ≤ prodN (toN xs)) := Lib.hid (by rw [HPM.out]; exact Nat.le_mul_of_pos_right _ hpos)
            have hmul : ((q : Nat) : Int) * ((m : Nat) : Int) = ((q * m : Nat) : Int) := by simp
            obtain ⟨p, hp⟩ : ∃ p, q * m = p := ⟨_, rfl⟩
            rw [hp] at hmul hqm HPM HPN HLE
            have hwr : IntKind.i64.wrap (((q : Nat) : Int) * ((m : Nat) : Int)) = ((p : Nat) : Int) := by rw [hmul, IntKind.wrap_i64]; omega
            clear hpos HD hp hmul
            by_cases hgt : 1048576 < p
            · have hgti : (1048576 : Int) < ((p : Nat) : Int) := by omega
              have HB : Hid (rightB xs = false) := Lib.hid (by
                cases hb : rightB xs with
                | false => rfl
                | true => have := (right_iff.1 hb).2.2; have := HLE.out; omega)
              have HC := Lib.hid (cnt_no HB.out)
              go_wp2
              go_ret2
              exact ⟨by rw [HB.out, HC.out]; rfl, rfl⟩
            · have hgti : ¬ (1048576 : Int) < ((p : Nat) : Int) := by omega
              go_wp2
              go_roundg (n - (k + 1))
              case rel => exact ⟨k + 1, p, by omega, rfl, rfl, by go_num, HPN.out, by omega, HPM, rfl⟩
              case measure => omega
          · obtain rfl : n = k := by omega
            have HE : Hid (prodN (toN xs) = q) := Lib.hid (by rw [HQ.out, List.drop_of_length_le (by rw [HN.out]; exact Nat.le_refl _)]; simp [toN, prodN])
            have HB : Hid (rightB xs = true) := Lib.hid (right_iff.2 ⟨by rw [HN.out]; omega, HAL.out, by rw [HE.out]; exact hq⟩)
            have HC : Hid (cnt xs = q) := Lib.hid ((cnt_yes HB.out).trans HE.out)
            go_wp2
            go_ret2
            exact ⟨by rw [HB.out, HC.out]; rfl, rfl⟩
      · obtain ⟨hB, hC⟩ := right_zero (xs := xs) (by rw [HN.out]; omega) HAL.out (zero_of_any hz)
        have HB := Lib.hid hB
        have HC := Lib.hid hC
        clear hz hd1 HZ HA hB hC
        go_wp2
        go_ret2
        exact ⟨by rw [HB.out, HC.out]; rfl, rfl⟩
end Go.Proofs.Ytcljpcbgokgcdaa
end
