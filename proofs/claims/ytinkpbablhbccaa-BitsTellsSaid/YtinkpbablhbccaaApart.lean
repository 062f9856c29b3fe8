/-
  The law BitsApart, walked: it answers true, called with any two rows, and turns nothing that was there.
-/
import Derived.Test.YtinkpbablhbccaaOnce
namespace Go.Proofs.Ytinkpbablhbccaa
open Go.RowKit
set_option linter.unusedSimpArgs false

/-- are the same ones of the first k numbers 0? -/
def alike (a b : List Int) (k : Nat) : Bool := (List.range k).all fun i => (a.getD i 0 == 0) == (b.getD i 0 == 0)
theorem alike_succ (a b : List Int) (k : Nat) : alike a b (k + 1) = (alike a b k && ((a.getD k 0 == 0) == (b.getD k 0 == 0))) := by
  unfold alike
  rw [List.range_succ, List.all_append]
  simp
theorem str_inj (xs ys : List Int) (hx : ∀ n ∈ xs, 0 ≤ n ∧ n < 256) (hy : ∀ n ∈ ys, 0 ≤ n ∧ n < 256) : (strOfNums xs).toList = (strOfNums ys).toList ↔ xs = ys := by
  refine ⟨fun h => ?_, fun h => by rw [h]⟩
  rw [ByteArray.toList_eq, ByteArray.toList_eq, strOfNums_data, strOfNums_data] at h
  induction xs generalizing ys with
  | nil => cases ys with
    | nil => rfl
    | cons y ys => simp at h
  | cons x xs ih => cases ys with
    | nil => simp at h
    | cons y ys =>
      simp only [List.map_cons, List.cons.injEq] at h
      have hx0 := hx x (by simp)
      have hy0 := hy y (by simp)
      have e : x = y := by
        have h1 := congrArg UInt8.toNat h.1
        simp at h1
        omega
      rw [e, ih ys (fun n hn => hx n (by simp [hn])) (fun n hn => hy n (by simp [hn])) h.2]
theorem pk_bytes (l : List Int) (k m : Nat) : ∀ n ∈ pk l k m, 0 ≤ n ∧ n < 256 := fun n hn => by
  unfold pk at hn
  obtain ⟨j, _, rfl⟩ := List.mem_map.1 hn
  have := pkb_lt l k j
  omega
theorem alike_str (a b : List Int) (hl : a.length = b.length) :
    ((strOfNums (pk a a.length (bytesN a.length))).toList == (strOfNums (pk b b.length (bytesN b.length))).toList) = alike a b a.length := by
  rw [Bool.eq_iff_iff, beq_iff_eq, str_inj _ _ (pk_bytes _ _ _) (pk_bytes _ _ _), pk_apart a b hl]
  unfold alike
  rw [List.all_eq_true]
  constructor
  · intro h i hi
    have := h i (by simpa using hi)
    rw [beq_iff_eq, Bool.eq_iff_iff, beq_iff_eq, beq_iff_eq]
    exact this
  · intro h i hi
    have := h i (by simpa using hi)
    rw [beq_iff_eq, Bool.eq_iff_iff, beq_iff_eq, beq_iff_eq] at this
    exact this

theorem pack_str_n (A : Option Addr) (cap n : Nat) (l : List Int) (w : World) (s : ByteArray) (hn : l.length = n) (hl : n ≤ 100000) (hr : Nums .i64 w w.heap.size A l) (hs : s = strOfNums (pk l l.length (bytesN l.length))) :
    Calls Try.prog 13 #[.slice A n cap] w (PackStr (bytesN n) s w) := by
  subst hn
  exact pack_str A cap l w s _ hl hr rfl hs

set_option maxHeartbeats 1000000 in
theorem apart_yes (A A' : Option Addr) (cap cap' n : Nat) (a b : List Int) (w : World) (hlen : n ≤ 500) (ha : a.length = n) (hb : b.length = n) (hr : Nums .i64 w w.heap.size A a) (hr' : Nums .i64 w w.heap.size A' b) :
    Calls Try.prog 7 #[.slice A n cap, .slice A' n cap'] w (Fine w) := by
  have hd : decide ((500 : Int) < (n : Int)) = false := by simp; omega
  have hne : ((n : Int) != (n : Int)) = false := by simp
  have HA := Lib.hid ha
  have HB := Lib.hid hb
  have HR := Lib.hid hr
  have HR' := Lib.hid hr'
  clear ha hb hr hr'
  go_enter Try.func7, Try.ntmps7
  go_wp2_with fail
  refine (small_any w).mono ?_
  rintro e w1 ⟨rfl, hb1⟩
  have HN := Lib.hid ((HR.out.below hb1).more hb1.size)
  have HN' := Lib.hid ((HR'.out.below hb1).more hb1.size)
  go_wp2
  clear hd hne
  go_loopw [6, 7] (fun s i wr => ∃ k m : Nat, k ≤ n ∧ s = .bool (alike a b k) ∧ i = .int .i64 k ∧ wr = w1.drewN m)
    (fun _ i _ => n - (intOf i).toNat)
  case atStart => exact ⟨0, 0, Nat.zero_le _, rfl, rfl, rfl⟩
  case round =>
    obtain ⟨k, m, hk, rfl, rfl, rfl⟩ := hrel
    by_cases hlt : k < n
    · obtain ⟨b1, off, rfl, _, hc⟩ := HN.out (by rw [HA.out]; omega)
      obtain ⟨b2, off', rfl, _, hc'⟩ := HN'.out (by rw [HB.out]; omega)
      have h1 := hc k (by rw [HA.out]; exact hlt)
      have h2 := hc' k (by rw [HB.out]; exact hlt)
      have HS := Lib.hid (alike_succ a b k)
      clear hc hc'
      generalize a.getD k 0 = x at *
      generalize b.getD k 0 = y at *
      by_cases hs : alike a b k = true
      · rw [hs]
        have HS1 := Lib.hid (HS.out.trans (by rw [hs, Bool.true_and]))
        clear hs
        go_wp2
        go_quiet (fail)
        go_wp2
        go_roundw
        case rel => exact ⟨k + 1, _, by omega, by rw [HS1.out], by go_num, rfl⟩
        case measure => simp [intOf]; omega
      · have hs' : alike a b k = false := by simpa using hs
        rw [hs']
        have HS1 := Lib.hid (HS.out.trans (by rw [hs', Bool.false_and]))
        clear hs hs'
        go_wp2
        go_quiet (fail)
        go_wp2
        go_roundw
        case rel => exact ⟨k + 1, _, by omega, by rw [HS1.out], by go_num, rfl⟩
        case measure => simp [intOf]; omega
    · have e : k = n := by omega
      subst e
      have hE := alike_str a b (by rw [HA.out, HB.out])
      rw [HA.out] at hE
      obtain ⟨s1, hs1⟩ : ∃ s, s = strOfNums (pk a a.length (bytesN a.length)) := ⟨_, rfl⟩
      obtain ⟨s2, hs2⟩ : ∃ s, s = strOfNums (pk b b.length (bytesN b.length)) := ⟨_, rfl⟩
      rw [HA.out] at hs1
      rw [← hs1, ← hs2] at hE
      rw [← HA.out] at hs1
      have HS1 := Lib.hid hs1
      have HS2 := Lib.hid hs2
      clear hs1 hs2
      generalize alike a b k = sm at *
      go_wp2
      refine wp_region_grow (n := 13) rfl (by kernel_rfl) ?_
      refine wpAnyG_take (i := 0) (v := ?v1) rfl (by kernel_rfl) (by kernel_rfl) (by kernel_rfl) (fun _ _ _ h => h) (by rfl) ?h1 ?r1
      case h1 => (intro wg hSw; go_simp <;> with_reducible rfl)
      simp only [Act.put, List.setIfInBounds_toArray, List.set_cons_zero, List.set_cons_succ]
      refine wpAnyG_take (i := 1) (v := ?v2) rfl (by kernel_rfl) (by kernel_rfl) (by kernel_rfl) (fun _ _ _ h => h) (by rfl) ?h2 ?r2
      case h2 => (intro wg hSw; go_simp <;> with_reducible rfl)
      simp only [Act.put, List.setIfInBounds_toArray, List.set_cons_zero, List.set_cons_succ]
      refine wpAnyG_take (i := 2) (v := ?v3) rfl (by kernel_rfl) (by kernel_rfl) (by kernel_rfl) (fun _ _ _ h => h) (by rfl) ?h3 ?r3
      case h3 => (intro wg hSw; go_simp <;> with_reducible rfl)
      simp only [Act.put, List.setIfInBounds_toArray, List.set_cons_zero, List.set_cons_succ]
      refine wpAnyG_take (i := 5) (v := ?v4) rfl (by kernel_rfl) (by kernel_rfl) (by kernel_rfl) (fun _ _ _ h => h) (by rfl) ?h4 ?r4
      case h4 => (intro wg hSw; go_simp <;> with_reducible rfl)
      simp only [Act.put, List.setIfInBounds_toArray, List.set_cons_zero, List.set_cons_succ]
      refine wpAnyG_take (i := 9) (v := ?v5) rfl (by kernel_rfl) (by kernel_rfl) (by kernel_rfl) (fun _ _ _ h => h) (by rfl) ?h5 ?r5
      case h5 => (intro wg hSw; go_simp <;> with_reducible rfl)
      simp only [Act.put, List.setIfInBounds_toArray, List.set_cons_zero, List.set_cons_succ]
      refine wpAnyG_one (i := 3) rfl (by kernel_rfl) (by rfl) (fun K hK => ?_)
      go_simp
      refine (pack_str_n A cap k a _ s1 HA.out (by omega) ?_ HS1.out).mono ?_
      · exact HN.out
      rintro e w3 ⟨g3, rfl, hc3, hb3⟩
      refine hK.out _ _ (hb3) ?_
      clear hK K
      try simp only [Act.put, List.setIfInBounds_toArray, List.set_cons_zero, List.set_cons_succ]
      refine wpAnyG_take (i := 4) (v := ?v6) rfl (by kernel_rfl) (by kernel_rfl) (by kernel_rfl) (fun _ _ _ h => h) (by rfl) ?h6 ?r6
      case h6 => (intro wg hSw; go_simp <;> with_reducible rfl)
      simp only [Act.put, List.setIfInBounds_toArray, List.set_cons_zero, List.set_cons_succ]
      refine wpAnyG_one (i := 6) rfl (by kernel_rfl) (by rfl) (fun K hK => ?_)
      go_simp
      refine (pack_str_n A' cap' k b _ s2 HB.out (by omega) ?_ HS2.out).mono ?_
      · exact ((HN'.out.drewN (m + 1)).below hb3).more hb3.size
      rintro e w4 ⟨g4, rfl, hc4, hb4⟩
      have hc3' := fun wg (hg : Grow w4 wg) => hc3 wg (hb4.trans hg)
      refine hK.out _ _ (hb4) ?_
      clear hK K
      try simp only [Act.put, List.setIfInBounds_toArray, List.set_cons_zero, List.set_cons_succ]
      refine wpAnyG_take (i := 7) (v := ?v7) rfl (by kernel_rfl) (by kernel_rfl) (by kernel_rfl) (fun _ _ _ h => h) (by rfl) ?h7 ?r7
      case h7 => (intro wg hSw; go_simp <;> with_reducible rfl)
      simp only [Act.put, List.setIfInBounds_toArray, List.set_cons_zero, List.set_cons_succ]
      refine wpAnyG_take (i := 8) (v := ?v8) rfl (by kernel_rfl) (by kernel_rfl) (by kernel_rfl) (fun _ _ _ h => h) (by rfl) ?h8 ?r8
      case h8 => (intro wg hSw; go_simp <;> with_reducible rfl)
      simp only [Act.put, List.setIfInBounds_toArray, List.set_cons_zero, List.set_cons_succ]
      refine wpAnyG_take (i := 10) (v := ?v9) rfl (by kernel_rfl) (by kernel_rfl) (by kernel_rfl) (fun _ _ _ h => h) (by rfl) ?h9 ?r9
      case h9 => (intro wg hSw; go_simp <;> with_reducible rfl)
      simp only [Act.put, List.setIfInBounds_toArray, List.set_cons_zero, List.set_cons_succ]
      refine wpAnyG_take (i := 11) (v := ?v10) rfl (by kernel_rfl) (by kernel_rfl) (by kernel_rfl) (fun _ _ _ h => h) (by rfl) ?h10 ?r10
      case h10 => (intro wg hSw; go_simp <;> with_reducible rfl)
      simp only [Act.put, List.setIfInBounds_toArray, List.set_cons_zero, List.set_cons_succ]
      refine wpAnyG_take (i := 12) (v := ?v11) rfl (by kernel_rfl) (by kernel_rfl) (by kernel_rfl) (fun _ _ _ h => h) (by rfl) ?h11 ?r11
      case h11 => (intro wg hSw; go_simp <;> with_reducible rfl)
      simp only [Act.put, List.setIfInBounds_toArray, List.set_cons_zero, List.set_cons_succ]
      refine wpAnyG_done (by kernel_rfl) ?_
      go_wp2
      go_ret
      exact ⟨rfl, Grow.trans hb1 (Grow.trans (Grow.drewN (Grow.refl w1) (m + 1)) (Grow.trans hb3 hb4))⟩

set_option maxHeartbeats 800000 in
theorem apart_no (A A' : Option Addr) (cap cap' n n' : Nat) (w : World) (hm : n ≤ 9223372036854775807) (h : ¬ (n ≤ 500 ∧ n = n')) : Calls Try.prog 7 #[.slice A n cap, .slice A' n' cap'] w (Fine w) := by
  by_cases h5 : n ≤ 500
  · have hd : decide ((500 : Int) < (n : Int)) = false := by simp; omega
    have hne : ((n : Int) != (n' : Int)) = true := by rw [bne_iff_ne]; omega
    clear h
    go_enter Try.func7, Try.ntmps7
    go_wp2_with fail
    refine (small_any w).mono ?_
    rintro e w1 ⟨rfl, hb1⟩
    go_wp2
    go_ret
    exact ⟨rfl, hb1⟩
  · have hd : decide ((500 : Int) < (n : Int)) = true := by simp; omega
    clear h
    go_enter Try.func7, Try.ntmps7
    go_wp2_with fail
    refine (small_any w).mono ?_
    rintro e w1 ⟨rfl, hb1⟩
    go_wp2
    go_ret
    exact ⟨rfl, hb1⟩

theorem apart_walk (A A' : Option Addr) (cap cap' : Nat) (a b : List Int) (w : World) (hm : a.length ≤ 9223372036854775807) (hr : Nums .i64 w w.heap.size A a) (hr' : Nums .i64 w w.heap.size A' b) :
    Calls Try.prog 7 #[.slice A a.length cap, .slice A' b.length cap'] w (Fine w) := by
  by_cases h : a.length ≤ 500 ∧ a.length = b.length
  · have c := apart_yes A A' cap cap' a.length a b w h.1 rfl h.2.symm hr hr'
    rw [← h.2]
    exact c
  · exact apart_no A A' cap cap' a.length b.length w hm h
end Go.Proofs.Ytinkpbablhbccaa
