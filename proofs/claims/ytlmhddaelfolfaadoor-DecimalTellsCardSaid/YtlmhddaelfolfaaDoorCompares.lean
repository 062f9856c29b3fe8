/-
  What decimal.Compare and its parts come to.
-/
import Derived.Test.YtlmhddaelfolfaaDoorTexts
import Derived.Test.YtlmhddaelfolfaaDoorWorth
namespace Go.Proofs.YtlmhddaelfolfaaDoor
open Go.RowKit Go.Lib

set_option maxRecDepth 10000 in
set_option maxHeartbeats 800000 in
theorem counted_any (m e : Int) (w : World) (hm : In m) (he : In e) :
    Calls Tryd.prog 29 #[.agg #[.int .i64 m, .int .i64 e]] w fun x w' => x = .returned (.agg #[.int .i64 (cnt m e).1, .int .i64 (cnt m e).2]) ∧ Grow w w' := by
  have HC := Lib.hid (fun W => right_any m e W hm he)
  have HN : Hid (cnt m e = if rightB m e = true then (m, e) else (0, 0)) := Lib.hid rfl
  clear hm he
  go_enter Tryd.func29, Tryd.ntmps29
  go_wp2_with fail
  refine (HC.out _).mono ?_
  rintro x w1 ⟨rfl, hg⟩
  have hb := ((boxed_new w (.int .i64 m) (.int .i64 e) 23).grow (grow_new _ _)).grow hg
  have hb2 := (boxed_new (w.alloc (.cells #[.int .i64 m, .int .i64 e] 23)) (.int .i64 0) (.int .i64 0) 23).grow hg
  have hsz : (w.alloc (.cells #[.int .i64 m, .int .i64 e] 23)).heap.size = w.heap.size + 1 := by simp
  rw [hsz] at hb2
  have hc0 := hb.fst
  have hc1 := hb.snd
  have hd0 := hb2.fst
  have hd1 := hb2.snd
  have hf0 := hb2.froz 0
  have hf1 := hb2.froz 1
  have HG := Lib.hid ((grow_new2 w _ _).trans hg)
  have HB := Lib.hid hb2
  clear hb hg HC hb2 hsz
  obtain ⟨r, hr⟩ : ∃ r, rightB m e = r := ⟨_, rfl⟩
  rw [hr] at HN ⊢
  clear hr
  cases r
  · go_wp2
    have hr := (HB.out.put0 (.int .i64 0)).put1 (.int .i64 0)
    exact bodyPost_ret (v := .agg #[.int .i64 0, .int .i64 0]) (by simp [results, Tryd.results29, go_sem, hr.fst, hr.snd]) rfl
      ⟨by rw [HN.out]; rfl, (HG.out.put (by omega) 0 _).put (by omega) 1 _⟩
  · go_wp2
    have hr := (HB.out.put0 (.int .i64 m)).put1 (.int .i64 e)
    exact bodyPost_ret (v := .agg #[.int .i64 m, .int .i64 e]) (by simp [results, Tryd.results29, go_sem, hr.fst, hr.snd]) rfl
      ⟨by rw [HN.out]; rfl, (HG.out.put (by omega) 0 _).put (by omega) 1 _⟩

theorem sign_any (m e : Int) (w : World) :
    Calls Tryd.prog 31 #[.agg #[.int .i64 m, .int .i64 e]] w fun x w' => x = .returned (.int .i64 (compareInt m 0)) ∧ Grow w w' := by
  have HC := Lib.hid (fun W => Tryd.cmp_Compare_int m 0 W)
  go_enter Tryd.func31, Tryd.ntmps31
  go_wp2_with fail
  refine (HC.out _).mono ?_
  rintro x w1 ⟨rfl, rfl⟩
  go_wp2
  go_ret
  exact ⟨rfl, grow_new _ _⟩

theorem ucmp_any (a b : Int) (w : World) :
    Calls Tryd.prog 44 #[.int .u64 a, .int .u64 b] w fun x w' => x = .returned (.int .i64 (compareInt a b)) ∧ w' = w := by
  rcases cmp_cases a b with ⟨h, e⟩ | ⟨h, e⟩ | ⟨h, e⟩
  · rw [e]
    clear e
    go_enter Tryd.func44, Tryd.ntmps44
    go_wp2
    go_ret
    exact ⟨rfl, rfl⟩
  · rw [e]
    subst h
    clear e
    go_enter Tryd.func44, Tryd.ntmps44
    go_wp2
    go_ret
    exact ⟨rfl, rfl⟩
  · rw [e]
    have h' : ¬ a < b := by omega
    clear e
    go_enter Tryd.func44, Tryd.ntmps44
    go_wp2
    go_ret
    exact ⟨rfl, rfl⟩

set_option maxRecDepth 10000 in
theorem or_any (x y : Int) (b cap : Nat) (w : World) (h0 : w.cell? ⟨b, 0, none⟩ = some (.int .i64 x)) (h1 : w.cell? ⟨b, 1, none⟩ = some (.int .i64 y)) :
    Calls Tryd.prog 43 #[.slice (some ⟨b, 0, none⟩) 2 cap] w fun e w' => e = .returned (.int .i64 (if x = 0 then y else x)) ∧ w' = w := by
  by_cases hx : x = 0
  · subst hx
    rw [if_pos rfl]
    by_cases hy : y = 0
    · subst hy
      go_enter Tryd.func43, Tryd.ntmps43
      go_wp2
      go_loopg [8] 2 (fun gk s8 wr => ∃ k : Nat, k ≤ 2 ∧ gk = 2 - k ∧ s8 = .int .i64 k ∧ w = wr)
      case atStart => exact ⟨0, by omega, rfl, rfl, rfl⟩
      case round =>
        obtain ⟨k, hk, rfl, rfl, rfl⟩ := hrel
        rcases (show k = 0 ∨ k = 1 ∨ k = 2 by omega) with rfl | rfl | rfl
        · go_wp2
          go_roundg 1
          · exact ⟨1, by omega, rfl, rfl, rfl⟩
          · omega
        · go_wp2
          go_roundg 0
          · exact ⟨2, by omega, rfl, rfl, rfl⟩
          · omega
        · go_wp2
          go_ret
          exact ⟨rfl, rfl⟩
    · have hyb : (y == 0) = false := by simpa using hy
      go_enter Tryd.func43, Tryd.ntmps43
      go_wp2
      go_loopg [8] 2 (fun gk s8 wr => ∃ k : Nat, k ≤ 1 ∧ gk = 2 - k ∧ s8 = .int .i64 k ∧ w = wr)
      case atStart => exact ⟨0, by omega, rfl, rfl, rfl⟩
      case round =>
        obtain ⟨k, hk, rfl, rfl, rfl⟩ := hrel
        rcases (show k = 0 ∨ k = 1 by omega) with rfl | rfl
        · go_wp2
          go_roundg 1
          · exact ⟨1, by omega, rfl, rfl, rfl⟩
          · omega
        · go_wp2
          go_ret
          exact ⟨rfl, rfl⟩
  · rw [if_neg hx]
    have hxb : (x == 0) = false := by simpa using hx
    go_enter Tryd.func43, Tryd.ntmps43
    go_wp2
    go_loopg [8] 2 (fun gk s8 wr => gk = 2 ∧ s8 = .int .i64 0 ∧ w = wr)
    case atStart => exact ⟨rfl, rfl, rfl⟩
    case round =>
      obtain ⟨rfl, rfl, rfl⟩ := hrel
      go_wp2
      go_ret
      exact ⟨rfl, rfl⟩

theorem full_step {u i : Nat} (h19 : nDigits u ≤ 19) (hi : i ≤ 19 - nDigits u) : u * 10 ^ i < 18446744073709551616 := by
  have h2 := lt_pow_nDigits u
  have h3 : u * 10 ^ i < 10 ^ nDigits u * 10 ^ i := Nat.mul_lt_mul_of_pos_right h2 (Nat.pow_pos (by decide))
  rw [← Nat.pow_add] at h3
  have h4 : 10 ^ (nDigits u + i) ≤ 10 ^ 19 := Nat.pow_le_pow_right (by decide) (by omega)
  have hp : (10 : Nat) ^ 19 = 10000000000000000000 := by decide
  omega

set_option maxRecDepth 10000 in
set_option maxHeartbeats 800000 in
theorem full_any (m e : Int) (w : World) (hm : In m) (he : -32768 ≤ e) (he2 : e ≤ 32767) (hp : Pows w) :
    Calls Tryd.prog 42 #[.agg #[.int .i64 m, .int .i64 e]] w fun x w' => x = .returned (.tuple #[.int .u64 (fullS m.natAbs : Nat), .int .i64 (fullE m e)]) ∧ Grow w w' := by
  have HS := Lib.hid (fun W => sizeof_any m W hm)
  have HF := Lib.hid (fun W h => fmt_any m.natAbs (by have := hm.1; have := hm.2; omega) W h)
  have h19 := nd_le hm
  have hnd := nDigits_pos m.natAbs
  have HL := Lib.hid (decDigits_length m.natAbs)
  have HP := Lib.hid hp
  have HE : Hid (fullE m e = e - ((19 - nDigits m.natAbs : Nat) : Int)) := Lib.hid rfl
  have HU : Hid (fullS m.natAbs = m.natAbs * 10 ^ (19 - nDigits m.natAbs)) := Lib.hid rfl
  have HT := Lib.hid (fun i (hi : i ≤ 19 - nDigits m.natAbs) => full_step h19 hi)
  clear hm hp
  generalize fullE m e = E at *
  generalize fullS m.natAbs = F at *
  generalize m.natAbs = u at *
  generalize decDigits u = d at *
  generalize nDigits u = n at *
  obtain ⟨k, hk⟩ : ∃ k : Nat, 19 - n = k := ⟨_, rfl⟩
  rw [hk] at HE HU HT
  have hlen : d.length = 19 - k := by rw [HL.out]; omega
  have hk18 : k ≤ 18 := by omega
  have hi1 : (19 : Int) - ((19 - k : Nat) : Int) = (k : Nat) := by omega
  have hi2 : IntKind.i64.wrap (e - (k : Nat)) = e - (k : Nat) := by rw [IntKind.wrap_i64]; omega
  have hE := HE.out
  subst hE
  clear hk HL h19 hnd HE
  go_enter Tryd.func42, Tryd.ntmps42
  go_wp2_with fail
  refine (HS.out _).mono ?_
  rintro x w1 ⟨rfl, rfl⟩
  go_wp2_with fail
  refine (HF.out _ (HP.out.grow (grow_new _ _))).mono ?_
  rintro x w2 ⟨rfl, hg⟩
  have hb := (boxed_new w (.int .i64 m) (.int .i64 e) 23).grow hg
  have hc0 := hb.fst
  have hc1 := hb.snd
  have HG := Lib.hid ((grow_new w _).trans hg)
  have hcg : ∀ wg, Grow w2.drew wg → wg.cell? ⟨w.heap.size, 1, none⟩ = some (.int .i64 e) := fun wg h => (hb.grow (Grow.of_drew h)).snd
  clear hb hg HS HF
  go_wp2
  go_loopg [4, 14] k (fun gk s4 s14 wr => ∃ (v i : Nat), i ≤ k ∧ gk = k - i ∧ s4 = .int .u64 v ∧ s14 = .int .i64 i ∧ Hid (v = u * 10 ^ i) ∧ w2 = wr)
  case atStart => exact ⟨u, 0, by omega, rfl, rfl, rfl, Lib.hid (by simp), rfl⟩
  case round =>
    obtain ⟨v, i, hik, rfl, rfl, rfl, HV, rfl⟩ := hrel
    by_cases hlt : i < k
    · have HV' : Hid (v * 10 = u * 10 ^ (i + 1)) := Lib.hid (by rw [HV.out, Nat.pow_succ, Nat.mul_assoc])
      have hb := HT.out (i + 1) (by omega)
      rw [← HV'.out] at hb
      have hwr : IntKind.u64.wrap ((v : Int) * 10) = ((v * 10 : Nat) : Int) := by rw [IntKind.wrap_u64]; omega
      go_wp2
      go_roundg (k - (i + 1))
      · exact ⟨v * 10, i + 1, hlt, rfl, by simp, rfl, HV', rfl⟩
      · omega
    · have hi : i = k := by omega
      subst hi
      have hF := HU.out
      rw [← HV.out] at hF
      subst hF
      clear hlt HV HU
      go_wp2
      refine wp_region_grow (n := 7) rfl (by kernel_rfl) ?_
      refine wpAnyG_take (i := 0) (v := ?v1) rfl (by kernel_rfl) (by kernel_rfl) (by kernel_rfl) (fun _ _ _ h => h) (by rfl) ?h1 ?r1
      case h1 => (intro wg hSw; go_simp <;> with_reducible rfl)
      simp only [Act.put, List.setIfInBounds_toArray, List.set_cons_zero, List.set_cons_succ]
      refine wpAnyG_take (i := 1) (v := ?v2) rfl (by kernel_rfl) (by kernel_rfl) (by kernel_rfl) (fun _ _ _ h => h) (by rfl) ?h2 ?r2
      case h2 => (intro wg hSw; go_simp <;> with_reducible rfl)
      simp only [Act.put, List.setIfInBounds_toArray, List.set_cons_zero, List.set_cons_succ]
      refine wpAnyG_take (i := 2) (v := ?v3) rfl (by kernel_rfl) (by kernel_rfl) (by kernel_rfl) (fun _ _ _ h => h) (by rfl) ?h3 ?r3
      case h3 => (intro wg hSw; go_simp <;> with_reducible rfl)
      simp only [Act.put, List.setIfInBounds_toArray, List.set_cons_zero, List.set_cons_succ]
      refine wpAnyG_take (i := 3) (v := ?v4) rfl (by kernel_rfl) (by kernel_rfl) (by kernel_rfl) (fun _ _ _ h => h) (by rfl) ?h4 ?r4
      case h4 => (intro wg hSw; go_simp <;> with_reducible rfl)
      simp only [Act.put, List.setIfInBounds_toArray, List.set_cons_zero, List.set_cons_succ]
      refine wpAnyG_take (i := 4) (v := ?v5) rfl (by kernel_rfl) (by kernel_rfl) (by kernel_rfl) (fun _ _ _ h => h) (by rfl) ?h5 ?r5
      case h5 => (intro wg hSw; go_simp <;> with_reducible rfl)
      simp only [Act.put, List.setIfInBounds_toArray, List.set_cons_zero, List.set_cons_succ]
      refine wpAnyG_take (i := 5) (v := ?v6) rfl (by kernel_rfl) (by kernel_rfl) (by kernel_rfl) (fun _ _ _ h => h) (by rfl) ?h6 ?r6
      case h6 => (intro wg hSw; go_simp <;> with_reducible rfl)
      simp only [Act.put, List.setIfInBounds_toArray, List.set_cons_zero, List.set_cons_succ]
      refine wpAnyG_take (i := 6) (v := ?v7) rfl (by kernel_rfl) (by kernel_rfl) (by kernel_rfl) (fun _ _ _ h => h) (by rfl) ?h7 ?r7
      case h7 => (intro wg hSw; go_simp <;> with_reducible rfl)
      simp only [Act.put, List.setIfInBounds_toArray, List.set_cons_zero, List.set_cons_succ]
      refine wpAnyG_done (by kernel_rfl) ?_
      go_wp2
      go_ret2
      exact ⟨rfl, HG.out.drew⟩

end Go.Proofs.YtlmhddaelfolfaaDoor
