/-
  What number.textOf, parseRound, parse come to.
-/
import Derived.Test.YtkebngldmcoaaaaGreatDoorPieces
import Derived.Test.YtkebngldmcoaaaaGreatDoorParses
namespace Go.Proofs.YtkebngldmcoaaaaGreatDoor
open Go.RowKit Go.Lib
set_option linter.unusedSimpArgs false
set_option linter.unusedVariables false

theorem repeat_zeros (j : Nat) : repeatL [48] j = List.replicate j 48 := by
  have := repeatL_replicate 48 1 j
  simpa using this

/-- a whole number's text: the digits without noughts, and these -/
theorem textOf_math {n : Int} (hn : In n) : ∃ q, ∃ j : Nat, norm n 0 = ((q, (j : Int)), true) ∧ In q ∧ j ≤ 18 ∧ text q 0 = num q ∧ num n = num q ++ repeatL [48] j := by
  by_cases h0 : n = 0
  · subst h0
    exact ⟨0, 0, norm_zero 0, hn, by omega, text_plain zero_right, by simp [repeatL]⟩
  · obtain ⟨q, j, hq, hq10, hj⟩ := parts_in hn h0
    have hqr : rightB q 0 = true := rightB_of (.inr ⟨hq10, by decide, by decide⟩)
    have hok : okExp (0 + (j : Nat)) = true := by simp [okExp]; omega
    refine ⟨q, j, ?_, q_in hn hq, hj, text_plain hqr, ?_⟩
    · rw [norm_of hq hq10 (by omega), if_pos hok, Int.zero_add]
    · rw [repeat_zeros, hq, num_mul j (by omega)]

theorem in_zero : In 0 := ⟨by decide, by decide⟩

set_option maxRecDepth 10000 in
set_option maxHeartbeats 800000 in
theorem textOf_any (n : Int) (w : World) (hn : In n) (hp : Pows w) :
    Calls Tryz.prog 18 #[.int .i64 n] w fun e w' => e = .returned (.string ⟨(num n).toArray⟩) ∧ Grow w w' := by
  obtain ⟨q, j, h1, hq, hj, ht, hnum⟩ := textOf_math hn
  have HO := Lib.hid (of_any n w hn)
  rw [h1] at HO
  have HT := Lib.hid (fun W (h : Pows W) => text_any q 0 W hq in_zero h)
  rw [ht] at HT
  have HR := Lib.hid (fun W => Tryz.strings_Repeat ⟨#[48]⟩ j W (by omega) (by rw [show (⟨#[48]⟩ : ByteArray).size = 1 from rfl]; omega))
  rw [show (⟨#[48]⟩ : ByteArray).data.toList = [48] from rfl] at HR
  have HP := Lib.hid hp
  have hlq := num_len hq
  have hlz : (repeatL [48] j).length = j := by rw [repeatL_length]; simp
  have hs : ¬ 9223372036854775807 < (num q).length + (repeatL [48] j).length := by omega
  rw [hnum]
  clear h1 hq hj ht hnum hp hlq hlz hn
  generalize num q = a at *
  generalize repeatL [48] j = z at *
  go_enter Tryz.func18, Tryz.ntmps18
  go_wp2_with fail
  refine (HO.out).mono ?_
  rintro e w1 ⟨rfl, hg⟩
  have HG := Lib.hid hg
  have HB := Lib.hid (boxed_new w1 (.int .i64 q) (.int .i64 (j : Int)) 28)
  have HN := Lib.hid (grow_new w1 (.cells #[.int .i64 q, .int .i64 (j : Int)] 28))
  have HP1 := Lib.hid ((HP.out.grow HG.out).grow HN.out)
  clear hg HO HP
  go_wp2_with fail
  refine wp_region_R Grow (n := 9) rfl (by kernel_rfl) ?_
  intro W0 hW0e hW0
  have hG0 : Grow (w1.alloc (.cells #[.int .i64 q, .int .i64 (j : Int)] 28)) W0 := hW0
  have hd0 : ∀ wg, Grow W0 wg → wg.cell? ⟨w1.heap.size, 0, none⟩ = some (.int .i64 q) := fun wg h => ((HB.out.grow hG0).grow h).fst
  have hd1 : ∀ wg, Grow W0 wg → wg.cell? ⟨w1.heap.size, 1, none⟩ = some (.int .i64 (j : Int)) := fun wg h => ((HB.out.grow hG0).grow h).snd
  clear hW0e
  refine wpR_take growOrd (i := 0) (v := ?vf1) rfl (by kernel_rfl) (by kernel_rfl) (by kernel_rfl) (fun _ _ _ h => h) (by rfl) ?hf1 ?rf1
  case hf1 => (intro wg hSw; go_simp <;> with_reducible rfl)
  simp only [Act.put, List.setIfInBounds_toArray, List.set_cons_zero, List.set_cons_succ]
  refine wpR_take growOrd (i := 1) (v := ?vf2) rfl (by kernel_rfl) (by kernel_rfl) (by kernel_rfl) (fun _ _ _ h => h) (by rfl) ?hf2 ?rf2
  case hf2 => (intro wg hSw; go_simp <;> with_reducible rfl)
  simp only [Act.put, List.setIfInBounds_toArray, List.set_cons_zero, List.set_cons_succ]
  refine wpR_take growOrd (i := 2) (v := ?vf3) rfl (by kernel_rfl) (by kernel_rfl) (by kernel_rfl) (fun _ _ _ h => h) (by rfl) ?hf3 ?rf3
  case hf3 => (intro wg hSw; go_simp <;> with_reducible rfl)
  simp only [Act.put, List.setIfInBounds_toArray, List.set_cons_zero, List.set_cons_succ]
  refine wpR_take growOrd (i := 4) (v := ?vf4) rfl (by kernel_rfl) (by kernel_rfl) (by kernel_rfl) (fun _ _ _ h => h) (by rfl) ?hf4 ?rf4
  case hf4 => (intro wg hSw; go_simp <;> with_reducible rfl)
  simp only [Act.put, List.setIfInBounds_toArray, List.set_cons_zero, List.set_cons_succ]
  refine wpR_take growOrd (i := 5) (v := ?vf5) rfl (by kernel_rfl) (by kernel_rfl) (by kernel_rfl) (fun _ _ _ h => h) (by rfl) ?hf5 ?rf5
  case hf5 => (intro wg hSw; go_simp <;> with_reducible rfl)
  simp only [Act.put, List.setIfInBounds_toArray, List.set_cons_zero, List.set_cons_succ]
  refine wpR_one (i := 3) (by kernel_rfl) ?_
  refine wpR_op (i := 3) rfl (by rfl) (fun K hK => ?_)
  go_simp
  refine (HT.out W0 (HP1.out.grow (hG0.trans (Grow.refl W0)))).mono ?_
  rintro x wM3 ⟨rfl, hM3⟩
  refine hK.out _ _ hM3 ?_
  clear hK K
  try simp only [Act.put, List.setIfInBounds_toArray, List.set_cons_zero, List.set_cons_succ]
  refine wpR_one (i := 6) (by kernel_rfl) ?_
  refine wpR_op (i := 6) rfl (by rfl) (fun K hK => ?_)
  go_simp
  refine (HR.out wM3).mono ?_
  rintro x wM6 ⟨rfl, hM6'⟩
  have hM6 : Grow wM3 wM6 := hM6'
  clear hM6'
  refine hK.out _ _ hM6 ?_
  clear hK K
  try simp only [Act.put, List.setIfInBounds_toArray, List.set_cons_zero, List.set_cons_succ]
  refine wpR_take growOrd (i := 7) (v := ?vf6) rfl (by kernel_rfl) (by kernel_rfl) (by kernel_rfl) (fun _ _ _ h => h) (by rfl) ?hf6 ?rf6
  case hf6 => (intro wg hSw; go_simp <;> with_reducible rfl)
  simp only [Act.put, List.setIfInBounds_toArray, List.set_cons_zero, List.set_cons_succ]
  refine wpR_take growOrd (i := 8) (v := ?vf7) rfl (by kernel_rfl) (by kernel_rfl) (by kernel_rfl) (fun _ _ _ h => h) (by rfl) ?hf7 ?rf7
  case hf7 => (intro wg hSw; go_simp <;> with_reducible rfl)
  simp only [Act.put, List.setIfInBounds_toArray, List.set_cons_zero, List.set_cons_succ]
  refine wpR_done (by kernel_rfl) ?_
  go_wp2
  go_ret
  exact ⟨congrArg (fun s => Ending.returned (Value.string s)) (str_app a z), (HG.out.trans HN.out).trans (hG0.trans (Grow.trans (Grow.trans (Grow.refl W0) hM3) hM6))⟩

/-- a text without the noughts at its end, and how many they are -/
theorem trim_at (l : List UInt8) : ∃ k, l = trimRightB l 48 ++ List.replicate k 48 ∧ (trimRightB l 48).getLast? ≠ some 48 ∧ k = l.length - (trimRightB l 48).length ∧ (trimRightB l 48).length ≤ l.length := by
  have key : ∀ r : List UInt8, ∃ k, r = List.replicate k 48 ++ r.dropWhile (· == 48) ∧ (r.dropWhile (· == 48)).head? ≠ some 48 := by
    intro r
    induction r with
    | nil => exact ⟨0, by simp, by simp⟩
    | cons c r ih =>
      by_cases h : c = 48
      · subst h
        obtain ⟨k, h1, h2⟩ := ih
        refine ⟨k + 1, ?_, ?_⟩
        · rw [List.dropWhile_cons_of_pos (by decide), List.replicate_succ, List.cons_append, ← h1]
        · rw [List.dropWhile_cons_of_pos (by decide)]; exact h2
      · refine ⟨0, ?_, ?_⟩
        · rw [List.dropWhile_cons_of_neg (by simpa using h)]; simp
        · rw [List.dropWhile_cons_of_neg (by simpa using h)]; simpa using h
  obtain ⟨k, h1, h2⟩ := key l.reverse
  have e : l = trimRightB l 48 ++ List.replicate k 48 := by
    unfold trimRightB
    have := congrArg List.reverse h1
    rw [List.reverse_reverse, List.reverse_append, List.reverse_replicate] at this
    exact this
  refine ⟨k, e, ?_, ?_, ?_⟩
  · unfold trimRightB
    rw [List.getLast?_reverse]
    exact h2
  · have := congrArg List.length e
    rw [List.length_append, List.length_replicate] at this
    omega
  · have := congrArg List.length e
    rw [List.length_append, List.length_replicate] at this
    omega

theorem roundD_not {t : List UInt8} {k : Nat} (h : (parseD t).2 = false ∨ (parseD t).1.2 ≠ 0) : roundD t k = ((0, 0), false) := by
  unfold roundD
  rw [if_neg]
  rintro ⟨h1, h2, _⟩
  rcases h with h | h
  · rw [h] at h1; cases h1
  · exact h h2
theorem roundD_far {t : List UInt8} {k : Nat} {m : Int} (hp : parseD t = ((m, 0), true)) (h : (wholeD m k).2 = false) : roundD t k = ((0, 0), false) := by
  unfold roundD
  rw [hp, if_neg]
  rintro ⟨_, _, h3⟩
  simp only at h3
  rw [h] at h3
  cases h3
theorem roundD_yes {t : List UInt8} {k : Nat} {m : Int} (hp : parseD t = ((m, 0), true)) (h : (wholeD m k).2 = true) : roundD t k = ((m, (k : Int)), true) := by
  unfold roundD
  rw [hp, if_pos ⟨rfl, rfl, h⟩]

set_option maxRecDepth 10000 in
set_option maxHeartbeats 1600000 in
theorem round_any (l : List UInt8) (hl : l.length ≤ 1000000) (w : World) (hL : Laid w) (t : List UInt8) (k : Nat) (ht : trimRightB l 48 = t) (hk : k = l.length - t.length) (htl : t.length ≤ l.length) :
    Calls Tryz.prog 25 #[.string ⟨l.toArray⟩] w fun x w' => x = .returned (.tuple #[.agg #[.int .i64 (roundD t k).1.1, .int .i64 (roundD t k).1.2], .bool (roundD t k).2]) ∧ Grow w w' := by
  have HTR := Lib.hid (fun W => Tryz.strings_TrimRight_one ⟨l.toArray⟩ 48 (by decide) W (by rw [str_size]; omega))
  rw [show (⟨l.toArray⟩ : ByteArray).data.toList = l from rfl, ht] at HTR
  have HP := Lib.hid (fun W h => parse_any t (by omega) W h)
  have hin := parseD_in t
  have HN := Lib.hid (roundD_not (t := t) (k := k))
  have HF := Lib.hid (fun (m : Int) hp h => roundD_far (t := t) (k := k) (m := m) hp h)
  have HY := Lib.hid (fun (m : Int) hp h => roundD_yes (t := t) (k := k) (m := m) hp h)
  obtain ⟨⟨⟨m, e⟩, b⟩, hd⟩ : ∃ r, parseD t = r := ⟨_, rfl⟩
  rw [hd] at HP hin HN HF HY
  simp only at HP hin HN
  have HL := Lib.hid hL
  have hs1 := str_size l
  have hs2 := str_size t
  have hsub : IntKind.i64.wrap (((l.length : Nat) : Int) - ((t.length : Nat) : Int)) = (k : Nat) := by rw [IntKind.wrap_i64]; omega
  have hki : In (k : Int) := ⟨by omega, by omega⟩
  have HW := Lib.hid (fun W => whole_any m k W hin.1 hki)
  clear hL ht hk htl hd hin hki
  generalize roundD t k = r at *
  go_enter Tryz.func25, Tryz.ntmps25
  go_wp2_with fail
  refine (HTR.out _).mono ?_
  rintro x w' ⟨rfl, rfl⟩
  clear HTR
  go_wp2_with fail
  refine (HP.out _ (HL.out.grow (grow_new _ _))).mono ?_
  rintro x w1 ⟨rfl, hg⟩
  have HG1 := Lib.hid ((grow_new w _).trans hg)
  have HB0 := Lib.hid ((boxed_new w (.int .i64 0) (.int .i64 0) 28).grow hg)
  clear hg HP
  have hf0 : ∀ o j, (w1.alloc o).frozen? ⟨w.heap.size, j, none⟩ = false := fun o j => (HB0.out.grow (grow_new _ o)).froz j
  have hcc0 : ∀ o, (w1.alloc o).cell? ⟨w.heap.size, 0, none⟩ = some (.int .i64 0) := fun o => (HB0.out.grow (grow_new _ o)).fst
  have hcc1 : ∀ o, (w1.alloc o).cell? ⟨w.heap.size, 1, none⟩ = some (.int .i64 0) := fun o => (HB0.out.grow (grow_new _ o)).snd
  have hne : ¬ w1.heap.size = w.heap.size := by have := HB0.out.lt; omega
  cases b
  · have HR := Lib.hid (HN.out (.inl rfl))
    clear HN HF HY
    go_wp2
    have hr := ((HB0.out.grow (grow_new w1 (.cells #[.int .i64 m, .int .i64 e] 28))).put0 (.int .i64 0)).put1 (.int .i64 0)
    exact bodyPost_ret (v := .tuple #[.agg #[.int .i64 0, .int .i64 0], .bool false]) (by simp [results, Tryz.results25, go_sem, hr.fst, hr.snd]) rfl
      ⟨by rw [HR.out], ((HG1.out.trans (grow_new _ _)).put (Nat.le_refl _) 0 _).put (Nat.le_refl _) 1 _⟩
  · by_cases h0 : e = 0
    · subst h0
      go_wp2_with fail
      refine (HW.out _).mono ?_
      rintro x w3 ⟨rfl, hg⟩
      have HG3 := Lib.hid ((HG1.out.trans (grow_new w1 (.cells #[.int .i64 m, .int .i64 (k : Int)] 28))).trans hg)
      have hb3 := (HB0.out.grow (grow_new w1 (.cells #[.int .i64 m, .int .i64 (k : Int)] 28))).grow hg
      have hc3 := (boxed_new w1 (.int .i64 m) (.int .i64 (k : Int)) 28).grow hg
      have g0 := hb3.froz 0
      have g1 := hb3.froz 1
      have g2 := hb3.fst
      have g3 := hb3.snd
      have d0 := hc3.fst
      have d1 := hc3.snd
      have HB3 := Lib.hid hb3
      clear hg hb3 hc3 HB0 HG1 hf0 hcc0 hcc1
      obtain ⟨v, hv⟩ : ∃ v, (wholeD m k).1 = v := ⟨_, rfl⟩
      obtain ⟨ok, hok⟩ : ∃ ok, (wholeD m k).2 = ok := ⟨_, rfl⟩
      have HF1 := Lib.hid (HF.out m rfl)
      have HY1 := Lib.hid (HY.out m rfl)
      rw [hok] at HF1 HY1
      rw [hv, hok]
      cases ok
      · have HR := Lib.hid (HF1.out rfl)
        clear HN HF HY HF1 HY1 hv hok
        go_wp2
        have hr := ((HB3.out).put0 (.int .i64 0)).put1 (.int .i64 0)
        exact bodyPost_ret (v := .tuple #[.agg #[.int .i64 0, .int .i64 0], .bool false]) (by simp [results, Tryz.results25, go_sem, hr.fst, hr.snd]) rfl
          ⟨by rw [HR.out], (HG3.out.put (Nat.le_refl _) 0 _).put (Nat.le_refl _) 1 _⟩
      · have HR := Lib.hid (HY1.out rfl)
        clear HN HF HY HF1 HY1 hv hok
        go_wp2
        have hr := ((HB3.out).put0 (.int .i64 m)).put1 (.int .i64 (k : Int))
        exact bodyPost_ret (v := .tuple #[.agg #[.int .i64 m, .int .i64 (k : Int)], .bool true]) (by simp [results, Tryz.results25, go_sem, hr.fst, hr.snd]) rfl
          ⟨by rw [HR.out], (HG3.out.put (Nat.le_refl _) 0 _).put (Nat.le_refl _) 1 _⟩
    · have HR := Lib.hid (HN.out (.inr h0))
      have h0b : (e == 0) = false := by simpa using h0
      clear HN HF HY
      go_wp2
      have hr := ((HB0.out.grow (grow_new w1 (.cells #[.int .i64 m, .int .i64 e] 28))).put0 (.int .i64 0)).put1 (.int .i64 0)
      exact bodyPost_ret (v := .tuple #[.agg #[.int .i64 0, .int .i64 0], .bool false]) (by simp [results, Tryz.results25, go_sem, hr.fst, hr.snd]) rfl
        ⟨by rw [HR.out], ((HG1.out.trans (grow_new _ _)).put (Nat.le_refl _) 0 _).put (Nat.le_refl _) 1 _⟩

set_option maxRecDepth 10000 in
set_option maxHeartbeats 1600000 in
theorem one_any (l : List UInt8) (hl : l.length ≤ 1000000) (w : World) (hL : Laid w) :
    Calls Tryz.prog 12 #[.string ⟨l.toArray⟩] w fun x w' => x = .returned (.tuple #[.agg #[.int .i64 (oneD l).1.1, .int .i64 (oneD l).1.2], .bool (oneD l).2]) ∧ Grow w w' := by
  obtain ⟨k, h1, h2, h3, h4⟩ := trim_at l
  have HP := Lib.hid (fun W h => parse_any l hl W h)
  have HR := Lib.hid (fun W h => round_any l hl W h (trimRightB l 48) k rfl h3 h4)
  have HY := Lib.hid (fun h => oneD_of (l := l) h)
  have HN := Lib.hid (fun h => round_of h1 (.inl h2) h)
  have HL := Lib.hid hL
  clear h1 h2 h3 h4 hL
  generalize trimRightB l 48 = t at *
  obtain ⟨⟨⟨m, e⟩, b⟩, hd⟩ : ∃ r, parseD l = r := ⟨_, rfl⟩
  rw [hd] at HP HY HN
  simp only at HP HY HN
  generalize oneD l = r at *
  obtain ⟨⟨⟨m2, e2⟩, b2⟩, hd2⟩ : ∃ r, roundD t k = r := ⟨_, rfl⟩
  rw [hd2] at HR HN
  clear hd hd2
  go_enter Tryz.func12, Tryz.ntmps12
  go_wp2_with fail
  refine (HP.out _ (HL.out.grow (grow_new _ _))).mono ?_
  rintro x w1 ⟨rfl, hg⟩
  have HG1 := Lib.hid ((grow_new w _).trans hg)
  have HB0 := Lib.hid ((boxed_new w (.int .i64 0) (.int .i64 0) 28).grow hg)
  clear hg HP
  have hf0 : ∀ o j, (w1.alloc o).frozen? ⟨w.heap.size, j, none⟩ = false := fun o j => (HB0.out.grow (grow_new _ o)).froz j
  have hcc0 : ∀ o, (w1.alloc o).cell? ⟨w.heap.size, 0, none⟩ = some (.int .i64 0) := fun o => (HB0.out.grow (grow_new _ o)).fst
  have hcc1 : ∀ o, (w1.alloc o).cell? ⟨w.heap.size, 1, none⟩ = some (.int .i64 0) := fun o => (HB0.out.grow (grow_new _ o)).snd
  have hne : ¬ w1.heap.size = w.heap.size := by have := HB0.out.lt; omega
  cases b
  · have HV := Lib.hid (HN.out rfl)
    clear HN HY hf0 hcc0 hcc1
    go_wp2_with fail
    refine (HR.out _ (HL.out.grow (HG1.out.trans (grow_new _ _)))).mono ?_
    rintro x w3 ⟨rfl, hg⟩
    have HG3 := Lib.hid ((HG1.out.trans (grow_new w1 (.cells #[.int .i64 m, .int .i64 e] 28))).trans hg)
    have hb3 := (HB0.out.grow (grow_new w1 (.cells #[.int .i64 m, .int .i64 e] 28))).grow hg
    have g0 := hb3.froz 0
    have g1 := hb3.froz 1
    have g2 := hb3.fst
    have g3 := hb3.snd
    have HB3 := Lib.hid hb3
    clear hg hb3 HB0 HG1
    go_wp2
    have hr := ((HB3.out).put0 (.int .i64 m2)).put1 (.int .i64 e2)
    exact bodyPost_ret (v := .tuple #[.agg #[.int .i64 m2, .int .i64 e2], .bool b2]) (by simp [results, Tryz.results12, go_sem, hr.fst, hr.snd]) rfl
      ⟨by rw [HV.out], (HG3.out.put (Nat.le_refl _) 0 _).put (Nat.le_refl _) 1 _⟩
  · have HV := Lib.hid (HY.out rfl)
    clear HN HY HR
    go_wp2
    have hr := ((HB0.out.grow (grow_new w1 (.cells #[.int .i64 m, .int .i64 e] 28))).put0 (.int .i64 m)).put1 (.int .i64 e)
    exact bodyPost_ret (v := .tuple #[.agg #[.int .i64 m, .int .i64 e], .bool true]) (by simp [results, Tryz.results12, go_sem, hr.fst, hr.snd]) rfl
      ⟨by rw [HV.out], ((HG1.out.trans (grow_new _ _)).put (Nat.le_refl _) 0 _).put (Nat.le_refl _) 1 _⟩
end Go.Proofs.YtkebngldmcoaaaaGreatDoor
