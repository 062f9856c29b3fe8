/-
  Contracts, joined: NNTexts, NDecMem, NMakes, NReads, QUtf, QRunes, QQuoteMath, QIntMem, QBytes, QFirst. Nothing is claimed here by itself.
-/
import Derived.Test.YteoogioanjkacaaGreatDoorK06
import Derived.Test.YteoogioanjkacaaGreatDoorProg
import Derived.ProofKit
import Derived.WalkKit
import Derived.Laws.CopyOwn
import Derived.Laws.MakeOwn
import Derived.Laws.AppendOwnNone
import Derived.ArgAppend
import Derived.Maps.AppendAt
import Derived.Lib.Hide
import Derived.Lib.SmallJoins
import Derived.OpenShut
import Derived.Deep.LoopGhost
import Derived.Shelf.Pu.Clone
import Derived.Lib.TrimUEq
import Derived.Lib.RuneBytes
import Derived.Lib.OthersKept
import Derived.Lib.AppendStr
import Derived.Laws.BytesArg
import Derived.Laws.OwnMore
import Derived.Deep.CutBlock
import Derived.Deep.DeepCutAuto
namespace Go.Proofs.YteoogioanjkacaaGreatDoor.Num
set_option maxRecDepth 20000
open Go.RowKit Go.Lib
set_option linter.unusedSimpArgs false
set_option linter.unusedVariables false
theorem repeat_zeros (j : Nat) : repeatL [48] j = List.replicate j 48 := by
  have := repeatL_replicate 48 1 j
  simpa using this

/-- a whole number's text: the digits without noughts, and these -/
theorem textOf_math {n : Int} (hn : In n) : ∃ q, ∃ j : Nat, norm n 0 = ((q, (j : Int)), true) ∧ In q ∧ j ≤ 18 ∧ text q 0 = num q ∧ num n = num q ++ repeatL [48] j := by
  by_cases h0 : n = 0
  · subst h0
    exact ⟨0, 0, norm_zero 0, hn, by omega, text_plain zero_right, by simp [repeatL]⟩
  · obtain ⟨q, j, hq, hq10, hj⟩ := parts_in hn h0
    have hqr : rightD q 0 = true := rightD_of (.inr ⟨hq10, by decide, by decide⟩)
    have hok : okExp (0 + (j : Nat)) = true := by simp [okExp]; omega
    refine ⟨q, j, ?_, q_in hn hq, hj, text_plain hqr, ?_⟩
    · rw [norm_of hq hq10 (by omega), if_pos hok, Int.zero_add]
    · rw [repeat_zeros, hq, num_mul j (by omega)]

theorem in_zero : In 0 := ⟨by decide, by decide⟩

set_option maxRecDepth 10000 in
set_option maxHeartbeats 800000 in
theorem textOf_any (n : Int) (w : World) (hn : In n) (hp : Pows w) :
    Calls Tryz.prog 37 #[.int .i64 n] w fun e w' => e = .returned (.string ⟨(num n).toArray⟩) ∧ Grow w w' := by
  obtain ⟨q, j, h1, hq, hj, ht, hnum⟩ := textOf_math hn
  have HO := Lib.hid (of_any n w hn)
  rw [h1] at HO
  have HT := Lib.hid (fun W (h : Pows W) => text_any q 0 W hq in_zero h)
  rw [ht] at HT
  have HR := Lib.hid (fun W => Tryz.strings_Repeat ⟨#[48]⟩ j W (by omega) (by rw [show (⟨#[48]⟩ : ByteArray).size = 1 from rfl]; omega))
  rw [show (⟨#[48]⟩ : ByteArray).data.toList = [48] from rfl] at HR
  have HP := Lib.hid hp
  have hlq := num_len hq
  have hlz : (repeatL [48] j).length = j := by rw [repeatL_length]; simp
  have hs : ¬ 9223372036854775807 < (num q).length + (repeatL [48] j).length := by omega
  rw [hnum]
  clear h1 hq hj ht hnum hp hlq hlz hn
  generalize num q = a at *
  generalize repeatL [48] j = z at *
  go_enter Tryz.func37, Tryz.ntmps37
  go_wp2_with fail
  refine (HO.out).mono ?_
  rintro e w1 ⟨rfl, hg⟩
  have HG := Lib.hid hg
  have HB := Lib.hid (boxed_new w1 (.int .i64 q) (.int .i64 (j : Int)) 41)
  have HN := Lib.hid (grow_new w1 (.cells #[.int .i64 q, .int .i64 (j : Int)] 41))
  have HP1 := Lib.hid ((HP.out.grow HG.out).grow HN.out)
  clear hg HO HP
  go_wp2_with fail
  refine wp_region_R Grow (n := 9) rfl (by kernel_rfl) ?_
  intro W0 hW0e hW0
  have hG0 : Grow (w1.alloc (.cells #[.int .i64 q, .int .i64 (j : Int)] 41)) W0 := hW0
  have hd0 : ∀ wg, Grow W0 wg → wg.cell? ⟨w1.heap.size, 0, none⟩ = some (.int .i64 q) := fun wg h => ((HB.out.grow hG0).grow h).fst
  have hd1 : ∀ wg, Grow W0 wg → wg.cell? ⟨w1.heap.size, 1, none⟩ = some (.int .i64 (j : Int)) := fun wg h => ((HB.out.grow hG0).grow h).snd
  clear hW0e
  refine wpR_take growOrd (i := 0) (v := ?vf1) rfl (by kernel_rfl) (by kernel_rfl) (by kernel_rfl) (fun _ _ _ h => h) (by rfl) ?hf1 ?rf1
  case hf1 => (intro wg hSw; go_simp <;> with_reducible rfl)
  simp only [Act.put, List.setIfInBounds_toArray, List.set_cons_zero, List.set_cons_succ]
  refine wpR_take growOrd (i := 1) (v := ?vf2) rfl (by kernel_rfl) (by kernel_rfl) (by kernel_rfl) (fun _ _ _ h => h) (by rfl) ?hf2 ?rf2
  case hf2 => (intro wg hSw; go_simp <;> with_reducible rfl)
  simp only [Act.put, List.setIfInBounds_toArray, List.set_cons_zero, List.set_cons_succ]
  refine wpR_take growOrd (i := 2) (v := ?vf3) rfl (by kernel_rfl) (by kernel_rfl) (by kernel_rfl) (fun _ _ _ h => h) (by rfl) ?hf3 ?rf3
  case hf3 => (intro wg hSw; go_simp <;> with_reducible rfl)
  simp only [Act.put, List.setIfInBounds_toArray, List.set_cons_zero, List.set_cons_succ]
  refine wpR_take growOrd (i := 4) (v := ?vf4) rfl (by kernel_rfl) (by kernel_rfl) (by kernel_rfl) (fun _ _ _ h => h) (by rfl) ?hf4 ?rf4
  case hf4 => (intro wg hSw; go_simp <;> with_reducible rfl)
  simp only [Act.put, List.setIfInBounds_toArray, List.set_cons_zero, List.set_cons_succ]
  refine wpR_take growOrd (i := 5) (v := ?vf5) rfl (by kernel_rfl) (by kernel_rfl) (by kernel_rfl) (fun _ _ _ h => h) (by rfl) ?hf5 ?rf5
  case hf5 => (intro wg hSw; go_simp <;> with_reducible rfl)
  simp only [Act.put, List.setIfInBounds_toArray, List.set_cons_zero, List.set_cons_succ]
  refine wpR_one (i := 3) (by kernel_rfl) ?_
  refine wpR_op (i := 3) rfl (by rfl) (fun K hK => ?_)
  go_simp
  refine (HT.out W0 (HP1.out.grow (hG0.trans (Grow.refl W0)))).mono ?_
  rintro x wM3 ⟨rfl, hM3⟩
  refine hK.out _ _ hM3 ?_
  clear hK K
  try simp only [Act.put, List.setIfInBounds_toArray, List.set_cons_zero, List.set_cons_succ]
  refine wpR_one (i := 6) (by kernel_rfl) ?_
  refine wpR_op (i := 6) rfl (by rfl) (fun K hK => ?_)
  go_simp
  refine (HR.out wM3).mono ?_
  rintro x wM6 ⟨rfl, hM6'⟩
  have hM6 : Grow wM3 wM6 := hM6'
  clear hM6'
  refine hK.out _ _ hM6 ?_
  clear hK K
  try simp only [Act.put, List.setIfInBounds_toArray, List.set_cons_zero, List.set_cons_succ]
  refine wpR_take growOrd (i := 7) (v := ?vf6) rfl (by kernel_rfl) (by kernel_rfl) (by kernel_rfl) (fun _ _ _ h => h) (by rfl) ?hf6 ?rf6
  case hf6 => (intro wg hSw; go_simp <;> with_reducible rfl)
  simp only [Act.put, List.setIfInBounds_toArray, List.set_cons_zero, List.set_cons_succ]
  refine wpR_take growOrd (i := 8) (v := ?vf7) rfl (by kernel_rfl) (by kernel_rfl) (by kernel_rfl) (fun _ _ _ h => h) (by rfl) ?hf7 ?rf7
  case hf7 => (intro wg hSw; go_simp <;> with_reducible rfl)
  simp only [Act.put, List.setIfInBounds_toArray, List.set_cons_zero, List.set_cons_succ]
  refine wpR_done (by kernel_rfl) ?_
  go_wp2
  go_ret
  exact ⟨congrArg (fun s => Ending.returned (Value.string s)) (str_app a z), (HG.out.trans HN.out).trans (hG0.trans (Grow.trans (Grow.trans (Grow.refl W0) hM3) hM6))⟩

/-- a text without the noughts at its end, and how many they are -/
theorem trim_at (l : List UInt8) : ∃ k, l = trimRightB l 48 ++ List.replicate k 48 ∧ (trimRightB l 48).getLast? ≠ some 48 ∧ k = l.length - (trimRightB l 48).length ∧ (trimRightB l 48).length ≤ l.length := by
  have key : ∀ r : List UInt8, ∃ k, r = List.replicate k 48 ++ r.dropWhile (· == 48) ∧ (r.dropWhile (· == 48)).head? ≠ some 48 := by
    intro r
    induction r with
    | nil => exact ⟨0, by simp, by simp⟩
    | cons c r ih =>
      by_cases h : c = 48
      · subst h
        obtain ⟨k, h1, h2⟩ := ih
        refine ⟨k + 1, ?_, ?_⟩
        · rw [List.dropWhile_cons_of_pos (by decide), List.replicate_succ, List.cons_append, ← h1]
        · rw [List.dropWhile_cons_of_pos (by decide)]; exact h2
      · refine ⟨0, ?_, ?_⟩
        · rw [List.dropWhile_cons_of_neg (by simpa using h)]; simp
        · rw [List.dropWhile_cons_of_neg (by simpa using h)]; simpa using h
  obtain ⟨k, h1, h2⟩ := key l.reverse
  have e : l = trimRightB l 48 ++ List.replicate k 48 := by
    unfold trimRightB
    have := congrArg List.reverse h1
    rw [List.reverse_reverse, List.reverse_append, List.reverse_replicate] at this
    exact this
  refine ⟨k, e, ?_, ?_, ?_⟩
  · unfold trimRightB
    rw [List.getLast?_reverse]
    exact h2
  · have := congrArg List.length e
    rw [List.length_append, List.length_replicate] at this
    omega
  · have := congrArg List.length e
    rw [List.length_append, List.length_replicate] at this
    omega

theorem roundD_not {t : List UInt8} {k : Nat} (h : (parseD t).2 = false ∨ (parseD t).1.2 ≠ 0) : roundD t k = ((0, 0), false) := by
  unfold roundD
  rw [if_neg]
  rintro ⟨h1, h2, _⟩
  rcases h with h | h
  · rw [h] at h1; cases h1
  · exact h h2
theorem roundD_far {t : List UInt8} {k : Nat} {m : Int} (hp : parseD t = ((m, 0), true)) (h : (wholeD m k).2 = false) : roundD t k = ((0, 0), false) := by
  unfold roundD
  rw [hp, if_neg]
  rintro ⟨_, _, h3⟩
  simp only at h3
  rw [h] at h3
  cases h3
theorem roundD_yes {t : List UInt8} {k : Nat} {m : Int} (hp : parseD t = ((m, 0), true)) (h : (wholeD m k).2 = true) : roundD t k = ((m, (k : Int)), true) := by
  unfold roundD
  rw [hp, if_pos ⟨rfl, rfl, h⟩]

set_option maxRecDepth 10000 in
set_option maxHeartbeats 1600000 in
theorem round_any (l : List UInt8) (hl : l.length ≤ 1000000) (w : World) (hL : Laid w) (t : List UInt8) (k : Nat) (ht : trimRightB l 48 = t) (hk : k = l.length - t.length) (htl : t.length ≤ l.length) :
    Calls Tryz.prog 158 #[.string ⟨l.toArray⟩] w fun x w' => x = .returned (.tuple #[.agg #[.int .i64 (roundD t k).1.1, .int .i64 (roundD t k).1.2], .bool (roundD t k).2]) ∧ Grow w w' := by
  have HTR := Lib.hid (fun W => Tryz.strings_TrimRight_one ⟨l.toArray⟩ 48 (by decide) W (by rw [str_size]; omega))
  rw [show (⟨l.toArray⟩ : ByteArray).data.toList = l from rfl, ht] at HTR
  have HP := Lib.hid (fun W h => parse_any t (by omega) W h)
  have hin := parseD_in t
  have HN := Lib.hid (roundD_not (t := t) (k := k))
  have HF := Lib.hid (fun (m : Int) hp h => roundD_far (t := t) (k := k) (m := m) hp h)
  have HY := Lib.hid (fun (m : Int) hp h => roundD_yes (t := t) (k := k) (m := m) hp h)
  obtain ⟨⟨⟨m, e⟩, b⟩, hd⟩ : ∃ r, parseD t = r := ⟨_, rfl⟩
  rw [hd] at HP hin HN HF HY
  simp only at HP hin HN
  have HL := Lib.hid hL
  have hs1 := str_size l
  have hs2 := str_size t
  have hsub : IntKind.i64.wrap (((l.length : Nat) : Int) - ((t.length : Nat) : Int)) = (k : Nat) := by rw [IntKind.wrap_i64]; omega
  have hki : In (k : Int) := ⟨by omega, by omega⟩
  have HW := Lib.hid (fun W => dwhole_any m k W hin.1 hki)
  clear hL ht hk htl hd hin hki
  generalize roundD t k = r at *
  go_enter Tryz.func158, Tryz.ntmps158
  go_wp2_with fail
  refine (HTR.out _).mono ?_
  rintro x w' ⟨rfl, rfl⟩
  clear HTR
  go_wp2_with fail
  refine (HP.out _ (HL.out.grow (grow_new _ _))).mono ?_
  rintro x w1 ⟨rfl, hg⟩
  have HG1 := Lib.hid ((grow_new w _).trans hg)
  have HB0 := Lib.hid ((boxed_new w (.int .i64 0) (.int .i64 0) 41).grow hg)
  clear hg HP
  have hf0 : ∀ o j, (w1.alloc o).frozen? ⟨w.heap.size, j, none⟩ = false := fun o j => (HB0.out.grow (grow_new _ o)).froz j
  have hcc0 : ∀ o, (w1.alloc o).cell? ⟨w.heap.size, 0, none⟩ = some (.int .i64 0) := fun o => (HB0.out.grow (grow_new _ o)).fst
  have hcc1 : ∀ o, (w1.alloc o).cell? ⟨w.heap.size, 1, none⟩ = some (.int .i64 0) := fun o => (HB0.out.grow (grow_new _ o)).snd
  have hne : ¬ w1.heap.size = w.heap.size := by have := HB0.out.lt; omega
  cases b
  · have HR := Lib.hid (HN.out (.inl rfl))
    clear HN HF HY
    go_wp2
    have hr := ((HB0.out.grow (grow_new w1 (.cells #[.int .i64 m, .int .i64 e] 41))).put0 (.int .i64 0)).put1 (.int .i64 0)
    exact bodyPost_ret (v := .tuple #[.agg #[.int .i64 0, .int .i64 0], .bool false]) (by simp [results, Tryz.results158, go_sem, hr.fst, hr.snd]) rfl
      ⟨by rw [HR.out], ((HG1.out.trans (grow_new _ _)).put (Nat.le_refl _) 0 _).put (Nat.le_refl _) 1 _⟩
  · by_cases h0 : e = 0
    · subst h0
      go_wp2_with fail
      refine (HW.out _).mono ?_
      rintro x w3 ⟨rfl, hg⟩
      have HG3 := Lib.hid ((HG1.out.trans (grow_new w1 (.cells #[.int .i64 m, .int .i64 (k : Int)] 41))).trans hg)
      have hb3 := (HB0.out.grow (grow_new w1 (.cells #[.int .i64 m, .int .i64 (k : Int)] 41))).grow hg
      have hc3 := (boxed_new w1 (.int .i64 m) (.int .i64 (k : Int)) 41).grow hg
      have g0 := hb3.froz 0
      have g1 := hb3.froz 1
      have g2 := hb3.fst
      have g3 := hb3.snd
      have d0 := hc3.fst
      have d1 := hc3.snd
      have HB3 := Lib.hid hb3
      clear hg hb3 hc3 HB0 HG1 hf0 hcc0 hcc1
      obtain ⟨v, hv⟩ : ∃ v, (wholeD m k).1 = v := ⟨_, rfl⟩
      obtain ⟨ok, hok⟩ : ∃ ok, (wholeD m k).2 = ok := ⟨_, rfl⟩
      have HF1 := Lib.hid (HF.out m rfl)
      have HY1 := Lib.hid (HY.out m rfl)
      rw [hok] at HF1 HY1
      rw [hv, hok]
      cases ok
      · have HR := Lib.hid (HF1.out rfl)
        clear HN HF HY HF1 HY1 hv hok
        go_wp2
        have hr := ((HB3.out).put0 (.int .i64 0)).put1 (.int .i64 0)
        exact bodyPost_ret (v := .tuple #[.agg #[.int .i64 0, .int .i64 0], .bool false]) (by simp [results, Tryz.results158, go_sem, hr.fst, hr.snd]) rfl
          ⟨by rw [HR.out], (HG3.out.put (Nat.le_refl _) 0 _).put (Nat.le_refl _) 1 _⟩
      · have HR := Lib.hid (HY1.out rfl)
        clear HN HF HY HF1 HY1 hv hok
        go_wp2
        have hr := ((HB3.out).put0 (.int .i64 m)).put1 (.int .i64 (k : Int))
        exact bodyPost_ret (v := .tuple #[.agg #[.int .i64 m, .int .i64 (k : Int)], .bool true]) (by simp [results, Tryz.results158, go_sem, hr.fst, hr.snd]) rfl
          ⟨by rw [HR.out], (HG3.out.put (Nat.le_refl _) 0 _).put (Nat.le_refl _) 1 _⟩
    · have HR := Lib.hid (HN.out (.inr h0))
      have h0b : (e == 0) = false := by simpa using h0
      clear HN HF HY
      go_wp2
      have hr := ((HB0.out.grow (grow_new w1 (.cells #[.int .i64 m, .int .i64 e] 41))).put0 (.int .i64 0)).put1 (.int .i64 0)
      exact bodyPost_ret (v := .tuple #[.agg #[.int .i64 0, .int .i64 0], .bool false]) (by simp [results, Tryz.results158, go_sem, hr.fst, hr.snd]) rfl
        ⟨by rw [HR.out], ((HG1.out.trans (grow_new _ _)).put (Nat.le_refl _) 0 _).put (Nat.le_refl _) 1 _⟩

set_option maxRecDepth 10000 in
set_option maxHeartbeats 1600000 in
theorem one_any (l : List UInt8) (hl : l.length ≤ 1000000) (w : World) (hL : Laid w) :
    Calls Tryz.prog 132 #[.string ⟨l.toArray⟩] w fun x w' => x = .returned (.tuple #[.agg #[.int .i64 (oneD l).1.1, .int .i64 (oneD l).1.2], .bool (oneD l).2]) ∧ Grow w w' := by
  obtain ⟨k, h1, h2, h3, h4⟩ := trim_at l
  have HP := Lib.hid (fun W h => parse_any l hl W h)
  have HR := Lib.hid (fun W h => round_any l hl W h (trimRightB l 48) k rfl h3 h4)
  have HY := Lib.hid (fun h => oneD_of (l := l) h)
  have HN := Lib.hid (fun h => round_of h1 (.inl h2) h)
  have HL := Lib.hid hL
  clear h1 h2 h3 h4 hL
  generalize trimRightB l 48 = t at *
  obtain ⟨⟨⟨m, e⟩, b⟩, hd⟩ : ∃ r, parseD l = r := ⟨_, rfl⟩
  rw [hd] at HP HY HN
  simp only at HP HY HN
  generalize oneD l = r at *
  obtain ⟨⟨⟨m2, e2⟩, b2⟩, hd2⟩ : ∃ r, roundD t k = r := ⟨_, rfl⟩
  rw [hd2] at HR HN
  clear hd hd2
  go_enter Tryz.func132, Tryz.ntmps132
  go_wp2_with fail
  refine (HP.out _ (HL.out.grow (grow_new _ _))).mono ?_
  rintro x w1 ⟨rfl, hg⟩
  have HG1 := Lib.hid ((grow_new w _).trans hg)
  have HB0 := Lib.hid ((boxed_new w (.int .i64 0) (.int .i64 0) 41).grow hg)
  clear hg HP
  have hf0 : ∀ o j, (w1.alloc o).frozen? ⟨w.heap.size, j, none⟩ = false := fun o j => (HB0.out.grow (grow_new _ o)).froz j
  have hcc0 : ∀ o, (w1.alloc o).cell? ⟨w.heap.size, 0, none⟩ = some (.int .i64 0) := fun o => (HB0.out.grow (grow_new _ o)).fst
  have hcc1 : ∀ o, (w1.alloc o).cell? ⟨w.heap.size, 1, none⟩ = some (.int .i64 0) := fun o => (HB0.out.grow (grow_new _ o)).snd
  have hne : ¬ w1.heap.size = w.heap.size := by have := HB0.out.lt; omega
  cases b
  · have HV := Lib.hid (HN.out rfl)
    clear HN HY hf0 hcc0 hcc1
    go_wp2_with fail
    refine (HR.out _ (HL.out.grow (HG1.out.trans (grow_new _ _)))).mono ?_
    rintro x w3 ⟨rfl, hg⟩
    have HG3 := Lib.hid ((HG1.out.trans (grow_new w1 (.cells #[.int .i64 m, .int .i64 e] 41))).trans hg)
    have hb3 := (HB0.out.grow (grow_new w1 (.cells #[.int .i64 m, .int .i64 e] 41))).grow hg
    have g0 := hb3.froz 0
    have g1 := hb3.froz 1
    have g2 := hb3.fst
    have g3 := hb3.snd
    have HB3 := Lib.hid hb3
    clear hg hb3 HB0 HG1
    go_wp2
    have hr := ((HB3.out).put0 (.int .i64 m2)).put1 (.int .i64 e2)
    exact bodyPost_ret (v := .tuple #[.agg #[.int .i64 m2, .int .i64 e2], .bool b2]) (by simp [results, Tryz.results132, go_sem, hr.fst, hr.snd]) rfl
      ⟨by rw [HV.out], (HG3.out.put (Nat.le_refl _) 0 _).put (Nat.le_refl _) 1 _⟩
  · have HV := Lib.hid (HY.out rfl)
    clear HN HY HR
    go_wp2
    have hr := ((HB0.out.grow (grow_new w1 (.cells #[.int .i64 m, .int .i64 e] 41))).put0 (.int .i64 m)).put1 (.int .i64 e)
    exact bodyPost_ret (v := .tuple #[.agg #[.int .i64 m, .int .i64 e], .bool true]) (by simp [results, Tryz.results132, go_sem, hr.fst, hr.snd]) rfl
      ⟨by rw [HV.out], ((HG1.out.trans (grow_new _ _)).put (Nat.le_refl _) 0 _).put (Nat.le_refl _) 1 _⟩
end Go.Proofs.YteoogioanjkacaaGreatDoor.Num
namespace Go.Proofs.YteoogioanjkacaaGreatDoor.Num
set_option maxRecDepth 20000
open Go.RowKit Go.Lib
set_option linter.unusedSimpArgs false
set_option linter.unusedVariables false
theorem heap_lt {w : World} {b : Nat} {o : Obj} (h : w.heap[b]? = some o) : b < w.heap.size := (Array.getElem?_eq_some_iff.1 h).1
def ivs (xs : List Int) : List Value := xs.map fun x => .int .i64 x
def dvs (ds : List (Int × Int)) : List Value := ds.flatMap fun x => [.int .i64 x.1, .int .i64 x.2]
/-- the cells that a slice reads -/
def Src (w : World) (A : Option Addr) (vs : List Value) : Prop := 0 < vs.length → ∃ ad, A = some ad ∧ ∀ j u, vs[j]? = some u → w.cell? (ad.add j) = some u
def Ones (vs : List Value) : Prop := ∀ u ∈ vs, u.oneCell' = true
theorem info_of {P : Program} {e : TypeId} {z : Value} {size bytes : Nat} (h : (P.info? e).map (fun i => (i.zero, i.size, i.bytes)) = some (some z, size, bytes)) : ∃ i, P.info? e = some i ∧ i.zero = some z ∧ i.size = size ∧ i.bytes = bytes := by
  obtain ⟨i, hi, hz⟩ := Option.map_eq_some_iff.1 h
  simp only [Prod.mk.injEq] at hz
  exact ⟨i, hi, hz.1, hz.2.1, hz.2.2⟩
theorem make_of {P : Program} {t e : TypeId} {z : Value} {size bytes : Nat} (ht : P.underlying t = some (.slice e)) (h : (P.info? e).map (fun i => (i.zero, i.size, i.bytes)) = some (some z, size, bytes)) (n : Nat) (hb : bytes * n ≤ 281474976710656) (hn : n ≤ 9223372036854775807) :
    ∃ cur : Array Value, cur.size = n * size ∧ ∀ W : World, (Instr.makeSlice t (.int .i64 (n : Nat)) (.int .i64 (n : Nat))).run P W = .ok (.slice (some ⟨W.heap.size, 0, none⟩) n n) (W.alloc (.cells cur e)) := by
  obtain ⟨i, hi, hz, hs, hby⟩ := info_of h
  refine ⟨madeCells z.cells (n * size), size_madeCells _ _, fun W => ?_⟩
  have hb' : (i.bytes : Int) * ((n : Nat) : Int) ≤ 281474976710656 := by
    have h : ((i.bytes * n : Nat) : Int) ≤ 281474976710656 := by rw [hby]; omega
    rwa [Int.natCast_mul] at h
  have hr := run_make (P := P) W t e i z ht hi hz .i64 .i64 n n (by omega) (Int.le_refl _) hb' (by omega)
  simp only [Int.toNat_natCast, hs] at hr
  exact hr
theorem info_int : (Tryz.prog.info? 3).map (fun i => (i.zero, i.size, i.bytes)) = some (some (.int .i64 0), 1, 8) := by kernel_rfl
theorem info_dec : (Tryz.prog.info? 41).map (fun i => (i.zero, i.size, i.bytes)) = some (some (.agg #[.int .i64 0, .int .i64 0]), 2, 16) := by kernel_rfl
theorem info_str : (Tryz.prog.info? 9).map (fun i => (i.zero, i.size, i.bytes)) = some (some (.string ⟨#[]⟩), 1, 16) := by kernel_rfl
theorem ivs_len (xs : List Int) : (ivs xs).length = xs.length * 1 := by simp [ivs]
theorem dvs_len (ds : List (Int × Int)) : (dvs ds).length = ds.length * 2 := by
  induction ds with
  | nil => rfl
  | cons x ds ih => simp only [dvs, List.flatMap_cons, List.length_append, List.length_cons, List.length_nil] at ih ⊢; omega
theorem ivs_one (xs : List Int) : Ones (ivs xs) := fun u hu => by
  obtain ⟨x, _, rfl⟩ := List.mem_map.1 hu
  rfl
theorem dvs_one (ds : List (Int × Int)) : Ones (dvs ds) := fun u hu => by
  obtain ⟨x, _, hx⟩ := List.mem_flatMap.1 hu
  simp only [List.mem_cons, List.not_mem_nil, or_false] at hx
  rcases hx with rfl | rfl <;> rfl
theorem dvs_get (ds : List (Int × Int)) : ∀ i, i < ds.length → (dvs ds)[i * 2]? = some (.int .i64 (ds.getD i (0, 0)).1) ∧ (dvs ds)[i * 2 + 1]? = some (.int .i64 (ds.getD i (0, 0)).2) := by
  induction ds with
  | nil => intro i hi; simp at hi
  | cons x ds ih =>
    intro i hi
    cases i with
    | zero => simp [dvs]
    | succ i =>
      have := ih i (by simpa using hi)
      simp only [dvs, List.flatMap_cons] at this ⊢
      rw [show (i + 1) * 2 = i * 2 + 1 + 1 by omega]
      simpa using this
theorem addr_add (b off j : Nat) : (⟨b, off, none⟩ : Addr).add j = ⟨b, off + j, none⟩ := by unfold Addr.add; split <;> simp_all
theorem src_nums {w : World} {B : Nat} {A : Option Addr} {xs : List Int} (h : Nums .i64 w B A xs) : Src w A (ivs xs) := fun hp => by
  rw [ivs_len, Nat.mul_one] at hp
  obtain ⟨b, off, rfl, _, hc⟩ := h hp
  refine ⟨_, rfl, fun j u hj => ?_⟩
  have hl : j < xs.length := by
    have := (List.getElem?_eq_some_iff.1 hj).1
    rw [ivs_len] at this
    omega
  rw [addr_add, hc j hl, ← hj]
  simp [ivs, hl]
theorem src_decs {w : World} {B : Nat} {A : Option Addr} {ds : List (Int × Int)} (h : Decs w B A ds) : Src w A (dvs ds) := fun hp => by
  rw [dvs_len] at hp
  obtain ⟨b, off, rfl, _, hc⟩ := h (by omega)
  refine ⟨_, rfl, fun j u hj => ?_⟩
  have hl : j / 2 < ds.length := by
    have := (List.getElem?_eq_some_iff.1 hj).1
    rw [dvs_len] at this
    omega
  rw [addr_add, ← hj]
  obtain ⟨h1, h2⟩ := hc (j / 2) hl
  obtain ⟨g1, g2⟩ := dvs_get ds (j / 2) hl
  rcases Nat.mod_two_eq_zero_or_one j with h0 | h0
  · rw [show j / 2 * 2 = j by omega] at h1 g1
    rw [h1, g1]
  · rw [show off + j / 2 * 2 + 1 = off + j by omega] at h2
    rw [show j / 2 * 2 + 1 = j by omega] at g2
    rw [h2, g2]
theorem ivs_app (a b : List Int) : ivs (a ++ b) = ivs a ++ ivs b := by simp [ivs]
theorem dvs_app (a b : List (Int × Int)) : dvs (a ++ b) = dvs a ++ dvs b := by simp [dvs]
theorem ownsRow_grow {w w' : World} {base size n : Nat} {t : TypeId} {v : Value} {vals : List Value} (ho : w.ownsRow base t size v n vals) (hg : Grow w w') : w'.ownsRow base t size v n vals :=
  ⟨ho.1, by
    rcases ho.2 with h0 | ⟨g', cap', cur, hv, hbg, hgg, rest⟩
    · exact .inl h0
    · exact .inr ⟨g', cap', cur, hv, hbg, (hg.block g' (heap_lt hgg)).trans hgg, rest⟩⟩

theorem run_append_empty (t ty e : TypeId) (i : TypeInfo) (ht : Tryz.prog.underlying t = some (.slice e)) (hi : Tryz.prog.info? e = some i) (w : World) (B size n : Nat) (v : Value) (xs : List Value)
    (hv : w.ownsRow B e size v n xs) (A : Option Addr) (c : Nat) :
    (Builtin.append_ #[t, t] ty #[v, .slice A 0 c]).run Tryz.prog w = .ok v w := by
  rcases hv.2 with ⟨rfl, rfl⟩ | ⟨g, cap, cur, rfl, _, _, hnc, _⟩
  · cases A <;> simp [Builtin.append_, run_underlying ht, sizeOf, typeInfo, hi, Builtin.lenOf, Builtin.firstCells, loadCells, loadCellsFrom, storeCells]
  · cases A <;> simp [Builtin.append_, run_underlying ht, sizeOf, typeInfo, hi, Builtin.lenOf, Builtin.firstCells, loadCells, loadCellsFrom, storeCells, hnc]
theorem run_append_any (w : World) (B : Nat) (t ty e : TypeId) (i : TypeInfo) (z : Value) (size bytes : Nat) (ht : Tryz.prog.underlying t = some (.slice e)) (hi : Tryz.prog.info? e = some i) (hz : i.zero = some z)
    (hsize : i.size = size) (hby : i.bytes = bytes) (hzs : z.cells.size = size) (hsz : 0 < size) (v : Value) (n : Nat) (xs : List Value) (hown : w.ownsRow B e size v n xs)
    (A : Option Addr) (m c : Nat) (news : List Value) (hl : news.length = m * size) (hsrc : Src w A news) (h1 : Ones news) (hb : (n + m) * bytes ≤ 140737488355328) (hb2 : n + m ≤ 1000000000) (hB : B ≤ w.heap.size) :
    ∃ v' w', (Builtin.append_ #[t, t] ty #[v, .slice A m c]).run Tryz.prog w = .ok v' w' ∧ w'.ownsRow B e size v' (n + m) (xs ++ news) ∧ Below B w w' := by
  by_cases h0 : m = 0
  · subst h0
    have hn0 : news = [] := List.eq_nil_of_length_eq_zero (by omega)
    subst hn0
    exact ⟨v, w, run_append_empty t ty e i ht hi w B size n v xs hown A c, by simpa using hown, Below.refl _ _⟩
  · obtain ⟨ad, rfl, hc⟩ := hsrc (by rw [hl]; exact Nat.mul_pos (by omega) hsz)
    obtain ⟨v', w', hr, h2, h3, _, h5⟩ := run_append_own_at (P := Tryz.prog) w B t ty e i z size bytes ht hi hz hsize hby hzs hsz v n xs hown ad m c news hl hc h1 (by unfold maxLen; omega) hb hB
    exact ⟨v', w', hr, h2, Below.grown (Below.refl _ _) h3 hB (fun g hg => (hown.lt g hg).1)⟩

/-- whole numbers of one's own, exact ones of one's own -/
def OwnI (B : Nat) (v : Value) (xs : List Int) (w : World) : Prop := w.ownsRow B 3 1 v xs.length (ivs xs)
def OwnD (B : Nat) (v : Value) (ds : List (Int × Int)) (w : World) : Prop := w.ownsRow B 41 2 v ds.length (dvs ds)
theorem ownI_nil (B : Nat) (w : World) : OwnI B (.slice none 0 0) [] w := World.ownsRow_nil _ _ _ _
theorem ownD_nil (B : Nat) (w : World) : OwnD B (.slice none 0 0) [] w := World.ownsRow_nil _ _ _ _
theorem OwnI.grow {B : Nat} {v : Value} {xs : List Int} {w w' : World} (h : OwnI B v xs w) (hg : Grow w w') : OwnI B v xs w' := ownsRow_grow h hg
theorem OwnD.grow {B : Nat} {v : Value} {ds : List (Int × Int)} {w w' : World} (h : OwnD B v ds w) (hg : Grow w w') : OwnD B v ds w' := ownsRow_grow h hg
theorem own_at {w : World} {B size n : Nat} {e : TypeId} {v : Value} {xs : List Value} (h : w.ownsRow B e size v n xs) :
    ∃ A c, v = .slice A n c ∧ n ≤ c ∧ (A = none → c = 0) ∧ (0 < n → ∃ g, A = some ⟨g, 0, none⟩ ∧ B ≤ g ∧ g < w.heap.size ∧ ∀ j u, xs[j]? = some u → w.cell? ⟨g, j, none⟩ = some u) := by
  rcases h.2 with ⟨rfl, rfl⟩ | ⟨g, cap, cur, rfl, hbg, hgg, hnc, hcm, hsz, htake⟩
  · exact ⟨none, 0, rfl, Nat.le_refl _, fun _ => rfl, fun h => absurd h (Nat.lt_irrefl _)⟩
  · refine ⟨some ⟨g, 0, none⟩, cap, rfl, hnc, (fun e => by cases e), fun _ => ⟨g, rfl, hbg, heap_lt hgg, fun j u hj => ?_⟩⟩
    have hjl : j < n * size := by
      have := (List.getElem?_eq_some_iff.1 hj).1
      rw [h.1] at this
      exact this
    rw [cell_of_row w g j cur _ (0, 0) hgg, ← hj, ← htake, List.getElem?_take, if_pos hjl, Array.getElem?_toList]
theorem OwnI.nums {B : Nat} {v : Value} {xs : List Int} {w : World} (h : OwnI B v xs w) : ∃ A c, v = .slice A xs.length c ∧ xs.length ≤ c ∧ Nums .i64 w w.heap.size A xs := by
  obtain ⟨A, c, rfl, hc, _, hg⟩ := own_at h
  refine ⟨A, c, rfl, hc, fun hp => ?_⟩
  obtain ⟨g, rfl, h1, h2, h3⟩ := hg hp
  refine ⟨g, 0, rfl, h2, fun i hi => ?_⟩
  rw [Nat.zero_add]
  exact h3 i _ (by simp [ivs, hi])
theorem OwnD.decs {B : Nat} {v : Value} {ds : List (Int × Int)} {w : World} (h : OwnD B v ds w) : ∃ A c, v = .slice A ds.length c ∧ ds.length ≤ c ∧ Decs w w.heap.size A ds := by
  obtain ⟨A, c, rfl, hc, _, hg⟩ := own_at h
  refine ⟨A, c, rfl, hc, fun hp => ?_⟩
  obtain ⟨g, rfl, h1, h2, h3⟩ := hg hp
  refine ⟨g, 0, rfl, h2, fun i hi => ?_⟩
  obtain ⟨k1, k2⟩ := dvs_get ds i hi
  rw [Nat.zero_add]
  exact ⟨h3 _ _ k1, h3 _ _ k2⟩
theorem wp_more_ints {o : Oper} {a : Act} {w : World} {K : Act → World → Prop} {Q : Exit → Act → World → Prop} (s x : Operand)
    (ho : o.op = .call { callee := .builtin .append, args := #[s, x], argTypes := #[31, 31] }) (B : Nat) (v : Value) (xs : List Int) (A : Option Addr) (m c : Nat) (ys : List Int)
    (hs : a.eval s = v) (hown : OwnI B v xs w) (hx : a.eval x = .slice A m c) (hm : ys.length = m) (hys : Nums .i64 w w.heap.size A ys) (hb : xs.length + m ≤ 1000000000) (hB : B ≤ w.heap.size)
    (h : ∀ v' w', Hid (OwnI B v' (xs ++ ys) w') → Hid (Below B w w') → K (a.put o.dst v') w') : o.wp Tryz.prog a w K Q := by
  obtain ⟨i0, hi, hz0, hz1, hz2⟩ := info_of info_int
  subst hm
  obtain ⟨v', w', hr, h2, h3⟩ := run_append_any w B 31 o.type 3 i0 _ 1 8 Tryz.underlying31 hi hz0 hz1 hz2 rfl (by decide) v xs.length (ivs xs) hown A ys.length c (ivs ys) (ivs_len ys) (src_nums hys) (ivs_one ys) (by omega) hb hB
  unfold Oper.wp
  simp [execOp, ho, resolve, invoke, builtin, hs, hx, hr, Result.andThen]
  exact h v' w' (Lib.hid (by rw [← ivs_app] at h2; rw [← List.length_append] at h2; exact h2)) (Lib.hid h3)
theorem wp_more_decs {o : Oper} {a : Act} {w : World} {K : Act → World → Prop} {Q : Exit → Act → World → Prop} (s x : Operand)
    (ho : o.op = .call { callee := .builtin .append, args := #[s, x], argTypes := #[32, 32] }) (B : Nat) (v : Value) (xs : List (Int × Int)) (A : Option Addr) (m c : Nat) (ys : List (Int × Int))
    (hs : a.eval s = v) (hown : OwnD B v xs w) (hx : a.eval x = .slice A m c) (hm : ys.length = m) (hys : Decs w w.heap.size A ys) (hb : xs.length + m ≤ 1000000000) (hB : B ≤ w.heap.size)
    (h : ∀ v' w', Hid (OwnD B v' (xs ++ ys) w') → Hid (Below B w w') → K (a.put o.dst v') w') : o.wp Tryz.prog a w K Q := by
  obtain ⟨i0, hi, hz0, hz1, hz2⟩ := info_of info_dec
  subst hm
  obtain ⟨v', w', hr, h2, h3⟩ := run_append_any w B 32 o.type 41 i0 _ 2 16 Tryz.underlying32 hi hz0 hz1 hz2 rfl (by decide) v xs.length (dvs xs) hown A ys.length c (dvs ys) (dvs_len ys) (src_decs hys) (dvs_one ys) (by omega) hb hB
  unfold Oper.wp
  simp [execOp, ho, resolve, invoke, builtin, hs, hx, hr, Result.andThen]
  exact h v' w' (Lib.hid (by rw [← dvs_app] at h2; rw [← List.length_append] at h2; exact h2)) (Lib.hid h3)
theorem wpList_more_ints {ops : Array Oper} {rest : List Oper} {o : Oper} {a : Act} {w : World} {Q : Exit → Act → World → Prop} (hgd : o.guard = none) (s x : Operand)
    (ho : o.op = .call { callee := .builtin .append, args := #[s, x], argTypes := #[31, 31] }) (B : Nat) (v : Value) (xs : List Int) (A : Option Addr) (m c : Nat) (ys : List Int)
    (hs : a.eval s = v) (hown : OwnI B v xs w) (hx : a.eval x = .slice A m c) (hm : ys.length = m) (hys : Nums .i64 w w.heap.size A ys) (hb : xs.length + m ≤ 1000000000) (hB : B ≤ w.heap.size)
    (h : ∀ v' w', Hid (OwnI B v' (xs ++ ys) w') → Hid (Below B w w') → wpList Tryz.prog ops Q rest (a.put o.dst v') w') : wpList Tryz.prog ops Q (o :: rest) a w :=
  wpList_plain hgd fun K hK => wp_more_ints s x ho B v xs A m c ys hs hown hx hm hys hb hB fun v' w' h1 h2 => hK _ _ (h v' w' h1 h2)
theorem wpList_more_decs {ops : Array Oper} {rest : List Oper} {o : Oper} {a : Act} {w : World} {Q : Exit → Act → World → Prop} (hgd : o.guard = none) (s x : Operand)
    (ho : o.op = .call { callee := .builtin .append, args := #[s, x], argTypes := #[32, 32] }) (B : Nat) (v : Value) (xs : List (Int × Int)) (A : Option Addr) (m c : Nat) (ys : List (Int × Int))
    (hs : a.eval s = v) (hown : OwnD B v xs w) (hx : a.eval x = .slice A m c) (hm : ys.length = m) (hys : Decs w w.heap.size A ys) (hb : xs.length + m ≤ 1000000000) (hB : B ≤ w.heap.size)
    (h : ∀ v' w', Hid (OwnD B v' (xs ++ ys) w') → Hid (Below B w w') → wpList Tryz.prog ops Q rest (a.put o.dst v') w') : wpList Tryz.prog ops Q (o :: rest) a w :=
  wpList_plain hgd fun K hK => wp_more_decs s x ho B v xs A m c ys hs hown hx hm hys hb hB fun v' w' h1 h2 => hK _ _ (h v' w' h1 h2)
/-- one exact number in new memory -/
theorem decs_cells {w : World} {g : Nat} {t : TypeId} {ds : List (Int × Int)} (h : w.heap[g]? = some (.cells (dvs ds).toArray t (0, 0))) : Decs w w.heap.size (some ⟨g, 0, none⟩) ds := fun hp =>
  ⟨g, 0, rfl, heap_lt h, fun i hi => by
    obtain ⟨k1, k2⟩ := dvs_get ds i hi
    rw [Nat.zero_add]
    exact ⟨by rw [cell_of_row w g _ _ t (0, 0) h]; simpa using k1, by rw [cell_of_row w g _ _ t (0, 0) h]; simpa using k2⟩⟩
theorem nums_cells {w : World} {g : Nat} {t : TypeId} {xs : List Int} (h : w.heap[g]? = some (.cells (ivs xs).toArray t (0, 0))) : Nums .i64 w w.heap.size (some ⟨g, 0, none⟩) xs := fun hp =>
  ⟨g, 0, rfl, heap_lt h, fun i hi => by
    rw [Nat.zero_add, cell_of_row w g _ _ t (0, 0) h]
    simp [ivs, hi]⟩
theorem nums_lit1 (w : World) (n : Int) (t : TypeId) : Nums .i64 (w.alloc (.cells #[.int .i64 n] t)) (w.alloc (.cells #[.int .i64 n] t)).heap.size (some ⟨w.heap.size, 0, none⟩) [n] := nums_cells (xs := [n]) (heap_alloc_new w (.cells #[.int .i64 n] t))
theorem decs_lit1 (w : World) (q r : Int) : Decs (w.alloc (.cells #[.int .i64 q, .int .i64 r] 41)) (w.alloc (.cells #[.int .i64 q, .int .i64 r] 41)).heap.size (some ⟨w.heap.size, 0, none⟩) [(q, r)] :=
  decs_cells (ds := [(q, r)]) (heap_alloc_new w _)
end Go.Proofs.YteoogioanjkacaaGreatDoor.Num
namespace Go.Proofs.YteoogioanjkacaaGreatDoor.Num
set_option maxRecDepth 20000
open Go.RowKit Go.Lib
set_option linter.unusedSimpArgs false
set_option linter.unusedVariables false
def strv (l : List UInt8) : Value := .string ⟨l.toArray⟩
theorem join_any (g n : Nat) (ls : List (List UInt8)) (w : World) (hn : ls.length = n) (hr : w.rowIs g 9 n (fun j => strv (ls.getD j []))) (hl : n ≤ 100000) (hm : ∀ x ∈ ls, x.length ≤ 100) :
    Calls Tryz.prog 38 #[.slice (some ⟨g, 0, none⟩) n n, .string ⟨#[32]⟩] w fun e w' => e = .returned (.string ⟨(join ls [32]).toArray⟩) ∧ Grow w w' := by
  have hmap : (ls.map fun l => (⟨l.toArray⟩ : ByteArray)).map (·.data.toList) = ls := by
    rw [List.map_map]
    conv => rhs; rw [← List.map_id ls]
    exact List.map_congr_left fun x _ => rfl
  have hlen := join_len hm
  have := Tryz.strings_Join g 0 n (ls.map fun l => (⟨l.toArray⟩ : ByteArray)) ⟨#[32]⟩ w (fun j x hx => by
    have hj : j < ls.length := by
      have := (List.getElem?_eq_some_iff.1 hx).1
      rwa [List.length_map] at this
    rw [Nat.zero_add, hr.cell (by omega)]
    rw [List.getElem?_map] at hx
    have e : ls[j]? = some (ls.getD j []) := by simp [List.getD, hj]
    rw [e] at hx
    simp only [Option.map_some, Option.some.injEq] at hx
    rw [← hx]
    rfl) hr.lt (by rw [List.length_map]; omega) (by rw [List.length_map]; omega) (by
      rw [hmap]
      show (join ls [32]).length ≤ _
      have : ls.length * (100 + 1) ≤ 100000 * 101 := Nat.mul_le_mul (by omega) (by omega)
      omega)
  rw [List.length_map, hn, hmap] at this
  exact this

theorem row_step {w w' : World} {g n k : Nat} {ls : List (List UInt8)} {s : List UInt8} (h : w.rowIs g 9 n (fun j => strv (if j < k then ls.getD j [] else []))) (hw : Grow w w') (hs : ls.getD k [] = s) :
    (w'.setCell ⟨g, k, none⟩ (strv s)).rowIs g 9 n (fun j => strv (if j < k + 1 then ls.getD j [] else [])) := by
  have h1 := h.of_block (hw.block g h.lt)
  refine (h1.set k (strv s)).congr fun j _ => ?_
  by_cases hj : j = k
  · subst hj
    rw [← hs]
    simp
  · by_cases hlt : j < k
    · simp [hj, hlt, show j < k + 1 by omega]
    · simp [hj, hlt, show ¬ j < k + 1 by omega]

theorem getD_in {xs : List Int} (h : ∀ x ∈ xs, In x) {k : Nat} (hk : k < xs.length) : In (xs.getD k 0) := by
  have e : xs.getD k 0 = xs[k] := by simp [List.getD, hk]
  rw [e]
  exact h _ (List.getElem_mem hk)
theorem getD_map {α β : Type} (f : α → β) (xs : List α) (k : Nat) (hk : k < xs.length) (d : α) (e : β) : (xs.map f).getD k e = f (xs.getD k d) := by simp [List.getD, hk]

set_option maxRecDepth 10000 in
set_option maxHeartbeats 1600000 in
theorem ints_any (A : Option Addr) (n c : Nat) (xs : List Int) (w : World) (hn : xs.length = n) (hnb : n ≤ 100000) (hr : Nums .i64 w w.heap.size A xs) (hi : ∀ x ∈ xs, In x) (hL : Pows w) :
    Calls Tryz.prog 18 #[.slice A n c] w fun e w' => e = .returned (.string ⟨(intsT xs).toArray⟩) ∧ Grow w w' := by
  have HN := Lib.hid hn
  have HR := Lib.hid hr
  have HI := Lib.hid hi
  have HL := Lib.hid hL
  have hmk := fun W => run_make_row' (P := Tryz.prog) 66 9 (.string ⟨#[]⟩) 16 Tryz.underlying66 info_str rfl .i64 .i64 n (by omega) (by omega) W
  clear hn hr hi hL
  go_enter Tryz.func18, Tryz.ntmps18
  go_wp2
  have hrow := World.rowIs_made w (.string ⟨#[]⟩) n 9
  have HRW := Lib.hid (show (w.alloc (.cells (madeCells #[.string ⟨#[]⟩] n) 9)).rowIs w.heap.size 9 n (fun j => strv (if j < 0 then (xs.map num).getD j [] else [])) from hrow.congr fun j _ => by simp [strv])
  have HG0 := Lib.hid (grow_new w (.cells (madeCells #[.string ⟨#[]⟩] n) 9))
  have HM := Lib.hid hmk
  clear hrow hmk
  go_loopg [11] n (fun g s11 wr => ∃ k : Nat, k ≤ n ∧ g = n - k ∧ s11 = .int .i64 k ∧ Hid (wr.rowIs w.heap.size 9 n (fun j => strv (if j < k then (xs.map num).getD j [] else []))) ∧ Hid (Grow w wr))
  case atStart => exact ⟨0, Nat.zero_le _, rfl, rfl, HRW, HG0⟩
  case round =>
    obtain ⟨k, hk, rfl, rfl, HW, HG⟩ := hrel
    clear HRW HG0
    by_cases hlt : k < n
    · have hkl : k < xs.length := by rw [HN.out]; exact hlt
      obtain ⟨b, off, rfl, hb, hcl⟩ := HR.out.grow HG.out (by omega)
      have hc := hcl k hkl
      have hin := getD_in HI.out hkl
      have HS := Lib.hid (getD_map num xs k hkl 0 [])
      clear hcl hb hkl
      generalize xs.getD k 0 = x at hc hin HS
      have HT := Lib.hid (textOf_any x wr hin (HL.out.grow HG.out))
      clear hin
      go_wp2_with fail
      refine (HT.out).mono ?_
      rintro e w2 ⟨rfl, hg⟩
      have HG2 := Lib.hid hg
      have HW2 := Lib.hid (HW.out.of_block (hg.block _ HW.out.lt))
      have hcq := HW2.out.cell hlt
      have hfq := HW2.out.frozen k
      clear hg HT
      go_wp2
      go_roundg (n - (k + 1))
      case rel => exact ⟨k + 1, by omega, rfl, by go_num, Lib.hid (row_step HW.out HG2.out HS.out), Lib.hid ((HG.out.trans HG2.out).put (Nat.le_refl _) k _)⟩
      case measure => omega
    · obtain rfl : n = k := by omega
      have HJ := Lib.hid (join_any w.heap.size n (xs.map num) wr (by rw [List.length_map]; exact HN.out) (HW.out.congr fun j hj => by simp [hj]) hnb (by
        intro y hy
        obtain ⟨z, hz, rfl⟩ := List.mem_map.1 hy
        have := num_len (HI.out z hz)
        omega))
      go_wp2_with fail
      refine (HJ.out).mono ?_
      rintro e w2 ⟨rfl, hg⟩
      have HG2 := Lib.hid (HG.out.trans hg)
      clear hg HJ
      go_wp2
      go_ret
      exact ⟨rfl, HG2.out⟩

theorem decsR_take {ds : List Dc} {k : Nat} (hk : k < ds.length) : decsR (ds.take (k + 1)) = (decsR (ds.take k) && rightD (ds.getD k (0, 0)).1 (ds.getD k (0, 0)).2) := by
  have e : ds.getD k (0, 0) = ds[k] := by simp [List.getD, hk]
  rw [e, List.take_succ_eq_append_getElem hk, decsR_app]
  simp [decsR]
theorem decsR_not {ds : List Dc} {k : Nat} (hk : k < ds.length) (h : rightD (ds.getD k (0, 0)).1 (ds.getD k (0, 0)).2 = false) : decsR ds = false := by
  have e : ds.getD k (0, 0) = ds[k] := by simp [List.getD, hk]
  rw [e] at h
  unfold decsR
  rw [Bool.eq_false_iff, ne_eq, List.all_eq_true]
  intro hall
  have := hall _ (List.getElem_mem hk)
  rw [h] at this
  cases this

set_option maxRecDepth 10000 in
set_option maxHeartbeats 1600000 in
theorem decs_any (A : Option Addr) (n c : Nat) (ds : List Dc) (w : World) (hn : ds.length = n) (hnb : n ≤ 100000) (hr : Decs w w.heap.size A ds) (hi : ∀ x ∈ ds, In x.1 ∧ In x.2) (hL : Pows w) :
    Calls Tryz.prog 23 #[.slice A n c] w fun e w' => e = .returned (.string ⟨(decsT ds).toArray⟩) ∧ Grow w w' := by
  have HN := Lib.hid hn
  have HR := Lib.hid hr
  have HI := Lib.hid hi
  have HL := Lib.hid hL
  have hmk := fun W => run_make_row' (P := Tryz.prog) 66 9 (.string ⟨#[]⟩) 16 Tryz.underlying66 info_str rfl .i64 .i64 n (by omega) (by omega) W
  clear hn hr hi hL
  go_enter Tryz.func23, Tryz.ntmps23
  go_wp2
  have hrow := World.rowIs_made w (.string ⟨#[]⟩) n 9
  have HRW := Lib.hid (show (w.alloc (.cells (madeCells #[.string ⟨#[]⟩] n) 9)).rowIs w.heap.size 9 n (fun j => strv (if j < 0 then (ds.map fun d => text d.1 d.2).getD j [] else [])) from hrow.congr fun j _ => by simp [strv])
  have HG0 := Lib.hid (grow_new w (.cells (madeCells #[.string ⟨#[]⟩] n) 9))
  have HM := Lib.hid hmk
  clear hrow hmk
  go_loopg [11] n (fun g s11 wr => ∃ k : Nat, k ≤ n ∧ g = n - k ∧ s11 = .int .i64 k ∧ Hid (decsR (ds.take k) = true) ∧ Hid (wr.rowIs w.heap.size 9 n (fun j => strv (if j < k then (ds.map fun d => text d.1 d.2).getD j [] else []))) ∧ Hid (Grow w wr))
  case atStart => exact ⟨0, Nat.zero_le _, rfl, rfl, Lib.hid rfl, HRW, HG0⟩
  case round =>
    obtain ⟨k, hk, rfl, rfl, HD, HW, HG⟩ := hrel
    clear HRW HG0
    by_cases hlt : k < n
    · have hkl : k < ds.length := by rw [HN.out]; exact hlt
      obtain ⟨b, off, rfl, hb, hcl⟩ := HR.out.grow HG.out (by omega)
      obtain ⟨hc0, hc1⟩ := hcl k hkl
      have hin : In (ds.getD k (0, 0)).1 ∧ In (ds.getD k (0, 0)).2 := by
        have e : ds.getD k (0, 0) = ds[k] := by simp [List.getD, hkl]
        rw [e]
        exact HI.out _ (List.getElem_mem hkl)
      have HS := Lib.hid (getD_map (fun d : Dc => text d.1 d.2) ds k hkl (0, 0) [])
      have HX := Lib.hid (decsR_not hkl)
      have HY := Lib.hid (decsR_take hkl)
      clear hcl hb hkl
      obtain ⟨⟨m, e⟩, hx⟩ : ∃ x, ds.getD k (0, 0) = x := ⟨_, rfl⟩
      rw [hx] at hc0 hc1 hin HS HX HY
      simp only at hc0 hc1 hin HS HX HY
      clear hx
      have HT := Lib.hid (fun W h => text_any m e W hin.1 hin.2 h)
      have HRI := Lib.hid (fun W => right_any m e W hin.1 hin.2)
      clear hin
      go_wp2_with fail
      refine (HRI.out _).mono ?_
      rintro x w2 ⟨rfl, hg⟩
      have hb2 := (boxed_new wr (.int .i64 m) (.int .i64 e) 41).grow hg
      have d0 := hb2.fst
      have d1 := hb2.snd
      have HG2 := Lib.hid ((grow_new wr (.cells #[.int .i64 m, .int .i64 e] 41)).trans hg)
      clear hg HRI hb2 hc0 hc1
      obtain ⟨r, hrr⟩ : ∃ r, rightD m e = r := ⟨_, rfl⟩
      rw [hrr] at HX HY
      rw [hrr]
      clear hrr
      cases r
      · have HF := Lib.hid (decs_wrong (HX.out rfl))
        clear HX HY HT
        go_wp2
        go_ret
        exact ⟨by rw [HF.out]; rfl, HG.out.trans HG2.out⟩
      · have HD2 := Lib.hid (show decsR (ds.take (k + 1)) = true by rw [HY.out, HD.out]; rfl)
        clear HX HY HD
        go_wp2_with fail
        refine (HT.out _ (HL.out.grow (HG.out.trans HG2.out))).mono ?_
        rintro x w3 ⟨rfl, hg⟩
        have HG3 := Lib.hid (HG2.out.trans hg)
        have HW3 := Lib.hid (HW.out.of_block (HG3.out.block _ HW.out.lt))
        have hcq := HW3.out.cell hlt
        have hfq := HW3.out.frozen k
        clear hg HT HG2 d0 d1
        go_wp2
        go_roundg (n - (k + 1))
        case rel => exact ⟨k + 1, by omega, rfl, by go_num, HD2, Lib.hid (row_step HW.out HG3.out HS.out), Lib.hid ((HG.out.trans HG3.out).put (Nat.le_refl _) k _)⟩
        case measure => omega
    · obtain rfl : n = k := by omega
      have HJ := Lib.hid (join_any w.heap.size n (ds.map fun d => text d.1 d.2) wr (by rw [List.length_map]; exact HN.out) (HW.out.congr fun j hj => by simp [hj]) hnb (by
        intro y hy
        obtain ⟨z, hz, rfl⟩ := List.mem_map.1 hy
        have := text_len (e := z.2) (HI.out z hz).1
        omega))
      have HD2 := HD.out
      rw [List.take_of_length_le (by rw [HN.out]; exact Nat.le_refl _)] at HD2
      have HV := Lib.hid (show decsT ds = join (ds.map fun d => text d.1 d.2) [32] by unfold decsT; rw [if_pos HD2])
      clear HD2
      go_wp2_with fail
      refine (HJ.out).mono ?_
      rintro x w2 ⟨rfl, hg⟩
      have HG2 := Lib.hid (HG.out.trans hg)
      clear hg HJ
      go_wp2
      go_ret
      exact ⟨by rw [HV.out]; rfl, HG2.out⟩
end Go.Proofs.YteoogioanjkacaaGreatDoor.Num
namespace Go.Proofs.YteoogioanjkacaaGreatDoor.Num
set_option maxRecDepth 20000
open Go.RowKit Go.Lib
set_option linter.unusedSimpArgs false
set_option linter.unusedVariables false
/-- strings.Clone's own callee, as the library's contract has it -/
def cloneRen : Go.Shelf.Ren := ⟨fun | 25 => 153 | n => n, fun | 37 => 57 | 47 => 93 | n => n, fun n => n⟩
theorem cloneLays : LaysPu.n25 Tryz.prog cloneRen := {
  mixed := by kernel_rfl
  f25 := Tryz.func153.trans (congrArg some (by kernel_rfl))
  t0 := Tryz.underlying0
  a0 := Tryz.isAgg0
  z0 := Tryz.sizeOf0
  v0 := Tryz.zeroValue0
  i0 := by kernel_rfl
  t3 := Tryz.underlying3
  a3 := Tryz.isAgg3
  z3 := Tryz.sizeOf3
  v3 := Tryz.zeroValue3
  i3 := by kernel_rfl
  t4 := Tryz.underlying4
  a4 := Tryz.isAgg4
  z4 := Tryz.sizeOf4
  v4 := Tryz.zeroValue4
  i4 := by kernel_rfl
  t5 := Tryz.underlying5
  a5 := Tryz.isAgg5
  z5 := Tryz.sizeOf5
  v5 := Tryz.zeroValue5
  i5 := by kernel_rfl
  t9 := Tryz.underlying9
  a9 := Tryz.isAgg9
  z9 := Tryz.sizeOf9
  v9 := Tryz.zeroValue9
  i9 := by kernel_rfl
  t37 := Tryz.underlying57
  a37 := Tryz.isAgg57
  z37 := Tryz.sizeOf57
  v37 := Tryz.zeroValue57
  i37 := by kernel_rfl
  t47 := Tryz.underlying93
  a47 := Tryz.isAgg93
  z47 := Tryz.sizeOf93
  v47 := Tryz.zeroValue93
  i47 := by kernel_rfl }
theorem clone_any (l : List UInt8) (w : World) (hl : l.length ≤ 1000000) : Calls Tryz.prog 125 #[.string ⟨l.toArray⟩] w fun e w' => e = .returned (.string ⟨l.toArray⟩) ∧ Grow w w' := by
  have HC := Lib.hid (AnyPu.stringslite_Clone cloneLays ⟨l.toArray⟩ w (by rw [str_size]; omega))
  go_enter Tryz.func125, Tryz.ntmps125
  go_wp2_with fail
  refine (HC.out).mono ?_
  rintro e w1 ⟨rfl, hg⟩
  have HG := Lib.hid (show Grow w w1 from hg)
  clear hg
  go_wp2
  go_ret
  exact ⟨rfl, HG.out⟩

/-- what is answered: the numbers, what follows, and is it so? -/
def mkL : Option (List Dc × List UInt8) → List Dc × List UInt8 × Bool
  | none => ([], [], false)
  | some p => (p.1, p.2, true)
def ReadP (ds : List Dc) (r : List UInt8) (ok : Bool) (w : World) (e : Ending) (w' : World) : Prop :=
  ∃ A c, e = .returned (.tuple #[.slice A ds.length c, .string ⟨r.toArray⟩, .bool ok]) ∧ ds.length ≤ c ∧ Decs w' w'.heap.size A ds ∧ Grow w w'

theorem read_none {l r : List UInt8} {acc : List Dc} (h : readO l = (readO r).map fun p => (acc ++ p.1, p.2)) (h2 : (oneD (r.take (npc r))).2 = false) : mkL (readO l) = ([], [], false) := by
  rw [h, readO_wrong h2]; rfl
theorem read_last {l r : List UInt8} {acc : List Dc} (h : readO l = (readO r).map fun p => (acc ++ p.1, p.2)) (h2 : (oneD (r.take (npc r))).2 = true) (h3 : nextD (r.drop (npc r)) = none) :
    mkL (readO l) = (acc ++ [(oneD (r.take (npc r))).1], r.drop (npc r), true) := by
  rw [h, readO_last h2 h3]; rfl
theorem read_on {l r t : List UInt8} {acc : List Dc} (h : readO l = (readO r).map fun p => (acc ++ p.1, p.2)) (h2 : (oneD (r.take (npc r))).2 = true) (h3 : nextD (r.drop (npc r)) = some t) :
    readO l = (readO t).map fun p => ((acc ++ [(oneD (r.take (npc r))).1]) ++ p.1, p.2) := by
  rw [h, readO_on h2 h3]
  cases readO t with
  | none => rfl
  | some p => simp
theorem npc_pos_of {r : List UInt8} (h2 : (oneD (r.take (npc r))).2 = true) : 0 < npc r := by
  rcases Nat.eq_zero_or_pos (npc r) with h | h
  · rw [h, List.take_zero, oneD_nil] at h2; cases h2
  · exact h
theorem hasP_space (s : List UInt8) : (∃ t, s = 32 :: t ∧ hasPrefix s [32] = true ∧ trimPrefix s [32] = t) ∨ (s.head? ≠ some 32 ∧ hasPrefix s [32] = false ∧ trimPrefix s [32] = s) := by
  cases s with
  | nil => exact .inr ⟨by simp, rfl, rfl⟩
  | cons c t =>
    by_cases h : c = 32
    · subst h
      exact .inl ⟨t, rfl, by simp [hasPrefix], by simp [trimPrefix, hasPrefix]⟩
    · have hf : hasPrefix (c :: t) [32] = false := by
        unfold hasPrefix
        show ((32 : UInt8) == c && List.isPrefixOf [] t) = false
        have : ((32 : UInt8) == c) = false := by simpa using fun e => h e.symm
        rw [this]; rfl
      exact .inr ⟨by simpa using h, hf, by unfold trimPrefix; rw [hf]; simp⟩

set_option maxRecDepth 10000 in
set_option maxHeartbeats 3200000 in
theorem read_any (l : List UInt8) (hl : l.length ≤ 100000) (w : World) (hL : Laid w) :
    Calls Tryz.prog 96 #[.string ⟨l.toArray⟩] w (ReadP (mkL (readO l)).1 (mkL (readO l)).2.1 (mkL (readO l)).2.2 w) := by
  have HL := Lib.hid hL
  obtain ⟨B, hB⟩ : ∃ B, w.heap.size = B := ⟨_, rfl⟩
  have HBE := Lib.hid hB
  clear hL hB
  go_enter Tryz.func96, Tryz.ntmps96
  go_wp2
  go_loopg [0, 5] l.length (fun gk s0 s5 wr => ∃ (r : List UInt8) (acc : List Dc) (v : Value), gk = r.length ∧ s0 = .string ⟨r.toArray⟩ ∧ v = s5 ∧ Hid (OwnD B v acc wr) ∧ Hid (readO l = (readO r).map fun p => (acc ++ p.1, p.2)) ∧ acc.length + r.length ≤ l.length ∧ Hid (Below B w wr))
  case atStart => exact ⟨l, [], _, rfl, rfl, rfl, Lib.hid (ownD_nil _ _), Lib.hid (by simp), by simp, Lib.hid (Below.refl _ _)⟩
  case round =>
    obtain ⟨r, acc, v, rfl, rfl, rfl, HO, HRD, hlen, HG⟩ := hrel
    have hrl : r.length ≤ 1000000 := by omega
    have HZ : Hid (B ≤ wr.heap.size) := Lib.hid (by rw [← HBE.out]; exact HG.out.size)
    have HP := Lib.hid (fun W => pieces_any r hrl W)
    have hple := npc_le r
    have hst := slice_to r (npc r) hple
    have hsd := slice_from r (npc r) hple
    have HN0 := Lib.hid (read_none HRD.out)
    have HN1 := Lib.hid (read_last HRD.out)
    have HN2 := Lib.hid (fun t => read_on (t := t) HRD.out)
    have HPP := Lib.hid (npc_pos_of (r := r))
    have htl : (r.take (npc r)).length ≤ 1000000 := by rw [List.length_take]; omega
    have HQ := Lib.hid (fun W h => one_any (r.take (npc r)) htl W h)
    have HDL := Lib.hid (show (r.drop (npc r)).length = r.length - npc r by simp)
    clear HRD htl
    generalize npc r = p at *
    generalize oneD (r.take p) = d at *
    generalize r.take p = rt at *
    generalize r.drop p = rd at *
    obtain ⟨⟨m, e⟩, ok⟩ := d
    dsimp only at *
    go_wp2_with fail
    refine (HP.out _).mono ?_
    rintro x w1 ⟨rfl, rfl⟩
    clear HP
    have HGW : Hid (Grow w w1) := Lib.hid (by unfold Grow; rw [HBE.out]; exact HG.out)
    go_wp2_with fail
    refine (HQ.out _ (HL.out.grow HGW.out)).mono ?_
    rintro x w2 ⟨rfl, hg⟩
    have HG3 := Lib.hid (hg.trans (grow_new w2 (.cells #[.int .i64 m, .int .i64 e] 41)))
    have hbx := boxed_new w2 (.int .i64 m) (.int .i64 e) 41
    have HBX := Lib.hid hbx
    clear hg HQ hst hbx
    cases ok
    · have HV := Lib.hid (HN0.out rfl)
      clear HN0 HN1 HN2 HPP
      go_wp2
      go_ret3
      rw [HV.out]
      exact ⟨none, 0, rfl, Nat.le_refl _, Decs.none_, HGW.out.trans HG3.out⟩
    · have HV1 := Lib.hid (HN1.out rfl)
      have HV2 := Lib.hid (fun t => HN2.out t rfl)
      have hp0 := HPP.out rfl
      have HO3 := Lib.hid (HO.out.grow HG3.out)
      have HZ3 := Lib.hid (Nat.le_trans HZ.out HG3.out.size)
      have HGB3 := Lib.hid (Below.trans HG.out (Below.mono HG3.out HZ.out))
      clear HN0 HN1 HN2 HPP HO HG HGW
      go_wp2_with fail
      refine wp_region_R ((Below B)) (n := 9) rfl (by kernel_rfl) ?_
      intro W0 hW0e hW0
      have HG0 : Grow (w2.alloc (.cells #[.int .i64 m, .int .i64 e] 41)) W0 := hW0
      have HB0 := HBX.out.grow HG0
      have p0 := HB0.fst
      have p1 := HB0.snd
      have HO0 := Lib.hid (HO3.out.grow HG0)
      have HZ0 := Lib.hid (Nat.le_trans HZ3.out HG0.size)
      have HGB0 := Lib.hid (Below.trans HGB3.out (Below.mono HG0 HZ3.out))
      clear hW0 HG0 HB0
      clear hW0e
      refine wpR_take (belowOrd B) (i := 0) (v := ?vf1) rfl (by kernel_rfl) (by kernel_rfl) (by kernel_rfl) (fun _ _ _ h => h) (by rfl) ?hf1 ?rf1
      case hf1 => (intro wg hSw; go_simp <;> with_reducible rfl)
      simp only [Act.put, List.setIfInBounds_toArray, List.set_cons_zero, List.set_cons_succ]
      refine wpR_take (belowOrd B) (i := 4) (v := ?vf2) rfl (by kernel_rfl) (by kernel_rfl) (by kernel_rfl) (fun _ _ _ h => h) (by rfl) ?hf2 ?rf2
      case hf2 => (intro wg hSw; go_simp <;> with_reducible rfl)
      simp only [Act.put, List.setIfInBounds_toArray, List.set_cons_zero, List.set_cons_succ]
      refine wpR_take (belowOrd B) (i := 5) (v := ?vf3) rfl (by kernel_rfl) (by kernel_rfl) (by kernel_rfl) (fun _ _ _ h => h) (by rfl) ?hf3 ?rf3
      case hf3 => (intro wg hSw; go_simp <;> with_reducible rfl)
      simp only [Act.put, List.setIfInBounds_toArray, List.set_cons_zero, List.set_cons_succ]
      refine wpR_take (belowOrd B) (i := 6) (v := ?vf4) rfl (by kernel_rfl) (by kernel_rfl) (by kernel_rfl) (fun _ _ _ h => h) (by rfl) ?hf4 ?rf4
      case hf4 => (intro wg hSw; go_simp <;> with_reducible rfl)
      simp only [Act.put, List.setIfInBounds_toArray, List.set_cons_zero, List.set_cons_succ]
      refine wpR_one (i := 1) (by kernel_rfl) ?_
      refine wpR_op (i := 1) rfl (by rfl) (fun K hK => ?_)
      go_simp
      refine hK.out _ _ (((belowOrd B)).refl _) ?_
      clear hK K
      try simp only [Act.put, List.setIfInBounds_toArray, List.set_cons_zero, List.set_cons_succ]
      refine wpR_one (i := 2) (by kernel_rfl) ?_
      refine wpR_op (i := 2) rfl (by rfl) (fun K hK => ?_)
      go_simp
      refine hK.out _ _ (Below.mono (grow_new _ _) HZ0.out) ?_
      clear hK K
      try simp only [Act.put, List.setIfInBounds_toArray, List.set_cons_zero, List.set_cons_succ]
      generalize hwM2 : World.alloc W0 (Obj.cells #[.int .i64 m, .int .i64 e] 41) = wM2
      have hN2 : Grow W0 wM2 := by rw [← hwM2]; exact grow_new _ _
      have hC2 : Decs wM2 wM2.heap.size (some ⟨(W0).heap.size, 0, none⟩) [(m, e)] := by rw [← hwM2]; exact decs_lit1 _ _ _
      have hM2 : Below B W0 wM2 := Below.mono hN2 HZ0.out
      have HZ2 := Lib.hid (Nat.le_trans HZ0.out hN2.size)
      have HO2 := Lib.hid (HO0.out.grow hN2)
      clear hwM2
      refine wpR_one (i := 3) (by kernel_rfl) ?_
      refine wpR_op (i := 3) rfl (by rfl) (fun K hK => ?_)
      refine wp_more_decs _ _ rfl B v acc _ 1 1 [(m, e)] rfl HO2.out rfl rfl hC2 (by omega) HZ2.out ?_
      intro v3 wM3 hO3 hB3
      have hM3 : Below B wM2 wM3 := hB3.out
      have hN3 := hM3
      refine hK.out _ _ hM3 ?_
      clear hK K
      try simp only [Act.put, List.setIfInBounds_toArray, List.set_cons_zero, List.set_cons_succ]
      refine wpR_take (belowOrd B) (i := 7) (v := ?vf5) rfl (by kernel_rfl) (by kernel_rfl) (by kernel_rfl) (fun _ _ _ h => h) (by rfl) ?hf5 ?rf5
      case hf5 => (intro wg hSw; go_simp <;> with_reducible rfl)
      simp only [Act.put, List.setIfInBounds_toArray, List.set_cons_zero, List.set_cons_succ]
      refine wpR_take (belowOrd B) (i := 8) (v := ?vf6) rfl (by kernel_rfl) (by kernel_rfl) (by kernel_rfl) (fun _ _ _ h => h) (by rfl) ?hf6 ?rf6
      case hf6 => (intro wg hSw; go_simp <;> with_reducible rfl)
      simp only [Act.put, List.setIfInBounds_toArray, List.set_cons_zero, List.set_cons_succ]
      refine wpR_done (by kernel_rfl) ?_
      have HGW := Lib.hid (Below.trans HGB0.out (((belowOrd B)).trans (((belowOrd B)).trans (((belowOrd B)).refl W0) hM2) hM3))
      have HO3' := hO3
      have HRS := Lib.hid (Tryz.strings_CutPrefix ⟨rd.toArray⟩ ⟨#[32]⟩ wM3)
      rw [show (⟨rd.toArray⟩ : ByteArray).data.toList = rd from rfl, show (⟨#[32]⟩ : ByteArray).data.toList = [32] from rfl] at HRS
      have hrdl := HDL.out
      have HCL := Lib.hid (fun W => clone_any rd W (by omega))
      have HEND : Hid (∀ w', Grow wM3 w' → mkL (readO l) = (acc ++ [(m, e)], rd, true) → ReadP (mkL (readO l)).1 (mkL (readO l)).2.1 (mkL (readO l)).2.2 w (.returned (.tuple #[v3, .string ⟨rd.toArray⟩, .bool true])) w') := Lib.hid (fun w' hw hv => by
        obtain ⟨A, c, e1, h1, h2⟩ := (hO3.out.grow hw).decs
        rw [hv, e1]
        exact ⟨A, c, rfl, h1, h2, by have := HGW.out; unfold Grow; rw [← HBE.out] at this; exact Below.trans this (Below.mono hw (by rw [HBE.out]; exact Nat.le_trans HZ2.out hM3.size))⟩)
      clear hO3 hsd hM2 hM3 hN2 hN3 hC2 hB3 p0 p1
      rcases hasP_space rd with ⟨t, hrd, hp, ht⟩ | ⟨hh, hp, ht⟩
      · rw [hp, ht] at HRS
        have HPI := Lib.hid (fun W => piece_any t W)
        have hnx : nextD rd = if npc t = 0 then none else some t := by rw [hrd]; exact nextD_space t
        have hpz := pcD_zero t
        have htl : t.length < rd.length := by rw [hrd]; simp
        obtain ⟨q, hq⟩ : ∃ q, pcD t = q := ⟨_, rfl⟩
        rw [hq] at HPI hpz
        by_cases h0 : q = 0
        · subst h0
          have HE := Lib.hid (fun w' hw => HEND.out w' hw (HV1.out (by rw [hnx, if_pos (hpz.1 rfl)])))
          clear HV1 HV2 HEND hnx hpz hq hrd hp ht
          go_wp2_with fail
          refine (HRS.out).mono ?_
          rintro x w' ⟨rfl, rfl⟩
          go_wp2_with fail
          refine (HPI.out _).mono ?_
          rintro x w' ⟨rfl, rfl⟩
          go_wp2_with fail
          refine (HCL.out _).mono ?_
          rintro x w6 ⟨rfl, hg⟩
          have HG6 := Lib.hid hg
          clear hg
          go_wp2
          go_ret3
          exact HE.out _ HG6.out
        · have h0b : (((q : Nat) : Int) == 0) = false := by rw [beq_eq_false_iff_ne]; omega
          have HE := Lib.hid (HV2.out t (by rw [hnx, if_neg (fun h => h0 (hpz.2 h))]))
          clear HV1 HV2 HEND hnx hpz hq hrd hp ht
          go_wp2_with fail
          refine (HRS.out).mono ?_
          rintro x w' ⟨rfl, rfl⟩
          go_wp2_with fail
          refine (HPI.out _).mono ?_
          rintro x w' ⟨rfl, rfl⟩
          go_wp2
          go_roundg t.length
          case rel => exact ⟨t, acc ++ [(m, e)], v3, rfl, rfl, rfl, HO3', HE, by rw [List.length_append, List.length_singleton]; omega, HGW⟩
          case measure => omega
      · rw [hp, ht] at HRS
        have HE := Lib.hid (fun w' hw => HEND.out w' hw (HV1.out (nextD_other hh)))
        clear HV1 HV2 HEND hh hp ht
        go_wp2_with fail
        refine (HRS.out).mono ?_
        rintro x w' ⟨rfl, rfl⟩
        go_wp2_with fail
        refine (HCL.out _).mono ?_
        rintro x w6 ⟨rfl, hg⟩
        have HG6 := Lib.hid hg
        clear hg
        go_wp2
        go_ret3
        exact HE.out _ HG6.out
end Go.Proofs.YteoogioanjkacaaGreatDoor.Num
namespace Go.Proofs.YteoogioanjkacaaGreatDoor.Quo
set_option maxRecDepth 20000
theorem u8_nat {n : Nat} (h : n < 256) : (UInt8.ofNat n).toNat = n := by
  rw [UInt8.toNat_ofNat']
  exact Nat.mod_eq_of_lt h
theorem u8_eq {b : UInt8} {n : Nat} (h : b.toNat = n) : UInt8.ofNat n = b := by
  subst h
  exact UInt8.ofNat_toNat
theorem u8_lt (b : UInt8) : b.toNat < 256 := b.toNat_lt

/-- a byte that goes on with a sign -/
def goesOn (b : UInt8) : Bool := decide (128 ≤ b.toNat ∧ b.toNat < 192)
/-- a number that is a sign -/
def isSign (c : Nat) : Bool := decide (c ≤ 1114111 ∧ ¬ (55296 ≤ c ∧ c ≤ 57343))
/-- n more bytes that go on with the sign c -/
def more : Nat → Nat → List UInt8 → Option Nat
  | 0, c, _ => some c
  | _ + 1, _, [] => none
  | n + 1, c, b :: r => if goesOn b then more n (64 * c + (b.toNat - 128)) r else none
/-- a sign of n bytes, least the least one that wants so many -/
def many (n least c : Nat) (r : List UInt8) : Nat × Nat :=
  match more (n - 1) c r with
  | some d => if least ≤ d ∧ isSign d = true then (d, n) else (0, 0)
  | none => (0, 0)
/-- the sign that stands first, and how many bytes it takes (0: there is none) -/
def nextD : List UInt8 → Nat × Nat
  | [] => (0, 0)
  | b :: r =>
    if b.toNat < 128 then (b.toNat, 1)
    else if b.toNat < 192 then (0, 0)
    else if b.toNat < 224 then many 2 128 (b.toNat - 192) r
    else if b.toNat < 240 then many 3 2048 (b.toNat - 224) r
    else if b.toNat < 248 then many 4 65536 (b.toNat - 240) r
    else (0, 0)
/-- a sign's bytes (none, if it is none) -/
def bytesD (c : Nat) : List UInt8 :=
  if isSign c = true then
    if c < 128 then [UInt8.ofNat c]
    else if c < 2048 then [UInt8.ofNat (192 + c / 64), UInt8.ofNat (128 + c % 64)]
    else if c < 65536 then [UInt8.ofNat (224 + c / 4096), UInt8.ofNat (128 + c / 64 % 64), UInt8.ofNat (128 + c % 64)]
    else [UInt8.ofNat (240 + c / 262144), UInt8.ofNat (128 + c / 4096 % 64), UInt8.ofNat (128 + c / 64 % 64), UInt8.ofNat (128 + c % 64)]
  else []

theorem isSign_iff {c : Nat} : isSign c = true ↔ c ≤ 1114111 ∧ ¬ (55296 ≤ c ∧ c ≤ 57343) := by simp only [isSign, decide_eq_true_eq]
theorem goesOn_iff {b : UInt8} : goesOn b = true ↔ 128 ≤ b.toNat ∧ b.toNat < 192 := by simp only [goesOn, decide_eq_true_eq]

theorem nextD_cons (b : UInt8) (r : List UInt8) : nextD (b :: r) =
    if b.toNat < 128 then (b.toNat, 1)
    else if b.toNat < 192 then (0, 0)
    else if b.toNat < 224 then many 2 128 (b.toNat - 192) r
    else if b.toNat < 240 then many 3 2048 (b.toNat - 224) r
    else if b.toNat < 248 then many 4 65536 (b.toNat - 240) r
    else (0, 0) := rfl
theorem next_one {b : UInt8} {r : List UInt8} (h : b.toNat < 128) : nextD (b :: r) = (b.toNat, 1) := by
  rw [nextD_cons, if_pos h]
theorem next_two {b x : UInt8} {r : List UInt8} {c : Nat} (h0 : 192 ≤ b.toNat) (h1 : b.toNat < 224) (hx : goesOn x = true) (hc : c = 64 * (b.toNat - 192) + (x.toNat - 128)) (hl : 128 ≤ c) : nextD (b :: x :: r) = (c, 2) := by
  have h := goesOn_iff.1 hx
  rw [nextD_cons, if_neg (by omega), if_neg (by omega), if_pos h1]
  simp only [many, Nat.add_one_sub_one, more, hx, if_true]
  rw [← hc, if_pos ⟨hl, isSign_iff.2 ⟨by omega, by omega⟩⟩]
theorem next_three {b x y : UInt8} {r : List UInt8} {c : Nat} (h0 : 224 ≤ b.toNat) (h1 : b.toNat < 240) (hx : goesOn x = true) (hy : goesOn y = true) (hc : c = 64 * (64 * (b.toNat - 224) + (x.toNat - 128)) + (y.toNat - 128)) (hl : 2048 ≤ c) (hs : isSign c = true) : nextD (b :: x :: y :: r) = (c, 3) := by
  rw [nextD_cons, if_neg (by omega), if_neg (by omega), if_neg (by omega), if_pos h1]
  simp only [many, Nat.add_one_sub_one, more, hx, hy, if_true]
  rw [← hc, if_pos ⟨hl, hs⟩]
theorem next_four {b x y z : UInt8} {r : List UInt8} {c : Nat} (h0 : 240 ≤ b.toNat) (h1 : b.toNat < 248) (hx : goesOn x = true) (hy : goesOn y = true) (hz : goesOn z = true) (hc : c = 64 * (64 * (64 * (b.toNat - 240) + (x.toNat - 128)) + (y.toNat - 128)) + (z.toNat - 128)) (hl : 65536 ≤ c) (hs : isSign c = true) : nextD (b :: x :: y :: z :: r) = (c, 4) := by
  rw [nextD_cons, if_neg (by omega), if_neg (by omega), if_neg (by omega), if_neg (by omega), if_pos h1]
  simp only [many, Nat.add_one_sub_one, more, hx, hy, hz, if_true]
  rw [← hc, if_pos ⟨hl, hs⟩]

theorem goes_of {n : Nat} (h : n < 64) : goesOn (UInt8.ofNat (128 + n)) = true := by
  rw [goesOn_iff, u8_nat (by omega)]
  omega

/-- a sign's bytes are read as the sign, whatever follows -/
theorem next_bytes {c : Nat} (h : isSign c = true) (r : List UInt8) : nextD (bytesD c ++ r) = (c, (bytesD c).length) := by
  have hs := isSign_iff.1 h
  unfold bytesD
  rw [if_pos h]
  split
  · rename_i h1
    rw [List.cons_append, next_one (by rw [u8_nat (by omega)]; exact h1), u8_nat (by omega)]
    rfl
  · split
    · rename_i h1 h2
      exact next_two (by rw [u8_nat (by omega)]; omega) (by rw [u8_nat (by omega)]; omega) (goes_of (by omega)) (by rw [u8_nat (by omega), u8_nat (by omega)]; omega) (by omega)
    · split
      · rename_i h1 h2 h3
        exact next_three (by rw [u8_nat (by omega)]; omega) (by rw [u8_nat (by omega)]; omega) (goes_of (by omega)) (goes_of (by omega)) (by rw [u8_nat (by omega), u8_nat (by omega), u8_nat (by omega)]; omega) (by omega) h
      · rename_i h1 h2 h3
        exact next_four (by rw [u8_nat (by omega)]; omega) (by rw [u8_nat (by omega)]; omega) (goes_of (by omega)) (goes_of (by omega)) (goes_of (by omega)) (by rw [u8_nat (by omega), u8_nat (by omega), u8_nat (by omega), u8_nat (by omega)]; omega) (by omega) h

theorem bytes_pos {c : Nat} (h : isSign c = true) : 1 ≤ (bytesD c).length := by
  unfold bytesD
  rw [if_pos h]
  split
  · simp
  · split
    · simp
    · split <;> simp
theorem bytes_le (c : Nat) : (bytesD c).length ≤ 4 := by
  unfold bytesD
  split
  · split
    · simp
    · split
      · simp
      · split <;> simp
  · simp

theorem many_not {n least c : Nat} {r : List UInt8} (h : (many n least c r).2 ≠ 0) : ∃ d, more (n - 1) c r = some d ∧ least ≤ d ∧ isSign d = true ∧ many n least c r = (d, n) := by
  unfold many at h ⊢
  cases hm : more (n - 1) c r with
  | none => rw [hm] at h; exact absurd rfl h
  | some d =>
    rw [hm] at h
    simp only at h ⊢
    by_cases hd : least ≤ d ∧ isSign d = true
    · exact ⟨d, rfl, hd.1, hd.2, by rw [if_pos hd]⟩
    · rw [if_neg hd] at h; exact absurd rfl h
theorem more_some {n c d : Nat} {r : List UInt8} (h : more (n + 1) c r = some d) : ∃ b t, r = b :: t ∧ goesOn b = true ∧ more n (64 * c + (b.toNat - 128)) t = some d := by
  cases r with
  | nil => exact absurd h (by simp [more])
  | cons b t =>
    unfold more at h
    by_cases hb : goesOn b = true
    · rw [if_pos hb] at h; exact ⟨b, t, rfl, hb, h⟩
    · rw [if_neg hb] at h; cases h
theorem more_nil {c d : Nat} {r : List UInt8} (h : more 0 c r = some d) : d = c := by
  unfold more at h
  exact (Option.some.inj h).symm

/-- what is read as a sign is its bytes -/
theorem next_inv {l : List UInt8} (h : (nextD l).2 ≠ 0) : isSign (nextD l).1 = true ∧ bytesD (nextD l).1 ++ l.drop (nextD l).2 = l ∧ (nextD l).2 = (bytesD (nextD l).1).length := by
  cases l with
  | nil => exact absurd rfl h
  | cons b r =>
    have hb := u8_lt b
    rw [nextD_cons] at h ⊢
    by_cases h1 : b.toNat < 128
    · rw [if_pos h1]
      have hs : isSign b.toNat = true := isSign_iff.2 ⟨by omega, by omega⟩
      have hB : bytesD b.toNat = [b] := by unfold bytesD; rw [if_pos hs, if_pos h1, UInt8.ofNat_toNat]
      simp only [hB]
      exact ⟨hs, rfl, rfl⟩
    · rw [if_neg h1] at h ⊢
      by_cases h2 : b.toNat < 192
      · rw [if_pos h2] at h; exact absurd rfl h
      · rw [if_neg h2] at h ⊢
        by_cases h3 : b.toNat < 224
        · rw [if_pos h3] at h ⊢
          obtain ⟨d, hm, hl, hs, he⟩ := many_not h
          rw [he]
          obtain ⟨x, t, rfl, hx, hm⟩ := more_some hm
          have hd := more_nil hm
          have gx := goesOn_iff.1 hx
          have hB : bytesD d = [b, x] := by
            unfold bytesD
            rw [if_pos hs, if_neg (by omega), if_pos (by omega), u8_eq (b := b) (by omega), u8_eq (b := x) (by omega)]
          simp only [hB]
          exact ⟨hs, rfl, rfl⟩
        · rw [if_neg h3] at h ⊢
          by_cases h4 : b.toNat < 240
          · rw [if_pos h4] at h ⊢
            obtain ⟨d, hm, hl, hs, he⟩ := many_not h
            rw [he]
            obtain ⟨x, t, rfl, hx, hm⟩ := more_some hm
            obtain ⟨y, t, rfl, hy, hm⟩ := more_some hm
            have hd := more_nil hm
            have gx := goesOn_iff.1 hx
            have gy := goesOn_iff.1 hy
            have hB : bytesD d = [b, x, y] := by
              unfold bytesD
              rw [if_pos hs, if_neg (by omega), if_neg (by omega), if_pos (by omega), u8_eq (b := b) (by omega), u8_eq (b := x) (by omega), u8_eq (b := y) (by omega)]
            simp only [hB]
            exact ⟨hs, rfl, rfl⟩
          · rw [if_neg h4] at h ⊢
            by_cases h5 : b.toNat < 248
            · rw [if_pos h5] at h ⊢
              obtain ⟨d, hm, hl, hs, he⟩ := many_not h
              rw [he]
              obtain ⟨x, t, rfl, hx, hm⟩ := more_some hm
              obtain ⟨y, t, rfl, hy, hm⟩ := more_some hm
              obtain ⟨z, t, rfl, hz, hm⟩ := more_some hm
              have hd := more_nil hm
              have gx := goesOn_iff.1 hx
              have gy := goesOn_iff.1 hy
              have gz := goesOn_iff.1 hz
              have hB : bytesD d = [b, x, y, z] := by
                unfold bytesD
                rw [if_pos hs, if_neg (by omega), if_neg (by omega), if_neg (by omega), u8_eq (b := b) (by omega), u8_eq (b := x) (by omega), u8_eq (b := y) (by omega), u8_eq (b := z) (by omega)]
              simp only [hB]
              exact ⟨hs, rfl, rfl⟩
            · rw [if_neg h5] at h; exact absurd rfl h

/-- the bytes of signs -/
def textD : List Nat → List UInt8
  | [] => []
  | c :: t => bytesD c ++ textD t

end Go.Proofs.YteoogioanjkacaaGreatDoor.Quo
namespace Go.Proofs.YteoogioanjkacaaGreatDoor.Quo
set_option linter.unusedSimpArgs false
set_option maxRecDepth 10000
open Go.Lib
/-- what a range over a text tells of the sign that stands first -/
def runeD (l : List UInt8) : Nat × Nat := if (nextD l).2 = 0 then (65533, 1) else nextD l

theorem runeD_of {l : List UInt8} {c n : Nat} (h : nextD l = (c, n)) (hn : n ≠ 0) : runeD l = (c, n) := by
  unfold runeD
  rw [h, if_neg hn]
theorem runeD_no {l : List UInt8} (h : nextD l = (0, 0)) : runeD l = (65533, 1) := by
  unfold runeD
  rw [h, if_pos rfl]

theorem goes_div {b : UInt8} : goesOn b = true ↔ b.toNat / 64 = 2 := by
  have := u8_lt b
  rw [goesOn_iff]
  omega

theorem next_two_no {b : UInt8} {r : List UInt8} (h0 : 192 ≤ b.toNat) (h1 : b.toNat < 224) (h : ¬ ∃ x t, r = x :: t ∧ goesOn x = true ∧ 128 ≤ 64 * (b.toNat - 192) + (x.toNat - 128)) : nextD (b :: r) = (0, 0) := by
  by_cases hz : (nextD (b :: r)).2 = 0
  · rw [nextD_cons, if_neg (by omega), if_neg (by omega), if_pos h1] at hz ⊢
    unfold many at hz ⊢
    split
    · split
      · rename_i hm hd
        rw [hm] at hz
        simp only at hz
        rw [if_pos hd] at hz
        cases hz
      · rfl
    · rfl
  · exfalso
    rw [nextD_cons, if_neg (by omega), if_neg (by omega), if_pos h1] at hz
    obtain ⟨d, hm, hl, _, _⟩ := many_not hz
    obtain ⟨x, t, rfl, hx, hm⟩ := more_some hm
    have hd := more_nil hm
    exact h ⟨x, t, rfl, hx, by omega⟩
theorem next_three_no {b : UInt8} {r : List UInt8} (h0 : 224 ≤ b.toNat) (h1 : b.toNat < 240) (h : ¬ ∃ x y t, r = x :: y :: t ∧ goesOn x = true ∧ goesOn y = true ∧ 2048 ≤ 64 * (64 * (b.toNat - 224) + (x.toNat - 128)) + (y.toNat - 128) ∧ isSign (64 * (64 * (b.toNat - 224) + (x.toNat - 128)) + (y.toNat - 128)) = true) : nextD (b :: r) = (0, 0) := by
  by_cases hz : (nextD (b :: r)).2 = 0
  · rw [nextD_cons, if_neg (by omega), if_neg (by omega), if_neg (by omega), if_pos h1] at hz ⊢
    unfold many at hz ⊢
    split
    · split
      · rename_i hm hd
        rw [hm] at hz
        simp only at hz
        rw [if_pos hd] at hz
        cases hz
      · rfl
    · rfl
  · exfalso
    rw [nextD_cons, if_neg (by omega), if_neg (by omega), if_neg (by omega), if_pos h1] at hz
    obtain ⟨d, hm, hl, hs, _⟩ := many_not hz
    obtain ⟨x, t, rfl, hx, hm⟩ := more_some hm
    obtain ⟨y, t, rfl, hy, hm⟩ := more_some hm
    have hd := more_nil hm
    subst hd
    exact h ⟨x, y, t, rfl, hx, hy, hl, hs⟩
theorem next_four_no {b : UInt8} {r : List UInt8} (h0 : 240 ≤ b.toNat) (h1 : b.toNat < 248) (h : ¬ ∃ x y z t, r = x :: y :: z :: t ∧ goesOn x = true ∧ goesOn y = true ∧ goesOn z = true ∧ 65536 ≤ 64 * (64 * (64 * (b.toNat - 240) + (x.toNat - 128)) + (y.toNat - 128)) + (z.toNat - 128) ∧ isSign (64 * (64 * (64 * (b.toNat - 240) + (x.toNat - 128)) + (y.toNat - 128)) + (z.toNat - 128)) = true) : nextD (b :: r) = (0, 0) := by
  by_cases hz : (nextD (b :: r)).2 = 0
  · rw [nextD_cons, if_neg (by omega), if_neg (by omega), if_neg (by omega), if_neg (by omega), if_pos h1] at hz ⊢
    unfold many at hz ⊢
    split
    · split
      · rename_i hm hd
        rw [hm] at hz
        simp only at hz
        rw [if_pos hd] at hz
        cases hz
      · rfl
    · rfl
  · exfalso
    rw [nextD_cons, if_neg (by omega), if_neg (by omega), if_neg (by omega), if_neg (by omega), if_pos h1] at hz
    obtain ⟨d, hm, hl, hs, _⟩ := many_not hz
    obtain ⟨x, t, rfl, hx, hm⟩ := more_some hm
    obtain ⟨y, t, rfl, hy, hm⟩ := more_some hm
    obtain ⟨z, t, rfl, hz, hm⟩ := more_some hm
    have hd := more_nil hm
    subst hd
    exact h ⟨x, y, z, t, rfl, hx, hy, hz, hl, hs⟩

theorem decode_next (l : List UInt8) (hne : l ≠ []) : decodeL l = runeD l := by
  rw [decodeL_N]
  rcases l with _ | ⟨b, r⟩
  · exact absurd rfl hne
  have hb := u8_lt b
  simp only [List.length_cons, List.getD_cons_zero, List.getD_cons_succ]
  unfold decodeN
  by_cases h1 : b.toNat < 128
  · rw [if_pos h1, runeD_of (next_one h1) (by omega)]
  rw [if_neg h1]
  by_cases h2 : b.toNat < 192
  · rw [if_neg (by omega), if_neg (by omega), if_neg (by omega), runeD_no (by rw [nextD_cons, if_neg h1, if_pos h2])]
  by_cases h3 : b.toNat < 224
  · by_cases hx : ∃ x t, r = x :: t ∧ goesOn x = true
    · obtain ⟨x, t, rfl, hx⟩ := hx
      have gx := goesOn_iff.1 hx
      simp only [List.length_cons, List.getD_cons_zero]
      rw [if_pos (by omega)]
      by_cases hl : 128 ≤ 64 * (b.toNat - 192) + (x.toNat - 128)
      · rw [if_pos (by omega), runeD_of (next_two (by omega) h3 hx rfl hl) (by omega)]
        simp only [Prod.mk.injEq, and_true]
        omega
      · rw [if_neg (by omega), runeD_no (next_two_no (by omega) h3 (by rintro ⟨_, _, e, _, h⟩; cases e; exact hl h))]
    · rw [if_neg, if_neg (by omega), if_neg (by omega), runeD_no (next_two_no (by omega) h3 (by rintro ⟨x, t, e, h, _⟩; exact hx ⟨x, t, e, h⟩))]
      rintro ⟨_, hn, hq⟩
      rcases r with _ | ⟨x, t⟩
      · simp at hn
      · exact hx ⟨x, t, rfl, goes_div.2 hq⟩
  by_cases h4 : b.toNat < 240
  · rw [if_neg (by omega)]
    by_cases hx : ∃ x y t, r = x :: y :: t ∧ goesOn x = true ∧ goesOn y = true
    · obtain ⟨x, y, t, rfl, hx, hy⟩ := hx
      have gx := goesOn_iff.1 hx
      have gy := goesOn_iff.1 hy
      simp only [List.length_cons, List.getD_cons_zero, List.getD_cons_succ]
      rw [if_pos (by omega)]
      by_cases hl : 2048 ≤ 64 * (64 * (b.toNat - 224) + (x.toNat - 128)) + (y.toNat - 128) ∧ isSign (64 * (64 * (b.toNat - 224) + (x.toNat - 128)) + (y.toNat - 128)) = true
      · have hs := isSign_iff.1 hl.2
        rw [if_pos (by omega), runeD_of (next_three (by omega) h4 hx hy rfl hl.1 hl.2) (by omega)]
        simp only [Prod.mk.injEq, and_true]
        omega
      · have hl' := hl
        rw [isSign_iff] at hl'
        rw [if_neg (by omega), runeD_no (next_three_no (by omega) h4 (by rintro ⟨_, _, _, e, _, _, h⟩; cases e; exact hl h))]
    · rw [if_neg, if_neg (by omega), runeD_no (next_three_no (by omega) h4 (by rintro ⟨x, y, t, e, h, k, _⟩; exact hx ⟨x, y, t, e, h, k⟩))]
      rintro ⟨_, ⟨hn, hq⟩, hm, hp⟩
      rcases r with _ | ⟨x, _ | ⟨y, t⟩⟩
      · simp at hn
      · simp at hm
      · exact hx ⟨x, y, t, rfl, goes_div.2 hq, goes_div.2 hp⟩
  rw [if_neg (by omega), if_neg (by omega)]
  by_cases h5 : b.toNat < 248
  · by_cases hx : ∃ x y z t, r = x :: y :: z :: t ∧ goesOn x = true ∧ goesOn y = true ∧ goesOn z = true
    · obtain ⟨x, y, z, t, rfl, hx, hy, hz⟩ := hx
      have gx := goesOn_iff.1 hx
      have gy := goesOn_iff.1 hy
      have gz := goesOn_iff.1 hz
      simp only [List.length_cons, List.getD_cons_zero, List.getD_cons_succ]
      rw [if_pos (by omega)]
      by_cases hl : 65536 ≤ 64 * (64 * (64 * (b.toNat - 240) + (x.toNat - 128)) + (y.toNat - 128)) + (z.toNat - 128) ∧ isSign (64 * (64 * (64 * (b.toNat - 240) + (x.toNat - 128)) + (y.toNat - 128)) + (z.toNat - 128)) = true
      · have hs := isSign_iff.1 hl.2
        rw [if_pos (by omega), runeD_of (next_four (by omega) h5 hx hy hz rfl hl.1 hl.2) (by omega)]
        simp only [Prod.mk.injEq, and_true]
        omega
      · have hl' := hl
        rw [isSign_iff] at hl'
        rw [if_neg (by omega), runeD_no (next_four_no (by omega) h5 (by rintro ⟨_, _, _, _, e, _, _, _, h⟩; cases e; exact hl h))]
    · rw [if_neg, runeD_no (next_four_no (by omega) h5 (by rintro ⟨x, y, z, t, e, h, k, m, _⟩; exact hx ⟨x, y, z, t, e, h, k, m⟩))]
      rintro ⟨_, ⟨hn, hq⟩, ⟨hm, hp⟩, hk, ho⟩
      rcases r with _ | ⟨x, _ | ⟨y, _ | ⟨z, t⟩⟩⟩
      · simp at hn
      · simp at hm
      · simp at hk
      · exact hx ⟨x, y, z, t, rfl, goes_div.2 hq, goes_div.2 hp, goes_div.2 ho⟩
  · rw [if_neg (by omega), runeD_no (by rw [nextD_cons, if_neg h1, if_neg h2, if_neg h3, if_neg h4, if_neg h5])]

theorem decode_at_rune (s : ByteArray) (pos : Nat) (h : pos < s.size) : Utf8.decode s pos = runeD (s.data.toList.drop pos) := by
  rw [← decodeL_drop]
  refine decode_next _ fun e => ?_
  have := congrArg List.length e
  rw [List.length_drop, ← size_eq] at this
  simp at this
  omega
end Go.Proofs.YteoogioanjkacaaGreatDoor.Quo
namespace Go.Proofs.YteoogioanjkacaaGreatDoor.Quo
set_option maxRecDepth 10000
set_option linter.unusedSimpArgs false
/-- a number's bytes in quotes (those of a quote twice) -/
def qC (c : Nat) : List UInt8 := if c = 39 then [39, 39] else bytesD c
/-- signs' bytes in quotes, without the quotes around them -/
def qT : List Nat → List UInt8
  | [] => []
  | c :: t => qC c ++ qT t
/-- signs in quotes -/
def inQ (cs : List Nat) : List UInt8 := 39 :: (qT cs ++ [39])
/-- the sign that stands first inside of quotes, and how many bytes it takes (0: there is none) -/
def fstQ : List UInt8 → Nat × Nat
  | [] => (0, 0)
  | b :: r => if b = 39 then (if r.head? = some 39 then (39, 2) else (0, 0)) else nextD (b :: r)
/-- the signs inside of quotes, and what is left, read with so much breath -/
def bodyF : Nat → List UInt8 → List Nat × List UInt8
  | 0, l => ([], l)
  | k + 1, l => if (fstQ l).2 = 0 then ([], l) else ((fstQ l).1 :: (bodyF k (l.drop (fstQ l).2)).1, (bodyF k (l.drop (fstQ l).2)).2)
def bodyD (l : List UInt8) : List Nat × List UInt8 := bodyF (l.length + 1) l
/-- what is read behind the first quote -/
def endQ (p : List Nat × List UInt8) : Option (List Nat × List UInt8) :=
  match p.2 with
  | b :: r => if b = 39 then some (p.1, r) else none
  | [] => none
/-- what is read -/
def readQ : List UInt8 → Option (List Nat × List UInt8)
  | b :: r => if b = 39 then endQ (bodyD r) else none
  | [] => none

theorem fstQ_cons (b : UInt8) (r : List UInt8) : fstQ (b :: r) = if b = 39 then (if r.head? = some 39 then (39, 2) else (0, 0)) else nextD (b :: r) := rfl
theorem bodyF_succ (k : Nat) (l : List UInt8) : bodyF (k + 1) l = if (fstQ l).2 = 0 then ([], l) else ((fstQ l).1 :: (bodyF k (l.drop (fstQ l).2)).1, (bodyF k (l.drop (fstQ l).2)).2) := rfl
theorem readQ_cons (b : UInt8) (r : List UInt8) : readQ (b :: r) = if b = 39 then endQ (bodyD r) else none := rfl
theorem endQ_cons (cs : List Nat) (b : UInt8) (r : List UInt8) : endQ (cs, b :: r) = if b = 39 then some (cs, r) else none := rfl
theorem bytes39 : bytesD 39 = [39] := by decide
theorem qC_other {c : Nat} (h : c ≠ 39) : qC c = bytesD c := by unfold qC; rw [if_neg h]
theorem qC_pos {c : Nat} (h : isSign c = true) : 1 ≤ (qC c).length := by
  unfold qC
  split
  · simp
  · exact bytes_pos h
theorem qC_le (c : Nat) : (qC c).length ≤ 4 := by
  unfold qC
  split
  · simp
  · exact bytes_le c
theorem qT_append (a b : List Nat) : qT (a ++ b) = qT a ++ qT b := by
  induction a with
  | nil => rfl
  | cons c t ih => show qC c ++ qT (t ++ b) = (qC c ++ qT t) ++ qT b; rw [ih, List.append_assoc]
theorem qT_le (cs : List Nat) : (qT cs).length ≤ 4 * cs.length := by
  induction cs with
  | nil => simp [qT]
  | cons c t ih =>
    have := qC_le c
    show (qC c ++ qT t).length ≤ _
    rw [List.length_append, List.length_cons]
    omega
theorem inQ_len (cs : List Nat) : (inQ cs).length = (qT cs).length + 2 := by unfold inQ; simp
theorem fst_of {c : Nat} (h : isSign c = true) (r : List UInt8) : fstQ (qC c ++ r) = (c, (qC c).length) := by
  by_cases h39 : c = 39
  · subst h39
    rfl
  · rw [qC_other h39, ← next_bytes h r]
    have hp := bytes_pos h
    cases hb : bytesD c with
    | nil => rw [hb] at hp; simp at hp
    | cons b t =>
      show fstQ (b :: (t ++ r)) = _
      rw [fstQ_cons, if_neg, List.cons_append]
      rintro rfl
      have hn := next_bytes h r
      rw [hb, List.cons_append, next_one (by decide)] at hn
      exact h39 (Prod.mk.inj hn).1.symm
theorem fst_one (r : List UInt8) (h : r.head? ≠ some 39) : (fstQ (39 :: r)).2 = 0 := by
  rw [fstQ_cons, if_pos rfl, if_neg h]
theorem fst_le {l : List UInt8} (h : (fstQ l).2 ≠ 0) : isSign (fstQ l).1 = true ∧ qC (fstQ l).1 ++ l.drop (fstQ l).2 = l ∧ (fstQ l).2 = (qC (fstQ l).1).length := by
  cases l with
  | nil => exact absurd rfl h
  | cons b r =>
    by_cases hb : b = 39
    · subst hb
      have e : fstQ (39 :: r) = if r.head? = some 39 then (39, 2) else (0, 0) := by rw [fstQ_cons, if_pos rfl]
      rw [e] at h ⊢
      by_cases hr : r.head? = some 39
      · rw [if_pos hr]
        cases r with
        | nil => cases hr
        | cons x t =>
          have hx : x = 39 := by simpa using hr
          subst hx
          exact ⟨rfl, rfl, rfl⟩
      · rw [if_neg hr] at h
        exact absurd rfl h
    · have e : fstQ (b :: r) = nextD (b :: r) := by rw [fstQ_cons, if_neg hb]
      rw [e] at h ⊢
      obtain ⟨h1, h2, h3⟩ := next_inv h
      have hn : (nextD (b :: r)).1 ≠ 39 := by
        intro e
        rw [e, bytes39] at h2
        have := (List.cons.inj h2).1
        exact hb this.symm
      rw [qC_other hn]
      exact ⟨h1, h2, h3⟩
theorem fst_drop {l : List UInt8} (h : (fstQ l).2 ≠ 0) : (fstQ l).2 ≤ l.length ∧ (l.drop (fstQ l).2).length < l.length := by
  obtain ⟨h1, h2, h3⟩ := fst_le h
  have hp := qC_pos h1
  have := congrArg List.length h2
  rw [List.length_append, List.length_drop] at this
  rw [List.length_drop]
  omega

theorem bodyF_enough : ∀ (k : Nat) (l : List UInt8), l.length < k → bodyF k l = bodyF (l.length + 1) l
  | 0, l, h => by omega
  | k + 1, l, h => by
    rw [bodyF_succ, bodyF_succ]
    by_cases hn : (fstQ l).2 = 0
    · rw [if_pos hn, if_pos hn]
    · rw [if_neg hn, if_neg hn]
      have hd := (fst_drop hn).2
      rw [bodyF_enough k _ (by omega), bodyF_enough l.length _ hd]
theorem body_stop {l : List UInt8} (h : (fstQ l).2 = 0) : bodyD l = ([], l) := by
  unfold bodyD
  rw [bodyF_succ, if_pos h]
theorem body_step {l : List UInt8} (h : (fstQ l).2 ≠ 0) : bodyD l = ((fstQ l).1 :: (bodyD (l.drop (fstQ l).2)).1, (bodyD (l.drop (fstQ l).2)).2) := by
  have e : bodyD l = if (fstQ l).2 = 0 then ([], l) else ((fstQ l).1 :: (bodyF l.length (l.drop (fstQ l).2)).1, (bodyF l.length (l.drop (fstQ l).2)).2) := rfl
  rw [e, if_neg h, bodyF_enough l.length _ (fst_drop h).2]
  rfl
theorem body_text : ∀ {cs : List Nat}, (∀ c ∈ cs, isSign c = true) → ∀ (r : List UInt8), (fstQ r).2 = 0 → bodyD (qT cs ++ r) = (cs, r)
  | [], _, r, h => body_stop h
  | c :: t, hc, r, h => by
    have hs := hc c (by simp)
    have hf := fst_of hs (qT t ++ r)
    have hp := qC_pos hs
    show bodyD ((qC c ++ qT t) ++ r) = _
    rw [List.append_assoc, body_step (by rw [hf]; simp only; omega), hf]
    simp only
    rw [List.drop_left, body_text (fun d hd => hc d (by simp [hd])) r h]
theorem body_inv : ∀ (n : Nat) {l : List UInt8}, l.length ≤ n → (∀ c ∈ (bodyD l).1, isSign c = true) ∧ qT (bodyD l).1 ++ (bodyD l).2 = l ∧ (fstQ (bodyD l).2).2 = 0 := by
  intro n
  induction n with
  | zero =>
    intro l hl
    have : l = [] := List.eq_nil_of_length_eq_zero (by omega)
    subst this
    exact ⟨fun c hc => absurd hc (by simp [bodyD, bodyF, fstQ]), rfl, rfl⟩
  | succ n ih =>
    intro l hl
    by_cases h : (fstQ l).2 = 0
    · rw [body_stop h]
      exact ⟨fun c hc => absurd hc (by simp), rfl, h⟩
    · obtain ⟨h1, h2, h3⟩ := fst_le h
      obtain ⟨i1, i2, i3⟩ := ih (l := l.drop (fstQ l).2) (by have := (fst_drop h).2; omega)
      rw [body_step h]
      refine ⟨fun c hc => ?_, ?_, i3⟩
      · rcases List.mem_cons.1 hc with rfl | hc
        · exact h1
        · exact i1 c hc
      · show (qC (fstQ l).1 ++ qT (bodyD (l.drop (fstQ l).2)).1) ++ (bodyD (l.drop (fstQ l).2)).2 = l
        rw [List.append_assoc, i2, h2]

/-- signs in quotes are read as the signs, with what follows, if that begins with no quote -/
theorem read_of {cs : List Nat} (h : ∀ c ∈ cs, isSign c = true) {r : List UInt8} (hr : r.head? ≠ some 39) : readQ (inQ cs ++ r) = some (cs, r) := by
  have e : inQ cs ++ r = 39 :: (qT cs ++ 39 :: r) := by unfold inQ; simp
  rw [e]
  rw [readQ_cons, if_pos rfl, body_text h _ (fst_one r hr), endQ_cons, if_pos rfl]
/-- what is read was written so -/
theorem read_inv {l r : List UInt8} {cs : List Nat} (h : readQ l = some (cs, r)) : (∀ c ∈ cs, isSign c = true) ∧ inQ cs ++ r = l ∧ r.head? ≠ some 39 := by
  cases l with
  | nil => cases h
  | cons b t =>
    rw [readQ_cons] at h
    by_cases hb : b = 39
    · subst hb
      rw [if_pos rfl] at h
      obtain ⟨i1, i2, i3⟩ := body_inv t.length (l := t) (Nat.le_refl _)
      cases hq : (bodyD t).2 with
      | nil =>
        have e : bodyD t = ((bodyD t).1, []) := Prod.ext rfl hq
        rw [e] at h
        cases h
      | cons x u =>
        have e : bodyD t = ((bodyD t).1, x :: u) := Prod.ext rfl hq
        rw [e, endQ_cons] at h
        rw [hq] at i2 i3
        by_cases hx : x = 39
        · subst hx
          rw [if_pos rfl] at h
          have h' := Option.some.inj h
          have e1 : (bodyD t).1 = cs := (Prod.mk.inj h').1
          have e2 : u = r := (Prod.mk.inj h').2
          subst e2
          rw [e1] at i1 i2
          refine ⟨i1, ?_, ?_⟩
          · rw [← i2]; unfold inQ; simp
          · intro hu
            rw [fstQ_cons, if_pos rfl, if_pos hu] at i3
            cases i3
        · rw [if_neg hx] at h; cases h
    · rw [if_neg hb] at h; cases h

/-- the document's own way: the bytes up to a quote that stands alone (a quote twice is one), and what follows -/
def scanQ : List UInt8 → Option (List UInt8 × List UInt8)
  | [] => none
  | b :: r => if b = 39 then (match r with
      | x :: t => if x = 39 then (scanQ t).map (fun p => (39 :: p.1, p.2)) else some ([], x :: t)
      | [] => some ([], []))
    else (scanQ r).map (fun p => (b :: p.1, p.2))
/-- each quote twice -/
def dbl : List UInt8 → List UInt8
  | [] => []
  | b :: r => if b = 39 then 39 :: 39 :: dbl r else b :: dbl r
theorem dbl_cons (b : UInt8) (r : List UInt8) : dbl (b :: r) = if b = 39 then 39 :: 39 :: dbl r else b :: dbl r := rfl
theorem scan_other {b : UInt8} {r : List UInt8} (h : b ≠ 39) : scanQ (b :: r) = (scanQ r).map (fun p => (b :: p.1, p.2)) := by
  rw [scanQ.eq_def]
  simp only
  rw [if_neg h]
theorem scan_two (t : List UInt8) : scanQ (39 :: 39 :: t) = (scanQ t).map (fun p => (39 :: p.1, p.2)) := by
  rw [scanQ.eq_def]
  simp
theorem scan_end {r : List UInt8} (h : r.head? ≠ some 39) : scanQ (39 :: r) = some ([], r) := by
  rw [scanQ.eq_def]
  cases r with
  | nil => simp
  | cons x t =>
    have hx : x ≠ 39 := by simpa using h
    simp [hx]
theorem scan_of : ∀ (x : List UInt8) {r : List UInt8}, r.head? ≠ some 39 → scanQ (dbl x ++ 39 :: r) = some (x, r)
  | [], r, h => scan_end h
  | b :: t, r, h => by
    rw [dbl_cons]
    by_cases hb : b = 39
    · subst hb
      rw [if_pos rfl]
      show scanQ (39 :: 39 :: (dbl t ++ 39 :: r)) = _
      rw [scan_two, scan_of t h]
      rfl
    · rw [if_neg hb]
      show scanQ (b :: (dbl t ++ 39 :: r)) = _
      rw [scan_other hb, scan_of t h]
      rfl
theorem dbl_append (a b : List UInt8) : dbl (a ++ b) = dbl a ++ dbl b := by
  induction a with
  | nil => rfl
  | cons c t ih =>
    rw [List.cons_append, dbl_cons, dbl_cons]
    split
    · rw [ih]; simp
    · rw [ih]; simp
theorem dbl_none {l : List UInt8} (h : ∀ b ∈ l, b ≠ 39) : dbl l = l := by
  induction l with
  | nil => rfl
  | cons b t ih =>
    rw [dbl_cons, if_neg (h b (by simp)), ih (fun c hc => h c (by simp [hc]))]
theorem ne39 {n : Nat} (h : n < 256) (h2 : n ≠ 39) : UInt8.ofNat n ≠ 39 := by
  intro e
  have := congrArg UInt8.toNat e
  rw [u8_nat h] at this
  exact h2 this
theorem bytes_none {c : Nat} (h : c ≠ 39) : ∀ b ∈ bytesD c, b ≠ 39 := by
  intro b hb
  unfold bytesD at hb
  split at hb
  · rename_i hs
    have hs := isSign_iff.1 hs
    split at hb
    · simp only [List.mem_cons, List.not_mem_nil, or_false] at hb
      subst hb
      exact ne39 (by omega) h
    · split at hb
      · simp only [List.mem_cons, List.not_mem_nil, or_false] at hb
        rcases hb with rfl | rfl <;> exact ne39 (by omega) (by omega)
      · split at hb
        · simp only [List.mem_cons, List.not_mem_nil, or_false] at hb
          rcases hb with rfl | rfl | rfl <;> exact ne39 (by omega) (by omega)
        · simp only [List.mem_cons, List.not_mem_nil, or_false] at hb
          rcases hb with rfl | rfl | rfl | rfl <;> exact ne39 (by omega) (by omega)
  · simp at hb
theorem dbl_bytes (c : Nat) : dbl (bytesD c) = qC c := by
  by_cases h : c = 39
  · subst h; decide
  · rw [qC_other h, dbl_none (bytes_none h)]
theorem dbl_text (cs : List Nat) : dbl (textD cs) = qT cs := by
  induction cs with
  | nil => rfl
  | cons c t ih =>
    show dbl (bytesD c ++ textD t) = qC c ++ qT t
    rw [dbl_append, dbl_bytes, ih]
/-- signs that came in as whole numbers -/
def signZ (x : Int) : Bool := decide (0 ≤ x ∧ x ≤ 1114111 ∧ ¬ (55296 ≤ x ∧ x ≤ 57343))
def natsZ (xs : List Int) : List Nat := xs.map Int.toNat
def intsZ (cs : List Nat) : List Int := cs.map fun (c : Nat) => (c : Int)
theorem signZ_iff {x : Int} : signZ x = true ↔ 0 ≤ x ∧ x ≤ 1114111 ∧ ¬ (55296 ≤ x ∧ x ≤ 57343) := by simp only [signZ, decide_eq_true_eq]
theorem signZ_nat {x : Int} (h : signZ x = true) : isSign x.toNat = true ∧ ((x.toNat : Nat) : Int) = x := by
  have := signZ_iff.1 h
  exact ⟨isSign_iff.2 ⟨by omega, by omega⟩, by omega⟩
theorem signZ_of {c : Nat} (h : isSign c = true) : signZ (c : Int) = true := by
  have := isSign_iff.1 h
  exact signZ_iff.2 ⟨by omega, by omega, by omega⟩
theorem ints_nats {xs : List Int} (h : xs.all signZ = true) : intsZ (natsZ xs) = xs := by
  induction xs with
  | nil => rfl
  | cons x t ih =>
    rw [List.all_cons, Bool.and_eq_true] at h
    show ((x.toNat : Nat) : Int) :: intsZ (natsZ t) = _
    rw [(signZ_nat h.1).2, ih h.2]
theorem nats_sign {xs : List Int} (h : xs.all signZ = true) : ∀ c ∈ natsZ xs, isSign c = true := by
  intro c hc
  obtain ⟨x, hx, rfl⟩ := List.mem_map.1 hc
  exact (signZ_nat (List.all_eq_true.1 h x hx)).1
theorem all_ints {cs : List Nat} (h : ∀ c ∈ cs, isSign c = true) : (intsZ cs).all signZ = true := by
  rw [List.all_eq_true]
  intro x hx
  obtain ⟨c, hc, rfl⟩ := List.mem_map.1 hx
  exact signZ_of (h c hc)
theorem nats_append (a b : List Int) : natsZ (a ++ b) = natsZ a ++ natsZ b := by simp [natsZ]
theorem ints_append (a b : List Nat) : intsZ (a ++ b) = intsZ a ++ intsZ b := by simp [intsZ]
theorem nats_len (xs : List Int) : (natsZ xs).length = xs.length := by simp [natsZ]
theorem ints_len (cs : List Nat) : (intsZ cs).length = cs.length := by simp [intsZ]
/-- what Text answers -/
def textQ (xs : List Int) : List UInt8 := if xs.all signZ = true then inQ (natsZ xs) else []
end Go.Proofs.YteoogioanjkacaaGreatDoor.Quo
namespace Go.Proofs.YteoogioanjkacaaGreatDoor.Quo
set_option maxRecDepth 20000
open Go.RowKit Go.Lib
set_option linter.unusedSimpArgs false
set_option linter.unusedVariables false
theorem heap_lt {w : World} {b : Nat} {o : Obj} (h : w.heap[b]? = some o) : b < w.heap.size := (Array.getElem?_eq_some_iff.1 h).1
def ivs (xs : List Int) : List Value := xs.map fun x => .int .i64 x
/-- the cells that a slice reads -/
def Src (w : World) (A : Option Addr) (vs : List Value) : Prop := 0 < vs.length → ∃ ad, A = some ad ∧ ∀ j u, vs[j]? = some u → w.cell? (ad.add j) = some u
def Ones (vs : List Value) : Prop := ∀ u ∈ vs, u.oneCell' = true
theorem info_of {P : Program} {e : TypeId} {z : Value} {size bytes : Nat} (h : (P.info? e).map (fun i => (i.zero, i.size, i.bytes)) = some (some z, size, bytes)) : ∃ i, P.info? e = some i ∧ i.zero = some z ∧ i.size = size ∧ i.bytes = bytes := by
  obtain ⟨i, hi, hz⟩ := Option.map_eq_some_iff.1 h
  simp only [Prod.mk.injEq] at hz
  exact ⟨i, hi, hz.1, hz.2.1, hz.2.2⟩
theorem make_of {P : Program} {t e : TypeId} {z : Value} {size bytes : Nat} (ht : P.underlying t = some (.slice e)) (h : (P.info? e).map (fun i => (i.zero, i.size, i.bytes)) = some (some z, size, bytes)) (n : Nat) (hb : bytes * n ≤ 281474976710656) (hn : n ≤ 9223372036854775807) :
    ∃ cur : Array Value, cur.size = n * size ∧ ∀ W : World, (Instr.makeSlice t (.int .i64 (n : Nat)) (.int .i64 (n : Nat))).run P W = .ok (.slice (some ⟨W.heap.size, 0, none⟩) n n) (W.alloc (.cells cur e)) := by
  obtain ⟨i, hi, hz, hs, hby⟩ := info_of h
  refine ⟨madeCells z.cells (n * size), size_madeCells _ _, fun W => ?_⟩
  have hb' : (i.bytes : Int) * ((n : Nat) : Int) ≤ 281474976710656 := by
    have h : ((i.bytes * n : Nat) : Int) ≤ 281474976710656 := by rw [hby]; omega
    rwa [Int.natCast_mul] at h
  have hr := run_make (P := P) W t e i z ht hi hz .i64 .i64 n n (by omega) (Int.le_refl _) hb' (by omega)
  simp only [Int.toNat_natCast, hs] at hr
  exact hr
theorem info_int : (Tryz.prog.info? 3).map (fun i => (i.zero, i.size, i.bytes)) = some (some (.int .i64 0), 1, 8) := by kernel_rfl
theorem info_str : (Tryz.prog.info? 9).map (fun i => (i.zero, i.size, i.bytes)) = some (some (.string ⟨#[]⟩), 1, 16) := by kernel_rfl
theorem ivs_len (xs : List Int) : (ivs xs).length = xs.length * 1 := by simp [ivs]
theorem ivs_one (xs : List Int) : Ones (ivs xs) := fun u hu => by
  obtain ⟨x, _, rfl⟩ := List.mem_map.1 hu
  rfl
theorem addr_add (b off j : Nat) : (⟨b, off, none⟩ : Addr).add j = ⟨b, off + j, none⟩ := by unfold Addr.add; split <;> simp_all
theorem src_nums {w : World} {B : Nat} {A : Option Addr} {xs : List Int} (h : Nums .i64 w B A xs) : Src w A (ivs xs) := fun hp => by
  rw [ivs_len, Nat.mul_one] at hp
  obtain ⟨b, off, rfl, _, hc⟩ := h hp
  refine ⟨_, rfl, fun j u hj => ?_⟩
  have hl : j < xs.length := by
    have := (List.getElem?_eq_some_iff.1 hj).1
    rw [ivs_len] at this
    omega
  rw [addr_add, hc j hl, ← hj]
  simp [ivs, hl]
theorem ivs_app (a b : List Int) : ivs (a ++ b) = ivs a ++ ivs b := by simp [ivs]
theorem ownsRow_grow {w w' : World} {base size n : Nat} {t : TypeId} {v : Value} {vals : List Value} (ho : w.ownsRow base t size v n vals) (hg : Grow w w') : w'.ownsRow base t size v n vals :=
  ⟨ho.1, by
    rcases ho.2 with h0 | ⟨g', cap', cur, hv, hbg, hgg, rest⟩
    · exact .inl h0
    · exact .inr ⟨g', cap', cur, hv, hbg, (hg.block g' (heap_lt hgg)).trans hgg, rest⟩⟩

theorem run_append_empty (t ty e : TypeId) (i : TypeInfo) (ht : Tryz.prog.underlying t = some (.slice e)) (hi : Tryz.prog.info? e = some i) (w : World) (B size n : Nat) (v : Value) (xs : List Value)
    (hv : w.ownsRow B e size v n xs) (A : Option Addr) (c : Nat) :
    (Builtin.append_ #[t, t] ty #[v, .slice A 0 c]).run Tryz.prog w = .ok v w := by
  rcases hv.2 with ⟨rfl, rfl⟩ | ⟨g, cap, cur, rfl, _, _, hnc, _⟩
  · cases A <;> simp [Builtin.append_, run_underlying ht, sizeOf, typeInfo, hi, Builtin.lenOf, Builtin.firstCells, loadCells, loadCellsFrom, storeCells]
  · cases A <;> simp [Builtin.append_, run_underlying ht, sizeOf, typeInfo, hi, Builtin.lenOf, Builtin.firstCells, loadCells, loadCellsFrom, storeCells, hnc]
theorem run_append_any (w : World) (B : Nat) (t ty e : TypeId) (i : TypeInfo) (z : Value) (size bytes : Nat) (ht : Tryz.prog.underlying t = some (.slice e)) (hi : Tryz.prog.info? e = some i) (hz : i.zero = some z)
    (hsize : i.size = size) (hby : i.bytes = bytes) (hzs : z.cells.size = size) (hsz : 0 < size) (v : Value) (n : Nat) (xs : List Value) (hown : w.ownsRow B e size v n xs)
    (A : Option Addr) (m c : Nat) (news : List Value) (hl : news.length = m * size) (hsrc : Src w A news) (h1 : Ones news) (hb : (n + m) * bytes ≤ 140737488355328) (hb2 : n + m ≤ 1000000000) (hB : B ≤ w.heap.size) :
    ∃ v' w', (Builtin.append_ #[t, t] ty #[v, .slice A m c]).run Tryz.prog w = .ok v' w' ∧ w'.ownsRow B e size v' (n + m) (xs ++ news) ∧ Below B w w' := by
  by_cases h0 : m = 0
  · subst h0
    have hn0 : news = [] := List.eq_nil_of_length_eq_zero (by omega)
    subst hn0
    exact ⟨v, w, run_append_empty t ty e i ht hi w B size n v xs hown A c, by simpa using hown, Below.refl _ _⟩
  · obtain ⟨ad, rfl, hc⟩ := hsrc (by rw [hl]; exact Nat.mul_pos (by omega) hsz)
    obtain ⟨v', w', hr, h2, h3, _, h5⟩ := run_append_own_at (P := Tryz.prog) w B t ty e i z size bytes ht hi hz hsize hby hzs hsz v n xs hown ad m c news hl hc h1 (by unfold maxLen; omega) hb hB
    exact ⟨v', w', hr, h2, Below.grown (Below.refl _ _) h3 hB (fun g hg => (hown.lt g hg).1)⟩

/-- whole numbers of one's own -/
def OwnI (B : Nat) (v : Value) (xs : List Int) (w : World) : Prop := w.ownsRow B 3 1 v xs.length (ivs xs)
theorem ownI_nil (B : Nat) (w : World) : OwnI B (.slice none 0 0) [] w := World.ownsRow_nil _ _ _ _
theorem OwnI.grow {B : Nat} {v : Value} {xs : List Int} {w w' : World} (h : OwnI B v xs w) (hg : Grow w w') : OwnI B v xs w' := ownsRow_grow h hg
theorem own_at {w : World} {B size n : Nat} {e : TypeId} {v : Value} {xs : List Value} (h : w.ownsRow B e size v n xs) :
    ∃ A c, v = .slice A n c ∧ n ≤ c ∧ (A = none → c = 0) ∧ (0 < n → ∃ g, A = some ⟨g, 0, none⟩ ∧ B ≤ g ∧ g < w.heap.size ∧ ∀ j u, xs[j]? = some u → w.cell? ⟨g, j, none⟩ = some u) := by
  rcases h.2 with ⟨rfl, rfl⟩ | ⟨g, cap, cur, rfl, hbg, hgg, hnc, hcm, hsz, htake⟩
  · exact ⟨none, 0, rfl, Nat.le_refl _, fun _ => rfl, fun h => absurd h (Nat.lt_irrefl _)⟩
  · refine ⟨some ⟨g, 0, none⟩, cap, rfl, hnc, (fun e => by cases e), fun _ => ⟨g, rfl, hbg, heap_lt hgg, fun j u hj => ?_⟩⟩
    have hjl : j < n * size := by
      have := (List.getElem?_eq_some_iff.1 hj).1
      rw [h.1] at this
      exact this
    rw [cell_of_row w g j cur _ (0, 0) hgg, ← hj, ← htake, List.getElem?_take, if_pos hjl, Array.getElem?_toList]
theorem OwnI.nums {B : Nat} {v : Value} {xs : List Int} {w : World} (h : OwnI B v xs w) : ∃ A c, v = .slice A xs.length c ∧ xs.length ≤ c ∧ Nums .i64 w w.heap.size A xs := by
  obtain ⟨A, c, rfl, hc, _, hg⟩ := own_at h
  refine ⟨A, c, rfl, hc, fun hp => ?_⟩
  obtain ⟨g, rfl, h1, h2, h3⟩ := hg hp
  refine ⟨g, 0, rfl, h2, fun i hi => ?_⟩
  rw [Nat.zero_add]
  exact h3 i _ (by simp [ivs, hi])
theorem wp_more_ints {o : Oper} {a : Act} {w : World} {K : Act → World → Prop} {Q : Exit → Act → World → Prop} (s x : Operand)
    (ho : o.op = .call { callee := .builtin .append, args := #[s, x], argTypes := #[31, 31] }) (B : Nat) (v : Value) (xs : List Int) (A : Option Addr) (m c : Nat) (ys : List Int)
    (hs : a.eval s = v) (hown : OwnI B v xs w) (hx : a.eval x = .slice A m c) (hm : ys.length = m) (hys : Nums .i64 w w.heap.size A ys) (hb : xs.length + m ≤ 1000000000) (hB : B ≤ w.heap.size)
    (h : ∀ v' w', Hid (OwnI B v' (xs ++ ys) w') → Hid (Below B w w') → K (a.put o.dst v') w') : o.wp Tryz.prog a w K Q := by
  obtain ⟨i0, hi, hz0, hz1, hz2⟩ := info_of info_int
  subst hm
  obtain ⟨v', w', hr, h2, h3⟩ := run_append_any w B 31 o.type 3 i0 _ 1 8 Tryz.underlying31 hi hz0 hz1 hz2 rfl (by decide) v xs.length (ivs xs) hown A ys.length c (ivs ys) (ivs_len ys) (src_nums hys) (ivs_one ys) (by omega) hb hB
  unfold Oper.wp
  simp [execOp, ho, resolve, invoke, builtin, hs, hx, hr, Result.andThen]
  exact h v' w' (Lib.hid (by rw [← ivs_app] at h2; rw [← List.length_append] at h2; exact h2)) (Lib.hid h3)
theorem wpList_more_ints {ops : Array Oper} {rest : List Oper} {o : Oper} {a : Act} {w : World} {Q : Exit → Act → World → Prop} (hgd : o.guard = none) (s x : Operand)
    (ho : o.op = .call { callee := .builtin .append, args := #[s, x], argTypes := #[31, 31] }) (B : Nat) (v : Value) (xs : List Int) (A : Option Addr) (m c : Nat) (ys : List Int)
    (hs : a.eval s = v) (hown : OwnI B v xs w) (hx : a.eval x = .slice A m c) (hm : ys.length = m) (hys : Nums .i64 w w.heap.size A ys) (hb : xs.length + m ≤ 1000000000) (hB : B ≤ w.heap.size)
    (h : ∀ v' w', Hid (OwnI B v' (xs ++ ys) w') → Hid (Below B w w') → wpList Tryz.prog ops Q rest (a.put o.dst v') w') : wpList Tryz.prog ops Q (o :: rest) a w :=
  wpList_plain hgd fun K hK => wp_more_ints s x ho B v xs A m c ys hs hown hx hm hys hb hB fun v' w' h1 h2 => hK _ _ (h v' w' h1 h2)
/-- numbers in new memory -/
theorem nums_cells {w : World} {g : Nat} {t : TypeId} {xs : List Int} (h : w.heap[g]? = some (.cells (ivs xs).toArray t (0, 0))) : Nums .i64 w w.heap.size (some ⟨g, 0, none⟩) xs := fun hp =>
  ⟨g, 0, rfl, heap_lt h, fun i hi => by
    rw [Nat.zero_add, cell_of_row w g _ _ t (0, 0) h]
    simp [ivs, hi]⟩
theorem nums_lit1 (w : World) (n : Int) (t : TypeId) : Nums .i64 (w.alloc (.cells #[.int .i64 n] t)) (w.alloc (.cells #[.int .i64 n] t)).heap.size (some ⟨w.heap.size, 0, none⟩) [n] := nums_cells (xs := [n]) (heap_alloc_new w (.cells #[.int .i64 n] t))
end Go.Proofs.YteoogioanjkacaaGreatDoor.Quo
namespace Go.Proofs.YteoogioanjkacaaGreatDoor.Quo
set_option maxRecDepth 20000
open Go.RowKit Go.Lib
set_option linter.unusedSimpArgs false
theorem str_ext {s t : ByteArray} (h : s.data.toList = t.data.toList) : s = t := by
  apply ByteArray.ext
  exact Array.toList_inj.1 h
theorem str_size (l : List UInt8) : (⟨l.toArray⟩ : ByteArray).size = l.length := by simp [ByteArray.size]
theorem str_app (a b : List UInt8) : (⟨a.toArray⟩ : ByteArray) ++ ⟨b.toArray⟩ = ⟨(a ++ b).toArray⟩ := by
  apply ByteArray.ext
  simp
theorem slice_from (l : List UInt8) (n : Nat) (h : n ≤ l.length) (W : World) : (Instr.slice 9 (.string ⟨l.toArray⟩) (some (.int .i64 (n : Nat))) none none).run Tryz.prog W = .ok (.string ⟨(l.drop n).toArray⟩) W := by
  have hu : Tryz.prog.underlying 9 = some .string := by kernel_rfl
  rw [run_slice_string_l (ht := hu) (h0 := by omega) (h1 := by simpa [ByteArray.size] using h)]
  congr 2
  exact str_ext (by simp [ByteArray.size]; exact List.take_of_length_le (by simp))
theorem index_str {l : List UInt8} {i : Nat} {x : UInt8} (h : l[i]? = some x) (W : World) : (Instr.index 9 (.string ⟨l.toArray⟩) (.int .i64 (i : Nat))).run Tryz.prog W = .ok (.int .u8 (x.toNat : Nat)) W := by
  have hu : Tryz.prog.underlying 9 = some .string := by kernel_rfl
  have hl := (List.getElem?_eq_some_iff.1 h).1
  have h' : (⟨l.toArray⟩ : ByteArray)[i]? = some x := by
    rw [getElem?_pos _ _ (by rw [str_size]; exact hl)]
    congr 1
    have := (List.getElem?_eq_some_iff.1 h).2
    simpa [ByteArray.getElem_eq_getElem_data] using this
  simp only [Instr.index, asIntOf, Sem.run_bind, Sem.run_pure, Result.andThen_ok, run_underlying hu]
  rw [if_pos (by omega), Int.toNat_natCast, h']
  rfl

theorem info5 : (Tryz.prog.info? 5).map (fun i => (i.zero, i.size, i.bytes)) = some (some (.int .u8 0), 1, 1) := by kernel_rfl
theorem cells_app (a b : List UInt8) : Go.Lib.byteCells (a ++ b) = Go.Lib.byteCells a ++ Go.Lib.byteCells b := by simp [Go.Lib.byteCells]
theorem cells_str (l : List UInt8) : strCells ⟨l.toArray⟩ = Go.Lib.byteCells l := rfl
/-- bytes of one's own -/
def Own (B : Nat) (v : Value) (q : List UInt8) (w : World) : Prop := w.ownsRow B 5 1 v q.length (Go.Lib.byteCells q)
theorem Own.grow {B : Nat} {v : Value} {q : List UInt8} {w w' : World} (h : Own B v q w) (hg : Grow w w') : Own B v q w' := ownsRow_grow h hg

theorem wpList_append_text {ops : Array Oper} {rest : List Oper} {o : Oper} {a : Act} {w : World} {Q : Exit → Act → World → Prop} (hgd : o.guard = none) (s x : Operand)
    (ho : o.op = .call { callee := .builtin .append, args := #[s, x], argTypes := #[57, 9] }) (B : Nat) (v : Value) (q p : List UInt8)
    (hs : a.eval s = v) (hown : Own B v q w) (hx : a.eval x = .string ⟨p.toArray⟩) (hb : q.length + p.length ≤ 140737488355328) (hbase : B ≤ w.heap.size)
    (h : ∀ v' w', Own B v' (q ++ p) w' → Below B w w' → wpList Tryz.prog ops Q rest (a.put o.dst v') w') : wpList Tryz.prog ops Q (o :: rest) a w := by
  obtain ⟨i0, hi, hz0, hz1, hz2⟩ := info_of info5
  refine wpList_append_own_string w hgd s x 57 9 ho B 5 i0 Tryz.underlying57 Tryz.underlying9 hi hz0 hz1 hz2 v q.length (Go.Lib.byteCells q) hs hown ⟨p.toArray⟩ hx (by rw [str_size]; unfold maxLen; omega) (by rw [str_size]; omega) hbase ?_
  intro v' w' hown' hgrow _
  refine h v' w' ?_ (Below.grown (Below.refl _ _) hgrow hbase (fun g hg => (hown.lt g hg).1))
  unfold Own
  rw [List.length_append, cells_app, ← cells_str p]
  rw [str_size] at hown'
  exact hown'
theorem conv_own {B : Nat} {v : Value} {q : List UInt8} {w : World} (h : Own B v q w) : (convert 57 9 v).run Tryz.prog w = .ok (.string ⟨q.toArray⟩) w := by
  rcases h.2 with ⟨rfl, hx⟩ | ⟨g, cap, cur, rfl, hbg, hgg, hnc, _, hsz, htake⟩
  · have hq : q = [] := by
      exact List.eq_nil_of_length_eq_zero hx
    subst hq
    exact run_convert_bytes_nil w 57 5 Tryz.underlying57 Tryz.underlying5 0 0 9 Tryz.underlying9
  · refine run_convert_bytes_back (P := Tryz.prog) w 57 9 5 ⟨g, 0, none⟩ cap q (by kernel_rfl) (by kernel_rfl) (by kernel_rfl) (fun j hj => ?_)
    rw [Addr.add_lit, Nat.zero_add, cell_of_row w g j cur 5 (0, 0) hgg]
    have h1 : (cur.toList.take (q.length * 1))[j]? = (Go.Lib.byteCells q)[j]? := by rw [htake]
    rw [List.getElem?_take, if_pos (by omega), Array.getElem?_toList] at h1
    rw [h1]
    simp [Go.Lib.byteCells, hj]
def Laid1 (B : Nat) (q : List UInt8) (w : World) (e : Ending) (w' : World) : Prop := ∃ v', e = .returned v' ∧ Own B v' q w' ∧ Below B w w'
theorem rune_cells {c : Nat} (h : isSign c = true) : Lib.runeCells (c : Int) = Go.Lib.byteCells (bytesD c) := by
  have hs := isSign_iff.1 h
  unfold bytesD
  rw [if_pos h]
  by_cases h1 : c < 128
  · rw [if_pos h1, Lib.runeCells, encodeRuneZ_one (by omega) (by omega)]
    simp [Go.Lib.byteCells, u8_nat (show c < 256 by omega)]
  · rw [if_neg h1]
    by_cases h2 : c < 2048
    · rw [if_pos h2, Lib.runeCells, encodeRuneZ_two (by omega) (by omega)]
      simp only [Go.Lib.byteCells, List.map_cons, List.map_nil]
      rw [u8_nat (by omega), u8_nat (by omega)]
      simp
    · rw [if_neg h2]
      by_cases h3 : c < 65536
      · rw [if_pos h3, Lib.runeCells, encodeRuneZ_three (by omega)]
        simp only [Go.Lib.byteCells, List.map_cons, List.map_nil]
        rw [u8_nat (by omega), u8_nat (by omega), u8_nat (by omega)]
        simp
      · rw [if_neg h3, Lib.runeCells, encodeRuneZ_four (by omega) (by omega)]
        simp only [Go.Lib.byteCells, List.map_cons, List.map_nil]
        rw [u8_nat (by omega), u8_nat (by omega), u8_nat (by omega), u8_nat (by omega)]
        simp

theorem rune_any (B : Nat) (v : Value) (q : List UInt8) (c : Nat) (w : World) (hc : isSign c = true) (hq : q.length ≤ 10000000) (hown : Own B v q w) (hB : B ≤ w.heap.size) :
    Calls Tryz.prog 81 #[v, .int .i32 c] w (Laid1 B (q ++ bytesD c) w) := by
  have hs := (isSign_iff.1 hc).1
  refine (Tryz.utf8_AppendRune_plain B v q.length (Go.Lib.byteCells q) c (by omega) (by omega) w hown (by omega) hB).mono ?_
  rintro e w' ⟨v', rfl, h1, o, h2⟩
  refine ⟨v', rfl, ?_, ?_⟩
  · unfold Own
    rw [List.length_append, cells_app]
    rw [rune_cells hc, Go.Lib.byteCells_length] at h1
    exact h1
  · have hown' : Own B v q (w.alloc o) := hown.grow (grow_new _ _)
    exact Below.trans (Below.mono (grow_new w o) hB) (Below.grown (Below.refl _ _) h2 (by simp; omega) (fun g hg => (hown'.lt g hg).1))

/-- strings.Clone's own callee, as the library's contract has it -/
def cloneRen : Go.Shelf.Ren := ⟨fun | 25 => 153 | n => n, fun | 37 => 57 | 47 => 93 | n => n, fun n => n⟩
theorem cloneLays : LaysPu.n25 Tryz.prog cloneRen := {
  mixed := by kernel_rfl
  f25 := Tryz.func153.trans (congrArg some (by kernel_rfl))
  t0 := Tryz.underlying0
  a0 := Tryz.isAgg0
  z0 := Tryz.sizeOf0
  v0 := Tryz.zeroValue0
  i0 := by kernel_rfl
  t3 := Tryz.underlying3
  a3 := Tryz.isAgg3
  z3 := Tryz.sizeOf3
  v3 := Tryz.zeroValue3
  i3 := by kernel_rfl
  t4 := Tryz.underlying4
  a4 := Tryz.isAgg4
  z4 := Tryz.sizeOf4
  v4 := Tryz.zeroValue4
  i4 := by kernel_rfl
  t5 := Tryz.underlying5
  a5 := Tryz.isAgg5
  z5 := Tryz.sizeOf5
  v5 := Tryz.zeroValue5
  i5 := by kernel_rfl
  t9 := Tryz.underlying9
  a9 := Tryz.isAgg9
  z9 := Tryz.sizeOf9
  v9 := Tryz.zeroValue9
  i9 := by kernel_rfl
  t37 := Tryz.underlying57
  a37 := Tryz.isAgg57
  z37 := Tryz.sizeOf57
  v37 := Tryz.zeroValue57
  i37 := by kernel_rfl
  t47 := Tryz.underlying93
  a47 := Tryz.isAgg93
  z47 := Tryz.sizeOf93
  v47 := Tryz.zeroValue93
  i47 := by kernel_rfl }
theorem clone_any (l : List UInt8) (w : World) (hl : l.length ≤ 1000000) : Calls Tryz.prog 125 #[.string ⟨l.toArray⟩] w fun e w' => e = .returned (.string ⟨l.toArray⟩) ∧ Grow w w' := by
  have HC := Lib.hid (AnyPu.stringslite_Clone cloneLays ⟨l.toArray⟩ w (by rw [str_size]; omega))
  go_enter Tryz.func125, Tryz.ntmps125
  go_wp2_with fail
  refine (HC.out).mono ?_
  rintro e w1 ⟨rfl, hg⟩
  have HG := Lib.hid (show Grow w w1 from hg)
  clear hg
  go_wp2
  go_ret
  exact ⟨rfl, HG.out⟩

/-- what the walks ask of the library's tables -/
def Laid (w : World) : Prop := Lib.Utf8Tabs 2 3 w
theorem cell_lt {w : World} {p : Addr} {v : Value} (h : w.cell? p = some v) : p.block < w.heap.size := block_lt_of_cell h
theorem Laid.grow {w w' : World} (h : Laid w) (hg : Grow w w') : Laid w' :=
  ⟨fun c hc => (hg.cell (p := ⟨_, c, none⟩) (cell_lt (h.1 c hc))).trans (h.1 c hc),
   fun i hi => ⟨(hg.cell (p := ⟨_, 2 * i, none⟩) (cell_lt (h.2 i hi).1)).trans (h.2 i hi).1, (hg.cell (p := ⟨_, 2 * i + 1, none⟩) (cell_lt (h.2 i hi).2)).trans (h.2 i hi).2⟩⟩
end Go.Proofs.YteoogioanjkacaaGreatDoor.Quo
namespace Go.Proofs.YteoogioanjkacaaGreatDoor.Quo
set_option maxRecDepth 20000
open Go.RowKit Go.Lib
set_option linter.unusedSimpArgs false
set_option linter.unusedVariables false
theorem decode_list (l : List UInt8) : decodeGo ⟨l.toArray⟩ = if l = [] then (65533, 0) else runeD l := by
  unfold decodeGo
  rw [str_size]
  cases l with
  | nil => rfl
  | cons b r =>
    rw [if_neg (by simp), if_neg (by simp), decode_at_rune _ 0 (by rw [str_size]; simp)]
    rfl
theorem runeLen_of {c : Nat} (h : isSign c = true) : runeLen (c : Int) = ((bytesD c).length : Nat) := by
  have hs := isSign_iff.1 h
  unfold runeLen bytesD
  rw [if_pos h]
  repeat' split
  all_goals first | (exfalso; omega) | rfl
theorem runeLen_bad : runeLen 65533 = 3 := by decide

theorem pre_two (l : List UInt8) : hasPrefix l [39, 39] = match l with
    | a :: b :: _ => decide (a = 39 ∧ b = 39)
    | _ => false := by
  rcases l with _ | ⟨a, _ | ⟨b, r⟩⟩
  · rfl
  · simp [hasPrefix, List.isPrefixOf]
  · simp only [hasPrefix, List.isPrefixOf, Bool.and_true]
    rw [Bool.eq_iff_iff, Bool.and_eq_true, beq_iff_eq, beq_iff_eq, decide_eq_true_eq]
    exact ⟨fun h => ⟨h.1.symm, h.2.symm⟩, fun h => ⟨h.1.symm, h.2.symm⟩⟩
theorem pre_one (l : List UInt8) : hasPrefix l [39] = match l with
    | a :: _ => decide (a = 39)
    | _ => false := by
  rcases l with _ | ⟨a, r⟩
  · rfl
  · simp only [hasPrefix, List.isPrefixOf, Bool.and_true]
    rw [Bool.eq_iff_iff, beq_iff_eq, decide_eq_true_eq]
    exact eq_comm
/-- what the sign that stands first comes to, by its prefixes -/
theorem first_two {l : List UInt8} (h : hasPrefix l [39, 39] = true) : fstQ l = (39, 2) ∧ decodeGo ⟨l.toArray⟩ = (39, 1) := by
  rw [pre_two] at h
  rcases l with _ | ⟨a, _ | ⟨b, r⟩⟩
  · cases h
  · cases h
  · simp only [decide_eq_true_eq] at h
    obtain ⟨rfl, rfl⟩ := h
    refine ⟨rfl, ?_⟩
    rw [decode_list, if_neg (by simp), runeD_of (next_one (by decide)) (by decide)]
    rfl
theorem first_one {l : List UInt8} (h : hasPrefix l [39, 39] = false) (h2 : hasPrefix l [39] = true) : fstQ l = (0, 0) := by
  rw [pre_two] at h
  rw [pre_one] at h2
  rcases l with _ | ⟨a, _ | ⟨b, r⟩⟩
  · cases h2
  · have ha : a = 39 := by simpa using h2
    subst ha
    rfl
  · have ha : a = 39 := by simpa using h2
    subst ha
    have hb : b ≠ 39 := by simpa using h
    rw [fstQ_cons, if_pos rfl, if_neg (by simpa using hb)]
theorem first_none {l : List UInt8} (h2 : hasPrefix l [39] = false) (hn : (nextD l).2 = 0) : fstQ l = (0, 0) ∧ ∃ n, n ≤ 1 ∧ decodeGo ⟨l.toArray⟩ = (65533, n) := by
  rw [pre_one] at h2
  rcases l with _ | ⟨a, r⟩
  · exact ⟨rfl, 0, by decide, by rw [decode_list, if_pos rfl]⟩
  · have ha : a ≠ 39 := by simpa using h2
    refine ⟨?_, 1, by decide, ?_⟩
    · rw [fstQ_cons, if_neg ha]
      by_cases hz : (nextD (a :: r)).2 = 0
      · by_cases hp : nextD (a :: r) = (0, 0)
        · exact hp
        · exfalso
          rw [nextD_cons] at hz hp
          unfold many at hz hp
          repeat' split at hz
          all_goals first | (simp at hz) | skip
          all_goals simp_all
      · exact absurd hn hz
    · rw [decode_list, if_neg (by simp)]
      unfold runeD
      rw [if_pos hn]
theorem first_some {l : List UInt8} (h2 : hasPrefix l [39] = false) (hn : (nextD l).2 ≠ 0) : fstQ l = nextD l ∧ decodeGo ⟨l.toArray⟩ = nextD l := by
  rw [pre_one] at h2
  rcases l with _ | ⟨a, r⟩
  · exact absurd rfl hn
  · have ha : a ≠ 39 := by simpa using h2
    refine ⟨?_, ?_⟩
    · rw [fstQ_cons, if_neg ha]
    · rw [decode_list, if_neg (by simp)]
      unfold runeD
      rw [if_neg hn]

def First (p : Nat × Nat) (w : World) (e : Ending) (w' : World) : Prop := e = .returned (.tuple #[.int .i32 ((p.1 : Nat) : Int), .int .i64 ((p.2 : Nat) : Int)]) ∧ Grow w w'

set_option maxRecDepth 10000 in
set_option maxHeartbeats 1600000 in
theorem first_any (l : List UInt8) (w : World) (hL : Laid w) : Calls Tryz.prog 124 #[.string ⟨l.toArray⟩] w (First (fstQ l) w) := by
  have HD := Lib.hid (Tryz.utf8_DecodeRuneInString ⟨l.toArray⟩ w hL)
  have HP2 := Lib.hid (fun W => Tryz.strings_HasPrefix ⟨l.toArray⟩ ⟨#[39, 39]⟩ W)
  have HP1 := Lib.hid (fun W => Tryz.strings_HasPrefix ⟨l.toArray⟩ ⟨#[39]⟩ W)
  rw [show (⟨l.toArray⟩ : ByteArray).data.toList = l from rfl, show (⟨#[39, 39]⟩ : ByteArray).data.toList = [39, 39] from rfl] at HP2
  rw [show (⟨l.toArray⟩ : ByteArray).data.toList = l from rfl, show (⟨#[39]⟩ : ByteArray).data.toList = [39] from rfl] at HP1
  clear hL
  cases h2 : hasPrefix l [39, 39] with
  | true =>
    obtain ⟨e1, e2⟩ := first_two h2
    rw [e2] at HD
    rw [h2] at HP2
    rw [e1]
    clear e1 e2 h2 HP1
    go_enter Tryz.func124, Tryz.ntmps124
    go_wp2_with fail
    refine (HD.out).mono ?_
    rintro e w1 ⟨rfl, hg⟩
    have HG := Lib.hid (show Grow w w1 from hg)
    clear hg HD
    go_wp2_with fail
    refine (HP2.out _).mono ?_
    rintro e w2 ⟨rfl, rfl⟩
    go_wp2
    go_ret2
    exact ⟨rfl, HG.out⟩
  | false =>
    rw [h2] at HP2
    cases h1 : hasPrefix l [39] with
    | true =>
      rw [h1] at HP1
      rw [first_one h2 h1]
      clear h1 h2
      obtain ⟨c, hc⟩ : ∃ c, (decodeGo ⟨l.toArray⟩).1 = c := ⟨_, rfl⟩
      obtain ⟨n, hn⟩ : ∃ n, (decodeGo ⟨l.toArray⟩).2 = n := ⟨_, rfl⟩
      rw [hc, hn] at HD
      clear hc hn
      go_enter Tryz.func124, Tryz.ntmps124
      go_wp2_with fail
      refine (HD.out).mono ?_
      rintro e w1 ⟨rfl, hg⟩
      have HG := Lib.hid (show Grow w w1 from hg)
      clear hg HD
      go_wp2_with fail
      refine (HP2.out _).mono ?_
      rintro e w2 ⟨rfl, rfl⟩
      go_wp2_with fail
      refine (HP1.out _).mono ?_
      rintro e w2 ⟨rfl, rfl⟩
      go_wp2
      go_ret2
      exact ⟨rfl, HG.out⟩
    | false =>
      rw [h1] at HP1
      by_cases hz : (nextD l).2 = 0
      · obtain ⟨e1, n, hn, e2⟩ := first_none h1 hz
        rw [e2] at HD
        rw [e1]
        have HR := Lib.hid (fun W => Tryz.utf8_RuneLen ((65533 : Nat) : Int) W)
        rw [show runeLen ((65533 : Nat) : Int) = 3 from runeLen_bad] at HR
        have hne : (((n : Nat) : Int) == 3) = false := by rw [beq_eq_false_iff_ne]; omega
        clear e1 e2 h1 h2 hz hn
        go_enter Tryz.func124, Tryz.ntmps124
        go_wp2_with fail
        refine (HD.out).mono ?_
        rintro e w1 ⟨rfl, hg⟩
        have HG := Lib.hid (show Grow w w1 from hg)
        clear hg HD
        go_wp2_with fail
        refine (HP2.out _).mono ?_
        rintro e w2 ⟨rfl, rfl⟩
        go_wp2_with fail
        refine (HP1.out _).mono ?_
        rintro e w2 ⟨rfl, rfl⟩
        go_wp2_with fail
        refine (HR.out _).mono ?_
        rintro e w2 ⟨rfl, rfl⟩
        go_wp2
        go_ret2
        exact ⟨rfl, HG.out⟩
      · obtain ⟨e1, e2⟩ := first_some h1 hz
        obtain ⟨i1, _, i3⟩ := next_inv hz
        rw [e2] at HD
        rw [e1]
        have HR := Lib.hid (fun W => Tryz.utf8_RuneLen (((nextD l).1 : Nat) : Int) W)
        rw [runeLen_of i1, ← i3] at HR
        clear e1 e2 h1 h2 hz i1 i3
        generalize nextD l = p at *
        obtain ⟨c, n⟩ := p
        dsimp only at *
        go_enter Tryz.func124, Tryz.ntmps124
        go_wp2_with fail
        refine (HD.out).mono ?_
        rintro e w1 ⟨rfl, hg⟩
        have HG := Lib.hid (show Grow w w1 from hg)
        clear hg HD
        go_wp2_with fail
        refine (HP2.out _).mono ?_
        rintro e w2 ⟨rfl, rfl⟩
        go_wp2_with fail
        refine (HP1.out _).mono ?_
        rintro e w2 ⟨rfl, rfl⟩
        go_wp2_with fail
        refine (HR.out _).mono ?_
        rintro e w2 ⟨rfl, rfl⟩
        go_wp2
        go_ret2
        exact ⟨rfl, HG.out⟩

set_option maxRecDepth 10000 in
set_option maxHeartbeats 800000 in
theorem issign_any (n : Int) (w : World) : Calls Tryz.prog 39 #[.int .i64 n] w fun e w' => e = .returned (.bool (signZ n)) ∧ w' = w := by
  by_cases h0 : 0 ≤ n
  · by_cases h1 : n ≤ 1114111
    · have hw : IntKind.i32.wrap n = n := by rw [IntKind.wrap_i32]; omega
      have HV := Lib.hid (fun W => Tryz.utf8_ValidRune n W)
      have he : Lib.validRune n = signZ n := by
        unfold Lib.validRune signZ
        rw [Bool.eq_iff_iff, decide_eq_true_eq, decide_eq_true_eq]
        omega
      rw [he] at HV
      clear he
      generalize signZ n = b at *
      go_enter Tryz.func39, Tryz.ntmps39
      go_wp2_with fail
      refine (HV.out _).mono ?_
      rintro e w2 ⟨rfl, rfl⟩
      go_wp2
      go_ret
      exact ⟨rfl, rfl⟩
    · have he : signZ n = false := by unfold signZ; rw [decide_eq_false_iff_not]; omega
      rw [he]
      go_enter Tryz.func39, Tryz.ntmps39
      go_wp2
      go_ret
      exact ⟨rfl, rfl⟩
  · have he : signZ n = false := by unfold signZ; rw [decide_eq_false_iff_not]; omega
    rw [he]
    go_enter Tryz.func39, Tryz.ntmps39
    go_wp2
    go_ret
    exact ⟨rfl, rfl⟩

theorem enc_bytes {c : Nat} (h : isSign c = true) : Utf8.encode (c : Int) = ⟨(bytesD c).toArray⟩ := by
  have hs := isSign_iff.1 h
  have hv : Utf8.valid (c : Int) = true := by
    unfold Utf8.valid
    simp
    omega
  unfold Utf8.encode bytesD
  rw [if_pos h]
  simp only [hv, if_true, Int.toNat_natCast]
  split
  · rfl
  · split
    · rfl
    · split <;> rfl

set_option maxRecDepth 10000 in
set_option maxHeartbeats 800000 in
theorem append_any (B : Nat) (v : Value) (q : List UInt8) (c : Nat) (w : World) (hc : isSign c = true) (hq : q.length ≤ 1000000) (hown : Own B v q w) (hB : B ≤ w.heap.size) :
    Calls Tryz.prog 40 #[v, .int .i32 c] w (Laid1 B (q ++ qC c) w) := by
  have HO := Lib.hid hown
  have henc : (Utf8.encode (c : Int)).toList = bytesD c := by rw [enc_bytes hc, Lib.toList_data]
  by_cases h39 : c = 39
  · have ht : ((Utf8.encode (c : Int)).toList == [39]) = true := by rw [henc, h39]; rfl
    rw [show qC c = [39, 39] by rw [h39]; rfl]
    clear hown hc henc h39
    go_enter Tryz.func40, Tryz.ntmps40
    go_wp2_with (at_builtin; refine wpList_append_text rfl _ _ rfl B v q [39, 39] rfl HO.out rfl (by simp only [List.length_cons, List.length_nil]; omega) hB ?_; intro v1 w1 ho1 hb1)
    go_ret
    exact ⟨_, rfl, ho1, hb1⟩
  · have HR := Lib.hid (rune_any B v q c w hc (by omega) hown hB)
    rw [qC_other h39]
    have ht : ((Utf8.encode (c : Int)).toList == [39]) = false := by
      rw [beq_eq_false_iff_ne, henc]
      intro e1
      have hn := next_bytes hc []
      rw [e1, List.append_nil, next_one (by decide)] at hn
      exact h39 (Prod.mk.inj hn).1.symm
    clear hown hc h39 henc
    go_enter Tryz.func40, Tryz.ntmps40
    go_wp2_with fail
    refine (HR.out).mono ?_
    rintro e w1 ⟨v1, rfl, ho, hb⟩
    have HO1 := Lib.hid ho
    have HB1 := Lib.hid hb
    clear ho hb
    go_wp2
    go_ret
    exact ⟨_, rfl, HO1.out, HB1.out⟩
end Go.Proofs.YteoogioanjkacaaGreatDoor.Quo
