/-
  DecimalBack comes to true, whatever it is called with.
-/
import Derived.Test.YtlmhddaelfolfaaDoorSmall
namespace Go.Proofs.YtlmhddaelfolfaaDoor
open Go.RowKit Go.Lib

theorem of_parts {n : Int} (hn : In n) : ∃ q j, norm n 0 = ((q, j), true) ∧ In q ∧ In j ∧ rightB q j = true ∧ wholeD q j = (n, true) := by
  obtain ⟨⟨⟨q, j⟩, b⟩, h⟩ : ∃ r, norm n 0 = r := ⟨_, rfl⟩
  have h1 := norm_of_int hn
  have h2 := norm_in (e := 0) hn
  have h3 := norm_exp_in (e := 0) hn
  have h4 := rightB_of (norm_right (e := 0) hn h1)
  rw [h] at h1 h2 h3 h4
  simp only at h1 h2 h3 h4
  subst h1
  refine ⟨q, j, h, h2, h3, h4, ?_⟩
  by_cases h0 : n = 0
  · subst h0
    rw [norm_zero] at h
    cases h
    decide
  · obtain ⟨q', i, hq, hq0, hi⟩ := parts_in hn h0
    rw [norm_of hq hq0 (by omega)] at h
    split at h
    · cases h
      exact whole_yes h4 (by simp) hq hn
    · cases h

theorem beq_nil_false {l : List UInt8} (h : l ≠ []) : (l == []) = false := by
  cases l with
  | nil => exact absurd rfl h
  | cons c r => rfl

set_option maxRecDepth 10000 in
set_option maxHeartbeats 1600000 in
theorem lback_walk (n m e : Int) (w : World) (hn : In n) (hm : In m) (he : In e) (hL : Laid w) :
    Calls Tryd.prog 4 #[.int .i64 n, .agg #[.int .i64 m, .int .i64 e]] w fun x w' => x = .returned (.bool true) ∧ Grow w w' := by
  have HS := Lib.hid (fun W (h : Laid W) => small_walk W h)
  have HL := Lib.hid hL
  obtain ⟨q, j, hq, iq, ij, hr, hw⟩ := of_parts hn
  have HO := Lib.hid (k_of n q j true hn hq)
  have HW := Lib.hid (k_whole q j n true iq ij hw)
  obtain ⟨T, hT⟩ : ∃ T, text q j = T := ⟨_, rfl⟩
  have HT := Lib.hid (k_text q j T iq ij hT)
  have HP := Lib.hid (k_parse T (by have := text_len (e := j) iq; rw [hT] at this; omega) q j true (by rw [← hT]; exact parseD_text iq hr))
  have HR := Lib.hid (k_right q j true iq ij hr)
  obtain ⟨U, hU⟩ : ∃ U, text m e = U := ⟨_, rfl⟩
  have HTU := Lib.hid (k_text m e U hm he hU)
  have HUL := Lib.hid (show U.length ≤ 1000000 by have := text_len (e := e) hm; rw [hU] at this; omega)
  obtain ⟨r, hrd⟩ : ∃ r, rightB m e = r := ⟨_, rfl⟩
  have HRD := Lib.hid (k_right m e r hm he hrd)
  have HCA : Hid ((r = true ∧ parseD U = ((m, e), true) ∧ U ≠ []) ∨ (r = false ∧ parseD U = ((0, 0), false) ∧ U = [])) := Lib.hid (by
    cases r with
    | true => exact .inl ⟨rfl, by rw [← hU]; exact parseD_text hm hrd, by rw [← hU]; exact text_ne hrd⟩
    | false =>
      have h0 : U = [] := by rw [← hU]; exact text_wrong hrd
      exact .inr ⟨rfl, by rw [h0]; exact parse_d, h0⟩)
  have heq := dec_eq q j q j
  have heq2 := dec_eq m e m e
  clear hL hq iq ij hr hw hT hU hrd hn hm he
  go_enter Tryd.func4, Tryd.ntmps4
  go_wp2_with fail
  refine (HS.out _ (HL.out.grow (grow_new _ _))).mono ?_
  rintro x w1 ⟨rfl, hg⟩
  have HD1 := Lib.hid ((boxed_new w (.int .i64 m) (.int .i64 e) 23).grow hg)
  have HG1 := Lib.hid ((grow_new w _).trans hg)
  clear hg HS
  go_wp2_with fail
  refine (HO.out _).mono ?_
  rintro x w2 ⟨rfl, hg⟩
  have HD2 := Lib.hid (HD1.out.grow hg)
  have HG2 := Lib.hid (HG1.out.trans hg)
  clear hg HO HD1 HG1
  go_wp2_with fail
  refine (HW.out _).mono ?_
  rintro x w3 ⟨rfl, hg⟩
  have hb := (boxed_new w2 (.int .i64 q) (.int .i64 j) 23).grow hg
  have b30 := hb.fst; have b31 := hb.snd
  have HB3 := Lib.hid hb
  have HD3 := Lib.hid (HD2.out.grow ((grow_new _ _).trans hg))
  have HG3 := Lib.hid (HG2.out.trans ((grow_new _ _).trans hg))
  clear hg hb HW HD2 HG2
  go_wp2_with fail
  refine (HT.out _ (HL.out.grow HG3.out)).mono ?_
  rintro x w4 ⟨rfl, hg⟩
  have HB4 := Lib.hid (HB3.out.grow hg)
  have HD4 := Lib.hid (HD3.out.grow hg)
  have HG4 := Lib.hid (HG3.out.trans hg)
  clear hg HT HB3 HD3 HG3 b30 b31
  go_wp2_with fail
  refine (HP.out _ (HL.out.grow HG4.out)).mono ?_
  rintro x w5 ⟨rfl, hg⟩
  have hb := HB4.out.grow hg
  have b50 : ∀ o, (w5.alloc o).cell? ⟨w2.heap.size, 0, none⟩ = some (.int .i64 q) := fun o => (hb.grow (grow_new _ o)).fst
  have b51 : ∀ o, (w5.alloc o).cell? ⟨w2.heap.size, 1, none⟩ = some (.int .i64 j) := fun o => (hb.grow (grow_new _ o)).snd
  have HD5 := Lib.hid (HD4.out.grow hg)
  have HG5 := Lib.hid (HG4.out.trans hg)
  clear hg hb HP HB4 HD4 HG4
  go_wp2_with fail
  refine (HR.out _).mono ?_
  rintro x w6 ⟨rfl, hg⟩
  have hd := HD5.out.grow ((grow_new _ _).trans hg)
  have d60 := hd.fst; have d61 := hd.snd
  have HD6 := Lib.hid hd
  have HG6 := Lib.hid (HG5.out.trans ((grow_new _ _).trans hg))
  clear hg hd HR HD5 HG5 b50 b51 heq
  go_wp2_with fail
  refine (HTU.out _ (HL.out.grow HG6.out)).mono ?_
  rintro x w7 ⟨rfl, hg⟩
  have HD7 := Lib.hid (HD6.out.grow hg)
  have HG7 := Lib.hid (HG6.out.trans hg)
  clear hg HD6 HG6 d60 d61
  rcases HCA.out with ⟨rfl, hp, hne⟩ | ⟨rfl, hp, rfl⟩
  · have HPU := Lib.hid (k_parse U HUL.out m e true hp)
    have hneb := beq_nil_false hne
    clear hp hne
    go_wp2_with fail
    refine (HPU.out _ (HL.out.grow HG7.out)).mono ?_
    rintro x w8 ⟨rfl, hg⟩
    have hd := HD7.out.grow hg
    have d80 : ∀ o, (w8.alloc o).cell? ⟨w.heap.size, 0, none⟩ = some (.int .i64 m) := fun o => (hd.grow (grow_new _ o)).fst
    have d81 : ∀ o, (w8.alloc o).cell? ⟨w.heap.size, 1, none⟩ = some (.int .i64 e) := fun o => (hd.grow (grow_new _ o)).snd
    have HD8 := Lib.hid hd
    have HG8 := Lib.hid (HG7.out.trans hg)
    clear hg hd HPU HD7 HG7
    go_wp2_with fail
    refine (HRD.out _).mono ?_
    rintro x w9 ⟨rfl, hg⟩
    have hd := HD8.out.grow ((grow_new _ _).trans hg)
    have hy := (boxed_new w8 (.int .i64 m) (.int .i64 e) 23).grow hg
    have d90 := hd.fst; have d91 := hd.snd; have y90 := hy.fst; have y91 := hy.snd
    have HG9 := Lib.hid (HG8.out.trans ((grow_new _ _).trans hg))
    clear hg hd hy HRD HD8 HG8 d80 d81
    go_wp2_with fail
    refine (HTU.out _ (HL.out.grow HG9.out)).mono ?_
    rintro x w10 ⟨rfl, hg⟩
    have HG10 := Lib.hid (HG9.out.trans hg)
    clear hg HTU
    go_wp2
    go_ret
    exact ⟨rfl, HG10.out⟩
  · have HPU := Lib.hid (k_parse [] HUL.out 0 0 false hp)
    clear hp
    go_wp2_with fail
    refine (HPU.out _ (HL.out.grow HG7.out)).mono ?_
    rintro x w8 ⟨rfl, hg⟩
    have hd := HD7.out.grow hg
    have d80 : ∀ o, (w8.alloc o).cell? ⟨w.heap.size, 0, none⟩ = some (.int .i64 m) := fun o => (hd.grow (grow_new _ o)).fst
    have d81 : ∀ o, (w8.alloc o).cell? ⟨w.heap.size, 1, none⟩ = some (.int .i64 e) := fun o => (hd.grow (grow_new _ o)).snd
    have HD8 := Lib.hid hd
    have HG8 := Lib.hid (HG7.out.trans hg)
    clear hg hd HPU HD7 HG7
    go_wp2_with fail
    refine (HRD.out _).mono ?_
    rintro x w9 ⟨rfl, hg⟩
    have hd := HD8.out.grow ((grow_new _ _).trans hg)
    have d90 := hd.fst; have d91 := hd.snd
    have HG9 := Lib.hid (HG8.out.trans ((grow_new _ _).trans hg))
    clear hg hd HRD HD8 HG8 d80 d81
    go_wp2_with fail
    refine (HTU.out _ (HL.out.grow HG9.out)).mono ?_
    rintro x w10 ⟨rfl, hg⟩
    have HG10 := Lib.hid (HG9.out.trans hg)
    clear hg HTU
    go_wp2
    go_ret
    exact ⟨rfl, HG10.out⟩
end Go.Proofs.YtlmhddaelfolfaaDoor
