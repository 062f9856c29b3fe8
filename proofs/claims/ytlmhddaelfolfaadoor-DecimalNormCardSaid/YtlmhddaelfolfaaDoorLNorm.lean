/-
  DecimalNorm comes to true, whatever it is called with.
-/
import Derived.Test.YtlmhddaelfolfaaDoorSmall
namespace Go.Proofs.YtlmhddaelfolfaaDoor
open Go.RowKit Go.Lib

theorem zero_or {m e : Int} (hm : In m) (h : rightB m e = true) : m = 0 ∨ ¬ m.tmod 10 = 0 := by
  rcases (rightB_iff hm).1 h with ⟨h, _⟩ | ⟨h, _⟩
  · exact .inl h
  · exact .inr (fun k => h ((tmod_ten m).1 k))

set_option maxRecDepth 10000 in
set_option maxHeartbeats 1600000 in
theorem lnorm_walk (m e : Int) (w : World) (hm : In m) (he : In e) (hL : Laid w) :
    Calls Tryd.prog 5 #[.agg #[.int .i64 m, .int .i64 e]] w fun x w' => x = .returned (.bool true) ∧ Grow w w' := by
  have HS := Lib.hid (fun W (h : Laid W) => small_walk W h)
  have HL := Lib.hid hL
  have hi1 := norm_in (e := e) hm
  have hi2 := norm_exp_in (e := e) hm
  have hrt := norm_right (e := e) hm
  have hfl := norm_false (m := m) (e := e)
  obtain ⟨⟨⟨r1, r2⟩, b⟩, hN⟩ : ∃ r, norm m e = r := ⟨_, rfl⟩
  have HT : Hid (In (10 * m) → norm (10 * m) (e - 1) = ((r1, r2), b)) := Lib.hid (fun h => by rw [norm_ten hm h, hN])
  rw [hN] at hi1 hi2 hrt hfl
  simp only at hi1 hi2 hrt hfl
  have HC := Lib.hid (k_norm m e r1 r2 b hm he hN)
  have hm1 := hm.1; have hm2 := hm.2; have he1 := he.1; have he2 := he.2
  clear hN hL hm he
  go_enter Tryd.func5, Tryd.ntmps5
  go_wp2_with fail
  refine (HS.out _ (HL.out.grow (grow_new _ _))).mono ?_
  rintro x w1 ⟨rfl, hg⟩
  have hb1 := (boxed_new w (.int .i64 m) (.int .i64 e) 23).grow hg
  have c10 := hb1.fst; have c11 := hb1.snd
  have HB1 := Lib.hid hb1
  have HG1 := Lib.hid ((grow_new w _).trans hg)
  clear hg hb1 HS
  go_wp2_with fail
  refine (HC.out _).mono ?_
  rintro x w2 ⟨rfl, hg⟩
  have HB2 := Lib.hid (HB1.out.grow hg)
  have HG2 := Lib.hid (HG1.out.trans hg)
  clear hg HC HB1 HG1 c10 c11
  cases b
  · obtain ⟨rfl, rfl⟩ : r1 = 0 ∧ r2 = 0 := by have := hfl rfl; simpa using this
    have HD := Lib.hid (k_norm 0 0 0 0 true (in_lit rfl) (in_lit rfl) (by decide))
    go_wp2_with fail
    refine (HD.out _).mono ?_
    rintro x w3 ⟨rfl, hg⟩
    have hb3 := (boxed_new w2 (.int .i64 0) (.int .i64 0) 23).grow hg
    have c30 : ∀ o, (w3.alloc o).cell? ⟨w2.heap.size, 0, none⟩ = some (.int .i64 0) := fun o => (hb3.grow (grow_new _ o)).fst
    have c31 : ∀ o, (w3.alloc o).cell? ⟨w2.heap.size, 1, none⟩ = some (.int .i64 0) := fun o => (hb3.grow (grow_new _ o)).snd
    have HG3 := Lib.hid (HG2.out.trans ((grow_new _ _).trans hg))
    clear hg hb3
    go_wp2
    go_ret
    exact ⟨rfl, HG3.out.trans (grow_new _ _)⟩
  · have hright := rightB_of (hrt rfl)
    have hz := zero_or hi1 hright
    have HD := Lib.hid (k_norm r1 r2 r1 r2 true hi1 hi2 (norm_self (hrt rfl)))
    have HE := Lib.hid (k_right r1 r2 true hi1 hi2 hright)
    have heq := dec_eq r1 r2 r1 r2
    clear hfl hrt hright hi1 hi2
    go_wp2_with fail
    refine (HD.out _).mono ?_
    rintro x w3 ⟨rfl, hg⟩
    have hb3 := (boxed_new w2 (.int .i64 r1) (.int .i64 r2) 23).grow hg
    have c30 : ∀ o, (w3.alloc o).cell? ⟨w2.heap.size, 0, none⟩ = some (.int .i64 r1) := fun o => (hb3.grow (grow_new _ o)).fst
    have c31 : ∀ o, (w3.alloc o).cell? ⟨w2.heap.size, 1, none⟩ = some (.int .i64 r2) := fun o => (hb3.grow (grow_new _ o)).snd
    have HB3 := Lib.hid hb3
    have HA3 := Lib.hid (HB2.out.grow ((grow_new _ _).trans hg))
    have HG3 := Lib.hid (HG2.out.trans ((grow_new _ _).trans hg))
    clear hg hb3 HD HB2 HG2
    go_wp2_with fail
    refine (HE.out _).mono ?_
    rintro x w4 ⟨rfl, hg⟩
    have hb4 := HB3.out.grow ((grow_new _ _).trans hg)
    have c40 := hb4.fst; have c41 := hb4.snd
    have ha4 := HA3.out.grow ((grow_new _ _).trans hg)
    have d40 := ha4.fst; have d41 := ha4.snd
    have HB4 := Lib.hid hb4
    have HG4 := Lib.hid (HG3.out.trans ((grow_new _ _).trans hg))
    clear hg hb4 ha4 HE HB3 HA3 HG3 c30 c31
    have fin : ∀ (hl : -922337203685477580 ≤ m ∧ m ≤ 922337203685477580), norm (10 * m) (e - 1) = ((r1, r2), true) := fun hl => HT.out ⟨by omega, by omega⟩
    have HF := Lib.hid fin
    clear fin
    have hin : ∀ (hl : -922337203685477580 ≤ m ∧ m ≤ 922337203685477580), In (10 * m) := fun hl => ⟨by omega, by omega⟩
    have HI := Lib.hid hin
    clear hin
    rcases hz with rfl | hz
    all_goals
      by_cases q1 : 922337203685477580 < m
      · go_wp2
        go_ret
        exact ⟨rfl, HG4.out⟩
      · by_cases q2 : m < -922337203685477580
        · go_wp2
          go_ret
          exact ⟨rfl, HG4.out⟩
        · by_cases q3 : e ≤ -32768
          · go_wp2
            go_ret
            exact ⟨rfl, HG4.out⟩
          · by_cases q4 : 32767 < e
            · go_wp2
              go_ret
              exact ⟨rfl, HG4.out⟩
            · have HN := Lib.hid (k_norm (10 * m) (e - 1) _ _ true (HI.out ⟨by omega, by omega⟩) ⟨by omega, by omega⟩ (HF.out ⟨by omega, by omega⟩))
              go_wp2_with fail
              refine (HN.out _).mono ?_
              rintro x w5 ⟨rfl, hg⟩
              have hb5 := HB4.out.grow hg
              have c50 := fun o => (hb5.grow (grow_new _ o)).fst
              have c51 := fun o => (hb5.grow (grow_new _ o)).snd
              have HG5 := Lib.hid (HG4.out.trans hg)
              clear hg hb5 HN
              go_wp2
              go_ret
              exact ⟨rfl, HG5.out.trans (grow_new _ _)⟩
end Go.Proofs.YtlmhddaelfolfaaDoor
