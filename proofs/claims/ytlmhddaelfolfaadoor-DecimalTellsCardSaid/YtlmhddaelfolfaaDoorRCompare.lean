/-
  What the document's own Compare comes to: what decimal.Compare comes to.
-/
import Derived.Test.YtlmhddaelfolfaaDoorRMore
namespace Go.Proofs.YtlmhddaelfolfaaDoor
open Go.RowKit Go.Lib

theorem worth_sign {m e : Int} (h : rightB m e = true) : (m < 0 → worth m e < 0) ∧ (m = 0 → worth m e = 0) ∧ (0 < m → 0 < worth m e) := by
  have hs := sgn_worth h
  generalize worth m e = x at *
  rcases cmp_cases m 0 with ⟨hm, em⟩ | ⟨hm, em⟩ | ⟨hm, em⟩ <;> rcases cmp_cases x 0 with ⟨hx, ex⟩ | ⟨hx, ex⟩ | ⟨hx, ex⟩ <;> rw [em, ex] at hs <;>
    first
    | exact absurd hs (by decide)
    | exact ⟨fun _ => by omega, fun _ => by omega, fun _ => by omega⟩

/-- the signs decide -/
theorem cmp_far {m e n f : Int} (h1 : rightB m e = true) (h2 : rightB n f = true) : (m < 0 → 0 ≤ n → compareInt (worth m e) (worth n f) = -1) ∧ (0 ≤ m → n < 0 → compareInt (worth m e) (worth n f) = 1) ∧
    (m = 0 → 0 < n → compareInt (worth m e) (worth n f) = -1) ∧ (0 < m → n = 0 → compareInt (worth m e) (worth n f) = 1) := by
  obtain ⟨a, b, c⟩ := worth_sign h1
  obtain ⟨d, g, k⟩ := worth_sign h2
  refine ⟨fun p q => ?_, fun p q => ?_, fun p q => ?_, fun p q => ?_⟩
  · have := a p
    rcases Int.lt_or_eq_of_le q with q | q
    · have := k q; exact cmp_lt (by omega)
    · have := g q.symm; exact cmp_lt (by omega)
  · have := d q
    rcases Int.lt_or_eq_of_le p with p | p
    · have := c p; exact cmp_gt (by omega)
    · have := b p.symm; exact cmp_gt (by omega)
  · have := b p; have := k q; exact cmp_lt (by omega)
  · have := c p; have := g q; exact cmp_gt (by omega)

theorem c_ff {m e n f : Int} (h1 : rightB m e = false) (h2 : rightB n f = false) : compareInt (worth m e) (worth n f) = 0 := by rw [worth_wrong h1, worth_wrong h2]; rfl
theorem c_ft {m e n f : Int} (h1 : rightB m e = false) (h2 : rightB n f = true) : compareInt (worth m e) (worth n f) = -compareInt n 0 := by rw [worth_wrong h1, cmp_swap (worth n f) 0, sgn_worth h2]
theorem c_tf {m e n f : Int} (h1 : rightB m e = true) (h2 : rightB n f = false) : compareInt (worth m e) (worth n f) = compareInt m 0 := by rw [worth_wrong h2, sgn_worth h1]

set_option maxRecDepth 10000 in
set_option maxHeartbeats 3200000 in
theorem rcompare_any (m e n f : Int) (w : World) (hm : In m) (he : In e) (hn : In n) (hf : In f) :
    Calls Tryd.prog 23 #[.agg #[.int .i64 m, .int .i64 e], .agg #[.int .i64 n, .int .i64 f]] w fun x w' => x = .returned (.int .i64 (compareInt (worth m e) (worth n f))) ∧ Grow w w' := by
  have HRA := Lib.hid (fun W => rright_any m e W hm he)
  have HRB := Lib.hid (fun W => rright_any n f W hn hf)
  obtain ⟨r1, hr1⟩ : ∃ r, rightB m e = r := ⟨_, rfl⟩
  obtain ⟨r2, hr2⟩ : ∃ r, rightB n f = r := ⟨_, rfl⟩
  have HZA : Hid (r1 = true → m = 0 → e = 0) := Lib.hid (fun h h0 => by subst h; subst h0; exact right_zero hr1)
  have HZB : Hid (r2 = true → n = 0 → f = 0) := Lib.hid (fun h h0 => by subst h; subst h0; exact right_zero hr2)
  have HFF := Lib.hid (fun (h1 : r1 = false) (h2 : r2 = false) => c_ff (hr1.trans h1) (hr2.trans h2))
  have HFT := Lib.hid (fun (h1 : r1 = false) (h2 : r2 = true) => c_ft (hr1.trans h1) (hr2.trans h2))
  have HTF := Lib.hid (fun (h1 : r1 = true) (h2 : r2 = false) => c_tf (hr1.trans h1) (hr2.trans h2))
  have HFAR := Lib.hid (fun (h1 : r1 = true) (h2 : r2 = true) => cmp_far (hr1.trans h1) (hr2.trans h2))
  have HUP := Lib.hid (fun (h1 : r1 = true) (h2 : r2 = true) => up_pos hm hn (hr1.trans h1) (hr2.trans h2))
  have HUN := Lib.hid (fun (h1 : r1 = true) (h2 : r2 = true) => up_neg hm hn (hr1.trans h1) (hr2.trans h2))
  have HEQ : Hid (m = n → e = f → compareInt (worth m e) (worth n f) = 0) := Lib.hid (fun h1 h2 => by rw [h1, h2]; exact cmp_eq _)
  have HMA := Lib.hid (fun (h1 : r1 = true) (h2 : r2 = true) (p : m ≠ 0) (q : n ≠ 0) (W : World) => more_any m e n f W hm hn (right_ten hm (hr1.trans h1) p) (right_ten hn (hr2.trans h2) q) (right_exp hm (hr1.trans h1)).1 (right_exp hm (hr1.trans h1)).2 (right_exp hn (hr2.trans h2)).1 (right_exp hn (hr2.trans h2)).2)
  have HMB := Lib.hid (fun (h1 : r1 = true) (h2 : r2 = true) (p : m ≠ 0) (q : n ≠ 0) (W : World) => more_any n f m e W hn hm (right_ten hn (hr2.trans h2) q) (right_ten hm (hr1.trans h1) p) (right_exp hn (hr2.trans h2)).1 (right_exp hn (hr2.trans h2)).2 (right_exp hm (hr1.trans h1)).1 (right_exp hm (hr1.trans h1)).2)
  rw [hr1] at HRA
  rw [hr2] at HRB
  clear hr1 hr2 hm he hn hf
  generalize compareInt (worth m e) (worth n f) = R at *
  generalize decide (bySize m e n f = 1) = U at *
  generalize decide (bySize n f m e = 1) = U' at *
  go_enter Tryd.func23, Tryd.ntmps23
  go_wp2_with fail
  refine (HRA.out _).mono ?_
  rintro x w1 ⟨rfl, hg⟩
  have ha := ((boxed_new w (.int .i64 m) (.int .i64 e) 23).grow (grow_new _ _)).grow hg
  have hb := (boxed_new (w.alloc (.cells #[.int .i64 m, .int .i64 e] 23)) (.int .i64 n) (.int .i64 f) 23).grow hg
  have hsz : (w.alloc (.cells #[.int .i64 m, .int .i64 e] 23)).heap.size = w.heap.size + 1 := by simp
  rw [hsz] at hb
  have a10 := ha.fst; have a11 := ha.snd; have fa0 := ha.froz 0; have fa1 := ha.froz 1
  have b10 := hb.fst; have b11 := hb.snd
  have HA1 := Lib.hid ha
  have HB1 := Lib.hid hb
  have HG1 := Lib.hid ((grow_new2 w _ _).trans hg)
  clear hg ha hb hsz HRA
  cases r1
  · go_wp2_with fail
    refine (HRB.out _).mono ?_
    rintro x w2 ⟨rfl, hg⟩
    have ha := ((HA1.out.put0 (.int .i64 0)).put1 (.int .i64 0)).grow hg
    have hb := ((HB1.out.other (by omega) 0 _).other (by omega) 1 _).grow hg
    have a20 := ha.fst; have a21 := ha.snd
    have b20 := hb.fst; have b21 := hb.snd; have fb0 := hb.froz 0; have fb1 := hb.froz 1
    have HG2 := Lib.hid (((HG1.out.put (Nat.le_refl _) 0 _).put (Nat.le_refl _) 1 _).trans hg)
    clear hg ha hb HRB HA1 HB1 HG1 a10 a11 b10 b11 fa0 fa1
    cases r2
    · have HV := Lib.hid (HFF.out (by simp) (by simp))
      go_wp2
      go_ret
      exact ⟨by rw [HV.out]; rfl, (HG2.out.put (Nat.le_succ _) 0 _).put (Nat.le_succ _) 1 _⟩
    · have hv := HFT.out (by simp) (by simp)
      rcases cmp_cases n 0 with ⟨q, k⟩ | ⟨q, k⟩ | ⟨q, k⟩
      · have HV : Hid (R = 1) := Lib.hid (by rw [hv, k]; rfl)
        have hn0 : (0 == n) = false := by simpa using (show ¬ 0 = n by omega)
        have hn1 : (n == 0) = false := by simpa using (show ¬ n = 0 by omega)
        have heq := dec_eq 0 0 n f
        clear k hv
        go_wp2
        go_ret
        exact ⟨by rw [HV.out]; rfl, HG2.out⟩
      · have HV : Hid (R = 0) := Lib.hid (by rw [hv, k]; rfl)
        have hf0 := HZB.out (by simp) q
        subst q
        subst hf0
        clear k hv
        go_wp2
        go_ret
        exact ⟨by rw [HV.out]; rfl, HG2.out⟩
      · have HV : Hid (R = -1) := Lib.hid (by rw [hv, k])
        have hn0 : (0 == n) = false := by simpa using (show ¬ 0 = n by omega)
        have hn1 : (n == 0) = false := by simpa using (show ¬ n = 0 by omega)
        have heq := dec_eq 0 0 n f
        clear k hv
        go_wp2
        go_ret
        exact ⟨by rw [HV.out]; rfl, HG2.out⟩
  · go_wp2_with fail
    refine (HRB.out _).mono ?_
    rintro x w2 ⟨rfl, hg⟩
    have ha := HA1.out.grow hg
    have hb := HB1.out.grow hg
    have a20 := ha.fst; have a21 := ha.snd
    have b20 := hb.fst; have b21 := hb.snd; have fb0 := hb.froz 0; have fb1 := hb.froz 1
    have HG2 := Lib.hid (HG1.out.trans hg)
    clear hg ha hb HRB HA1 HB1 HG1 a10 a11 b10 b11 fa0 fa1
    cases r2
    · have hv := HTF.out (by simp) (by simp)
      rcases cmp_cases m 0 with ⟨q, k⟩ | ⟨q, k⟩ | ⟨q, k⟩
      · have HV : Hid (R = -1) := Lib.hid (by rw [hv, k])
        have hn1 : (m == 0) = false := by simpa using (show ¬ m = 0 by omega)
        have heq := dec_eq m e 0 0
        clear k hv
        go_wp2
        go_ret
        exact ⟨by rw [HV.out]; rfl, (HG2.out.put (Nat.le_succ _) 0 _).put (Nat.le_succ _) 1 _⟩
      · have HV : Hid (R = 0) := Lib.hid (by rw [hv, k])
        have hf0 := HZA.out (by simp) q
        subst q
        subst hf0
        clear k hv
        go_wp2
        go_ret
        exact ⟨by rw [HV.out]; rfl, (HG2.out.put (Nat.le_succ _) 0 _).put (Nat.le_succ _) 1 _⟩
      · have HV : Hid (R = 1) := Lib.hid (by rw [hv, k])
        have hn1 : (m == 0) = false := by simpa using (show ¬ m = 0 by omega)
        have heq := dec_eq m e 0 0
        clear k hv
        go_wp2
        go_ret
        exact ⟨by rw [HV.out]; rfl, (HG2.out.put (Nat.le_succ _) 0 _).put (Nat.le_succ _) 1 _⟩
    · by_cases hq : m = n ∧ e = f
      · obtain ⟨h1, h2⟩ := hq
        have HV := Lib.hid (HEQ.out h1 h2)
        subst h1
        subst h2
        go_wp2
        go_ret
        exact ⟨by rw [HV.out]; rfl, HG2.out⟩
      · have hqb : (m == n && e == f) = false := by simpa using hq
        have heq := dec_eq m e n f
        obtain ⟨t1, t2, t3, t4⟩ := HFAR.out (by simp) (by simp)
        by_cases p1 : m < 0
        · by_cases p2 : n < 0
          · clear t1 t2 t3 t4
            go_wp2_with fail
            refine (HMB.out (by simp) (by simp) (by omega) (by omega) _).mono ?_
            rintro x w3 ⟨rfl, hg⟩
            have HG3 := Lib.hid (HG2.out.trans hg)
            have hv := HUN.out (by simp) (by simp) hq p1 p2
            clear hg
            cases U'
            · have HV : Hid (R = -1) := Lib.hid (by rw [hv]; rfl)
              clear hv
              go_wp2
              go_ret
              exact ⟨by rw [HV.out]; rfl, HG3.out⟩
            · have HV : Hid (R = 1) := Lib.hid (by rw [hv]; rfl)
              clear hv
              go_wp2
              go_ret
              exact ⟨by rw [HV.out]; rfl, HG3.out⟩
          · have HV := Lib.hid (t1 p1 (by omega))
            clear t1 t2 t3 t4 hq
            go_wp2
            go_ret
            exact ⟨by rw [HV.out]; rfl, HG2.out⟩
        · by_cases p2 : n < 0
          · have HV := Lib.hid (t2 (by omega) p2)
            clear t1 t2 t3 t4 hq
            go_wp2
            go_ret
            exact ⟨by rw [HV.out]; rfl, HG2.out⟩
          · by_cases p3 : m = 0
            · have hn0 : ¬ n = 0 := fun h => hq ⟨by omega, (HZA.out (by simp) p3).trans (HZB.out (by simp) h).symm⟩
              have HV := Lib.hid (t3 p3 (by omega))
              have hn1 : (n == 0) = false := by simpa using hn0
              subst p3
              clear t1 t2 t3 t4 hq
              go_wp2
              go_ret
              exact ⟨by rw [HV.out]; rfl, HG2.out⟩
            · have hm1 : (m == 0) = false := by simpa using p3
              by_cases p4 : n = 0
              · have HV := Lib.hid (t4 (by omega) p4)
                subst p4
                clear t1 t2 t3 t4 hq
                go_wp2
                go_ret
                exact ⟨by rw [HV.out]; rfl, HG2.out⟩
              · have hn1 : (n == 0) = false := by simpa using p4
                have q1 := p1
                have q2 := p2
                clear t1 t2 t3 t4 p1 p2
                have p1 : 0 < m := by omega
                have p2 : 0 < n := by omega
                go_wp2_with fail
                refine (HMA.out (by simp) (by simp) (by omega) (by omega) _).mono ?_
                rintro x w3 ⟨rfl, hg⟩
                have HG3 := Lib.hid (HG2.out.trans hg)
                have hv := HUP.out (by simp) (by simp) hq p1 p2
                clear hg
                cases U
                · have HV : Hid (R = -1) := Lib.hid (by rw [hv]; rfl)
                  clear hv
                  go_wp2
                  go_ret
                  exact ⟨by rw [HV.out]; rfl, HG3.out⟩
                · have HV : Hid (R = 1) := Lib.hid (by rw [hv]; rfl)
                  clear hv
                  go_wp2
                  go_ret
                  exact ⟨by rw [HV.out]; rfl, HG3.out⟩

end Go.Proofs.YtlmhddaelfolfaaDoor
