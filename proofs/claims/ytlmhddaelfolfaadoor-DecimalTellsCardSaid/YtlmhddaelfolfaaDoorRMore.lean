/-
  What the document's own more and Compare come to.
-/
import Derived.Test.YtlmhddaelfolfaaDoorRTexts
import Derived.Test.YtlmhddaelfolfaaDoorLex
import Derived.Test.YtlmhddaelfolfaaDoorCompare
import Derived.Test.YtlmhddaelfolfaaDoorLOrder
import Derived.Laws.Cover1
namespace Go.Proofs.YtlmhddaelfolfaaDoor
open Go.RowKit Go.Lib

theorem size_far {m e n f : Int} (hm : In m) (hn : In n) (h : ¬ (nDigits m.natAbs : Int) + e = (nDigits n.natAbs : Int) + f) :
    decide (bySize m e n f = 1) = decide ((nDigits n.natAbs : Int) + f < (nDigits m.natAbs : Int) + e) := by
  have h1 := nd_le hm
  have h2 := nd_le hn
  have hE : fullE m e = (nDigits m.natAbs : Int) + e - 19 := by unfold fullE; omega
  have hF : fullE n f = (nDigits n.natAbs : Int) + f - 19 := by unfold fullE; omega
  unfold bySize
  rw [hE, hF]
  rcases cmp_cases ((nDigits m.natAbs : Int) + e - 19) ((nDigits n.natAbs : Int) + f - 19) with ⟨k, hk⟩ | ⟨k, hk⟩ | ⟨k, hk⟩
  · rw [hk, if_neg (by decide)]
    have : ¬ (nDigits n.natAbs : Int) + f < (nDigits m.natAbs : Int) + e := by omega
    simp [this]
  · omega
  · rw [hk, if_neg (by decide)]
    have : (nDigits n.natAbs : Int) + f < (nDigits m.natAbs : Int) + e := by omega
    simp [this]

theorem size_near {m e n f : Int} (hm : In m) (hn : In n) (hm10 : m.natAbs % 10 ≠ 0) (hn10 : n.natAbs % 10 ≠ 0) (h : (nDigits m.natAbs : Int) + e = (nDigits n.natAbs : Int) + f) :
    decide (bySize m e n f = 1) = (!(Op.bytesLess (decDigits m.natAbs) (decDigits n.natAbs) || decDigits m.natAbs == decDigits n.natAbs)) := by
  have h1 := nd_le hm
  have h2 := nd_le hn
  have hE : fullE m e = fullE n f := by unfold fullE; omega
  rw [lex_dd hm10 hn10 h1 h2]
  unfold bySize
  rw [hE, cmp_eq, if_pos rfl]
  rcases cmp_cases (fullS m.natAbs : Nat) (fullS n.natAbs : Nat) with ⟨k, hk⟩ | ⟨k, hk⟩ | ⟨k, hk⟩
  · rw [hk]
    have : ¬ fullS n.natAbs < fullS m.natAbs := by omega
    simp [this]
  · rw [hk]
    have : ¬ fullS n.natAbs < fullS m.natAbs := by omega
    simp [this]
  · rw [hk]
    have : fullS n.natAbs < fullS m.natAbs := by omega
    simp [this]

set_option maxRecDepth 10000 in
set_option maxHeartbeats 1600000 in
theorem more_any (m e n f : Int) (w : World) (hm : In m) (hn : In n) (hm10 : m.natAbs % 10 ≠ 0) (hn10 : n.natAbs % 10 ≠ 0) (he : -32768 ≤ e) (he2 : e ≤ 32767) (hf : -32768 ≤ f) (hf2 : f ≤ 32767) :
    Calls Tryd.prog 33 #[.agg #[.int .i64 m, .int .i64 e], .agg #[.int .i64 n, .int .i64 f]] w fun x w' => x = .returned (.bool (decide (bySize m e n f = 1))) ∧ Grow w w' := by
  have HSA := Lib.hid (fun W => rsize_any m W hm)
  have HSB := Lib.hid (fun W => rsize_any n W hn)
  have HDA := Lib.hid (fun W => digits_any m.natAbs (by have := hm.1; have := hm.2; omega) W)
  have HDB := Lib.hid (fun W => digits_any n.natAbs (by have := hn.1; have := hn.2; omega) W)
  have HFAR := Lib.hid (size_far (e := e) (f := f) hm hn)
  have HNEAR := Lib.hid (size_near (e := e) (f := f) hm hn hm10 hn10)
  have hp := nd_le hm
  have hq := nd_le hn
  have hX := decDigits_length m.natAbs
  have hY := decDigits_length n.natAbs
  clear hm hn hm10 hn10
  generalize decide (bySize m e n f = 1) = Bz at *
  generalize decDigits m.natAbs = X at *
  generalize decDigits n.natAbs = Y at *
  generalize nDigits m.natAbs = p at *
  generalize nDigits n.natAbs = q at *
  generalize m.natAbs = u at *
  generalize n.natAbs = v at *
  go_enter Tryd.func33, Tryd.ntmps33
  go_wp2_with fail
  refine (HSA.out _).mono ?_
  rintro x w1 ⟨rfl, hw1⟩
  rw [hw1]
  clear hw1 w1
  go_wp2_with fail
  refine (HDA.out _).mono ?_
  rintro x w1 ⟨rfl, hg⟩
  have ha := ((boxed_new w (.int .i64 m) (.int .i64 e) 23).grow (grow_new _ _)).grow hg
  have hb := (boxed_new (w.alloc (.cells #[.int .i64 m, .int .i64 e] 23)) (.int .i64 n) (.int .i64 f) 23).grow hg
  have hsz : (w.alloc (.cells #[.int .i64 m, .int .i64 e] 23)).heap.size = w.heap.size + 1 := by simp
  rw [hsz] at hb
  have b10 := hb.fst; have b11 := hb.snd
  have HA1 := Lib.hid ha
  have HB1 := Lib.hid hb
  have HG1 := Lib.hid ((grow_new2 w _ _).trans hg)
  clear hg ha hb hsz HSA HDA
  go_wp2_with fail
  refine (HSB.out _).mono ?_
  rintro x w2 ⟨rfl, hw2⟩
  rw [hw2]
  clear hw2 w2
  go_wp2_with fail
  refine (HDB.out _).mono ?_
  rintro x w2 ⟨rfl, hg⟩
  have ha := HA1.out.grow hg
  have hb := HB1.out.grow hg
  have a20 := ha.fst; have a21 := ha.snd; have b20 := hb.fst; have b21 := hb.snd
  have HG2 := Lib.hid (HG1.out.trans hg)
  clear hg ha hb HSB HDB HA1 HB1 HG1 b10 b11
  by_cases hpq : (p : Int) + e = (q : Int) + f
  · have HV := Lib.hid (HNEAR.out hpq)
    have hb : (((p : Nat) : Int) + e == ((q : Nat) : Int) + f) = true := by simpa using hpq
    clear HFAR HNEAR
    go_wp2
    go_ret
    exact ⟨by rw [HV.out, Bool.not_or]; rfl, HG2.out⟩
  · have HV := Lib.hid (HFAR.out hpq)
    have hb : (((p : Nat) : Int) + e == ((q : Nat) : Int) + f) = false := by simpa using hpq
    clear HFAR HNEAR hpq
    go_wp2
    go_ret
    exact ⟨by rw [HV.out]; rfl, HG2.out⟩

theorem by_swap (m e n f : Int) : bySize n f m e = -bySize m e n f := by
  unfold bySize
  rw [cmp_swap (fullE m e) (fullE n f), cmp_swap ((fullS m.natAbs : Nat) : Int) ((fullS n.natAbs : Nat) : Int)]
  by_cases h : compareInt (fullE m e) (fullE n f) = 0
  · rw [h, if_pos rfl, if_pos (by decide)]
  · rw [if_neg h, if_neg (by omega)]

theorem right_ten {m e : Int} (hm : In m) (h : rightB m e = true) (h0 : m ≠ 0) : m.natAbs % 10 ≠ 0 := by
  rcases (rightB_iff hm).1 h with ⟨h, _⟩ | ⟨h, _⟩
  · exact absurd h h0
  · omega

/-- which is worth more, where neither is below 0 -/
theorem up_pos {m e n f : Int} (hm : In m) (hn : In n) (h1 : rightB m e = true) (h2 : rightB n f = true) (hq : ¬ (m = n ∧ e = f)) (p : 0 < m) (q : 0 < n) :
    compareInt (worth m e) (worth n f) = if decide (bySize m e n f = 1) = true then 1 else -1 := by
  have hne : compareInt (worth m e) (worth n f) ≠ 0 := fun h => by
    rcases cmp_cases (worth m e) (worth n f) with ⟨_, k⟩ | ⟨k, _⟩ | ⟨_, k⟩
    · rw [k] at h; cases h
    · exact hq (worth_inj hm hn h1 h2 k)
    · rw [k] at h; cases h
  have hr := cmp_range (worth m e) (worth n f)
  rw [cmp_sizes_pos hm hn h1 h2 p q] at hne hr ⊢
  by_cases h : bySize m e n f = 1
  · rw [h]; rfl
  · rw [if_neg (by simpa using h)]; omega

theorem up_neg {m e n f : Int} (hm : In m) (hn : In n) (h1 : rightB m e = true) (h2 : rightB n f = true) (hq : ¬ (m = n ∧ e = f)) (p : m < 0) (q : n < 0) :
    compareInt (worth m e) (worth n f) = if decide (bySize n f m e = 1) = true then 1 else -1 := by
  have hne : compareInt (worth m e) (worth n f) ≠ 0 := fun h => by
    rcases cmp_cases (worth m e) (worth n f) with ⟨_, k⟩ | ⟨k, _⟩ | ⟨_, k⟩
    · rw [k] at h; cases h
    · exact hq (worth_inj hm hn h1 h2 k)
    · rw [k] at h; cases h
  have hr := cmp_range (worth m e) (worth n f)
  rw [cmp_sizes_neg hm hn h1 h2 p q] at hne hr ⊢
  rw [by_swap m e n f]
  by_cases h : -bySize m e n f = 1
  · rw [h]; rfl
  · rw [if_neg (by simpa using h)]; omega

end Go.Proofs.YtlmhddaelfolfaaDoor
