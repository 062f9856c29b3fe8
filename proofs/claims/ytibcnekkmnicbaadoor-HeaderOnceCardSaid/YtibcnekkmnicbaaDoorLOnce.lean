/-
  HeaderOnce comes to true, whatever it is called with.
-/
import Derived.Test.YtibcnekkmnicbaaDoorLBack
namespace Go.Proofs.YtibcnekkmnicbaaDoor
open Go.RowKit Go.Lib
set_option linter.unusedSimpArgs false
set_option linter.unusedVariables false
set_option maxRecDepth 10000

set_option maxHeartbeats 6400000 in
theorem lonce_walk (s : List UInt8) (w : World) (hL : MaxAt w) (hl : s.length ≤ 9223372036854775807) :
    Calls Tryd.prog 5 #[.string ⟨s.toArray⟩] w (Fine w) := by
  have HS := Lib.hid (small_any w hL)
  have HM := Lib.hid hL
  have hsz := str_size s
  clear hL
  by_cases k2 : 500 < s.length
  · have k2i : ((500 : Int) < ((s.length : Nat) : Int)) := by omega
    generalize (⟨s.toArray⟩ : ByteArray) = S at *
    go_enter Tryd.func5, Tryd.ntmps5
    go_wp2_with fail
    refine (HS.out).mono ?_
    rintro x w1 ⟨rfl, hg⟩
    have HG1 := Lib.hid hg
    clear hg HS
    go_wp2
    go_ret
    exact ⟨rfl, HG1.out⟩
  have k2i : ¬ ((500 : Int) < ((s.length : Nat) : Int)) := by omega
  obtain ⟨o, ho⟩ : ∃ o, parseP s = o := ⟨_, rfl⟩
  have HP := Lib.hid (fun W hW => pparse_says ho rfl rfl (by omega) W hW)
  obtain ⟨q, hq⟩ : ∃ q, o.getD hd0 = q := ⟨_, rfl⟩
  obtain ⟨β, hβ⟩ : ∃ β, o.isSome = β := ⟨_, rfl⟩
  rw [hq, hβ] at HP
  have HNO : Hid (β = false → q = hd0) := Lib.hid (fun e => by
    rw [← hq]
    cases o with
    | none => rfl
    | some x => rw [← hβ] at e; cases e)
  have HYES : Hid (β = true → rightH q = true ∧ textH q = s) := Lib.hid (fun e => by
    cases o with
    | none => rw [← hβ] at e; cases e
    | some x =>
      have : x = q := hq
      rw [← this]
      exact parseP_iff.1 ho)
  clear ho hq hβ k2 hl
  obtain ⟨S, hS⟩ : ∃ S, (⟨s.toArray⟩ : ByteArray) = S := ⟨_, rfl⟩
  have HSE := Lib.hid hS
  rw [hS] at hsz HP ⊢
  clear hS
  go_enter Tryd.func5, Tryd.ntmps5
  go_wp2_with fail
  refine (HS.out).mono ?_
  rintro x w1 ⟨rfl, hg⟩
  have HG1 := Lib.hid hg
  have HM1 := Lib.hid (HM.out.grow hg)
  clear hg HS
  go_wp2_with fail
  refine (HP.out w1 HM1.out).mono ?_
  rintro e w5 ⟨A2, n2, c2, rfl, hin2, hg⟩
  have hga := grow_new w5 (.cells #[.string ⟨q.res.toArray⟩, .string ⟨q.left.toArray⟩, .string ⟨q.name.toArray⟩, .string ⟨q.right.toArray⟩, .string ⟨q.f.toArray⟩, .string ⟨q.g.toArray⟩, .slice A2 n2 c2] 24)
  have hb := hb_new (W0 := w) hin2
  obtain ⟨qb, hqb⟩ : ∃ qb, w5.heap.size = qb := ⟨_, rfl⟩
  rw [hqb] at hb
  have HQB := Lib.hid hqb
  have HX6 := Lib.hid hb
  have HG6 := Lib.hid (HG1.out.trans (hg.trans hga))
  unfold hdV strv
  clear hg hga hb hqb hin2 HP
  go_upto_region 5 with fail
  rw [HQB.out]
  generalize w5.alloc (.cells #[.string ⟨q.res.toArray⟩, .string ⟨q.left.toArray⟩, .string ⟨q.name.toArray⟩, .string ⟨q.right.toArray⟩, .string ⟨q.f.toArray⟩, .string ⟨q.g.toArray⟩, .slice A2 n2 c2] 24) = w6 at HX6 HG6 ⊢
  have d0 := HX6.out.1.at0
  have d1 := HX6.out.1.at1
  have d2 := HX6.out.1.at2
  have d3 := HX6.out.1.at3
  have d4 := HX6.out.1.at4
  have d5 := HX6.out.1.at5
  have d6 := HX6.out.1.at6
  cases β with
  | false =>
    have hs := same_says (HNO.out rfl) HX6.out.2 (hd0_in w6)
    unfold hdV strv hd0 at hs
    dsimp only at hs
    have HS := Lib.hid hs
    clear hs HNO HYES
    go_wp2_with fail
    refine (HS.out).mono ?_
    rintro e w7 ⟨rfl, hg⟩
    have HG7 := Lib.hid (HG6.out.trans hg)
    clear hg d0 d1 d2 d3 d4 d5 d6
    go_wp2
    go_ret
    exact ⟨rfl, HG7.out⟩
  | true =>
    obtain ⟨hr, htx⟩ := HYES.out rfl
    have hc := right_says2 hr HX6.out.2
    unfold hdV strv at hc
    have HC := Lib.hid hc
    have HTX := Lib.hid ((head_right hr).trans htx)
    have HNM := Lib.hid (right_parts hr).1
    clear hc hr htx HNO HYES
    go_wp2_with fail
    refine (HC.out).mono ?_
    rintro e w7 ⟨rfl, hg⟩
    have HG7 := Lib.hid (HG6.out.trans hg)
    have HX7 := Lib.hid (HX6.out.grow hg)
    have ht := text_says HTX.out HX7.out.2
    unfold hdV strv at ht
    have HT := Lib.hid ht
    clear hg ht d0 d1 d2 d3 d4 d5 d6 HX6 HC
    have d0 := HX7.out.1.at0
    have d1 := HX7.out.1.at1
    have d2 := HX7.out.1.at2
    have d3 := HX7.out.1.at3
    have d4 := HX7.out.1.at4
    have d5 := HX7.out.1.at5
    have d6 := HX7.out.1.at6
    go_wp2_with fail
    refine (HT.out).mono ?_
    rintro e w8 ⟨rfl, hg⟩
    have HG8 := Lib.hid (HG7.out.trans hg)
    have HX8 := Lib.hid (HX7.out.grow hg)
    have HR := Lib.hid (right_says HNM.out w8 (HX8.out.2.parts.2.2.1))
    rw [HSE.out]
    clear hg d0 d1 d2 d3 d4 d5 d6 HX7 HT
    have d2 := HX8.out.1.at2
    go_wp2_with fail
    refine (HR.out).mono ?_
    rintro e w9 ⟨rfl, hg⟩
    have HG9 := Lib.hid (HG8.out.trans hg)
    clear hg d2
    go_wp2
    go_ret
    exact ⟨rfl, HG9.out⟩
end Go.Proofs.YtibcnekkmnicbaaDoor
