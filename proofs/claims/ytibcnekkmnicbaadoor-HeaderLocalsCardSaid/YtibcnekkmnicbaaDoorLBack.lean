/-
  HeaderBack comes to true, whatever it is called with.
-/
import Derived.Test.YtibcnekkmnicbaaDoorSmall
import Derived.Test.YtibcnekkmnicbaaDoorFew
namespace Go.Proofs.YtibcnekkmnicbaaDoor
open Go.RowKit Go.Lib
set_option linter.unusedSimpArgs false
set_option linter.unusedVariables false
set_option maxRecDepth 10000

theorem IsHead.grow {w w' : World} {A : Option Addr} {n c : Nat} {h : Hd} (k : IsHead w A n c h) (hg : Grow w w') : IsHead w' A n c h := ⟨k.1, k.2.1, k.2.2.1.grow hg, k.2.2.2⟩
theorem few_says {h : Hd} {γ : Bool} (e : decide (fewP h) = γ) {A : Option Addr} {n c : Nat} {w : World} (k : IsHead w A n c h) : Calls Tryd.prog 9 #[hdV h A n c] w (Says γ w) := by
  have := few_any h A n c w k
  rw [e] at this
  exact this
theorem part_len (a x b : List UInt8) : (partD a x b).length ≤ a.length + x.length + b.length := by
  unfold partD
  split
  · simp
  · simp; omega
theorem loc_len {m : Nat} : ∀ (ls : List (List UInt8)), (∀ s ∈ ls, s.length ≤ m) → (locT ls).length ≤ ls.length * (m + 1)
  | [], _ => by simp [locT]
  | l :: r, h => by
    have h1 := loc_len r (fun s hs => h s (by simp [hs]))
    have h2 := part_len [59] l []
    have h3 := h l (by simp)
    have e : (l :: r).length * (m + 1) = r.length * (m + 1) + (m + 1) := by rw [List.length_cons, Nat.succ_mul]
    rw [e]
    show (partD [59] l [] ++ locT r).length ≤ _
    rw [List.length_append]
    simp only [List.length_cons, List.length_nil] at h2
    omega
theorem text_len {m : Nat} {h : Hd} (he : ∀ s ∈ allH h, s.length ≤ m) : (textH h).length ≤ 6 * m + 10 + h.locs.length * (m + 1) := by
  have h1 := loc_len h.locs (m := m) (fun s hs => he s (by simp [allH, hs]))
  have e0 := he h.res (by simp [allH])
  have e1 := he h.left (by simp [allH])
  have e2 := he h.name (by simp [allH])
  have e3 := he h.right (by simp [allH])
  have e4 := he h.f (by simp [allH])
  have e5 := he h.g (by simp [allH])
  have p0 := part_len [] h.res arrowT
  have p1 := part_len [] h.left [32]
  have p2 := part_len [40] h.f [32]
  have p3 := part_len [32] h.g []
  have p4 := part_len [32] h.right []
  have p5 : (if h.f = [] then ([] : List UInt8) else [41]).length ≤ 1 := by split <;> simp
  have ea : arrowT.length = 3 := rfl
  unfold textH frontT
  simp only [List.length_append, List.length_cons, List.length_nil] at *
  omega
theorem head_len {m : Nat} {h : Hd} (he : ∀ s ∈ allH h, s.length ≤ m) : (headD h).length ≤ 6 * m + 10 + h.locs.length * (m + 1) := by
  unfold headD
  split
  · exact text_len he
  · exact Nat.zero_le _

set_option maxHeartbeats 6400000 in
theorem lback_walk (h : Hd) (A : Option Addr) (n c : Nat) (w : World) (k : IsHead w A n c h) (hL : MaxAt w) :
    Calls Tryd.prog 4 #[hdV h A n c] w (Fine w) := by
  have hg1 := grow_new w (.cells #[.string ⟨h.res.toArray⟩, .string ⟨h.left.toArray⟩, .string ⟨h.name.toArray⟩, .string ⟨h.right.toArray⟩, .string ⟨h.f.toArray⟩, .string ⟨h.g.toArray⟩, .slice A n c] 24)
  have HG1 := Lib.hid hg1
  have HB1 := Lib.hid (boxH_new w h A n c)
  have HK1 := Lib.hid (k.grow hg1)
  have HM1 := Lib.hid (hL.grow hg1)
  obtain ⟨nb, hnb2⟩ : ∃ nb, w.heap.size = nb := ⟨_, rfl⟩
  have HNB := Lib.hid hnb2
  rw [hnb2] at HB1
  unfold hdV strv
  clear k hg1 hnb2 hL
  go_enter Tryd.func4, Tryd.ntmps4
  go_upto_region 1 with fail
  rw [HNB.out]
  generalize w.alloc (.cells #[.string ⟨h.res.toArray⟩, .string ⟨h.left.toArray⟩, .string ⟨h.name.toArray⟩, .string ⟨h.right.toArray⟩, .string ⟨h.f.toArray⟩, .string ⟨h.g.toArray⟩, .slice A n c] 24) = w1 at HG1 HB1 HK1 HM1 ⊢
  have HS := Lib.hid (small_any w1 HM1.out)
  go_wp2_with fail
  refine (HS.out).mono ?_
  rintro e w2 ⟨rfl, hg⟩
  have HG2 := Lib.hid (HG1.out.trans hg)
  have HB2 := Lib.hid (HB1.out.grow hg)
  have HK2 := Lib.hid (HK1.out.grow hg)
  have HM2 := Lib.hid (HM1.out.grow hg)
  clear hg HS HB1 HK1 HM1
  have b0 := HB2.out.at0
  have b1 := HB2.out.at1
  have b2 := HB2.out.at2
  have b3 := HB2.out.at3
  have b4 := HB2.out.at4
  have b5 := HB2.out.at5
  have b6 := HB2.out.at6
  by_cases hf : fewP h
  rotate_left
  · have hc := few_says (decide_eq_false hf) HK2.out
    unfold hdV strv at hc
    have HC := Lib.hid hc
    clear hc hf
    go_wp2_with fail
    refine (HC.out).mono ?_
    rintro e w3 ⟨rfl, hg⟩
    have HG3 := Lib.hid (HG2.out.trans hg)
    clear hg b0 b1 b2 b3 b4 b5 b6
    go_wp2
    go_ret
    exact ⟨rfl, HG3.out⟩
  have hc := few_says (decide_eq_true hf) HK2.out
  unfold hdV strv at hc
  have HC := Lib.hid hc
  obtain ⟨hin, hfl, hfe⟩ := few_in HK2.out hf
  have hlen : (headD h).length ≤ 800000 := by
    have := head_len hfe
    have : h.locs.length * (100 + 1) ≤ 30 * 101 := Nat.mul_le_mul hfl (Nat.le_refl _)
    omega
  have HIN := Lib.hid hin
  clear hc hf hin hfl hfe HK2
  go_wp2_with fail
  refine (HC.out).mono ?_
  rintro e w3 ⟨rfl, hg⟩
  have HG3 := Lib.hid (HG2.out.trans hg)
  have HB3 := Lib.hid (HB2.out.grow hg)
  have HI3 := Lib.hid (HIN.out.grow hg)
  have HM3 := Lib.hid (HM2.out.grow hg)
  clear hg b0 b1 b2 b3 b4 b5 b6 HC HB2 HIN HM2
  have b0 := HB3.out.at0
  have b1 := HB3.out.at1
  have b2 := HB3.out.at2
  have b3 := HB3.out.at3
  have b4 := HB3.out.at4
  have b5 := HB3.out.at5
  have b6 := HB3.out.at6
  obtain ⟨T, hT⟩ : ∃ T, headD h = T := ⟨_, rfl⟩
  have ht := text_says hT HI3.out
  unfold hdV strv at ht
  have HT := Lib.hid ht
  rw [hT] at hlen
  obtain ⟨ρ, hρ⟩ : ∃ ρ, rightH h = ρ := ⟨_, rfl⟩
  obtain ⟨o, ho⟩ : ∃ o, parseP T = o := ⟨_, rfl⟩
  have HTT := Lib.hid hT
  have HRR := Lib.hid hρ
  have HOO := Lib.hid ho
  have HP := Lib.hid (fun W hW => pparse_says ho rfl rfl hlen W hW)
  clear ht hT hlen hρ ho
  go_wp2_with fail
  refine (HT.out).mono ?_
  rintro e w4 ⟨rfl, hg⟩
  have HG4 := Lib.hid (HG3.out.trans hg)
  have HB4 := Lib.hid (HB3.out.grow hg)
  have HI4 := Lib.hid (HI3.out.grow hg)
  have HM4 := Lib.hid (HM3.out.grow hg)
  clear hg b0 b1 b2 b3 b4 b5 b6 HT HB3 HI3 HM3
  go_wp2_with fail
  refine (HP.out w4 HM4.out).mono ?_
  rintro e w5 ⟨A2, n2, c2, rfl, hin2, hg⟩
  obtain ⟨q, HQ⟩ : ∃ q, Hid (o.getD hd0 = q) := ⟨_, Lib.hid rfl⟩
  obtain ⟨β, HBE⟩ : ∃ β, Hid (o.isSome = β) := ⟨_, Lib.hid rfl⟩
  rw [HQ.out] at hin2 ⊢
  rw [HBE.out]
  have hga := grow_new w5 (.cells #[.string ⟨q.res.toArray⟩, .string ⟨q.left.toArray⟩, .string ⟨q.name.toArray⟩, .string ⟨q.right.toArray⟩, .string ⟨q.f.toArray⟩, .string ⟨q.g.toArray⟩, .slice A2 n2 c2] 24)
  have hb := hb_new (W0 := w) hin2
  obtain ⟨qb, hqb⟩ : ∃ qb, w5.heap.size = qb := ⟨_, rfl⟩
  rw [hqb] at hb
  have HQB := Lib.hid hqb
  have HX6 := Lib.hid hb
  have HG6 := Lib.hid (HG4.out.trans (hg.trans hga))
  have HB6 := Lib.hid (HB4.out.grow (hg.trans hga))
  have HI6 := Lib.hid (HI4.out.grow (hg.trans hga))
  unfold hdV strv
  clear hg hga hb hqb hin2 HB4 HI4 HP
  go_upto_region 7 with fail
  rw [HQB.out]
  generalize w5.alloc (.cells #[.string ⟨q.res.toArray⟩, .string ⟨q.left.toArray⟩, .string ⟨q.name.toArray⟩, .string ⟨q.right.toArray⟩, .string ⟨q.f.toArray⟩, .string ⟨q.g.toArray⟩, .slice A2 n2 c2] 24) = w6 at HX6 HG6 HB6 HI6 ⊢
  have b0 := HB6.out.at0
  have b1 := HB6.out.at1
  have b2 := HB6.out.at2
  have b3 := HB6.out.at3
  have b4 := HB6.out.at4
  have b5 := HB6.out.at5
  have b6 := HB6.out.at6
  have hr := right_says2 HRR.out HI6.out
  unfold hdV strv at hr
  have HR := Lib.hid hr
  clear hr
  cases ρ with
  | false =>
    have hT0 : T = [] := by rw [← HTT.out]; exact head_wrong HRR.out
    subst hT0
    have hb0 : β = false := by
      rw [← HBE.out, ← HOO.out, parse_no (.inl rfl)]
      rfl
    subst hb0
    clear HOO HTT
    go_wp2_with fail
    refine (HR.out).mono ?_
    rintro e w7 ⟨rfl, hg⟩
    have HG7 := Lib.hid (HG6.out.trans hg)
    clear hg b0 b1 b2 b3 b4 b5 b6
    go_wp2
    go_ret
    exact ⟨rfl, HG7.out⟩
  | true =>
    have hTn : T ≠ [] := by rw [← HTT.out]; exact head_ne.2 HRR.out
    have hpo : o = some h := by
      rw [← HOO.out]
      exact parseP_iff.2 ⟨HRR.out, by rw [← head_right HRR.out]; exact HTT.out⟩
    have hq : h = q := by rw [← HQ.out, hpo]; rfl
    have hb1 : β = true := by rw [← HBE.out, hpo]; rfl
    subst hb1
    have hTb : (T == []) = false := beq_eq_false_iff_ne.2 hTn
    have HQE := Lib.hid hq
    clear HOO HTT hpo hq hTn HQ HBE
    go_wp2_with fail
    refine (HR.out).mono ?_
    rintro e w7 ⟨rfl, hg⟩
    have HG7 := Lib.hid (HG6.out.trans hg)
    have HX7 := Lib.hid (HX6.out.grow hg)
    have HB7 := Lib.hid (HB6.out.grow hg)
    have hs := same_says HQE.out.symm HX7.out.2 (HI6.out.grow hg)
    unfold hdV strv at hs
    have HS := Lib.hid hs
    clear hg b0 b1 b2 b3 b4 b5 b6 HX6 HB6 HR hs
    have b0 := HB7.out.at0
    have b1 := HB7.out.at1
    have b2 := HB7.out.at2
    have b3 := HB7.out.at3
    have b4 := HB7.out.at4
    have b5 := HB7.out.at5
    have b6 := HB7.out.at6
    have d0 := HX7.out.1.at0
    have d1 := HX7.out.1.at1
    have d2 := HX7.out.1.at2
    have d3 := HX7.out.1.at3
    have d4 := HX7.out.1.at4
    have d5 := HX7.out.1.at5
    have d6 := HX7.out.1.at6
    go_wp2_with fail
    refine (HS.out).mono ?_
    rintro e w8 ⟨rfl, hg⟩
    have HG8 := Lib.hid (HG7.out.trans hg)
    clear hg b0 b1 b2 b3 b4 b5 b6 d0 d1 d2 d3 d4 d5 d6
    go_wp2
    go_ret
    exact ⟨rfl, HG8.out⟩
end Go.Proofs.YtibcnekkmnicbaaDoor
