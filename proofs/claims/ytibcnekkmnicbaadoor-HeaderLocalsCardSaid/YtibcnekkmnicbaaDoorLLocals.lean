/-
  HeaderLocals comes to true, whatever it is called with.
-/
import Derived.Test.YtibcnekkmnicbaaDoorLBack
namespace Go.Proofs.YtibcnekkmnicbaaDoor
open Go.RowKit Go.Lib
set_option linter.unusedSimpArgs false
set_option linter.unusedVariables false
set_option maxRecDepth 10000

/-! ### one local name more -/
theorem more_all (h : Hd) (s : List UInt8) : allH { h with locs := h.locs ++ [s] } = allH h ++ [s] := rfl
theorem apart_more {l : List (List UInt8)} {s : List UInt8} (hs : s ≠ []) (hl : Apart l) : Apart (l ++ [s]) ↔ s ∉ l := by
  unfold Apart at *
  rw [List.pairwise_append]
  constructor
  · intro h hm
    exact h.2.2 s hm s (by simp) hs rfl
  · intro h
    refine ⟨hl, by simp, fun a ha b hb _ e => ?_⟩
    simp at hb
    subst hb
    rw [e] at h
    exact h ha
theorem more_right {h : Hd} {s : List UInt8} (hr : rightH h = true) (hs : rightD s = true) : rightH { h with locs := h.locs ++ [s] } = !decide (s ∈ allH h) := by
  obtain ⟨k1, k2, k3, k4, k5, k6⟩ := right_parts hr
  have ha := (unl_iff _).1 k4
  have hu : unlB (allH h ++ [s]) = !decide (s ∈ allH h) := by
    rw [Bool.eq_iff_iff, unl_iff, apart_more (right_ne hs) ha]
    simp
  unfold rightH
  rw [more_all, hu]
  show (rightD h.name && (mayH h).all mayD && (h.locs ++ [s]).all rightD && !decide (s ∈ allH h) && (!shapeR h && !shapeG h)) = _
  rw [k1, k2, k5, k6, List.all_append, k3]
  simp [hs]
theorem more_text {h : Hd} {s : List UInt8} (hs : s ≠ []) : textH { h with locs := h.locs ++ [s] } = textH h ++ [59] ++ s := by
  unfold textH
  show frontT h ++ locT (h.locs ++ [s]) = _
  rw [loc_app]
  show frontT h ++ (locT h.locs ++ (partD [59] s [] ++ [])) = _
  unfold partD
  rw [if_neg hs]
  simp
theorem more_in {w : World} {h : Hd} {A : Option Addr} {n c : Nat} {s : List UInt8} (k : HdIn w A n c h) (hs : s.length ≤ 1000000) {A2 : Option Addr} {n2 c2 : Nat} {W : World} (h1 : (h.locs ++ [s]).length = n2) (h2 : n2 ≤ c2) (h3 : n2 ≤ 900000) (h4 : A2 = none → c2 = 0) (h5 : Strs W W.heap.size A2 (h.locs ++ [s])) :
    HdIn W A2 n2 c2 { h with locs := h.locs ++ [s] } :=
  ⟨h1, h2, h3, h4, h5, fun x hx => by
    rw [more_all] at hx
    rcases List.mem_append.1 hx with hx | hx
    · exact k.each x hx
    · simp at hx; rw [hx]; exact hs⟩
theorem mem_step {ls : List (List UInt8)} {k : Nat} (h : k < ls.length) (s : List UInt8) : s ∈ ls.take (k + 1) ↔ s ∈ ls.take k ∨ s = ls.getD k [] := by
  rw [List.take_add_one, List.mem_append, List.getElem?_eq_getElem h]
  simp [List.getD, h]

theorem OwnS.strs2 {B : Nat} {v : Value} {ls : List (List UInt8)} {w : World} (h : OwnS B v ls w) : ∃ A c, v = .slice A ls.length c ∧ ls.length ≤ c ∧ (A = none → c = 0) ∧ Strs w w.heap.size A ls ∧ ∀ p, A = some p → B ≤ p.block := by
  obtain ⟨A, c, e, h1, h2, h3⟩ := h.strs'
  refine ⟨A, c, e, h1, h2, h3, fun p hp => ?_⟩
  rcases h.2 with ⟨rfl, _⟩ | ⟨g, cap, cur, rfl, hbg, _⟩
  · injection e with e1 _ _
    rw [← e1] at hp
    cases hp
  · injection e with e1 _ _
    rw [← e1] at hp
    cases hp
    exact hbg

set_option maxHeartbeats 6400000 in
theorem llocals_walk (h : Hd) (A : Option Addr) (n c : Nat) (s : List UInt8) (w : World) (k : IsHead w A n c h) (hL : MaxAt w) (hl : s.length ≤ 9223372036854775807) :
    Calls Tryd.prog 6 #[hdV h A n c, .string ⟨s.toArray⟩] w (Fine w) := by
  have hg1 := grow_new w (.cells #[.string ⟨h.res.toArray⟩, .string ⟨h.left.toArray⟩, .string ⟨h.name.toArray⟩, .string ⟨h.right.toArray⟩, .string ⟨h.f.toArray⟩, .string ⟨h.g.toArray⟩, .slice A n c] 24)
  have HG1 := Lib.hid hg1
  have HB1 := Lib.hid (boxH_new w h A n c)
  have HK1 := Lib.hid (k.grow hg1)
  have HM1 := Lib.hid (hL.grow hg1)
  obtain ⟨nb, hnb2⟩ : ∃ nb, w.heap.size = nb := ⟨_, rfl⟩
  have HNB := Lib.hid hnb2
  rw [hnb2] at HB1
  have hsz := str_size s
  unfold hdV strv
  clear k hg1 hnb2 hL
  go_enter Tryd.func6, Tryd.ntmps6
  go_upto_region 1 with fail
  rw [HNB.out]
  generalize w.alloc (.cells #[.string ⟨h.res.toArray⟩, .string ⟨h.left.toArray⟩, .string ⟨h.name.toArray⟩, .string ⟨h.right.toArray⟩, .string ⟨h.f.toArray⟩, .string ⟨h.g.toArray⟩, .slice A n c] 24) = w1 at HG1 HB1 HK1 HM1 ⊢
  have HS := Lib.hid (small_any w1 HM1.out)
  go_wp2_with fail
  refine (HS.out).mono ?_
  rintro e w2 ⟨rfl, hg⟩
  have HG2 := Lib.hid (HG1.out.trans hg)
  have HB2 := Lib.hid (HB1.out.grow hg)
  have HK2 := Lib.hid (HK1.out.grow hg)
  clear hg HS HB1 HK1 HM1
  have b0 := HB2.out.at0
  have b1 := HB2.out.at1
  have b2 := HB2.out.at2
  have b3 := HB2.out.at3
  have b4 := HB2.out.at4
  have b5 := HB2.out.at5
  have b6 := HB2.out.at6
  by_cases hf : fewP h
  rotate_left
  · have hc := few_says (decide_eq_false hf) HK2.out
    unfold hdV strv at hc
    have HC := Lib.hid hc
    clear hc hf
    go_wp2_with fail
    refine (HC.out).mono ?_
    rintro e w3 ⟨rfl, hg⟩
    have HG3 := Lib.hid (HG2.out.trans hg)
    clear hg b0 b1 b2 b3 b4 b5 b6
    go_wp2
    go_ret
    exact ⟨rfl, HG3.out⟩
  have hc := few_says (decide_eq_true hf) HK2.out
  unfold hdV strv at hc
  have HC := Lib.hid hc
  obtain ⟨hin, hfl, hfe⟩ := few_in HK2.out hf
  have HIN := Lib.hid hin
  have HFL := Lib.hid hfl
  have HFE := Lib.hid hfe
  clear hc hf hin hfl hfe HK2
  by_cases hlen : 100 < s.length
  · have hli : (100 : Int) < ((s.length : Nat) : Int) := by omega
    have hlb : decide ((100 : Int) < ((s.length : Nat) : Int)) = true := decide_eq_true hli
    have hlc : decide (100 < s.length) = true := decide_eq_true hlen
    go_wp2_with fail
    refine (HC.out).mono ?_
    rintro e w3 ⟨rfl, hg⟩
    have HG3 := Lib.hid (HG2.out.trans hg)
    clear hg b0 b1 b2 b3 b4 b5 b6
    go_wp2
    go_ret
    exact ⟨rfl, HG3.out⟩
  have hli : ¬ (100 : Int) < ((s.length : Nat) : Int) := by omega
  have hlb : decide ((100 : Int) < ((s.length : Nat) : Int)) = false := decide_eq_false hli
  have hlc : decide (100 < s.length) = false := decide_eq_false hlen
  go_wp2_with fail
  refine (HC.out).mono ?_
  rintro e w3 ⟨rfl, hg⟩
  have HG3 := Lib.hid (HG2.out.trans hg)
  have HB3 := Lib.hid (HB2.out.grow hg)
  have HI3 := Lib.hid (HIN.out.grow hg)
  clear hg b0 b1 b2 b3 b4 b5 b6 HC HB2 HIN
  have b0 := HB3.out.at0
  have b1 := HB3.out.at1
  have b2 := HB3.out.at2
  have b3 := HB3.out.at3
  have b4 := HB3.out.at4
  have b5 := HB3.out.at5
  have b6 := HB3.out.at6
  obtain ⟨ρ, hρ⟩ : ∃ ρ, rightH h = ρ := ⟨_, rfl⟩
  have hr := right_says2 hρ HI3.out
  unfold hdV strv at hr
  have HR := Lib.hid hr
  have HRR := Lib.hid hρ
  clear hr hρ
  cases ρ with
  | false =>
    go_wp2_with fail
    refine (HR.out).mono ?_
    rintro e w4 ⟨rfl, hg⟩
    have HG4 := Lib.hid (HG3.out.trans hg)
    clear hg b0 b1 b2 b3 b4 b5 b6
    go_wp2
    go_ret
    exact ⟨rfl, HG4.out⟩
  | true =>
  go_wp2_with fail
  refine (HR.out).mono ?_
  rintro e w4 ⟨rfl, hg⟩
  have HG4 := Lib.hid (HG3.out.trans hg)
  have HB4 := Lib.hid (HB3.out.grow hg)
  have HI4 := Lib.hid (HI3.out.grow hg)
  clear hg b0 b1 b2 b3 b4 b5 b6 HR HB3 HI3
  obtain ⟨σ, hσ⟩ : ∃ σ, rightD s = σ := ⟨_, rfl⟩
  have HSS := Lib.hid hσ
  have HN := Lib.hid (right_says hσ w4 (by omega))
  clear hσ
  cases σ with
  | false =>
    go_wp2_with fail
    refine (HN.out).mono ?_
    rintro e w5 ⟨rfl, hg⟩
    have HG5 := Lib.hid (HG4.out.trans hg)
    clear hg
    go_wp2
    go_ret
    exact ⟨rfl, HG5.out⟩
  | true =>
  go_wp2_with fail
  refine (HN.out).mono ?_
  rintro e w5 ⟨rfl, hg⟩
  have HG5 := Lib.hid (HG4.out.trans hg)
  have HB5 := Lib.hid (HB4.out.grow hg)
  have HI5 := Lib.hid (HI4.out.grow hg)
  clear hg HN HB4 HI4
  have b0 := HB5.out.at0
  have b1 := HB5.out.at1
  have b2 := HB5.out.at2
  have b3 := HB5.out.at3
  have b4 := HB5.out.at4
  have b5 := HB5.out.at5
  have b6 := HB5.out.at6
  have hga := grow_new w5 (.cells #[.string ⟨h.res.toArray⟩, .string ⟨h.left.toArray⟩, .string ⟨h.name.toArray⟩, .string ⟨h.right.toArray⟩, .string ⟨h.f.toArray⟩, .string ⟨h.g.toArray⟩, .slice A n c] 24)
  have HX6 := Lib.hid (boxH_new w5 h A n c)
  have HG6 := Lib.hid (HG5.out.trans hga)
  have HB6 := Lib.hid (HB5.out.grow hga)
  have HI6 := Lib.hid (HI5.out.grow hga)
  have HNM : Hid (nb < w5.heap.size) := Lib.hid HB5.out.lt
  obtain ⟨mb, hmb⟩ : ∃ mb, w5.heap.size = mb := ⟨_, rfl⟩
  have HMB := Lib.hid hmb
  rw [hmb] at HX6 HNM
  have HI5' := HI5
  have hs5 := HI5.out.strs
  have hga' : Below w5.heap.size w5 _ := hga
  have hwm := HG5.out.size
  rw [hmb] at hs5 hga' hwm
  have HS5 := Lib.hid hs5
  have HGA := Lib.hid hga'
  have HWM := Lib.hid hwm
  clear hga hga' hs5 hwm hmb HB5 HI5
  go_upto_region 6 with fail
  rw [HMB.out]
  generalize w5.alloc (.cells #[.string ⟨h.res.toArray⟩, .string ⟨h.left.toArray⟩, .string ⟨h.name.toArray⟩, .string ⟨h.right.toArray⟩, .string ⟨h.f.toArray⟩, .string ⟨h.g.toArray⟩, .slice A n c] 24) = w6 at HX6 HG6 HB6 HI6 HGA ⊢
  clear b0 b1 b2 b3 b4 b5 b6
  have hg7 := grow_new w6 (.cells #[] 9)
  have HO6 : Hid (OwnS w6.heap.size (.slice (some ⟨w6.heap.size, 0, none⟩) 0 0) [] (w6.alloc (.cells #[] 9))) := Lib.hid (ownS_lit w6 [] (by simp))
  have HS6 := Lib.hid (HI6.out.strs.grow hg7)
  have HZ6 : Hid (w6.heap.size ≤ (w6.alloc (.cells #[] 9)).heap.size) := Lib.hid hg7.size
  have HT6 : Hid (([] : List (List UInt8)).length + h.locs.length ≤ 1000000000) := Lib.hid (by have := HFL.out; simp; omega)
  have HT7 : Hid (([] ++ h.locs).length + [s].length ≤ 1000000000) := Lib.hid (by have := HFL.out; simp; omega)
  have HB7 := Lib.hid (HB6.out.grow hg7)
  have hlt6 := HX6.out.lt
  have HLT6 := Lib.hid hlt6
  have HG7 := Lib.hid hg7
  have b6 := HB7.out.at6
  clear hg7 hlt6
  go_upto_region 7 with (at_builtin; first
    | (refine wpList_append_any rfl _ _ rfl w6.heap.size _ [] h.locs A n c rfl HO6.out rfl HI6.out.len HI6.out.none HS6.out HT6.out HZ6.out ?_
       intro v7 w7 HO7 HBL7)
    | (refine wpList_append_any rfl _ _ rfl w6.heap.size v7 ([] ++ h.locs) [s] (some ⟨w7.heap.size, 0, none⟩) 1 1 rfl (HO7.grow (grow_new w7 (.cells #[.string ⟨s.toArray⟩] 9))) rfl rfl (fun e => by cases e) (strs_lit w7 [s]) HT7.out (Nat.le_trans HZ6.out (Nat.le_trans HBL7.size (grow_new w7 (.cells #[.string ⟨s.toArray⟩] 9)).size)) ?_
       intro v8 w8 HO8 HBL8
       have HBB := Lib.hid (show Below w6.heap.size w6 w8 from Below.trans HG7.out (Below.trans HBL7 (Below.trans (Below.mono (grow_new w7 (.cells #[.string ⟨s.toArray⟩] 9)) (Nat.le_trans HZ6.out HBL7.size)) HBL8)))
       obtain ⟨A8, c8, rfl, hcap8, hnone8, hst8, hbs8⟩ := HO8.strs2
       obtain ⟨n8, hn8⟩ : ∃ n8, ([] ++ h.locs ++ [s]).length = n8 := ⟨_, rfl⟩
       rw [hn8] at hcap8 ⊢
       have HN8 := Lib.hid (show (h.locs ++ [s]).length = n8 from hn8)
       have HST8 := Lib.hid (show Strs w8 w8.heap.size A8 (h.locs ++ [s]) from hst8)
       have HCP8 := Lib.hid (show n8 ≤ c8 ∧ (A8 = none → c8 = 0) from ⟨hcap8, hnone8⟩)
       have HNE8 : Hid (∀ p, A8 = some p → p.block ≠ mb) := Lib.hid (fun p e => by have := hbs8 p e; have := HLT6.out; omega)
       clear hn8 hcap8 hnone8 hst8 hbs8
       have HX8 := Lib.hid (HX6.out.below HBB.out HLT6.out)
       have m6 := HX8.out.at6
       have f6 := HX8.out.froz 6
       clear HO8 HBL8 HBL7 HO7))
  generalize hw9 : w8.setCell ⟨mb, 6, none⟩ (.slice A8 n8 c8) = w9
  have HX9 : Hid (BoxH w9 mb { h with locs := h.locs ++ [s] } A8 n8 c8) := Lib.hid (by rw [← hw9]; exact HX8.out.put6 A8 n8 c8 (h.locs ++ [s]))
  have hne : nb ≠ mb := by have := HNM.out; omega
  have hbl : Below mb w6 w9 := by rw [← hw9]; exact Below.setCell (p := ⟨mb, 6, none⟩) (Below.mono HBB.out (Nat.le_of_lt HLT6.out)) (Nat.le_refl _) _
  have HB9 : Hid (BoxH w9 nb h A n c) := Lib.hid (HB6.out.below hbl HNM.out)
  have hG8 : Grow w6 w8 := HBB.out
  have HI9 : Hid (HdIn w9 A n c h) := Lib.hid (HI5'.out.below HS5.out (Below.trans HGA.out hbl) (Nat.le_trans (Nat.le_of_lt HLT6.out) hbl.size))
  have HIX : Hid (HdIn w9 A8 n8 c8 { h with locs := h.locs ++ [s] }) := Lib.hid (by
    have h9 : n8 ≤ 900000 := by have := HFL.out; rw [← HN8.out]; simp; omega
    refine more_in HI6.out (s := s) (by omega) HN8.out HCP8.out.1 h9 HCP8.out.2 ?_
    rw [← hw9, setCell_size]
    exact HST8.out.set HNE8.out _)
  have HG9 : Hid (Grow w w9) := Lib.hid (Below.trans HG6.out (Below.mono hbl HWM.out))
  clear hw9 hne hbl hG8 m6 f6 b6 HO6 HS6 HZ6 HT6 HT7 HB7 HB6 HI6 HX6 HX8 HG7 HBB HST8 HNE8 HI5' HS5 HGA HG6
  have b0 := HB9.out.at0
  have b1 := HB9.out.at1
  have b2 := HB9.out.at2
  have b3 := HB9.out.at3
  have b4 := HB9.out.at4
  have b5 := HB9.out.at5
  have b6 := HB9.out.at6
  have HMR := Lib.hid (more_right HRR.out HSS.out)
  have HMT := Lib.hid (more_text (h := h) (right_ne HSS.out))
  obtain ⟨γ, hγ⟩ : ∃ γ, decide (s = h.res ∨ s = h.left ∨ s = h.name ∨ s = h.right ∨ s = h.f ∨ s = h.g) = γ := ⟨_, rfl⟩
  have HGM := Lib.hid hγ
  have HYES : Hid ((s = h.res ∨ s = h.left ∨ s = h.name ∨ s = h.right ∨ s = h.f ∨ s = h.g) → Value.bool true = .bool γ) := Lib.hid (fun e => by rw [← hγ, decide_eq_true e])
  have HNO : Hid (¬ (s = h.res ∨ s = h.left ∨ s = h.name ∨ s = h.right ∨ s = h.f ∨ s = h.g) → Value.bool false = .bool γ) := Lib.hid (fun e => by rw [← hγ, decide_eq_false e])
  clear hγ
  go_cut [8] (fun z wx => z = .bool γ ∧ w9 = wx)
  case first =>
    by_cases k0 : s = h.res
    · have e0 : (s == h.res) = true := by rw [k0]; simp
      have HE := Lib.hid (HYES.out (.inl k0))
      clear k0
      go_wp2
      go_meet
      case rel => exact ⟨HE.out, rfl⟩
    have e0 : (s == h.res) = false := beq_eq_false_iff_ne.2 k0
    by_cases k1 : s = h.left
    · have e1 : (s == h.left) = true := by rw [k1]; simp
      have HE := Lib.hid (HYES.out (.inr (.inl k1)))
      clear k0 k1
      go_wp2
      go_meet
      case rel => exact ⟨HE.out, rfl⟩
    have e1 : (s == h.left) = false := beq_eq_false_iff_ne.2 k1
    by_cases k2 : s = h.name
    · have e2 : (s == h.name) = true := by rw [k2]; simp
      have HE := Lib.hid (HYES.out (.inr (.inr (.inl k2))))
      clear k0 k1 k2
      go_wp2
      go_meet
      case rel => exact ⟨HE.out, rfl⟩
    have e2 : (s == h.name) = false := beq_eq_false_iff_ne.2 k2
    by_cases k3 : s = h.right
    · have e3 : (s == h.right) = true := by rw [k3]; simp
      have HE := Lib.hid (HYES.out (.inr (.inr (.inr (.inl k3)))))
      clear k0 k1 k2 k3
      go_wp2
      go_meet
      case rel => exact ⟨HE.out, rfl⟩
    have e3 : (s == h.right) = false := beq_eq_false_iff_ne.2 k3
    by_cases k4 : s = h.f
    · have e4 : (s == h.f) = true := by rw [k4]; simp
      have HE := Lib.hid (HYES.out (.inr (.inr (.inr (.inr (.inl k4))))))
      clear k0 k1 k2 k3 k4
      go_wp2
      go_meet
      case rel => exact ⟨HE.out, rfl⟩
    have e4 : (s == h.f) = false := beq_eq_false_iff_ne.2 k4
    by_cases k5 : s = h.g
    · have e5 : (s == h.g) = true := by rw [k5]; simp
      have HE := Lib.hid (HYES.out (.inr (.inr (.inr (.inr (.inr (k5)))))))
      clear k0 k1 k2 k3 k4 k5
      go_wp2
      go_meet
      case rel => exact ⟨HE.out, rfl⟩
    have e5 : (s == h.g) = false := beq_eq_false_iff_ne.2 k5
    have HE := Lib.hid (HNO.out (by rintro (e | e | e | e | e | e) <;> contradiction))
    clear k0 k1 k2 k3 k4 k5
    go_wp2
    go_meet
    case rel => exact ⟨HE.out, rfl⟩
  case rest =>
  obtain ⟨rfl, rfl⟩ := hcut
  clear HYES HNO
  have hn30 : n ≤ 30 := by rw [← HI9.out.len]; exact HFL.out
  go_wp2
  go_loopg [8, 9] n (fun g s8 s9 wr => ∃ (v : Bool) (k : Nat), k ≤ n ∧ g = n - k ∧ s8 = .bool v ∧ s9 = .int .i64 k ∧ Hid (v = (γ || decide (s ∈ h.locs.take k))) ∧ w9 = wr)
  case atStart => exact ⟨γ, 0, Nat.zero_le _, rfl, rfl, rfl, Lib.hid (by simp), rfl⟩
  case round =>
    obtain ⟨v, k, hk, rfl, rfl, rfl, HV, rfl⟩ := hrel
    by_cases hlt : k < n
    · have hkl : k < h.locs.length := by rw [HI9.out.len]; exact hlt
      obtain ⟨b, off, rfl, _, hcl⟩ := HI9.out.strs (by omega)
      have hc := hcl k hkl
      have HST := Lib.hid (mem_step hkl s)
      clear hcl hkl
      generalize h.locs.getD k [] = x at hc HST
      cases v with
      | true =>
        have HN : Hid (true = (γ || decide (s ∈ h.locs.take (k + 1)))) := Lib.hid (by
          have := HV.out
          have h2 := HST.out
          revert this
          cases γ with
          | true => simp
          | false => intro e; simp only [Bool.false_or] at e ⊢; rw [eq_comm, decide_eq_true_iff] at e ⊢; exact h2.2 (.inl e))
        clear HST
        go_wp2
        go_roundg (n - (k + 1))
        case rel => exact ⟨true, k + 1, by omega, rfl, rfl, by go_num, HN, rfl⟩
        case measure => omega
      | false =>
        by_cases hx : s = x
        · have hxb : (s == x) = true := by rw [hx]; simp
          have HN : Hid (true = (γ || decide (s ∈ h.locs.take (k + 1)))) := Lib.hid (by rw [decide_eq_true (HST.out.2 (.inr hx))]; simp)
          subst hx
          clear HST
          go_wp2
          go_roundg (n - (k + 1))
          case rel => exact ⟨true, k + 1, by omega, rfl, rfl, by go_num, HN, rfl⟩
          case measure => omega
        · have hxb : (s == x) = false := beq_eq_false_iff_ne.2 hx
          have HN : Hid (false = (γ || decide (s ∈ h.locs.take (k + 1)))) := Lib.hid (by
            have h1 := HV.out
            have h2 := HST.out
            have e : decide (s ∈ h.locs.take (k + 1)) = decide (s ∈ h.locs.take k) := by
              rw [Bool.eq_iff_iff, decide_eq_true_iff, decide_eq_true_iff, h2]
              exact ⟨fun e => e.elim id (fun e => absurd e hx), .inl⟩
            rw [e]; exact h1)
          clear HST hx
          go_wp2
          go_roundg (n - (k + 1))
          case rel => exact ⟨false, k + 1, by omega, rfl, rfl, by go_num, HN, rfl⟩
          case measure => omega
    · obtain rfl : n = k := by omega
      have HVV : Hid (v = decide (s ∈ allH h)) := Lib.hid (by
        rw [HV.out, List.take_of_length_le (by rw [HI9.out.len]; exact Nat.le_refl _), ← HGM.out, Bool.eq_iff_iff]
        simp only [Bool.or_eq_true, decide_eq_true_iff, allH, List.mem_cons]
        constructor
        · rintro ((e | e | e | e | e | e) | e)
          · exact .inl e
          · exact .inr (.inl e)
          · exact .inr (.inr (.inl e))
          · exact .inr (.inr (.inr (.inl e)))
          · exact .inr (.inr (.inr (.inr (.inl e))))
          · exact .inr (.inr (.inr (.inr (.inr (.inl e)))))
          · exact .inr (.inr (.inr (.inr (.inr (.inr e)))))
        · rintro (e | e | e | e | e | e | e)
          · exact .inl (.inl e)
          · exact .inl (.inr (.inl e))
          · exact .inl (.inr (.inr (.inl e)))
          · exact .inl (.inr (.inr (.inr (.inl e))))
          · exact .inl (.inr (.inr (.inr (.inr (.inl e)))))
          · exact .inl (.inr (.inr (.inr (.inr (.inr e)))))
          · exact .inr e)
      clear HV b0 b1 b2 b3 b4 b5
      have m0 := HX9.out.at0
      have m1 := HX9.out.at1
      have m2 := HX9.out.at2
      have m3 := HX9.out.at3
      have m4 := HX9.out.at4
      have m5 := HX9.out.at5
      have m6 := HX9.out.at6
      dsimp only at m0 m1 m2 m3 m4 m5
      cases v with
      | true =>
        have hr := right_says2 (b := false) (by rw [HMR.out, ← HVV.out]; rfl) HIX.out
        unfold hdV strv at hr
        dsimp only at hr
        have HR := Lib.hid hr
        have HTE : Hid (headD { h with locs := h.locs ++ [s] } = []) := Lib.hid (head_wrong (by rw [HMR.out, ← HVV.out]; rfl))
        clear hr
        go_wp2_with fail
        refine (HR.out).mono ?_
        rintro e w10 ⟨rfl, hg⟩
        have HG10 := Lib.hid (HG9.out.trans hg)
        have HX10 := Lib.hid (HX9.out.grow hg)
        have ht := text_says HTE.out (HIX.out.grow hg)
        unfold hdV strv at ht
        dsimp only at ht
        have HT := Lib.hid ht
        clear hg ht m0 m1 m2 m3 m4 m5 m6 HR
        have m0 := HX10.out.at0
        have m1 := HX10.out.at1
        have m2 := HX10.out.at2
        have m3 := HX10.out.at3
        have m4 := HX10.out.at4
        have m5 := HX10.out.at5
        have m6 := HX10.out.at6
        dsimp only at m0 m1 m2 m3 m4 m5
        go_wp2_with fail
        refine (HT.out).mono ?_
        rintro e w11 ⟨rfl, hg⟩
        have HG11 := Lib.hid (HG10.out.trans hg)
        clear hg m0 m1 m2 m3 m4 m5 m6
        go_wp2
        go_ret
        exact ⟨rfl, HG11.out⟩
      | false =>
        have hr := right_says2 (b := true) (by rw [HMR.out, ← HVV.out]; rfl) HIX.out
        have HRX : Hid (rightH { h with locs := h.locs ++ [s] } = true) := Lib.hid (by rw [HMR.out, ← HVV.out]; rfl)
        obtain ⟨T0, hT0⟩ : ∃ T, headD h = T := ⟨_, rfl⟩
        have hT1 : headD { h with locs := h.locs ++ [s] } = T0 ++ [59] ++ s := by rw [head_right HRX.out, HMT.out, ← hT0, head_right HRR.out]
        have HT0 := Lib.hid hT0
        have HT1 := Lib.hid hT1
        have hlt0 : T0.length ≤ 800000 := by
          have := head_len HFE.out
          have : h.locs.length * (100 + 1) ≤ 30 * 101 := Nat.mul_le_mul HFL.out (Nat.le_refl _)
          rw [hT0] at *
          omega
        have q1 : ¬ 9223372036854775807 < T0.length + 1 := by omega
        have q2 : ¬ 9223372036854775807 < T0.length + 1 + s.length := by omega
        have a1 := str_app T0 [59]
        have a2 := str_app (T0 ++ [59]) s
        have HCR : Hid (∀ W, Grow w9 W → Calls Tryd.prog 12 #[.agg #[.string ⟨h.res.toArray⟩, .string ⟨h.left.toArray⟩, .string ⟨h.name.toArray⟩, .string ⟨h.right.toArray⟩, .string ⟨h.f.toArray⟩, .string ⟨h.g.toArray⟩, .slice A8 n8 c8]] W (Says true W)) := Lib.hid (fun W hW => right_says2 HRX.out (HIX.out.grow hW))
        have HCX : Hid (∀ W, Grow w9 W → Calls Tryd.prog 14 #[.agg #[.string ⟨h.res.toArray⟩, .string ⟨h.left.toArray⟩, .string ⟨h.name.toArray⟩, .string ⟨h.right.toArray⟩, .string ⟨h.f.toArray⟩, .string ⟨h.g.toArray⟩, .slice A8 n8 c8]] W (Gave (T0 ++ [59] ++ s) W)) := Lib.hid (fun W hW => text_says HT1.out (HIX.out.grow hW))
        have HCH : Hid (∀ W, Grow w9 W → Calls Tryd.prog 14 #[.agg #[.string ⟨h.res.toArray⟩, .string ⟨h.left.toArray⟩, .string ⟨h.name.toArray⟩, .string ⟨h.right.toArray⟩, .string ⟨h.f.toArray⟩, .string ⟨h.g.toArray⟩, .slice A n c]] W (Gave T0 W)) := Lib.hid (fun W hW => text_says HT0.out (HI9.out.grow hW))
        clear hr hT0 hT1 m0 m1 m2 m3 m4 m5 m6 hlt0
        go_upto_region 14 with fail
        clear b6
        refine wp_region_R Grow (n := 16) rfl (by kernel_rfl) ?_
        intro W0 hW0e hW0
        have HW0 : Hid (Grow w9 W0) := Lib.hid hW0
        have p0 : ∀ wg, Grow W0 wg → wg.cell? ⟨mb, 0, none⟩ = some (.string ⟨h.res.toArray⟩) := fun wg hh => (HX9.out.grow (HW0.out.trans hh)).at0
        have p1 : ∀ wg, Grow W0 wg → wg.cell? ⟨mb, 1, none⟩ = some (.string ⟨h.left.toArray⟩) := fun wg hh => (HX9.out.grow (HW0.out.trans hh)).at1
        have p2 : ∀ wg, Grow W0 wg → wg.cell? ⟨mb, 2, none⟩ = some (.string ⟨h.name.toArray⟩) := fun wg hh => (HX9.out.grow (HW0.out.trans hh)).at2
        have p3 : ∀ wg, Grow W0 wg → wg.cell? ⟨mb, 3, none⟩ = some (.string ⟨h.right.toArray⟩) := fun wg hh => (HX9.out.grow (HW0.out.trans hh)).at3
        have p4 : ∀ wg, Grow W0 wg → wg.cell? ⟨mb, 4, none⟩ = some (.string ⟨h.f.toArray⟩) := fun wg hh => (HX9.out.grow (HW0.out.trans hh)).at4
        have p5 : ∀ wg, Grow W0 wg → wg.cell? ⟨mb, 5, none⟩ = some (.string ⟨h.g.toArray⟩) := fun wg hh => (HX9.out.grow (HW0.out.trans hh)).at5
        have p6 : ∀ wg, Grow W0 wg → wg.cell? ⟨mb, 6, none⟩ = some (.slice A8 n8 c8) := fun wg hh => (HX9.out.grow (HW0.out.trans hh)).at6
        clear hW0e
        refine wpR_take growOrd (i := 0) (v := ?vf1) rfl (by kernel_rfl) (by kernel_rfl) (by kernel_rfl) (fun _ _ _ h => h) (by rfl) ?hf1 ?rf1
        case hf1 => (intro wg hSw; go_simp <;> with_reducible rfl)
        simp only [Act.put, List.setIfInBounds_toArray, List.set_cons_zero, List.set_cons_succ]
        refine wpR_take growOrd (i := 1) (v := ?vf2) rfl (by kernel_rfl) (by kernel_rfl) (by kernel_rfl) (fun _ _ _ h => h) (by rfl) ?hf2 ?rf2
        case hf2 => (intro wg hSw; go_simp <;> with_reducible rfl)
        simp only [Act.put, List.setIfInBounds_toArray, List.set_cons_zero, List.set_cons_succ]
        refine wpR_take growOrd (i := 2) (v := ?vf3) rfl (by kernel_rfl) (by kernel_rfl) (by kernel_rfl) (fun _ _ _ h => h) (by rfl) ?hf3 ?rf3
        case hf3 => (intro wg hSw; go_simp <;> with_reducible rfl)
        simp only [Act.put, List.setIfInBounds_toArray, List.set_cons_zero, List.set_cons_succ]
        refine wpR_one (i := 3) (by kernel_rfl) ?_
        refine wpR_op (i := 3) rfl (by rfl) (fun K hK => ?_)
        go_simp
        refine (HCR.out W0 (HW0.out.trans (Grow.refl W0))).mono ?_
        rintro e wM3 ⟨rfl, hM3⟩
        have HM3 : Hid (Grow w9 wM3) := Lib.hid ((HW0.out.trans (Grow.refl W0)).trans hM3)
        clear p0 p1 p2 p3 p4 p5 p6
        have p0 : ∀ wg, Grow wM3 wg → wg.cell? ⟨mb, 0, none⟩ = some (.string ⟨h.res.toArray⟩) := fun wg hh => (HX9.out.grow (HM3.out.trans hh)).at0
        have p1 : ∀ wg, Grow wM3 wg → wg.cell? ⟨mb, 1, none⟩ = some (.string ⟨h.left.toArray⟩) := fun wg hh => (HX9.out.grow (HM3.out.trans hh)).at1
        have p2 : ∀ wg, Grow wM3 wg → wg.cell? ⟨mb, 2, none⟩ = some (.string ⟨h.name.toArray⟩) := fun wg hh => (HX9.out.grow (HM3.out.trans hh)).at2
        have p3 : ∀ wg, Grow wM3 wg → wg.cell? ⟨mb, 3, none⟩ = some (.string ⟨h.right.toArray⟩) := fun wg hh => (HX9.out.grow (HM3.out.trans hh)).at3
        have p4 : ∀ wg, Grow wM3 wg → wg.cell? ⟨mb, 4, none⟩ = some (.string ⟨h.f.toArray⟩) := fun wg hh => (HX9.out.grow (HM3.out.trans hh)).at4
        have p5 : ∀ wg, Grow wM3 wg → wg.cell? ⟨mb, 5, none⟩ = some (.string ⟨h.g.toArray⟩) := fun wg hh => (HX9.out.grow (HM3.out.trans hh)).at5
        have p6 : ∀ wg, Grow wM3 wg → wg.cell? ⟨mb, 6, none⟩ = some (.slice A8 n8 c8) := fun wg hh => (HX9.out.grow (HM3.out.trans hh)).at6
        have r0 : ∀ wg, Grow wM3 wg → wg.cell? ⟨nb, 0, none⟩ = some (.string ⟨h.res.toArray⟩) := fun wg hh => (HB9.out.grow (HM3.out.trans hh)).at0
        have r1 : ∀ wg, Grow wM3 wg → wg.cell? ⟨nb, 1, none⟩ = some (.string ⟨h.left.toArray⟩) := fun wg hh => (HB9.out.grow (HM3.out.trans hh)).at1
        have r2 : ∀ wg, Grow wM3 wg → wg.cell? ⟨nb, 2, none⟩ = some (.string ⟨h.name.toArray⟩) := fun wg hh => (HB9.out.grow (HM3.out.trans hh)).at2
        have r3 : ∀ wg, Grow wM3 wg → wg.cell? ⟨nb, 3, none⟩ = some (.string ⟨h.right.toArray⟩) := fun wg hh => (HB9.out.grow (HM3.out.trans hh)).at3
        have r4 : ∀ wg, Grow wM3 wg → wg.cell? ⟨nb, 4, none⟩ = some (.string ⟨h.f.toArray⟩) := fun wg hh => (HB9.out.grow (HM3.out.trans hh)).at4
        have r5 : ∀ wg, Grow wM3 wg → wg.cell? ⟨nb, 5, none⟩ = some (.string ⟨h.g.toArray⟩) := fun wg hh => (HB9.out.grow (HM3.out.trans hh)).at5
        have r6 : ∀ wg, Grow wM3 wg → wg.cell? ⟨nb, 6, none⟩ = some (.slice A n c) := fun wg hh => (HB9.out.grow (HM3.out.trans hh)).at6
        refine hK.out _ _ hM3 ?_
        clear hK K
        try simp only [Act.put, List.setIfInBounds_toArray, List.set_cons_zero, List.set_cons_succ]
        refine wpR_take growOrd (i := 4) (v := ?vf4) rfl (by kernel_rfl) (by kernel_rfl) (by kernel_rfl) (fun _ _ _ h => h) (by rfl) ?hf4 ?rf4
        case hf4 => (intro wg hSw; go_simp <;> with_reducible rfl)
        simp only [Act.put, List.setIfInBounds_toArray, List.set_cons_zero, List.set_cons_succ]
        refine wpR_take growOrd (i := 5) (v := ?vf5) rfl (by kernel_rfl) (by kernel_rfl) (by kernel_rfl) (fun _ _ _ h => h) (by rfl) ?hf5 ?rf5
        case hf5 => (intro wg hSw; go_simp <;> with_reducible rfl)
        simp only [Act.put, List.setIfInBounds_toArray, List.set_cons_zero, List.set_cons_succ]
        refine wpR_take growOrd (i := 6) (v := ?vf6) rfl (by kernel_rfl) (by kernel_rfl) (by kernel_rfl) (fun _ _ _ h => h) (by rfl) ?hf6 ?rf6
        case hf6 => (intro wg hSw; go_simp <;> with_reducible rfl)
        simp only [Act.put, List.setIfInBounds_toArray, List.set_cons_zero, List.set_cons_succ]
        refine wpR_take growOrd (i := 8) (v := ?vf7) rfl (by kernel_rfl) (by kernel_rfl) (by kernel_rfl) (fun _ _ _ h => h) (by rfl) ?hf7 ?rf7
        case hf7 => (intro wg hSw; go_simp <;> with_reducible rfl)
        simp only [Act.put, List.setIfInBounds_toArray, List.set_cons_zero, List.set_cons_succ]
        refine wpR_take growOrd (i := 11) (v := ?vf8) rfl (by kernel_rfl) (by kernel_rfl) (by kernel_rfl) (fun _ _ _ h => h) (by rfl) ?hf8 ?rf8
        case hf8 => (intro wg hSw; go_simp <;> with_reducible rfl)
        simp only [Act.put, List.setIfInBounds_toArray, List.set_cons_zero, List.set_cons_succ]
        refine wpR_one (i := 7) (by kernel_rfl) ?_
        refine wpR_op (i := 7) rfl (by rfl) (fun K hK => ?_)
        go_simp
        refine (HCX.out wM3 (HW0.out.trans (Grow.trans (Grow.refl W0) hM3))).mono ?_
        rintro e wM7 ⟨rfl, hM7⟩
        refine hK.out _ _ hM7 ?_
        clear hK K
        try simp only [Act.put, List.setIfInBounds_toArray, List.set_cons_zero, List.set_cons_succ]
        refine wpR_one (i := 9) (by kernel_rfl) ?_
        refine wpR_op (i := 9) rfl (by rfl) (fun K hK => ?_)
        go_simp
        refine (HCH.out wM7 (HW0.out.trans (Grow.trans (Grow.trans (Grow.refl W0) hM3) hM7))).mono ?_
        rintro e wM9 ⟨rfl, hM9⟩
        refine hK.out _ _ hM9 ?_
        clear hK K
        try simp only [Act.put, List.setIfInBounds_toArray, List.set_cons_zero, List.set_cons_succ]
        refine wpR_take growOrd (i := 10) (v := ?vf9) rfl (by kernel_rfl) (by kernel_rfl) (by kernel_rfl) (fun _ _ _ h => h) (by rfl) ?hf9 ?rf9
        case hf9 => (intro wg hSw; go_simp <;> with_reducible rfl)
        simp only [Act.put, List.setIfInBounds_toArray, List.set_cons_zero, List.set_cons_succ]
        refine wpR_take growOrd (i := 12) (v := ?vf10) rfl (by kernel_rfl) (by kernel_rfl) (by kernel_rfl) (fun _ _ _ h => h) (by rfl) ?hf10 ?rf10
        case hf10 => (intro wg hSw; go_simp <;> with_reducible rfl)
        simp only [Act.put, List.setIfInBounds_toArray, List.set_cons_zero, List.set_cons_succ]
        refine wpR_take growOrd (i := 13) (v := ?vf11) rfl (by kernel_rfl) (by kernel_rfl) (by kernel_rfl) (fun _ _ _ h => h) (by rfl) ?hf11 ?rf11
        case hf11 => (intro wg hSw; go_simp <;> with_reducible rfl)
        simp only [Act.put, List.setIfInBounds_toArray, List.set_cons_zero, List.set_cons_succ]
        refine wpR_take growOrd (i := 14) (v := ?vf12) rfl (by kernel_rfl) (by kernel_rfl) (by kernel_rfl) (fun _ _ _ h => h) (by rfl) ?hf12 ?rf12
        case hf12 => (intro wg hSw; go_simp <;> with_reducible rfl)
        simp only [Act.put, List.setIfInBounds_toArray, List.set_cons_zero, List.set_cons_succ]
        refine wpR_take growOrd (i := 15) (v := ?vf13) rfl (by kernel_rfl) (by kernel_rfl) (by kernel_rfl) (fun _ _ _ h => h) (by rfl) ?hf13 ?rf13
        case hf13 => (intro wg hSw; go_simp <;> with_reducible rfl)
        simp only [Act.put, List.setIfInBounds_toArray, List.set_cons_zero, List.set_cons_succ]
        refine wpR_done (by kernel_rfl) ?_
        have HGT := Lib.hid (HG9.out.trans (HW0.out.trans (Grow.trans (Grow.trans (Grow.trans (Grow.refl W0) hM3) hM7) hM9)))
        go_wp2
        go_ret
        exact ⟨rfl, HGT.out⟩
end Go.Proofs.YtibcnekkmnicbaaDoor
