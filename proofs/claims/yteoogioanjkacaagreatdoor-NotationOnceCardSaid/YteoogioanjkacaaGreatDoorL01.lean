/-
  Contracts, joined: LOnce, LBack. Nothing is claimed here by itself.
-/
import Derived.Test.YteoogioanjkacaaGreatDoorK11
namespace Go.Proofs.YteoogioanjkacaaGreatDoor
set_option maxRecDepth 20000
open Go.RowKit Go.Lib
set_option linter.unusedSimpArgs false
set_option linter.unusedVariables false
theorem parse_slim {s : List UInt8} {a : List Nd} (hs : s.length ≤ 100000) (h : parseN s = some a) : Fine a ∧ Slim a := by
  refine ⟨parse_fine hs h, ?_⟩
  unfold parseN at h
  cases hq : readR 16 s with
  | none => rw [hq] at h; cases h
  | some p =>
    rw [hq, Option.bind_some] at h
    split at h
    · cases h
      exact (readR_took 16 s p.1 p.2 hs hq).2.2.2
    · cases h
theorem parse_ne {s : List UInt8} {a : List Nd} (h : parseN s = some a) : s ≠ [] := by
  rintro rfl
  rw [empty_none] at h
  cases h
/-- what is read may be handed on -/
theorem parse_all {s : List UInt8} {a : List Nd} (hs : s.length ≤ 100000) (h : parseN s = some a) : Fine a ∧ Slim a ∧ rightA a = true ∧ formA a = a ∧ noteA a = s ∧ noteT a = s := by
  obtain ⟨h1, h2⟩ := parse_slim hs h
  obtain ⟨h3, h4, h5⟩ := parse_some h (parse_ne h)
  exact ⟨h1, h2, h3, h4, h5, by unfold noteT; rw [if_pos ⟨h3, h4⟩]; exact h5⟩
set_option maxHeartbeats 6400000 in
theorem lonce_walk (l : List UInt8) (w : World) (hL : LaidN w) (hl : l.length ≤ 9223372036854775807) :
    Calls Tryz.prog 5 #[.string ⟨l.toArray⟩] w (Says true w) := by
  have HS := Lib.hid (fun W h => small_any W h)
  have HL := Lib.hid hL
  clear hL
  have hsz : (⟨l.toArray⟩ : ByteArray).size = l.length := by simp [ByteArray.size]
  by_cases k2 : 500 < l.length
  · have k2i : ((500 : Int) < ((l.length : Nat) : Int)) := by omega
    generalize (⟨l.toArray⟩ : ByteArray) = S at *
    go_enter Tryz.func5, Tryz.ntmps5
    go_wp2_with fail
    refine (HS.out _ HL.out).mono ?_
    rintro x w1 ⟨rfl, hg⟩
    have HG1 := Lib.hid hg
    clear hg HS
    go_wp2
    go_ret
    exact ⟨rfl, HG1.out⟩
  have k2i : ¬ ((500 : Int) < ((l.length : Nat) : Int)) := by omega
  have HP := Lib.hid (fun W hW => pparse_any l (by omega) W hW)
  cases hq : parseN l with
  | none =>
    rw [hq] at HP
    clear hq k2 hl
    generalize (⟨l.toArray⟩ : ByteArray) = S at *
    go_enter Tryz.func5, Tryz.ntmps5
    go_wp2_with fail
    refine (HS.out _ HL.out).mono ?_
    rintro x w1 ⟨rfl, hg⟩
    have HG1 := Lib.hid hg
    clear hg HS
    go_wp2_with fail
    refine (HP.out _ (HL.out.grow HG1.out)).mono ?_
    rintro x w2 ⟨hg2, rfl⟩
    have HG2 := Lib.hid (HG1.out.trans hg2)
    clear hg2 HP
    go_wp2
    go_ret
    exact ⟨rfl, HG2.out⟩
  | some a =>
    obtain ⟨k1, k3, k4, k5, k6, k7⟩ := parse_all (by omega) hq
    rw [hq] at HP
    have HTR := Lib.hid (fun A n c W (h1 : a.length = n) h2 h3 => tright_any A n c a W h1 h2 k1 (ws_few a) h3)
    rw [k4, show decide (a = formA a) = true by rw [k5]; simp] at HTR
    have HTX := Lib.hid (fun A n c W (h1 : a.length = n) h2 h3 h4 => ptext_any A n c a W h1 h2 k1 k3 h3 h4)
    rw [k7] at HTX
    obtain ⟨S, hS⟩ : ∃ S, (⟨l.toArray⟩ : ByteArray) = S := ⟨_, rfl⟩
    have hst := text_eq hS (rfl : l = l)
    rw [hS] at hsz HP ⊢
    obtain ⟨n, hn⟩ : ∃ n, a.length = n := ⟨_, rfl⟩
    have HN := Lib.hid hn
    clear hq k2 hl k1 k3 k4 k5 k6 k7 hn
    go_enter Tryz.func5, Tryz.ntmps5
    go_wp2_with fail
    refine (HS.out _ HL.out).mono ?_
    rintro x w1 ⟨rfl, hg⟩
    have HG1 := Lib.hid hg
    clear hg HS
    go_wp2_with fail
    refine (HP.out _ (HL.out.grow HG1.out)).mono ?_
    rintro x w2 ⟨hg2, A, c, rfl, hc, hns⟩
    have HG2 := Lib.hid (HG1.out.trans hg2)
    have HNS := Lib.hid hns.nodes
    rw [HN.out] at hc
    simp only [HN.out]
    clear hg2 HP hns
    go_wp2_with fail
    refine (HTR.out A n c _ HN.out hc HNS.out).mono ?_
    rintro x w3 ⟨rfl, hg3⟩
    have HG3 := Lib.hid (HG2.out.trans hg3)
    have HNS3 := Lib.hid (HNS.out.grow hg3)
    clear hg3 HTR
    go_wp2_with fail
    refine (HTX.out A n c _ HN.out hc HNS3.out (HL.out.grow HG3.out)).mono ?_
    rintro x w4 ⟨rfl, hg4⟩
    have HG4 := Lib.hid (HG3.out.trans hg4)
    clear hg4 HTX
    go_wp2
    go_ret
    exact ⟨rfl, HG4.out⟩
end Go.Proofs.YteoogioanjkacaaGreatDoor
namespace Go.Proofs.YteoogioanjkacaaGreatDoor
set_option maxRecDepth 20000
open Go.RowKit Go.Lib
set_option linter.unusedSimpArgs false
set_option linter.unusedVariables false
set_option maxHeartbeats 6400000 in
theorem lback_walk (A : Option Addr) (n c : Nat) (xs : List Nd) (w : World) (hx : IsNodes w A n c xs) (hL : LaidN w) :
    Calls Tryz.prog 4 #[.slice A n c] w (Says true w) := by
  have HX := Lib.hid hx
  have HL := Lib.hid hL
  clear hx hL
  go_enter Tryz.func4, Tryz.ntmps4
  go_wp2_with fail
  refine (small_any _ HL.out).mono ?_
  rintro e w1 ⟨rfl, hg1⟩
  have HG1 := Lib.hid hg1
  clear hg1
  go_wp2_with fail
  refine (few_any A n c xs w _ HX.out HG1.out).mono ?_
  rintro e w2 ⟨rfl, hg2⟩
  have HG2 := Lib.hid (HG1.out.trans hg2)
  clear hg2 HG1
  cases hfx : fewB xs with
  | false =>
    go_wp2
    go_ret
    exact ⟨rfl, HG2.out⟩
  | true =>
    obtain ⟨hfine, hslim, hn100⟩ := few_fine HX.out hfx
    have HN := Lib.hid HX.out.1
    have hnc : n ≤ c := HX.out.2.1
    have HNA := Lib.hid (HX.out.2.2.2.1.grow HG2.out)
    have HTX := Lib.hid (ptext_any A n c xs w2 HN.out hnc hfine hslim HNA.out (HL.out.grow HG2.out))
    have HTR := Lib.hid (fun W h => tright_any A n c xs W HN.out hnc hfine (ws_few xs) h)
    by_cases ht : rightA xs = true ∧ formA xs = xs
    · have hnt : noteT xs = noteA xs := by unfold noteT; rw [if_pos ht]
      rw [hnt] at HTX
      rw [tight_yes ht] at HTR
      have hne : ((noteA xs) == ([] : List UInt8)) = false := by rw [beq_eq_false_iff_ne]; exact note_ne ht.1 hfine ht.2
      have HP := Lib.hid (fun W hW => pparse_any (noteA xs) (few_text hfx hfine ht.1 ht.2) W hW)
      rw [parse_back ht.1 hfine ht.2] at HP
      have HSM := Lib.hid (fun A' c' W h1 h2 => rsame_says (xs := xs) (ys := xs) (by simp) A A' n n c c' W HN.out HN.out hfine hfine h1 h2)
      clear HX hfx hfine hslim ht hnt
      generalize noteA xs = T at *
      go_wp2_with fail
      refine (HTX.out).mono ?_
      rintro e w3 ⟨rfl, hg3⟩
      have HG3 := Lib.hid (HG2.out.trans hg3)
      have HNA3 := Lib.hid (HNA.out.grow hg3)
      clear hg3 HTX HNA
      go_wp2_with fail
      refine (HP.out _ (HL.out.grow HG3.out)).mono ?_
      rintro e w4 ⟨hg4, A', c', rfl, _, hns⟩
      have HG4 := Lib.hid (HG3.out.trans hg4)
      have HNA4 := Lib.hid (HNA3.out.grow hg4)
      have HNB4 := Lib.hid hns.nodes
      simp only [HN.out]
      clear hg4 HP HNA3 hns
      go_wp2_with fail
      refine (HTR.out _ HNA4.out).mono ?_
      rintro e w5 ⟨rfl, hg5⟩
      have HG5 := Lib.hid (HG4.out.trans hg5)
      have HNA5 := Lib.hid (HNA4.out.grow hg5)
      have HNB5 := Lib.hid (HNB4.out.grow hg5)
      clear hg5 HTR HNA4 HNB4
      go_wp2_with fail
      refine (HSM.out A' c' _ HNA5.out HNB5.out).mono ?_
      rintro e w6 ⟨rfl, hg6⟩
      have HG6 := Lib.hid (HG5.out.trans hg6)
      clear hg6 HSM
      go_wp2
      go_ret
      exact ⟨rfl, HG6.out⟩
    · have hnt : noteT xs = [] := by unfold noteT; rw [if_neg ht]
      rw [hnt] at HTX
      rw [tight_no ht] at HTR
      have HP := Lib.hid (fun W hW => pparse_any [] (by decide) W hW)
      rw [empty_none] at HP
      clear HX hfx hfine hslim ht hnt
      go_wp2_with fail
      refine (HTX.out).mono ?_
      rintro e w3 ⟨rfl, hg3⟩
      have HG3 := Lib.hid (HG2.out.trans hg3)
      have HNA3 := Lib.hid (HNA.out.grow hg3)
      clear hg3 HTX HNA
      go_wp2_with fail
      refine (HP.out _ (HL.out.grow HG3.out)).mono ?_
      rintro e w4 ⟨hg4, rfl⟩
      have HG4 := Lib.hid (HG3.out.trans hg4)
      have HNA4 := Lib.hid (HNA3.out.grow hg4)
      clear hg4 HP HNA3
      go_wp2_with fail
      refine (HTR.out _ HNA4.out).mono ?_
      rintro e w5 ⟨rfl, hg5⟩
      have HG5 := Lib.hid (HG4.out.trans hg5)
      clear hg5 HTR HNA4
      go_wp2
      go_ret
      exact ⟨rfl, HG5.out⟩
end Go.Proofs.YteoogioanjkacaaGreatDoor
