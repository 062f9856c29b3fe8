/-
  What the document's own Right comes to, called with any head. Nothing is claimed here by itself.
-/
import Derived.Test.YtcnijmmpkahoaaaDoorRSame
import Derived.Test.YtcnijmmpkahoaaaDoorRTakes
import Derived.Test.YtcnijmmpkahoaaaDoorRUnlikes
import Derived.Deep.CutBlock
import Derived.Deep.DeepCutAuto
namespace Go.Proofs.YtcnijmmpkahoaaaDoor
open Go.RowKit Go.Lib
set_option linter.unusedSimpArgs false
set_option linter.unusedVariables false
set_option maxRecDepth 10000

/-- a name that stands at this place may be this text -/
def okI (i : Nat) (x : List UInt8) : Bool := rightD x || (x.isEmpty && !(i == 2) && !(decide (5 < i)))
theorem ok_all {h : Hd} (H : ∀ j, j < (allH h).length → okI j ((allH h).getD j []) = true) : rightD h.name = true ∧ (mayH h).all mayD = true ∧ h.locs.all rightD = true := by
  have hl : (allH h).length = h.locs.length + 6 := rfl
  have e0 := H 0 (by omega)
  have e1 := H 1 (by omega)
  have e2 := H 2 (by omega)
  have e3 := H 3 (by omega)
  have e4 := H 4 (by omega)
  have e5 := H 5 (by omega)
  simp only [okI, allH, List.getD_cons_zero, List.getD_cons_succ] at e0 e1 e2 e3 e4 e5
  simp at e0 e1 e2 e3 e4 e5
  refine ⟨e2, ?_, ?_⟩
  · simp only [mayH, List.all_cons, List.all_nil, Bool.and_true, Bool.and_eq_true, mayD, Bool.or_eq_true, List.isEmpty_iff]
    exact ⟨e0.symm, e1.symm, e3.symm, e4.symm, e5.symm⟩
  · rw [List.all_eq_true]
    intro x hx
    obtain ⟨i, hi, e⟩ := List.mem_iff_getElem.1 hx
    have h6 := H (i + 6) (by omega)
    have eg : (allH h).getD (i + 6) [] = x := by
      show (h.locs).getD i [] = x
      simp [List.getD, hi, e]
    rw [eg] at h6
    unfold okI at h6
    simp at h6
    exact h6
theorem ok_at {h : Hd} (h1 : rightD h.name = true) (h2 : (mayH h).all mayD = true) (h3 : h.locs.all rightD = true) : ∀ j, j < (allH h).length → okI j ((allH h).getD j []) = true := by
  simp only [mayH, List.all_cons, List.all_nil, Bool.and_true, Bool.and_eq_true, mayD, Bool.or_eq_true, List.isEmpty_iff] at h2
  obtain ⟨m0, m1, m3, m4, m5⟩ := h2
  intro j hj
  match j, hj with
  | 0, _ => simp only [okI, allH, List.getD_cons_zero]; simp; exact m0.symm
  | 1, _ => simp only [okI, allH, List.getD_cons_zero, List.getD_cons_succ]; simp; exact m1.symm
  | 2, _ => simp only [okI, allH, List.getD_cons_zero, List.getD_cons_succ]; simp; exact h1
  | 3, _ => simp only [okI, allH, List.getD_cons_zero, List.getD_cons_succ]; simp; exact m3.symm
  | 4, _ => simp only [okI, allH, List.getD_cons_zero, List.getD_cons_succ]; simp; exact m4.symm
  | 5, _ => simp only [okI, allH, List.getD_cons_zero, List.getD_cons_succ]; simp; exact m5.symm
  | i + 6, hj =>
    have hi : i < h.locs.length := by simp [allH] at hj; omega
    have e : (allH h).getD (i + 6) [] = h.locs[i] := by
      show (h.locs).getD i [] = _
      simp [List.getD, hi]
    rw [e]
    unfold okI
    rw [List.all_eq_true.1 h3 _ (List.getElem_mem hi)]
    rfl
theorem ok_bad {h : Hd} {j : Nat} (hj : j < (allH h).length) (hb : okI j ((allH h).getD j []) = false) : rightH h = false := by
  rw [Bool.eq_false_iff]
  intro hr
  obtain ⟨k1, k2, k3, _⟩ := right_parts hr
  rw [ok_at k1 k2 k3 j hj] at hb
  cases hb
theorem ok_good {h : Hd} (H : ∀ j, j < (allH h).length → okI j ((allH h).getD j []) = true) : rightH h = (unlB (allH h) && !(shapeR h || shapeG h)) := by
  obtain ⟨k1, k2, k3⟩ := ok_all H
  unfold rightH
  rw [k1, k2, k3]
  simp

set_option maxHeartbeats 6400000 in
theorem rrightH_any (h : Hd) (A : Option Addr) (n c : Nat) (w : World) (k : HdIn w A n c h) :
    Calls Tryd.prog 83 #[hdV h A n c] w (Says (rightH h) w) := by
  obtain ⟨γ, hγ⟩ : ∃ γ, rightH h = γ := ⟨_, rfl⟩
  rw [hγ]
  have HBAD : Hid (∀ j, j < (allH h).length → okI j ((allH h).getD j []) = false → γ = false) := Lib.hid (fun j hj hb => by rw [← hγ]; exact ok_bad hj hb)
  have HGOOD : Hid ((∀ j, j < (allH h).length → okI j ((allH h).getD j []) = true) → γ = (unlB (allH h) && !(shapeR h || shapeG h))) := Lib.hid (fun H => by rw [← hγ]; exact ok_good H)
  clear hγ
  have hg1 := grow_new w (.cells #[.string ⟨h.res.toArray⟩, .string ⟨h.left.toArray⟩, .string ⟨h.name.toArray⟩, .string ⟨h.right.toArray⟩, .string ⟨h.f.toArray⟩, .string ⟨h.g.toArray⟩, .slice A n c] 33)
  have HG1 := Lib.hid hg1
  have HB1 := Lib.hid (boxH_new w h A n c)
  have HK1 := Lib.hid (k.grow hg1)
  obtain ⟨nb, hnb⟩ : ∃ nb, w.heap.size = nb := ⟨_, rfl⟩
  have HNB := Lib.hid hnb
  rw [hnb] at HB1
  unfold hdV strv
  clear k hg1 hnb
  go_enter Tryd.func83, Tryd.ntmps83
  go_upto_region 1 with fail
  rw [HNB.out]
  generalize w.alloc (.cells #[.string ⟨h.res.toArray⟩, .string ⟨h.left.toArray⟩, .string ⟨h.name.toArray⟩, .string ⟨h.right.toArray⟩, .string ⟨h.f.toArray⟩, .string ⟨h.g.toArray⟩, .slice A n c] 33) = w1 at HG1 HB1 HK1 ⊢
  have b0 := HB1.out.at0
  have b1 := HB1.out.at1
  have b2 := HB1.out.at2
  have b3 := HB1.out.at3
  have b4 := HB1.out.at4
  have b5 := HB1.out.at5
  have b6 := HB1.out.at6
  have ha := rall_any h A n c w1 HK1.out
  unfold hdV strv at ha
  have HALL := Lib.hid ha
  clear ha
  go_wp2_with fail
  refine (HALL.out).mono ?_
  rintro e w2 ⟨A2, m, c2, rfl, hlm, hst, hg⟩
  have HG2 := Lib.hid (HG1.out.trans hg)
  have HB2 := Lib.hid (HB1.out.grow hg)
  have HS2 := Lib.hid hst
  have HL2 := Lib.hid hlm
  have HEA : Hid (∀ x ∈ allH h, x.length ≤ 1100000) := Lib.hid HK1.out.each
  have hm : m ≤ 1100000 := by
    rw [← hlm]
    have := HK1.out.len
    have := HK1.out.top
    simp only [allH, List.length_cons]
    omega
  clear hg hst hlm b0 b1 b2 b3 b4 b5 b6 HB1 HK1 HALL
  go_wp2
  go_loopg [4] m (fun g s4 wr => ∃ k : Nat, k ≤ m ∧ g = m - k ∧ s4 = .int .i64 k ∧ Hid (∀ j, j < k → okI j ((allH h).getD j []) = true) ∧ Hid (Grow w2 wr))
  case atStart => exact ⟨0, Nat.zero_le _, rfl, rfl, Lib.hid (fun j hj => by omega), Lib.hid (Grow.refl _)⟩
  case round =>
    obtain ⟨k, hk, rfl, rfl, HE, HG⟩ := hrel
    by_cases hlt : k < m
    · have hkl : k < (allH h).length := by rw [HL2.out]; exact hlt
      obtain ⟨b, off, rfl, hb, hcl⟩ := HS2.out.grow HG.out (by omega)
      have hc := hcl k hkl
      have hxl := getD_len HEA.out k
      have HYES : Hid (okI k ((allH h).getD k []) = true → ∀ j, j < k + 1 → okI j ((allH h).getD j []) = true) := Lib.hid (fun e j hj => by
        by_cases hjk : j = k
        · rw [hjk]; exact e
        · exact HE.out j (by omega))
      have HNO := Lib.hid (HBAD.out k hkl)
      have HCC := Lib.hid hc
      have HBL := Lib.hid hb
      clear hcl hkl hb
      generalize (allH h).getD k [] = x at hc hxl HYES HNO HCC
      obtain ⟨ρ, hρ⟩ : ∃ ρ, rightD x = ρ := ⟨_, rfl⟩
      have hcall := rright_any x wr hxl
      rw [hρ] at hcall
      have HC := Lib.hid hcall
      have HR := Lib.hid hρ
      clear hcall hρ
      cases ρ with
      | true =>
        have HN := Lib.hid (HYES.out (by unfold okI; rw [HR.out]; rfl))
        clear HYES HNO
        go_wp2_with fail
        refine (HC.out).mono ?_
        rintro e w3 ⟨rfl, hg⟩
        have HG3 := Lib.hid (HG.out.trans hg)
        clear hg hc
        go_wp2
        go_roundg (m - (k + 1))
        case rel => exact ⟨k + 1, by omega, rfl, by go_num, HN, HG3⟩
        case measure => omega
      | false =>
        go_wp2_with fail
        refine (HC.out).mono ?_
        rintro e w3 ⟨rfl, hg⟩
        have HG3 := Lib.hid (HG.out.trans hg)
        have hc3 := (hg.cell HBL.out).trans HCC.out
        clear hg hc
        by_cases hx0 : x = []
        · subst hx0
          by_cases k2 : k = 2
          · have HF := Lib.hid (HNO.out (by unfold okI; rw [HR.out, k2]; rfl))
            have q2 : (((k : Nat) : Int) == 2) = true := by rw [beq_iff_eq]; omega
            have q2n : (k == 2) = true := by rw [beq_iff_eq]; exact k2
            clear HYES HNO k2
            go_wp2
            go_ret
            exact ⟨by rw [HF.out]; rfl, HG2.out.trans HG3.out⟩
          · have q2 : (((k : Nat) : Int) == 2) = false := by rw [beq_eq_false_iff_ne]; omega
            have q2n : (k == 2) = false := by rw [beq_eq_false_iff_ne]; exact k2
            by_cases k5 : 5 < k
            · have HF := Lib.hid (HNO.out (by unfold okI; rw [HR.out, decide_eq_true k5]; simp))
              have q5 : decide ((5 : Int) < ((k : Nat) : Int)) = true := by rw [decide_eq_true_iff]; omega
              have q5n : decide (5 < k) = true := by rw [decide_eq_true_iff]; omega
              clear HYES HNO k2 k5
              go_wp2
              go_ret
              exact ⟨by rw [HF.out]; rfl, HG2.out.trans HG3.out⟩
            · have HN := Lib.hid (HYES.out (by unfold okI; rw [decide_eq_false k5, q2n]; rfl))
              have q5 : decide ((5 : Int) < ((k : Nat) : Int)) = false := by rw [decide_eq_false_iff_not]; omega
              have q5n : decide (5 < k) = false := by rw [decide_eq_false_iff_not]; omega
              clear HYES HNO k2 k5
              go_wp2
              go_roundg (m - (k + 1))
              case rel => exact ⟨k + 1, by omega, rfl, by go_num, HN, HG3⟩
              case measure => omega
        · have HF := Lib.hid (HNO.out (by unfold okI; rw [HR.out, show x.isEmpty = false by cases x <;> simp_all]; rfl))
          have hxb : (x == []) = false := beq_eq_false_iff_ne.2 hx0
          clear HYES HNO hx0
          go_wp2
          go_ret
          exact ⟨by rw [HF.out]; rfl, HG2.out.trans HG3.out⟩
    · obtain rfl : m = k := by omega
      have HGD := Lib.hid (HGOOD.out (fun j hj => HE.out j (by rw [HL2.out] at hj; exact hj)))
      have HB3 := Lib.hid (HB2.out.grow HG.out)
      have HG3 := Lib.hid (HG2.out.trans HG.out)
      have HU := Lib.hid (runlike_any A2 m c2 (allH h) wr HL2.out hm (HS2.out.grow HG.out))
      clear HE HBAD HGOOD HB2 HG2
      obtain ⟨τ, hτ⟩ : ∃ τ, (shapeR h || shapeG h) = τ := ⟨_, rfl⟩
      rw [hτ] at HGD
      have HTT : Hid (∀ br bl bf bg, h.right.isEmpty = br → h.left.isEmpty = bl → h.f.isEmpty = bf → h.g.isEmpty = bg → τ = ((br && (!bl || !bf)) || (bf && !bg))) := Lib.hid (fun br bl bf bg e1 e2 e3 e4 => by
        rw [← hτ]
        unfold shapeR shapeG
        rw [e1, e2, e3, e4])
      clear hτ
      go_upto_region 8 with fail
      go_cut [58] (fun z wx => z = .bool τ ∧ wr = wx)
      case first =>
        have e1 := HB3.out.at1
        have e3 := HB3.out.at3
        have e4 := HB3.out.at4
        have e5 := HB3.out.at5
        obtain ⟨br, hbr⟩ : ∃ br, h.right.isEmpty = br := ⟨_, rfl⟩
        obtain ⟨bl, hbl⟩ : ∃ bl, h.left.isEmpty = bl := ⟨_, rfl⟩
        obtain ⟨bf, hbf⟩ : ∃ bf, h.f.isEmpty = bf := ⟨_, rfl⟩
        obtain ⟨bg, hbg⟩ : ∃ bg, h.g.isEmpty = bg := ⟨_, rfl⟩
        have HF := Lib.hid (HTT.out br bl bf bg hbr hbl hbf hbg)
        have t1 := (emp_eq h.right).trans hbr
        have t2 := (emp_eq h.left).trans hbl
        have t3 := (emp_eq h.f).trans hbf
        have t4 := (emp_eq h.g).trans hbg
        clear hbr hbl hbf hbg HTT HB3 HGD HU HEA HS2 HL2
        generalize h.right = xr at *
        generalize h.left = xl at *
        generalize h.f = xf at *
        generalize h.g = xg at *
        cases br <;> cases bl <;> cases bf <;> cases bg <;>
        · go_wp2
          go_meet
          case rel => exact ⟨by rw [HF.out]; rfl, rfl⟩
      case rest =>
      obtain ⟨rfl, rfl⟩ := hcut
      cases τ with
      | true =>
        have HF : Hid (γ = false) := Lib.hid (by rw [HGD.out]; simp)
        go_wp2
        go_ret
        exact ⟨by rw [HF.out]; rfl, HG3.out⟩
      | false =>
        have HF : Hid (γ = unlB (allH h)) := Lib.hid (by rw [HGD.out]; simp)
        rw [← HF.out] at HU
        go_wp2_with fail
        refine (HU.out).mono ?_
        rintro e w4 ⟨rfl, hg⟩
        have HG4 := Lib.hid (HG3.out.trans hg)
        clear hg
        go_wp2
        go_ret
        exact ⟨rfl, HG4.out⟩
end Go.Proofs.YtcnijmmpkahoaaaDoor
