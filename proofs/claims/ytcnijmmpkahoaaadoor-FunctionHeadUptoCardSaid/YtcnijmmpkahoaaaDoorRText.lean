/-
  What the document's own Text comes to, called with any head. Nothing is claimed here by itself.
-/
import Derived.Test.YtcnijmmpkahoaaaDoorRRightH
namespace Go.Proofs.YtcnijmmpkahoaaaDoor
open Go.RowKit Go.Lib
set_option linter.unusedSimpArgs false
set_option linter.unusedVariables false
set_option maxRecDepth 10000

/-- two texts put together, the sum by a name -/
theorem app_named (a b : List UInt8) (m k : Nat) (ha : a.length ≤ m) (hb : b.length ≤ k) (h : m + k ≤ 9223372036854775807) :
    ∃ c, c = a ++ b ∧ (⟨a.toArray⟩ : ByteArray) ++ ⟨b.toArray⟩ = ⟨c.toArray⟩ ∧ ¬ 9223372036854775807 < a.length + b.length ∧ c.length ≤ m + k :=
  ⟨_, rfl, str_app a b, by omega, by rw [List.length_append]; omega⟩
/-- the same, with one sign -/
theorem app_sign (a : List UInt8) (x : UInt8) (m k : Nat) (ha : a.length ≤ m) (hk : m + 1 = k) (h : k ≤ 9223372036854775807) :
    ∃ c, c = a ++ [x] ∧ (⟨a.toArray⟩ : ByteArray) ++ ⟨#[x]⟩ = ⟨c.toArray⟩ ∧ ¬ 9223372036854775807 < a.length + 1 ∧ c.length ≤ k :=
  ⟨_, rfl, str_app a [x], by omega, by rw [List.length_append, List.length_singleton]; omega⟩
theorem emp_no {l : List UInt8} (h : l ≠ []) : l.isEmpty = false := by cases l <;> simp_all
/-- a head's function, with what works on it -/
def coreT (h : Hd) : List UInt8 := partD [40] h.f [32] ++ h.name ++ partD [32] h.g [] ++ (if h.f = [] then [] else [41])
theorem core_bare {h : Hd} (hf : h.f = []) (hg : h.g = []) : coreT h = h.name := by
  unfold coreT partD
  rw [if_pos hf, if_pos hg, if_pos hf]
  simp
theorem core_one {h : Hd} (hf : h.f ≠ []) (hg : h.g = []) : coreT h = [40] ++ h.f ++ [32] ++ h.name ++ [41] := by
  unfold coreT partD
  rw [if_neg hf, if_pos hg, if_neg hf]
  simp
theorem core_two {h : Hd} (hf : h.f ≠ []) (hg : h.g ≠ []) : coreT h = [40] ++ h.f ++ [32] ++ h.name ++ [32] ++ h.g ++ [41] := by
  unfold coreT partD
  rw [if_neg hf, if_neg hg, if_neg hf]
  simp
theorem core_len {h : Hd} (h1 : h.f.length ≤ 1100000) (h2 : h.name.length ≤ 1100000) (h3 : h.g.length ≤ 1100000) : (coreT h).length ≤ 3300010 := by
  unfold coreT partD
  split <;> split <;> simp <;> omega
theorem front_core (h : Hd) : frontT h = partD [] h.res arrowT ++ partD [] h.left [32] ++ coreT h ++ partD [32] h.right [] := by
  unfold frontT coreT
  simp only [List.append_assoc]

set_option maxHeartbeats 6400000 in
theorem rtext_any (h : Hd) (A : Option Addr) (n c : Nat) (w : World) (k : HdIn w A n c h) :
    Calls Tryd.prog 64 #[hdV h A n c] w (Gave (headD h) w) := by
  obtain ⟨l1, l2, l3, l4, l5, l6, l7⟩ := k.parts
  have htop := k.top
  have HLN := Lib.hid k.len
  have HBX := Lib.hid (boxH_new w h A n c)
  have hg1 := grow_new w (.cells #[.string ⟨h.res.toArray⟩, .string ⟨h.left.toArray⟩, .string ⟨h.name.toArray⟩, .string ⟨h.right.toArray⟩, .string ⟨h.f.toArray⟩, .string ⟨h.g.toArray⟩, .slice A n c] 33)
  have HG1 := Lib.hid hg1
  have HK := Lib.hid (k.grow hg1)
  obtain ⟨nb, hnb⟩ : ∃ nb, w.heap.size = nb := ⟨_, rfl⟩
  have HNB := Lib.hid hnb
  rw [hnb] at HBX
  unfold hdV strv
  clear k hg1 hnb
  go_enter Tryd.func64, Tryd.ntmps64
  go_upto_region 1 with fail
  rw [HNB.out]
  generalize w.alloc (.cells #[.string ⟨h.res.toArray⟩, .string ⟨h.left.toArray⟩, .string ⟨h.name.toArray⟩, .string ⟨h.right.toArray⟩, .string ⟨h.f.toArray⟩, .string ⟨h.g.toArray⟩, .slice A n c] 33) = w1 at HBX HG1 HK ⊢
  have b0 := HBX.out.at0
  have b1 := HBX.out.at1
  have b2 := HBX.out.at2
  have b3 := HBX.out.at3
  have b4 := HBX.out.at4
  have b5 := HBX.out.at5
  have b6 := HBX.out.at6
  have hc := rrightH_any h A n c w1 HK.out
  unfold hdV strv at hc
  obtain ⟨α, hα⟩ : ∃ α, rightH h = α := ⟨_, rfl⟩
  rw [hα] at hc
  have HC := Lib.hid hc
  have HA := Lib.hid hα
  clear hc hα
  cases α with
  | false =>
    have HF := Lib.hid (head_wrong HA.out)
    go_wp2_with fail
    refine (HC.out).mono ?_
    rintro e w2 ⟨rfl, hg⟩
    have HG2 := Lib.hid (HG1.out.trans hg)
    clear hg
    go_wp2
    go_ret
    exact ⟨by rw [HF.out]; rfl, HG2.out⟩
  | true =>
    have HF := Lib.hid (head_right HA.out)
    have HO := Lib.hid (right_okd HA.out)
    go_wp2_with fail
    refine (HC.out).mono ?_
    rintro e w2 ⟨rfl, hg⟩
    have HG2 := Lib.hid (HG1.out.trans hg)
    have HB2 := Lib.hid (HBX.out.grow hg)
    have HS2 := Lib.hid (HK.out.strs.grow hg)
    clear hg b0 b1 b2 b3 b4 b5 b6 HC HK HBX HG1
    have b0 := HB2.out.at0
    have b1 := HB2.out.at1
    have b2 := HB2.out.at2
    have b3 := HB2.out.at3
    have b4 := HB2.out.at4
    have b5 := HB2.out.at5
    have b6 := HB2.out.at6
    have L7 := Lib.hid l7
    clear l7
    obtain ⟨ε, hε⟩ : ∃ ε, h.res.isEmpty = ε := ⟨_, rfl⟩
    go_upto_if 10 with fail
    have HEP := Lib.hid hε
    clear hε
    obtain ⟨q1, hq1⟩ : ∃ q, q = partD [] h.res arrowT := ⟨_, rfl⟩
    have HQ1 := Lib.hid hq1
    clear hq1
    go_cut [3] (fun z wx => z = .string ⟨q1.toArray⟩ ∧ Hid (q1.length ≤ 1100003) ∧ w2 = wx)
    case first =>
      cases ε with
      | true =>
        have h0 : h.res = [] := by have := HEP.out; simpa using this
        have HE : Hid (q1 = []) := Lib.hid (by rw [HQ1.out]; unfold partD; rw [if_pos h0])
        clear h0
        go_wp2
        go_meet
        case rel => exact ⟨by rw [HE.out], Lib.hid (by rw [HE.out]; simp), rfl⟩
      | false =>
        have h0 : h.res ≠ [] := by have := HEP.out; simpa using this
        obtain ⟨p1, e1, a1, n1, s1⟩ := app_named h.res [226, 134, 144] 1100000 3 l1 (by simp) (by omega)
        have n2 : ¬ 9223372036854775807 < h.res.length + 3 := by omega
        have HE : Hid (q1 = p1) := Lib.hid (by rw [HQ1.out, e1]; unfold partD; rw [if_neg h0]; rfl)
        clear h0 e1
        go_wp2
        go_meet
        case rel => exact ⟨by rw [HE.out], Lib.hid (by rw [HE.out]; exact s1), rfl⟩
    case rest =>
    obtain ⟨rfl, HL1, rfl⟩ := hcut
    obtain ⟨ε, hε⟩ : ∃ ε, h.left.isEmpty = ε := ⟨_, rfl⟩
    go_upto_if 16 with fail
    have HEP := Lib.hid hε
    clear hε
    obtain ⟨q2, hq2⟩ : ∃ q, q = q1 ++ partD [] h.left [32] := ⟨_, rfl⟩
    have HQ2 := Lib.hid hq2
    clear hq2
    go_cut [3] (fun z wx => z = .string ⟨q2.toArray⟩ ∧ Hid (q2.length ≤ 2200004) ∧ w2 = wx)
    case first =>
      have hl1 := HL1.out
      cases ε with
      | true =>
        have h0 : h.left = [] := by have := HEP.out; simpa using this
        have HE : Hid (q2 = q1) := Lib.hid (by rw [HQ2.out]; unfold partD; rw [if_pos h0, List.append_nil])
        clear h0
        go_wp2
        go_meet
        case rel => exact ⟨by rw [HE.out], Lib.hid (by rw [HE.out]; omega), rfl⟩
      | false =>
        have h0 : h.left ≠ [] := by have := HEP.out; simpa using this
        obtain ⟨p1, e1, a1, n1, s1⟩ := app_named q1 h.left 1100003 1100000 hl1 l2 (by omega)
        obtain ⟨p2, e2, a2, n2, s2⟩ := app_sign p1 32 2200003 2200004 s1 rfl (by omega)
        have HE : Hid (q2 = p2) := Lib.hid (by rw [HQ2.out, e2, e1]; unfold partD; rw [if_neg h0]; simp)
        clear h0 e1 e2
        go_wp2
        go_meet
        case rel => exact ⟨by rw [HE.out], Lib.hid (by rw [HE.out]; exact s2), rfl⟩
    case rest =>
    obtain ⟨rfl, HL2, rfl⟩ := hcut
    go_upto_block 0 with fail
    obtain ⟨q3, hq3⟩ : ∃ q, q = q2 ++ coreT h := ⟨_, rfl⟩
    have HQ3 := Lib.hid hq3
    clear hq3
    go_cut [3] (fun z wx => z = .string ⟨q3.toArray⟩ ∧ Hid (q3.length ≤ 5500020) ∧ w2 = wx)
    case first =>
      have hl2 := HL2.out
      have HL3 : Hid (q3.length ≤ 5500020) := Lib.hid (by
        have := core_len l5 l3 l6
        rw [HQ3.out, List.length_append]
        omega)
      by_cases h0 : h.f = []
      · have hg0 := HO.out.needF h0
        have t : (h.f == []) = true := by rw [h0]; rfl
        obtain ⟨p1, e1, a1, n1, s1⟩ := app_named q2 h.name 2200004 1100000 hl2 l3 (by omega)
        have HE : Hid (q3 = p1) := Lib.hid (by rw [HQ3.out, e1, core_bare h0 hg0])
        clear h0 hg0 e1
        go_wp2
        go_meet
        case rel => exact ⟨by rw [HE.out], HL3, rfl⟩
      · have t : (h.f == []) = false := beq_eq_false_iff_ne.2 h0
        obtain ⟨p1, e1, a1, n1, s1⟩ := app_sign q2 40 2200004 2200005 hl2 rfl (by omega)
        obtain ⟨p2, e2, a2, n2, s2⟩ := app_named p1 h.f 2200005 1100000 s1 l5 (by omega)
        obtain ⟨p3, e3, a3, n3, s3⟩ := app_sign p2 32 3300005 3300006 s2 rfl (by omega)
        obtain ⟨p4, e4, a4, n4, s4⟩ := app_named p3 h.name 3300006 1100000 s3 l3 (by omega)
        by_cases hg0 : h.g = []
        · have tg : (h.g == []) = true := by rw [hg0]; rfl
          obtain ⟨p5, e5, a5, n5, s5⟩ := app_sign p4 41 4400006 4400007 s4 rfl (by omega)
          have HE : Hid (q3 = p5) := Lib.hid (by rw [HQ3.out, e5, e4, e3, e2, e1, core_one h0 hg0]; simp)
          clear h0 hg0 e1 e2 e3 e4 e5
          go_wp2
          go_meet
          case rel => exact ⟨by rw [HE.out], HL3, rfl⟩
        · have tg : (h.g == []) = false := beq_eq_false_iff_ne.2 hg0
          obtain ⟨p5, e5, a5, n5, s5⟩ := app_sign p4 32 4400006 4400007 s4 rfl (by omega)
          obtain ⟨p6, e6, a6, n6, s6⟩ := app_named p5 h.g 4400007 1100000 s5 l6 (by omega)
          obtain ⟨p7, e7, a7, n7, s7⟩ := app_sign p6 41 5500007 5500008 s6 rfl (by omega)
          have HE : Hid (q3 = p7) := Lib.hid (by rw [HQ3.out, e7, e6, e5, e4, e3, e2, e1, core_two h0 hg0]; simp)
          clear h0 hg0 e1 e2 e3 e4 e5 e6 e7
          go_wp2
          go_meet
          case rel => exact ⟨by rw [HE.out], HL3, rfl⟩
    case rest =>
    obtain ⟨rfl, HL3, rfl⟩ := hcut
    obtain ⟨ε, hε⟩ : ∃ ε, h.right.isEmpty = ε := ⟨_, rfl⟩
    go_upto_if 60 with fail
    have HEP := Lib.hid hε
    clear hε
    obtain ⟨q4, hq4⟩ : ∃ q, q = q3 ++ partD [32] h.right [] := ⟨_, rfl⟩
    have HQ4 := Lib.hid hq4
    clear hq4
    go_cut [3] (fun z wx => z = .string ⟨q4.toArray⟩ ∧ Hid (q4.length ≤ 6600030) ∧ w2 = wx)
    case first =>
      have hl3 := HL3.out
      cases ε with
      | true =>
        have h0 : h.right = [] := by have := HEP.out; simpa using this
        have HE : Hid (q4 = q3) := Lib.hid (by rw [HQ4.out]; unfold partD; rw [if_pos h0, List.append_nil])
        clear h0
        go_wp2
        go_meet
        case rel => exact ⟨by rw [HE.out], Lib.hid (by rw [HE.out]; omega), rfl⟩
      | false =>
        have h0 : h.right ≠ [] := by have := HEP.out; simpa using this
        obtain ⟨p1, e1, a1, n1, s1⟩ := app_sign q3 32 5500020 5500021 hl3 rfl (by omega)
        obtain ⟨p2, e2, a2, n2, s2⟩ := app_named p1 h.right 5500021 1100000 s1 l4 (by omega)
        have HE : Hid (q4 = p2) := Lib.hid (by rw [HQ4.out, e2, e1]; unfold partD; rw [if_neg h0]; simp)
        clear h0 e1 e2
        go_wp2
        go_meet
        case rel => exact ⟨by rw [HE.out], Lib.hid (by rw [HE.out]; omega), rfl⟩
    case rest =>
    obtain ⟨rfl, HL4, rfl⟩ := hcut
    have HFR : Hid (q4 = frontT h) := Lib.hid (by rw [HQ4.out, HQ3.out, HQ2.out, HQ1.out, front_core])
    clear HQ1 HQ2 HQ3 HQ4 HL1 HL2 HL3
    go_wp2
    go_loopg [3, 4] n (fun g s3 s4 wr => ∃ (k : Nat) (q : List UInt8), k ≤ n ∧ g = n - k ∧ s3 = .string ⟨q.toArray⟩ ∧ s4 = .int .i64 k ∧ Hid (q = frontT h ++ locT (h.locs.take k)) ∧ Hid (q.length ≤ 6600030 + k * 1100010) ∧ w2 = wr)
    case atStart => exact ⟨0, q4, Nat.zero_le _, rfl, rfl, rfl, Lib.hid (by rw [HFR.out]; simp [locT]), Lib.hid (by have := HL4.out; omega), rfl⟩
    case round =>
      obtain ⟨k, q, hk, rfl, rfl, rfl, HQE, HQL, rfl⟩ := hrel
      by_cases hlt : k < n
      · have hkl : k < h.locs.length := by rw [HLN.out]; exact hlt
        obtain ⟨b, off, rfl, hb, hcl⟩ := HS2.out (by omega)
        have hc := hcl k hkl
        have HST := Lib.hid (loc_step hkl)
        have hxl := getD_len L7.out k
        have hne : h.locs.getD k [] ≠ [] := HO.out.each _ (by
          rw [List.getD, List.getElem?_eq_getElem hkl]
          exact List.getElem_mem hkl)
        have hm : q.length ≤ 2000000000000 := by
          have h1 := HQL.out
          have : k * 1100010 ≤ 1050000 * 1100010 := Nat.mul_le_mul (by omega) (Nat.le_refl _)
          omega
        clear hcl hkl hb
        generalize h.locs.getD k [] = x at hc HST hxl hne
        obtain ⟨p1, e1, a1, n1, s1⟩ := app_sign q 59 2000000000000 2000000000001 hm rfl (by omega)
        obtain ⟨p2, e2, a2, n2, s2⟩ := app_named p1 x 2000000000001 1100000 s1 hxl (by omega)
        have HE : Hid (p2 = frontT h ++ locT (h.locs.take (k + 1))) := Lib.hid (by
          rw [HST.out, e2, e1, HQE.out]
          unfold partD
          rw [if_neg hne]
          simp)
        have HE2 : Hid (p2.length ≤ 6600030 + (k + 1) * 1100010) := Lib.hid (by
          rw [e2, e1]
          have := HQL.out
          simp
          omega)
        clear e1 e2 s1 s2 hm hne hxl
        go_wp2
        go_roundg (n - (k + 1))
        case rel => exact ⟨k + 1, p2, by omega, rfl, rfl, by go_num, HE, HE2, rfl⟩
        case measure => omega
      · obtain rfl : n = k := by omega
        have HQT := Lib.hid (show q = textH h by rw [HQE.out, List.take_of_length_le (by rw [HLN.out]; exact Nat.le_refl _)]; rfl)
        go_wp2
        go_ret
        exact ⟨by rw [HF.out, ← HQT.out]; rfl, HG2.out⟩
end Go.Proofs.YtcnijmmpkahoaaaDoor
