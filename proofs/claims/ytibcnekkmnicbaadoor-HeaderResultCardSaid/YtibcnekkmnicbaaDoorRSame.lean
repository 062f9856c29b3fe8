/-
  What the document's own all and Same come to, called with any heads. Nothing is claimed here by itself.
-/
import Derived.Test.YtibcnekkmnicbaaDoorParseP
namespace Go.Proofs.YtibcnekkmnicbaaDoor
open Go.RowKit Go.Lib
set_option linter.unusedSimpArgs false
set_option linter.unusedVariables false
set_option maxRecDepth 10000

def Rows1 (ls : List (List UInt8)) (w : World) (e : Ending) (w' : World) : Prop := ∃ A n c, e = .returned (.slice A n c) ∧ ls.length = n ∧ Strs w' w'.heap.size A ls ∧ Grow w w'
set_option maxHeartbeats 3200000 in
theorem rall_any (h : Hd) (A : Option Addr) (n c : Nat) (w : World) (k : HdIn w A n c h) : Calls Tryd.prog 25 #[hdV h A n c] w (Rows1 (allH h) w) := by
  have hg1 := grow_new w (.cells #[.string ⟨h.res.toArray⟩, .string ⟨h.left.toArray⟩, .string ⟨h.name.toArray⟩, .string ⟨h.right.toArray⟩, .string ⟨h.f.toArray⟩, .string ⟨h.g.toArray⟩, .slice A n c] 24)
  have HG1 := Lib.hid hg1
  have HB1 := Lib.hid (boxH_new w h A n c)
  have HK1 := Lib.hid (k.grow hg1)
  obtain ⟨nb, hnb⟩ : ∃ nb, w.heap.size = nb := ⟨_, rfl⟩
  have HNB := Lib.hid hnb
  rw [hnb] at HB1
  have HE := Lib.hid (show allH h = [h.res, h.left, h.name, h.right, h.f, h.g] ++ h.locs from rfl)
  unfold hdV strv
  clear k hg1 hnb
  go_enter Tryd.func25, Tryd.ntmps25
  go_upto_region 1 with fail
  rw [HNB.out]
  generalize w.alloc (.cells #[.string ⟨h.res.toArray⟩, .string ⟨h.left.toArray⟩, .string ⟨h.name.toArray⟩, .string ⟨h.right.toArray⟩, .string ⟨h.f.toArray⟩, .string ⟨h.g.toArray⟩, .slice A n c] 24) = w1 at HG1 HB1 HK1 ⊢
  have hg2 := grow_new w1 (.cells #[.string ⟨h.res.toArray⟩, .string ⟨h.left.toArray⟩, .string ⟨h.name.toArray⟩, .string ⟨h.right.toArray⟩, .string ⟨h.f.toArray⟩, .string ⟨h.g.toArray⟩] 9)
  have HO2 : Hid (OwnS w1.heap.size (.slice (some ⟨w1.heap.size, 0, none⟩) 6 6) [h.res, h.left, h.name, h.right, h.f, h.g] (w1.alloc (.cells #[.string ⟨h.res.toArray⟩, .string ⟨h.left.toArray⟩, .string ⟨h.name.toArray⟩, .string ⟨h.right.toArray⟩, .string ⟨h.f.toArray⟩, .string ⟨h.g.toArray⟩] 9))) := Lib.hid (ownS_lit w1 [h.res, h.left, h.name, h.right, h.f, h.g] (by simp))
  have HB2 := Lib.hid (HB1.out.grow hg2)
  have HS2 := Lib.hid (HK1.out.strs.grow hg2)
  have HZ2 : Hid (w1.heap.size ≤ (w1.alloc (.cells #[.string ⟨h.res.toArray⟩, .string ⟨h.left.toArray⟩, .string ⟨h.name.toArray⟩, .string ⟨h.right.toArray⟩, .string ⟨h.f.toArray⟩, .string ⟨h.g.toArray⟩] 9)).heap.size) := Lib.hid hg2.size
  have HG2 := Lib.hid hg2
  have HLT : Hid ([h.res, h.left, h.name, h.right, h.f, h.g].length + h.locs.length ≤ 1000000000) := Lib.hid (by have := HK1.out.top; rw [HK1.out.len]; simp; omega)
  have b0 := HB1.out.at0
  have b1 := HB1.out.at1
  have b2 := HB1.out.at2
  have b3 := HB1.out.at3
  have b4 := HB1.out.at4
  have b5 := HB1.out.at5
  have b6 := HB2.out.at6
  clear hg2
  go_wp2_with (at_builtin; refine wpList_append_any rfl _ _ rfl w1.heap.size _ [h.res, h.left, h.name, h.right, h.f, h.g] h.locs A n c rfl HO2.out rfl HK1.out.len HK1.out.none HS2.out HLT.out HZ2.out ?_; intro v3 w3 HO3 HB3)
  have HGR := Lib.hid (show Grow w w3 from Below.trans HG1.out (Below.mono (Below.trans (show Below w1.heap.size w1 _ from HG2.out) HB3) HG1.out.size))
  rw [← HE.out] at HO3
  obtain ⟨A3, c3, rfl, _, _, hs3⟩ := HO3.strs'
  have HS3 := Lib.hid hs3
  clear hs3 HO3 HB3
  go_ret
  exact ⟨A3, (allH h).length, c3, rfl, rfl, HS3.out, HGR.out⟩

set_option maxHeartbeats 3200000 in
theorem rsame_any (x y : Hd) (A1 : Option Addr) (n1 c1 : Nat) (A2 : Option Addr) (n2 c2 : Nat) (w : World) (k1 : HdIn w A1 n1 c1 x) (k2 : HdIn w A2 n2 c2 y) :
    Calls Tryd.prog 16 #[hdV x A1 n1 c1, hdV y A2 n2 c2] w (Says (decide (x = y)) w) := by
  obtain ⟨γ, hγ⟩ : ∃ γ, decide (x = y) = γ := ⟨_, rfl⟩
  have HD := Lib.hid hγ
  rw [hγ]
  clear hγ
  have hg1 := grow_new w (.cells #[.string ⟨x.res.toArray⟩, .string ⟨x.left.toArray⟩, .string ⟨x.name.toArray⟩, .string ⟨x.right.toArray⟩, .string ⟨x.f.toArray⟩, .string ⟨x.g.toArray⟩, .slice A1 n1 c1] 24)
  have hg2 := grow_new (w.alloc (.cells #[.string ⟨x.res.toArray⟩, .string ⟨x.left.toArray⟩, .string ⟨x.name.toArray⟩, .string ⟨x.right.toArray⟩, .string ⟨x.f.toArray⟩, .string ⟨x.g.toArray⟩, .slice A1 n1 c1] 24)) (.cells #[.string ⟨y.res.toArray⟩, .string ⟨y.left.toArray⟩, .string ⟨y.name.toArray⟩, .string ⟨y.right.toArray⟩, .string ⟨y.f.toArray⟩, .string ⟨y.g.toArray⟩, .slice A2 n2 c2] 24)
  have hb1 := boxH_new w x A1 n1 c1
  have hb2 := boxH_new (w.alloc (.cells #[.string ⟨x.res.toArray⟩, .string ⟨x.left.toArray⟩, .string ⟨x.name.toArray⟩, .string ⟨x.right.toArray⟩, .string ⟨x.f.toArray⟩, .string ⟨x.g.toArray⟩, .slice A1 n1 c1] 24)) y A2 n2 c2
  obtain ⟨nb, hnb⟩ : ∃ nb, w.heap.size = nb := ⟨_, rfl⟩
  have hsz : (w.alloc (.cells #[.string ⟨x.res.toArray⟩, .string ⟨x.left.toArray⟩, .string ⟨x.name.toArray⟩, .string ⟨x.right.toArray⟩, .string ⟨x.f.toArray⟩, .string ⟨x.g.toArray⟩, .slice A1 n1 c1] 24)).heap.size = nb + 1 := by rw [← hnb]; simp
  rw [hnb] at hb1
  rw [hsz] at hb2
  have HG2 := Lib.hid (hg1.trans hg2)
  have HB1 := Lib.hid (hb1.grow hg2)
  have HB2 := Lib.hid hb2
  have HK1 := Lib.hid (k1.grow (hg1.trans hg2))
  have HK2 := Lib.hid (k2.grow (hg1.trans hg2))
  have HNB := Lib.hid hnb
  unfold hdV strv
  clear k1 k2 hg1 hg2 hb1 hb2 hnb hsz
  go_enter Tryd.func16, Tryd.ntmps16
  go_upto_region 1 with fail
  rw [HNB.out]
  generalize (w.alloc (.cells #[.string ⟨x.res.toArray⟩, .string ⟨x.left.toArray⟩, .string ⟨x.name.toArray⟩, .string ⟨x.right.toArray⟩, .string ⟨x.f.toArray⟩, .string ⟨x.g.toArray⟩, .slice A1 n1 c1] 24)).alloc (.cells #[.string ⟨y.res.toArray⟩, .string ⟨y.left.toArray⟩, .string ⟨y.name.toArray⟩, .string ⟨y.right.toArray⟩, .string ⟨y.f.toArray⟩, .string ⟨y.g.toArray⟩, .slice A2 n2 c2] 24) = w2 at HG2 HB1 HB2 HK1 HK2 ⊢
  have b0 := HB1.out.at0
  have b1 := HB1.out.at1
  have b2 := HB1.out.at2
  have b3 := HB1.out.at3
  have b4 := HB1.out.at4
  have b5 := HB1.out.at5
  have b6 := HB1.out.at6
  have h1 := rall_any x A1 n1 c1 w2 HK1.out
  unfold hdV strv at h1
  have H1 := Lib.hid h1
  clear h1 HB1
  go_wp2_with fail
  refine (H1.out).mono ?_
  rintro e w3 ⟨B1, m1, d1, rfl, hl1, hs1, hg⟩
  have HG3 := Lib.hid (HG2.out.trans hg)
  have HS1 := Lib.hid hs1
  have HL1 := Lib.hid hl1
  have HB3 := Lib.hid (HB2.out.grow hg)
  have h2 := rall_any y A2 n2 c2 w3 (HK2.out.grow hg)
  unfold hdV strv at h2
  have H2 := Lib.hid h2
  clear h2 hg hs1 hl1 HB2 b0 b1 b2 b3 b4 b5 b6 H1
  have b0 := HB3.out.at0
  have b1 := HB3.out.at1
  have b2 := HB3.out.at2
  have b3 := HB3.out.at3
  have b4 := HB3.out.at4
  have b5 := HB3.out.at5
  have b6 := HB3.out.at6
  go_wp2_with fail
  refine (H2.out).mono ?_
  rintro e w4 ⟨B2, m2, d2, rfl, hl2, hs2, hg⟩
  have HG4 := Lib.hid (HG3.out.trans hg)
  have HT1 := Lib.hid (HS1.out.grow hg)
  have HT2 := Lib.hid hs2
  have HL2 := Lib.hid hl2
  clear hg hs2 hl2 HB3 b0 b1 b2 b3 b4 b5 b6 H2 HS1
  have HEQ : Hid (x = y ↔ allH x = allH y) := Lib.hid ⟨fun e => by rw [e], allH_inj⟩
  have hm1 : m1 ≤ 1000000 := by
    rw [← HL1.out]
    have := HK1.out.len
    have := HK1.out.top
    simp only [allH, List.length_cons]
    omega
  generalize allH x = l1 at *
  generalize allH y = l2 at *
  by_cases hm : m1 = m2
  · subst hm
    go_wp2
    go_loopg [7] m1 (fun g s7 wr => ∃ k : Nat, k ≤ m1 ∧ g = m1 - k ∧ s7 = .int .i64 k ∧ Hid (l1.take k = l2.take k) ∧ Hid (Grow w4 wr))
    case atStart => exact ⟨0, Nat.zero_le _, rfl, rfl, Lib.hid rfl, Lib.hid (Grow.refl _)⟩
    case round =>
      obtain ⟨k, hk, rfl, rfl, HE, HGW⟩ := hrel
      by_cases hlt : k < m1
      · have hk1 : k < l1.length := by rw [HL1.out]; exact hlt
        have hk2 : k < l2.length := by rw [HL2.out]; exact hlt
        obtain ⟨g1, o1, rfl, _, hc1⟩ := HT1.out.grow HGW.out (by omega)
        obtain ⟨g2, o2, rfl, _, hc2⟩ := HT2.out.grow HGW.out (by omega)
        have r1 := hc1 k hk1
        have r2 := hc2 k hk2
        have HST : Hid (l1.getD k [] = l2.getD k [] → l1.take (k + 1) = l2.take (k + 1)) := Lib.hid (fun e => by
          rw [List.take_add_one, List.take_add_one, HE.out]
          congr 2
          rw [List.getElem?_eq_getElem hk1, List.getElem?_eq_getElem hk2]
          simpa [List.getD, hk1, hk2] using e)
        have HNO : Hid (l1.getD k [] ≠ l2.getD k [] → l1 ≠ l2) := Lib.hid (fun h e => h (by rw [e]))
        clear hc1 hc2 hk1 hk2
        generalize l1.getD k [] = p at r1 HST HNO
        generalize l2.getD k [] = q at r2 HST HNO
        by_cases hpq : p = q
        · have hb : (p == q) = true := by rw [hpq]; simp
          have HN := Lib.hid (HST.out hpq)
          subst hpq
          clear HST HNO
          go_upto_region 8 with fail
          go_region
          all_goals
            go_wp2
            go_roundg (m1 - (k + 1))
            case rel => exact ⟨k + 1, by omega, rfl, by go_num, HN, Lib.hid HGW.out.drew⟩
            case measure => omega
        · have hb : (p == q) = false := beq_eq_false_iff_ne.2 hpq
          have HN := Lib.hid (show γ = false by rw [← HD.out, decide_eq_false_iff_not]; exact fun e => HNO.out hpq (HEQ.out.1 e))
          clear HST HNO hpq
          go_upto_region 8 with fail
          go_region
          all_goals
            go_wp2
            go_ret
            exact ⟨by rw [HN.out]; rfl, (HG4.out.trans HGW.out).drew⟩
      · obtain rfl : m1 = k := by omega
        have HN := Lib.hid (show γ = true by
          rw [← HD.out, decide_eq_true_iff]
          apply HEQ.out.2
          have := HE.out
          rwa [List.take_of_length_le (by rw [HL1.out]; exact Nat.le_refl _), List.take_of_length_le (by rw [HL2.out]; exact Nat.le_refl _)] at this)
        go_wp2
        go_ret
        exact ⟨by rw [HN.out]; rfl, HG4.out.trans HGW.out⟩
  · have hmi : ¬ (((m1 : Nat) : Int) = ((m2 : Nat) : Int)) := by omega
    have hmb : (((m1 : Nat) : Int) == ((m2 : Nat) : Int)) = false := beq_eq_false_iff_ne.2 hmi
    have HN := Lib.hid (show γ = false by rw [← HD.out, decide_eq_false_iff_not]; exact fun e => hm (by rw [← HL1.out, ← HL2.out, HEQ.out.1 e]))
    go_wp2
    go_ret
    exact ⟨by rw [HN.out]; rfl, HG4.out⟩
end Go.Proofs.YtibcnekkmnicbaaDoor
