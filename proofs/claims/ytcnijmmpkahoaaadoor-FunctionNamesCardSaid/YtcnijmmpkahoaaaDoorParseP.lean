/-
  What header.Parse comes to, called with any text that is not too long. Nothing is claimed here by itself.
-/
import Derived.Test.YtcnijmmpkahoaaaDoorFreshP
namespace Go.Proofs.YtcnijmmpkahoaaaDoor
open Go.RowKit Go.Lib
set_option linter.unusedSimpArgs false
set_option linter.unusedVariables false
set_option maxRecDepth 10000

/-- a head and whether, as a call answers -/
def ParsP (h : Hd) (b : Bool) (w : World) (e : Ending) (w' : World) : Prop := ∃ A n c, e = .returned (.tuple #[hdV h A n c, .bool b]) ∧ HdIn w' A n c h ∧ Grow w w'
theorem hd0_in (w : World) : HdIn w none 0 0 hd0 := ⟨rfl, Nat.le_refl _, Nat.zero_le _, fun _ => rfl, strs_nil, by simp [allH, hd0]⟩
theorem parse_no {s : List UInt8} (h : s = [] ∨ headD (guessP s) ≠ s) : parseP s = none := by
  unfold parseP
  rw [if_neg]
  rintro ⟨h1, h2⟩
  rcases h with h | h
  · exact h1 h
  · exact h h2
theorem parse_yes {s : List UInt8} (h : s ≠ []) (h2 : headD (guessP s) = s) : parseP s = some (guessP s) := by
  unfold parseP
  rw [if_pos ⟨h, h2⟩]
theorem in_all {W : World} {A : Option Addr} {n c : Nat} {h : Hd} (k : HdIn W A n c h) {b : Nat} (ho : ∀ p, A = some p → p.block ≠ b) (v0 v1 v2 v3 v4 v5 v6 : Value) :
    HdIn (((((((W.setCell ⟨b, 0, none⟩ v0).setCell ⟨b, 1, none⟩ v1).setCell ⟨b, 2, none⟩ v2).setCell ⟨b, 3, none⟩ v3).setCell ⟨b, 4, none⟩ v4).setCell ⟨b, 5, none⟩ v5).setCell ⟨b, 6, none⟩ v6) A n c h :=
  ⟨k.len, k.cap, k.top, k.none, by rw [size_all]; exact strs_all k.strs ho _ _ _ _ _ _ _, k.each⟩

set_option maxHeartbeats 6400000 in
theorem pparse_any (s : List UInt8) (w : World) (hs : s.length ≤ 800000) (hm : MaxAt w) : Calls Tryd.prog 23 #[.string ⟨s.toArray⟩] w (ParsP ((parseP s).getD hd0) (parseP s).isSome w) := by
  obtain ⟨o, hP⟩ : ∃ o, parseP s = o := ⟨_, rfl⟩
  have HPE := Lib.hid hP
  rw [hP]
  clear hP
  obtain ⟨rb, hrb⟩ : ∃ rb, w.heap.size = rb := ⟨_, rfl⟩
  have hg1 := grow_new w (.cells #[.string ⟨#[]⟩, .string ⟨#[]⟩, .string ⟨#[]⟩, .string ⟨#[]⟩, .string ⟨#[]⟩, .string ⟨#[]⟩, .slice none 0 0] 33)
  have hbx : BoxH (w.alloc (.cells #[.string ⟨#[]⟩, .string ⟨#[]⟩, .string ⟨#[]⟩, .string ⟨#[]⟩, .string ⟨#[]⟩, .string ⟨#[]⟩, .slice none 0 0] 33)) rb hd0 none 0 0 := by rw [← hrb]; exact boxH_new w hd0 none 0 0
  have HG1 := Lib.hid hg1
  have HX1 := Lib.hid hbx
  have HC1 := Lib.hid (guess_any s _ hs (hm.grow hg1))
  have HRB := Lib.hid hrb
  have HWB : Hid (w.heap.size ≤ rb) := Lib.hid (by omega)
  clear hg1 hbx hrb hs hm
  go_enter Tryd.func23, Tryd.ntmps23
  go_upto_region 1 with fail
  rw [HRB.out]
  generalize w.alloc (.cells #[.string ⟨#[]⟩, .string ⟨#[]⟩, .string ⟨#[]⟩, .string ⟨#[]⟩, .string ⟨#[]⟩, .string ⟨#[]⟩, .slice none 0 0] 33) = w1 at HG1 HX1 HC1 ⊢
  go_wp2_with fail
  refine (HC1.out).mono ?_
  rintro e w2 ⟨A, n, c, rfl, hin, hg, hoff, hrf⟩
  obtain ⟨G, hG⟩ : ∃ G, guessP s = G := ⟨_, rfl⟩
  have HGE := Lib.hid hG
  rw [hG] at hin ⊢
  have HG2 := Lib.hid (HG1.out.trans hg)
  have hg3 := grow_new w2 (.cells #[.string ⟨G.res.toArray⟩, .string ⟨G.left.toArray⟩, .string ⟨G.name.toArray⟩, .string ⟨G.right.toArray⟩, .string ⟨G.f.toArray⟩, .string ⟨G.g.toArray⟩, .slice A n c] 33)
  have HG3 := Lib.hid (HG2.out.trans hg3)
  have HX3 := Lib.hid ((HX1.out.grow hg).grow hg3)
  have HB3 := Lib.hid (boxH_new w2 G A n c)
  have HI3 := Lib.hid (hin.grow hg3)
  have HF3 := Lib.hid (hrf.grow hg3)
  have HOF : Hid (∀ p, A = some p → p.block ≠ rb) := Lib.hid (fun p e => by have := hoff p e; have := HX1.out.lt; omega)
  obtain ⟨hb, hhb⟩ : ∃ hb, w2.heap.size = hb := ⟨_, rfl⟩
  have HHB := Lib.hid hhb
  rw [hhb] at HB3
  unfold hdV strv
  clear hG hin hg hoff hrf hg3 hhb HC1
  go_upto_region 2 with fail
  rw [HHB.out]
  generalize w2.alloc (.cells #[.string ⟨G.res.toArray⟩, .string ⟨G.left.toArray⟩, .string ⟨G.name.toArray⟩, .string ⟨G.right.toArray⟩, .string ⟨G.f.toArray⟩, .string ⟨G.g.toArray⟩, .slice A n c] 33) = w3 at HG3 HX3 HB3 HI3 HF3 ⊢
  have b0 := HB3.out.at0
  have b1 := HB3.out.at1
  have b2 := HB3.out.at2
  have b3 := HB3.out.at3
  have b4 := HB3.out.at4
  have b5 := HB3.out.at5
  have b6 := HB3.out.at6
  by_cases h0 : s = []
  · have HP := Lib.hid (HPE.out.symm.trans (parse_no (.inl h0)))
    clear HPE HGE
    subst h0
    clear b0 b1 b2 b3 b4 b5 b6
    have r0 := HX3.out.at0
    have r1 := HX3.out.at1
    have r2 := HX3.out.at2
    have r3 := HX3.out.at3
    have r4 := HX3.out.at4
    have r5 := HX3.out.at5
    have r6 := HX3.out.at6
    have f0 := HX3.out.froz 0
    have f1 := HX3.out.froz 1
    have f2 := HX3.out.froz 2
    have f3 := HX3.out.froz 3
    have f4 := HX3.out.froz 4
    have f5 := HX3.out.froz 5
    have f6 := HX3.out.froz 6
    go_wp2
    generalize hw4 : World.setCell _ _ _ = w4
    have hs4 : BoxH w4 rb hd0 none 0 0 := by rw [← hw4]; exact HX3.out.all hd0 none 0 0
    have HGR := Lib.hid (show Grow w w4 by rw [← hw4]; exact Below.trans HG3.out (below_all _ _ _ HWB.out _ _ _ _ _ _ _))
    have c0 := hs4.at0
    have c1 := hs4.at1
    have c2 := hs4.at2
    have c3 := hs4.at3
    have c4 := hs4.at4
    have c5 := hs4.at5
    have c6 := hs4.at6
    refine bodyPost_ret (v := .tuple #[hdV hd0 none 0 0, .bool false]) (by simp [hdV, strv, results, Tryd.results23, go_sem, c0, c1, c2, c3, c4, c5, c6]) rfl ?_
    rw [HP.out]
    exact ⟨none, 0, 0, rfl, hd0_in _, HGR.out⟩
  · have hsb : (s == []) = false := beq_eq_false_iff_ne.2 h0
    have htx := ptext_any G A n c w3 HI3.out
    unfold hdV strv at htx
    obtain ⟨T, hT⟩ : ∃ T, headD G = T := ⟨_, rfl⟩
    rw [hT] at htx
    have HTX := Lib.hid htx
    by_cases h1 : T = s
    · have HP := Lib.hid (HPE.out.symm.trans (parse_yes h0 (by rw [HGE.out, hT]; exact h1)))
      rw [HGE.out] at HP
      clear HPE HGE
      have htb : (T == s) = true := by rw [h1]; simp
      subst h1
      clear h0 hT htx
      go_wp2_with fail
      refine (HTX.out).mono ?_
      rintro e w4 ⟨rfl, hg⟩
      have HG4 := Lib.hid (HG3.out.trans hg)
      have HX4 := Lib.hid (HX3.out.grow hg)
      have HB4 := Lib.hid (HB3.out.grow hg)
      have hfr := fresh_any G A n c w4 (HI3.out.grow hg) (HF3.out.grow hg)
      unfold hdV strv at hfr
      have HFR := Lib.hid hfr
      have HI4 := Lib.hid (HI3.out.grow hg)
      clear hg hfr b0 b1 b2 b3 b4 b5 b6 HB3 HX3 HTX
      have b0 := HB4.out.at0
      have b1 := HB4.out.at1
      have b2 := HB4.out.at2
      have b3 := HB4.out.at3
      have b4 := HB4.out.at4
      have b5 := HB4.out.at5
      have b6 := HB4.out.at6
      go_wp2_with fail
      refine (HFR.out).mono ?_
      rintro e w5 ⟨rfl, hg⟩
      have HG5 := Lib.hid (HG4.out.trans hg)
      have HX5 := Lib.hid (HX4.out.grow hg)
      have HI5 := Lib.hid (HI4.out.grow hg)
      clear hg b0 b1 b2 b3 b4 b5 b6
      have r0 := HX5.out.at0
      have r1 := HX5.out.at1
      have r2 := HX5.out.at2
      have r3 := HX5.out.at3
      have r4 := HX5.out.at4
      have r5 := HX5.out.at5
      have r6 := HX5.out.at6
      have f0 := HX5.out.froz 0
      have f1 := HX5.out.froz 1
      have f2 := HX5.out.froz 2
      have f3 := HX5.out.froz 3
      have f4 := HX5.out.froz 4
      have f5 := HX5.out.froz 5
      have f6 := HX5.out.froz 6
      go_wp2
      generalize hw6 : World.setCell _ _ _ = w6
      have hs6 : BoxH w6 rb G A n c := by rw [← hw6]; exact HX5.out.all G A n c
      have HGR := Lib.hid (show Grow w w6 by rw [← hw6]; exact Below.trans HG5.out (below_all _ _ _ HWB.out _ _ _ _ _ _ _))
      have HIN := Lib.hid (show HdIn w6 A n c G by rw [← hw6]; exact in_all HI5.out HOF.out _ _ _ _ _ _ _)
      have c0 := hs6.at0
      have c1 := hs6.at1
      have c2 := hs6.at2
      have c3 := hs6.at3
      have c4 := hs6.at4
      have c5 := hs6.at5
      have c6 := hs6.at6
      refine bodyPost_ret (v := .tuple #[hdV G A n c, .bool true]) (by simp [hdV, strv, results, Tryd.results23, go_sem, c0, c1, c2, c3, c4, c5, c6]) rfl ?_
      rw [HP.out]
      exact ⟨A, n, c, rfl, HIN.out, HGR.out⟩
    · have HP := Lib.hid (HPE.out.symm.trans (parse_no (.inr (by rw [HGE.out, hT]; exact h1))))
      clear HPE HGE
      have htb : (T == s) = false := beq_eq_false_iff_ne.2 h1
      clear h0 hT htx h1
      go_wp2_with fail
      refine (HTX.out).mono ?_
      rintro e w4 ⟨rfl, hg⟩
      have HG4 := Lib.hid (HG3.out.trans hg)
      have HX4 := Lib.hid (HX3.out.grow hg)
      clear hg b0 b1 b2 b3 b4 b5 b6 HB3 HX3 HTX
      have r0 := HX4.out.at0
      have r1 := HX4.out.at1
      have r2 := HX4.out.at2
      have r3 := HX4.out.at3
      have r4 := HX4.out.at4
      have r5 := HX4.out.at5
      have r6 := HX4.out.at6
      have f0 := HX4.out.froz 0
      have f1 := HX4.out.froz 1
      have f2 := HX4.out.froz 2
      have f3 := HX4.out.froz 3
      have f4 := HX4.out.froz 4
      have f5 := HX4.out.froz 5
      have f6 := HX4.out.froz 6
      go_wp2
      generalize hw5 : World.setCell _ _ _ = w5
      have hs5 : BoxH w5 rb hd0 none 0 0 := by rw [← hw5]; exact HX4.out.all hd0 none 0 0
      have HGR := Lib.hid (show Grow w w5 by rw [← hw5]; exact Below.trans HG4.out (below_all _ _ _ HWB.out _ _ _ _ _ _ _))
      have c0 := hs5.at0
      have c1 := hs5.at1
      have c2 := hs5.at2
      have c3 := hs5.at3
      have c4 := hs5.at4
      have c5 := hs5.at5
      have c6 := hs5.at6
      refine bodyPost_ret (v := .tuple #[hdV hd0 none 0 0, .bool false]) (by simp [hdV, strv, results, Tryd.results23, go_sem, c0, c1, c2, c3, c4, c5, c6]) rfl ?_
      rw [HP.out]
      exact ⟨none, 0, 0, rfl, hd0_in _, HGR.out⟩
end Go.Proofs.YtcnijmmpkahoaaaDoor
