/-
  What the document's own Parse comes to, called with any text that is not too long. Nothing is claimed here by itself.
-/
import Derived.Test.YtcnijmmpkahoaaaDoorRGuess
import Derived.Test.YtcnijmmpkahoaaaDoorRText
namespace Go.Proofs.YtcnijmmpkahoaaaDoor
open Go.RowKit Go.Lib
set_option linter.unusedSimpArgs false
set_option linter.unusedVariables false
set_option maxRecDepth 10000

theorem rparse_no {s : List UInt8} (h : s = [] ∨ headD (guessR s) ≠ s) : parseR s = none := by
  unfold parseR
  rw [if_neg]
  rintro ⟨h1, h2⟩
  rcases h with h | h
  · exact h1 h
  · exact h h2
theorem rparse_yes {s : List UInt8} (h : s ≠ []) (h2 : headD (guessR s) = s) : parseR s = some (guessR s) := by
  unfold parseR
  rw [if_pos ⟨h, h2⟩]

set_option maxHeartbeats 6400000 in
theorem rparse_any (s : List UInt8) (w : World) (hs : s.length ≤ 800000) : Calls Tryd.prog 37 #[.string ⟨s.toArray⟩] w (ParsP ((parseR s).getD hd0) (parseR s).isSome w) := by
  obtain ⟨o, hP⟩ : ∃ o, parseR s = o := ⟨_, rfl⟩
  have HPE := Lib.hid hP
  rw [hP]
  clear hP
  obtain ⟨rb, hrb⟩ : ∃ rb, w.heap.size = rb := ⟨_, rfl⟩
  have hg1 := grow_new w (.cells #[.string ⟨#[]⟩, .string ⟨#[]⟩, .string ⟨#[]⟩, .string ⟨#[]⟩, .string ⟨#[]⟩, .string ⟨#[]⟩, .slice none 0 0] 33)
  have hbx : BoxH (w.alloc (.cells #[.string ⟨#[]⟩, .string ⟨#[]⟩, .string ⟨#[]⟩, .string ⟨#[]⟩, .string ⟨#[]⟩, .string ⟨#[]⟩, .slice none 0 0] 33)) rb hd0 none 0 0 := by rw [← hrb]; exact boxH_new w hd0 none 0 0
  have HG1 := Lib.hid hg1
  have HX1 := Lib.hid hbx
  have HC1 := Lib.hid (fun W => rguess_any s W hs)
  have HRB := Lib.hid hrb
  have HWB : Hid (w.heap.size ≤ rb) := Lib.hid (by omega)
  clear hg1 hbx hrb hs
  go_enter Tryd.func37, Tryd.ntmps37
  go_upto_region 1 with fail
  rw [HRB.out]
  generalize w.alloc (.cells #[.string ⟨#[]⟩, .string ⟨#[]⟩, .string ⟨#[]⟩, .string ⟨#[]⟩, .string ⟨#[]⟩, .string ⟨#[]⟩, .slice none 0 0] 33) = w1 at HG1 HX1 ⊢
  go_wp2_with fail
  refine (HC1.out w1).mono ?_
  rintro e w2 ⟨A, n, c, rfl, hin, hg, hoff⟩
  obtain ⟨G, hG⟩ : ∃ G, guessR s = G := ⟨_, rfl⟩
  have HGE := Lib.hid hG
  rw [hG] at hin ⊢
  have HG2 := Lib.hid (HG1.out.trans hg)
  have hg3 := grow_new w2 (.cells #[.string ⟨G.res.toArray⟩, .string ⟨G.left.toArray⟩, .string ⟨G.name.toArray⟩, .string ⟨G.right.toArray⟩, .string ⟨G.f.toArray⟩, .string ⟨G.g.toArray⟩, .slice A n c] 33)
  have HG3 := Lib.hid (HG2.out.trans hg3)
  have HX3 := Lib.hid ((HX1.out.grow hg).grow hg3)
  have HB3 := Lib.hid (boxH_new w2 G A n c)
  have HI3 := Lib.hid (hin.grow hg3)
  have HOF : Hid (∀ p, A = some p → p.block ≠ rb) := Lib.hid (fun p e => by have := hoff p e; have := HX1.out.lt; omega)
  obtain ⟨hb, hhb⟩ : ∃ hb, w2.heap.size = hb := ⟨_, rfl⟩
  have HHB := Lib.hid hhb
  rw [hhb] at HB3
  unfold hdV strv
  clear hG hin hg hoff hg3 hhb HC1
  go_upto_region 2 with fail
  rw [HHB.out]
  generalize w2.alloc (.cells #[.string ⟨G.res.toArray⟩, .string ⟨G.left.toArray⟩, .string ⟨G.name.toArray⟩, .string ⟨G.right.toArray⟩, .string ⟨G.f.toArray⟩, .string ⟨G.g.toArray⟩, .slice A n c] 33) = w3 at HG3 HX3 HB3 HI3 ⊢
  have b0 := HB3.out.at0
  have b1 := HB3.out.at1
  have b2 := HB3.out.at2
  have b3 := HB3.out.at3
  have b4 := HB3.out.at4
  have b5 := HB3.out.at5
  have b6 := HB3.out.at6
  by_cases h0 : s = []
  · have HP := Lib.hid (HPE.out.symm.trans (rparse_no (.inl h0)))
    clear HPE HGE
    subst h0
    clear b0 b1 b2 b3 b4 b5 b6
    have r0 := HX3.out.at0
    have r1 := HX3.out.at1
    have r2 := HX3.out.at2
    have r3 := HX3.out.at3
    have r4 := HX3.out.at4
    have r5 := HX3.out.at5
    have r6 := HX3.out.at6
    have f0 := HX3.out.froz 0
    have f1 := HX3.out.froz 1
    have f2 := HX3.out.froz 2
    have f3 := HX3.out.froz 3
    have f4 := HX3.out.froz 4
    have f5 := HX3.out.froz 5
    have f6 := HX3.out.froz 6
    go_wp2
    generalize hw4 : World.setCell _ _ _ = w4
    have hs4 : BoxH w4 rb hd0 none 0 0 := by rw [← hw4]; exact HX3.out.all hd0 none 0 0
    have HGR := Lib.hid (show Grow w w4 by rw [← hw4]; exact Below.trans HG3.out (below_all _ _ _ HWB.out _ _ _ _ _ _ _))
    have c0 := hs4.at0
    have c1 := hs4.at1
    have c2 := hs4.at2
    have c3 := hs4.at3
    have c4 := hs4.at4
    have c5 := hs4.at5
    have c6 := hs4.at6
    refine bodyPost_ret (v := .tuple #[hdV hd0 none 0 0, .bool false]) (by simp [hdV, strv, results, Tryd.results37, go_sem, c0, c1, c2, c3, c4, c5, c6]) rfl ?_
    rw [HP.out]
    exact ⟨none, 0, 0, rfl, hd0_in _, HGR.out⟩
  · have hsb : (s == []) = false := beq_eq_false_iff_ne.2 h0
    have htx := rtext_any G A n c w3 HI3.out
    unfold hdV strv at htx
    obtain ⟨T, hT⟩ : ∃ T, headD G = T := ⟨_, rfl⟩
    rw [hT] at htx
    have HTX := Lib.hid htx
    by_cases h1 : T = s
    · have HP := Lib.hid (HPE.out.symm.trans (rparse_yes h0 (by rw [HGE.out, hT]; exact h1)))
      rw [HGE.out] at HP
      clear HPE HGE
      have htb : (T == s) = true := by rw [h1]; simp
      subst h1
      clear h0 hT htx
      go_wp2_with fail
      refine (HTX.out).mono ?_
      rintro e w4 ⟨rfl, hg⟩
      have HG4 := Lib.hid (HG3.out.trans hg)
      have HX4 := Lib.hid (HX3.out.grow hg)
      have HB4 := Lib.hid (HB3.out.grow hg)
      have HI4 := Lib.hid (HI3.out.grow hg)
      clear hg b0 b1 b2 b3 b4 b5 b6 HB3 HX3 HTX
      have b0 := HB4.out.at0
      have b1 := HB4.out.at1
      have b2 := HB4.out.at2
      have b3 := HB4.out.at3
      have b4 := HB4.out.at4
      have b5 := HB4.out.at5
      have b6 := HB4.out.at6
      have r0 := HX4.out.at0
      have r1 := HX4.out.at1
      have r2 := HX4.out.at2
      have r3 := HX4.out.at3
      have r4 := HX4.out.at4
      have r5 := HX4.out.at5
      have r6 := HX4.out.at6
      have f0 := HX4.out.froz 0
      have f1 := HX4.out.froz 1
      have f2 := HX4.out.froz 2
      have f3 := HX4.out.froz 3
      have f4 := HX4.out.froz 4
      have f5 := HX4.out.froz 5
      have f6 := HX4.out.froz 6
      go_wp2
      generalize hw6 : World.setCell _ _ _ = w6
      have hs6 : BoxH w6 rb G A n c := by rw [← hw6]; exact HX4.out.all G A n c
      have HGR := Lib.hid (show Grow w w6 by rw [← hw6]; exact Below.trans HG4.out (below_all _ _ _ HWB.out _ _ _ _ _ _ _))
      have HIN := Lib.hid (show HdIn w6 A n c G by rw [← hw6]; exact in_all HI4.out HOF.out _ _ _ _ _ _ _)
      have c0 := hs6.at0
      have c1 := hs6.at1
      have c2 := hs6.at2
      have c3 := hs6.at3
      have c4 := hs6.at4
      have c5 := hs6.at5
      have c6 := hs6.at6
      refine bodyPost_ret (v := .tuple #[hdV G A n c, .bool true]) (by simp [hdV, strv, results, Tryd.results37, go_sem, c0, c1, c2, c3, c4, c5, c6]) rfl ?_
      rw [HP.out]
      exact ⟨A, n, c, rfl, HIN.out, HGR.out⟩
    · have HP := Lib.hid (HPE.out.symm.trans (rparse_no (.inr (by rw [HGE.out, hT]; exact h1))))
      clear HPE HGE
      have htb : (T == s) = false := beq_eq_false_iff_ne.2 h1
      clear h0 hT htx h1
      go_wp2_with fail
      refine (HTX.out).mono ?_
      rintro e w4 ⟨rfl, hg⟩
      have HG4 := Lib.hid (HG3.out.trans hg)
      have HX4 := Lib.hid (HX3.out.grow hg)
      clear hg b0 b1 b2 b3 b4 b5 b6 HB3 HX3 HTX
      have r0 := HX4.out.at0
      have r1 := HX4.out.at1
      have r2 := HX4.out.at2
      have r3 := HX4.out.at3
      have r4 := HX4.out.at4
      have r5 := HX4.out.at5
      have r6 := HX4.out.at6
      have f0 := HX4.out.froz 0
      have f1 := HX4.out.froz 1
      have f2 := HX4.out.froz 2
      have f3 := HX4.out.froz 3
      have f4 := HX4.out.froz 4
      have f5 := HX4.out.froz 5
      have f6 := HX4.out.froz 6
      go_wp2
      generalize hw5 : World.setCell _ _ _ = w5
      have hs5 : BoxH w5 rb hd0 none 0 0 := by rw [← hw5]; exact HX4.out.all hd0 none 0 0
      have HGR := Lib.hid (show Grow w w5 by rw [← hw5]; exact Below.trans HG4.out (below_all _ _ _ HWB.out _ _ _ _ _ _ _))
      have c0 := hs5.at0
      have c1 := hs5.at1
      have c2 := hs5.at2
      have c3 := hs5.at3
      have c4 := hs5.at4
      have c5 := hs5.at5
      have c6 := hs5.at6
      refine bodyPost_ret (v := .tuple #[hdV hd0 none 0 0, .bool false]) (by simp [hdV, strv, results, Tryd.results37, go_sem, c0, c1, c2, c3, c4, c5, c6]) rfl ?_
      rw [HP.out]
      exact ⟨none, 0, 0, rfl, hd0_in _, HGR.out⟩
end Go.Proofs.YtcnijmmpkahoaaaDoor
