/-
  What the document's own split comes to, called with any text. Nothing is claimed here by itself.
-/
import Derived.Test.YtcnijmmpkahoaaaDoorRCut
import Derived.Test.YtcnijmmpkahoaaaDoorGuessP
namespace Go.Proofs.YtcnijmmpkahoaaaDoor
open Go.RowKit Go.Lib
set_option linter.unusedSimpArgs false
set_option linter.unusedVariables false
set_option maxRecDepth 10000

/-- a row of texts that stands in a block of its own, from its first cell on -/
structure WordsAt (W : World) (g : Nat) (ls : List (List UInt8)) : Prop where
  row : ∃ cs t, W.heap[g]? = some (.cells cs t (0, 0))
  cell : ∀ i, i < ls.length → W.cell? ⟨g, i, none⟩ = some (.string ⟨(ls.getD i []).toArray⟩)
theorem WordsAt.lt {W : World} {g : Nat} {ls : List (List UInt8)} (h : WordsAt W g ls) : g < W.heap.size := by
  obtain ⟨cs, t, k⟩ := h.row
  exact heap_lt k
theorem WordsAt.grow {W W' : World} {g : Nat} {ls : List (List UInt8)} (h : WordsAt W g ls) (hg : Grow W W') : WordsAt W' g ls :=
  ⟨by obtain ⟨cs, t, k⟩ := h.row; exact ⟨cs, t, (hg.block g (heap_lt k)).trans k⟩, fun i hi => (hg.cell (p := ⟨g, i, none⟩) h.lt).trans (h.cell i hi)⟩
theorem WordsAt.set {W : World} {g b i : Nat} {ls : List (List UInt8)} (h : WordsAt W g ls) (hne : g ≠ b) (v : Value) : WordsAt (W.setCell ⟨b, i, none⟩ v) g ls :=
  ⟨by obtain ⟨cs, t, k⟩ := h.row; exact ⟨cs, t, (heap_setCell_other W ⟨b, i, none⟩ g v hne).trans k⟩, fun j hj => by
    rw [World.cell?_setCell_other _ _ _ _ (fun e => hne (by injection e with e1; exact e1.symm))]
    exact h.cell j hj⟩
theorem WordsAt.free {W : World} {g : Nat} {ls : List (List UInt8)} (h : WordsAt W g ls) {A : Option Addr} (hA : ∀ p, A = some p → p.block = g) : RowFree W A := fun p e => by
  rw [hA p e]
  exact h.row
def Pieces (ls : List (List UInt8)) (w : World) (e : Ending) (w' : World) : Prop := ∃ g n c, ls.length = n ∧ e = .returned (.slice (some ⟨g, 0, none⟩) n c) ∧ n ≤ c ∧ w.heap.size ≤ g ∧ WordsAt w' g ls ∧ Grow w w'
theorem own_words {B : Nat} {v : Value} {ls : List (List UInt8)} {w : World} (h : OwnS B v ls w) (h0 : ls ≠ []) : ∃ g c, v = .slice (some ⟨g, 0, none⟩) ls.length c ∧ ls.length ≤ c ∧ B ≤ g ∧ WordsAt w g ls := by
  rcases h.2 with ⟨rfl, hx⟩ | ⟨g, cap, cur, rfl, hbg, hgg, hnc, _, hsz, htake⟩
  · exact absurd (List.eq_nil_of_length_eq_zero hx) h0
  · refine ⟨g, cap, rfl, hnc, hbg, ⟨_, _, hgg⟩, fun i hi => ?_⟩
    rw [cell_of_row w g i cur 9 (0, 0) hgg]
    have h1 : (cur.toList.take (ls.length * 1))[i]? = (cellsS ls)[i]? := by rw [htake]
    rw [List.getElem?_take, if_pos (by omega), Array.getElem?_toList] at h1
    rw [h1]
    simp [cellsS, strv, hi]

set_option maxHeartbeats 3200000 in
theorem rsplit_any (c : UInt8) (s : List UInt8) (w : World) (hs : s.length ≤ 1100000) :
    Calls Tryd.prog 81 #[.string ⟨s.toArray⟩, .string ⟨#[c]⟩] w (Pieces (splitD c s) w) := by
  obtain ⟨L, hL⟩ : ∃ L, splitD c s = L := ⟨_, rfl⟩
  rw [hL]
  obtain ⟨n, hn⟩ : ∃ n, s.length = n := ⟨_, rfl⟩
  obtain ⟨B, hB⟩ : ∃ B, w.heap.size = B := ⟨_, rfl⟩
  have HL := Lib.hid hL
  have HN := Lib.hid hn
  have HB := Lib.hid hB
  rw [hn] at hs
  clear hL hn hB
  go_enter Tryd.func81, Tryd.ntmps81
  go_wp2
  go_loopg [0, 5] n (fun g s0 s5 wr => ∃ (q : List (List UInt8)) (r : List UInt8) (v : Value), v = s5 ∧ g = r.length ∧ s0 = .string ⟨r.toArray⟩ ∧ Hid (L = q ++ splitD c r) ∧ Hid (q.length + r.length ≤ n) ∧ Hid (OwnS B v q wr) ∧ Hid (Below B w wr) ∧ Hid (B ≤ wr.heap.size))
  case atStart => exact ⟨[], s, _, rfl, HN.out.symm, rfl, Lib.hid HL.out.symm, Lib.hid (by rw [HN.out]; simp), Lib.hid (ownS_nil _ _), Lib.hid (Below.refl _ _), Lib.hid (by rw [HB.out]; exact Nat.le_refl _)⟩
  case round =>
    obtain ⟨q, r, v, rfl, rfl, rfl, HQ, HL2, HO, HG, HZ⟩ := hrel
    obtain ⟨x, y, u, hc, h1, h2⟩ := cut_named r [c]
    have hrl := HL2.out
    have HC := Lib.hid (rcut_says hc wr (by omega) (by simp))
    have HST : Hid (splitD c r = if u = true then x :: splitD c y else [x]) := Lib.hid (by have := split_step c r; rw [hc] at this; exact this)
    have HY : Hid (u = true → y.length < r.length) := Lib.hid (fun hu => by
      rcases cut_one_cases r c with ⟨_, e⟩ | ⟨a, b, er, _, e⟩
      · rw [hc] at e
        simp only [Prod.mk.injEq] at e
        rw [hu] at e
        exact absurd e.2.2 (by decide)
      · rw [hc] at e
        simp only [Prod.mk.injEq] at e
        rw [er, e.2.1]
        simp
        omega)
    have HX2 : Hid (q.length + [x].length ≤ 1000000000) := Lib.hid (by simp; omega)
    clear hc h1 h2 hrl
    have HAP : Hid (∀ w2, Grow wr w2 → OwnS B v q (w2.alloc (.cells #[.string ⟨x.toArray⟩] 9)) ∧ Strs (w2.alloc (.cells #[.string ⟨x.toArray⟩] 9)) (w2.alloc (.cells #[.string ⟨x.toArray⟩] 9)).heap.size (some ⟨w2.heap.size, 0, none⟩) [x] ∧ B ≤ (w2.alloc (.cells #[.string ⟨x.toArray⟩] 9)).heap.size ∧ Below B w (w2.alloc (.cells #[.string ⟨x.toArray⟩] 9))) := Lib.hid (fun w2 hg => by
      have hgn := grow_new w2 (.cells #[.string ⟨x.toArray⟩] 9)
      refine ⟨(HO.out.grow hg).grow hgn, strs_lit w2 [x], Nat.le_trans HZ.out (hg.trans hgn).size, Below.trans HG.out (Below.mono (hg.trans hgn) HZ.out)⟩)
    cases u with
    | false =>
      have HLE : Hid (L = q ++ [x]) := Lib.hid (by rw [HQ.out, HST.out]; rfl)
      go_wp2_with fail
      refine (HC.out).mono ?_
      rintro e w2 ⟨rfl, hg⟩
      have HA2 := Lib.hid (HAP.out w2 hg)
      clear hg
      go_upto_region 4 with (at_builtin; refine wpList_append_any rfl _ _ rfl B v q [x] (some ⟨w2.heap.size, 0, none⟩) 1 1 rfl HA2.out.1 rfl rfl (fun e => by cases e) HA2.out.2.1 HX2.out HA2.out.2.2.1 ?_; intro v3 w3 HO3 HBL3)
      obtain ⟨g, cp, rfl, hcp, hbg, hwd⟩ := own_words HO3 (by simp)
      rw [← HLE.out] at hcp hwd ⊢
      have HP : Hid (L.length ≤ cp ∧ w.heap.size ≤ g ∧ WordsAt w3 g L ∧ Grow w w3) := Lib.hid ⟨hcp, by rw [HB.out]; exact hbg, hwd, by unfold Grow; rw [HB.out]; exact Below.trans HA2.out.2.2.2 HBL3⟩
      clear hcp hbg hwd HO3 HBL3
      go_wp2
      go_ret
      exact ⟨g, L.length, cp, rfl, rfl, HP.out⟩
    | true =>
      have HLE : Hid (L = (q ++ [x]) ++ splitD c y) := Lib.hid (by rw [HQ.out, HST.out]; simp)
      go_wp2_with fail
      refine (HC.out).mono ?_
      rintro e w2 ⟨rfl, hg⟩
      have HA2 := Lib.hid (HAP.out w2 hg)
      clear hg
      go_upto_region 4 with (at_builtin; refine wpList_append_any rfl _ _ rfl B v q [x] (some ⟨w2.heap.size, 0, none⟩) 1 1 rfl HA2.out.1 rfl rfl (fun e => by cases e) HA2.out.2.1 HX2.out HA2.out.2.2.1 ?_; intro v3 w3 HO3 HBL3)
      have HO4 := Lib.hid HO3
      have HG4 := Lib.hid (Below.trans HA2.out.2.2.2 HBL3)
      have HZ4 := Lib.hid (Nat.le_trans HA2.out.2.2.1 HBL3.size)
      have hyl := HY.out (by trivial)
      clear HO3 HBL3
      go_wp2
      go_roundg (y.length)
      case rel => exact ⟨q ++ [x], y, _, rfl, rfl, rfl, HLE, Lib.hid (by have := HL2.out; simp; omega), HO4, HG4, HZ4⟩
      case measure => omega
end Go.Proofs.YtcnijmmpkahoaaaDoor
