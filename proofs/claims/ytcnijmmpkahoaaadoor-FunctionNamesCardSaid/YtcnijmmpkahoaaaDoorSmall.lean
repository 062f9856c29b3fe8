/-
  The law's small cases come out right. Nothing is claimed here by itself.
-/
import Derived.Test.YtcnijmmpkahoaaaDoorRHead
import Derived.Test.YtcnijmmpkahoaaaDoorLabelsP
import Derived.Test.YtcnijmmpkahoaaaDoorFewL
namespace Go.Proofs.YtcnijmmpkahoaaaDoor
open Go.RowKit Go.Lib
set_option linter.unusedSimpArgs false
set_option linter.unusedVariables false
set_option maxRecDepth 100000

/-- lines that may be handed on -/
structure LinesAt (W : World) (A : Option Addr) (n c : Nat) (ls : List (List UInt8)) : Prop where
  len : ls.length = n
  cap : n ≤ c
  top : n ≤ 1000
  none : A = none → c = 0
  strs : Strs W W.heap.size A ls
  each : ∀ s ∈ ls, s.length ≤ 1000
  sum : sumL ls ≤ 10000
section
variable {W W' : World} {A : Option Addr} {n c : Nat} {ls : List (List UInt8)}
theorem LinesAt.grow (h : LinesAt W A n c ls) (hg : Grow W W') : LinesAt W' A n c ls := ⟨h.len, h.cap, h.top, h.none, h.strs.grow hg, h.each, h.sum⟩
theorem LinesAt.right (h : LinesAt W A n c ls) (hm : MaxAt W) {b : Bool} (e : (headL ls).isSome = b) : Calls Tryd.prog 15 #[.slice A n c] W (Says b W) := by
  subst e
  have := h.top
  exact rightL_any A n c ls W h.len (by omega) h.strs (fun s hs => by have := h.each s hs; omega) hm
theorem LinesAt.rright (h : LinesAt W A n c ls) {b : Bool} (e : (headL ls).isSome = b) : Calls Tryd.prog 16 #[.slice A n c] W (Says b W) := by
  subst e
  have := h.top
  exact rrightL_any A n c ls W h.len (by omega) h.strs (fun s hs => by have := h.each s hs; omega)
theorem LinesAt.name (h : LinesAt W A n c ls) (hm : MaxAt W) {t : List UInt8} (e : nameL ls = t) : Calls Tryd.prog 17 #[.slice A n c] W (Gave t W) := by
  subst e
  have := h.top
  exact nameL_any A n c ls W h.len (by omega) h.strs (fun s hs => by have := h.each s hs; omega) hm
theorem LinesAt.rname (h : LinesAt W A n c ls) {t : List UInt8} (e : nameL ls = t) : Calls Tryd.prog 18 #[.slice A n c] W (Gave t W) := by
  subst e
  have := h.top
  exact rnameL_any A n c ls W h.len (by omega) h.strs (fun s hs => by have := h.each s hs; omega)
theorem join_top {ls : List (List UInt8)} {n : Nat} (h1 : ls.length = n) (h2 : n ≤ 1000) (h3 : sumL ls ≤ 10000) : (joinD ls).length ≤ 1100000 := by
  have := join_len ls
  omega
theorem LinesAt.join (h : LinesAt W A n c ls) {t : List UInt8} (e : joinD ls = t) : Calls Tryd.prog 19 #[.slice A n c] W (Gave t W) := by
  subst e
  have := h.top
  exact join_any A n c ls W h.len h.cap (by omega) h.strs (join_top h.len h.top h.sum)
theorem LinesAt.rjoin (h : LinesAt W A n c ls) {t : List UInt8} (e : joinD ls = t) : Calls Tryd.prog 20 #[.slice A n c] W (Gave t W) := by
  subst e
  have := h.top
  have := h.sum
  exact rjoin_any A n c ls W h.len (by omega) h.strs (by omega)
theorem LinesAt.same {B : Option Addr} {m d : Nat} {ks : List (List UInt8)} (h : LinesAt W A n c ls) (k : LinesAt W B m d ks) {b : Bool} (e : decide (ls = ks) = b) : Calls Tryd.prog 12 #[.slice A n c, .slice B m d] W (Says b W) := by
  subst e
  have := h.top
  exact rsameL_any A n c ls B m d ks W h.len k.len (by omega) h.strs k.strs
/-- lines as a call answers -/
def Lines (ls : List (List UInt8)) (n : Nat) (w : World) (e : Ending) (w' : World) : Prop := ∃ A c, e = .returned (.slice A n c) ∧ LinesAt w' A n c ls ∧ Grow w w'
theorem lines_of {ls : List (List UInt8)} {n : Nat} {w : World} {e : Ending} {w' : World} (h : OwnR ls w e w') (hn : ls.length = n) (h1 : n ≤ 1000) (h2 : ∀ s ∈ ls, s.length ≤ 1000) (h3 : sumL ls ≤ 10000) : Lines ls n w e w' := by
  obtain ⟨v, rfl, ho, hg⟩ := h
  obtain ⟨A, c, rfl, hc, hz, hs⟩ := ho.strs'
  subst hn
  exact ⟨A, c, rfl, ⟨rfl, hc, h1, hz, hs, h2, h3⟩, hg⟩
theorem sum_filter (p : List UInt8 → Bool) (ls : List (List UInt8)) : sumL (ls.filter p) ≤ sumL ls := by
  induction ls with
  | nil => simp
  | cons a r ih =>
    rw [List.filter_cons]
    split
    · simp only [sumL]; omega
    · simp only [sumL]; omega
theorem sum_map {f : List UInt8 → List UInt8} (hf : ∀ x, (f x).length ≤ x.length) (ls : List (List UInt8)) : sumL (ls.map f) ≤ sumL ls := by
  induction ls with
  | nil => simp
  | cons a r ih =>
    have := hf a
    simp only [List.map_cons, sumL]
    omega
theorem labels_sum (ls : List (List UInt8)) : sumL (labelsD ls) ≤ sumL ls := by
  unfold labelsD
  have h1 := sum_filter (fun s => !s.isEmpty) ((ls.drop 1).map labelD)
  have h2 := sum_map (f := labelD) label_len (ls.drop 1)
  have h3 : sumL (ls.take 1 ++ ls.drop 1) = sumL ls := by rw [List.take_append_drop]
  rw [sum_app] at h3
  omega
theorem LinesAt.labels (h : LinesAt W A n c ls) (hm : MaxAt W) {ks : List (List UInt8)} {m : Nat} (e : labelsD ls = ks) (em : ks.length = m) : Calls Tryd.prog 13 #[.slice A n c] W (Lines ks m W) := by
  subst e
  have h1 := h.top
  have h2 := h.len
  have h3 := h.sum
  have h4 := labels_len ls
  have h5 := labels_sum ls
  exact (labels_any A n c ls W h.len (by omega) h.strs (fun s hs => by have := h.each s hs; omega) hm).mono fun _ _ r => lines_of r em (by omega) (labels_each h.each) (by omega)
theorem LinesAt.rlabels (h : LinesAt W A n c ls) {ks : List (List UInt8)} {m : Nat} (e : labelsD ls = ks) (em : ks.length = m) : Calls Tryd.prog 14 #[.slice A n c] W (Lines ks m W) := by
  subst e
  have h1 := h.top
  have h2 := h.len
  have h3 := h.sum
  have h4 := labels_len ls
  have h5 := labels_sum ls
  exact (rlabels_any A n c ls W h.len (by omega) h.strs (fun s hs => by have := h.each s hs; omega)).mono fun _ _ r => lines_of r em (by omega) (labels_each h.each) (by omega)
end
theorem split_says {s : List UInt8} {ks : List (List UInt8)} {m : Nat} (e : splitD 10 s = ks) (em : ks.length = m) (hs : s.length ≤ 900) (W : World) (hm : MaxAt W) : Calls Tryd.prog 21 #[.string ⟨s.toArray⟩] W (Lines ks m W) := by
  subst e
  have h1 := split_len 10 s.length s (Nat.le_refl _)
  have h2 := sum_split s.length s (Nat.le_refl _)
  exact (splitL_any s W (by omega) hm).mono fun _ _ r => lines_of r em (by omega) (fun x hx => by have := h1.2 x hx; omega) (by omega)
theorem rsplit_says {s : List UInt8} {ks : List (List UInt8)} {m : Nat} (e : splitD 10 s = ks) (em : ks.length = m) (hs : s.length ≤ 900) (W : World) : Calls Tryd.prog 22 #[.string ⟨s.toArray⟩] W (Lines ks m W) := by
  subst e
  have h1 := split_len 10 s.length s (Nat.le_refl _)
  have h2 := sum_split s.length s (Nat.le_refl _)
  exact (rsplitL_any s W (by omega)).mono fun _ _ r => lines_of r em (by omega) (fun x hx => by have := h1.2 x hx; omega) (by omega)
theorem line_says {l : List UInt8} {b : Bool} (e : lineD l = b) (W : World) (hl : l.length ≤ 1100000) : Calls Tryd.prog 10 #[.string ⟨l.toArray⟩] W (Says b W) := by
  subst e
  exact line_any l W (by omega)
theorem rline_says {l : List UInt8} {b : Bool} (e : lineD l = b) (W : World) (hl : l.length ≤ 1100000) : Calls Tryd.prog 11 #[.string ⟨l.toArray⟩] W (Says b W) := by
  subst e
  exact rline_any l W hl
theorem lit_lines (W : World) (ls : List (List UInt8)) (hl : ls.length ≤ 1000) (he : ∀ s ∈ ls, s.length ≤ 1000) (h3 : sumL ls ≤ 10000) : LinesAt (W.alloc (.cells (ls.map strv).toArray 9)) (some ⟨W.heap.size, 0, none⟩) ls.length ls.length ls :=
  ⟨rfl, Nat.le_refl _, hl, (fun e => by cases e), strs_lit W ls, he, h3⟩
theorem IsLines.grow {W W' : World} {A : Option Addr} {n c : Nat} {ls : List (List UInt8)} (h : IsLines W A n c ls) (hg : Grow W W') : IsLines W' A n c ls := ⟨h.1, h.2.1, h.2.2.1.grow hg, h.2.2.2⟩
theorem IsLines.few {W : World} {A : Option Addr} {n c : Nat} {ls : List (List UInt8)} (h : IsLines W A n c ls) (hf : fewL ls) : LinesAt W A n c ls := by
  obtain ⟨h1, h2, h3, h4, h5, h6, h7⟩ := h
  obtain ⟨f1, f2, f3⟩ := few_lines hf
  exact ⟨h1, h5, by omega, h7, h3, fun s hs => by have := f2 s hs; omega, by omega⟩
theorem nil_lines (W : World) : LinesAt W none 0 0 [] := ⟨rfl, Nat.le_refl _, by decide, fun _ => rfl, strs_nil, by simp, by decide⟩

theorem small_c1 : (headL [[82, 226, 134, 144, 70, 32, 88, 59, 73], [76, 58, 82, 226, 134, 144, 88], [226, 134, 146, 76]]).isSome = true := by decide +kernel
theorem small_c2 : nameL [[82, 226, 134, 144, 70, 32, 88, 59, 73], [76, 58, 82, 226, 134, 144, 88], [226, 134, 146, 76]] = [70] := by decide +kernel
theorem small_c3 : labelsD [[82, 226, 134, 144, 70, 32, 88, 59, 73], [76, 58, 82, 226, 134, 144, 88], [226, 134, 146, 76]] = [[76]] := by decide +kernel
theorem small_c4 : (headL [[70, 32, 88], [88, 58, 88]]).isSome = false := by decide +kernel
theorem small_c5 : nameL [[70, 32, 88], [88, 58, 88]] = [] := by decide +kernel
theorem small_c6 : (headL []).isSome = false := by decide +kernel
theorem small_c7 : (headL [[49]]).isSome = false := by decide +kernel
theorem small_c8 : (headL [[70], [97, 9, 98]]).isSome = false := by decide +kernel
theorem small_c9 : (headL [[70], []]).isSome = true := by decide +kernel
theorem small_c10 : lineD [] = true := by decide +kernel
theorem small_c11 : lineD [255] = false := by decide +kernel
theorem small_c12 : lineD [194, 133] = false := by decide +kernel
theorem small_c13 : lineD [194, 160] = true := by decide +kernel
theorem small_c14 : joinD [[97], [], [98]] = [97, 10, 10, 98] := by decide +kernel
theorem small_c15 : splitD 10 [97, 10, 10, 98] = [[97], [], [98]] := by decide +kernel
theorem small_c16 : splitD 10 [] = [[]] := by decide +kernel

set_option maxHeartbeats 12800000 in
theorem small_any (w : World) (hm : MaxAt w) : Calls Tryd.prog 8 #[] w (Fine w) := by
  have HM := Lib.hid hm
  have hgf := grow_new w (.cells #[.string ⟨#[82, 226, 134, 144, 70, 32, 88, 59, 73]⟩, .string ⟨#[76, 58, 82, 226, 134, 144, 88]⟩, .string ⟨#[226, 134, 146, 76]⟩] 9)
  have hgg := grow_new (w.alloc (.cells #[.string ⟨#[82, 226, 134, 144, 70, 32, 88, 59, 73]⟩, .string ⟨#[76, 58, 82, 226, 134, 144, 88]⟩, .string ⟨#[226, 134, 146, 76]⟩] 9)) (.cells #[.string ⟨#[70, 32, 88]⟩, .string ⟨#[88, 58, 88]⟩] 9)
  have HF : Hid (LinesAt ((w.alloc (.cells #[.string ⟨#[82, 226, 134, 144, 70, 32, 88, 59, 73]⟩, .string ⟨#[76, 58, 82, 226, 134, 144, 88]⟩, .string ⟨#[226, 134, 146, 76]⟩] 9)).alloc (.cells #[.string ⟨#[70, 32, 88]⟩, .string ⟨#[88, 58, 88]⟩] 9)) (some ⟨w.heap.size, 0, none⟩) 3 3 [[82, 226, 134, 144, 70, 32, 88, 59, 73], [76, 58, 82, 226, 134, 144, 88], [226, 134, 146, 76]]) := Lib.hid ((lit_lines w [[82, 226, 134, 144, 70, 32, 88, 59, 73], [76, 58, 82, 226, 134, 144, 88], [226, 134, 146, 76]] (by decide) (by decide) (by decide)).grow hgg)
  have HG : Hid (LinesAt ((w.alloc (.cells #[.string ⟨#[82, 226, 134, 144, 70, 32, 88, 59, 73]⟩, .string ⟨#[76, 58, 82, 226, 134, 144, 88]⟩, .string ⟨#[226, 134, 146, 76]⟩] 9)).alloc (.cells #[.string ⟨#[70, 32, 88]⟩, .string ⟨#[88, 58, 88]⟩] 9)) (some ⟨(w.alloc (.cells #[.string ⟨#[82, 226, 134, 144, 70, 32, 88, 59, 73]⟩, .string ⟨#[76, 58, 82, 226, 134, 144, 88]⟩, .string ⟨#[226, 134, 146, 76]⟩] 9)).heap.size, 0, none⟩) 2 2 [[70, 32, 88], [88, 58, 88]]) := Lib.hid (lit_lines (w.alloc (.cells #[.string ⟨#[82, 226, 134, 144, 70, 32, 88, 59, 73]⟩, .string ⟨#[76, 58, 82, 226, 134, 144, 88]⟩, .string ⟨#[226, 134, 146, 76]⟩] 9)) [[70, 32, 88], [88, 58, 88]] (by decide) (by decide) (by decide))
  have HGW := Lib.hid (hgf.trans hgg)
  clear hm hgf hgg
  go_enter Tryd.func8, Tryd.ntmps8
  go_upto_region 3 with fail
  obtain ⟨fb, hfb⟩ : ∃ fb, w.heap.size = fb := ⟨_, rfl⟩
  have hsz : (w.alloc (.cells #[.string ⟨#[82, 226, 134, 144, 70, 32, 88, 59, 73]⟩, .string ⟨#[76, 58, 82, 226, 134, 144, 88]⟩, .string ⟨#[226, 134, 146, 76]⟩] 9)).heap.size = fb + 1 := by rw [← hfb]; simp
  rw [hsz] at HG
  rw [hfb] at HF ⊢
  clear hsz hfb
  generalize (w.alloc (.cells #[.string ⟨#[82, 226, 134, 144, 70, 32, 88, 59, 73]⟩, .string ⟨#[76, 58, 82, 226, 134, 144, 88]⟩, .string ⟨#[226, 134, 146, 76]⟩] 9)).alloc (.cells #[.string ⟨#[70, 32, 88]⟩, .string ⟨#[88, 58, 88]⟩] 9) = x0 at HF HG HGW ⊢
  have HGX0 := Lib.hid HGW.out
  clear HGW
  have HFr := HF
  have HGr := HG
  have HMW := Lib.hid (HM.out.grow HGX0.out)
  have HS := Lib.hid (HFr.out.right HMW.out small_c1)
  go_wp2_with fail
  refine (HS.out).mono ?_
  rintro e x1 ⟨rfl, hg⟩
  have HGX1 := Lib.hid (HGX0.out.trans (hg))
  have HFn := Lib.hid (HFr.out.grow hg)
  have HGn := Lib.hid (HGr.out.grow hg)
  clear hg HS HMW HGX0 HF HFr HG HGr
  have HF := HFn
  clear HFn
  have HG := HGn
  clear HGn
  have HFr := HF
  have HGr := HG
  have HMW := Lib.hid (HM.out.grow HGX1.out)
  have HS := Lib.hid (HFr.out.name HMW.out small_c2)
  go_wp2_with fail
  refine (HS.out).mono ?_
  rintro e x2 ⟨rfl, hg⟩
  have HGX2 := Lib.hid (HGX1.out.trans (hg))
  have HFn := Lib.hid (HFr.out.grow hg)
  have HGn := Lib.hid (HGr.out.grow hg)
  clear hg HS HMW HGX1 HF HFr HG HGr
  have HF := HFn
  clear HFn
  have HG := HGn
  clear HGn
  have HFr := HF
  have HGr := HG
  have HMW := Lib.hid (HM.out.grow HGX2.out)
  have HS := Lib.hid (HFr.out.labels HMW.out small_c3 rfl)
  go_wp2_with fail
  refine (HS.out).mono ?_
  rintro e x3 ⟨A3, c3, rfl, hl, hg⟩
  have HGX3 := Lib.hid (HGX2.out.trans (hg))
  have HFn := Lib.hid (HFr.out.grow hg)
  have HGn := Lib.hid (HGr.out.grow hg)
  have HL := Lib.hid hl
  clear hl
  clear hg HS HMW HGX2 HF HFr HG HGr
  have HF := HFn
  clear HFn
  have HG := HGn
  clear HGn
  have hgr := grow_new x3 (.cells #[.string ⟨#[76]⟩] 9)
  have hll := lit_lines x3 [[76]] (by decide) (by decide) (by decide)
  have HGr := Lib.hid (HG.out.grow hgr)
  have HLr := Lib.hid (HL.out.grow hgr)
  have HMW := Lib.hid (HM.out.grow (HGX3.out.trans hgr))
  have HS := Lib.hid (HLr.out.same hll (show decide (_ = _) = true by decide))
  go_wp2_with fail
  refine (HS.out).mono ?_
  rintro e x4 ⟨rfl, hg⟩
  have HGX4 := Lib.hid (HGX3.out.trans (hgr.trans hg))
  have HGn := Lib.hid (HGr.out.grow hg)
  have HLn := Lib.hid (HLr.out.grow hg)
  clear hg HS HMW HGX3 hgr hll HG HGr HL HLr
  have HG := HGn
  clear HGn
  have HL := HLn
  clear HLn
  have HGr := HG
  have HMW := Lib.hid (HM.out.grow HGX4.out)
  have HS := Lib.hid (HGr.out.right HMW.out small_c4)
  go_wp2_with fail
  refine (HS.out).mono ?_
  rintro e x5 ⟨rfl, hg⟩
  have HGX5 := Lib.hid (HGX4.out.trans (hg))
  have HGn := Lib.hid (HGr.out.grow hg)
  clear hg HS HMW HGX4 HG HGr
  have HG := HGn
  clear HGn
  have HGr := HG
  have HMW := Lib.hid (HM.out.grow HGX5.out)
  have HS := Lib.hid (HGr.out.name HMW.out small_c5)
  go_wp2_with fail
  refine (HS.out).mono ?_
  rintro e x6 ⟨rfl, hg⟩
  have HGX6 := Lib.hid (HGX5.out.trans (hg))
  have HGn := Lib.hid (HGr.out.grow hg)
  clear hg HS HMW HGX5 HG HGr
  have HG := HGn
  clear HGn
  have HMW := Lib.hid (HM.out.grow HGX6.out)
  have HS := Lib.hid ((nil_lines x6).right HMW.out small_c6)
  go_wp2_with fail
  refine (HS.out).mono ?_
  rintro e x7 ⟨rfl, hg⟩
  have HGX7 := Lib.hid (HGX6.out.trans (hg))
  clear hg HS HMW HGX6
  have hgr := grow_new x7 (.cells #[.string ⟨#[49]⟩] 9)
  have hll := lit_lines x7 [[49]] (by decide) (by decide) (by decide)
  have HMW := Lib.hid (HM.out.grow (HGX7.out.trans hgr))
  have HS := Lib.hid (hll.right HMW.out small_c7)
  go_wp2_with fail
  refine (HS.out).mono ?_
  rintro e x8 ⟨rfl, hg⟩
  have HGX8 := Lib.hid (HGX7.out.trans (hgr.trans hg))
  clear hg HS HMW HGX7 hgr hll
  have hgr := grow_new x8 (.cells #[.string ⟨#[70]⟩, .string ⟨#[97, 9, 98]⟩] 9)
  have hll := lit_lines x8 [[70], [97, 9, 98]] (by decide) (by decide) (by decide)
  have HMW := Lib.hid (HM.out.grow (HGX8.out.trans hgr))
  have HS := Lib.hid (hll.right HMW.out small_c8)
  go_wp2_with fail
  refine (HS.out).mono ?_
  rintro e x9 ⟨rfl, hg⟩
  have HGX9 := Lib.hid (HGX8.out.trans (hgr.trans hg))
  clear hg HS HMW HGX8 hgr hll
  have hgr := grow_new x9 (.cells #[.string ⟨#[70]⟩, .string ⟨#[]⟩] 9)
  have hll := lit_lines x9 [[70], []] (by decide) (by decide) (by decide)
  have HMW := Lib.hid (HM.out.grow (HGX9.out.trans hgr))
  have HS := Lib.hid (hll.right HMW.out small_c9)
  go_wp2_with fail
  refine (HS.out).mono ?_
  rintro e x10 ⟨rfl, hg⟩
  have HGX10 := Lib.hid (HGX9.out.trans (hgr.trans hg))
  clear hg HS HMW HGX9 hgr hll
  have HMW := Lib.hid (HM.out.grow HGX10.out)
  have HS := Lib.hid (line_says small_c10 x10 (by decide))
  go_wp2_with fail
  refine (HS.out).mono ?_
  rintro e x11 ⟨rfl, hg⟩
  have HGX11 := Lib.hid (HGX10.out.trans (hg))
  clear hg HS HMW HGX10
  have HMW := Lib.hid (HM.out.grow HGX11.out)
  have HS := Lib.hid (line_says small_c11 x11 (by decide))
  go_wp2_with fail
  refine (HS.out).mono ?_
  rintro e x12 ⟨rfl, hg⟩
  have HGX12 := Lib.hid (HGX11.out.trans (hg))
  clear hg HS HMW HGX11
  have HMW := Lib.hid (HM.out.grow HGX12.out)
  have HS := Lib.hid (line_says small_c12 x12 (by decide))
  go_wp2_with fail
  refine (HS.out).mono ?_
  rintro e x13 ⟨rfl, hg⟩
  have HGX13 := Lib.hid (HGX12.out.trans (hg))
  clear hg HS HMW HGX12
  have HMW := Lib.hid (HM.out.grow HGX13.out)
  have HS := Lib.hid (line_says small_c13 x13 (by decide))
  go_wp2_with fail
  refine (HS.out).mono ?_
  rintro e x14 ⟨rfl, hg⟩
  have HGX14 := Lib.hid (HGX13.out.trans (hg))
  clear hg HS HMW HGX13
  have hgr := grow_new x14 (.cells #[.string ⟨#[97]⟩, .string ⟨#[]⟩, .string ⟨#[98]⟩] 9)
  have hll := lit_lines x14 [[97], [], [98]] (by decide) (by decide) (by decide)
  have HMW := Lib.hid (HM.out.grow (HGX14.out.trans hgr))
  have HS := Lib.hid (hll.join small_c14)
  go_wp2_with fail
  refine (HS.out).mono ?_
  rintro e x15 ⟨rfl, hg⟩
  have HGX15 := Lib.hid (HGX14.out.trans (hgr.trans hg))
  clear hg HS HMW HGX14 hgr hll
  have HMW := Lib.hid (HM.out.grow HGX15.out)
  have HS := Lib.hid (split_says small_c15 rfl (by decide) x15 HMW.out)
  go_wp2_with fail
  refine (HS.out).mono ?_
  rintro e x16 ⟨A5, c5, rfl, hl, hg⟩
  have HGX16 := Lib.hid (HGX15.out.trans (hg))
  have HL := Lib.hid hl
  clear hl
  clear hg HS HMW HGX15
  have hgr := grow_new x16 (.cells #[.string ⟨#[97]⟩, .string ⟨#[]⟩, .string ⟨#[98]⟩] 9)
  have hll := lit_lines x16 [[97], [], [98]] (by decide) (by decide) (by decide)
  have HLr := Lib.hid (HL.out.grow hgr)
  have HMW := Lib.hid (HM.out.grow (HGX16.out.trans hgr))
  have HS := Lib.hid (HLr.out.same hll (show decide (_ = _) = true by decide))
  go_wp2_with fail
  refine (HS.out).mono ?_
  rintro e x17 ⟨rfl, hg⟩
  have HGX17 := Lib.hid (HGX16.out.trans (hgr.trans hg))
  have HLn := Lib.hid (HLr.out.grow hg)
  clear hg HS HMW HGX16 hgr hll HL HLr
  have HL := HLn
  clear HLn
  clear HL
  have HMW := Lib.hid (HM.out.grow HGX17.out)
  have HS := Lib.hid (split_says small_c16 rfl (by decide) x17 HMW.out)
  go_wp2_with fail
  refine (HS.out).mono ?_
  rintro e x18 ⟨A6, c6, rfl, hl, hg⟩
  have HGX18 := Lib.hid (HGX17.out.trans (hg))
  have HL := Lib.hid hl
  clear hl
  clear hg HS HMW HGX17
  have hgr := grow_new x18 (.cells #[.string ⟨#[]⟩] 9)
  have hll := lit_lines x18 [[]] (by decide) (by decide) (by decide)
  have HLr := Lib.hid (HL.out.grow hgr)
  have HMW := Lib.hid (HM.out.grow (HGX18.out.trans hgr))
  have HS := Lib.hid (HLr.out.same hll (show decide (_ = _) = true by decide))
  go_wp2_with fail
  refine (HS.out).mono ?_
  rintro e x19 ⟨rfl, hg⟩
  have HGX19 := Lib.hid (HGX18.out.trans (hgr.trans hg))
  have HLn := Lib.hid (HLr.out.grow hg)
  clear hg HS HMW HGX18 hgr hll HL HLr
  have HL := HLn
  clear HLn
  go_wp2
  go_ret
  exact ⟨rfl, HGX19.out⟩
end Go.Proofs.YtcnijmmpkahoaaaDoor
