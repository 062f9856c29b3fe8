/-
  What the document's own guess comes to, called with any text. Nothing is claimed here by itself.
-/
import Derived.Test.YtcnijmmpkahoaaaDoorRSplit
import Derived.Test.YtcnijmmpkahoaaaDoorRSame
namespace Go.Proofs.YtcnijmmpkahoaaaDoor
open Go.RowKit Go.Lib
set_option linter.unusedSimpArgs false
set_option linter.unusedVariables false
set_option maxRecDepth 10000

/-- all but the first piece: where it lies -/
def restA (g c : Nat) : Option Addr := if c = 1 then some ⟨g, 0, none⟩ else some ⟨g, 1, none⟩
theorem restA_block {g c : Nat} {p : Addr} (h : restA g c = some p) : p.block = g := by
  unfold restA at h
  split at h <;> cases h <;> rfl
theorem restA_some {g c : Nat} : restA g c ≠ none := by
  unfold restA
  split <;> simp
theorem run_rest (g n c : Nat) (hn : 1 ≤ n) (W : World) : (Instr.slice 22 (.slice (some ⟨g, 0, none⟩) n c) (some (.int .i64 1)) none none).run Tryd.prog W = .ok (.slice (restA g c) (n - 1) (c - 1)) W := by
  obtain ⟨i0, hi, hz0, hz1, hz2⟩ := info_parts info9
  have h1 : (1 : Int) ≤ ((n : Nat) : Int) := by omega
  simp [Instr.slice, run_underlying Tryd.underlying22, Instr.sliceBounds, Instr.sliceBound, asIntOf, sizeOf, typeInfo, hi, hz1, h1, restA, Addr.add]
theorem rest_strs {W : World} {g c : Nat} {ls : List (List UInt8)} (h : WordsAt W g ls) (hc : ls.length ≤ c) : Strs W W.heap.size (restA g c) (ls.drop 1) := fun hn => by
  rw [List.length_drop] at hn
  refine ⟨g, 1, by unfold restA; rw [if_neg (by omega)], h.lt, fun i hi => ?_⟩
  rw [List.length_drop] at hi
  rw [h.cell (1 + i) (by omega)]
  simp [List.getD, List.getElem?_drop, Nat.add_comm]
theorem piece_le (c : UInt8) (s : List UInt8) (i : Nat) : ((splitD c s).getD i []).length ≤ s.length := getD_len (split_len c _ s (Nat.le_refl _)).2 i
theorem rbody_len {r t : List UInt8} {ls : List (List UInt8)} {m : Nat} (hr : r.length ≤ m) (ht : t.length ≤ m) (hl : ∀ x ∈ ls, x.length ≤ m) : (∀ x ∈ allH (bodyR r t ls), x.length ≤ m) ∧ (bodyR r t ls).locs = ls := by
  obtain ⟨h1, h2⟩ := cut_len t [40]
  obtain ⟨h3, h4⟩ := cut_len (cut t [40]).2.1 [41]
  have h5 := (cut_len (cut t [40]).1 [32]).1
  have h6 := (cut_len (cut (cut t [40]).2.1 [41]).2.1 [32]).2
  have h7 := piece_le 32 (cut (cut t [40]).2.1 [41]).1
  have h70 := h7 0
  have h71 := h7 1
  have h72 := h7 2
  have h8 := piece_le 32 t
  have h80 := h8 0
  have h81 := h8 1
  have h82 := h8 2
  unfold bodyR
  split
  · refine ⟨fun x hx => ?_, rfl⟩
    simp only [allH, List.mem_cons] at hx
    rcases hx with rfl | rfl | rfl | rfl | rfl | rfl | hx
    · exact hr
    · omega
    · omega
    · omega
    · omega
    · omega
    · exact hl x hx
  · split
    · refine ⟨fun x hx => ?_, rfl⟩
      simp only [allH, List.mem_cons] at hx
      rcases hx with rfl | rfl | rfl | rfl | rfl | rfl | hx
      · exact hr
      · omega
      · omega
      · omega
      · exact Nat.zero_le _
      · exact Nat.zero_le _
      · exact hl x hx
    · refine ⟨fun x hx => ?_, rfl⟩
      simp only [allH, List.mem_cons] at hx
      rcases hx with rfl | rfl | rfl | rfl | rfl | rfl | hx
      · exact hr
      · exact Nat.zero_le _
      · omega
      · omega
      · exact Nat.zero_le _
      · exact Nat.zero_le _
      · exact hl x hx
theorem rguess_len (s : List UInt8) : (∀ x ∈ allH (guessR s), x.length ≤ s.length) ∧ (guessR s).locs = (splitD 59 s).drop 1 := by
  have h1 := piece_le 59 s 0
  obtain ⟨h2, h3⟩ := res_len ((splitD 59 s).getD 0 [])
  exact rbody_len (m := s.length) (by omega) (by omega) (fun x hx => (split_len 59 _ s (Nat.le_refl _)).2 x (List.mem_of_mem_drop hx))

/-- two heads in blocks of the call's own, and a row of texts beside them -/
structure RAt (w W : World) (rb hb : Nat) (h : Hd) (A : Option Addr) (n c : Nat) (g : Nat) (ls : List (List UInt8)) : Prop where
  at_ : GuessAt w W rb hb h A n c
  words : WordsAt W g ls
  ne : g ≠ hb
section
variable {w W W' : World} {rb hb : Nat} {h : Hd} {A : Option Addr} {n c g : Nat} {ls : List (List UInt8)}
theorem RAt.next (k : RAt w W rb hb h A n c g ls) (hg : Grow W W') : RAt w W' rb hb h A n c g ls := ⟨k.at_.next hg, k.words.grow hg, k.ne⟩
theorem RAt.put (k : RAt w W rb hb h A n c g ls) (i : Nat) (v : Value) {h' : Hd} (hk : BoxH (W.setCell ⟨hb, i, none⟩ v) hb h' A n c) (hl : h'.locs = h.locs) : RAt w (W.setCell ⟨hb, i, none⟩ v) rb hb h' A n c g ls :=
  ⟨k.at_.put i v hk hl, k.words.set k.ne v, k.ne⟩
theorem RAt.of (k : GuessAt w W rb hb h A n c) (hg : Grow W W') (hw : WordsAt W' g ls) (hs : W.heap.size ≤ g) : RAt w W' rb hb h A n c g ls :=
  ⟨k.next hg, hw, by have := k.box.lt; omega⟩
end
/-- a head that a call answers with -/
def HeadsR (h : Hd) (w : World) (e : Ending) (w' : World) : Prop := ∃ A n c, e = .returned (hdV h A n c) ∧ HdIn w' A n c h ∧ Grow w w' ∧ ∀ p, A = some p → w.heap.size ≤ p.block
theorem cut_false {s sep a b : List UInt8} (h : cut s sep = (a, b, false)) : a = s := by
  unfold cut at h
  split at h
  · simp at h
  · simp at h
    exact h.1.symm
theorem getD_none {ls : List (List UInt8)} {i m : Nat} (h : ls.length = m) (hi : m ≤ i) : ls.getD i [] = [] := by
  rw [List.getD, List.getElem?_eq_none (by omega)]
  rfl

set_option maxHeartbeats 6400000 in
theorem rguess_any (s : List UInt8) (w : World) (hs : s.length ≤ 800000) : Calls Tryd.prog 63 #[.string ⟨s.toArray⟩] w (HeadsR (guessR s) w) := by
  obtain ⟨g1, g2⟩ := rguess_len s
  obtain ⟨p1, p2⟩ := split_len 59 _ s (Nat.le_refl _)
  have hdl := piece_le 59 s 0
  have hne := split_ne 59 s
  have HGP : Hid (guessR s = bodyR (resD ((splitD 59 s).getD 0 [])) (tailD ((splitD 59 s).getD 0 [])) ((splitD 59 s).drop 1)) := Lib.hid rfl
  have HC1 := Lib.hid (fun W => rsplit_any 59 s W (by omega))
  obtain ⟨P, hP⟩ : ∃ P, splitD 59 s = P := ⟨_, rfl⟩
  rw [hP] at g2 p1 p2 hdl hne HGP HC1
  obtain ⟨hd, hhd⟩ : ∃ hd, P.getD 0 [] = hd := ⟨_, rfl⟩
  rw [hhd] at hdl HGP
  have HHD := Lib.hid hhd
  obtain ⟨x, y, u, c2, k3, k4⟩ := cut_named hd arrowT
  have HTD : Hid (tailD hd = if u = true then y else hd) := Lib.hid (by unfold tailD; rw [c2])
  have HRD : Hid (resD hd = if u = true then x else []) := Lib.hid (by unfold resD; rw [c2])
  have HCF : Hid (u = false → x = hd) := Lib.hid (fun e => cut_false (by rw [← e]; exact c2))
  have htl : (tailD hd).length ≤ 800000 := by have := (res_len hd).2; omega
  obtain ⟨t, ht⟩ : ∃ t, tailD hd = t := ⟨_, rfl⟩
  obtain ⟨r, hr⟩ : ∃ r, resD hd = r := ⟨_, rfl⟩
  rw [ht] at HTD HGP htl
  rw [hr] at HRD HGP
  obtain ⟨a, rest, z, c3, k5, k6⟩ := cut_named t [40]
  have HEA := Lib.hid (show ∀ x ∈ allH (guessR s), x.length ≤ 1100000 from fun x hx => by have := g1 x hx; omega)
  have HC2 := Lib.hid (fun W => rcut_says c2 W (by omega) (by decide))
  have HC3 := Lib.hid (fun W => rcut_says c3 W (by omega) (by decide))
  have HC := Lib.hid c3
  have HKK := Lib.hid (show t.length ≤ 800000 ∧ a.length ≤ 800000 ∧ rest.length ≤ 800000 by omega)
  obtain ⟨N, hN⟩ : ∃ N, P.length = N := ⟨_, rfl⟩
  have hN1 : 0 < N := by rw [← hN]; exact List.length_pos_iff.2 hne
  have hN2 : N ≤ 800001 := by omega
  have HN := Lib.hid hN
  have HNL := Lib.hid (show 0 < N ∧ N ≤ 800001 from ⟨hN1, hN2⟩)
  have HPL : Hid ((P.drop 1).length = N - 1) := Lib.hid (by rw [List.length_drop, hN])
  obtain ⟨rb, hrb⟩ : ∃ rb, w.heap.size = rb := ⟨_, rfl⟩
  have hg1 := (grow_new w (.cells #[.string ⟨#[]⟩, .string ⟨#[]⟩, .string ⟨#[]⟩, .string ⟨#[]⟩, .string ⟨#[]⟩, .string ⟨#[]⟩, .slice none 0 0] 33))
  have hg2 := (grow_new (w.alloc (.cells #[.string ⟨#[]⟩, .string ⟨#[]⟩, .string ⟨#[]⟩, .string ⟨#[]⟩, .string ⟨#[]⟩, .string ⟨#[]⟩, .slice none 0 0] 33)) (.cells #[.string ⟨#[]⟩, .string ⟨#[]⟩, .string ⟨#[]⟩, .string ⟨#[]⟩, .string ⟨#[]⟩, .string ⟨#[]⟩, .slice none 0 0] 33))
  have hbx1 := boxH_new w hd0 none 0 0
  have hbx2 := boxH_new (w.alloc (.cells #[.string ⟨#[]⟩, .string ⟨#[]⟩, .string ⟨#[]⟩, .string ⟨#[]⟩, .string ⟨#[]⟩, .string ⟨#[]⟩, .slice none 0 0] 33)) hd0 none 0 0
  have HG2 : Hid (GuessAt w ((w.alloc (.cells #[.string ⟨#[]⟩, .string ⟨#[]⟩, .string ⟨#[]⟩, .string ⟨#[]⟩, .string ⟨#[]⟩, .string ⟨#[]⟩, .slice none 0 0] 33)).alloc (.cells #[.string ⟨#[]⟩, .string ⟨#[]⟩, .string ⟨#[]⟩, .string ⟨#[]⟩, .string ⟨#[]⟩, .string ⟨#[]⟩, .slice none 0 0] 33)) rb (rb + 1) hd0 none 0 0) := Lib.hid (by
    have e : rb + 1 = (w.alloc (.cells #[.string ⟨#[]⟩, .string ⟨#[]⟩, .string ⟨#[]⟩, .string ⟨#[]⟩, .string ⟨#[]⟩, .string ⟨#[]⟩, .slice none 0 0] 33)).heap.size := by rw [← hrb]; simp
    refine ⟨?_, ?_, strs_nil, hg1.trans hg2, (fun p e => by cases e), by omega, by omega, by omega, fun p e => by cases e⟩
    · rw [← hrb]; exact BoxH.grow hbx1 hg2
    · rw [e]; exact hbx2)
  have HRB := Lib.hid hrb
  have HWR : Hid (w.heap.size ≤ rb) := Lib.hid (by omega)
  clear hg1 hg2 hbx1 hbx2 hrb c2 c3 k3 k4 k5 k6 g1 g2 p1 p2 hs htl hdl hne hP hhd ht hr hN hN1 hN2
  go_enter Tryd.func63, Tryd.ntmps63
  go_upto_region 2 with fail
  rw [HRB.out]
  generalize (w.alloc (.cells #[.string ⟨#[]⟩, .string ⟨#[]⟩, .string ⟨#[]⟩, .string ⟨#[]⟩, .string ⟨#[]⟩, .string ⟨#[]⟩, .slice none 0 0] 33)).alloc (.cells #[.string ⟨#[]⟩, .string ⟨#[]⟩, .string ⟨#[]⟩, .string ⟨#[]⟩, .string ⟨#[]⟩, .string ⟨#[]⟩, .slice none 0 0] 33) = w2 at HG2 ⊢
  obtain ⟨hb, HHB⟩ : ∃ hb, Hid (rb + 1 = hb) := ⟨_, Lib.hid rfl⟩
  rw [HHB.out] at HG2 ⊢
  clear HHB
  go_wp2_with fail
  refine (HC1.out w2).mono ?_
  rintro e w3 ⟨g, N', cp, hN', rfl, hcp, hgb, hwd, hg⟩
  obtain rfl : N = N' := by rw [← HN.out]; exact hN'
  have HOFF : Hid (g ≠ hb ∧ g ≠ rb ∧ w.heap.size ≤ g) := Lib.hid (by
    have h1 := HG2.out.box.lt
    have h2 := HG2.out.res.lt
    have h3 := HG2.out.grow.size
    exact ⟨by omega, by omega, by omega⟩)
  have HR3 := Lib.hid (RAt.of HG2.out hg hwd hgb)
  have HAS := Lib.hid (rest_strs hwd (by rw [HN.out]; exact hcp))
  have HCP := Lib.hid hcp
  clear hN' hcp hgb hwd hg HC1 HG2
  have hrs := run_rest g N cp HNL.out.1
  obtain ⟨A, hA⟩ : ∃ A, restA g cp = A := ⟨_, rfl⟩
  have HXL : Hid (N - 1 ≤ cp - 1 ∧ (A = none → cp - 1 = 0) ∧ ∀ p, A = some p → p.block = g) := Lib.hid ⟨by have := HCP.out; omega, fun e => absurd (hA.trans e) restA_some, fun p e => restA_block (hA.trans e)⟩
  rw [hA] at hrs HAS
  clear hA
  have d6 := HR3.out.at_.box.at6
  have f6 := HR3.out.at_.box.froz 6
  go_upto_region 4 with fail
  generalize hw4 : w3.setCell ⟨hb, 6, none⟩ (.slice A (N - 1) (cp - 1)) = w4
  have HR4 : Hid (RAt w w4 rb hb ⟨[], [], [], [], [], [], P.drop 1⟩ A (N - 1) (cp - 1) g P) := Lib.hid (by
    rw [← hw4]
    refine ⟨HR3.out.at_.put6 A (N - 1) (cp - 1) (P.drop 1) HAS.out (fun p e => ?_) (HR3.out.words.free HXL.out.2.2), HR3.out.words.set HR3.out.ne _, HR3.out.ne⟩
    rw [HXL.out.2.2 p e]
    exact ⟨HOFF.out.1, HOFF.out.2.1⟩)
  have HXX : Hid ((P.drop 1).length = N - 1 ∧ N - 1 ≤ cp - 1 ∧ N - 1 ≤ 1050000 ∧ (A = none → cp - 1 = 0) ∧ ∀ p, A = some p → w.heap.size ≤ p.block) := Lib.hid ⟨HPL.out, HXL.out.1, by have := HNL.out.2; omega, HXL.out.2.1, fun p e => by rw [HXL.out.2.2 p e]; exact HOFF.out.2.2⟩
  clear hw4 d6 f6 hrs HR3 HAS HXL HOFF HCP HPL
  have hc0 := HR4.out.words.cell 0 (by rw [HN.out]; exact HNL.out.1)
  rw [HHD.out] at hc0
  have hn0 := HNL.out.1
  have hn0i : (0 : Int) < ((N : Nat) : Int) := by omega
  have HG4 := Lib.hid HR4.out.at_
  clear HR4
  go_wp2_with fail
  refine (HC2.out w4).mono ?_
  rintro e w6 ⟨rfl, hg⟩
  have HG6 := Lib.hid (HG4.out.next hg)
  clear hg HC2 HG4 hc0 hn0 hn0i HN HNL HHD
  obtain ⟨n, hn⟩ : ∃ n, N - 1 = n := ⟨_, rfl⟩
  obtain ⟨c, hc⟩ : ∃ c, cp - 1 = c := ⟨_, rfl⟩
  obtain ⟨ls, hls⟩ : ∃ ls, P.drop 1 = ls := ⟨_, rfl⟩
  rw [hn, hc, hls] at HXX HG6
  rw [hls] at HGP
  clear hn hc hls
  go_upto_if 29 with fail
  go_cut [5] (fun z wx => z = .string ⟨t.toArray⟩ ∧ Hid (GuessAt w wx rb hb ⟨r, [], [], [], [], [], ls⟩ A n c))
  case first =>
    cases u with
    | false =>
      have HE := Lib.hid (show t = x from by have := HTD.out; rw [if_neg (by decide)] at this; rw [this]; exact (HCF.out (by trivial)).symm)
      have HE2 := Lib.hid (show r = [] from HRD.out)
      go_wp2
      go_meet
      case rel => exact ⟨by rw [HE.out], by rw [HE2.out]; exact HG6⟩
    | true =>
      have HE := Lib.hid (show t = y from HTD.out)
      have HE2 := Lib.hid (show r = x from HRD.out)
      have d0 := HG6.out.box.at0
      have f0 := HG6.out.box.froz 0
      dsimp only at d0
      go_wp2
      go_meet
      case rel => exact ⟨by rw [HE.out], Lib.hid (by rw [HE2.out]; exact HG6.out.put 0 _ (HG6.out.box.put0 x) rfl)⟩
  case rest =>
  obtain ⟨rfl, HG7⟩ := hcut
  obtain ⟨w7, hv⟩ : ∃ w7, w7 = wc := ⟨_, rfl⟩
  subst hv
  clear HG6 HTD HRD
  go_wp2_with fail
  refine (HC3.out w7).mono ?_
  rintro e w8 ⟨rfl, hg⟩
  have HG8 := Lib.hid (HG7.out.next hg)
  clear hg HC3 HG7
  cases z with
  | false =>
    have HSP := Lib.hid (fun W => rsplit_any 32 t W (by have := HKK.out.1; omega))
    have HBD : Hid (guessR s = if 2 < (splitD 32 t).length then ⟨r, (splitD 32 t).getD 0 [], (splitD 32 t).getD 1 [], (splitD 32 t).getD 2 [], [], [], ls⟩ else ⟨r, [], (splitD 32 t).getD 0 [], (splitD 32 t).getD 1 [], [], [], ls⟩) := Lib.hid (by rw [HGP.out]; unfold bodyR; rw [HC.out]; rfl)
    have hne := split_ne 32 t
    obtain ⟨ws, hws⟩ : ∃ ws, splitD 32 t = ws := ⟨_, rfl⟩
    rw [hws] at HSP HBD hne
    have HNE := Lib.hid (List.length_pos_iff.2 hne)
    clear hws hne HGP HC
    go_wp2_with fail
    refine (HSP.out w8).mono ?_
    rintro e w9 ⟨g2, m, cp2, hm, rfl, hcp, hgb, hwd, hg⟩
    have HR9 := Lib.hid (RAt.of HG8.out hg hwd hgb)
    have hm0 : 0 < m := by rw [← hm]; exact HNE.out
    have hm0i : (0 : Int) < ((m : Nat) : Int) := by omega
    have HM := Lib.hid hm
    have HW0 := Lib.hid (fun i (h : i < m) W (k : WordsAt W g2 ws) => k.cell i (by rw [hm]; exact h))
    have HWN := Lib.hid (fun i (h : m ≤ i) => getD_none hm h)
    clear hm hcp hgb hwd hg HSP HG8 HNE
    obtain ⟨y0, hy0⟩ : ∃ y0, ws.getD 0 [] = y0 := ⟨_, rfl⟩
    obtain ⟨y1, hy1⟩ : ∃ y1, ws.getD 1 [] = y1 := ⟨_, rfl⟩
    obtain ⟨y2, hy2⟩ : ∃ y2, ws.getD 2 [] = y2 := ⟨_, rfl⟩
    rw [hy0, hy1, hy2, HM.out] at HBD
    have HY0 := Lib.hid hy0
    have HY1 := Lib.hid hy1
    have HY2 := Lib.hid hy2
    clear hy0 hy1 hy2
    have e0 := HW0.out 0 hm0 w9 HR9.out.words
    rw [HY0.out] at e0
    have d2 := HR9.out.at_.box.at2
    have f2 := HR9.out.at_.box.froz 2
    dsimp only at d2
    go_upto_region 22 with fail
    generalize hw10 : w9.setCell ⟨hb, 2, none⟩ (.string ⟨y0.toArray⟩) = w10
    have HR10 : Hid (RAt w w10 rb hb ⟨r, [], y0, [], [], [], ls⟩ A n c g2 ws) := Lib.hid (by
      rw [← hw10]
      exact HR9.out.put 2 (.string ⟨y0.toArray⟩) (HR9.out.at_.box.put2 y0) rfl)
    clear hw10 e0 d2 f2 HR9
    go_upto_if 89 with fail
    go_cut [] (fun wx => Hid (RAt w wx rb hb ⟨r, [], y0, y1, [], [], ls⟩ A n c g2 ws))
    case first =>
      by_cases h1 : 1 < m
      · have h1i : (1 : Int) < ((m : Nat) : Int) := by omega
        have h1b : decide ((1 : Int) < ((m : Nat) : Int)) = true := decide_eq_true h1i
        have h1c : decide (1 < m) = true := decide_eq_true h1
        have e1 := HW0.out 1 h1 w10 HR10.out.words
        rw [HY1.out] at e1
        have d3 := HR10.out.at_.box.at3
        have f3 := HR10.out.at_.box.froz 3
        dsimp only at d3
        go_wp2
        go_meet
        case rel => exact Lib.hid (HR10.out.put 3 (.string ⟨y1.toArray⟩) (HR10.out.at_.box.put3 y1) rfl)
      · have h1i : ¬ (1 : Int) < ((m : Nat) : Int) := by omega
        have h1b : decide ((1 : Int) < ((m : Nat) : Int)) = false := decide_eq_false h1i
        have h1c : decide (1 < m) = false := decide_eq_false h1
        have HE : Hid (y1 = []) := Lib.hid (by rw [← HY1.out]; exact HWN.out 1 (by omega))
        go_wp2
        go_meet
        case rel => rw [HE.out]; exact HR10
    case rest =>
    obtain ⟨w11, hv⟩ : ∃ w11, w11 = wc := ⟨_, rfl⟩
    subst hv
    have HR11 := hcut
    clear hcut HR10
    obtain ⟨G, HGE⟩ : ∃ G, Hid (guessR s = G) := ⟨_, Lib.hid rfl⟩
    rw [HGE.out] at HBD HEA
    go_upto_if 96 with fail
    go_cut [] (fun wx => Hid (GuessAt w wx rb hb G A n c ∧ G.locs = ls))
    case first =>
      by_cases h1 : 2 < m
      · have h1i : (2 : Int) < ((m : Nat) : Int) := by omega
        have h1b : decide ((2 : Int) < ((m : Nat) : Int)) = true := decide_eq_true h1i
        have h1c : decide (2 < m) = true := decide_eq_true h1
        have HGG : Hid (G = ⟨r, y0, y1, y2, [], [], ls⟩) := Lib.hid (by rw [HBD.out, if_pos h1])
        have h11 : 1 < m := by omega
        have h11i : (1 : Int) < ((m : Nat) : Int) := by omega
        have e0 := HW0.out 0 hm0 w11 HR11.out.words
        rw [HY0.out] at e0
        have d1 := HR11.out.at_.box.at1
        have f1 := HR11.out.at_.box.froz 1
        dsimp only at d1
        go_upto_region 26 with fail
        generalize hw12 : w11.setCell ⟨hb, 1, none⟩ (.string ⟨y0.toArray⟩) = w12
        have HR12 : Hid (RAt w w12 rb hb ⟨r, y0, y0, y1, [], [], ls⟩ A n c g2 ws) := Lib.hid (by
          rw [← hw12]
          exact HR11.out.put 1 (.string ⟨y0.toArray⟩) (HR11.out.at_.box.put1 y0) rfl)
        clear hw12 e0 d1 f1 HR11
        have e1 := HW0.out 1 h11 w12 HR12.out.words
        rw [HY1.out] at e1
        have d2 := HR12.out.at_.box.at2
        have f2 := HR12.out.at_.box.froz 2
        dsimp only at d2
        go_upto_region 27 with fail
        generalize hw13 : w12.setCell ⟨hb, 2, none⟩ (.string ⟨y1.toArray⟩) = w13
        have HR13 : Hid (RAt w w13 rb hb ⟨r, y0, y1, y1, [], [], ls⟩ A n c g2 ws) := Lib.hid (by
          rw [← hw13]
          exact HR12.out.put 2 (.string ⟨y1.toArray⟩) (HR12.out.at_.box.put2 y1) rfl)
        clear hw13 e1 d2 f2 HR12
        have e2 := HW0.out 2 h1 w13 HR13.out.words
        rw [HY2.out] at e2
        have d3 := HR13.out.at_.box.at3
        have f3 := HR13.out.at_.box.froz 3
        dsimp only at d3
        go_wp2
        go_meet
        case rel =>
          refine Lib.hid ?_
          rw [HGG.out]
          exact ⟨(HR13.out.put 3 (.string ⟨y2.toArray⟩) (HR13.out.at_.box.put3 y2) rfl).at_, rfl⟩
      · have h1i : ¬ (2 : Int) < ((m : Nat) : Int) := by omega
        have h1b : decide ((2 : Int) < ((m : Nat) : Int)) = false := decide_eq_false h1i
        have h1c : decide (2 < m) = false := decide_eq_false h1
        have HGG : Hid (G = ⟨r, [], y0, y1, [], [], ls⟩) := Lib.hid (by rw [HBD.out, if_neg h1])
        go_wp2
        go_meet
        case rel =>
          refine Lib.hid ?_
          rw [HGG.out]
          exact ⟨HR11.out.at_, rfl⟩
    case rest =>
    obtain ⟨w14, hv⟩ : ∃ w14, w14 = wc := ⟨_, rfl⟩
    subst hv
    have HN10 := Lib.hid hcut.out.1
    have HLO := Lib.hid hcut.out.2
    rw [← HLO.out] at HXX
    have HXL := HXX
    clear hcut HR11 HXX
    have b0 := HN10.out.box.at0
    have b1 := HN10.out.box.at1
    have b2 := HN10.out.box.at2
    have b3 := HN10.out.box.at3
    have b4 := HN10.out.box.at4
    have b5 := HN10.out.box.at5
    have b6 := HN10.out.box.at6
    have r0 := HN10.out.res.at0
    have r1 := HN10.out.res.at1
    have r2 := HN10.out.res.at2
    have r3 := HN10.out.res.at3
    have r4 := HN10.out.res.at4
    have r5 := HN10.out.res.at5
    have r6 := HN10.out.res.at6
    have f0 := HN10.out.res.froz 0
    have f1 := HN10.out.res.froz 1
    have f2 := HN10.out.res.froz 2
    have f3 := HN10.out.res.froz 3
    have f4 := HN10.out.res.froz 4
    have f5 := HN10.out.res.froz 5
    have f6 := HN10.out.res.froz 6
    go_wp2
    generalize hw11 : World.setCell _ _ _ = w11
    have hs11 : BoxH w11 rb G A n c := by rw [← hw11]; exact HN10.out.res.all G A n c
    have HGR := Lib.hid (show Grow w w11 by rw [← hw11]; exact Below.trans HN10.out.grow (below_all _ _ _ HN10.out.le _ _ _ _ _ _ _))
    have HST := Lib.hid (show Strs w11 w11.heap.size A G.locs by rw [← hw11, size_all]; exact strs_all HN10.out.strs (fun p e => (HN10.out.off p e).2) _ _ _ _ _ _ _)
    have c0 := hs11.at0
    have c1 := hs11.at1
    have c2 := hs11.at2
    have c3 := hs11.at3
    have c4 := hs11.at4
    have c5 := hs11.at5
    have c6 := hs11.at6
    exact bodyPost_ret (v := hdV G A n c) (by simp [hdV, strv, results, Tryd.results63, go_sem, c0, c1, c2, c3, c4, c5, c6]) rfl (by rw [HGE.out]; exact ⟨A, n, c, rfl, ⟨HXL.out.1, HXL.out.2.1, HXL.out.2.2.1, HXL.out.2.2.2.1, HST.out, HEA.out⟩, HGR.out, HXL.out.2.2.2.2⟩)
  | true =>
    have hkk := HKK.out
    obtain ⟨i, o, z2, c4, k1, k2⟩ := cut_named rest [41]
    obtain ⟨lf, lo, lz, c5, k3, k4⟩ := cut_named a [32]
    obtain ⟨ro, rt, rz, c6, k5, k6⟩ := cut_named o [32]
    have HC4 := Lib.hid (fun W => rcut_says c4 W (by omega) (by decide))
    have HC5 := Lib.hid (fun W => rcut_says c5 W (by omega) (by decide))
    have HC6 := Lib.hid (fun W => rcut_says c6 W (by omega) (by decide))
    have HSP := Lib.hid (fun W => rsplit_any 32 i W (by omega))
    have HBD : Hid (guessR s = ⟨r, lf, (splitD 32 i).getD 1 [], rt, (splitD 32 i).getD 0 [], (splitD 32 i).getD 2 [], ls⟩) := Lib.hid (by
      rw [HGP.out]
      unfold bodyR
      rw [HC.out]
      dsimp only
      rw [c4]
      dsimp only
      rw [c5, c6]
      rfl)
    have hne := split_ne 32 i
    obtain ⟨ws, hws⟩ : ∃ ws, splitD 32 i = ws := ⟨_, rfl⟩
    rw [hws] at HSP HBD hne
    have HNE := Lib.hid (List.length_pos_iff.2 hne)
    clear hws hne HGP HC hkk c4 c5 c6 k1 k2 k3 k4 k5 k6
    go_wp2_with fail
    refine (HC4.out w8).mono ?_
    rintro e w9 ⟨rfl, hg⟩
    have HG9 := Lib.hid (HG8.out.next hg)
    clear hg HC4 HG8
    go_wp2_with fail
    refine (HSP.out w9).mono ?_
    rintro e w10 ⟨g2, m, cp2, hm, rfl, hcp, hgb, hwd, hg⟩
    have HR9 := Lib.hid (RAt.of HG9.out hg hwd hgb)
    have hm0 : 0 < m := by rw [← hm]; exact HNE.out
    have hm0i : (0 : Int) < ((m : Nat) : Int) := by omega
    have HM := Lib.hid hm
    have HW0 := Lib.hid (fun i (h : i < m) W (k : WordsAt W g2 ws) => k.cell i (by rw [hm]; exact h))
    have HWN := Lib.hid (fun i (h : m ≤ i) => getD_none hm h)
    clear hm hcp hgb hwd hg HSP HG9 HNE
    obtain ⟨y0, hy0⟩ : ∃ y0, ws.getD 0 [] = y0 := ⟨_, rfl⟩
    obtain ⟨y1, hy1⟩ : ∃ y1, ws.getD 1 [] = y1 := ⟨_, rfl⟩
    obtain ⟨y2, hy2⟩ : ∃ y2, ws.getD 2 [] = y2 := ⟨_, rfl⟩
    rw [hy0, hy1, hy2] at HBD
    have HY0 := Lib.hid hy0
    have HY1 := Lib.hid hy1
    have HY2 := Lib.hid hy2
    clear hy0 hy1 hy2
    have e0 := HW0.out 0 hm0 w10 HR9.out.words
    rw [HY0.out] at e0
    have d4 := HR9.out.at_.box.at4
    have f4 := HR9.out.at_.box.froz 4
    dsimp only at d4
    go_upto_region 13 with fail
    generalize hw11 : w10.setCell ⟨hb, 4, none⟩ (.string ⟨y0.toArray⟩) = w11
    have HR11 : Hid (RAt w w11 rb hb ⟨r, [], [], [], y0, [], ls⟩ A n c g2 ws) := Lib.hid (by
      rw [← hw11]
      exact HR9.out.put 4 (.string ⟨y0.toArray⟩) (HR9.out.at_.box.put4 y0) rfl)
    clear hw11 e0 d4 f4 HR9
    go_upto_if 54 with fail
    go_cut [] (fun wx => Hid (RAt w wx rb hb ⟨r, [], y1, [], y0, [], ls⟩ A n c g2 ws))
    case first =>
      by_cases h1 : 1 < m
      · have h1i : (1 : Int) < ((m : Nat) : Int) := by omega
        have h1b : decide ((1 : Int) < ((m : Nat) : Int)) = true := decide_eq_true h1i
        have h1c : decide (1 < m) = true := decide_eq_true h1
        have e1 := HW0.out 1 h1 w11 HR11.out.words
        rw [HY1.out] at e1
        have d2 := HR11.out.at_.box.at2
        have f2 := HR11.out.at_.box.froz 2
        dsimp only at d2
        go_wp2
        go_meet
        case rel => exact Lib.hid (HR11.out.put 2 (.string ⟨y1.toArray⟩) (HR11.out.at_.box.put2 y1) rfl)
      · have h1i : ¬ (1 : Int) < ((m : Nat) : Int) := by omega
        have h1b : decide ((1 : Int) < ((m : Nat) : Int)) = false := decide_eq_false h1i
        have h1c : decide (1 < m) = false := decide_eq_false h1
        have HE : Hid (y1 = []) := Lib.hid (by rw [← HY1.out]; exact HWN.out 1 (by omega))
        go_wp2
        go_meet
        case rel => rw [HE.out]; exact HR11
    case rest =>
    obtain ⟨w12, hv⟩ : ∃ w12, w12 = wc := ⟨_, rfl⟩
    subst hv
    have HR12 := hcut
    clear hcut HR11
    go_upto_if 61 with fail
    go_cut [] (fun wx => Hid (GuessAt w wx rb hb ⟨r, [], y1, [], y0, y2, ls⟩ A n c))
    case first =>
      by_cases h1 : 2 < m
      · have h1i : (2 : Int) < ((m : Nat) : Int) := by omega
        have h1b : decide ((2 : Int) < ((m : Nat) : Int)) = true := decide_eq_true h1i
        have h1c : decide (2 < m) = true := decide_eq_true h1
        have e2 := HW0.out 2 h1 w12 HR12.out.words
        rw [HY2.out] at e2
        have d5 := HR12.out.at_.box.at5
        have f5 := HR12.out.at_.box.froz 5
        dsimp only at d5
        go_wp2
        go_meet
        case rel => exact Lib.hid (HR12.out.put 5 (.string ⟨y2.toArray⟩) (HR12.out.at_.box.put5 y2) rfl).at_
      · have h1i : ¬ (2 : Int) < ((m : Nat) : Int) := by omega
        have h1b : decide ((2 : Int) < ((m : Nat) : Int)) = false := decide_eq_false h1i
        have h1c : decide (2 < m) = false := decide_eq_false h1
        have HE : Hid (y2 = []) := Lib.hid (by rw [← HY2.out]; exact HWN.out 2 (by omega))
        go_wp2
        go_meet
        case rel => rw [HE.out]; exact Lib.hid HR12.out.at_
    case rest =>
    obtain ⟨w13, hv⟩ : ∃ w13, w13 = wc := ⟨_, rfl⟩
    subst hv
    have HG13 := hcut
    clear hcut HR12 HW0 HWN HY0 HY1 HY2 HM
    go_wp2_with fail
    refine (HC5.out w13).mono ?_
    rintro e w14 ⟨rfl, hg⟩
    have HG14 := Lib.hid (HG13.out.next hg)
    clear hg HC5 HG13
    have d1 := HG14.out.box.at1
    have f1 := HG14.out.box.froz 1
    dsimp only at d1
    go_upto_region 18 with fail
    generalize hw15 : w14.setCell ⟨hb, 1, none⟩ (.string ⟨lf.toArray⟩) = w15
    have HG15 : Hid (GuessAt w w15 rb hb ⟨r, lf, y1, [], y0, y2, ls⟩ A n c) := Lib.hid (by
      rw [← hw15]
      exact HG14.out.put 1 (.string ⟨lf.toArray⟩) (HG14.out.box.put1 lf) rfl)
    clear hw15 d1 f1 HG14
    go_wp2_with fail
    refine (HC6.out w15).mono ?_
    rintro e w16 ⟨rfl, hg⟩
    have HG16 := Lib.hid (HG15.out.next hg)
    clear hg HC6 HG15
    have d3 := HG16.out.box.at3
    have f3 := HG16.out.box.froz 3
    dsimp only at d3
    go_upto_region 19 with fail
    generalize hw17 : w16.setCell ⟨hb, 3, none⟩ (.string ⟨rt.toArray⟩) = w17
    have HG17 : Hid (GuessAt w w17 rb hb ⟨r, lf, y1, rt, y0, y2, ls⟩ A n c) := Lib.hid (by
      rw [← hw17]
      exact HG16.out.put 3 (.string ⟨rt.toArray⟩) (HG16.out.box.put3 rt) rfl)
    clear hw17 d3 f3 HG16
    obtain ⟨G, HGE⟩ : ∃ G, Hid (guessR s = G) := ⟨_, Lib.hid rfl⟩
    rw [HGE.out] at HBD HEA
    have HLO : Hid (G.locs = ls) := Lib.hid (by rw [HBD.out])
    have HN10 : Hid (GuessAt w w17 rb hb G A n c) := Lib.hid (by rw [HBD.out]; exact HG17.out)
    rw [← HLO.out] at HXX
    have HXL := HXX
    clear HG17 HXX
    have b0 := HN10.out.box.at0
    have b1 := HN10.out.box.at1
    have b2 := HN10.out.box.at2
    have b3 := HN10.out.box.at3
    have b4 := HN10.out.box.at4
    have b5 := HN10.out.box.at5
    have b6 := HN10.out.box.at6
    have r0 := HN10.out.res.at0
    have r1 := HN10.out.res.at1
    have r2 := HN10.out.res.at2
    have r3 := HN10.out.res.at3
    have r4 := HN10.out.res.at4
    have r5 := HN10.out.res.at5
    have r6 := HN10.out.res.at6
    have f0 := HN10.out.res.froz 0
    have f1 := HN10.out.res.froz 1
    have f2 := HN10.out.res.froz 2
    have f3 := HN10.out.res.froz 3
    have f4 := HN10.out.res.froz 4
    have f5 := HN10.out.res.froz 5
    have f6 := HN10.out.res.froz 6
    go_wp2
    generalize hw11 : World.setCell _ _ _ = w11
    have hs11 : BoxH w11 rb G A n c := by rw [← hw11]; exact HN10.out.res.all G A n c
    have HGR := Lib.hid (show Grow w w11 by rw [← hw11]; exact Below.trans HN10.out.grow (below_all _ _ _ HN10.out.le _ _ _ _ _ _ _))
    have HST := Lib.hid (show Strs w11 w11.heap.size A G.locs by rw [← hw11, size_all]; exact strs_all HN10.out.strs (fun p e => (HN10.out.off p e).2) _ _ _ _ _ _ _)
    have c0 := hs11.at0
    have c1 := hs11.at1
    have c2 := hs11.at2
    have c3 := hs11.at3
    have c4 := hs11.at4
    have c5 := hs11.at5
    have c6 := hs11.at6
    exact bodyPost_ret (v := hdV G A n c) (by simp [hdV, strv, results, Tryd.results63, go_sem, c0, c1, c2, c3, c4, c5, c6]) rfl (by rw [HGE.out]; exact ⟨A, n, c, rfl, ⟨HXL.out.1, HXL.out.2.1, HXL.out.2.2.1, HXL.out.2.2.2.1, HST.out, HEA.out⟩, HGR.out, HXL.out.2.2.2.2⟩)
end Go.Proofs.YtcnijmmpkahoaaaDoor
