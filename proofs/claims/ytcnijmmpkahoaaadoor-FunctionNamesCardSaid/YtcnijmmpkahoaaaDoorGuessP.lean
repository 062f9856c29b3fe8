/-
  What header.guess comes to, called with any text. Nothing is claimed here by itself.
-/
import Derived.Test.YtcnijmmpkahoaaaDoorWordsP
namespace Go.Proofs.YtcnijmmpkahoaaaDoor
open Go.RowKit Go.Lib
set_option linter.unusedSimpArgs false
set_option linter.unusedVariables false
set_option maxRecDepth 10000

/-- a row's block bears no mark -/
def RowFree (W : World) (A : Option Addr) : Prop := ∀ p, A = some p → ∃ cs t, W.heap[p.block]? = some (.cells cs t (0, 0))
theorem RowFree.grow {W W' : World} {A : Option Addr} (h : RowFree W A) (hg : Grow W W') : RowFree W' A := fun p e => by
  obtain ⟨cs, t, k⟩ := h p e
  exact ⟨cs, t, (hg.block p.block (heap_lt k)).trans k⟩
theorem RowFree.set {W : World} {A : Option Addr} {b i : Nat} (h : RowFree W A) (ho : ∀ p, A = some p → p.block ≠ b) (v : Value) : RowFree (W.setCell ⟨b, i, none⟩ v) A := fun p e => by
  obtain ⟨cs, t, k⟩ := h p e
  exact ⟨cs, t, (heap_setCell_other W ⟨b, i, none⟩ p.block v (ho p e)).trans k⟩
theorem RowFree.at {W : World} {A : Option Addr} (h : RowFree W A) {b off : Nat} (e : A = some ⟨b, off, none⟩) (j : Nat) : W.frozen? ⟨b, j, none⟩ = false := by
  obtain ⟨cs, t, k⟩ := h _ e
  exact frozen_of_row W b j cs t k
/-- two heads in blocks of the call's own: the answer's, nothing yet, and the one that is read -/
structure GuessAt (w W : World) (rb hb : Nat) (h : Hd) (A : Option Addr) (n c : Nat) : Prop where
  res : BoxH W rb hd0 none 0 0
  box : BoxH W hb h A n c
  strs : Strs W W.heap.size A h.locs
  grow : Grow w W
  off : ∀ p, A = some p → p.block ≠ hb ∧ p.block ≠ rb
  ne : rb ≠ hb
  le : w.heap.size ≤ rb
  le' : w.heap.size ≤ hb
  row : RowFree W A
section
variable {w W W' : World} {rb hb : Nat} {h : Hd} {A : Option Addr} {n c : Nat}
theorem GuessAt.next (k : GuessAt w W rb hb h A n c) (hg : Grow W W') : GuessAt w W' rb hb h A n c :=
  ⟨k.res.grow hg, k.box.grow hg, k.strs.grow hg, k.grow.trans hg, k.off, k.ne, k.le, k.le', k.row.grow hg⟩
theorem Strs.set {ls : List (List UInt8)} {b i B : Nat} (k : Strs W B A ls) (h : ∀ p, A = some p → p.block ≠ b) (v : Value) : Strs (W.setCell ⟨b, i, none⟩ v) B A ls := fun hn => by
  obtain ⟨b', off, e, hb, hc⟩ := k hn
  have hne := h _ e
  refine ⟨b', off, e, hb, fun j hj => ?_⟩
  rw [World.cell?_setCell_other _ _ _ _ (fun e => hne (by injection e with e1; exact e1.symm))]
  exact hc j hj
theorem setCell_size (w : World) (a : Addr) (v : Value) : (w.setCell a v).heap.size = w.heap.size := by simp [World.setCell]
theorem GuessAt.put (k : GuessAt w W rb hb h A n c) (i : Nat) (v : Value) {h' : Hd} (hk : BoxH (W.setCell ⟨hb, i, none⟩ v) hb h' A n c) (hl : h'.locs = h.locs) : GuessAt w (W.setCell ⟨hb, i, none⟩ v) rb hb h' A n c :=
  ⟨(heap_setCell_other W ⟨hb, i, none⟩ rb v k.ne).trans k.res, hk, by rw [hl, setCell_size]; exact k.strs.set (fun p e => (k.off p e).1) v, Below.setCell k.grow k.le' v, k.off, k.ne, k.le, k.le', k.row.set (fun p e => (k.off p e).1) v⟩
theorem GuessAt.put6 (k : GuessAt w W rb hb h A n c) (A' : Option Addr) (n' c' : Nat) (ls : List (List UInt8)) (hs : Strs W W.heap.size A' ls) (ho : ∀ p, A' = some p → p.block ≠ hb ∧ p.block ≠ rb) (hr : RowFree W A') :
    GuessAt w (W.setCell ⟨hb, 6, none⟩ (.slice A' n' c')) rb hb { h with locs := ls } A' n' c' :=
  ⟨(heap_setCell_other W ⟨hb, 6, none⟩ rb _ k.ne).trans k.res, k.box.put6 A' n' c' ls, by rw [setCell_size]; exact hs.set (fun p e => (ho p e).1) _, Below.setCell k.grow k.le' _, ho, k.ne, k.le, k.le', hr.set (fun p e => (ho p e).1) _⟩
end
theorem BoxH.all {W : World} {b : Nat} {h0 : Hd} {A0 : Option Addr} {n0 c0 : Nat} (k : BoxH W b h0 A0 n0 c0) (h : Hd) (A : Option Addr) (n c : Nat) :
    BoxH (((((((W.setCell ⟨b, 0, none⟩ (.string ⟨h.res.toArray⟩)).setCell ⟨b, 1, none⟩ (.string ⟨h.left.toArray⟩)).setCell ⟨b, 2, none⟩ (.string ⟨h.name.toArray⟩)).setCell ⟨b, 3, none⟩ (.string ⟨h.right.toArray⟩)).setCell ⟨b, 4, none⟩ (.string ⟨h.f.toArray⟩)).setCell ⟨b, 5, none⟩ (.string ⟨h.g.toArray⟩)).setCell ⟨b, 6, none⟩ (.slice A n c)) b h A n c :=
  ((((((k.put0 h.res).put1 h.left).put2 h.name).put3 h.right).put4 h.f).put5 h.g).put6 A n c h.locs
theorem below_all (B : Nat) (W : World) (b : Nat) (hb : B ≤ b) (v0 v1 v2 v3 v4 v5 v6 : Value) :
    Below B W (((((((W.setCell ⟨b, 0, none⟩ v0).setCell ⟨b, 1, none⟩ v1).setCell ⟨b, 2, none⟩ v2).setCell ⟨b, 3, none⟩ v3).setCell ⟨b, 4, none⟩ v4).setCell ⟨b, 5, none⟩ v5).setCell ⟨b, 6, none⟩ v6) :=
  Below.setCell (Below.setCell (Below.setCell (Below.setCell (Below.setCell (Below.setCell (Below.setCell (Below.refl B W) hb v0) hb v1) hb v2) hb v3) hb v4) hb v5) hb v6
/-- a head that a call answers with -/
def Heads (h : Hd) (w : World) (e : Ending) (w' : World) : Prop := ∃ A n c, e = .returned (hdV h A n c) ∧ HdIn w' A n c h ∧ Grow w w' ∧ (∀ p, A = some p → w.heap.size ≤ p.block) ∧ RowFree w' A

theorem strs_all {W : World} {B b : Nat} {A : Option Addr} {ls : List (List UInt8)} (k : Strs W B A ls) (h : ∀ p, A = some p → p.block ≠ b) (v0 v1 v2 v3 v4 v5 v6 : Value) :
    Strs (((((((W.setCell ⟨b, 0, none⟩ v0).setCell ⟨b, 1, none⟩ v1).setCell ⟨b, 2, none⟩ v2).setCell ⟨b, 3, none⟩ v3).setCell ⟨b, 4, none⟩ v4).setCell ⟨b, 5, none⟩ v5).setCell ⟨b, 6, none⟩ v6) B A ls :=
  ((((((k.set h v0).set h v1).set h v2).set h v3).set h v4).set h v5).set h v6
theorem free_all {W : World} {b : Nat} {A : Option Addr} (k : RowFree W A) (h : ∀ p, A = some p → p.block ≠ b) (v0 v1 v2 v3 v4 v5 v6 : Value) :
    RowFree (((((((W.setCell ⟨b, 0, none⟩ v0).setCell ⟨b, 1, none⟩ v1).setCell ⟨b, 2, none⟩ v2).setCell ⟨b, 3, none⟩ v3).setCell ⟨b, 4, none⟩ v4).setCell ⟨b, 5, none⟩ v5).setCell ⟨b, 6, none⟩ v6) A :=
  ((((((k.set h v0).set h v1).set h v2).set h v3).set h v4).set h v5).set h v6
theorem size_all (W : World) (b : Nat) (v0 v1 v2 v3 v4 v5 v6 : Value) :
    (((((((W.setCell ⟨b, 0, none⟩ v0).setCell ⟨b, 1, none⟩ v1).setCell ⟨b, 2, none⟩ v2).setCell ⟨b, 3, none⟩ v3).setCell ⟨b, 4, none⟩ v4).setCell ⟨b, 5, none⟩ v5).setCell ⟨b, 6, none⟩ v6).heap.size = W.heap.size := by
  simp only [setCell_size]

/-! ### how long what is read may be -/
theorem trims_len (s p : List UInt8) : (trimSuffix s p).length ≤ s.length := by
  unfold trimSuffix
  split
  · rw [List.length_take]; omega
  · exact Nat.le_refl _
theorem trimp_len (s p : List UInt8) : (trimPrefix s p).length ≤ s.length := by
  unfold trimPrefix
  split
  · rw [List.length_drop]; omega
  · exact Nat.le_refl _
theorem locs_len (s : List UInt8) : (locsD s).length ≤ s.length + 1 ∧ ∀ x ∈ locsD s, x.length ≤ s.length := by
  unfold locsD
  have h := (cut_len s [59]).2
  split
  · obtain ⟨h1, h2⟩ := split_len 59 _ (cut s [59]).2.1 (Nat.le_refl _)
    exact ⟨by omega, fun x hx => by have := h2 x hx; omega⟩
  · simp
theorem res_len (s : List UInt8) : (resD s).length ≤ s.length ∧ (tailD s).length ≤ s.length := by
  unfold resD tailD
  obtain ⟨h1, h2⟩ := cut_len s arrowT
  constructor
  · split
    · exact h1
    · exact Nat.zero_le _
  · split
    · exact h2
    · exact Nat.le_refl _
theorem body_len {r t : List UInt8} {ls : List (List UInt8)} {m : Nat} (hr : r.length ≤ m) (ht : t.length ≤ m) (hl : ∀ x ∈ ls, x.length ≤ m) : (∀ x ∈ allH (bodyP r t ls), x.length ≤ m) ∧ (bodyP r t ls).locs = ls := by
  obtain ⟨h1, h2⟩ := cut_len t [40]
  obtain ⟨h3, h4⟩ := cut_len (cut t [40]).2.1 [41]
  obtain ⟨h5, h6, h7⟩ := words_len (cut (cut t [40]).2.1 [41]).1
  have h8 := trims_len (cut t [40]).1 [32]
  have h9 := trimp_len (cut (cut t [40]).2.1 [41]).2.1 [32]
  obtain ⟨a1, a2, a3⟩ := args_len t
  unfold bodyP
  split
  · refine ⟨fun x hx => ?_, rfl⟩
    simp only [allH, List.mem_cons] at hx
    rcases hx with rfl | rfl | rfl | rfl | rfl | rfl | hx
    · exact hr
    · omega
    · omega
    · omega
    · omega
    · omega
    · exact hl x hx
  · refine ⟨fun x hx => ?_, rfl⟩
    simp only [allH, List.mem_cons] at hx
    rcases hx with rfl | rfl | rfl | rfl | rfl | rfl | hx
    · exact hr
    · omega
    · omega
    · omega
    · exact Nat.zero_le _
    · exact Nat.zero_le _
    · exact hl x hx
theorem guess_len (s : List UInt8) : (∀ x ∈ allH (guessP s), x.length ≤ s.length) ∧ (guessP s).locs = locsD s ∧ (guessP s).locs.length ≤ s.length + 1 := by
  have h1 := (cut_len s [59]).1
  obtain ⟨h2, h3⟩ := res_len (cut s [59]).1
  obtain ⟨h4, h5⟩ := locs_len s
  obtain ⟨h6, h7⟩ := body_len (m := s.length) (r := resD (cut s [59]).1) (t := tailD (cut s [59]).1) (ls := locsD s) (by omega) (by omega) h5
  exact ⟨h6, h7, by show (guessP s).locs.length ≤ _; rw [show (guessP s).locs = locsD s from h7]; exact h4⟩

set_option maxHeartbeats 6400000 in
theorem guess_any (s : List UInt8) (w : World) (hs : s.length ≤ 800000) (hm : MaxAt w) : Calls Tryd.prog 43 #[.string ⟨s.toArray⟩] w (Heads (guessP s) w) := by
  obtain ⟨hd, tl, v, c1, k1, k2⟩ := cut_named s [59]
  obtain ⟨x, y, u, c2, k3, k4⟩ := cut_named hd arrowT
  obtain ⟨g1, g2, g3⟩ := guess_len s
  have HEA := Lib.hid (show ∀ x ∈ allH (guessP s), x.length ≤ 1100000 from fun x hx => by have := g1 x hx; omega)
  have HLE := Lib.hid (show (guessP s).locs.length ≤ 1050000 by omega)
  have HLOC := Lib.hid g2
  have HLD : Hid (locsD s = if v = true then splitD 59 tl else []) := Lib.hid (by unfold locsD; rw [c1])
  have HTD : Hid (tailD hd = if u = true then y else hd) := Lib.hid (by unfold tailD; rw [c2])
  have HRD : Hid (resD hd = if u = true then x else []) := Lib.hid (by unfold resD; rw [c2])
  have HGP : Hid (guessP s = bodyP (resD hd) (tailD hd) (locsD s)) := Lib.hid (by unfold guessP; rw [c1])
  have htl : (tailD hd).length ≤ 800000 := by have := (res_len hd).2; omega
  obtain ⟨a, rest, z, c3, k5, k6⟩ := cut_named (tailD hd) [40]
  have HM := Lib.hid hm
  have HC1 := Lib.hid (fun W hW => cut_says c1 W (by omega) (hm.grow hW))
  have HC2 := Lib.hid (fun W hW => cut_says c2 W (by omega) (hm.grow hW))
  have HC3 := Lib.hid (fun W hW => cut_says c3 W (by omega) (hm.grow hW))
  have HSP := Lib.hid (fun W hW => split_any 59 tl _ W rfl (by omega) (hm.grow hW))
  have HAR := Lib.hid (fun W hW => args_any (tailD hd) W (by omega) (hm.grow hW))
  have HC := Lib.hid (show cut (tailD hd) [40] = (a, rest, z) from c3)
  have HKK := Lib.hid (show a.length ≤ 800000 ∧ rest.length ≤ 800000 by omega)
  obtain ⟨rb, hrb⟩ : ∃ rb, w.heap.size = rb := ⟨_, rfl⟩
  have hg1 := (grow_new w (.cells #[.string ⟨#[]⟩, .string ⟨#[]⟩, .string ⟨#[]⟩, .string ⟨#[]⟩, .string ⟨#[]⟩, .string ⟨#[]⟩, .slice none 0 0] 33))
  have hg2 := (grow_new (w.alloc (.cells #[.string ⟨#[]⟩, .string ⟨#[]⟩, .string ⟨#[]⟩, .string ⟨#[]⟩, .string ⟨#[]⟩, .string ⟨#[]⟩, .slice none 0 0] 33)) (.cells #[.string ⟨#[]⟩, .string ⟨#[]⟩, .string ⟨#[]⟩, .string ⟨#[]⟩, .string ⟨#[]⟩, .string ⟨#[]⟩, .slice none 0 0] 33))
  have hbx1 := boxH_new w hd0 none 0 0
  have hbx2 := boxH_new (w.alloc (.cells #[.string ⟨#[]⟩, .string ⟨#[]⟩, .string ⟨#[]⟩, .string ⟨#[]⟩, .string ⟨#[]⟩, .string ⟨#[]⟩, .slice none 0 0] 33)) hd0 none 0 0
  have HG2 : Hid (GuessAt w ((w.alloc (.cells #[.string ⟨#[]⟩, .string ⟨#[]⟩, .string ⟨#[]⟩, .string ⟨#[]⟩, .string ⟨#[]⟩, .string ⟨#[]⟩, .slice none 0 0] 33)).alloc (.cells #[.string ⟨#[]⟩, .string ⟨#[]⟩, .string ⟨#[]⟩, .string ⟨#[]⟩, .string ⟨#[]⟩, .string ⟨#[]⟩, .slice none 0 0] 33)) rb (rb + 1) hd0 none 0 0) := Lib.hid (by
    have e : rb + 1 = (w.alloc (.cells #[.string ⟨#[]⟩, .string ⟨#[]⟩, .string ⟨#[]⟩, .string ⟨#[]⟩, .string ⟨#[]⟩, .string ⟨#[]⟩, .slice none 0 0] 33)).heap.size := by rw [← hrb]; simp
    refine ⟨?_, ?_, strs_nil, hg1.trans hg2, (fun p e => by cases e), by omega, by omega, by omega, fun p e => by cases e⟩
    · rw [← hrb]; exact BoxH.grow hbx1 hg2
    · rw [e]; exact hbx2)
  have HRB := Lib.hid hrb
  clear hg1 hg2 hbx1 hbx2 hrb c1 c2 c3 k1 k2 k3 k4 k5 k6 g1 g2 g3 hs hm htl
  go_enter Tryd.func43, Tryd.ntmps43
  go_upto_region 2 with fail
  rw [HRB.out]
  generalize (w.alloc (.cells #[.string ⟨#[]⟩, .string ⟨#[]⟩, .string ⟨#[]⟩, .string ⟨#[]⟩, .string ⟨#[]⟩, .string ⟨#[]⟩, .slice none 0 0] 33)).alloc (.cells #[.string ⟨#[]⟩, .string ⟨#[]⟩, .string ⟨#[]⟩, .string ⟨#[]⟩, .string ⟨#[]⟩, .string ⟨#[]⟩, .slice none 0 0] 33) = w2 at HG2 ⊢
  obtain ⟨hb, HHB⟩ : ∃ hb, Hid (rb + 1 = hb) := ⟨_, Lib.hid rfl⟩
  rw [HHB.out] at HG2 ⊢
  clear HHB
  go_wp2_with fail
  refine (HC1.out w2 HG2.out.grow).mono ?_
  rintro e w3 ⟨rfl, hg⟩
  have HG3 := Lib.hid (HG2.out.next hg)
  clear hg HC1 HG2
  go_upto_if 22 with fail
  go_cut [] (fun wx => ∃ (A : Option Addr) (n c : Nat), Hid (GuessAt w wx rb hb ⟨[], [], [], [], [], [], locsD s⟩ A n c ∧ (locsD s).length = n ∧ n ≤ c ∧ (A = none → c = 0) ∧ ∀ p, A = some p → w.heap.size ≤ p.block))
  case first =>
    cases v with
    | false =>
      have HE := Lib.hid (show locsD s = [] from HLD.out)
      go_wp2
      go_meet
      case rel =>
        refine ⟨none, 0, 0, Lib.hid ?_⟩
        rw [HE.out]
        exact ⟨HG3.out, rfl, Nat.le_refl _, fun _ => rfl, fun p e => by cases e⟩
    | true =>
      have HE := Lib.hid (show locsD s = splitD 59 tl from HLD.out)
      go_wp2_with fail
      refine (HSP.out w3 HG3.out.grow).mono ?_
      rintro e w4 ⟨rfl, hw4⟩
      have hg4 : Grow w3 w4 := by rw [hw4]; exact grow_new _ _
      have HG4 := Lib.hid (HG3.out.next hg4)
      have hst : Strs w4 w4.heap.size (some ⟨w3.heap.size, 0, none⟩) (splitD 59 tl) := by rw [hw4]; exact strs_lit _ _
      have hrf : RowFree w4 (some ⟨w3.heap.size, 0, none⟩) := fun p e => by
        cases e
        rw [hw4]
        exact ⟨_, _, heap_alloc_new w3 _⟩
      have hne : w3.heap.size ≠ hb ∧ w3.heap.size ≠ rb ∧ w.heap.size ≤ w3.heap.size := by
        have h1 := HG3.out.box.lt
        have h2 := HG3.out.res.lt
        have h3 := HG3.out.grow.size
        exact ⟨by omega, by omega, h3⟩
      obtain ⟨lb, hlb⟩ : ∃ lb, w3.heap.size = lb := ⟨_, rfl⟩
      rw [hlb] at hst hne hrf ⊢
      obtain ⟨n, hn⟩ : ∃ n, (splitD 59 tl).length = n := ⟨_, rfl⟩
      rw [hn]
      have HST := Lib.hid hst
      have HRF := Lib.hid hrf
      have HNE := Lib.hid hne
      have HN := Lib.hid hn
      have d6 := HG4.out.box.at6
      have f6 := HG4.out.box.froz 6
      clear hg4 hst hrf hne hlb hn hw4 HG3
      go_wp2
      go_meet
      case rel =>
        refine ⟨some ⟨lb, 0, none⟩, n, n, Lib.hid ?_⟩
        rw [HE.out]
        exact ⟨HG4.out.put6 _ _ _ (splitD 59 tl) HST.out (fun p e => by cases e; exact ⟨HNE.out.1, HNE.out.2.1⟩) HRF.out, HN.out, Nat.le_refl _, (fun e => by cases e), fun p e => by cases e; exact HNE.out.2.2⟩
  case rest =>
  obtain ⟨A, n, c, HX⟩ := hcut
  obtain ⟨w5, hv⟩ : ∃ w5, w5 = wc := ⟨_, rfl⟩
  subst hv
  have HG5 := Lib.hid HX.out.1
  have HXL := Lib.hid HX.out.2
  clear HX HG3 HSP HLD
  go_wp2_with fail
  refine (HC2.out w5 HG5.out.grow).mono ?_
  rintro e w6 ⟨rfl, hg⟩
  have HG6 := Lib.hid (HG5.out.next hg)
  clear hg HC2 HG5
  go_upto_if 32 with fail
  go_cut [4] (fun z wx => z = .string ⟨(tailD hd).toArray⟩ ∧ Hid (GuessAt w wx rb hb ⟨resD hd, [], [], [], [], [], locsD s⟩ A n c))
  case first =>
    cases u with
    | false =>
      have HE := Lib.hid (show tailD hd = hd from HTD.out)
      have HE2 := Lib.hid (show resD hd = [] from HRD.out)
      go_wp2
      go_meet
      case rel => exact ⟨by rw [HE.out], by rw [HE2.out]; exact HG6⟩
    | true =>
      have HE := Lib.hid (show tailD hd = y from HTD.out)
      have HE2 := Lib.hid (show resD hd = x from HRD.out)
      have d0 := HG6.out.box.at0
      have f0 := HG6.out.box.froz 0
      dsimp only at d0
      go_wp2
      go_meet
      case rel => exact ⟨by rw [HE.out], Lib.hid (by rw [HE2.out]; exact HG6.out.put 0 _ (HG6.out.box.put0 x) rfl)⟩
  case rest =>
  obtain ⟨rfl, HG7⟩ := hcut
  obtain ⟨w7, hv⟩ : ∃ w7, w7 = wc := ⟨_, rfl⟩
  subst hv
  clear HG6 HTD HRD
  obtain ⟨t, HT⟩ : ∃ t, Hid (tailD hd = t) := ⟨_, Lib.hid rfl⟩
  obtain ⟨r, HR⟩ : ∃ r, Hid (resD hd = r) := ⟨_, Lib.hid rfl⟩
  obtain ⟨ls, HLS⟩ : ∃ ls, Hid (locsD s = ls) := ⟨_, Lib.hid rfl⟩
  rw [HT.out] at HC3 HAR HC ⊢
  rw [HT.out, HR.out, HLS.out] at HGP
  rw [HR.out, HLS.out] at HG7
  rw [HLS.out] at HXL HLOC
  clear HT HR HLS
  go_wp2_with fail
  refine (HC3.out w7 HG7.out.grow).mono ?_
  rintro e w8 ⟨rfl, hg⟩
  have HG8 := Lib.hid (HG7.out.next hg)
  clear hg HC3 HG7
  cases z with
  | false =>
    have HBD : Hid (guessP s = ⟨r, (argsD t).1, (argsD t).2.1, (argsD t).2.2, [], [], ls⟩) := Lib.hid (by rw [HGP.out]; unfold bodyP; rw [HC.out]; rfl)
    obtain ⟨p1, p2, p3, hp⟩ : ∃ p1 p2 p3, argsD t = (p1, p2, p3) := ⟨_, _, _, rfl⟩
    rw [hp] at HAR HBD
    clear hp
    go_wp2_with fail
    refine (HAR.out w8 HG8.out.grow).mono ?_
    rintro e w9 ⟨rfl, hg⟩
    have HG9 := Lib.hid (HG8.out.next hg)
    clear hg HAR HG8
    have d1 := HG9.out.box.at1
    have d2 := HG9.out.box.at2
    have d3 := HG9.out.box.at3
    have f1 := HG9.out.box.froz 1
    have f2 := HG9.out.box.froz 2
    have f3 := HG9.out.box.froz 3
    dsimp only at d1 d2 d3
    go_upto_region 11 with fail
    generalize hw10 : ((w9.setCell ⟨hb, 1, none⟩ (.string ⟨p1.toArray⟩)).setCell ⟨hb, 2, none⟩ (.string ⟨p2.toArray⟩)).setCell ⟨hb, 3, none⟩ (.string ⟨p3.toArray⟩) = w10
    have HG10 : Hid (GuessAt w w10 rb hb ⟨r, p1, p2, p3, [], [], ls⟩ A n c) := Lib.hid (by
      rw [← hw10]
      have q1 := HG9.out.put 1 (.string ⟨p1.toArray⟩) (HG9.out.box.put1 p1) rfl
      have q2 := q1.put 2 (.string ⟨p2.toArray⟩) (q1.box.put2 p2) rfl
      exact q2.put 3 (.string ⟨p3.toArray⟩) (q2.box.put3 p3) rfl)
    clear hw10 d1 d2 d3 f1 f2 f3 HG9
    obtain ⟨G, HGE⟩ : ∃ G, Hid (guessP s = G) := ⟨_, Lib.hid rfl⟩
    rw [HGE.out] at HBD HEA HLE HLOC
    have HN10 : Hid (GuessAt w w10 rb hb G A n c) := Lib.hid (by rw [HBD.out]; exact HG10.out)
    have b0 := HN10.out.box.at0
    have b1 := HN10.out.box.at1
    have b2 := HN10.out.box.at2
    have b3 := HN10.out.box.at3
    have b4 := HN10.out.box.at4
    have b5 := HN10.out.box.at5
    have b6 := HN10.out.box.at6
    have r0 := HN10.out.res.at0
    have r1 := HN10.out.res.at1
    have r2 := HN10.out.res.at2
    have r3 := HN10.out.res.at3
    have r4 := HN10.out.res.at4
    have r5 := HN10.out.res.at5
    have r6 := HN10.out.res.at6
    have f0 := HN10.out.res.froz 0
    have f1 := HN10.out.res.froz 1
    have f2 := HN10.out.res.froz 2
    have f3 := HN10.out.res.froz 3
    have f4 := HN10.out.res.froz 4
    have f5 := HN10.out.res.froz 5
    have f6 := HN10.out.res.froz 6
    go_wp2
    generalize hw11 : World.setCell _ _ _ = w11
    have hs11 : BoxH w11 rb G A n c := by rw [← hw11]; exact HN10.out.res.all G A n c
    have HGR := Lib.hid (show Grow w w11 by rw [← hw11]; exact Below.trans HN10.out.grow (below_all _ _ _ HN10.out.le _ _ _ _ _ _ _))
    have HST := Lib.hid (show Strs w11 w11.heap.size A G.locs by rw [← hw11, size_all]; exact strs_all HN10.out.strs (fun p e => (HN10.out.off p e).2) _ _ _ _ _ _ _)
    have HRW := Lib.hid (show RowFree w11 A by rw [← hw11]; exact free_all HN10.out.row (fun p e => (HN10.out.off p e).2) _ _ _ _ _ _ _)
    have c0 := hs11.at0
    have c1 := hs11.at1
    have c2 := hs11.at2
    have c3 := hs11.at3
    have c4 := hs11.at4
    have c5 := hs11.at5
    have c6 := hs11.at6
    exact bodyPost_ret (v := hdV G A n c) (by simp [hdV, strv, results, Tryd.results43, go_sem, c0, c1, c2, c3, c4, c5, c6]) rfl (by rw [HGE.out]; exact ⟨A, n, c, rfl, ⟨by rw [HLOC.out]; exact HXL.out.1, HXL.out.2.1, by have := HLE.out; rw [HLOC.out, HXL.out.1] at this; exact this, HXL.out.2.2.1, HST.out, HEA.out⟩, HGR.out, HXL.out.2.2.2, HRW.out⟩)
  | true =>
    obtain ⟨i, o, z2, hc2, k1, k2⟩ := cut_named rest [41]
    obtain ⟨q1, q2, q3⟩ := words_len i
    have HBD : Hid (guessP s = ⟨r, trimSuffix a [32], (wordsD i).2.1, trimPrefix o [32], (wordsD i).1, (wordsD i).2.2, ls⟩) := Lib.hid (by rw [HGP.out]; unfold bodyP; rw [HC.out]; dsimp only; rw [hc2]; rfl)
    have hrl := HKK.out
    have HC4 := Lib.hid (fun W hW => cut_says hc2 W (by omega) (HM.out.grow hW))
    have HTS := Lib.hid (fun W => trims_any a [32] W (by omega))
    have HWD := Lib.hid (fun W hW => words_any i W (by omega) (HM.out.grow hW))
    have HTP := Lib.hid (fun W => trimp_any o [32] W)
    obtain ⟨p1, p2, p3, hp⟩ : ∃ p1 p2 p3, wordsD i = (p1, p2, p3) := ⟨_, _, _, rfl⟩
    rw [hp] at HWD HBD
    clear hp hc2 k1 k2 q1 q2 q3 hrl
    obtain ⟨lf, HLF⟩ : ∃ lf, Hid (trimSuffix a [32] = lf) := ⟨_, Lib.hid rfl⟩
    obtain ⟨rt, HRT⟩ : ∃ rt, Hid (trimPrefix o [32] = rt) := ⟨_, Lib.hid rfl⟩
    rw [HLF.out] at HTS HBD
    rw [HRT.out] at HTP HBD
    clear HLF HRT
    go_wp2_with fail
    refine (HC4.out w8 HG8.out.grow).mono ?_
    rintro e w9 ⟨rfl, hg⟩
    have HG9 := Lib.hid (HG8.out.next hg)
    clear hg HC4 HG8
    go_wp2_with fail
    refine (HTS.out w9).mono ?_
    rintro e w12 ⟨rfl, hg⟩
    have HG12 := Lib.hid (HG9.out.next hg)
    clear hg HTS HG9
    have d1 := HG12.out.box.at1
    have f1 := HG12.out.box.froz 1
    dsimp only at d1
    go_upto_region 14 with fail
    generalize hw13 : w12.setCell ⟨hb, 1, none⟩ (.string ⟨lf.toArray⟩) = w13
    have HG13 : Hid (GuessAt w w13 rb hb ⟨r, lf, [], [], [], [], ls⟩ A n c) := Lib.hid (by
      rw [← hw13]
      exact HG12.out.put 1 (.string ⟨lf.toArray⟩) (HG12.out.box.put1 lf) rfl)
    clear hw13 d1 f1 HG12
    go_wp2_with fail
    refine (HWD.out w13 HG13.out.grow).mono ?_
    rintro e w14 ⟨rfl, hg⟩
    have HG14 := Lib.hid (HG13.out.next hg)
    clear hg HWD HG13
    have d4 := HG14.out.box.at4
    have d2 := HG14.out.box.at2
    have d5 := HG14.out.box.at5
    have f4 := HG14.out.box.froz 4
    have f2 := HG14.out.box.froz 2
    have f5 := HG14.out.box.froz 5
    dsimp only at d4 d2 d5
    go_upto_region 15 with fail
    generalize hw15 : ((w14.setCell ⟨hb, 4, none⟩ (.string ⟨p1.toArray⟩)).setCell ⟨hb, 2, none⟩ (.string ⟨p2.toArray⟩)).setCell ⟨hb, 5, none⟩ (.string ⟨p3.toArray⟩) = w15
    have HG15 : Hid (GuessAt w w15 rb hb ⟨r, lf, p2, [], p1, p3, ls⟩ A n c) := Lib.hid (by
      rw [← hw15]
      have q1 := HG14.out.put 4 (.string ⟨p1.toArray⟩) (HG14.out.box.put4 p1) rfl
      have q2 := q1.put 2 (.string ⟨p2.toArray⟩) (q1.box.put2 p2) rfl
      exact q2.put 5 (.string ⟨p3.toArray⟩) (q2.box.put5 p3) rfl)
    clear hw15 d4 d2 d5 f4 f2 f5 HG14
    go_wp2_with fail
    refine (HTP.out w15).mono ?_
    rintro e w16 ⟨rfl, hg⟩
    have HG16 := Lib.hid (HG15.out.next hg)
    clear hg HTP HG15
    have d3 := HG16.out.box.at3
    have f3 := HG16.out.box.froz 3
    dsimp only at d3
    go_upto_region 16 with fail
    generalize hw10 : w16.setCell ⟨hb, 3, none⟩ (.string ⟨rt.toArray⟩) = w10
    have HG10 : Hid (GuessAt w w10 rb hb ⟨r, lf, p2, rt, p1, p3, ls⟩ A n c) := Lib.hid (by
      rw [← hw10]
      exact HG16.out.put 3 (.string ⟨rt.toArray⟩) (HG16.out.box.put3 rt) rfl)
    clear hw10 d3 f3 HG16
    obtain ⟨G, HGE⟩ : ∃ G, Hid (guessP s = G) := ⟨_, Lib.hid rfl⟩
    rw [HGE.out] at HBD HEA HLE HLOC
    have HN10 : Hid (GuessAt w w10 rb hb G A n c) := Lib.hid (by rw [HBD.out]; exact HG10.out)
    have b0 := HN10.out.box.at0
    have b1 := HN10.out.box.at1
    have b2 := HN10.out.box.at2
    have b3 := HN10.out.box.at3
    have b4 := HN10.out.box.at4
    have b5 := HN10.out.box.at5
    have b6 := HN10.out.box.at6
    have r0 := HN10.out.res.at0
    have r1 := HN10.out.res.at1
    have r2 := HN10.out.res.at2
    have r3 := HN10.out.res.at3
    have r4 := HN10.out.res.at4
    have r5 := HN10.out.res.at5
    have r6 := HN10.out.res.at6
    have f0 := HN10.out.res.froz 0
    have f1 := HN10.out.res.froz 1
    have f2 := HN10.out.res.froz 2
    have f3 := HN10.out.res.froz 3
    have f4 := HN10.out.res.froz 4
    have f5 := HN10.out.res.froz 5
    have f6 := HN10.out.res.froz 6
    go_wp2
    generalize hw11 : World.setCell _ _ _ = w11
    have hs11 : BoxH w11 rb G A n c := by rw [← hw11]; exact HN10.out.res.all G A n c
    have HGR := Lib.hid (show Grow w w11 by rw [← hw11]; exact Below.trans HN10.out.grow (below_all _ _ _ HN10.out.le _ _ _ _ _ _ _))
    have HST := Lib.hid (show Strs w11 w11.heap.size A G.locs by rw [← hw11, size_all]; exact strs_all HN10.out.strs (fun p e => (HN10.out.off p e).2) _ _ _ _ _ _ _)
    have HRW := Lib.hid (show RowFree w11 A by rw [← hw11]; exact free_all HN10.out.row (fun p e => (HN10.out.off p e).2) _ _ _ _ _ _ _)
    have c0 := hs11.at0
    have c1 := hs11.at1
    have c2 := hs11.at2
    have c3 := hs11.at3
    have c4 := hs11.at4
    have c5 := hs11.at5
    have c6 := hs11.at6
    exact bodyPost_ret (v := hdV G A n c) (by simp [hdV, strv, results, Tryd.results43, go_sem, c0, c1, c2, c3, c4, c5, c6]) rfl (by rw [HGE.out]; exact ⟨A, n, c, rfl, ⟨by rw [HLOC.out]; exact HXL.out.1, HXL.out.2.1, by have := HLE.out; rw [HLOC.out, HXL.out.1] at this; exact this, HXL.out.2.2.1, HST.out, HEA.out⟩, HGR.out, HXL.out.2.2.2, HRW.out⟩)
end Go.Proofs.YtcnijmmpkahoaaaDoor
