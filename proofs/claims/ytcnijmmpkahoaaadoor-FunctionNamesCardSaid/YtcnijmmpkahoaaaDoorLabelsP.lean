/-
  What function.labelOf, Labels, names, Join and Split come to. Nothing is claimed here by itself.
-/
import Derived.Test.YtcnijmmpkahoaaaDoorLineP
import Derived.Test.YtcnijmmpkahoaaaDoorTakes
import Derived.Test.YtcnijmmpkahoaaaDoorRParse
namespace Go.Proofs.YtcnijmmpkahoaaaDoor
open Go.RowKit Go.Lib
set_option linter.unusedSimpArgs false
set_option linter.unusedVariables false
set_option maxRecDepth 10000

theorem drop_nil_iff {x : List UInt8} : x.drop (takenD x) = [] ↔ takenD x = x.length := by
  have := taken_le x
  rw [List.drop_eq_nil_iff]
  omega
theorem labelof_any (l : List UInt8) (w : World) (hl : l.length ≤ 1100000) (hm : MaxAt w) : Calls Tryd.prog 34 #[.string ⟨l.toArray⟩] w (Gave (labelD l) w) := by
  obtain ⟨x, y, v, hc, hx, hy⟩ := cut_named l [58]
  have hlab : labelD l = if v = true ∧ takenD x = x.length then x else [] := by rw [← label_same]; unfold labelP; rw [hc]
  have HC := Lib.hid (cut_says hc w hl hm)
  obtain ⟨a, ha⟩ : ∃ a, x.take (takenD x) = a := ⟨_, rfl⟩
  obtain ⟨b, hb⟩ : ∃ b, x.drop (takenD x) = b := ⟨_, rfl⟩
  have HT := Lib.hid (fun W => take_says ⟨ha, hb⟩ W (show x.length ≤ 1100000 by omega))
  cases v with
  | false =>
    rw [if_neg (by simp)] at hlab
    have HF := Lib.hid hlab
    clear hc hx hy hlab ha hb hl hm
    go_enter Tryd.func34, Tryd.ntmps34
    go_wp2_with fail
    refine (HC.out).mono ?_
    rintro e w1 ⟨rfl, hg⟩
    have HG1 := Lib.hid hg
    clear hg
    go_wp2_with fail
    refine (HT.out _).mono ?_
    rintro e w2 ⟨rfl, hg⟩
    have HG2 := Lib.hid (HG1.out.trans hg)
    clear hg
    go_wp2
    go_ret
    exact ⟨by rw [HF.out]; rfl, HG2.out⟩
  | true =>
    by_cases h0 : b = []
    · have ht : takenD x = x.length := drop_nil_iff.1 (hb.trans h0)
      rw [if_pos ⟨rfl, ht⟩] at hlab
      have HF : Hid (labelD l = a) := Lib.hid (by rw [hlab, ← ha, ht, List.take_length])
      subst h0
      clear hc hx hy hlab ha hb hl hm ht
      go_enter Tryd.func34, Tryd.ntmps34
      go_wp2_with fail
      refine (HC.out).mono ?_
      rintro e w1 ⟨rfl, hg⟩
      have HG1 := Lib.hid hg
      clear hg
      go_wp2_with fail
      refine (HT.out _).mono ?_
      rintro e w2 ⟨rfl, hg⟩
      have HG2 := Lib.hid (HG1.out.trans hg)
      clear hg
      go_wp2
      go_ret
      exact ⟨by rw [HF.out]; rfl, HG2.out⟩
    · have ht : ¬ takenD x = x.length := fun e => h0 (hb.symm.trans (drop_nil_iff.2 e))
      rw [if_neg (fun e => ht e.2)] at hlab
      have HF := Lib.hid hlab
      have hbb : (b == []) = false := beq_eq_false_iff_ne.2 h0
      clear hc hx hy hlab ha hb hl hm ht h0
      go_enter Tryd.func34, Tryd.ntmps34
      go_wp2_with fail
      refine (HC.out).mono ?_
      rintro e w1 ⟨rfl, hg⟩
      have HG1 := Lib.hid hg
      clear hg
      go_wp2_with fail
      refine (HT.out _).mono ?_
      rintro e w2 ⟨rfl, hg⟩
      have HG2 := Lib.hid (HG1.out.trans hg)
      clear hg
      go_wp2
      go_ret
      exact ⟨by rw [HF.out]; rfl, HG2.out⟩

/-- texts of one's own, as a call answers -/
def OwnR (ls : List (List UInt8)) (w : World) (e : Ending) (w' : World) : Prop := ∃ v, e = .returned v ∧ OwnS w.heap.size v ls w' ∧ Grow w w'
set_option maxHeartbeats 3200000 in
theorem labels_any (A : Option Addr) (n c : Nat) (ls : List (List UInt8)) (w : World) (hn : ls.length = n) (hb : n ≤ 1100000) (hr : Strs w w.heap.size A ls) (hs : ∀ s ∈ ls, s.length ≤ 1100000) (hm : MaxAt w) :
    Calls Tryd.prog 13 #[.slice A n c] w (OwnR (labelsD ls) w) := by
  have HR := Lib.hid hr
  have HN := Lib.hid hn
  have HS := Lib.hid hs
  have HM := Lib.hid hm
  clear hr hn hs hm
  go_enter Tryd.func13, Tryd.ntmps13
  go_wp2
  go_loopg [3, 9] n (fun g s3 s9 wr => ∃ (k : Nat) (v : Value), k ≤ n ∧ g = n - k ∧ v = s3 ∧ s9 = .int .i64 k ∧ Hid (OwnS w.heap.size v (labelsD (ls.take k)) wr) ∧ Hid (Grow w wr))
  case atStart => exact ⟨0, _, Nat.zero_le _, rfl, rfl, rfl, Lib.hid (ownS_nil _ _), Lib.hid (Grow.refl _)⟩
  case round =>
    obtain ⟨k, v, hk, rfl, rfl, rfl, HO, HG⟩ := hrel
    by_cases hlt : k < n
    · have hkl : k < ls.length := by rw [HN.out]; exact hlt
      obtain ⟨b, off, rfl, hbb, hcl⟩ := HR.out.grow HG.out (by omega)
      have hc := hcl k hkl
      have hx1 := getD_len HS.out k
      have HST := Lib.hid (labels_step hkl)
      have HLQ : Hid ((labelsD (ls.take k)).length ≤ 1100000) := Lib.hid (by
        have := labels_len (ls.take k)
        rw [List.length_take] at this
        omega)
      clear hcl hkl
      generalize ls.getD k [] = x at hc HST hx1
      by_cases h0 : k = 0
      · subst h0
        have HSN : Hid (labelsD (ls.take (0 + 1)) = labelsD (ls.take 0)) := Lib.hid (by rw [HST.out, if_pos (.inl rfl)])
        have hc' : wr.cell? ⟨b, off, none⟩ = some (.string ⟨x.toArray⟩) := hc
        clear HST
        go_wp2
        go_roundg (n - (0 + 1))
        case rel => exact ⟨0 + 1, _, by omega, rfl, rfl, by go_num, Lib.hid (by rw [HSN.out]; exact HO.out), HG⟩
        case measure => omega
      · have hkb : (((k : Nat) : Int) == 0) = false := by rw [beq_eq_false_iff_ne]; omega
        have hkn : (k == 0) = false := by rw [beq_eq_false_iff_ne]; exact h0
        have HC := Lib.hid (labelof_any x wr hx1 (HM.out.grow HG.out))
        have HST' : Hid (labelsD (ls.take (k + 1)) = if labelD x = [] then labelsD (ls.take k) else labelsD (ls.take k) ++ [labelD x]) := Lib.hid (by
          rw [HST.out]
          by_cases h : labelD x = []
          · rw [if_pos (.inr h), if_pos h]
          · rw [if_neg (fun e => e.elim h0 h), if_neg h])
        clear HST h0
        generalize labelD x = y at HC HST'
        by_cases hy : y = []
        · have HSN : Hid (labelsD (ls.take (k + 1)) = labelsD (ls.take k)) := Lib.hid (by rw [HST'.out, if_pos hy])
          subst hy
          clear HST'
          go_wp2_with fail
          refine (HC.out).mono ?_
          rintro e w2 ⟨rfl, hg⟩
          have HG2 := Lib.hid (HG.out.trans hg)
          have HO2 : Hid (OwnS w.heap.size v (labelsD (ls.take (k + 1))) w2) := Lib.hid (by rw [HSN.out]; exact HO.out.grow hg)
          clear hg
          go_wp2
          go_roundg (n - (k + 1))
          case rel => exact ⟨k + 1, _, by omega, rfl, rfl, by go_num, HO2, HG2⟩
          case measure => omega
        · have HSN : Hid (labelsD (ls.take (k + 1)) = labelsD (ls.take k) ++ [y]) := Lib.hid (by rw [HST'.out, if_neg hy])
          have hyb : (y == []) = false := beq_eq_false_iff_ne.2 hy
          have HAP : Hid (∀ w2, Grow wr w2 → OwnS w.heap.size v (labelsD (ls.take k)) (w2.alloc (.cells #[.string ⟨y.toArray⟩] 9)) ∧ Strs (w2.alloc (.cells #[.string ⟨y.toArray⟩] 9)) (w2.alloc (.cells #[.string ⟨y.toArray⟩] 9)).heap.size (some ⟨w2.heap.size, 0, none⟩) [y] ∧ w.heap.size ≤ (w2.alloc (.cells #[.string ⟨y.toArray⟩] 9)).heap.size ∧ Grow w (w2.alloc (.cells #[.string ⟨y.toArray⟩] 9))) := Lib.hid (fun w2 hg => by
            have hgn := grow_new w2 (.cells #[.string ⟨y.toArray⟩] 9)
            have hgw := HG.out.trans (hg.trans hgn)
            exact ⟨(HO.out.grow hg).grow hgn, strs_lit w2 [y], hgw.size, hgw⟩)
          have HLS : Hid ((labelsD (ls.take k)).length + [y].length ≤ 1000000000) := Lib.hid (by have := HLQ.out; simp; omega)
          clear HST' hy
          go_wp2_with fail
          refine (HC.out).mono ?_
          rintro e w2 ⟨rfl, hg⟩
          have HA2 := Lib.hid (HAP.out w2 hg)
          clear hg
          go_upto_region 9 with (at_builtin; refine wpList_append_any rfl _ _ rfl w.heap.size _ (labelsD (ls.take k)) [y] (some ⟨w2.heap.size, 0, none⟩) 1 1 rfl HA2.out.1 rfl rfl (fun e => by cases e) HA2.out.2.1 HLS.out HA2.out.2.2.1 ?_; intro v3 w3 HO3 HBL3)
          have HO4 : Hid (OwnS w.heap.size v3 (labelsD (ls.take (k + 1))) w3) := Lib.hid (by rw [HSN.out]; exact HO3)
          have HG4 := Lib.hid (show Grow w w3 from Below.trans HA2.out.2.2.2 HBL3)
          clear HO3 HBL3
          go_wp2
          go_roundg (n - (k + 1))
          case rel => exact ⟨k + 1, _, by omega, rfl, rfl, by go_num, HO4, HG4⟩
          case measure => omega
    · obtain rfl : n = k := by omega
      have HF : Hid (labelsD (ls.take n) = labelsD ls) := Lib.hid (by rw [List.take_of_length_le (by rw [HN.out]; exact Nat.le_refl _)])
      rw [HF.out] at HO
      go_wp2
      go_ret
      exact ⟨_, rfl, HO.out, HG.out⟩

set_option maxHeartbeats 3200000 in
theorem names_any (h : Hd) (A : Option Addr) (n c : Nat) (w : World) (k : HdIn w A n c h) : Calls Tryd.prog 62 #[hdV h A n c] w (OwnR (allH h) w) := by
  have hg1 := grow_new w (.cells #[.string ⟨h.res.toArray⟩, .string ⟨h.left.toArray⟩, .string ⟨h.name.toArray⟩, .string ⟨h.right.toArray⟩, .string ⟨h.f.toArray⟩, .string ⟨h.g.toArray⟩, .slice A n c] 33)
  have HG1 := Lib.hid hg1
  have HB1 := Lib.hid (boxH_new w h A n c)
  have HK1 := Lib.hid (k.grow hg1)
  obtain ⟨nb, hnb⟩ : ∃ nb, w.heap.size = nb := ⟨_, rfl⟩
  have HNB := Lib.hid hnb
  rw [hnb] at HB1
  have HE := Lib.hid (show allH h = [h.res, h.left, h.name, h.right, h.f, h.g] ++ h.locs from rfl)
  unfold hdV strv
  clear k hg1 hnb
  go_enter Tryd.func62, Tryd.ntmps62
  go_upto_region 1 with fail
  rw [HNB.out]
  generalize w.alloc (.cells #[.string ⟨h.res.toArray⟩, .string ⟨h.left.toArray⟩, .string ⟨h.name.toArray⟩, .string ⟨h.right.toArray⟩, .string ⟨h.f.toArray⟩, .string ⟨h.g.toArray⟩, .slice A n c] 33) = w1 at HG1 HB1 HK1 ⊢
  have hg2 := grow_new w1 (.cells #[.string ⟨h.res.toArray⟩, .string ⟨h.left.toArray⟩, .string ⟨h.name.toArray⟩, .string ⟨h.right.toArray⟩, .string ⟨h.f.toArray⟩, .string ⟨h.g.toArray⟩] 9)
  have HO2 : Hid (OwnS w1.heap.size (.slice (some ⟨w1.heap.size, 0, none⟩) 6 6) [h.res, h.left, h.name, h.right, h.f, h.g] (w1.alloc (.cells #[.string ⟨h.res.toArray⟩, .string ⟨h.left.toArray⟩, .string ⟨h.name.toArray⟩, .string ⟨h.right.toArray⟩, .string ⟨h.f.toArray⟩, .string ⟨h.g.toArray⟩] 9))) := Lib.hid (ownS_lit w1 [h.res, h.left, h.name, h.right, h.f, h.g] (by simp))
  have HB2 := Lib.hid (HB1.out.grow hg2)
  have HS2 := Lib.hid (HK1.out.strs.grow hg2)
  have HZ2 : Hid (w1.heap.size ≤ (w1.alloc (.cells #[.string ⟨h.res.toArray⟩, .string ⟨h.left.toArray⟩, .string ⟨h.name.toArray⟩, .string ⟨h.right.toArray⟩, .string ⟨h.f.toArray⟩, .string ⟨h.g.toArray⟩] 9)).heap.size) := Lib.hid hg2.size
  have HG2 := Lib.hid hg2
  have HLT : Hid ([h.res, h.left, h.name, h.right, h.f, h.g].length + h.locs.length ≤ 1000000000) := Lib.hid (by have := HK1.out.top; rw [HK1.out.len]; simp; omega)
  have b0 := HB1.out.at0
  have b1 := HB1.out.at1
  have b2 := HB1.out.at2
  have b3 := HB1.out.at3
  have b4 := HB1.out.at4
  have b5 := HB1.out.at5
  have b6 := HB2.out.at6
  clear hg2
  go_wp2_with (at_builtin; refine wpList_append_any rfl _ _ rfl w1.heap.size _ [h.res, h.left, h.name, h.right, h.f, h.g] h.locs A n c rfl HO2.out rfl HK1.out.len HK1.out.none HS2.out HLT.out HZ2.out ?_; intro v3 w3 HO3 HB3)
  have HGR := Lib.hid (show Grow w w3 from Below.trans HG1.out (Below.mono (Below.trans (show Below w1.heap.size w1 _ from HG2.out) HB3) HG1.out.size))
  rw [← HE.out] at HO3
  have HO4 := Lib.hid (HO3.base HG1.out.size)
  clear HO3 HB3
  go_ret
  exact ⟨v3, rfl, HO4.out, HGR.out⟩
end Go.Proofs.YtcnijmmpkahoaaaDoor

namespace Go.Proofs.YtcnijmmpkahoaaaDoor
open Go.RowKit Go.Lib
set_option linter.unusedSimpArgs false
set_option linter.unusedVariables false
set_option maxRecDepth 10000

theorem libjoin_any (A : Option Addr) (n c : Nat) (ls : List (List UInt8)) (w : World) (hn : ls.length = n) (hc : n ≤ c) (hb : n ≤ 1100000) (hr : Strs w w.heap.size A ls) (hj : (joinD ls).length ≤ 1100000) :
    Calls Tryd.prog 41 #[.slice A n c, .string ⟨#[10]⟩] w (Gave (joinD ls) w) := by
  by_cases h0 : n = 0
  · subst h0
    have HF : Hid (joinD ls = []) := Lib.hid (by rw [List.eq_nil_of_length_eq_zero hn]; rfl)
    clear hn hr hj
    go_enter Tryd.func41, Tryd.ntmps41
    go_wp2
    go_ret
    exact ⟨by rw [HF.out]; rfl, Grow.refl _⟩
  · obtain ⟨b, off, rfl, hbb, hcl⟩ := hr (by omega)
    have hmap : (ls.map fun l => (⟨l.toArray⟩ : ByteArray)).map (·.data.toList) = ls := by
      rw [List.map_map]
      conv => rhs; rw [← List.map_id ls]
      exact List.map_congr_left fun x _ => rfl
    have := Tryd.strings_Join b off c (ls.map fun l => (⟨l.toArray⟩ : ByteArray)) ⟨#[10]⟩ w (fun j x hx => by
      have hj : j < ls.length := by
        have := (List.getElem?_eq_some_iff.1 hx).1
        rwa [List.length_map] at this
      rw [hcl j hj]
      rw [List.getElem?_map] at hx
      have e : ls[j]? = some (ls.getD j []) := by simp [List.getD, hj]
      rw [e] at hx
      simp only [Option.map_some, Option.some.injEq] at hx
      rw [← hx]) hbb (by rw [List.length_map]; omega) (by rw [List.length_map]; omega) (by
        rw [hmap]
        show (Go.Lib.join ls [10]).length ≤ _
        rw [join_lib]
        omega)
    rw [List.length_map, hn, hmap] at this
    refine this.mono ?_
    rintro e w' ⟨rfl, hg⟩
    refine ⟨?_, hg⟩
    show Ending.returned (.string ⟨(Go.Lib.join ls [10]).toArray⟩) = _
    rw [join_lib]

theorem join_any (A : Option Addr) (n c : Nat) (ls : List (List UInt8)) (w : World) (hn : ls.length = n) (hc : n ≤ c) (hb : n ≤ 1100000) (hr : Strs w w.heap.size A ls) (hj : (joinD ls).length ≤ 1100000) :
    Calls Tryd.prog 19 #[.slice A n c] w (Gave (joinD ls) w) := by
  have HJ := Lib.hid (libjoin_any A n c ls w hn hc hb hr hj)
  have HC := Lib.hid (fun W => clone_any (joinD ls) W hj)
  generalize joinD ls = s at HJ HC ⊢
  clear hn hc hb hr hj
  go_enter Tryd.func19, Tryd.ntmps19
  go_wp2_with fail
  refine (HJ.out).mono ?_
  rintro e w1 ⟨rfl, hg⟩
  have HG1 := Lib.hid hg
  clear hg
  go_wp2_with fail
  refine (HC.out _).mono ?_
  rintro e w2 ⟨rfl, hg⟩
  have HG2 := Lib.hid (HG1.out.trans hg)
  clear hg
  go_wp2
  go_ret
  exact ⟨rfl, HG2.out⟩

/-- a row of texts that the call made -/
def RowS (W : World) (g : Nat) (ls : List (List UInt8)) : Prop := W.heap[g]? = some (.cells (ls.map strv).toArray 9 (0, 0))
theorem RowS.grow {W W' : World} {g : Nat} {ls : List (List UInt8)} (h : RowS W g ls) (hg : Grow W W') : RowS W' g ls := (hg.block g (heap_lt h)).trans h
theorem RowS.cell {W : World} {g k : Nat} {ls : List (List UInt8)} (h : RowS W g ls) (hk : k < ls.length) : W.cell? ⟨g, k, none⟩ = some (.string ⟨(ls.getD k []).toArray⟩) := by
  rw [cell_of_row W g k _ 9 (0, 0) h]
  simp [strv, hk]
theorem RowS.same {W : World} {g k : Nat} {ls : List (List UInt8)} (h : RowS W g ls) (hk : k < ls.length) : RowS (W.setCell ⟨g, k, none⟩ (.string ⟨(ls.getD k []).toArray⟩)) g ls := by
  have h1 := Go.heap_setCell_same W g k _ 9 (.string ⟨(ls.getD k []).toArray⟩) h
  unfold RowS
  rw [h1]
  congr 2
  apply Array.ext
  · simp
  · intro i h1 h2
    rw [Array.getElem_setIfInBounds]
    split
    · rename_i e
      subst e
      simp [strv, hk]
    · rfl
theorem RowS.own {W : World} {g n : Nat} {ls : List (List UInt8)} {B : Nat} (h : RowS W g ls) (hn : ls.length = n) (hb : n ≤ 1100000) (hB : B ≤ g) : OwnS B (.slice (some ⟨g, 0, none⟩) n n) ls W := by
  subst hn
  refine ⟨by simp [cellsS], .inr ⟨g, ls.length, (ls.map strv).toArray, rfl, hB, h, Nat.le_refl _, ?_, by simp, ?_⟩⟩
  · unfold maxLen; omega
  · simp only [cellsS, Nat.mul_one]
    exact List.take_of_length_le (by simp)

set_option maxHeartbeats 1600000 in
theorem splitL_any (s : List UInt8) (w : World) (hs : s.length ≤ 1050000) (hm : MaxAt w) :
    Calls Tryd.prog 21 #[.string ⟨s.toArray⟩] w (OwnR (splitD 10 s) w) := by
  obtain ⟨L, hL⟩ : ∃ L, splitD 10 s = L := ⟨_, rfl⟩
  obtain ⟨n, hn⟩ : ∃ n, L.length = n := ⟨_, rfl⟩
  have hl := split_len 10 s.length s (Nat.le_refl _)
  rw [hL] at hl
  have hnb : n ≤ 1100000 := by omega
  have HSP := Lib.hid (split_any 10 s n w (by rw [hL]; exact hn) (by omega) hm)
  rw [hL] at HSP ⊢
  have HN := Lib.hid hn
  have HE : Hid (∀ x ∈ L, x.length ≤ 1100000) := Lib.hid (fun x hx => by have := hl.2 x hx; omega)
  have HR1 : Hid (RowS (w.alloc (.cells (L.map strv).toArray 9)) w.heap.size L) := Lib.hid (heap_alloc_new w _)
  have HG1 := Lib.hid (grow_new w (.cells (L.map strv).toArray 9))
  obtain ⟨g, hg⟩ : ∃ g, w.heap.size = g := ⟨_, rfl⟩
  have HWG := Lib.hid hg
  rw [hg] at HSP HR1
  clear hL hn hl hs hm hg
  go_enter Tryd.func21, Tryd.ntmps21
  go_wp2_with fail
  refine (HSP.out).mono ?_
  rintro e w1 ⟨rfl, hw1⟩
  rw [← hw1] at HR1 HG1
  clear hw1 HSP
  go_wp2
  go_loopg [10] n (fun d s10 wr => ∃ k : Nat, k ≤ n ∧ d = n - k ∧ s10 = .int .i64 k ∧ Hid (RowS wr g L) ∧ Hid (Grow w wr))
  case atStart => exact ⟨0, Nat.zero_le _, rfl, rfl, HR1, HG1⟩
  case round =>
    obtain ⟨k, hk, rfl, rfl, HR, HG⟩ := hrel
    by_cases hlt : k < n
    · have hkl : k < L.length := by rw [HN.out]; exact hlt
      have hc := HR.out.cell hkl
      have hx1 := getD_len HE.out k
      have HST : Hid (∀ W, Grow wr W → RowS (W.setCell ⟨g, k, none⟩ (.string ⟨(L.getD k []).toArray⟩)) g L ∧ Grow w (W.setCell ⟨g, k, none⟩ (.string ⟨(L.getD k []).toArray⟩)) ∧ W.cell? ⟨g, k, none⟩ = some (.string ⟨(L.getD k []).toArray⟩) ∧ W.frozen? ⟨g, k, none⟩ = false) := Lib.hid (fun W hW =>
        ⟨(HR.out.grow hW).same hkl, Below.setCell (HG.out.trans hW) (by rw [HWG.out]; exact Nat.le_refl _) _, (HR.out.grow hW).cell hkl, frozen_of_row W g k _ _ (HR.out.grow hW)⟩)
      clear hkl
      generalize L.getD k [] = x at hc hx1 HST
      have HC := Lib.hid (clone_any x wr hx1)
      go_wp2_with fail
      refine (HC.out).mono ?_
      rintro e w2 ⟨rfl, hg2⟩
      obtain ⟨a1, a2, a3, a4⟩ := HST.out w2 hg2
      have HA1 := Lib.hid a1
      have HA2 := Lib.hid a2
      clear hg2 a1 a2 hc
      go_wp2
      go_roundg (n - (k + 1))
      case rel => exact ⟨k + 1, by omega, rfl, by go_num, HA1, HA2⟩
      case measure => omega
    · obtain rfl : n = k := by omega
      have HO : Hid (OwnS w.heap.size (.slice (some ⟨g, 0, none⟩) n n) L wr) := Lib.hid (HR.out.own HN.out hnb (by rw [HWG.out]; exact Nat.le_refl _))
      go_wp2
      go_ret
      exact ⟨_, rfl, HO.out, HG.out⟩
end Go.Proofs.YtcnijmmpkahoaaaDoor
