/-
  TightKids comes to true, whatever it is called with.
-/
import Derived.Test.YtcljpcbgokgcdaaLOnce
import Derived.Test.YtcljpcbgokgcdaaTightA
import Derived.Test.YtcljpcbgokgcdaaKidsIn
import Derived.Test.YtcljpcbgokgcdaaRowIn
namespace Go.Proofs.Ytcljpcbgokgcdaa
open Go.RowKit Go.Lib
set_option linter.unusedSimpArgs false
set_option linter.unusedVariables false

/-- rows that may be gone over, each of them right -/
def Alr (ks : List (List Nd)) : Prop := ∀ k ∈ ks, Fine k ∧ rightA k = true
theorem fine_flat : ∀ {ks : List (List Nd)}, (∀ k ∈ ks, Fine k) → Fits (flatK ks) ∧ Vals (flatK ks)
  | [], _ => ⟨fun n hn => (by cases hn), fun n hn => (by cases hn)⟩
  | k :: ks, h => by
    have ih := fine_flat (ks := ks) fun k' hk' => h k' (by simp [hk'])
    have h0 := h k (by simp)
    exact ⟨h0.2.1.app ih.1, h0.2.2.app ih.2⟩
theorem fine_nest {sh : List Int} {ks : List (List Nd)} (hs : sh.length ≤ 30) (h : ∀ k ∈ ks, Fine k) (hl : (flatK ks).length ≤ 200) : Fine (nest5 sh :: flatK ks) := by
  obtain ⟨h1, h2⟩ := fine_flat h
  refine ⟨by rw [List.length_cons]; omega, fits_cons ⟨⟨show (-9223372036854775808 : Int) ≤ 5 by decide, show (5 : Int) ≤ 9223372036854775807 by decide⟩, show sh.length ≤ _ by omega, Nat.zero_le _, Nat.zero_le _, fun x hx => by cases hx⟩ h1, fun n hn => ?_⟩
  rcases List.mem_cons.1 hn with rfl | hn
  · intro x hx; cases hx
  · exact h2 n hn
theorem alr_forms {ks : List (List Nd)} (h : Alr ks) : (∀ k ∈ ks.map formA, Fine k) ∧ (flatK (ks.map formA)).length ≤ (flatK ks).length := by
  induction ks with
  | nil => exact ⟨fun k hk => (by cases hk), Nat.le_refl _⟩
  | cons k ks ih =>
    obtain ⟨i1, i2⟩ := ih fun k' hk' => h k' (by simp [hk'])
    obtain ⟨h1, h2⟩ := h k (by simp)
    obtain ⟨_, k2, _, _, k5, _, _⟩ := form_right h2 h1
    refine ⟨fun x hx => ?_, ?_⟩
    · rw [List.map_cons] at hx
      rcases List.mem_cons.1 hx with rfl | hx
      · exact k5
      · exact i1 x hx
    · simp only [List.map_cons, flatK, List.length_append]; omega
theorem nest_items {sh : List Int} {ks : List (List Nd)} (h : nestB sh ks = true) : rightA (nest5 sh :: flatK ks) = true ∧ (ws (nest5 sh :: flatK ks)).i ≤ 1099999 := by
  obtain ⟨h1, h2, h3⟩ := nest_facts h
  obtain ⟨k1, _, k3⟩ := nest_form h
  have := hold_facts h3 (by have := cnt_le1 sh; omega)
  exact ⟨k1, by rw [k3, h2]; omega⟩
theorem alr_step {ks : List (List Nd)} {k : Nat} (h : k < ks.length) (ha : Alr (ks.take k)) (h1 : Fine (ks.getD k [])) (h2 : rightA (ks.getD k []) = true) : Alr (ks.take (k + 1)) := by
  rw [take_kid h]
  intro x hx
  rcases List.mem_append.1 hx with hx | hx
  · exact ha x hx
  · rw [List.mem_singleton.1 hx]; exact ⟨h1, h2⟩

set_option maxRecDepth 10000 in
set_option maxHeartbeats 6400000 in
theorem kids_walk (A1 : Option Addr) (l1 c1 : Nat) (s : List Int) (A : Option Addr) (n c : Nat) (ks : List (List Nd)) (w : World) (hs : s.length = l1) (hsm : l1 ≤ 9223372036854775807) (hsr : Nums .i64 w w.heap.size A1 s) (hk : IsKids w A n c ks) :
    Calls Try.prog 5 #[.slice A1 l1 c1, .slice A n c] w (Says true w) := by
  have HSL := Lib.hid hs
  have HSR := Lib.hid hsr
  have HN := Lib.hid hk.1
  have hnm : n ≤ 9223372036854775807 := Nat.le_trans hk.2.1 hk.2.2.1
  have HKC := Lib.hid hk.2.2.2
  have HKA := Lib.hid hk.at_
  clear hs hsr hk
  go_enter Try.func5, Try.ntmps5
  go_wp2_with fail
  refine (small_any _).mono ?_
  rintro e w1 ⟨rfl, hg1⟩
  have HG1 := Lib.hid hg1
  clear hg1
  by_cases h30 : 30 < l1
  · have h30i : (30 : Int) < ((l1 : Nat) : Int) := by omega
    go_wp2
    go_ret
    exact ⟨rfl, HG1.out⟩
  have h30i : ¬ (30 : Int) < ((l1 : Nat) : Int) := by omega
  by_cases h20 : 20 < n
  · have h20i : (20 : Int) < ((n : Nat) : Int) := by omega
    go_wp2
    go_ret
    exact ⟨rfl, HG1.out⟩
  have h20i : ¬ (20 : Int) < ((n : Nat) : Int) := by omega
  have HS30 : Hid (s.length ≤ 30) := Lib.hid (by rw [HSL.out]; omega)
  go_wp2
  go_loopg [6, 7, 8] n (fun gk s6 s7 s8 wr => ∃ (k t : Nat) (v : Value), k ≤ n ∧ gk = n - k ∧ s8 = .int .i64 k ∧ s6 = .int .i64 t ∧ v = s7 ∧ t ≤ 200 ∧ Hid (t = (flatK (ks.take k)).length) ∧ Hid (Alr (ks.take k)) ∧
    Hid (OwnK w.heap.size v ((ks.take k).map formA) wr) ∧ Hid (Grow w wr))
  case atStart => exact ⟨0, 0, _, Nat.zero_le _, rfl, rfl, rfl, rfl, Nat.zero_le _, Lib.hid rfl, Lib.hid (fun k hk => by cases hk), Lib.hid (ownK_nil _ _), HG1⟩
  case round =>
    obtain ⟨k, t, v, hk, rfl, rfl, rfl, rfl, ht, HTK, HAL, HO, HGR⟩ := hrel
    by_cases hlt : k < n
    · have hki : ((k : Nat) : Int) < ((n : Nat) : Int) := by omega
      have hkl : k < ks.length := by rw [HN.out]; exact hlt
      obtain ⟨b, off, rfl, hb, hcl⟩ := HKC.out (by omega)
      obtain ⟨A', c', hc, hkn⟩ := hcl k hkl
      have HST := Lib.hid (flatK_step hkl)
      have HAS := Lib.hid (alr_step hkl HAL.out)
      have HMS : Hid ((ks.take (k + 1)).map formA = (ks.take k).map formA ++ [formA (ks.getD k [])]) := Lib.hid (by rw [take_kid hkl, List.map_append]; rfl)
      have HBK := Lib.hid hb
      have HDL : Hid (((ks.take k).map formA).length ≤ 1100000) := Lib.hid (by rw [List.length_map, List.length_take]; omega)
      generalize (ks.take k).map formA = dn at *
      generalize ks.getD k [] = kid at *
      obtain ⟨lk, hlk⟩ : ∃ lk, kid.length = lk := ⟨_, rfl⟩
      rw [hlk] at hc hkn
      have HLK := Lib.hid hlk
      have HKN := Lib.hid hkn
      have HC := Lib.hid hc
      have p0 := (HGR.out.cell (p := ⟨b, off + k, none⟩) HBK.out).trans HC.out
      have hlc : lk ≤ 9223372036854775807 := Nat.le_trans hkn.2.1 hkn.2.2.1
      clear hcl hc hkn hb hkl hlk
      go_wp2_with fail
      refine (few_any A' lk c' kid w _ HKN.out HGR.out).mono ?_
      rintro e w2 ⟨rfl, hg2⟩
      have HG2 := Lib.hid (HGR.out.trans hg2)
      have HO2 := Lib.hid (HO.out.grow hg2)
      have p1 := (HG2.out.cell (p := ⟨b, off + k, none⟩) HBK.out).trans HC.out
      clear hg2 p0 HO HGR
      cases hfx : fewB kid with
      | false =>
        clear hfx
        go_wp2
        go_ret
        exact ⟨rfl, HG2.out⟩
      | true =>
        obtain ⟨hfine, hwi, hn100⟩ := few_fine HKN.out hfx
        have hw1 : IntKind.i64.wrap (((t : Nat) : Int) + ((lk : Nat) : Int)) = ((t + lk : Nat) : Int) := by rw [IntKind.wrap_i64]; omega
        by_cases h200 : 200 < t + lk
        · have h200i : (200 : Int) < ((t + lk : Nat) : Int) := by omega
          have h200j : (200 : Int) < ((t : Nat) : Int) + ((lk : Nat) : Int) := by omega
          clear hfx hfine hwi
          go_wp2
          go_ret
          exact ⟨rfl, HG2.out⟩
        have h200i : ¬ (200 : Int) < ((t + lk : Nat) : Int) := by omega
        have h200j : ¬ (200 : Int) < ((t : Nat) : Int) + ((lk : Nat) : Int) := by omega
        have HFX := Lib.hid hfine
        have HWI := Lib.hid hwi
        have HNA := Lib.hid (HKN.out.2.2.2.1.grow HG2.out)
        have hnc : lk ≤ c' := HKN.out.2.1
        clear hfx hfine hwi
        go_wp2_with fail
        refine (make_any A' lk c' kid _ HLK.out hnc HFX.out HWI.out HNA.out).mono ?_
        rintro e w3 ⟨hg3, ⟨hr, rfl⟩ | ⟨hr, g, r, hgg, rfl, hrl, hcp⟩⟩
        · have HG3 := Lib.hid (HG2.out.trans hg3)
          clear hg3 hr
          go_wp2
          go_ret
          exact ⟨rfl, HG3.out⟩
        have HAN := Lib.hid (HAS.out HFX.out hr)
        have HG3 := Lib.hid (HG2.out.trans hg3)
        have HO3 := Lib.hid (HO2.out.grow hg3)
        have HCP := Lib.hid hcp
        have HRL := Lib.hid hrl
        have HZ3 := Lib.hid (Nat.le_trans HG2.out.size hgg)
        have HOL := Lib.hid (show ∀ k, v.ownBlock = some k → k < g by obtain ⟨vals, ho, _⟩ := HO2.out; exact fun k hk => Nat.lt_of_lt_of_le (ho.lt k hk).2 hgg)
        clear hg3 hcp hrl hgg hr HO2 HNA HAS
        have HG4 := Lib.hid (grow_new w3 (.cells #[.slice (some ⟨g, 0, none⟩) r r] 22))
        have HO4 := Lib.hid (HO3.out.grow HG4.out)
        have HCELL : Hid ((w3.alloc (.cells #[.slice (some ⟨g, 0, none⟩) r r] 22)).cell? ⟨w3.heap.size, 0, none⟩ = some (.slice (some ⟨g, 0, none⟩) (formA kid).length r)) := Lib.hid (by rw [HRL.out, World.cell?_alloc_new]; rfl)
        have HKID := Lib.hid (HCP.out.nodesT.keep (w' := w3.alloc (.cells #[.slice (some ⟨g, 0, none⟩) r r] 22)) (T' := fun b => w.heap.size ≤ b ∧ v.ownBlock ≠ some b ∧ b < (w3.alloc (.cells #[.slice (some ⟨g, 0, none⟩) r r] 22)).heap.size) (fun b hb => ⟨⟨Nat.le_trans HZ3.out hb.1, fun e => by have := HOL.out b e; omega, Nat.lt_of_lt_of_le hb.2 HG4.out.size⟩, HG4.out.block b hb.2⟩))
        have HB4 := Lib.hid (Nat.le_trans HG3.out.size HG4.out.size)
        have HGA := Lib.hid (HG3.out.trans HG4.out)
        go_wp2_with (at_builtin; refine wpList_append_kid rfl _ _ rfl w.heap.size v dn (formA kid) w3.heap.size (some ⟨g, 0, none⟩) r rfl HO4.out rfl HCELL.out (by rw [HRL.out]; exact Nat.le_refl _) HKID.out HDL.out HB4.out ?_; intro v' w5 HO5 HB5)
        go_roundg (n - (k + 1))
        case rel =>
          exact ⟨k + 1, t + lk, v', by omega, rfl, by go_num, by go_num, rfl, by omega, Lib.hid (by rw [HST.out, List.length_append, ← HTK.out, HLK.out]), HAN, by rw [HMS.out]; exact HO5, Lib.hid (Below.trans HGA.out HB5.out)⟩
        case measure => omega
    · obtain rfl : n = k := by omega
      have hnn : ¬ ((n : Nat) : Int) < ((n : Nat) : Int) := by omega
      have htk : ks.take n = ks := List.take_of_length_le (by rw [HN.out]; exact Nat.le_refl _)
      rw [htk] at HTK HAL HO
      obtain ⟨AF, cF, hv, _, hcF, hkF⟩ := HO.out.kids
      rw [List.length_map, HN.out] at hv hcF
      obtain ⟨hff, hfl⟩ := alr_forms HAL.out
      have HT2 : Hid ((flatK ks).length ≤ 200) := Lib.hid (by rw [← HTK.out]; exact ht)
      have HF2 : Hid ((flatK (ks.map formA)).length ≤ 200) := Lib.hid (Nat.le_trans hfl HT2.out)
      have HFK : Hid (FitK ks) := Lib.hid (fun k hk => ⟨(HAL.out k hk).1.1, (HAL.out k hk).1.2.1⟩)
      have HFF : Hid (FitK (ks.map formA)) := Lib.hid (fun k hk => ⟨(hff k hk).1, (hff k hk).2.1⟩)
      have HFN := Lib.hid (fine_nest HS30.out (fun k hk => (HAL.out k hk).1) HT2.out)
      have HFM := Lib.hid (fine_nest HS30.out hff HF2.out)
      have HNI := Lib.hid (nest_items (sh := s) (ks := ks))
      have HNJ := Lib.hid (nest_items (sh := s) (ks := ks.map formA))
      have HKF := Lib.hid (fun h => kids_form (sh := s) (ks := ks) h fun k hk => (HAL.out k hk).1)
      have HML : Hid ((ks.map formA).length = n) := Lib.hid (by rw [List.length_map, HN.out])
      have HKV := Lib.hid hkF
      have HSW := Lib.hid (HSR.out.grow HGR.out)
      have HKW := Lib.hid (HKA.out.grow HGR.out)
      have hl6 : l1 ≤ 1100000 := by omega
      subst hv
      clear htk hff hfl hkF HAL HO HTK HKA HSR HKC
      generalize ks.map formA = fs at *
      go_wp2_with fail
      refine (nest_any A1 l1 c1 s A n c ks wr HSL.out hl6 HSW.out HN.out hnm HFK.out (by have := HT2.out; omega) HKW.out).mono ?_
      rintro e w5 ⟨hg5, hbd⟩
      have HG5 := Lib.hid (HGR.out.trans hg5)
      have HSX := Lib.hid (HSW.out.grow hg5)
      have HKX := Lib.hid (HKV.out.grow hg5)
      clear hg5 HSW HKW HKV HGR
      rcases hbd with ⟨hnb, rfl⟩ | ⟨hnb, g5, hgg5, rfl, hcp5⟩
      · clear hnb
        go_wp2_with fail
        refine (nest_any A1 l1 c1 s AF n cF fs w5 HSL.out hl6 HSX.out HML.out hnm HFF.out (by have := HF2.out; omega) HKX.out).mono ?_
        rintro e w6 ⟨hg6, ⟨hnb, rfl⟩ | ⟨hnb, g6, hgg6, rfl, hcp6⟩⟩
        · have HG6 := Lib.hid (HG5.out.trans hg6)
          clear hg6 hnb
          go_wp2
          go_ret
          exact ⟨rfl, HG6.out⟩
        · have HG6 := Lib.hid (HG5.out.trans hg6)
          clear hg6 hnb hgg6 hcp6
          go_wp2
          go_ret
          exact ⟨rfl, HG6.out⟩
      · obtain ⟨hnf, hfe⟩ := HKF.out hnb
        obtain ⟨hr1, hi1⟩ := HNI.out hnb
        obtain ⟨hr2, hi2⟩ := HNJ.out hnf
        obtain ⟨F, hF⟩ : ∃ F, formA (nest5 s :: flatK ks) = F := ⟨_, rfl⟩
        rw [hF] at hfe
        have HFINE : Hid (Fine F) := Lib.hid (by rw [← hF]; exact (form_right hr1 HFN.out).2.2.2.2.1)
        have HR1 := Lib.hid hr1
        have HI1 := Lib.hid hi1
        have HR2 := Lib.hid hr2
        have HI2 := Lib.hid hi2
        have HNF := Lib.hid hnf
        have HF := Lib.hid hF
        have HFE := Lib.hid hfe
        have HC5 := Lib.hid hcp5.nodes
        clear hnf hfe hr1 hi1 hr2 hi2 hF hcp5 hgg5 hnb HKF HNI HNJ
        have HL5 : Hid ((nest5 s :: flatK ks).length = 1 + (flatK ks).length) := Lib.hid (by rw [List.length_cons]; omega)
        have HL6 : Hid ((nest5 s :: flatK fs).length = 1 + (flatK fs).length) := Lib.hid (by rw [List.length_cons]; omega)
        go_wp2_with fail
        refine (nest_any A1 l1 c1 s AF n cF fs w5 HSL.out hl6 HSX.out HML.out hnm HFF.out (by have := HF2.out; omega) HKX.out).mono ?_
        rintro e w6 ⟨hg6, ⟨hnb, _⟩ | ⟨hnb, g6, hgg6, rfl, hcp6⟩⟩
        · rw [HNF.out] at hnb; cases hnb
        have HG6 := Lib.hid (HG5.out.trans hg6)
        have HC56 := Lib.hid (HC5.out.grow hg6)
        have HC6 := Lib.hid hcp6.nodes
        clear hg6 hnb hgg6 hcp6 HC5 HG5 HNF HSX HKX
        generalize nest5 s :: flatK ks = X at *
        generalize nest5 s :: flatK fs = Y at *
        generalize 1 + (flatK ks).length = x at *
        generalize 1 + (flatK fs).length = y at *
        go_wp2_with fail
        refine (make_any (some ⟨g5, 0, none⟩) x x X w6 HL5.out (Nat.le_refl _) HFN.out HI1.out HC56.out).mono ?_
        rintro e w7 ⟨hg7, ⟨hr, _⟩ | ⟨hr, g7, r7, hgg7, rfl, hrl7, hcp7⟩⟩
        · rw [HR1.out] at hr; cases hr
        rw [HF.out] at hrl7 hcp7
        have HG7 := Lib.hid (HG6.out.trans hg7)
        have HC67 := Lib.hid (HC6.out.grow hg7)
        have HC7 := Lib.hid hcp7.nodes
        have HL7 := Lib.hid hrl7
        clear hg7 hr hgg7 hrl7 hcp7 HC6 HG6
        go_wp2_with fail
        refine (make_any (some ⟨g6, 0, none⟩) y y Y w7 HL6.out (Nat.le_refl _) HFM.out HI2.out HC67.out).mono ?_
        rintro e w8 ⟨hg8, ⟨hr, _⟩ | ⟨hr, g8, r8, hgg8, rfl, hrl8, hcp8⟩⟩
        · rw [HR2.out] at hr; cases hr
        rw [HFE.out] at hrl8 hcp8
        have HG8 := Lib.hid (HG7.out.trans hg8)
        have HC78 := Lib.hid (HC7.out.grow hg8)
        have HC8 := Lib.hid hcp8.nodes
        have HL8 := Lib.hid hrl8
        have h76 : r7 ≤ 1100000 := by rw [← HL7.out]; exact HFINE.out.1
        have h86 : r8 ≤ 1100000 := by rw [← HL8.out]; exact HFINE.out.1
        clear hg8 hr hgg8 hrl8 hcp8 HC7 HG7
        go_wp2_with fail
        refine (rsameN_any (some ⟨g7, 0, none⟩) (some ⟨g8, 0, none⟩) r7 r8 r7 r8 F F w8 HL7.out HL8.out h76 h86 HFINE.out.2.1 HFINE.out.2.1 HC78.out HC8.out).mono ?_
        rw [decide_eq_true rfl]
        rintro e w9 ⟨rfl, hg9⟩
        go_wp2
        go_ret
        exact ⟨rfl, HG8.out.trans hg9⟩
end Go.Proofs.Ytcljpcbgokgcdaa
