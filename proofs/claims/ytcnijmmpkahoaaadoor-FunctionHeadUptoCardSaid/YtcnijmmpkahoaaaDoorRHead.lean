/-
  What the document's own Line, Labels, Same, Right, Name, Join and Split come to. Nothing is claimed here by itself.
-/
import Derived.Test.YtcnijmmpkahoaaaDoorRSigns
import Derived.Test.YtcnijmmpkahoaaaDoorLabelsP
import Derived.Test.YtcnijmmpkahoaaaDoorHeadP
import Derived.Test.YtcnijmmpkahoaaaDoorRText
namespace Go.Proofs.YtcnijmmpkahoaaaDoor
open Go.RowKit Go.Lib
set_option linter.unusedSimpArgs false
set_option linter.unusedVariables false
set_option maxRecDepth 10000

theorem any_step {ss : List Nat} {k : Nat} (h : k < ss.length) : (ss.drop k).any offC = (offC (ss.getD k 0) || (ss.drop (k + 1)).any offC) := by
  rw [List.drop_eq_getElem_cons h, List.any_cons]
  simp [List.getD, h]
set_option maxHeartbeats 1600000 in
theorem rline_any (l : List UInt8) (w : World) (hl : l.length ≤ 1100000) : Calls Tryd.prog 11 #[.string ⟨l.toArray⟩] w (Says (lineD l) w) := by
  have HN := Lib.hid (rsigns_any l w hl)
  cases hs : signsD l with
  | none =>
    unfold SignsOf at HN
    rw [hs] at HN
    have HF : Hid (lineD l = false) := Lib.hid (by unfold lineD; rw [hs])
    clear hs
    go_enter Tryd.func11, Tryd.ntmps11
    go_wp2_with fail
    refine (HN.out).mono ?_
    rintro e w2 ⟨v, rfl, _, hg⟩
    have HG := Lib.hid hg
    clear hg
    simp only [Option.isSome]
    go_wp2
    go_ret
    exact ⟨by rw [HF.out]; rfl, HG.out⟩
  | some ss =>
    unfold SignsOf at HN
    rw [hs] at HN
    have HF : Hid (lineD l = (decide (ss.length ≤ 1000) && !(ss.any offC))) := Lib.hid (by unfold lineD; rw [hs])
    obtain ⟨m, hm⟩ : ∃ m, ss.length = m := ⟨_, rfl⟩
    have hmb : m ≤ 1100000 := by have := signs_len hs; omega
    have HM := Lib.hid hm
    clear hs
    go_enter Tryd.func11, Tryd.ntmps11
    go_wp2_with fail
    refine (HN.out).mono ?_
    rintro e w2 ⟨v, rfl, hown, hg⟩
    have HG := Lib.hid hg
    simp only [Option.isSome, Option.getD] at hown ⊢
    obtain ⟨A, cap, rfl, _, hnums⟩ := hown.nums
    have HNU := Lib.hid hnums
    rw [hm]
    clear hg hown hnums HN hm
    by_cases h1 : m ≤ 1000
    · have h1i : ¬ (1000 : Int) < ((m : Nat) : Int) := by omega
      rw [HM.out, decide_eq_true h1, Bool.true_and] at HF
      obtain ⟨β, hβ⟩ : ∃ β, ss.any offC = β := ⟨_, rfl⟩
      rw [hβ] at HF
      have HB := Lib.hid hβ
      clear hβ
      go_wp2
      go_loopg [5] m (fun g s5 wr => ∃ k : Nat, k ≤ m ∧ g = m - k ∧ s5 = .int .i64 k ∧ Hid ((ss.drop k).any offC = β) ∧ w2 = wr)
      case atStart => exact ⟨0, Nat.zero_le _, rfl, rfl, HB, rfl⟩
      case round =>
        obtain ⟨k, hk, rfl, rfl, HA, rfl⟩ := hrel
        by_cases hlt : k < m
        · have hkl : k < ss.length := by rw [HM.out]; exact hlt
          obtain ⟨b, off, rfl, _, hcl⟩ := HNU.out (by rw [List.length_map]; omega)
          have hc := hcl k (by rw [List.length_map]; exact hkl)
          have hgd : (ss.map fun n => ((n : Nat) : Int)).getD k 0 = ((ss.getD k 0 : Nat) : Int) := by simp [List.getD, hkl]
          rw [hgd] at hc
          have HST := Lib.hid (any_step hkl)
          clear hcl hkl hgd
          generalize ss.getD k 0 = c at hc HST
          by_cases g1 : c < 32
          · have g1' : ((c : Nat) : Int) < 32 := by omega
            have HY : Hid (β = true) := Lib.hid (by rw [← HA.out, HST.out]; simp [offC, g1])
            clear HST g1
            go_wp2
            go_ret
            exact ⟨by rw [HF.out, HY.out]; rfl, HG.out⟩
          · have g1' : ¬ ((c : Nat) : Int) < 32 := by omega
            by_cases g2 : 127 ≤ c
            · have g2' : (127 : Int) ≤ ((c : Nat) : Int) := by omega
              by_cases g3 : c ≤ 159
              · have g3' : ((c : Nat) : Int) ≤ 159 := by omega
                have HY : Hid (β = true) := Lib.hid (by rw [← HA.out, HST.out]; simp [offC, g2, g3])
                clear HST g1 g2 g3
                go_wp2
                go_ret
                exact ⟨by rw [HF.out, HY.out]; rfl, HG.out⟩
              · have g3' : ¬ ((c : Nat) : Int) ≤ 159 := by omega
                have HY : Hid ((ss.drop (k + 1)).any offC = β) := Lib.hid (by rw [← HA.out, HST.out]; simp [offC, g1, g3])
                clear HST g1 g2 g3
                go_wp2
                go_roundg (m - (k + 1))
                case rel => exact ⟨k + 1, by omega, rfl, by go_num, HY, rfl⟩
                case measure => omega
            · have g2' : ¬ (127 : Int) ≤ ((c : Nat) : Int) := by omega
              have HY : Hid ((ss.drop (k + 1)).any offC = β) := Lib.hid (by rw [← HA.out, HST.out]; simp [offC, g1, g2])
              clear HST g1 g2
              go_wp2
              go_roundg (m - (k + 1))
              case rel => exact ⟨k + 1, by omega, rfl, by go_num, HY, rfl⟩
              case measure => omega
        · obtain rfl : m = k := by omega
          have HY : Hid (β = false) := Lib.hid (by rw [← HA.out, List.drop_of_length_le (by rw [HM.out]; exact Nat.le_refl _)]; rfl)
          go_wp2
          go_ret
          exact ⟨by rw [HF.out, HY.out]; rfl, HG.out⟩
    · have h1i : (1000 : Int) < ((m : Nat) : Int) := by omega
      rw [HM.out, decide_eq_false h1, Bool.false_and] at HF
      go_wp2
      go_ret
      exact ⟨by rw [HF.out]; rfl, HG.out⟩

/-! ### labels -/
theorem label_cases (x : List UInt8) : (x.take (takenD x) = [] ∨ x.drop (takenD x) = [] ∨ (∃ y t, x.drop (takenD x) = y :: t ∧ y ≠ 58)) ∧ labelD x = [] ∨
    x.take (takenD x) ≠ [] ∧ (∃ t, x.drop (takenD x) = 58 :: t) ∧ labelD x = x.take (takenD x) := by
  have hat : ∀ y t, x.drop (takenD x) = y :: t → x[takenD x]? = some y := fun y t e => by
    have : (x.drop (takenD x))[0]? = some y := by rw [e]; rfl
    simpa using this
  by_cases ha : x.take (takenD x) = []
  · refine .inl ⟨.inl ha, ?_⟩
    unfold labelD
    rw [ha]
    split <;> rfl
  · cases hd : x.drop (takenD x) with
    | nil =>
      refine .inl ⟨.inr (.inl rfl), ?_⟩
      unfold labelD
      rw [if_neg]
      intro h
      have hlt := (List.getElem?_eq_some_iff.1 h).1
      rw [List.drop_eq_nil_iff] at hd
      omega
    | cons y t =>
      have h := hat y t hd
      by_cases hy : y = 58
      · subst hy
        refine .inr ⟨ha, ⟨t, rfl⟩, ?_⟩
        unfold labelD
        rw [if_pos h]
      · refine .inl ⟨.inr (.inr ⟨y, t, rfl, hy⟩), ?_⟩
        unfold labelD
        rw [if_neg]
        rw [h]
        exact fun e => hy (Option.some.inj e)
set_option maxHeartbeats 3200000 in
theorem rlabels_any (A : Option Addr) (n c : Nat) (ls : List (List UInt8)) (w : World) (hn : ls.length = n) (hb : n ≤ 1100000) (hr : Strs w w.heap.size A ls) (hs : ∀ s ∈ ls, s.length ≤ 1100000) :
    Calls Tryd.prog 14 #[.slice A n c] w (OwnR (labelsD ls) w) := by
  have HR := Lib.hid hr
  have HN := Lib.hid hn
  have HS := Lib.hid hs
  clear hr hn hs
  go_enter Tryd.func14, Tryd.ntmps14
  go_wp2
  go_loopg [3, 4] n (fun g s3 s4 wr => ∃ (k : Nat) (v : Value), 1 ≤ k ∧ k ≤ n + 1 ∧ g = n + 1 - k ∧ v = s3 ∧ s4 = .int .i64 k ∧ Hid (OwnS w.heap.size v (labelsD (ls.take k)) wr) ∧ Hid (Grow w wr))
  case atStart =>
    refine ⟨1, _, Nat.le_refl _, by omega, by omega, rfl, rfl, Lib.hid ?_, Lib.hid (Grow.refl _)⟩
    have : labelsD (ls.take 1) = [] := by cases ls <;> rfl
    rw [this]
    exact ownS_nil _ _
  case round =>
    obtain ⟨k, v, hk1, hk, rfl, rfl, rfl, HO, HG⟩ := hrel
    by_cases hlt : k < n
    · have hkl : k < ls.length := by rw [HN.out]; exact hlt
      obtain ⟨b, off, rfl, hbb, hcl⟩ := HR.out.grow HG.out (by omega)
      have hc := hcl k hkl
      have hx1 := getD_len HS.out k
      have HST : Hid (labelsD (ls.take (k + 1)) = if labelD (ls.getD k []) = [] then labelsD (ls.take k) else labelsD (ls.take k) ++ [labelD (ls.getD k [])]) := Lib.hid (by
        rw [labels_step hkl]
        by_cases h : labelD (ls.getD k []) = []
        · rw [if_pos (.inr h), if_pos h]
        · rw [if_neg (fun e => e.elim (by omega) h), if_neg h])
      have HLQ : Hid ((labelsD (ls.take k)).length ≤ 1100000) := Lib.hid (by
        have := labels_len (ls.take k)
        rw [List.length_take] at this
        omega)
      clear hcl hkl
      generalize ls.getD k [] = x at hc HST hx1
      have HC := Lib.hid (rtake_any x wr hx1)
      have hcs := label_cases x
      obtain ⟨p, hp⟩ : ∃ p, x.take (takenD x) = p := ⟨_, rfl⟩
      obtain ⟨q, hq⟩ : ∃ q, x.drop (takenD x) = q := ⟨_, rfl⟩
      rw [hp, hq] at HC hcs
      clear hp hq
      have HLA := Lib.hid hcs
      clear hcs
      by_cases hp0 : p = []
      · have HSN : Hid (labelsD (ls.take (k + 1)) = labelsD (ls.take k)) := Lib.hid (by
          rw [HST.out]
          rcases HLA.out with h | h
          · rw [if_pos h.2]
          · exact absurd hp0 h.1)
        subst hp0
        clear HST HLA
        go_wp2_with fail
        refine (HC.out).mono ?_
        rintro e w2 ⟨rfl, hg⟩
        have HG2 := Lib.hid (HG.out.trans hg)
        have HO2 : Hid (OwnS w.heap.size v (labelsD (ls.take (k + 1))) w2) := Lib.hid (by rw [HSN.out]; exact HO.out.grow hg)
        clear hg
        go_wp2
        go_roundg (n + 1 - (k + 1))
        case rel => exact ⟨k + 1, _, by omega, by omega, rfl, rfl, by go_num, HO2, HG2⟩
        case measure => omega
      · have hpb : (p == []) = false := beq_eq_false_iff_ne.2 hp0
        by_cases hq0 : q = []
        · subst hq0
          have HSN : Hid (labelsD (ls.take (k + 1)) = labelsD (ls.take k)) := Lib.hid (by
            rw [HST.out]
            rcases HLA.out with h | ⟨_, ⟨t, e⟩, _⟩
            · rw [if_pos h.2]
            · cases e)
          clear HST HLA
          go_wp2_with fail
          refine (HC.out).mono ?_
          rintro e w2 ⟨rfl, hg⟩
          have HG2 := Lib.hid (HG.out.trans hg)
          have HO2 : Hid (OwnS w.heap.size v (labelsD (ls.take (k + 1))) w2) := Lib.hid (by rw [HSN.out]; exact HO.out.grow hg)
          clear hg hp0
          go_wp2
          go_roundg (n + 1 - (k + 1))
          case rel => exact ⟨k + 1, _, by omega, by omega, rfl, rfl, by go_num, HO2, HG2⟩
          case measure => omega
        · have hqb : (q == []) = false := beq_eq_false_iff_ne.2 hq0
          obtain ⟨y, t, hqe⟩ : ∃ y t, q = y :: t := by
            cases q with
            | nil => exact absurd rfl hq0
            | cons y t => exact ⟨y, t, rfl⟩
          have hix := index_first (l := q) (x := y) (by rw [hqe]; rfl)
          have HQE := Lib.hid hqe
          clear hqe hq0
          by_cases hy : y = 58
          · subst hy
            have HSN : Hid (labelsD (ls.take (k + 1)) = labelsD (ls.take k) ++ [p]) := Lib.hid (by
              rw [HST.out]
              rcases HLA.out with h | ⟨h1, _, h3⟩
              · rcases h.1 with h | h | ⟨y, t, h, hn⟩
                · exact absurd h hp0
                · rw [HQE.out] at h; cases h
                · rw [HQE.out] at h
                  injection h with h1 h2
                  exact absurd h1.symm hn
              · rw [h3, if_neg h1])
            have HAP : Hid (∀ w2, Grow wr w2 → OwnS w.heap.size v (labelsD (ls.take k)) (w2.alloc (.cells #[.string ⟨p.toArray⟩] 9)) ∧ Strs (w2.alloc (.cells #[.string ⟨p.toArray⟩] 9)) (w2.alloc (.cells #[.string ⟨p.toArray⟩] 9)).heap.size (some ⟨w2.heap.size, 0, none⟩) [p] ∧ w.heap.size ≤ (w2.alloc (.cells #[.string ⟨p.toArray⟩] 9)).heap.size ∧ Grow w (w2.alloc (.cells #[.string ⟨p.toArray⟩] 9))) := Lib.hid (fun w2 hg => by
              have hgn := grow_new w2 (.cells #[.string ⟨p.toArray⟩] 9)
              have hgw := HG.out.trans (hg.trans hgn)
              exact ⟨(HO.out.grow hg).grow hgn, strs_lit w2 [p], hgw.size, hgw⟩)
            have HLS : Hid ((labelsD (ls.take k)).length + [p].length ≤ 1000000000) := Lib.hid (by have := HLQ.out; simp; omega)
            have h58 : (((58 : UInt8).toNat : Nat) : Int) = 58 := rfl
            rw [h58] at hix
            clear HST HLA hp0 h58
            go_wp2_with fail
            refine (HC.out).mono ?_
            rintro e w2 ⟨rfl, hg⟩
            have HA2 := Lib.hid (HAP.out w2 hg)
            clear hg
            go_upto_region 8 with (at_builtin; refine wpList_append_any rfl _ _ rfl w.heap.size _ (labelsD (ls.take k)) [p] (some ⟨w2.heap.size, 0, none⟩) 1 1 rfl HA2.out.1 rfl rfl (fun e => by cases e) HA2.out.2.1 HLS.out HA2.out.2.2.1 ?_; intro v3 w3 HO3 HBL3)
            have HO4 : Hid (OwnS w.heap.size v3 (labelsD (ls.take (k + 1))) w3) := Lib.hid (by rw [HSN.out]; exact HO3)
            have HG4 := Lib.hid (show Grow w w3 from Below.trans HA2.out.2.2.2 HBL3)
            clear HO3 HBL3
            go_wp2
            go_roundg (n + 1 - (k + 1))
            case rel => exact ⟨k + 1, _, by omega, by omega, rfl, rfl, by go_num, HO4, HG4⟩
            case measure => omega
          · have HSN : Hid (labelsD (ls.take (k + 1)) = labelsD (ls.take k)) := Lib.hid (by
              rw [HST.out]
              rcases HLA.out with h | ⟨_, ⟨t, e⟩, _⟩
              · rw [if_pos h.2]
              · rw [HQE.out] at e
                injection e with e1 e2
                exact absurd e1 hy)
            have hyb : (((y.toNat : Nat) : Int) == 58) = false := by
              rw [beq_eq_false_iff_ne]
              intro e
              apply hy
              apply UInt8.toNat_inj.1
              rw [show (58 : UInt8).toNat = 58 from rfl]
              omega
            clear HST HLA hp0 hy
            go_wp2_with fail
            refine (HC.out).mono ?_
            rintro e w2 ⟨rfl, hg⟩
            have HG2 := Lib.hid (HG.out.trans hg)
            have HO2 : Hid (OwnS w.heap.size v (labelsD (ls.take (k + 1))) w2) := Lib.hid (by rw [HSN.out]; exact HO.out.grow hg)
            clear hg
            go_wp2
            go_roundg (n + 1 - (k + 1))
            case rel => exact ⟨k + 1, _, by omega, by omega, rfl, rfl, by go_num, HO2, HG2⟩
            case measure => omega
    · have HF : Hid (labelsD (ls.take k) = labelsD ls) := Lib.hid (by rw [List.take_of_length_le (by rw [HN.out]; omega)])
      rw [HF.out] at HO
      go_wp2
      go_ret
      exact ⟨_, rfl, HO.out, HG.out⟩

/-! ### two rows -/
set_option maxHeartbeats 1600000 in
theorem rsameL_any (A1 : Option Addr) (n1 c1 : Nat) (l1 : List (List UInt8)) (A2 : Option Addr) (n2 c2 : Nat) (l2 : List (List UInt8)) (w : World) (h1 : l1.length = n1) (h2 : l2.length = n2) (hb : n1 ≤ 1100000) (r1 : Strs w w.heap.size A1 l1) (r2 : Strs w w.heap.size A2 l2) :
    Calls Tryd.prog 12 #[.slice A1 n1 c1, .slice A2 n2 c2] w (Says (decide (l1 = l2)) w) := by
  obtain ⟨γ, hγ⟩ : ∃ γ, decide (l1 = l2) = γ := ⟨_, rfl⟩
  have HD := Lib.hid hγ
  rw [hγ]
  have HT1 := Lib.hid r1
  have HT2 := Lib.hid r2
  have HL1 := Lib.hid h1
  have HL2 := Lib.hid h2
  clear hγ r1 r2 h1 h2
  go_enter Tryd.func12, Tryd.ntmps12
  by_cases hm : n1 = n2
  · subst hm
    go_wp2
    go_loopg [5] n1 (fun g s5 wr => ∃ k : Nat, k ≤ n1 ∧ g = n1 - k ∧ s5 = .int .i64 k ∧ Hid (l1.take k = l2.take k) ∧ Hid (Grow w wr))
    case atStart => exact ⟨0, Nat.zero_le _, rfl, rfl, Lib.hid rfl, Lib.hid (Grow.refl _)⟩
    case round =>
      obtain ⟨k, hk, rfl, rfl, HE, HGW⟩ := hrel
      by_cases hlt : k < n1
      · have hk1 : k < l1.length := by rw [HL1.out]; exact hlt
        have hk2 : k < l2.length := by rw [HL2.out]; exact hlt
        obtain ⟨g1, o1, rfl, _, hc1⟩ := HT1.out.grow HGW.out (by omega)
        obtain ⟨g2, o2, rfl, _, hc2⟩ := HT2.out.grow HGW.out (by omega)
        have r1 := hc1 k hk1
        have r2 := hc2 k hk2
        have HST : Hid (l1.getD k [] = l2.getD k [] → l1.take (k + 1) = l2.take (k + 1)) := Lib.hid (fun e => by
          rw [List.take_add_one, List.take_add_one, HE.out]
          congr 2
          rw [List.getElem?_eq_getElem hk1, List.getElem?_eq_getElem hk2]
          simpa [List.getD, hk1, hk2] using e)
        have HNO : Hid (l1.getD k [] ≠ l2.getD k [] → l1 ≠ l2) := Lib.hid (fun h e => h (by rw [e]))
        clear hc1 hc2 hk1 hk2
        generalize l1.getD k [] = p at r1 HST HNO
        generalize l2.getD k [] = q at r2 HST HNO
        by_cases hpq : p = q
        · have hb : (p == q) = true := by rw [hpq]; simp
          have HN := Lib.hid (HST.out hpq)
          subst hpq
          clear HST HNO
          go_upto_region 6 with fail
          go_region
          all_goals
            go_wp2
            go_roundg (n1 - (k + 1))
            case rel => exact ⟨k + 1, by omega, rfl, by go_num, HN, Lib.hid HGW.out.drew⟩
            case measure => omega
        · have hb : (p == q) = false := beq_eq_false_iff_ne.2 hpq
          have HN := Lib.hid (show γ = false by rw [← HD.out, decide_eq_false_iff_not]; exact fun e => HNO.out hpq e)
          clear HST HNO hpq
          go_upto_region 6 with fail
          go_region
          all_goals
            go_wp2
            go_ret
            exact ⟨by rw [HN.out]; rfl, HGW.out.drew⟩
      · obtain rfl : n1 = k := by omega
        have HN := Lib.hid (show γ = true by
          rw [← HD.out, decide_eq_true_iff]
          have := HE.out
          rwa [List.take_of_length_le (by rw [HL1.out]; exact Nat.le_refl _), List.take_of_length_le (by rw [HL2.out]; exact Nat.le_refl _)] at this)
        go_wp2
        go_ret
        exact ⟨by rw [HN.out]; rfl, HGW.out⟩
  · have hmi : ¬ (((n1 : Nat) : Int) = ((n2 : Nat) : Int)) := by omega
    have hmb : (((n1 : Nat) : Int) == ((n2 : Nat) : Int)) = false := beq_eq_false_iff_ne.2 hmi
    have HN := Lib.hid (show γ = false by rw [← HD.out, decide_eq_false_iff_not]; exact fun e => hm (by rw [← HL1.out, ← HL2.out, e]))
    go_wp2
    go_ret
    exact ⟨by rw [HN.out]; rfl, Grow.refl _⟩
end Go.Proofs.YtcnijmmpkahoaaaDoor

namespace Go.Proofs.YtcnijmmpkahoaaaDoor
open Go.RowKit Go.Lib
set_option linter.unusedSimpArgs false
set_option linter.unusedVariables false
set_option maxRecDepth 10000

theorem all_next {p : List UInt8 → Bool} {ls : List (List UInt8)} {k : Nat} (h : k < ls.length) (ha : (ls.take k).all p = true) (hp : p (ls.getD k []) = true) : (ls.take (k + 1)).all p = true := by
  rw [take_step h, List.all_append, ha, List.all_cons, hp]
  rfl
theorem all_not {p : List UInt8 → Bool} {ls : List (List UInt8)} {k : Nat} (h : k < ls.length) (hp : p (ls.getD k []) = false) : ls.all p = false := by
  rw [Bool.eq_false_iff]
  intro ha
  have := List.all_eq_true.1 ha (ls.getD k []) (by
    have e : ls.getD k [] = ls[k] := by simp [List.getD, h]
    rw [e]
    exact List.getElem_mem h)
  rw [hp] at this
  cases this
theorem all_done {p : List UInt8 → Bool} {ls : List (List UInt8)} {n : Nat} (hn : ls.length = n) (h : (ls.take n).all p = true) : ls.all p = true := by
  rwa [List.take_of_length_le (by rw [hn]; exact Nat.le_refl _)] at h

set_option maxHeartbeats 12800000 in
theorem rrightL_any (A : Option Addr) (n c : Nat) (ls : List (List UInt8)) (w : World) (hn : ls.length = n) (hb : n ≤ 1100000) (hr : Strs w w.heap.size A ls) (hs : ∀ s ∈ ls, s.length ≤ 800000) :
    Calls Tryd.prog 16 #[.slice A n c] w (Says (headL ls).isSome w) := by
  obtain ⟨γ, hγ⟩ : ∃ γ, (headL ls).isSome = γ := ⟨_, rfl⟩
  have HD := Lib.hid hγ
  have HR := Lib.hid hr
  have HN := Lib.hid hn
  have HS := Lib.hid hs
  have HBIG : Hid (∀ s ∈ ls, s.length ≤ 1100000) := Lib.hid (fun s h => by have := hs s h; omega)
  have HNO : Hid (headL ls = none → γ = false) := Lib.hid (fun e => by rw [← hγ, e]; rfl)
  have HYES : Hid (∀ x, headL ls = some x → γ = true) := Lib.hid (fun x e => by rw [← hγ, e]; rfl)
  rw [hγ]
  clear hγ hr hn hs
  go_enter Tryd.func16, Tryd.ntmps16
  by_cases h0 : n = 0
  · have HF := Lib.hid (HNO.out (bad_lines (ls := ls) (.inl (List.eq_nil_of_length_eq_zero (by rw [HN.out]; exact h0)))))
    subst h0
    go_wp2
    go_ret
    exact ⟨by rw [HF.out]; rfl, Grow.refl _⟩
  by_cases h1 : 1000 < n
  · have HF := Lib.hid (HNO.out (bad_lines (ls := ls) (.inr (.inl (by rw [HN.out]; exact h1)))))
    have h1i : (1000 : Int) < ((n : Nat) : Int) := by omega
    have h0i : decide (((n : Nat) : Int) < 1) = false := by rw [decide_eq_false_iff_not]; omega
    have h0n : decide (n < 1) = false := by rw [decide_eq_false_iff_not]; omega
    go_wp2
    go_ret
    exact ⟨by rw [HF.out]; rfl, Grow.refl _⟩
  have h1i : ¬ (1000 : Int) < ((n : Nat) : Int) := by omega
  have h0i : decide (((n : Nat) : Int) < 1) = false := by rw [decide_eq_false_iff_not]; omega
  have h0n : decide (n < 1) = false := by rw [decide_eq_false_iff_not]; omega
  have HNE : Hid (ls ≠ []) := Lib.hid (fun e => h0 (by rw [← HN.out, e]; rfl))
  have HLE : Hid (ls.length ≤ 1000) := Lib.hid (by rw [HN.out]; omega)
  go_wp2
  go_loopg [3] n (fun g s3 wr => ∃ k : Nat, k ≤ n ∧ g = n - k ∧ s3 = .int .i64 k ∧ Hid ((ls.take k).all lineD = true) ∧ Hid (Grow w wr))
  case atStart => exact ⟨0, Nat.zero_le _, rfl, rfl, Lib.hid rfl, Lib.hid (Grow.refl _)⟩
  case round =>
    obtain ⟨k, hk, rfl, rfl, HA, HG⟩ := hrel
    by_cases hlt : k < n
    · have hkl : k < ls.length := by rw [HN.out]; exact hlt
      obtain ⟨b, off, rfl, hbb, hcl⟩ := HR.out.grow HG.out (by omega)
      have hc := hcl k hkl
      have hx1 := getD_len HBIG.out k
      have HST := Lib.hid (fun h => all_next (p := lineD) hkl HA.out h)
      have HNT := Lib.hid (fun h => all_not (p := lineD) hkl h)
      clear hcl hkl
      generalize ls.getD k [] = x at hc HST HNT hx1
      have HC := Lib.hid (rline_any x wr hx1)
      obtain ⟨ρ, hρ⟩ : ∃ ρ, lineD x = ρ := ⟨_, rfl⟩
      rw [hρ] at HC HST HNT
      clear hρ
      cases ρ with
      | true =>
        have HN2 := Lib.hid (HST.out rfl)
        clear HST HNT
        go_wp2_with fail
        refine (HC.out).mono ?_
        rintro e w2 ⟨rfl, hg⟩
        have HG2 := Lib.hid (HG.out.trans hg)
        clear hg
        go_wp2
        go_roundg (n - (k + 1))
        case rel => exact ⟨k + 1, by omega, rfl, by go_num, HN2, HG2⟩
        case measure => omega
      | false =>
        have HF := Lib.hid (HNO.out (bad_lines (ls := ls) (.inr (.inr (HNT.out rfl)))))
        clear HST HNT
        go_wp2_with fail
        refine (HC.out).mono ?_
        rintro e w2 ⟨rfl, hg⟩
        have HG2 := Lib.hid (HG.out.trans hg)
        clear hg
        go_wp2
        go_ret
        exact ⟨by rw [HF.out]; rfl, HG2.out⟩
    · obtain rfl : n = k := by omega
      have HAL := Lib.hid (all_done HN.out HA.out)
      obtain ⟨w2, hw2⟩ : ∃ w2, w2 = wr := ⟨_, rfl⟩
      subst hw2
      have hkl : 0 < ls.length := by rw [HN.out]; omega
      obtain ⟨b, off, rfl, hbb, hcl⟩ := HR.out.grow HG.out hkl
      have hc := hcl 0 hkl
      have hx1 := getD_len HS.out 0
      obtain ⟨s, hs⟩ : ∃ s, ls.getD 0 [] = s := ⟨_, rfl⟩
      obtain ⟨o, ho⟩ : ∃ o, parseR s = o := ⟨_, rfl⟩
      have HPO : Hid (parseR (ls.getD 0 []) = o) := Lib.hid (by rw [hs]; exact ho)
      rw [hs] at hc hx1
      have hc' : w2.cell? ⟨b, off, none⟩ = some (.string ⟨s.toArray⟩) := hc
      have hpa := rparse_any s w2 (by omega)
      rw [ho] at hpa
      have HPA := Lib.hid hpa
      have HSM := Lib.hid hx1
      have HOO := Lib.hid ho
      clear hpa hcl hkl hbb hs ho hx1
      cases o with
      | none =>
        have HF := Lib.hid (HNO.out (bad_parse (ls := ls) HPO.out))
        go_wp2_with fail
        refine (HPA.out).mono ?_
        rintro e w3 ⟨A3, n3, c3, rfl, hin, hg⟩
        have hg4 := grow_new w3 (.cells #[.string ⟨#[]⟩, .string ⟨#[]⟩, .string ⟨#[]⟩, .string ⟨#[]⟩, .string ⟨#[]⟩, .string ⟨#[]⟩, .slice A3 n3 c3] 33)
        have HG4 := Lib.hid ((HG.out.trans hg).trans hg4)
        simp only [Option.getD, Option.isSome, hd0, hdV, strv]
        clear hg hg4 hin hc hc'
        go_wp2
        go_ret
        exact ⟨by rw [HF.out]; rfl, HG4.out⟩
      | some h =>
        have HLEN := Lib.hid (labels_len ls)
        have HLB : Hid (∀ W, Grow w W → Calls Tryd.prog 14 #[.slice (some ⟨b, off, none⟩) n c] W (OwnR (labelsD ls) W)) := Lib.hid (fun W hW => rlabels_any _ n c ls W HN.out hb (HR.out.grow hW) HBIG.out)
        have HLE1 := Lib.hid (labels_each HBIG.out)
        have HBAD : Hid ((labelsD ls).all rightD = false ∨ unlB (allH h ++ labelsD ls) = false → γ = false) := Lib.hid (fun e => HNO.out (bad_rest HPO.out e))
        have HGOOD : Hid ((labelsD ls).all rightD = true → unlB (allH h ++ labelsD ls) = true → γ = true) := Lib.hid (fun e1 e2 => HYES.out h (good_lines HNE.out HLE.out HAL.out HPO.out e1 e2))
        generalize labelsD ls = lbs at HLEN HLB HLE1 HBAD HGOOD
        go_wp2_with fail
        refine (HPA.out).mono ?_
        rintro e w3 ⟨A3, n3, c3, rfl, hin, hg⟩
        simp only [Option.getD, Option.isSome] at hin ⊢
        have HE := Lib.hid (show allH h = [h.res, h.left, h.name, h.right, h.f, h.g] ++ h.locs from rfl)
        have hg4 := grow_new w3 (.cells #[.string ⟨h.res.toArray⟩, .string ⟨h.left.toArray⟩, .string ⟨h.name.toArray⟩, .string ⟨h.right.toArray⟩, .string ⟨h.f.toArray⟩, .string ⟨h.g.toArray⟩, .slice A3 n3 c3] 33)
        have HG4 := Lib.hid ((HG.out.trans hg).trans hg4)
        have hb4 := boxH_new w3 h A3 n3 c3
        have HI4 := Lib.hid (hin.grow hg4)
        have HI5L : Hid ((allH h).length ≤ 1050006) := Lib.hid (by have := hin.len; have := hin.top; simp only [allH, List.length_cons]; omega)
        obtain ⟨hb_, hhb⟩ : ∃ hb, w3.heap.size = hb := ⟨_, rfl⟩
        have HHB := Lib.hid hhb
        rw [hhb] at hb4
        have HB4 := Lib.hid hb4
        have HAE := Lib.hid (allH_each HOO.out HSM.out)
        unfold hdV strv
        clear hg hg4 hin hc hc' hb4 hhb HPA
        go_upto_region 9 with fail
        rw [HHB.out]
        generalize w3.alloc (.cells #[.string ⟨h.res.toArray⟩, .string ⟨h.left.toArray⟩, .string ⟨h.name.toArray⟩, .string ⟨h.right.toArray⟩, .string ⟨h.f.toArray⟩, .string ⟨h.g.toArray⟩, .slice A3 n3 c3] 33) = w4 at HG4 HI4 HB4 ⊢
        have hg5 := grow_new w4 (.cells #[.string ⟨h.res.toArray⟩, .string ⟨h.left.toArray⟩, .string ⟨h.name.toArray⟩, .string ⟨h.right.toArray⟩, .string ⟨h.f.toArray⟩, .string ⟨h.g.toArray⟩] 9)
        have HO5 : Hid (OwnS w4.heap.size (.slice (some ⟨w4.heap.size, 0, none⟩) 6 6) [h.res, h.left, h.name, h.right, h.f, h.g] (w4.alloc (.cells #[.string ⟨h.res.toArray⟩, .string ⟨h.left.toArray⟩, .string ⟨h.name.toArray⟩, .string ⟨h.right.toArray⟩, .string ⟨h.f.toArray⟩, .string ⟨h.g.toArray⟩] 9))) := Lib.hid (ownS_lit w4 [h.res, h.left, h.name, h.right, h.f, h.g] (by simp))
        have HB5 := Lib.hid (HB4.out.grow hg5)
        have HS5 := Lib.hid (HI4.out.strs.grow hg5)
        have HZ5 : Hid (w4.heap.size ≤ (w4.alloc (.cells #[.string ⟨h.res.toArray⟩, .string ⟨h.left.toArray⟩, .string ⟨h.name.toArray⟩, .string ⟨h.right.toArray⟩, .string ⟨h.f.toArray⟩, .string ⟨h.g.toArray⟩] 9)).heap.size) := Lib.hid hg5.size
        have HG5 := Lib.hid hg5
        have HLT : Hid ([h.res, h.left, h.name, h.right, h.f, h.g].length + h.locs.length ≤ 1000000000) := Lib.hid (by have := HI4.out.top; rw [HI4.out.len]; simp; omega)
        have b0 := HB4.out.at0
        have b1 := HB4.out.at1
        have b2 := HB4.out.at2
        have b3 := HB4.out.at3
        have b4 := HB4.out.at4
        have b5 := HB4.out.at5
        have b6 := HB5.out.at6
        clear hg5
        go_upto_region 12 with (at_builtin; refine wpList_append_any rfl _ _ rfl w4.heap.size _ [h.res, h.left, h.name, h.right, h.f, h.g] h.locs A3 n3 c3 rfl HO5.out rfl HI4.out.len HI4.out.none HS5.out HLT.out HZ5.out ?_; intro v6 w6 HO6 HB6)
        have HG6 := Lib.hid (show Grow w w6 from Below.trans HG4.out (Below.mono (Below.trans (show Below w4.heap.size w4 _ from HG5.out) HB6) HG4.out.size))
        rw [← HE.out] at HO6
        have HL6 := Lib.hid (HO6.base HG4.out.size)
        have HLB6 := Lib.hid (HLB.out w6 HG6.out)
        clear HO6 HB6 HO5 HB5 HS5 HZ5 HG5 b0 b1 b2 b3 b4 b5 b6 HB4
        go_wp2_with fail
        refine (HLB6.out).mono ?_
        rintro e w7 ⟨v7, rfl, hown, hg⟩
        have HG7 := Lib.hid (HG6.out.trans hg)
        have HL7 := Lib.hid (HL6.out.grow hg)
        obtain ⟨A7, c7, rfl, _, hz7, hs7⟩ := hown.strs'
        obtain ⟨m, hm⟩ : ∃ m, lbs.length = m := ⟨_, rfl⟩
        rw [hm]
        have HM := Lib.hid hm
        have HZ7 := Lib.hid hz7
        have HS7 := Lib.hid hs7
        have hmb : m ≤ 1000 := by have := HLEN.out; have := HLE.out; omega
        clear hg hown hz7 hs7 hm HL6 HLB6
        go_wp2
        go_loopg [8] m (fun g s8 wr => ∃ k : Nat, k ≤ m ∧ g = m - k ∧ s8 = .int .i64 k ∧ Hid ((lbs.take k).all rightD = true) ∧ Hid (Grow w7 wr))
        case atStart => exact ⟨0, Nat.zero_le _, rfl, rfl, Lib.hid rfl, Lib.hid (Grow.refl _)⟩
        case round =>
          obtain ⟨k, hk, rfl, rfl, HA8, HG8⟩ := hrel
          by_cases hlt : k < m
          · have hkl : k < lbs.length := by rw [HM.out]; exact hlt
            obtain ⟨b7, off7, rfl, hbb, hcl⟩ := HS7.out.grow HG8.out (by omega)
            have hc := hcl k hkl
            have hx1 := getD_len HLE1.out k
            have HST := Lib.hid (fun h => all_next (p := rightD) hkl HA8.out h)
            have HNT := Lib.hid (fun h => all_not (p := rightD) hkl h)
            clear hcl hkl
            generalize lbs.getD k [] = x at hc HST HNT hx1
            have HC := Lib.hid (rright_any x wr hx1)
            obtain ⟨ρ, hρ⟩ : ∃ ρ, rightD x = ρ := ⟨_, rfl⟩
            rw [hρ] at HC HST HNT
            clear hρ
            cases ρ with
            | true =>
              have HN2 := Lib.hid (HST.out rfl)
              clear HST HNT
              go_wp2_with fail
              refine (HC.out).mono ?_
              rintro e w9 ⟨rfl, hg⟩
              have HG9 := Lib.hid (HG8.out.trans hg)
              clear hg
              go_wp2
              go_roundg (m - (k + 1))
              case rel => exact ⟨k + 1, by omega, rfl, by go_num, HN2, HG9⟩
              case measure => omega
            | false =>
              have HF := Lib.hid (HBAD.out (.inl (HNT.out rfl)))
              clear HST HNT
              go_wp2_with fail
              refine (HC.out).mono ?_
              rintro e w9 ⟨rfl, hg⟩
              have HG9 := Lib.hid (HG7.out.trans (HG8.out.trans hg))
              clear hg
              go_wp2
              go_ret
              exact ⟨by rw [HF.out]; rfl, HG9.out⟩
          · obtain rfl : m = k := by omega
            have HAR := Lib.hid (all_done HM.out HA8.out)
            obtain ⟨w8, hw8⟩ : ∃ w8, w8 = wr := ⟨_, rfl⟩
            subst hw8
            have HGW8 := Lib.hid (HG7.out.trans HG8.out)
            have HL8 := Lib.hid (HL7.out.grow HG8.out)
            have HS8 := Lib.hid (HS7.out.grow HG8.out)
            have HLT2 : Hid ((allH h).length + lbs.length ≤ 1000000000) := Lib.hid (by have h1 := HI5L.out; have h2 := HM.out; omega)
            have HZ8 : Hid (w.heap.size ≤ w8.heap.size) := Lib.hid HGW8.out.size
            obtain ⟨δ, hδ⟩ : ∃ δ, unlB (allH h ++ lbs) = δ := ⟨_, rfl⟩
            have HUU : Hid (∀ A9 c9 W, Strs W W.heap.size A9 (allH h ++ lbs) → Calls Tryd.prog 39 #[.slice A9 (allH h ++ lbs).length c9] W (Says δ W)) := Lib.hid (fun A9 c9 W hW => by
              rw [← hδ]
              exact runlike_any A9 _ c9 _ W rfl (by have h1 := HI5L.out; have h2 := HM.out; rw [List.length_append]; omega) hW)
            have HFF : Hid (γ = δ) := Lib.hid (by
              cases δ with
              | true => exact HGOOD.out HAR.out hδ
              | false => exact HBAD.out (.inr hδ))
            clear hδ
            go_wp2_with (at_builtin; refine wpList_append_any rfl _ _ rfl w.heap.size v6 (allH h) lbs A7 m c7 rfl HL8.out rfl HM.out HZ7.out HS8.out HLT2.out HZ8.out ?_; intro v9 w9 HO9 HB9)
            have HG9 := Lib.hid (show Grow w w9 from Below.trans HGW8.out HB9)
            obtain ⟨A9, c9, rfl, _, _, hs9⟩ := HO9.strs'
            have HC9 := Lib.hid (HUU.out A9 c9 w9 hs9)
            clear HO9 HB9 hs9
            generalize (allH h ++ lbs).length = m9 at HC9 ⊢
            go_wp2_with fail
            refine (HC9.out).mono ?_
            rintro e w10 ⟨rfl, hg⟩
            have HG10 := Lib.hid (HG9.out.trans hg)
            clear hg
            go_wp2
            go_ret
            exact ⟨by rw [HFF.out]; rfl, HG10.out⟩

theorem rnameL_any (A : Option Addr) (n c : Nat) (ls : List (List UInt8)) (w : World) (hn : ls.length = n) (hb : n ≤ 1100000) (hr : Strs w w.heap.size A ls) (hs : ∀ s ∈ ls, s.length ≤ 800000) :
    Calls Tryd.prog 18 #[.slice A n c] w (Gave (nameL ls) w) := by
  have HC := Lib.hid (rrightL_any A n c ls w hn hb hr hs)
  cases ho : headL ls with
  | none =>
    rw [ho] at HC
    have HF : Hid (nameL ls = []) := Lib.hid (by unfold nameL; rw [ho])
    clear hn hb hr hs ho
    go_enter Tryd.func18, Tryd.ntmps18
    go_wp2_with fail
    refine (HC.out).mono ?_
    rintro e w2 ⟨rfl, hg⟩
    have HG := Lib.hid hg
    clear hg
    simp only [Option.isSome]
    go_wp2
    go_ret
    exact ⟨by rw [HF.out]; rfl, HG.out⟩
  | some h =>
    rw [ho] at HC
    have HF : Hid (nameL ls = h.name) := Lib.hid (by unfold nameL; rw [ho])
    obtain ⟨h1, _, _, h4, _⟩ := headL_iff.1 ho
    have hkl : 0 < ls.length := by cases ls with
      | nil => exact absurd rfl h1
      | cons a r => simp
    have hnp : 0 < n := by omega
    have HR := Lib.hid hr
    have HK := Lib.hid hkl
    have hx1 := getD_len hs 0
    obtain ⟨s, hs'⟩ : ∃ s, ls.getD 0 [] = s := ⟨_, rfl⟩
    rw [hs'] at h4 hx1
    have HS' := Lib.hid hs'
    have HP : Hid (∀ W, Calls Tryd.prog 37 #[.string ⟨s.toArray⟩] W (ParsP h true W)) := Lib.hid (fun W => by
      have := rparse_any s W (by omega)
      rw [h4] at this
      exact this)
    clear hn hb hr hs ho h1 h4 hkl hx1 hs'
    go_enter Tryd.func18, Tryd.ntmps18
    go_wp2_with fail
    refine (HC.out).mono ?_
    rintro e w2 ⟨rfl, hg⟩
    have HG := Lib.hid hg
    obtain ⟨b, off, rfl, hbb, hcl⟩ := HR.out.grow hg HK.out
    have hc := hcl 0 HK.out
    rw [HS'.out] at hc
    have hc' : w2.cell? ⟨b, off, none⟩ = some (.string ⟨s.toArray⟩) := hc
    have HP2 := Lib.hid (HP.out w2)
    simp only [Option.isSome]
    clear hg hcl hbb
    go_wp2_with fail
    refine (HP2.out).mono ?_
    rintro e w3 ⟨A3, n3, c3, rfl, hin, hg⟩
    unfold hdV strv
    have HG4 := Lib.hid ((HG.out.trans hg).trans (grow_new w3 (.cells #[.string ⟨h.res.toArray⟩, .string ⟨h.left.toArray⟩, .string ⟨h.name.toArray⟩, .string ⟨h.right.toArray⟩, .string ⟨h.f.toArray⟩, .string ⟨h.g.toArray⟩, .slice A3 n3 c3] 33)))
    clear hg hin hc hc'
    go_wp2
    go_ret
    exact ⟨by rw [HF.out]; rfl, HG4.out⟩

/-! ### lines joined, and split -/
theorem joinK {ls : List (List UInt8)} {k : Nat} (h : k < ls.length) : joinD (ls.take (k + 1)) = if k = 0 then ls.getD k [] else joinD (ls.take k) ++ [10] ++ ls.getD k [] := by
  rw [take_step h, join_snoc]
  by_cases h0 : k = 0
  · subst h0; rfl
  · rw [if_neg (by
      intro e
      have := congrArg List.length e
      rw [List.length_take, List.length_nil] at this
      omega), if_neg h0]
    simp
set_option maxHeartbeats 1600000 in
theorem rjoin_any (A : Option Addr) (n c : Nat) (ls : List (List UInt8)) (w : World) (hn : ls.length = n) (hb : n ≤ 1100000) (hr : Strs w w.heap.size A ls) (hs : sumL ls ≤ 1100000) :
    Calls Tryd.prog 20 #[.slice A n c] w (Gave (joinD ls) w) := by
  have HR := Lib.hid hr
  have HN := Lib.hid hn
  have HSE : Hid (∀ s ∈ ls, s.length ≤ 1100000) := Lib.hid (fun s h => by have := sum_each s h; omega)
  have HSK : Hid (∀ k, (joinD (ls.take k)).length ≤ 2200000) := Lib.hid (fun k => by
    have h1 := join_len (ls.take k)
    have h2 := sum_take ls k
    have h3 : (ls.take k).length ≤ n := by rw [List.length_take]; omega
    omega)
  clear hr hn hs
  go_enter Tryd.func20, Tryd.ntmps20
  go_wp2
  go_loopg [3, 4] n (fun g s3 s4 wr => ∃ (k : Nat) (q : List UInt8), k ≤ n ∧ g = n - k ∧ s3 = .string ⟨q.toArray⟩ ∧ s4 = .int .i64 k ∧ Hid (q = joinD (ls.take k)) ∧ w = wr)
  case atStart => exact ⟨0, [], Nat.zero_le _, rfl, rfl, rfl, Lib.hid rfl, rfl⟩
  case round =>
    obtain ⟨k, q, hk, rfl, rfl, rfl, HQ, rfl⟩ := hrel
    by_cases hlt : k < n
    · have hkl : k < ls.length := by rw [HN.out]; exact hlt
      obtain ⟨b, off, rfl, hbb, hcl⟩ := HR.out (by omega)
      have hc := hcl k hkl
      have hx1 := getD_len HSE.out k
      have HST := Lib.hid (joinK hkl)
      have hq1 : q.length ≤ 2200000 := by rw [HQ.out]; exact HSK.out k
      clear hcl hkl
      generalize ls.getD k [] = x at hc HST hx1
      by_cases h0 : k = 0
      · have HQ0 : Hid (q = []) := Lib.hid (by rw [HQ.out, h0]; rfl)
        have HN2 : Hid (x = joinD (ls.take (k + 1))) := Lib.hid (by rw [HST.out, if_pos h0])
        obtain ⟨p2, e2, a2, n2, s2⟩ := app_named q x 2200000 1100000 hq1 hx1 (by omega)
        have HE2 : Hid (p2 = joinD (ls.take (k + 1))) := Lib.hid (by rw [e2, HQ0.out, ← HN2.out]; rfl)
        have g0 : ¬ (0 : Int) < ((k : Nat) : Int) := by omega
        have g0n : ¬ 0 < k := by omega
        clear e2 h0 HST
        go_wp2
        go_roundg (n - (k + 1))
        case rel => exact ⟨k + 1, p2, by omega, rfl, rfl, by go_num, HE2, rfl⟩
        case measure => omega
      · obtain ⟨p1, e1, a1, n1, s1⟩ := app_sign q 10 2200000 2200001 hq1 rfl (by omega)
        obtain ⟨p2, e2, a2, n2, s2⟩ := app_named p1 x 2200001 1100000 s1 hx1 (by omega)
        have HE2 : Hid (p2 = joinD (ls.take (k + 1))) := Lib.hid (by rw [e2, e1, HQ.out, HST.out, if_neg h0])
        have g0 : (0 : Int) < ((k : Nat) : Int) := by omega
        have g0n : 0 < k := by omega
        clear e1 e2 h0 HST
        go_wp2
        go_roundg (n - (k + 1))
        case rel => exact ⟨k + 1, p2, by omega, rfl, rfl, by go_num, HE2, rfl⟩
        case measure => omega
    · obtain rfl : n = k := by omega
      have HF : Hid (joinD ls = q) := Lib.hid (by rw [HQ.out, List.take_of_length_le (by rw [HN.out]; exact Nat.le_refl _)])
      go_wp2
      go_ret
      exact ⟨by rw [HF.out]; rfl, Grow.refl _⟩

/-- the cut stands at 'frm', and no line ends ahead of i -/
theorem split_end {s : List UInt8} {frm i : Nat} (h : ∀ j, frm ≤ j → j < i → s[j]? ≠ some 10) : (10 : UInt8) ∉ (s.take i).drop frm := by
  intro hm
  obtain ⟨j, hj⟩ := List.getElem?_of_mem hm
  rw [List.getElem?_drop, List.getElem?_take] at hj
  split at hj
  · exact h (frm + j) (by omega) (by omega) hj
  · cases hj
theorem split_cut {s : List UInt8} {frm i : Nat} (hf : frm ≤ i) (h : ∀ j, frm ≤ j → j < i → s[j]? ≠ some 10) (hi : s[i]? = some 10) : splitD 10 (s.drop frm) = (s.take i).drop frm :: splitD 10 (s.drop (i + 1)) := by
  have hlt : i < s.length := (List.getElem?_eq_some_iff.1 hi).1
  have hg : s[i] = 10 := (List.getElem?_eq_some_iff.1 hi).2
  have e : s.drop frm = (s.take i).drop frm ++ 10 :: s.drop (i + 1) := by
    have h1 : s = s.take i ++ s.drop i := (List.take_append_drop i s).symm
    have h2 : s.drop i = 10 :: s.drop (i + 1) := by rw [List.drop_eq_getElem_cons hlt, hg]
    rw [h2] at h1
    have h3 : s.drop frm = (s.take i ++ 10 :: s.drop (i + 1)).drop frm := by rw [← h1]
    rw [h3, List.drop_append_of_le_length (by rw [List.length_take]; omega)]
  rw [e]
  exact split_at (split_end h)
theorem split_last {s : List UInt8} {frm : Nat} (h : ∀ j, frm ≤ j → j < s.length → s[j]? ≠ some 10) : splitD 10 (s.drop frm) = [(s.take s.length).drop frm] := by
  have := split_end h
  rw [List.take_length] at this ⊢
  exact split_no this
set_option maxHeartbeats 3200000 in
theorem rsplitL_any (s : List UInt8) (w : World) (hs : s.length ≤ 1050000) :
    Calls Tryd.prog 22 #[.string ⟨s.toArray⟩] w (OwnR (splitD 10 s) w) := by
  obtain ⟨L, hL⟩ : ∃ L, splitD 10 s = L := ⟨_, rfl⟩
  rw [hL]
  obtain ⟨n, hn⟩ : ∃ n, s.length = n := ⟨_, rfl⟩
  have HL := Lib.hid hL
  have HN := Lib.hid hn
  have HIX : Hid (∀ (i : Nat) (x : UInt8), s[i]? = some x → ∀ W, (Instr.index 9 (.string ⟨s.toArray⟩) (.int .i64 (i : Nat))).run Tryd.prog W = .ok (.int .u8 (x.toNat : Nat)) W) := Lib.hid (fun i x h W => index_str h W)
  have HSL : Hid (∀ (i j : Nat), i ≤ j → j ≤ n → ∀ W, (Instr.slice 9 (.string ⟨s.toArray⟩) (some (.int .i64 (i : Nat))) (some (.int .i64 (j : Nat))) none).run Tryd.prog W = .ok (.string ⟨((s.take j).drop i).toArray⟩) W) := Lib.hid (fun i j h1 h2 W => slice_mid s i j h1 (by omega) W)
  have hcut : ∀ (frm i : Nat), frm ≤ i → (∀ j, frm ≤ j → j < i → s[j]? ≠ some 10) → s[i]? = some 10 → splitD 10 (s.drop frm) = (s.take i).drop frm :: splitD 10 (s.drop (i + 1)) := fun frm i h1 h2 h3 => split_cut h1 h2 h3
  have HCU := Lib.hid hcut
  have HLA : Hid (∀ (frm : Nat), (∀ j, frm ≤ j → j < n → s[j]? ≠ some 10) → splitD 10 (s.drop frm) = [(s.take n).drop frm]) := Lib.hid (fun frm h => by rw [← hn] at h ⊢; exact split_last h)
  have HAT : Hid (∀ i, i < n → ∃ x, s[i]? = some x) := Lib.hid (fun i h => ⟨s[i]'(by omega), List.getElem?_eq_getElem (by omega)⟩)
  have HDZ : Hid (s.drop 0 = s) := Lib.hid rfl
  have HLQ := Lib.hid ((split_len 10 s.length s (Nat.le_refl _)).1)
  rw [hL] at HLQ
  rw [hn] at hs
  clear hL hcut
  obtain ⟨z, hz⟩ : ∃ z : ByteArray, z = ⟨s.toArray⟩ := ⟨_, rfl⟩
  have hzs : z.size = n := by rw [hz, str_size]; exact hn
  rw [← hz] at HIX HSL ⊢
  clear hz hn
  go_enter Tryd.func22, Tryd.ntmps22
  go_wp2
  go_loopg [3, 4, 5] (n + 1) (fun g s3 s4 s5 wr => ∃ (q : List (List UInt8)) (frm i : Nat) (v : Value), v = s3 ∧ s4 = .int .i64 frm ∧ s5 = .int .i64 i ∧ g = n + 1 - i ∧ i ≤ n + 1 ∧ frm ≤ i ∧ q.length ≤ 1100000 ∧ Hid (if i ≤ n then L = q ++ splitD 10 (s.drop frm) ∧ ∀ j, frm ≤ j → j < i → s[j]? ≠ some 10 else L = q) ∧ Hid (OwnS w.heap.size v q wr) ∧ Hid (Grow w wr))
  case atStart =>
    refine ⟨[], 0, 0, _, rfl, rfl, rfl, by omega, by omega, Nat.le_refl _, by simp, Lib.hid ?_, Lib.hid (ownS_nil _ _), Lib.hid (Grow.refl _)⟩
    rw [if_pos (Nat.zero_le _)]
    exact ⟨HL.out.symm, fun j _ h => by omega⟩
  case round =>
    obtain ⟨q, frm, i, v, rfl, rfl, rfl, rfl, hi1, hfi, hql, HS, HO, HG⟩ := hrel
    by_cases hle : i ≤ n
    · have hst := HS.out
      rw [if_pos hle] at hst
      have HS1 := Lib.hid hst.1
      have HS2 := Lib.hid hst.2
      have hsl := HSL.out frm i hfi hle
      have HLQ2 : Hid (∀ p : List UInt8, q.length + [p].length ≤ 1000000000) := Lib.hid (fun p => by simp; omega)
      have HAP : Hid (∀ p : List UInt8, OwnS w.heap.size v q (wr.alloc (.cells #[.string ⟨p.toArray⟩] 9)) ∧ Strs (wr.alloc (.cells #[.string ⟨p.toArray⟩] 9)) (wr.alloc (.cells #[.string ⟨p.toArray⟩] 9)).heap.size (some ⟨wr.heap.size, 0, none⟩) [p] ∧ w.heap.size ≤ (wr.alloc (.cells #[.string ⟨p.toArray⟩] 9)).heap.size ∧ Grow w (wr.alloc (.cells #[.string ⟨p.toArray⟩] 9))) := Lib.hid (fun p => by
        have hgn := grow_new wr (.cells #[.string ⟨p.toArray⟩] 9)
        have hgw := HG.out.trans hgn
        exact ⟨HO.out.grow hgn, strs_lit wr [p], hgw.size, hgw⟩)
      clear hst HS
      by_cases hin : i = n
      · have HEL : Hid (L = q ++ [(s.take i).drop frm]) := Lib.hid (by
          rw [HS1.out, HLA.out frm (fun j h1 h2 => HS2.out j h1 (by omega)), hin])
        have hgt : ¬ i + 1 ≤ n := by omega
        generalize (s.take i).drop frm = p at hsl HEL
        have HA2 := Lib.hid (HAP.out p)
        have HP2 := Lib.hid (HLQ2.out p)
        have hq1 : (q ++ [p]).length ≤ 1100000 := by rw [← HEL.out]; have := HLQ.out; have := HN.out; omega
        subst hin
        clear HAP HLQ2
        go_upto_region 8 with (at_builtin; refine wpList_append_any rfl _ _ rfl w.heap.size _ q [p] (some ⟨wr.heap.size, 0, none⟩) 1 1 rfl HA2.out.1 rfl rfl (fun e => by cases e) HA2.out.2.1 HP2.out HA2.out.2.2.1 ?_; intro v3 w3 HO3 HBL3)
        have HO4 := Lib.hid HO3
        have HG4 := Lib.hid (show Grow w w3 from Below.trans HA2.out.2.2.2 HBL3)
        clear HO3 HBL3
        go_wp2
        go_roundg (i + 1 - (i + 1))
        case rel => exact ⟨q ++ [p], i + 1, i + 1, _, rfl, by go_num, by go_num, rfl, by omega, Nat.le_refl _, hq1, Lib.hid (by rw [if_neg hgt]; exact HEL.out), HO4, HG4⟩
        case measure => omega
      · have hlt : i < n := by omega
        have hgt : i + 1 ≤ n := by omega
        have hib : (((i : Nat) : Int) == ((n : Nat) : Int)) = false := by rw [beq_eq_false_iff_ne]; omega
        have hin' : ¬ ((i : Nat) : Int) = ((n : Nat) : Int) := by omega
        obtain ⟨x, hx⟩ := HAT.out i hlt
        have hix := HIX.out i x hx
        by_cases hx10 : x = 10
        · subst hx10
          have HEL : Hid (L = (q ++ [(s.take i).drop frm]) ++ splitD 10 (s.drop (i + 1))) := Lib.hid (by
            rw [HS1.out, HCU.out frm i hfi HS2.out hx]
            simp)
          generalize (s.take i).drop frm = p at hsl HEL
          have HA2 := Lib.hid (HAP.out p)
          have HP2 := Lib.hid (HLQ2.out p)
          have hq1 : (q ++ [p]).length ≤ 1100000 := by
            have h := HLQ.out
            rw [HEL.out, List.length_append, HN.out] at h
            omega
          have h10 : (((10 : UInt8).toNat : Nat) : Int) = 10 := rfl
          rw [h10] at hix
          clear HAP HLQ2 hx h10 hin
          go_upto_region 8 with (at_builtin; refine wpList_append_any rfl _ _ rfl w.heap.size _ q [p] (some ⟨wr.heap.size, 0, none⟩) 1 1 rfl HA2.out.1 rfl rfl (fun e => by cases e) HA2.out.2.1 HP2.out HA2.out.2.2.1 ?_; intro v3 w3 HO3 HBL3)
          have HO4 := Lib.hid HO3
          have HG4 := Lib.hid (show Grow w w3 from Below.trans HA2.out.2.2.2 HBL3)
          clear HO3 HBL3
          go_wp2
          go_roundg (n + 1 - (i + 1))
          case rel => exact ⟨q ++ [p], i + 1, i + 1, _, rfl, by go_num, by go_num, rfl, by omega, Nat.le_refl _, hq1, Lib.hid (by rw [if_pos hgt]; exact ⟨HEL.out, fun j h1 h2 => by omega⟩), HO4, HG4⟩
          case measure => omega
        · have hxb : (((x.toNat : Nat) : Int) == 10) = false := by
            rw [beq_eq_false_iff_ne]
            intro e
            apply hx10
            apply UInt8.toNat_inj.1
            rw [show (10 : UInt8).toNat = 10 from rfl]
            omega
          have HNX : Hid (∀ j, frm ≤ j → j < i + 1 → s[j]? ≠ some 10) := Lib.hid (fun j h1 h2 => by
            by_cases hj : j = i
            · rw [hj, hx]
              exact fun e => hx10 (Option.some.inj e)
            · exact HS2.out j h1 (by omega))
          clear HAP HLQ2 hx hin hx10
          go_wp2
          go_roundg (n + 1 - (i + 1))
          case rel => exact ⟨q, frm, i + 1, v, rfl, rfl, by go_num, rfl, by omega, by omega, hql, Lib.hid (by rw [if_pos hgt]; exact ⟨HS1.out, HNX.out⟩), HO, HG⟩
          case measure => omega
    · have hst := HS.out
      rw [if_neg hle] at hst
      rw [← hst] at HO
      clear hst HS
      have hlei : ¬ ((i : Nat) : Int) ≤ ((n : Nat) : Int) := by omega
      go_wp2
      go_ret
      exact ⟨v, rfl, HO.out, HG.out⟩
end Go.Proofs.YtcnijmmpkahoaaaDoor
