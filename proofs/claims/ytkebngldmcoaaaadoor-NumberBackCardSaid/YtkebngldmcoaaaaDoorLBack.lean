/-
  NumberBack comes to true, whatever it is called with.
-/
import Derived.Test.YtkebngldmcoaaaaDoorLJoin
namespace Go.Proofs.YtkebngldmcoaaaaDoor
open Go.RowKit Go.Lib
set_option linter.unusedSimpArgs false
set_option linter.unusedVariables false

/-- begins with what the statement leaves out -/
def begB : List UInt8 → Bool
  | [] => false
  | c :: _ => decide (c.toNat = 32) || decide (c.toNat = 69) || (decide (48 ≤ c.toNat) && decide (c.toNat ≤ 57)) || decide (c.toNat = 194)
theorem beg_not {l : List UInt8} (h : begB l = false) : npc l = 0 ∧ nextD l = none := by
  cases l with
  | nil => exact ⟨rfl, rfl⟩
  | cons c t =>
    simp only [begB, Bool.or_eq_false_iff, decide_eq_false_iff_not] at h
    obtain ⟨⟨⟨h1, h2⟩, h3⟩, h4⟩ := h
    have e2 : c ≠ 194 := by rintro rfl; exact h4 rfl
    have e3 : c ≠ 32 := by rintro rfl; exact h1 rfl
    have e4 : isPc c = false := by
      have : ¬ c = 69 := by rintro rfl; exact h2 rfl
      unfold isPc
      rw [h3]
      simpa using this
    exact ⟨npc_not e4 e2 t, nextD_other (by simpa using e3)⟩

theorem norm_map_in {xs : List Int} (i : Nat) (h : ∀ x ∈ xs, In x) (hi : i < xs.length) : (xs.map fun n => (norm n 0).1).getD i (0, 0) = (norm (xs.getD i 0) 0).1 := by
  simp [List.getD, hi]

set_option maxRecDepth 100000 in
set_option maxHeartbeats 6400000 in
theorem lback_walk (A A' : Option Addr) (n c m c' : Nat) (xs : List Int) (ds : List Dc) (l : List UInt8) (w : World) (hL : Laid w) (h1 : xs.length = n) (h2 : ds.length = m) (m1 : n ≤ 9223372036854775807) (m2 : m ≤ 9223372036854775807) (m3 : l.length ≤ 9223372036854775807)
    (r1 : Nums .i64 w w.heap.size A xs) (r2 : Decs w w.heap.size A' ds) (i1 : ∀ x ∈ xs, In x) (i2 : ∀ x ∈ ds, In x.1 ∧ In x.2) :
    Calls Tryd.prog 3 #[.slice A n c, .slice A' m c', .string ⟨l.toArray⟩] w (Fine w) := by
  have HS := Lib.hid (fun W h => small_any W h)
  have HL := Lib.hid hL
  have HR1 := Lib.hid r1
  have HR2 := Lib.hid r2
  have HN1 := Lib.hid h1
  have HN2 := Lib.hid h2
  have HI1 := Lib.hid i1
  have HI2 := Lib.hid i2
  have hsz := str_size l
  obtain ⟨γ, hγ⟩ : ∃ γ : Bool, γ = decide (¬ (1 ≤ n ∧ n ≤ 100 ∧ 1 ≤ m ∧ m ≤ 100 ∧ l.length ≤ 200)) := ⟨_, rfl⟩
  have HT : Hid (γ = true ↔ ¬ (1 ≤ n ∧ n ≤ 100 ∧ 1 ≤ m ∧ m ≤ 100 ∧ l.length ≤ 200)) := by rw [hγ]; exact Lib.hid decide_eq_true_iff
  clear hγ hL r1 r2 h1 h2 i1 i2
  go_enter Tryd.func3, Tryd.ntmps3
  go_wp2_with fail
  refine (HS.out _ HL.out).mono ?_
  rintro x w1 ⟨rfl, hg⟩
  have HG1 := Lib.hid hg
  clear hg HS
  go_upto_region 2 with fail
  go_cut [40] from 18 to 40 (fun z wx => z = .bool γ ∧ w1 = wx)
  case first =>
    have HF : Hid (¬ (1 ≤ n ∧ n ≤ 100 ∧ 1 ≤ m ∧ m ≤ 100 ∧ l.length ≤ 200) → Value.bool true = .bool γ) := Lib.hid fun h => by rw [HT.out.2 h]
    have HFF : Hid ((1 ≤ n ∧ n ≤ 100 ∧ 1 ≤ m ∧ m ≤ 100 ∧ l.length ≤ 200) → Value.bool false = .bool γ) := Lib.hid fun h => by
      have : γ ≠ true := fun e => HT.out.1 e h
      simp at this
      rw [this]
    by_cases k1 : n < 1
    · have k1i : decide (((n : Nat) : Int) < 1) = true := by rw [decide_eq_true_iff]; omega
      have k1n : decide (n < 1) = true := by rw [decide_eq_true_iff]; omega
      go_wp2
      go_meet
      case rel => exact ⟨HF.out (fun h => by have := h.1; omega), rfl⟩
    have k1i : decide (((n : Nat) : Int) < 1) = false := by rw [decide_eq_false_iff_not]; omega
    have k1n : decide (n < 1) = false := by rw [decide_eq_false_iff_not]; omega
    by_cases k2 : 100 < n
    · have k2i : decide ((100 : Int) < ((n : Nat) : Int)) = true := by rw [decide_eq_true_iff]; omega
      go_wp2
      go_meet
      case rel => exact ⟨HF.out (fun h => by have := h.2.1; omega), rfl⟩
    have k2i : decide ((100 : Int) < ((n : Nat) : Int)) = false := by rw [decide_eq_false_iff_not]; omega
    by_cases k3 : m < 1
    · have k3i : decide (((m : Nat) : Int) < 1) = true := by rw [decide_eq_true_iff]; omega
      have k3n : decide (m < 1) = true := by rw [decide_eq_true_iff]; omega
      go_wp2
      go_meet
      case rel => exact ⟨HF.out (fun h => by have := h.2.2.1; omega), rfl⟩
    have k3i : decide (((m : Nat) : Int) < 1) = false := by rw [decide_eq_false_iff_not]; omega
    have k3n : decide (m < 1) = false := by rw [decide_eq_false_iff_not]; omega
    by_cases k4 : 100 < m
    · have k4i : decide ((100 : Int) < ((m : Nat) : Int)) = true := by rw [decide_eq_true_iff]; omega
      go_wp2
      go_meet
      case rel => exact ⟨HF.out (fun h => by have := h.2.2.2.1; omega), rfl⟩
    have k4i : decide ((100 : Int) < ((m : Nat) : Int)) = false := by rw [decide_eq_false_iff_not]; omega
    by_cases k5 : 200 < l.length
    · have k5i : decide ((200 : Int) < ((l.length : Nat) : Int)) = true := by rw [decide_eq_true_iff]; omega
      go_wp2
      go_meet
      case rel => exact ⟨HF.out (fun h => by have := h.2.2.2.2; omega), rfl⟩
    have k5i : decide ((200 : Int) < ((l.length : Nat) : Int)) = false := by rw [decide_eq_false_iff_not]; omega
    have HV := Lib.hid (HFF.out ⟨by omega, by omega, by omega, by omega, by omega⟩)
    clear k1 k2 k3 k4 k5
    go_wp2
    go_meet
    case rel => exact ⟨HV.out, rfl⟩
  case rest =>
  obtain ⟨rfl, rfl⟩ := hcut
  cases γ
  case true =>
    go_wp2
    go_ret
    exact ⟨rfl, HG1.out⟩
  have hgood : 1 ≤ n ∧ n ≤ 100 ∧ 1 ≤ m ∧ m ≤ 100 ∧ l.length ≤ 200 := Decidable.byContradiction fun h => by
    have := HT.out.2 h
    cases this
  obtain ⟨g1, g2, g3, g4, g5⟩ := hgood
  clear HT
  obtain ⟨β, hβ⟩ : ∃ β : Bool, begB l = β := ⟨_, rfl⟩
  have HBE := Lib.hid hβ
  clear hβ
  go_upto_region 4 with fail
  go_cut [68] from 42 to 68 (fun z wx => z = .bool β ∧ w1 = wx)
  case first =>
    cases l with
    | nil =>
      have HV := Lib.hid (show Value.bool false = .bool β from congrArg Value.bool HBE.out)
      go_wp2
      go_meet
      case rel => exact ⟨HV.out, rfl⟩
    | cons c t =>
      have hix : ∀ W, (Instr.index 9 (.string ⟨(c :: t).toArray⟩) (.int .i64 0)).run Tryd.prog W = .ok (.int .u8 (c.toNat : Nat)) W := fun W => index_at (l := c :: t) (i := 0) rfl W
      have hc256 : c.toNat < 256 := c.toNat_lt
      have HV : Hid ((decide (c.toNat = 32) || decide (c.toNat = 69) || (decide (48 ≤ c.toNat) && decide (c.toNat ≤ 57)) || decide (c.toNat = 194)) = β) := Lib.hid HBE.out
      have hne : ((c :: t : List UInt8) == []) = false := rfl
      clear HBE
      generalize c.toNat = C at *
      generalize c :: t = l at *
      by_cases e1 : C = 32
      · have HW := Lib.hid (show Value.bool true = .bool β by rw [← HV.out]; simp [e1])
        have b1 : (((C : Nat) : Int) == 32) = true := by rw [beq_iff_eq]; omega
        clear e1 HV
        go_wp2
        go_meet
        case rel => exact ⟨HW.out, rfl⟩
      have b1 : (((C : Nat) : Int) == 32) = false := by rw [beq_eq_false_iff_ne]; omega
      by_cases e2 : C = 69
      · have HW := Lib.hid (show Value.bool true = .bool β by rw [← HV.out]; simp [e2])
        have b2 : (((C : Nat) : Int) == 69) = true := by rw [beq_iff_eq]; omega
        clear e1 e2 HV
        go_wp2
        go_meet
        case rel => exact ⟨HW.out, rfl⟩
      have b2 : (((C : Nat) : Int) == 69) = false := by rw [beq_eq_false_iff_ne]; omega
      by_cases e3 : 48 ≤ C
      · have i3 : (48 : Int) ≤ ((C : Nat) : Int) := by omega
        by_cases e4 : C ≤ 57
        · have i4 : ((C : Nat) : Int) ≤ 57 := by omega
          have HW := Lib.hid (show Value.bool true = .bool β by rw [← HV.out]; simp [e3, e4])
          clear e1 e2 e3 e4 HV
          go_wp2
          go_meet
          case rel => exact ⟨HW.out, rfl⟩
        have i4 : ¬ ((C : Nat) : Int) ≤ 57 := by omega
        by_cases e5 : C = 194
        · have HW := Lib.hid (show Value.bool true = .bool β by rw [← HV.out]; simp [e5])
          have b5 : (((C : Nat) : Int) == 194) = true := by rw [beq_iff_eq]; omega
          clear e1 e2 e3 e4 e5 HV
          go_wp2
          go_meet
          case rel => exact ⟨HW.out, rfl⟩
        have b5 : (((C : Nat) : Int) == 194) = false := by rw [beq_eq_false_iff_ne]; omega
        have HW := Lib.hid (show Value.bool false = .bool β by rw [← HV.out]; simp [e1, e2, e4, e5])
        clear e1 e2 e3 e4 e5 HV
        go_wp2
        go_meet
        case rel => exact ⟨HW.out, rfl⟩
      have i3 : ¬ (48 : Int) ≤ ((C : Nat) : Int) := by omega
      have e5 : ¬ C = 194 := by omega
      have b5 : (((C : Nat) : Int) == 194) = false := by rw [beq_eq_false_iff_ne]; omega
      have HW := Lib.hid (show Value.bool false = .bool β by rw [← HV.out]; simp [e1, e2, e3, e5])
      clear e1 e2 e3 e5 HV
      go_wp2
      go_meet
      case rel => exact ⟨HW.out, rfl⟩
  case rest =>
  obtain ⟨rfl, rfl⟩ := hcut
  cases β
  case true =>
    go_wp2
    go_ret
    exact ⟨rfl, HG1.out⟩
  obtain ⟨hnp, hnx⟩ := beg_not HBE.out
  have HI := Lib.hid (fun W a b => ints_any A n c xs W HN1.out (by omega) a HI1.out b)
  have hxl := ints_len HI1.out
  rw [HN1.out] at hxl
  have hxn : xs ≠ [] := by intro e; have := HN1.out; rw [e] at this; simp at this; omega
  have hdn : ds ≠ [] := by intro e; have := HN2.out; rw [e] at this; simp at this; omega
  have HR := Lib.hid (k_read (l := intsT xs ++ l) (ds := xs.map fun n => (norm n 0).1) (r := l) (ok := true) (by rw [ints_back hxn HI1.out l hnp hnx]; rfl) (by rw [List.length_append]; omega) n (by rw [List.length_map]; exact HN1.out))
  have hcat : (⟨(intsT xs).toArray⟩ : ByteArray) ++ ⟨l.toArray⟩ = ⟨(intsT xs ++ l).toArray⟩ := str_app _ _
  have hs1 : ¬ 9223372036854775807 < (intsT xs).length + l.length := by omega
  have HD := Lib.hid (fun W a b => decs_any A' m c' ds W HN2.out (by omega) a HI2.out b)
  have hdl := decs_len (fun d hd => (HI2.out d hd).1)
  rw [HN2.out] at hdl
  have HRD := Lib.hid (fun (hr : decsR ds = true) => k_read (l := decsT ds ++ l) (ds := ds) (r := l) (ok := true) (by rw [decs_back hdn (fun d hd => (HI2.out d hd).1) hr l hnp hnx]; rfl) (by rw [List.length_append]; omega) m HN2.out)
  have hcatd : (⟨(decsT ds).toArray⟩ : ByteArray) ++ ⟨l.toArray⟩ = ⟨(decsT ds ++ l).toArray⟩ := str_app _ _
  have hs2 : ¬ 9223372036854775807 < (decsT ds).length + l.length := by omega
  have HWR := Lib.hid (fun (hr : decsR ds = false) => decs_wrong hr)
  have HEN : Hid ((xs.map fun n => (norm n 0).1).length = n) := Lib.hid (by rw [List.length_map]; exact HN1.out)
  have HEG := Lib.hid (fun i (hi : i < xs.length) => norm_map_in i HI1.out hi)
  have hln : ((n : Nat) : Int) ≤ 100 := by omega
  clear hnp hnx hxl hdl hxn hdn HBE
  generalize (xs.map fun n => (norm n 0).1) = es at *
  generalize intsT xs = X at *
  generalize decsT ds = S at *
  go_wp2_with fail
  refine (HI.out _ (HR1.out.grow HG1.out) (HL.out.grow HG1.out).pows).mono ?_
  rintro x w2 ⟨rfl, hg⟩
  have HG2 := Lib.hid (HG1.out.trans hg)
  clear hg HG1 HI
  go_wp2_with fail
  refine (HR.out _ (HL.out.grow HG2.out)).mono ?_
  rintro x w3 ⟨A3, c3, rfl, hd, hg⟩
  have HG3 := Lib.hid (HG2.out.trans hg)
  have HE3 := Lib.hid hd
  clear hg hd HG2 HR hcat hs1
  go_wp2
  go_loopg [11] n (fun g s11 wr => ∃ k : Nat, k ≤ n ∧ g = n - k ∧ s11 = .int .i64 k ∧ Hid (Grow w3 wr))
  case atStart => exact ⟨0, Nat.zero_le _, rfl, rfl, Lib.hid (Grow.refl _)⟩
  case round =>
    obtain ⟨k, hk, rfl, rfl, HG⟩ := hrel
    by_cases hlt : k < n
    · have hlti : ((k : Nat) : Int) < ((n : Nat) : Int) := by omega
      have hkx : k < xs.length := by rw [HN1.out]; exact hlt
      obtain ⟨b, off, rfl, hb, hcl⟩ := HR1.out.grow (HG3.out.trans HG.out) (by omega)
      obtain ⟨b2, o2, rfl, hb2, e0, e1⟩ := dec_at (HE3.out.grow HG.out) k (by rw [HEN.out]; exact hlt)
      have hc := hcl k hkx
      have hin := getD_in HI1.out hkx
      rw [HEG.out k hkx] at e0 e1
      clear hcl hkx
      generalize xs.getD k 0 = x at hc hin e0 e1
      have HO := Lib.hid (fun W => of_any x W hin)
      generalize (norm x 0).1 = q at *
      obtain ⟨q0, q1⟩ := q
      dsimp only at e0 e1 HO
      have heq := dec_same q0 q1
      have HC := Lib.hid hc
      have HE0 := Lib.hid e0
      have HE1 := Lib.hid e1
      have HB := Lib.hid hb
      have HB2 := Lib.hid hb2
      clear hin hc e0 e1 hb hb2
      go_wp2_with fail
      refine wp_region_R Grow (n := 10) rfl (by kernel_rfl) ?_
      intro W0 hW0e hW0
      have hG0 : Grow wr W0 := hW0
      have p0 : ∀ wg, Grow W0 wg → wg.cell? ⟨b2, o2 + k * 2, none⟩ = some (.int .i64 q0) := fun wg h => ((hG0.trans h).cell (p := ⟨b2, o2 + k * 2, none⟩) HB2.out).trans HE0.out
      have p1 : ∀ wg, Grow W0 wg → wg.cell? ⟨b2, o2 + k * 2 + 1, none⟩ = some (.int .i64 q1) := fun wg h => ((hG0.trans h).cell (p := ⟨b2, o2 + k * 2 + 1, none⟩) HB2.out).trans HE1.out
      have p2 : ∀ wg, Grow W0 wg → wg.cell? ⟨b, off + k, none⟩ = some (.int .i64 x) := fun wg h => ((hG0.trans h).cell (p := ⟨b, off + k, none⟩) HB.out).trans HC.out
      clear hW0e
      refine wpR_take growOrd (i := 0) (v := ?vf1) rfl (by kernel_rfl) (by kernel_rfl) (by kernel_rfl) (fun _ _ _ h => h) (by rfl) ?hf1 ?rf1
      case hf1 => (intro wg hSw; go_simp <;> with_reducible rfl)
      simp only [Act.put, List.setIfInBounds_toArray, List.set_cons_zero, List.set_cons_succ]
      refine wpR_take growOrd (i := 1) (v := ?vf2) rfl (by kernel_rfl) (by kernel_rfl) (by kernel_rfl) (fun _ _ _ h => h) (by rfl) ?hf2 ?rf2
      case hf2 => (intro wg hSw; go_simp <;> with_reducible rfl)
      simp only [Act.put, List.setIfInBounds_toArray, List.set_cons_zero, List.set_cons_succ]
      refine wpR_take growOrd (i := 2) (v := ?vf3) rfl (by kernel_rfl) (by kernel_rfl) (by kernel_rfl) (fun _ _ _ h => h) (by rfl) ?hf3 ?rf3
      case hf3 => (intro wg hSw; go_simp <;> with_reducible rfl)
      simp only [Act.put, List.setIfInBounds_toArray, List.set_cons_zero, List.set_cons_succ]
      refine wpR_take growOrd (i := 3) (v := ?vf4) rfl (by kernel_rfl) (by kernel_rfl) (by kernel_rfl) (fun _ _ _ h => h) (by rfl) ?hf4 ?rf4
      case hf4 => (intro wg hSw; go_simp <;> with_reducible rfl)
      simp only [Act.put, List.setIfInBounds_toArray, List.set_cons_zero, List.set_cons_succ]
      refine wpR_take growOrd (i := 4) (v := ?vf5) rfl (by kernel_rfl) (by kernel_rfl) (by kernel_rfl) (fun _ _ _ h => h) (by rfl) ?hf5 ?rf5
      case hf5 => (intro wg hSw; go_simp <;> with_reducible rfl)
      simp only [Act.put, List.setIfInBounds_toArray, List.set_cons_zero, List.set_cons_succ]
      refine wpR_take growOrd (i := 5) (v := ?vf6) rfl (by kernel_rfl) (by kernel_rfl) (by kernel_rfl) (fun _ _ _ h => h) (by rfl) ?hf6 ?rf6
      case hf6 => (intro wg hSw; go_simp <;> with_reducible rfl)
      simp only [Act.put, List.setIfInBounds_toArray, List.set_cons_zero, List.set_cons_succ]
      refine wpR_take growOrd (i := 6) (v := ?vf7) rfl (by kernel_rfl) (by kernel_rfl) (by kernel_rfl) (fun _ _ _ h => h) (by rfl) ?hf7 ?rf7
      case hf7 => (intro wg hSw; go_simp <;> with_reducible rfl)
      simp only [Act.put, List.setIfInBounds_toArray, List.set_cons_zero, List.set_cons_succ]
      refine wpR_take growOrd (i := 7) (v := ?vf8) rfl (by kernel_rfl) (by kernel_rfl) (by kernel_rfl) (fun _ _ _ h => h) (by rfl) ?hf8 ?rf8
      case hf8 => (intro wg hSw; go_simp <;> with_reducible rfl)
      simp only [Act.put, List.setIfInBounds_toArray, List.set_cons_zero, List.set_cons_succ]
      refine wpR_one (i := 8) (by kernel_rfl) ?_
      refine wpR_op (i := 8) rfl (by rfl) (fun K hK => ?_)
      go_simp
      refine (HO.out W0).mono ?_
      rintro x wM8 ⟨rfl, hM8⟩
      refine hK.out _ _ hM8 ?_
      clear hK K
      try simp only [Act.put, List.setIfInBounds_toArray, List.set_cons_zero, List.set_cons_succ]
      refine wpR_take growOrd (i := 9) (v := ?vf9) rfl (by kernel_rfl) (by kernel_rfl) (by kernel_rfl) (fun _ _ _ h => h) (by rfl) ?hf9 ?rf9
      case hf9 => (intro wg hSw; go_simp <;> with_reducible rfl)
      simp only [Act.put, List.setIfInBounds_toArray, List.set_cons_zero, List.set_cons_succ]
      refine wpR_done (by kernel_rfl) ?_
      have HGW := Lib.hid (HG.out.trans (hG0.trans (Grow.trans (Grow.refl W0) hM8)))
      clear p0 p1 p2
      go_wp2
      go_roundg (n - (k + 1))
      case rel => exact ⟨k + 1, by omega, rfl, by go_num, HGW⟩
      case measure => omega
    · obtain rfl : n = k := by omega
      have HG4 := Lib.hid (HG3.out.trans HG.out)
      obtain ⟨w4, hw4⟩ : ∃ w4, w4 = wr := ⟨_, rfl⟩
      subst hw4
      clear HG HG3 HE3 HEG HEN
      go_wp2
      go_loopg [12] m (fun g s12 wr => ∃ k : Nat, k ≤ m ∧ g = m - k ∧ s12 = .int .i64 k ∧ Hid (decsR (ds.take k) = true) ∧ Hid (Grow w wr))
      case atStart => exact ⟨0, Nat.zero_le _, rfl, rfl, Lib.hid rfl, HG4⟩
      case round =>
        obtain ⟨k, hk, rfl, rfl, HDR, HG5⟩ := hrel
        by_cases hlt : k < m
        · have hkd : k < ds.length := by rw [HN2.out]; exact hlt
          obtain ⟨b, off, rfl, hb, hc0, hc1⟩ := dec_at (HR2.out.grow HG5.out) k hkd
          have hin : In (ds.getD k (0, 0)).1 ∧ In (ds.getD k (0, 0)).2 := by
            have e : ds.getD k (0, 0) = ds[k] := by simp [List.getD, hkd]
            rw [e]
            exact HI2.out _ (List.getElem_mem hkd)
          have HX := Lib.hid (decsR_not hkd)
          have HY := Lib.hid (decsR_take hkd)
          clear hb hkd
          obtain ⟨⟨q, e⟩, hx⟩ : ∃ x, ds.getD k (0, 0) = x := ⟨_, rfl⟩
          rw [hx] at hc0 hc1 hin HX HY
          simp only at hc0 hc1 hin HX HY
          clear hx
          have HRI := Lib.hid (fun W => right_any q e W hin.1 hin.2)
          clear hin
          go_wp2_with fail
          refine (HRI.out _).mono ?_
          rintro x w6 ⟨rfl, hg⟩
          have HG6 := Lib.hid (HG5.out.trans hg)
          clear hg HRI hc0 hc1
          obtain ⟨r, hrr⟩ : ∃ r, rightB q e = r := ⟨_, rfl⟩
          rw [hrr] at HX HY
          rw [hrr]
          clear hrr
          cases r
          · have HF := Lib.hid (HWR.out (HX.out rfl))
            clear HX HY
            rw [HF.out] at HD
            go_wp2_with fail
            refine (HD.out _ (HR2.out.grow HG6.out) (HL.out.grow HG6.out).pows).mono ?_
            rintro x w7 ⟨rfl, hg⟩
            have HG7 := Lib.hid (HG6.out.trans hg)
            clear hg
            go_wp2
            go_ret
            exact ⟨rfl, HG7.out⟩
          · have HD2 := Lib.hid (show decsR (ds.take (k + 1)) = true by rw [HY.out, HDR.out]; rfl)
            clear HX HY HDR
            go_wp2
            go_roundg (m - (k + 1))
            case rel => exact ⟨k + 1, by omega, rfl, by go_num, HD2, HG6⟩
            case measure => omega
        · obtain rfl : m = k := by omega
          have hdr := HDR.out
          rw [List.take_of_length_le (by rw [HN2.out]; exact Nat.le_refl _)] at hdr
          have HRR := Lib.hid (HRD.out hdr)
          clear hdr HDR HWR HRD HG4
          go_wp2_with fail
          refine (HD.out _ (HR2.out.grow HG5.out) (HL.out.grow HG5.out).pows).mono ?_
          rintro x w7 ⟨rfl, hg⟩
          have HG7 := Lib.hid (HG5.out.trans hg)
          clear hg HG5 HD
          go_wp2_with fail
          refine (HRR.out _ (HL.out.grow HG7.out)).mono ?_
          rintro x w8 ⟨A8, c8, rfl, hd, hg⟩
          have HG8 := Lib.hid (HG7.out.trans hg)
          have HE8 := Lib.hid hd
          have HF8 := Lib.hid (HR2.out.grow HG8.out)
          clear hg hd HG7 HRR hcatd hs2
          go_wp2
          go_loopg [16] m (fun g s16 wr => ∃ k : Nat, k ≤ m ∧ g = m - k ∧ s16 = .int .i64 k ∧ Hid (Grow w8 wr))
          case atStart => exact ⟨0, Nat.zero_le _, rfl, rfl, Lib.hid (Grow.refl _)⟩
          case round =>
            obtain ⟨k, hk, rfl, rfl, HG⟩ := hrel
            by_cases hlt : k < m
            · have hlti : ((k : Nat) : Int) < ((m : Nat) : Int) := by omega
              obtain ⟨b, off, rfl, hb, c0, c1⟩ := dec_at (HF8.out.grow HG.out) k (by rw [HN2.out]; exact hlt)
              obtain ⟨b2, o2, rfl, hb2, e0, e1⟩ := dec_at (HE8.out.grow HG.out) k (by rw [HN2.out]; exact hlt)
              generalize ds.getD k (0, 0) = q at c0 c1 e0 e1
              obtain ⟨q0, q1⟩ := q
              dsimp only at c0 c1 e0 e1
              have heq := dec_same q0 q1
              have HC0 := Lib.hid c0
              have HC1 := Lib.hid c1
              have HE0 := Lib.hid e0
              have HE1 := Lib.hid e1
              have HB := Lib.hid hb
              have HB2 := Lib.hid hb2
              clear c0 c1 e0 e1 hb hb2
              go_wp2_with fail
              refine wp_region_R Grow (n := 9) rfl (by kernel_rfl) ?_
              intro W0 hW0e hW0
              have hG0 : Grow wr W0 := hW0
              have p0 : ∀ wg, Grow W0 wg → wg.cell? ⟨b2, o2 + k * 2, none⟩ = some (.int .i64 q0) := fun wg h => ((hG0.trans h).cell (p := ⟨b2, o2 + k * 2, none⟩) HB2.out).trans HE0.out
              have p1 : ∀ wg, Grow W0 wg → wg.cell? ⟨b2, o2 + k * 2 + 1, none⟩ = some (.int .i64 q1) := fun wg h => ((hG0.trans h).cell (p := ⟨b2, o2 + k * 2 + 1, none⟩) HB2.out).trans HE1.out
              have p2 : ∀ wg, Grow W0 wg → wg.cell? ⟨b, off + k * 2, none⟩ = some (.int .i64 q0) := fun wg h => ((hG0.trans h).cell (p := ⟨b, off + k * 2, none⟩) HB.out).trans HC0.out
              have p3 : ∀ wg, Grow W0 wg → wg.cell? ⟨b, off + k * 2 + 1, none⟩ = some (.int .i64 q1) := fun wg h => ((hG0.trans h).cell (p := ⟨b, off + k * 2 + 1, none⟩) HB.out).trans HC1.out
              clear hW0e
              refine wpR_take growOrd (i := 0) (v := ?vf10) rfl (by kernel_rfl) (by kernel_rfl) (by kernel_rfl) (fun _ _ _ h => h) (by rfl) ?hf10 ?rf10
              case hf10 => (intro wg hSw; go_simp <;> with_reducible rfl)
              simp only [Act.put, List.setIfInBounds_toArray, List.set_cons_zero, List.set_cons_succ]
              refine wpR_take growOrd (i := 1) (v := ?vf11) rfl (by kernel_rfl) (by kernel_rfl) (by kernel_rfl) (fun _ _ _ h => h) (by rfl) ?hf11 ?rf11
              case hf11 => (intro wg hSw; go_simp <;> with_reducible rfl)
              simp only [Act.put, List.setIfInBounds_toArray, List.set_cons_zero, List.set_cons_succ]
              refine wpR_take growOrd (i := 2) (v := ?vf12) rfl (by kernel_rfl) (by kernel_rfl) (by kernel_rfl) (fun _ _ _ h => h) (by rfl) ?hf12 ?rf12
              case hf12 => (intro wg hSw; go_simp <;> with_reducible rfl)
              simp only [Act.put, List.setIfInBounds_toArray, List.set_cons_zero, List.set_cons_succ]
              refine wpR_take growOrd (i := 3) (v := ?vf13) rfl (by kernel_rfl) (by kernel_rfl) (by kernel_rfl) (fun _ _ _ h => h) (by rfl) ?hf13 ?rf13
              case hf13 => (intro wg hSw; go_simp <;> with_reducible rfl)
              simp only [Act.put, List.setIfInBounds_toArray, List.set_cons_zero, List.set_cons_succ]
              refine wpR_take growOrd (i := 4) (v := ?vf14) rfl (by kernel_rfl) (by kernel_rfl) (by kernel_rfl) (fun _ _ _ h => h) (by rfl) ?hf14 ?rf14
              case hf14 => (intro wg hSw; go_simp <;> with_reducible rfl)
              simp only [Act.put, List.setIfInBounds_toArray, List.set_cons_zero, List.set_cons_succ]
              refine wpR_take growOrd (i := 5) (v := ?vf15) rfl (by kernel_rfl) (by kernel_rfl) (by kernel_rfl) (fun _ _ _ h => h) (by rfl) ?hf15 ?rf15
              case hf15 => (intro wg hSw; go_simp <;> with_reducible rfl)
              simp only [Act.put, List.setIfInBounds_toArray, List.set_cons_zero, List.set_cons_succ]
              refine wpR_take growOrd (i := 6) (v := ?vf16) rfl (by kernel_rfl) (by kernel_rfl) (by kernel_rfl) (fun _ _ _ h => h) (by rfl) ?hf16 ?rf16
              case hf16 => (intro wg hSw; go_simp <;> with_reducible rfl)
              simp only [Act.put, List.setIfInBounds_toArray, List.set_cons_zero, List.set_cons_succ]
              refine wpR_take growOrd (i := 7) (v := ?vf17) rfl (by kernel_rfl) (by kernel_rfl) (by kernel_rfl) (fun _ _ _ h => h) (by rfl) ?hf17 ?rf17
              case hf17 => (intro wg hSw; go_simp <;> with_reducible rfl)
              simp only [Act.put, List.setIfInBounds_toArray, List.set_cons_zero, List.set_cons_succ]
              refine wpR_take growOrd (i := 8) (v := ?vf18) rfl (by kernel_rfl) (by kernel_rfl) (by kernel_rfl) (fun _ _ _ h => h) (by rfl) ?hf18 ?rf18
              case hf18 => (intro wg hSw; go_simp <;> with_reducible rfl)
              simp only [Act.put, List.setIfInBounds_toArray, List.set_cons_zero, List.set_cons_succ]
              refine wpR_done (by kernel_rfl) ?_
              have HGW := Lib.hid (HG.out.trans (hG0.trans (Grow.refl W0)))
              clear p0 p1 p2 p3
              go_wp2
              go_roundg (m - (k + 1))
              case rel => exact ⟨k + 1, by omega, rfl, by go_num, HGW⟩
              case measure => omega
            · obtain rfl : m = k := by omega
              have HGF := Lib.hid (HG8.out.trans HG.out)
              go_wp2
              go_ret
              exact ⟨rfl, HGF.out⟩
end Go.Proofs.YtkebngldmcoaaaaDoor
