/-
  NumberParts comes to true, whatever it is called with.
-/
import Derived.Test.YtkebngldmcoaaaaDoorLJoin
namespace Go.Proofs.YtkebngldmcoaaaaDoor
open Go.RowKit Go.Lib
set_option linter.unusedSimpArgs false
set_option linter.unusedVariables false

theorem getD_app1 {zs bs : List Dc} {k : Nat} (h : k < zs.length) : (zs ++ bs).getD k (0, 0) = zs.getD k (0, 0) := by simp [List.getD, List.getElem?_append_left h]
theorem getD_app2 {zs bs : List Dc} {k : Nat} : (zs ++ bs).getD (zs.length + k) (0, 0) = bs.getD k (0, 0) := by
  unfold List.getD
  rw [List.getElem?_append_right (Nat.le_add_right _ _), Nat.add_sub_cancel_left]

/-- the first text, in short: no number; or some, and the text's end -/
theorem parts_one (l : List UInt8) : (∃ zs r, mkL (readO l) = (zs, r, true) ∧ readO l = some (zs, r) ∧ zs ≠ [] ∧ zs.length ≤ l.length ∧ (∀ d ∈ zs, rightB d.1 d.2 = true ∧ In d.1 ∧ In d.2) ∧ ∃ p, p ≠ [] ∧ l = p ++ r) ∨ (mkL (readO l) = ([], [], false) ∧ readO l = none) := by
  cases h : readO l with
  | none => exact .inr ⟨rfl, rfl⟩
  | some p =>
    obtain ⟨zs, r⟩ := p
    obtain ⟨h1, h2, h3⟩ := readO_right l zs r h
    exact .inl ⟨zs, r, rfl, rfl, h2, (readO_few l zs r h).1, h1, h3⟩

set_option maxRecDepth 100000 in
set_option maxHeartbeats 6400000 in
theorem lparts_walk (s t : List UInt8) (w : World) (hL : Laid w) (m1 : s.length ≤ 9223372036854775807) (m2 : t.length ≤ 9223372036854775807) :
    Calls Tryd.prog 4 #[.string ⟨s.toArray⟩, .string ⟨t.toArray⟩] w (Fine w) := by
  have HS := Lib.hid (fun W h => small_any W h)
  have HL := Lib.hid hL
  have hsz := str_size s
  have htz := str_size t
  clear hL
  by_cases k1 : 300 < s.length
  · have k1i : decide ((300 : Int) < ((s.length : Nat) : Int)) = true := by rw [decide_eq_true_iff]; omega
    go_enter Tryd.func4, Tryd.ntmps4
    go_wp2_with fail
    refine (HS.out _ HL.out).mono ?_
    rintro x w1 ⟨rfl, hg⟩
    have HG1 := Lib.hid hg
    clear hg HS
    go_wp2
    go_ret
    exact ⟨rfl, HG1.out⟩
  have k1i : decide ((300 : Int) < ((s.length : Nat) : Int)) = false := by rw [decide_eq_false_iff_not]; omega
  by_cases k2 : 300 < t.length
  · have k2i : decide ((300 : Int) < ((t.length : Nat) : Int)) = true := by rw [decide_eq_true_iff]; omega
    go_enter Tryd.func4, Tryd.ntmps4
    go_wp2_with fail
    refine (HS.out _ HL.out).mono ?_
    rintro x w1 ⟨rfl, hg⟩
    have HG1 := Lib.hid hg
    clear hg HS
    go_wp2
    go_ret
    exact ⟨rfl, HG1.out⟩
  have k2i : decide ((300 : Int) < ((t.length : Nat) : Int)) = false := by rw [decide_eq_false_iff_not]; omega
  obtain ⟨⟨ds, e, f⟩, ht⟩ : ∃ p, mkL (readO t) = p := ⟨_, rfl⟩
  obtain ⟨nd, hnd⟩ : ∃ nd, ds.length = nd := ⟨_, rfl⟩
  have HT := Lib.hid (k_read ht (by omega) nd hnd)
  rcases parts_one s with ⟨zs, r, hs, hso, hne, hfew, hall, p, hp0, hp⟩ | ⟨hs, hso⟩
  rotate_left
  · have HR := Lib.hid (k_read hs (by omega) 0 rfl)
    clear ht hs hso
    go_enter Tryd.func4, Tryd.ntmps4
    go_wp2_with fail
    refine (HS.out _ HL.out).mono ?_
    rintro x w1 ⟨rfl, hg⟩
    have HG1 := Lib.hid hg
    clear hg HS
    go_wp2_with fail
    refine (HR.out _ (HL.out.grow HG1.out)).mono ?_
    rintro x w2 ⟨A2, c2, rfl, -, hg⟩
    have HG2 := Lib.hid (HG1.out.trans hg)
    clear hg HG1 HR
    go_wp2_with fail
    refine (HT.out _ (HL.out.grow HG2.out)).mono ?_
    rintro x w3 ⟨A3, c3, rfl, -, hg⟩
    have HG3 := Lib.hid (HG2.out.trans hg)
    clear hg HG2 HT
    go_wp2
    go_loopg [12] 0 (fun g s12 wr => g = 0 ∧ s12 = .int .i64 0 ∧ w3 = wr)
    case atStart => exact ⟨rfl, rfl, rfl⟩
    case round =>
      obtain ⟨rfl, rfl, rfl⟩ := hrel
      go_wp2
      go_ret
      exact ⟨rfl, HG3.out⟩
  · obtain ⟨na, hna⟩ : ∃ na, zs.length = na := ⟨_, rfl⟩
    have hna0 : 0 < na := by
      rw [← hna]
      exact List.length_pos_iff.2 hne
    have hna3 : na ≤ 300 := by rw [← hna]; omega
    have HR := Lib.hid (k_read hs (by omega) na hna)
    have hrl : r.length < s.length := by
      rw [hp, List.length_append]
      have : 0 < p.length := List.length_pos_iff.2 hp0
      omega
    obtain ⟨d, hd⟩ : ∃ d, s.length - r.length = d := ⟨_, rfl⟩
    have hsl : ∀ W, (Instr.slice 9 (.string ⟨s.toArray⟩) (some (.int .i64 (d : Nat))) none none).run Tryd.prog W = .ok (.string ⟨r.toArray⟩) W := fun W => by
      have h := slice_from s d (by omega) W
      have : s.drop d = r := by
        rw [← hd, hp, List.length_append, Nat.add_sub_cancel, List.drop_left]
      rw [this] at h
      exact h
    have hsub : IntKind.i64.wrap (((s.length : Nat) : Int) - ((r.length : Nat) : Int)) = (d : Nat) := by rw [IntKind.wrap_i64]; omega
    have hrz := str_size r
    have HNA := Lib.hid hna
    have HND := Lib.hid hnd
    have HALL := Lib.hid hall
    have HPT : Hid (r = [] → f = true → mkL (readO (s ++ 32 :: t)) = (zs ++ ds, e, true)) := Lib.hid (fun h1 h2 => by
      subst h1
      subst h2
      have h3 : readO t = some (ds, e) := by
        cases h : readO t with
        | none => rw [h] at ht; cases ht
        | some p =>
          rw [h] at ht
          simp only [mkL, Prod.mk.injEq] at ht
          rw [← ht.1, ← ht.2.1]
      rw [readO_parts h3 s zs hso]
      rfl)
    have hnd3 : nd ≤ 300 := by
      rw [← hnd]
      cases h : readO t with
      | none =>
        rw [h] at ht
        simp only [mkL, Prod.mk.injEq] at ht
        rw [← ht.1]; simp
      | some p =>
        have := (readO_few t p.1 p.2 h).1
        rw [h] at ht
        simp only [mkL, Prod.mk.injEq] at ht
        rw [← ht.1]; omega
    have hnaI : (0 : Int) < ((na : Nat) : Int) := by omega
    have hnaz : (((na : Nat) : Int) == 0) = false := by rw [beq_eq_false_iff_ne]; omega
    have hrlI : ((r.length : Nat) : Int) < ((s.length : Nat) : Int) := by omega
    have hrlN : ¬ ((s.length : Nat) : Int) < ((r.length : Nat) : Int) := by omega
    clear ht hs hso hp hp0 hne hfew hall hna hnd hd
    go_enter Tryd.func4, Tryd.ntmps4
    go_wp2_with fail
    refine (HS.out _ HL.out).mono ?_
    rintro x w1 ⟨rfl, hg⟩
    have HG1 := Lib.hid hg
    clear hg HS
    go_wp2_with fail
    refine (HR.out _ (HL.out.grow HG1.out)).mono ?_
    rintro x w2 ⟨A2, c2, rfl, hd2, hg⟩
    have HG2 := Lib.hid (HG1.out.trans hg)
    have HE2 := Lib.hid hd2
    clear hg hd2 HG1 HR
    go_wp2_with fail
    refine (HT.out _ (HL.out.grow HG2.out)).mono ?_
    rintro x w3 ⟨A3, c3, rfl, hd3, hg⟩
    have HG3 := Lib.hid (HG2.out.trans hg)
    have HE3 := Lib.hid (HE2.out.grow hg)
    have HF3 := Lib.hid hd3
    clear hg hd3 HG2 HE2 HT
    go_wp2
    go_loopg [12] na (fun g s12 wr => ∃ k : Nat, k ≤ na ∧ g = na - k ∧ s12 = .int .i64 k ∧ Hid (Grow w3 wr))
    case atStart => exact ⟨0, Nat.zero_le _, rfl, rfl, Lib.hid (Grow.refl _)⟩
    case round =>
      obtain ⟨k, hk, rfl, rfl, HG⟩ := hrel
      by_cases hlt : k < na
      · have hlti : ((k : Nat) : Int) < ((na : Nat) : Int) := by omega
        have hkx : k < zs.length := by rw [HNA.out]; exact hlt
        obtain ⟨b, off, rfl, hb, hc0, hc1⟩ := dec_at (HE3.out.grow HG.out) k hkx
        have hin : rightB (zs.getD k (0, 0)).1 (zs.getD k (0, 0)).2 = true ∧ In (zs.getD k (0, 0)).1 ∧ In (zs.getD k (0, 0)).2 := by
          have e : zs.getD k (0, 0) = zs[k] := by simp [List.getD, hkx]
          rw [e]
          exact HALL.out _ (List.getElem_mem hkx)
        clear hb hkx
        generalize zs.getD k (0, 0) = q at hc0 hc1 hin
        obtain ⟨q0, q1⟩ := q
        dsimp only at hc0 hc1 hin
        have HRI := Lib.hid (fun W => right_any q0 q1 W hin.2.1 hin.2.2)
        rw [hin.1] at HRI
        clear hin
        go_wp2_with fail
        refine (HRI.out _).mono ?_
        rintro x w6 ⟨rfl, hg⟩
        have HG6 := Lib.hid (HG.out.trans hg)
        clear hg HRI hc0 hc1
        go_wp2
        go_roundg (na - (k + 1))
        case rel => exact ⟨k + 1, by omega, rfl, by go_num, HG6⟩
        case measure => omega
      · obtain rfl : na = k := by omega
        have HG4 := Lib.hid (HG3.out.trans HG.out)
        have HE4 := Lib.hid (HE3.out.grow HG.out)
        have HF4 := Lib.hid (HF3.out.grow HG.out)
        obtain ⟨w4, hw4⟩ : ∃ w4, w4 = wr := ⟨_, rfl⟩
        subst hw4
        clear HG HG3 HE3 HF3 HALL
        by_cases hr : r = []
        · have hrb : (r == []) = true := beq_iff_eq.2 hr
          cases f
          · clear HPT hr
            go_wp2
            go_ret
            exact ⟨rfl, HG4.out⟩
          · have HRG := Lib.hid (k_read (HPT.out hr rfl) (by rw [List.length_append, List.length_cons]; omega) (na + nd) (by rw [List.length_append, HNA.out, HND.out]))
            have hc1 : (⟨s.toArray⟩ : ByteArray) ++ ⟨#[32]⟩ = ⟨(s ++ [32]).toArray⟩ := str_app s [32]
            have hc2 : (⟨(s ++ [32]).toArray⟩ : ByteArray) ++ ⟨t.toArray⟩ = ⟨(s ++ 32 :: t).toArray⟩ := by rw [str_app]; simp
            have s1 : ¬ 9223372036854775807 < s.length + 1 := by omega
            have s2 : ¬ 9223372036854775807 < s.length + 1 + t.length := by omega
            have hwr : IntKind.i64.wrap (((na : Nat) : Int) + ((nd : Nat) : Int)) = ((na : Nat) : Int) + ((nd : Nat) : Int) := by rw [IntKind.wrap_i64]; omega
            clear HPT hr
            go_wp2_with fail
            refine (HRG.out _ (HL.out.grow HG4.out)).mono ?_
            rintro x w8 ⟨A8, c8, rfl, hd8, hg⟩
            have HG8 := Lib.hid (HG4.out.trans hg)
            have HE8 := Lib.hid (HE4.out.grow hg)
            have HF8 := Lib.hid (HF4.out.grow hg)
            have HD8 := Lib.hid hd8
            clear hg hd8 HG4 HE4 HF4 HRG hc1 hc2 s1 s2
            go_wp2
            go_loopg [16] na (fun g s16 wr => ∃ k : Nat, k ≤ na ∧ g = na - k ∧ s16 = .int .i64 k ∧ Hid (Grow w8 wr))
            case atStart => exact ⟨0, Nat.zero_le _, rfl, rfl, Lib.hid (Grow.refl _)⟩
            case round =>
              obtain ⟨k, hk, rfl, rfl, HG⟩ := hrel
              by_cases hlt : k < na
              · have hlti : ((k : Nat) : Int) < ((na : Nat) : Int) := by omega
                have hltj : ((k : Nat) : Int) < ((na : Nat) : Int) + ((nd : Nat) : Int) := by omega
                obtain ⟨b, off, rfl, hb, c0, c1⟩ := dec_at (HE8.out.grow HG.out) k (by rw [HNA.out]; exact hlt)
                obtain ⟨b2, o2, rfl, hb2, e0, e1⟩ := dec_at (HD8.out.grow HG.out) k (by rw [List.length_append, HNA.out]; omega)
                rw [getD_app1 (by rw [HNA.out]; exact hlt)] at e0 e1
                generalize zs.getD k (0, 0) = q at c0 c1 e0 e1
                obtain ⟨q0, q1⟩ := q
                dsimp only at c0 c1 e0 e1
                have heq := dec_same q0 q1
                have HC0 := Lib.hid c0
                have HC1 := Lib.hid c1
                have HE0 := Lib.hid e0
                have HE1 := Lib.hid e1
                have HB := Lib.hid hb
                have HB2 := Lib.hid hb2
                clear c0 c1 e0 e1 hb hb2
                go_wp2_with fail
                refine wp_region_R Grow (n := 9) rfl (by kernel_rfl) ?_
                intro W0 hW0e hW0
                have hG0 : Grow wr W0 := hW0
                have p0 : ∀ wg, Grow W0 wg → wg.cell? ⟨b2, o2 + k * 2, none⟩ = some (.int .i64 q0) := fun wg h => ((hG0.trans h).cell (p := ⟨b2, o2 + k * 2, none⟩) HB2.out).trans HE0.out
                have p1 : ∀ wg, Grow W0 wg → wg.cell? ⟨b2, o2 + k * 2 + 1, none⟩ = some (.int .i64 q1) := fun wg h => ((hG0.trans h).cell (p := ⟨b2, o2 + k * 2 + 1, none⟩) HB2.out).trans HE1.out
                have p2 : ∀ wg, Grow W0 wg → wg.cell? ⟨b, off + k * 2, none⟩ = some (.int .i64 q0) := fun wg h => ((hG0.trans h).cell (p := ⟨b, off + k * 2, none⟩) HB.out).trans HC0.out
                have p3 : ∀ wg, Grow W0 wg → wg.cell? ⟨b, off + k * 2 + 1, none⟩ = some (.int .i64 q1) := fun wg h => ((hG0.trans h).cell (p := ⟨b, off + k * 2 + 1, none⟩) HB.out).trans HC1.out
                clear hW0e
                refine wpR_take growOrd (i := 0) (v := ?vf1) rfl (by kernel_rfl) (by kernel_rfl) (by kernel_rfl) (fun _ _ _ h => h) (by rfl) ?hf1 ?rf1
                case hf1 => (intro wg hSw; go_simp <;> with_reducible rfl)
                simp only [Act.put, List.setIfInBounds_toArray, List.set_cons_zero, List.set_cons_succ]
                refine wpR_take growOrd (i := 1) (v := ?vf2) rfl (by kernel_rfl) (by kernel_rfl) (by kernel_rfl) (fun _ _ _ h => h) (by rfl) ?hf2 ?rf2
                case hf2 => (intro wg hSw; go_simp <;> with_reducible rfl)
                simp only [Act.put, List.setIfInBounds_toArray, List.set_cons_zero, List.set_cons_succ]
                refine wpR_take growOrd (i := 2) (v := ?vf3) rfl (by kernel_rfl) (by kernel_rfl) (by kernel_rfl) (fun _ _ _ h => h) (by rfl) ?hf3 ?rf3
                case hf3 => (intro wg hSw; go_simp <;> with_reducible rfl)
                simp only [Act.put, List.setIfInBounds_toArray, List.set_cons_zero, List.set_cons_succ]
                refine wpR_take growOrd (i := 3) (v := ?vf4) rfl (by kernel_rfl) (by kernel_rfl) (by kernel_rfl) (fun _ _ _ h => h) (by rfl) ?hf4 ?rf4
                case hf4 => (intro wg hSw; go_simp <;> with_reducible rfl)
                simp only [Act.put, List.setIfInBounds_toArray, List.set_cons_zero, List.set_cons_succ]
                refine wpR_take growOrd (i := 4) (v := ?vf5) rfl (by kernel_rfl) (by kernel_rfl) (by kernel_rfl) (fun _ _ _ h => h) (by rfl) ?hf5 ?rf5
                case hf5 => (intro wg hSw; go_simp <;> with_reducible rfl)
                simp only [Act.put, List.setIfInBounds_toArray, List.set_cons_zero, List.set_cons_succ]
                refine wpR_take growOrd (i := 5) (v := ?vf6) rfl (by kernel_rfl) (by kernel_rfl) (by kernel_rfl) (fun _ _ _ h => h) (by rfl) ?hf6 ?rf6
                case hf6 => (intro wg hSw; go_simp <;> with_reducible rfl)
                simp only [Act.put, List.setIfInBounds_toArray, List.set_cons_zero, List.set_cons_succ]
                refine wpR_take growOrd (i := 6) (v := ?vf7) rfl (by kernel_rfl) (by kernel_rfl) (by kernel_rfl) (fun _ _ _ h => h) (by rfl) ?hf7 ?rf7
                case hf7 => (intro wg hSw; go_simp <;> with_reducible rfl)
                simp only [Act.put, List.setIfInBounds_toArray, List.set_cons_zero, List.set_cons_succ]
                refine wpR_take growOrd (i := 7) (v := ?vf8) rfl (by kernel_rfl) (by kernel_rfl) (by kernel_rfl) (fun _ _ _ h => h) (by rfl) ?hf8 ?rf8
                case hf8 => (intro wg hSw; go_simp <;> with_reducible rfl)
                simp only [Act.put, List.setIfInBounds_toArray, List.set_cons_zero, List.set_cons_succ]
                refine wpR_take growOrd (i := 8) (v := ?vf9) rfl (by kernel_rfl) (by kernel_rfl) (by kernel_rfl) (fun _ _ _ h => h) (by rfl) ?hf9 ?rf9
                case hf9 => (intro wg hSw; go_simp <;> with_reducible rfl)
                simp only [Act.put, List.setIfInBounds_toArray, List.set_cons_zero, List.set_cons_succ]
                refine wpR_done (by kernel_rfl) ?_
                have HGW := Lib.hid (HG.out.trans (hG0.trans (Grow.refl W0)))
                clear p0 p1 p2 p3
                go_wp2
                go_roundg (na - (k + 1))
                case rel => exact ⟨k + 1, by omega, rfl, by go_num, HGW⟩
                case measure => omega
              · obtain rfl : na = k := by omega
                have HG9 := Lib.hid (HG8.out.trans HG.out)
                have HF9 := Lib.hid (HF8.out.grow HG.out)
                have HD9 := Lib.hid (HD8.out.grow HG.out)
                obtain ⟨w9, hw9⟩ : ∃ w9, w9 = wr := ⟨_, rfl⟩
                subst hw9
                clear HG HG8 HE8 HF8 HD8
                go_wp2
                go_loopg [17] nd (fun g s17 wr => ∃ k : Nat, k ≤ nd ∧ g = nd - k ∧ s17 = .int .i64 k ∧ Hid (Grow w9 wr))
                case atStart => exact ⟨0, Nat.zero_le _, rfl, rfl, Lib.hid (Grow.refl _)⟩
                case round =>
                  obtain ⟨k, hk, rfl, rfl, HG⟩ := hrel
                  by_cases hlt : k < nd
                  · have hlti : ((k : Nat) : Int) < ((nd : Nat) : Int) := by omega
                    obtain ⟨b, off, rfl, hb, c0, c1⟩ := dec_at (HF9.out.grow HG.out) k (by rw [HND.out]; exact hlt)
                    obtain ⟨b2, o2, rfl, hb2, e0, e1⟩ := dec_at (HD9.out.grow HG.out) (zs.length + k) (by rw [List.length_append, HND.out]; omega)
                    rw [getD_app2, HNA.out] at e0 e1
                    generalize ds.getD k (0, 0) = q at c0 c1 e0 e1
                    obtain ⟨q0, q1⟩ := q
                    dsimp only at c0 c1 e0 e1
                    have heq := dec_same q0 q1
                    have hix : IntKind.i64.wrap (((na : Nat) : Int) + ((k : Nat) : Int)) = ((na + k : Nat) : Int) := by rw [IntKind.wrap_i64]; omega
                    have hge : (0 : Int) ≤ ((na : Nat) : Int) + ((k : Nat) : Int) := by omega
                    have htn : (((na : Nat) : Int) + ((k : Nat) : Int)).toNat = na + k := by omega
                    have HC0 := Lib.hid c0
                    have HC1 := Lib.hid c1
                    have HE0 := Lib.hid e0
                    have HE1 := Lib.hid e1
                    have HB := Lib.hid hb
                    have HB2 := Lib.hid hb2
                    clear c0 c1 e0 e1 hb hb2
                    go_wp2_with fail
                    refine wp_region_R Grow (n := 12) rfl (by kernel_rfl) ?_
                    intro W0 hW0e hW0
                    have hG0 : Grow wr W0 := hW0
                    have p0 : ∀ wg, Grow W0 wg → wg.cell? ⟨b2, o2 + (na + k) * 2, none⟩ = some (.int .i64 q0) := fun wg h => ((hG0.trans h).cell (p := ⟨b2, o2 + (na + k) * 2, none⟩) HB2.out).trans HE0.out
                    have p1 : ∀ wg, Grow W0 wg → wg.cell? ⟨b2, o2 + (na + k) * 2 + 1, none⟩ = some (.int .i64 q1) := fun wg h => ((hG0.trans h).cell (p := ⟨b2, o2 + (na + k) * 2 + 1, none⟩) HB2.out).trans HE1.out
                    have p2 : ∀ wg, Grow W0 wg → wg.cell? ⟨b, off + k * 2, none⟩ = some (.int .i64 q0) := fun wg h => ((hG0.trans h).cell (p := ⟨b, off + k * 2, none⟩) HB.out).trans HC0.out
                    have p3 : ∀ wg, Grow W0 wg → wg.cell? ⟨b, off + k * 2 + 1, none⟩ = some (.int .i64 q1) := fun wg h => ((hG0.trans h).cell (p := ⟨b, off + k * 2 + 1, none⟩) HB.out).trans HC1.out
                    clear hW0e
                    refine wpR_take growOrd (i := 0) (v := ?vf10) rfl (by kernel_rfl) (by kernel_rfl) (by kernel_rfl) (fun _ _ _ h => h) (by rfl) ?hf10 ?rf10
                    case hf10 => (intro wg hSw; go_simp <;> with_reducible rfl)
                    simp only [Act.put, List.setIfInBounds_toArray, List.set_cons_zero, List.set_cons_succ]
                    refine wpR_take growOrd (i := 1) (v := ?vf11) rfl (by kernel_rfl) (by kernel_rfl) (by kernel_rfl) (fun _ _ _ h => h) (by rfl) ?hf11 ?rf11
                    case hf11 => (intro wg hSw; go_simp <;> with_reducible rfl)
                    simp only [Act.put, List.setIfInBounds_toArray, List.set_cons_zero, List.set_cons_succ]
                    refine wpR_take growOrd (i := 2) (v := ?vf12) rfl (by kernel_rfl) (by kernel_rfl) (by kernel_rfl) (fun _ _ _ h => h) (by rfl) ?hf12 ?rf12
                    case hf12 => (intro wg hSw; go_simp <;> with_reducible rfl)
                    simp only [Act.put, List.setIfInBounds_toArray, List.set_cons_zero, List.set_cons_succ]
                    refine wpR_take growOrd (i := 3) (v := ?vf13) rfl (by kernel_rfl) (by kernel_rfl) (by kernel_rfl) (fun _ _ _ h => h) (by rfl) ?hf13 ?rf13
                    case hf13 => (intro wg hSw; go_simp <;> with_reducible rfl)
                    simp only [Act.put, List.setIfInBounds_toArray, List.set_cons_zero, List.set_cons_succ]
                    refine wpR_take growOrd (i := 4) (v := ?vf14) rfl (by kernel_rfl) (by kernel_rfl) (by kernel_rfl) (fun _ _ _ h => h) (by rfl) ?hf14 ?rf14
                    case hf14 => (intro wg hSw; go_simp <;> with_reducible rfl)
                    simp only [Act.put, List.setIfInBounds_toArray, List.set_cons_zero, List.set_cons_succ]
                    refine wpR_take growOrd (i := 5) (v := ?vf15) rfl (by kernel_rfl) (by kernel_rfl) (by kernel_rfl) (fun _ _ _ h => h) (by rfl) ?hf15 ?rf15
                    case hf15 => (intro wg hSw; go_simp <;> with_reducible rfl)
                    simp only [Act.put, List.setIfInBounds_toArray, List.set_cons_zero, List.set_cons_succ]
                    refine wpR_take growOrd (i := 6) (v := ?vf16) rfl (by kernel_rfl) (by kernel_rfl) (by kernel_rfl) (fun _ _ _ h => h) (by rfl) ?hf16 ?rf16
                    case hf16 => (intro wg hSw; go_simp <;> with_reducible rfl)
                    simp only [Act.put, List.setIfInBounds_toArray, List.set_cons_zero, List.set_cons_succ]
                    refine wpR_take growOrd (i := 7) (v := ?vf17) rfl (by kernel_rfl) (by kernel_rfl) (by kernel_rfl) (fun _ _ _ h => h) (by rfl) ?hf17 ?rf17
                    case hf17 => (intro wg hSw; go_simp <;> with_reducible rfl)
                    simp only [Act.put, List.setIfInBounds_toArray, List.set_cons_zero, List.set_cons_succ]
                    refine wpR_take growOrd (i := 8) (v := ?vf18) rfl (by kernel_rfl) (by kernel_rfl) (by kernel_rfl) (fun _ _ _ h => h) (by rfl) ?hf18 ?rf18
                    case hf18 => (intro wg hSw; go_simp <;> with_reducible rfl)
                    simp only [Act.put, List.setIfInBounds_toArray, List.set_cons_zero, List.set_cons_succ]
                    refine wpR_take growOrd (i := 9) (v := ?vf19) rfl (by kernel_rfl) (by kernel_rfl) (by kernel_rfl) (fun _ _ _ h => h) (by rfl) ?hf19 ?rf19
                    case hf19 => (intro wg hSw; go_simp <;> with_reducible rfl)
                    simp only [Act.put, List.setIfInBounds_toArray, List.set_cons_zero, List.set_cons_succ]
                    refine wpR_take growOrd (i := 10) (v := ?vf20) rfl (by kernel_rfl) (by kernel_rfl) (by kernel_rfl) (fun _ _ _ h => h) (by rfl) ?hf20 ?rf20
                    case hf20 => (intro wg hSw; go_simp <;> with_reducible rfl)
                    simp only [Act.put, List.setIfInBounds_toArray, List.set_cons_zero, List.set_cons_succ]
                    refine wpR_take growOrd (i := 11) (v := ?vf21) rfl (by kernel_rfl) (by kernel_rfl) (by kernel_rfl) (fun _ _ _ h => h) (by rfl) ?hf21 ?rf21
                    case hf21 => (intro wg hSw; go_simp <;> with_reducible rfl)
                    simp only [Act.put, List.setIfInBounds_toArray, List.set_cons_zero, List.set_cons_succ]
                    refine wpR_done (by kernel_rfl) ?_
                    have HGW := Lib.hid (HG.out.trans (hG0.trans (Grow.refl W0)))
                    clear p0 p1 p2 p3
                    go_wp2
                    go_roundg (nd - (k + 1))
                    case rel => exact ⟨k + 1, by omega, rfl, by go_num, HGW⟩
                    case measure => omega
                  · obtain rfl : nd = k := by omega
                    have HGF := Lib.hid (HG9.out.trans HG.out)
                    go_wp2
                    go_ret
                    exact ⟨rfl, HGF.out⟩
        · have hrb : (r == []) = false := beq_nil_false hr
          clear HPT hr
          go_wp2
          go_ret
          exact ⟨rfl, HG4.out⟩
end Go.Proofs.YtkebngldmcoaaaaDoor
