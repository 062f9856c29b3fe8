/-
  NumberTells comes to true, whatever it is called with.
-/
import Derived.Test.YtkebngldmcoaaaaGreatDoorSmall
import Derived.Test.YtkebngldmcoaaaaGreatDoorRRead
namespace Go.Proofs.YtkebngldmcoaaaaGreatDoor
open Go.RowKit Go.Lib
set_option linter.unusedSimpArgs false
set_option linter.unusedVariables false

def Fine (w : World) (e : Ending) (w' : World) : Prop := e = .returned (.bool true) ∧ Grow w w'

set_option maxRecDepth 100000 in
set_option maxHeartbeats 6400000 in
theorem ltells_walk (A A' : Option Addr) (n c m c' : Nat) (xs : List Int) (ds : List Dc) (l : List UInt8) (w : World) (hL : Laid w) (h1 : xs.length = n) (h2 : ds.length = m) (m1 : n ≤ 9223372036854775807) (m2 : m ≤ 9223372036854775807) (m3 : l.length ≤ 9223372036854775807)
    (r1 : Nums .i64 w w.heap.size A xs) (r2 : Decs w w.heap.size A' ds) (i1 : ∀ x ∈ xs, In x) (i2 : ∀ x ∈ ds, In x.1 ∧ In x.2) :
    Calls Tryz.prog 3 #[.slice A n c, .slice A' m c', .string ⟨l.toArray⟩] w (Fine w) := by
  have HS := Lib.hid (fun W h => small_any W h)
  have HL := Lib.hid hL
  have HR1 := Lib.hid r1
  have HR2 := Lib.hid r2
  have HN1 := Lib.hid h1
  have HN2 := Lib.hid h2
  have HI1 := Lib.hid i1
  have HI2 := Lib.hid i2
  have hsz := str_size l
  clear hL r1 r2 h1 h2 i1 i2
  by_cases k1 : 100 < n
  · have k1i : decide ((100 : Int) < ((n : Nat) : Int)) = true := by rw [decide_eq_true_iff]; omega
    go_enter Tryz.func3, Tryz.ntmps3
    go_wp2_with fail
    refine (HS.out _ HL.out).mono ?_
    rintro x w1 ⟨rfl, hg⟩
    have HG1 := Lib.hid hg
    clear hg HS
    go_wp2
    go_ret
    exact ⟨rfl, HG1.out⟩
  have k1i : decide ((100 : Int) < ((n : Nat) : Int)) = false := by rw [decide_eq_false_iff_not]; omega
  by_cases k2 : 100 < m
  · have k2i : decide ((100 : Int) < ((m : Nat) : Int)) = true := by rw [decide_eq_true_iff]; omega
    go_enter Tryz.func3, Tryz.ntmps3
    go_wp2_with fail
    refine (HS.out _ HL.out).mono ?_
    rintro x w1 ⟨rfl, hg⟩
    have HG1 := Lib.hid hg
    clear hg HS
    go_wp2
    go_ret
    exact ⟨rfl, HG1.out⟩
  have k2i : decide ((100 : Int) < ((m : Nat) : Int)) = false := by rw [decide_eq_false_iff_not]; omega
  by_cases k3 : 500 < l.length
  · have k3i : decide ((500 : Int) < ((l.length : Nat) : Int)) = true := by rw [decide_eq_true_iff]; omega
    go_enter Tryz.func3, Tryz.ntmps3
    go_wp2_with fail
    refine (HS.out _ HL.out).mono ?_
    rintro x w1 ⟨rfl, hg⟩
    have HG1 := Lib.hid hg
    clear hg HS
    go_wp2
    go_ret
    exact ⟨rfl, HG1.out⟩
  have k3i : decide ((500 : Int) < ((l.length : Nat) : Int)) = false := by rw [decide_eq_false_iff_not]; omega
  obtain ⟨⟨es, r, ok⟩, hp⟩ : ∃ p, mkL (readO l) = p := ⟨_, rfl⟩
  obtain ⟨ne, hne⟩ : ∃ ne, es.length = ne := ⟨_, rfl⟩
  have HA := Lib.hid (k_read hp (by omega) ne hne)
  have HB : Hid (∀ W, Calls Tryz.prog 6 #[.string ⟨l.toArray⟩] W fun e w' => ∃ A c, e = .returned (.tuple #[.slice A ne c, .string ⟨r.toArray⟩, .bool ok]) ∧ Decs w' w'.heap.size A es ∧ Grow W w') := Lib.hid (fun W => by
    have h := rread_any l (by omega) W
    rw [hp] at h
    refine h.mono ?_
    rintro e w' ⟨A, c, h1, _, h2, h3⟩
    rw [← hne]
    exact ⟨A, c, h1, h2, h3⟩)
  have HNE := Lib.hid hne
  have hne5 : ne ≤ 500 := by
    rw [← hne]
    cases h : readO l with
    | none =>
      rw [h] at hp
      simp only [mkL, Prod.mk.injEq] at hp
      rw [← hp.1]; simp
    | some p =>
      have := (readO_few l p.1 p.2 h).1
      rw [h] at hp
      simp only [mkL, Prod.mk.injEq] at hp
      rw [← hp.1]; omega
  have HIA := Lib.hid (fun W a b => ints_any A n c xs W HN1.out (by omega) a HI1.out b)
  have HIB := Lib.hid (fun W a => rints_any A n c xs W HN1.out (by omega) a HI1.out)
  have HDA := Lib.hid (fun W a b => decs_any A' m c' ds W HN2.out (by omega) a HI2.out b)
  have HDB := Lib.hid (fun W a => rdecs_any A' m c' ds W HN2.out (by omega) a HI2.out)
  have hok : (ok == ok) = true := by cases ok <;> rfl
  clear hp hne
  generalize intsT xs = X at *
  generalize decsT ds = Y at *
  go_enter Tryz.func3, Tryz.ntmps3
  go_wp2_with fail
  refine (HS.out _ HL.out).mono ?_
  rintro x w1 ⟨rfl, hg⟩
  have HG1 := Lib.hid hg
  clear hg HS
  go_wp2_with fail
  refine (HA.out _ (HL.out.grow HG1.out)).mono ?_
  rintro x w2 ⟨A2, c2, rfl, hd, hg⟩
  have HG2 := Lib.hid (HG1.out.trans hg)
  have HE2 := Lib.hid hd
  clear hg hd HG1 HA
  go_wp2_with fail
  refine (HB.out _).mono ?_
  rintro x w3 ⟨A3, c3, rfl, hd, hg⟩
  have HG3 := Lib.hid (HG2.out.trans hg)
  have HE3 := Lib.hid (HE2.out.grow hg)
  have HF3 := Lib.hid hd
  clear hg hd HG2 HE2 HB
  go_wp2
  go_loopg [14] ne (fun g s14 wr => ∃ k : Nat, k ≤ ne ∧ g = ne - k ∧ s14 = .int .i64 k ∧ Hid (Grow w3 wr))
  case atStart => exact ⟨0, Nat.zero_le _, rfl, rfl, Lib.hid (Grow.refl _)⟩
  case round =>
    obtain ⟨k, hk, rfl, rfl, HG⟩ := hrel
    by_cases hlt : k < ne
    · have hlti : ((k : Nat) : Int) < ((ne : Nat) : Int) := by omega
      obtain ⟨b, off, rfl, hb, c0, c1⟩ := dec_at (HF3.out.grow HG.out) k (by rw [HNE.out]; exact hlt)
      obtain ⟨b2, o2, rfl, hb2, e0, e1⟩ := dec_at (HE3.out.grow HG.out) k (by rw [HNE.out]; exact hlt)
      generalize es.getD k (0, 0) = q at c0 c1 e0 e1
      obtain ⟨q0, q1⟩ := q
      dsimp only at c0 c1 e0 e1
      have heq := dec_same q0 q1
      have HC0 := Lib.hid c0
      have HC1 := Lib.hid c1
      have HE0 := Lib.hid e0
      have HE1 := Lib.hid e1
      have HB := Lib.hid hb
      have HB2 := Lib.hid hb2
      clear c0 c1 e0 e1 hb hb2
      go_wp2_with fail
      refine wp_region_R Grow (n := 9) rfl (by kernel_rfl) ?_
      intro W0 hW0e hW0
      have hG0 : Grow wr W0 := hW0
      have p0 : ∀ wg, Grow W0 wg → wg.cell? ⟨b2, o2 + k * 2, none⟩ = some (.int .i64 q0) := fun wg h => ((hG0.trans h).cell (p := ⟨b2, o2 + k * 2, none⟩) HB2.out).trans HE0.out
      have p1 : ∀ wg, Grow W0 wg → wg.cell? ⟨b2, o2 + k * 2 + 1, none⟩ = some (.int .i64 q1) := fun wg h => ((hG0.trans h).cell (p := ⟨b2, o2 + k * 2 + 1, none⟩) HB2.out).trans HE1.out
      have p2 : ∀ wg, Grow W0 wg → wg.cell? ⟨b, off + k * 2, none⟩ = some (.int .i64 q0) := fun wg h => ((hG0.trans h).cell (p := ⟨b, off + k * 2, none⟩) HB.out).trans HC0.out
      have p3 : ∀ wg, Grow W0 wg → wg.cell? ⟨b, off + k * 2 + 1, none⟩ = some (.int .i64 q1) := fun wg h => ((hG0.trans h).cell (p := ⟨b, off + k * 2 + 1, none⟩) HB.out).trans HC1.out
      clear hW0e
      refine wpR_take growOrd (i := 0) (v := ?vf1) rfl (by kernel_rfl) (by kernel_rfl) (by kernel_rfl) (fun _ _ _ h => h) (by rfl) ?hf1 ?rf1
      case hf1 => (intro wg hSw; go_simp <;> with_reducible rfl)
      simp only [Act.put, List.setIfInBounds_toArray, List.set_cons_zero, List.set_cons_succ]
      refine wpR_take growOrd (i := 1) (v := ?vf2) rfl (by kernel_rfl) (by kernel_rfl) (by kernel_rfl) (fun _ _ _ h => h) (by rfl) ?hf2 ?rf2
      case hf2 => (intro wg hSw; go_simp <;> with_reducible rfl)
      simp only [Act.put, List.setIfInBounds_toArray, List.set_cons_zero, List.set_cons_succ]
      refine wpR_take growOrd (i := 2) (v := ?vf3) rfl (by kernel_rfl) (by kernel_rfl) (by kernel_rfl) (fun _ _ _ h => h) (by rfl) ?hf3 ?rf3
      case hf3 => (intro wg hSw; go_simp <;> with_reducible rfl)
      simp only [Act.put, List.setIfInBounds_toArray, List.set_cons_zero, List.set_cons_succ]
      refine wpR_take growOrd (i := 3) (v := ?vf4) rfl (by kernel_rfl) (by kernel_rfl) (by kernel_rfl) (fun _ _ _ h => h) (by rfl) ?hf4 ?rf4
      case hf4 => (intro wg hSw; go_simp <;> with_reducible rfl)
      simp only [Act.put, List.setIfInBounds_toArray, List.set_cons_zero, List.set_cons_succ]
      refine wpR_take growOrd (i := 4) (v := ?vf5) rfl (by kernel_rfl) (by kernel_rfl) (by kernel_rfl) (fun _ _ _ h => h) (by rfl) ?hf5 ?rf5
      case hf5 => (intro wg hSw; go_simp <;> with_reducible rfl)
      simp only [Act.put, List.setIfInBounds_toArray, List.set_cons_zero, List.set_cons_succ]
      refine wpR_take growOrd (i := 5) (v := ?vf6) rfl (by kernel_rfl) (by kernel_rfl) (by kernel_rfl) (fun _ _ _ h => h) (by rfl) ?hf6 ?rf6
      case hf6 => (intro wg hSw; go_simp <;> with_reducible rfl)
      simp only [Act.put, List.setIfInBounds_toArray, List.set_cons_zero, List.set_cons_succ]
      refine wpR_take growOrd (i := 6) (v := ?vf7) rfl (by kernel_rfl) (by kernel_rfl) (by kernel_rfl) (fun _ _ _ h => h) (by rfl) ?hf7 ?rf7
      case hf7 => (intro wg hSw; go_simp <;> with_reducible rfl)
      simp only [Act.put, List.setIfInBounds_toArray, List.set_cons_zero, List.set_cons_succ]
      refine wpR_take growOrd (i := 7) (v := ?vf8) rfl (by kernel_rfl) (by kernel_rfl) (by kernel_rfl) (fun _ _ _ h => h) (by rfl) ?hf8 ?rf8
      case hf8 => (intro wg hSw; go_simp <;> with_reducible rfl)
      simp only [Act.put, List.setIfInBounds_toArray, List.set_cons_zero, List.set_cons_succ]
      refine wpR_take growOrd (i := 8) (v := ?vf9) rfl (by kernel_rfl) (by kernel_rfl) (by kernel_rfl) (fun _ _ _ h => h) (by rfl) ?hf9 ?rf9
      case hf9 => (intro wg hSw; go_simp <;> with_reducible rfl)
      simp only [Act.put, List.setIfInBounds_toArray, List.set_cons_zero, List.set_cons_succ]
      refine wpR_done (by kernel_rfl) ?_
      have HGW := Lib.hid (HG.out.trans (hG0.trans (Grow.refl W0)))
      clear p0 p1 p2 p3
      go_wp2
      go_roundg (ne - (k + 1))
      case rel => exact ⟨k + 1, by omega, rfl, by go_num, HGW⟩
      case measure => omega
    · obtain rfl : ne = k := by omega
      have HG4 := Lib.hid (HG3.out.trans HG.out)
      obtain ⟨w4, hw4⟩ : ∃ w4, w4 = wr := ⟨_, rfl⟩
      subst hw4
      clear HG HG3 HE3 HF3
      go_wp2_with fail
      refine (HIA.out _ (HR1.out.grow HG4.out) (HL.out.grow HG4.out).pows).mono ?_
      rintro x w5 ⟨rfl, hg⟩
      have HG5 := Lib.hid (HG4.out.trans hg)
      clear hg HG4 HIA
      go_wp2_with fail
      refine (HIB.out _ (HR1.out.grow HG5.out)).mono ?_
      rintro x w6 ⟨rfl, hg⟩
      have HG6 := Lib.hid (HG5.out.trans hg)
      clear hg HG5 HIB
      go_wp2_with fail
      refine (HDA.out _ (HR2.out.grow HG6.out) (HL.out.grow HG6.out).pows).mono ?_
      rintro x w7 ⟨rfl, hg⟩
      have HG7 := Lib.hid (HG6.out.trans hg)
      clear hg HG6 HDA
      go_wp2_with fail
      refine (HDB.out _ (HR2.out.grow HG7.out)).mono ?_
      rintro x w8 ⟨rfl, hg⟩
      have HG8 := Lib.hid (HG7.out.trans hg)
      clear hg HG7 HDB
      go_wp2
      go_ret
      exact ⟨rfl, HG8.out⟩
end Go.Proofs.YtkebngldmcoaaaaGreatDoor
