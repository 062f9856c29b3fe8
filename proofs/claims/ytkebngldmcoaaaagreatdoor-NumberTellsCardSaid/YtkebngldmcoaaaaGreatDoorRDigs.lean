/-
  What the document's own size, digits, Number and Text come to.
-/
import Derived.Test.YtkebngldmcoaaaaGreatDoorTexts
namespace Go.Proofs.YtkebngldmcoaaaaGreatDoor
open Go.RowKit Go.Lib

theorem rsize_any (n : Int) (w : World) (hn : In n) :
    Calls Tryz.prog 37 #[.int .i64 n] w fun e w' => e = .returned (.int .u64 n.natAbs) ∧ w' = w := by
  have h1 := hn.1; have h2 := hn.2
  by_cases h : n < 0
  · have hw : IntKind.i64.wrap (-(n + 1)) = -(n + 1) := by rw [IntKind.wrap_i64]; omega
    have hw2 : IntKind.u64.wrap (-(n + 1)) = -(n + 1) := by rw [IntKind.wrap_u64]; omega
    have hw3 : IntKind.u64.wrap (-(n + 1) + 1) = (n.natAbs : Int) := by rw [IntKind.wrap_u64]; omega
    go_enter Tryz.func37, Tryz.ntmps37
    go_wp2
    go_ret
    exact ⟨rfl, rfl⟩
  · have hw : IntKind.u64.wrap n = (n.natAbs : Int) := by rw [IntKind.wrap_u64]; omega
    go_enter Tryz.func37, Tryz.ntmps37
    go_wp2
    go_ret
    exact ⟨rfl, rfl⟩

theorem conv_one (b : Nat) (wg : World) (c : UInt8) (x : Int) (hx : x = (c.toNat : Nat)) (h : wg.cell? ⟨b, 0, none⟩ = some (.int .u8 x)) :
    (convert 51 9 (.slice (some ⟨b, 0, none⟩) 1 1)).run Tryz.prog wg = .ok (.string ⟨#[c]⟩) wg := by
  subst hx
  exact run_convert_bytes_back (P := Tryz.prog) wg 51 9 5 ⟨b, 0, none⟩ 1 [c] (by kernel_rfl) (by kernel_rfl) (by kernel_rfl) (fun j hj => by
    obtain rfl : j = 0 := by simpa using hj
    rw [Lib.add_plain]
    exact h)

set_option maxRecDepth 10000 in
set_option maxHeartbeats 800000 in
theorem digits_any (u : Nat) (hu : u < 18446744073709551616) (w : World) :
    Calls Tryz.prog 36 #[.int .u64 (u : Nat)] w fun e w' => e = .returned (.string ⟨(decDigits u).toArray⟩) ∧ Grow w w' := by
  induction u using Nat.strongRecOn generalizing w with
  | _ u ih =>
    by_cases h : u < 10
    · obtain ⟨c, hc⟩ : ∃ c, UInt8.ofNat (48 + u) = c := ⟨_, rfl⟩
      have HD := Lib.hid (dd_small h)
      rw [hc] at HD
      have hcv := conv_one w.heap.size (w.alloc (.cells #[.int .u8 (48 + (u : Nat))] 5)) c (48 + (u : Nat)) (by rw [← hc, dig_nat h]; rfl) (by simp)
      clear ih hc
      go_enter Tryz.func36, Tryz.ntmps36
      go_wp2
      go_ret
      exact ⟨by rw [HD.out]; rfl, grow_new _ _⟩
    · have hdd := dd_big h
      have HI : Hid (∀ W, Calls Tryz.prog 36 #[.int .u64 ((u : Int) / 10)] W fun e w' => e = .returned (.string ⟨(decDigits (u / 10)).toArray⟩) ∧ Grow W w') :=
        Lib.hid (fun W => by have h := ih (u / 10) (by omega) (by omega) W; rw [Int.natCast_ediv] at h; exact h)
      have hl : ¬ 9223372036854775807 < (decDigits (u / 10)).length + 1 := by
        have hp : (10 : Nat) ^ 20 = 100000000000000000000 := by decide
        have := dd_len (u := u / 10) (k := 20) (by omega) (by omega)
        omega
      obtain ⟨c, hc⟩ : ∃ c, UInt8.ofNat (48 + u % 10) = c := ⟨_, rfl⟩
      have HX : Hid ((48 + (u : Int) % 10) = (c.toNat : Nat)) := Lib.hid (by rw [← hc, dig_nat (by omega)]; omega)
      rw [hc] at hdd
      have hw0 : IntKind.u64.wrap ((u : Int) / 10) = (u : Int) / 10 := by rw [IntKind.wrap_u64]; omega
      have htm : (u : Int).tmod 10 = (u : Int) % 10 := Int.tmod_eq_emod_of_nonneg (by omega)
      have hw1 : IntKind.u64.wrap (48 + (u : Int) % 10) = 48 + (u : Int) % 10 := by rw [IntKind.wrap_u64]; omega
      have hw2 : IntKind.u8.wrap (48 + (u : Int) % 10) = 48 + (u : Int) % 10 := by simp [IntKind.wrap, IntKind.bits, IntKind.signed]; omega
      generalize decDigits (u / 10) = d at *
      have HD := Lib.hid hdd
      clear ih hc hdd
      go_enter Tryz.func36, Tryz.ntmps36
      go_wp2
      refine wp_region_R Grow (n := 11) rfl (by kernel_rfl) ?_
      intro W0 hW0e hW0
      have hG0 : Grow w W0 := hW0
      clear hW0e
      refine wpR_take growOrd (i := 0) (v := ?vf1) rfl (by kernel_rfl) (by kernel_rfl) (by kernel_rfl) (fun _ _ _ h => h) (by rfl) ?hf1 ?rf1
      case hf1 => (intro wg hSw; go_simp <;> with_reducible rfl)
      simp only [Act.put, List.setIfInBounds_toArray, List.set_cons_zero, List.set_cons_succ]
      refine wpR_take growOrd (i := 1) (v := ?vf2) rfl (by kernel_rfl) (by kernel_rfl) (by kernel_rfl) (fun _ _ _ h => h) (by rfl) ?hf2 ?rf2
      case hf2 => (intro wg hSw; go_simp <;> with_reducible rfl)
      simp only [Act.put, List.setIfInBounds_toArray, List.set_cons_zero, List.set_cons_succ]
      refine wpR_take growOrd (i := 3) (v := ?vf3) rfl (by kernel_rfl) (by kernel_rfl) (by kernel_rfl) (fun _ _ _ h => h) (by rfl) ?hf3 ?rf3
      case hf3 => (intro wg hSw; go_simp <;> with_reducible rfl)
      simp only [Act.put, List.setIfInBounds_toArray, List.set_cons_zero, List.set_cons_succ]
      refine wpR_take growOrd (i := 4) (v := ?vf4) rfl (by kernel_rfl) (by kernel_rfl) (by kernel_rfl) (fun _ _ _ h => h) (by rfl) ?hf4 ?rf4
      case hf4 => (intro wg hSw; go_simp <;> with_reducible rfl)
      simp only [Act.put, List.setIfInBounds_toArray, List.set_cons_zero, List.set_cons_succ]
      refine wpR_take growOrd (i := 5) (v := ?vf5) rfl (by kernel_rfl) (by kernel_rfl) (by kernel_rfl) (fun _ _ _ h => h) (by rfl) ?hf5 ?rf5
      case hf5 => (intro wg hSw; go_simp <;> with_reducible rfl)
      simp only [Act.put, List.setIfInBounds_toArray, List.set_cons_zero, List.set_cons_succ]
      refine wpR_take growOrd (i := 6) (v := ?vf6) rfl (by kernel_rfl) (by kernel_rfl) (by kernel_rfl) (fun _ _ _ h => h) (by rfl) ?hf6 ?rf6
      case hf6 => (intro wg hSw; go_simp <;> with_reducible rfl)
      simp only [Act.put, List.setIfInBounds_toArray, List.set_cons_zero, List.set_cons_succ]
      refine wpR_two (i := 2) (j := 7) (by kernel_rfl) ?_ ?_
      · refine wpR_op (i := 2) rfl (by rfl) (fun K hK => ?_)
        go_simp
        refine (HI.out W0).mono ?_
        rintro x wM2 ⟨rfl, hM2⟩
        refine hK.out _ _ hM2 ?_
        clear hK K
        try simp only [Act.put, List.setIfInBounds_toArray, List.set_cons_zero, List.set_cons_succ]
        refine wpR_one (i := 7) (by kernel_rfl) ?_
        refine wpR_op (i := 7) rfl (by rfl) (fun K hK => ?_)
        go_simp
        refine hK.out _ _ (grow_new _ _) ?_
        clear hK K
        try simp only [Act.put, List.setIfInBounds_toArray, List.set_cons_zero, List.set_cons_succ]
        generalize hwM7 : World.alloc wM2 (Obj.cells _ 5) = wM7
        have hM7 : Grow wM2 wM7 := by rw [← hwM7]; exact grow_new _ _
        have hcv : ∀ wg, Grow wM7 wg → (convert 51 9 (.slice (some ⟨(wM2).heap.size, 0, none⟩) 1 1)).run Tryz.prog wg = .ok (.string ⟨#[c]⟩) wg := fun wg hg =>
          conv_one _ wg c _ HX.out (by
            have hlt : (wM2).heap.size < wM7.heap.size := by rw [← hwM7]; simp
            rw [hg.cell (p := ⟨(wM2).heap.size, 0, none⟩) hlt, ← hwM7]
            simp)
        clear hwM7
        refine wpR_take growOrd (i := 8) (v := ?vf7) rfl (by kernel_rfl) (by kernel_rfl) (by kernel_rfl) (fun _ _ _ h => h) (by rfl) ?hf7 ?rf7
        case hf7 => (intro wg hSw; go_simp <;> with_reducible rfl)
        simp only [Act.put, List.setIfInBounds_toArray, List.set_cons_zero, List.set_cons_succ]
        refine wpR_take growOrd (i := 9) (v := ?vf8) rfl (by kernel_rfl) (by kernel_rfl) (by kernel_rfl) (fun _ _ _ h => h) (by rfl) ?hf8 ?rf8
        case hf8 => (intro wg hSw; go_simp <;> with_reducible rfl)
        simp only [Act.put, List.setIfInBounds_toArray, List.set_cons_zero, List.set_cons_succ]
        refine wpR_take growOrd (i := 10) (v := ?vf9) rfl (by kernel_rfl) (by kernel_rfl) (by kernel_rfl) (fun _ _ _ h => h) (by rfl) ?hf9 ?rf9
        case hf9 => (intro wg hSw; go_simp <;> with_reducible rfl)
        simp only [Act.put, List.setIfInBounds_toArray, List.set_cons_zero, List.set_cons_succ]
        refine wpR_done (by kernel_rfl) ?_
        go_wp2
        go_ret
        exact ⟨by rw [HD.out]; exact congrArg (fun s => Ending.returned (Value.string s)) (str_app _ [_]), hG0.trans (Grow.trans (Grow.trans (Grow.refl W0) hM2) hM7)⟩
      · refine wpR_op (i := 7) rfl (by rfl) (fun K hK => ?_)
        go_simp
        refine hK.out _ _ (grow_new _ _) ?_
        clear hK K
        try simp only [Act.put, List.setIfInBounds_toArray, List.set_cons_zero, List.set_cons_succ]
        generalize hwM7 : World.alloc W0 (Obj.cells _ 5) = wM7
        have hM7 : Grow W0 wM7 := by rw [← hwM7]; exact grow_new _ _
        have hcv : ∀ wg, Grow wM7 wg → (convert 51 9 (.slice (some ⟨(W0).heap.size, 0, none⟩) 1 1)).run Tryz.prog wg = .ok (.string ⟨#[c]⟩) wg := fun wg hg =>
          conv_one _ wg c _ HX.out (by
            have hlt : (W0).heap.size < wM7.heap.size := by rw [← hwM7]; simp
            rw [hg.cell (p := ⟨(W0).heap.size, 0, none⟩) hlt, ← hwM7]
            simp)
        clear hwM7
        refine wpR_take growOrd (i := 8) (v := ?vf10) rfl (by kernel_rfl) (by kernel_rfl) (by kernel_rfl) (fun _ _ _ h => h) (by rfl) ?hf10 ?rf10
        case hf10 => (intro wg hSw; go_simp <;> with_reducible rfl)
        simp only [Act.put, List.setIfInBounds_toArray, List.set_cons_zero, List.set_cons_succ]
        refine wpR_one (i := 2) (by kernel_rfl) ?_
        refine wpR_op (i := 2) rfl (by rfl) (fun K hK => ?_)
        go_simp
        refine (HI.out wM7).mono ?_
        rintro x wM2 ⟨rfl, hM2⟩
        refine hK.out _ _ hM2 ?_
        clear hK K
        try simp only [Act.put, List.setIfInBounds_toArray, List.set_cons_zero, List.set_cons_succ]
        refine wpR_take growOrd (i := 9) (v := ?vf11) rfl (by kernel_rfl) (by kernel_rfl) (by kernel_rfl) (fun _ _ _ h => h) (by rfl) ?hf11 ?rf11
        case hf11 => (intro wg hSw; go_simp <;> with_reducible rfl)
        simp only [Act.put, List.setIfInBounds_toArray, List.set_cons_zero, List.set_cons_succ]
        refine wpR_take growOrd (i := 10) (v := ?vf12) rfl (by kernel_rfl) (by kernel_rfl) (by kernel_rfl) (fun _ _ _ h => h) (by rfl) ?hf12 ?rf12
        case hf12 => (intro wg hSw; go_simp <;> with_reducible rfl)
        simp only [Act.put, List.setIfInBounds_toArray, List.set_cons_zero, List.set_cons_succ]
        refine wpR_done (by kernel_rfl) ?_
        go_wp2
        go_ret
        exact ⟨by rw [HD.out]; exact congrArg (fun s => Ending.returned (Value.string s)) (str_app _ [_]), hG0.trans (Grow.trans (Grow.trans (Grow.refl W0) hM7) hM2)⟩

end Go.Proofs.YtkebngldmcoaaaaGreatDoor
