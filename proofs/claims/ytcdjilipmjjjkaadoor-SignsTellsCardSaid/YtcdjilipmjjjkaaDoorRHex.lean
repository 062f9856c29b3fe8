/-
  What the document's own table, hex and one come to.
-/
import Derived.Test.YtcdjilipmjjjkaaDoorRBytes
namespace Go.Proofs.YtcdjilipmjjjkaaDoor
open Go.RowKit Go.Lib
set_option linter.unusedSimpArgs false

theorem slice_two (l : List UInt8) (n m : Nat) (h : n ≤ m) (hm : m ≤ l.length) (W : World) : (Instr.slice 9 (.string ⟨l.toArray⟩) (some (.int .i64 (n : Nat))) (some (.int .i64 (m : Nat))) none).run Tryd.prog W = .ok (.string ⟨((l.take m).drop n).toArray⟩) W := by
  have hu : Tryd.prog.underlying 9 = some .string := by kernel_rfl
  rw [run_slice_string (h := hu) (h0 := by omega) (h1 := by omega) (h2 := by rw [str_size]; omega)]
  congr 2
  exact str_ext (by simp [ByteArray.size]; rw [List.drop_take])
def hexs : List UInt8 := [48, 49, 50, 51, 52, 53, 54, 55, 56, 57, 65, 66, 67, 68, 69, 70]
theorem hexs_at : ∀ d : Fin 16, (hexs.take (d.val + 1)).drop d.val = [hexDig d] := by decide
theorem slice_hex {d : Nat} (hd : d < 16) (W : World) : (Instr.slice 9 (.string ⟨#[48, 49, 50, 51, 52, 53, 54, 55, 56, 57, 65, 66, 67, 68, 69, 70]⟩) (some (.int .i64 (d : Nat))) (some (.int .i64 ((d : Int) + 1))) none).run Tryd.prog W = .ok (.string ⟨#[hexDig d]⟩) W := by
  have h := slice_two hexs d (d + 1) (by omega) (by simp [hexs]; omega) W
  rw [hexs_at ⟨d, hd⟩] at h
  exact h

set_option maxRecDepth 10000 in
set_option maxHeartbeats 800000 in
theorem rhex_any (u : Nat) (hu : u < 1000000000000) (w : World) :
    Calls Tryd.prog 29 #[.int .i64 (u : Nat)] w (Str (hexD u) w) := by
  induction u using Nat.strongRecOn generalizing w with
  | _ u ih =>
    by_cases h : u < 16
    · have HD := Lib.hid (hex_small h)
      have hsl := fun W => slice_hex h W
      have h' : ((u : Nat) : Int) < 16 := by omega
      clear ih
      go_enter Tryd.func29, Tryd.ntmps29
      go_wp2
      go_ret
      exact ⟨by rw [HD.out]; rfl, Grow.refl _⟩
    · have hdd := hex_big h
      obtain ⟨q, hq⟩ : ∃ q, u / 16 = q := ⟨_, rfl⟩
      obtain ⟨d, hd⟩ : ∃ d, u % 16 = d := ⟨_, rfl⟩
      rw [hq, hd] at hdd
      have HI := Lib.hid (fun W => ih q (by omega) (by omega) W)
      have hl : ¬ 9223372036854775807 < (hexD q).length + 1 := by
        have := (hex_len (n := q) (k := 10) (by omega) (by omega)).1
        omega
      have hsl := fun W => slice_hex (d := d) (by omega) W
      have h' : ¬ ((u : Nat) : Int) < 16 := by omega
      have hq1 : ((u : Nat) : Int) / 16 = ((q : Nat) : Int) := by omega
      have hq2 : ((u : Nat) : Int).tdiv 16 = ((q : Nat) : Int) := by rw [Int.tdiv_eq_ediv_of_nonneg (by omega)]; omega
      have hd1 : ((u : Nat) : Int) % 16 = ((d : Nat) : Int) := by omega
      have hd2 : ((u : Nat) : Int).tmod 16 = ((d : Nat) : Int) := by rw [Int.tmod_eq_emod_of_nonneg (by omega)]; omega
      have hd16 : d < 16 := by omega
      have hwd : IntKind.i64.wrap (((d : Nat) : Int) + 1) = ((d : Nat) : Int) + 1 := by rw [IntKind.wrap_i64]; omega
      have hwq : IntKind.i64.wrap ((q : Nat) : Int) = ((q : Nat) : Int) := by rw [IntKind.wrap_i64]; omega
      generalize hexD q = D at *
      have HD := Lib.hid hdd
      clear ih hdd hq hd h
      go_enter Tryd.func29, Tryd.ntmps29
      go_wp2
      refine wp_region_R Grow (n := 12) rfl (by kernel_rfl) ?_
      intro W0 hW0e hW0
      have hG0 : Grow w W0 := hW0
      clear hW0e
      refine wpR_take growOrd (i := 0) (v := ?vf1) rfl (by kernel_rfl) (by kernel_rfl) (by kernel_rfl) (fun _ _ _ h => h) (by rfl) ?hf1 ?rf1
      case hf1 => (intro wg hSw; go_simp <;> with_reducible rfl)
      simp only [Act.put, List.setIfInBounds_toArray, List.set_cons_zero, List.set_cons_succ]
      refine wpR_take growOrd (i := 1) (v := ?vf2) rfl (by kernel_rfl) (by kernel_rfl) (by kernel_rfl) (fun _ _ _ h => h) (by rfl) ?hf2 ?rf2
      case hf2 => (intro wg hSw; go_simp <;> with_reducible rfl)
      simp only [Act.put, List.setIfInBounds_toArray, List.set_cons_zero, List.set_cons_succ]
      refine wpR_take growOrd (i := 3) (v := ?vf3) rfl (by kernel_rfl) (by kernel_rfl) (by kernel_rfl) (fun _ _ _ h => h) (by rfl) ?hf3 ?rf3
      case hf3 => (intro wg hSw; go_simp <;> with_reducible rfl)
      simp only [Act.put, List.setIfInBounds_toArray, List.set_cons_zero, List.set_cons_succ]
      refine wpR_take growOrd (i := 4) (v := ?vf4) rfl (by kernel_rfl) (by kernel_rfl) (by kernel_rfl) (fun _ _ _ h => h) (by rfl) ?hf4 ?rf4
      case hf4 => (intro wg hSw; go_simp <;> with_reducible rfl)
      simp only [Act.put, List.setIfInBounds_toArray, List.set_cons_zero, List.set_cons_succ]
      refine wpR_take growOrd (i := 5) (v := ?vf5) rfl (by kernel_rfl) (by kernel_rfl) (by kernel_rfl) (fun _ _ _ h => h) (by rfl) ?hf5 ?rf5
      case hf5 => (intro wg hSw; go_simp <;> with_reducible rfl)
      simp only [Act.put, List.setIfInBounds_toArray, List.set_cons_zero, List.set_cons_succ]
      refine wpR_take growOrd (i := 6) (v := ?vf6) rfl (by kernel_rfl) (by kernel_rfl) (by kernel_rfl) (fun _ _ _ h => h) (by rfl) ?hf6 ?rf6
      case hf6 => (intro wg hSw; go_simp <;> with_reducible rfl)
      simp only [Act.put, List.setIfInBounds_toArray, List.set_cons_zero, List.set_cons_succ]
      refine wpR_take growOrd (i := 7) (v := ?vf7) rfl (by kernel_rfl) (by kernel_rfl) (by kernel_rfl) (fun _ _ _ h => h) (by rfl) ?hf7 ?rf7
      case hf7 => (intro wg hSw; go_simp <;> with_reducible rfl)
      simp only [Act.put, List.setIfInBounds_toArray, List.set_cons_zero, List.set_cons_succ]
      refine wpR_take growOrd (i := 8) (v := ?vf8) rfl (by kernel_rfl) (by kernel_rfl) (by kernel_rfl) (fun _ _ _ h => h) (by rfl) ?hf8 ?rf8
      case hf8 => (intro wg hSw; go_simp <;> with_reducible rfl)
      simp only [Act.put, List.setIfInBounds_toArray, List.set_cons_zero, List.set_cons_succ]
      refine wpR_take growOrd (i := 9) (v := ?vf9) rfl (by kernel_rfl) (by kernel_rfl) (by kernel_rfl) (fun _ _ _ h => h) (by rfl) ?hf9 ?rf9
      case hf9 => (intro wg hSw; go_simp <;> with_reducible rfl)
      simp only [Act.put, List.setIfInBounds_toArray, List.set_cons_zero, List.set_cons_succ]
      refine wpR_one (i := 2) (by kernel_rfl) ?_
      refine wpR_op (i := 2) rfl (by rfl) (fun K hK => ?_)
      go_simp
      refine (HI.out W0).mono ?_
      rintro x wM2 ⟨rfl, hM2⟩
      refine hK.out _ _ hM2 ?_
      clear hK K
      try simp only [Act.put, List.setIfInBounds_toArray, List.set_cons_zero, List.set_cons_succ]
      refine wpR_take growOrd (i := 10) (v := ?vf10) rfl (by kernel_rfl) (by kernel_rfl) (by kernel_rfl) (fun _ _ _ h => h) (by rfl) ?hf10 ?rf10
      case hf10 => (intro wg hSw; go_simp <;> with_reducible rfl)
      simp only [Act.put, List.setIfInBounds_toArray, List.set_cons_zero, List.set_cons_succ]
      refine wpR_take growOrd (i := 11) (v := ?vf11) rfl (by kernel_rfl) (by kernel_rfl) (by kernel_rfl) (fun _ _ _ h => h) (by rfl) ?hf11 ?rf11
      case hf11 => (intro wg hSw; go_simp <;> with_reducible rfl)
      simp only [Act.put, List.setIfInBounds_toArray, List.set_cons_zero, List.set_cons_succ]
      refine wpR_done (by kernel_rfl) ?_
      go_wp2
      go_ret
      exact ⟨by rw [HD.out]; exact congrArg (fun s => Ending.returned (Value.string s)) (str_app _ [_]), hG0.trans (Grow.trans (Grow.refl W0) hM2)⟩
end Go.Proofs.YtcdjilipmjjjkaaDoor
