/-
  What the document's own Table comes to, called with anything.
-/
import Derived.Test.YtbpdjohbbhblcaaTable
namespace Go.Proofs.Ytbpdjohbbhblcaa
open Go.RowKit

set_option maxRecDepth 10000 in
set_option maxHeartbeats 400000 in
theorem rtable_any (p : Nat) (w : World) (hp : p < 4294967296) : Calls Try.prog 11 #[.int .u32 p] w (Tabled p w) := by
  have hz := zero24
  go_enter Try.func11, Try.ntmps11
  go_wp2
  have hrow0 : ((w.alloc (.cells zs24 24)).alloc (.cells zs24 24)).rowIs (w.heap.size + 1) 24 256 (fun j => .int .u32 ((if j < 0 then tabF p j else 0 : Nat) : Int)) := by
    have := World.rowIs_alloc (w.alloc (.cells zs24 24)) zs24 24 (fun j => .int .u32 ((if j < 0 then tabF p j else 0 : Nat) : Int)) (fun i hi => by
      have hi' : i < 256 := by rw [zs_size] at hi; exact hi
      simp [zs24, hi'])
    rw [zs_size] at this
    simpa using this
  have hold0 := heap_alloc2_old w (.cells zs24 24) (.cells zs24 24)
  clear hz
  go_loopw [4] (fun i wr => ∃ k : Nat, k ≤ 256 ∧ i = .int .i64 k ∧ wr.rowIs (w.heap.size + 1) 24 256 (fun j => .int .u32 ((if j < k then tabF p j else 0 : Nat) : Int)) ∧ wr.heap[w.heap.size]? = some (.cells zs24 24 (0, 0)) ∧ Below w.heap.size w wr)
    (fun i _ => 256 - (intOf i).toNat)
  case atStart => exact ⟨0, Nat.zero_le _, rfl, hrow0, hold0, ((Below.refl _ _).alloc (Nat.le_refl _) _).alloc (by simp) _⟩
  case round =>
    obtain ⟨k, hk, rfl, hrow, hold, hbel⟩ := hrel
    clear hrow0 hold0
    by_cases hlt : k < 256
    · have hc := hrow.cell hlt
      have hf := hrow.frozen k
      have hlt' := hrow.lt
      have HR := Lib.hid hrow
      have HO := Lib.hid hold
      clear hrow hold
      go_wp2
      go_loopw [5, 6] (fun v i wq => ∃ m : Nat, m ≤ 8 ∧ i = .int .i64 m ∧ v = .int .u32 (stps p m k : Nat) ∧ wq = wr)
        (fun _ i _ => 8 - (intOf i).toNat)
      case atStart => exact ⟨0, Nat.zero_le _, rfl, by simp [stps], rfl⟩
      case round =>
        obtain ⟨m, hm, rfl, rfl, rfl⟩ := hrel
        by_cases hlt8 : m < 8
        · have hnext := stps_succ p m k
          have hx := stps_lt p m k hp (by omega)
          generalize stps p m k = x at *
          have HX := Lib.hid hnext
          clear hnext
          by_cases h1 : x % 2 = 1
          · have hb : ((x : Int) % 2 == 1) = true := by rw [beq_iff_eq]; omega
            have hxx : bits .xor .u32 ((x : Int) / 2) (p : Int) = ((x / 2 ^^^ p : Nat) : Int) := by
              have := u32_xor_nat (x / 2) p (by omega) hp
              rw [← this]
              simp
            have hv : stp p x = x / 2 ^^^ p := by unfold stp; rw [if_pos h1]
            have HV := Lib.hid hv
            clear hv h1
            go_wp2
            go_roundw
            case rel => exact ⟨m + 1, by omega, by go_num, by rw [HX.out, HV.out], trivial⟩
            case measure => simp [intOf]; omega
          · have hb : ((x : Int) % 2 == 1) = false := by rw [beq_eq_false_iff_ne]; omega
            have hv : stp p x = x / 2 := by unfold stp; rw [if_neg h1]
            have HV := Lib.hid hv
            clear hv h1
            go_wp2
            go_roundw
            case rel => exact ⟨m + 1, by omega, by go_num, by rw [HX.out, HV.out]; simp, trivial⟩
            case measure => simp [intOf]; omega
        · have e : m = 8 := by omega
          subst e
          go_wp2
          go_roundw
          case rel =>
            refine ⟨k + 1, by omega, by go_num, ?_, ?_, hbel.setCell (by simp) _⟩
            · refine (HR.out.set k _).congr fun j hj => ?_
              by_cases e : j = k
              · simp [e, tabF]
              · by_cases e2 : j < k
                · simp [e, e2, show j < k + 1 by omega]
                · simp [e, e2, show ¬ j < k + 1 by omega]
            · rw [heap_setCell_other _ _ _ _ (by simp)]
              exact HO.out
          case measure => simp [intOf]; omega
    · have e : k = 256 := by omega
      subst e
      obtain ⟨cs, hg, hs, hc⟩ := hrow
      have htab : IsTab cs (tabF p) := ⟨hs, fun i hi => by rw [hc i hi]; simp [hi], tab_small p hp⟩
      clear hc
      go_wp2_with (first | refine wpList_load_row rfl 24 _ rfl (w.heap.size + 1) rfl 24 cs (0, 0) _ hg Try.underlying24 rfl (by rw [hs]; exact size24) ?_ | refine wpList_store_row rfl 24 _ _ rfl w.heap.size cs rfl rfl 24 zs24 hold (by rw [hs]; exact size24) (by rw [hs]; exact zs_size) (tab_one htab) ?_)
      exact ret_tab rfl hs rfl (setRow_heap _ _ _ _ _ _ hold) rfl ⟨cs, rfl, htab, below_setRow hbel (Nat.le_refl _) cs⟩
end Go.Proofs.Ytbpdjohbbhblcaa
