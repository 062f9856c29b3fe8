/-
  The law CrcTables, walked: it answers true, called with any polynomial, and turns nothing that was there.
-/
import Derived.Test.YtbpdjohbbhblcaaSmall
import Derived.ChangeKeysEq
import Derived.Laws.StructEq
namespace Go.Proofs.Ytbpdjohbbhblcaa
open Go.RowKit

theorem tab_ext {a b : Array Value} {T : Nat → Nat} (ha : IsTab a T) (hb : IsTab b T) : a = b := by
  apply Array.ext
  · rw [ha.1, hb.1]
  · intro i h1 h2
    have hi : i < 256 := by rw [← ha.1]; exact h1
    have e1 := ha.2.1 i hi
    have e2 := hb.2.1 i hi
    rw [Array.getElem?_eq_getElem h1] at e1
    rw [Array.getElem?_eq_getElem h2] at e2
    exact (Option.some.inj e1).trans (Option.some.inj e2).symm

theorem plain22 : Try.prog.plainKey 22 = true := by kernel_rfl
theorem cells22 : Try.prog.cellsOf 22 = 1 := by kernel_rfl
theorem info22 : (Try.prog.info? 22).map (fun i => (i.zero, i.size, i.bytes)) = some (some (.int .u32 0), 1, 4) := by kernel_rfl

theorem items_same {cs : Array Value} {T : Nat → Nat} (hT : IsTab cs T) (w : World) (d : Nat) : ∀ is : List Nat, (∀ i ∈ is, i < 256) → (Op.eqItems (d + 1) 22 1 cs cs is).run Try.prog w = .ok true w
  | [], _ => by simp [Op.eqItems]
  | i :: is, h => by
    have hx := hT.2.1 i (h i (by simp))
    have hp : (part 22 cs (i * 1)).run Try.prog w = .ok (.int .u32 (T i : Nat)) w := run_part_plain w plain22 (by rw [Nat.mul_one]; exact hx)
    have he : (Op.equalIn (d + 1) 22 (.int .u32 (T i : Nat)) (.int .u32 (T i : Nat))).run Try.prog w = .ok true w := by
      rw [run_equalIn_int w d 22 .u32 .u32 _ _ Try.underlying22]
      simp
    have ih := items_same hT w d is (fun j hj => h j (by simp [hj]))
    simp only [Op.eqItems, Sem.run_bind, hp, he, Result.andThen_ok, Bool.not_true, Bool.false_eq_true, if_false]
    exact ih

theorem tab_eq {a b : Array Value} {T : Nat → Nat} (ha : IsTab a T) (hb : IsTab b T) (w : World) : (Op.equalIn 10000 24 (.agg a) (.agg b)).run Try.prog w = .ok true w := by
  rw [tab_ext ha hb]
  obtain ⟨i, hi, _⟩ := info_parts info22
  rw [run_equalIn_array w 9999 b b Try.underlying24 hi, cells22]
  exact items_same hb w 9998 _ (fun i hi => List.mem_range.1 hi)

set_option maxRecDepth 10000 in
set_option maxHeartbeats 400000 in
theorem tables_walk (p : Nat) (w : World) (hp : p < 4294967296) : Calls Try.prog 3 #[.int .u32 p] w (Fine w) := by
  go_enter Try.func3, Try.ntmps3
  go_wp2_with fail
  refine (small_any w).mono ?_
  rintro e w1 ⟨rfl, hb1⟩
  go_wp2_with fail
  refine (table_any p w1 hp).mono ?_
  rintro e w2 ⟨a, rfl, ha, hb2⟩
  go_wp2_with fail
  refine (rtable_any p w2 hp).mono ?_
  rintro e w3 ⟨b, rfl, hb, hb3⟩
  have heq := tab_eq ha hb w3
  have hgd : Try.prog.eqGuardType Try.prog.depth 24 = false := by kernel_rfl
  clear ha hb
  go_wp2
  go_ret
  exact ⟨rfl, Grow.trans (Grow.trans hb1 hb2) hb3⟩
end Go.Proofs.Ytbpdjohbbhblcaa
