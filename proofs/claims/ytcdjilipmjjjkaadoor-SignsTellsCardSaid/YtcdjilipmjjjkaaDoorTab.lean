/-
  What signs.plainOf and signs.signOf come to, called with anything.
-/
import Derived.Test.YtcdjilipmjjjkaaDoorProg
import Derived.Test.YtcdjilipmjjjkaaDoorUnesc
import Derived.Test.YtcdjilipmjjjkaaDoorBox
import Derived.WalkKit
import Derived.ProofKit
import Derived.Lib.Hide
import Derived.Deep.LoopGhost
namespace Go.Proofs.YtcdjilipmjjjkaaDoor
open Go.RowKit

/-- the table of signs stands -/
def SignTab (w : World) : Prop := ∃ cs t fz, w.heap[0]? = some (.cells cs t fz) ∧ cs.size = 86 ∧ ∀ i, i < 43 → cs[2 * i]? = some (.int .i32 (tabS.getD i 0 : Nat)) ∧ cs[2 * i + 1]? = some (.int .i32 ((tabT.getD i 0).toNat : Nat))
/-- the place of the one bit of sixteen stands -/
def BitTab (w : World) : Prop := w.cell? ⟨7, 15, none⟩ = some (.int .u8 4)
/-- what the walks ask of the variables -/
structure Laid (w : World) : Prop where
  tab : SignTab w
  bit : w.heap[7]?.isSome = true ∧ BitTab w

theorem heap_lt {w : World} {g : Nat} {o : Obj} (h : w.heap[g]? = some o) : g < w.heap.size := (Array.getElem?_eq_some_iff.1 h).1
theorem Laid.grow {w w' : World} (h : Laid w) (hg : Grow w w') : Laid w' := by
  obtain ⟨⟨cs, t, fz, h1, h2⟩, h3, h4⟩ := h
  refine ⟨⟨cs, t, fz, (hg.block 0 (heap_lt h1)).trans h1, h2⟩, ?_, ?_⟩
  · cases h5 : w.heap[7]? with
    | none => rw [h5] at h3; cases h3
    | some o => rw [hg.block 7 (heap_lt h5), h5]; rfl
  · cases h5 : w.heap[7]? with
    | none => rw [h5] at h3; cases h3
    | some o => exact (hg.cell (p := ⟨7, 15, none⟩) (heap_lt h5)).trans h4

theorem index_tab {cs : Array Value} {i : Nat} {a b : Value} (hi : i < 43) (h1 : cs[2 * i]? = some a) (h2 : cs[2 * i + 1]? = some b) (W : World) :
    (Instr.index 48 (.agg cs) (.int .i64 (i : Nat))).run Tryd.prog W = .ok (.agg #[a, b]) W := by
  have hs : cs.extract (i * 2) (i * 2 + 2) = #[a, b] := by
    apply Array.ext'
    have l1 := (Array.getElem?_eq_some_iff.1 h1).1
    have l2 := (Array.getElem?_eq_some_iff.1 h2).1
    apply List.ext_getElem?
    intro k
    rw [Array.getElem?_toList, Array.getElem?_extract]
    rcases k with _ | _ | k
    · rw [if_pos (by omega), Nat.add_zero, Nat.mul_comm, h1]; rfl
    · rw [if_pos (by omega), Nat.mul_comm, Nat.zero_add, h2]; rfl
    · rw [if_neg (by omega)]; rfl
  have hz : (sizeOf 47).run Tryd.prog W = .ok 2 W := by
    have : (Tryd.prog.info? 47).map (·.size) = some 2 := by kernel_rfl
    obtain ⟨i, hi, hs⟩ := Option.map_eq_some_iff.1 this
    simp [sizeOf, typeInfo, hi, hs]
  have hag : (isAgg 47).run Tryd.prog W = .ok true W := by
    simp [isAgg, run_underlying Tryd.underlying47]
  simp only [Instr.index, asIntOf, Sem.run_bind, Sem.run_pure, Result.andThen_ok, run_underlying Tryd.underlying48]
  simp only [part]
  rw [if_pos ⟨by omega, by omega⟩]
  simp only [Sem.run_bind, Sem.run_pure, Result.andThen_ok, hz, hag, if_true, Int.toNat_natCast, hs]

theorem stands_drop {k : Nat} (hk : k < 43) (c : Nat) : standsF (tabS.drop k) (tabT.drop k) c = if tabS.getD k 0 = c then some (tabT.getD k 0) else standsF (tabS.drop (k + 1)) (tabT.drop (k + 1)) c := by
  have l1 : k < tabS.length := by rw [tab_len.1]; exact hk
  have l2 : k < tabT.length := by rw [tab_len.2]; exact hk
  rw [List.drop_eq_getElem_cons l1, List.drop_eq_getElem_cons l2, standsF]
  simp [l1, l2]
theorem meant_drop {k : Nat} (hk : k < 43) (x : UInt8) : meantF (tabS.drop k) (tabT.drop k) x = if tabT.getD k 0 = x then some (tabS.getD k 0) else meantF (tabS.drop (k + 1)) (tabT.drop (k + 1)) x := by
  have l1 : k < tabS.length := by rw [tab_len.1]; exact hk
  have l2 : k < tabT.length := by rw [tab_len.2]; exact hk
  rw [List.drop_eq_getElem_cons l1, List.drop_eq_getElem_cons l2, meantF]
  simp [l1, l2]
theorem stands_end (c : Nat) : standsF (tabS.drop 43) (tabT.drop 43) c = none := rfl
theorem meant_end (x : UInt8) : meantF (tabS.drop 43) (tabT.drop 43) x = none := rfl
theorem size48 : (Tryd.prog.info? 48).map (·.size) = some 86 := by kernel_rfl

def PlainOf (c : Nat) (w : World) (e : Ending) (w' : World) : Prop := e = .returned (.tuple #[.int .i32 (((stands c).getD 0).toNat : Nat), .bool (stands c).isSome]) ∧ Grow w w'
def SignOf (x : UInt8) (w : World) (e : Ending) (w' : World) : Prop := e = .returned (.tuple #[.int .i32 ((meant x).getD 0 : Nat), .bool (meant x).isSome]) ∧ Grow w w'

set_option maxRecDepth 10000 in
set_option maxHeartbeats 800000 in
theorem plainof_any (c : Nat) (w : World) (hL : Laid w) : Calls Tryd.prog 24 #[.int .i32 c] w (PlainOf c w) := by
  obtain ⟨cs, t, fz, hg, hs, hcs⟩ := hL.tab
  have HC := Lib.hid hcs
  clear hcs hL
  go_enter Tryd.func24, Tryd.ntmps24
  go_wp2_with (refine wpList_load_row rfl 48 _ rfl 0 rfl t cs fz _ hg Tryd.underlying48 rfl (by rw [hs]; exact size48) ?_)
  go_loopg [7] 43 (fun g s7 wr => ∃ k : Nat, k ≤ 43 ∧ g = 43 - k ∧ s7 = .int .i64 k ∧ stands c = standsF (tabS.drop k) (tabT.drop k) c ∧ Grow w wr)
  case atStart => exact ⟨0, by omega, rfl, rfl, rfl, Grow.refl _⟩
  case round =>
    obtain ⟨k, hk, rfl, rfl, hst, hgr⟩ := hrel
    have HG := Lib.hid hgr
    have HS := Lib.hid hst
    clear hgr hst
    by_cases hlt : k < 43
    · have hidx := index_tab hlt (HC.out k hlt).1 (HC.out k hlt).2
      by_cases he : tabS.getD k 0 = c
      · have HR : Hid (stands c = some (tabT.getD k 0)) := Lib.hid (by rw [HS.out, stands_drop hlt, if_pos he])
        obtain ⟨sk, hsk⟩ : ∃ sk, tabS.getD k 0 = sk := ⟨_, rfl⟩
        rw [hsk] at hidx he
        subst he
        go_wp2
        go_ret2
        refine ⟨by rw [HR.out]; rfl, ?_⟩
        exact HG.out.trans (grow_new _ _)
      · have hne : (((tabS.getD k 0 : Nat) : Int) == (c : Int)) = false := by simp only [beq_eq_false_iff_ne, ne_eq, Int.natCast_inj]; exact he
        have HR : Hid (stands c = standsF (tabS.drop (k + 1)) (tabT.drop (k + 1)) c) := Lib.hid (by rw [HS.out, stands_drop hlt, if_neg he])
        obtain ⟨sk, hsk⟩ : ∃ sk, tabS.getD k 0 = sk := ⟨_, rfl⟩
        rw [hsk] at hidx hne
        clear he
        go_wp2
        go_roundg (43 - (k + 1))
        case rel => exact ⟨k + 1, by omega, rfl, by go_num, HR.out, HG.out.trans (grow_new _ _)⟩
        case measure => omega
    · obtain rfl : k = 43 := by omega
      have HR : Hid (stands c = none) := Lib.hid (by rw [HS.out]; rfl)
      go_wp2
      go_ret2
      exact ⟨by rw [HR.out]; rfl, HG.out⟩

set_option maxRecDepth 10000 in
set_option maxHeartbeats 800000 in
theorem signof_any (x : UInt8) (w : World) (hL : Laid w) : Calls Tryd.prog 31 #[.int .i32 (x.toNat : Nat)] w (SignOf x w) := by
  obtain ⟨cs, t, fz, hg, hs, hcs⟩ := hL.tab
  have HC := Lib.hid hcs
  clear hcs hL
  go_enter Tryd.func31, Tryd.ntmps31
  go_wp2_with (refine wpList_load_row rfl 48 _ rfl 0 rfl t cs fz _ hg Tryd.underlying48 rfl (by rw [hs]; exact size48) ?_)
  go_loopg [7] 43 (fun g s7 wr => ∃ k : Nat, k ≤ 43 ∧ g = 43 - k ∧ s7 = .int .i64 k ∧ meant x = meantF (tabS.drop k) (tabT.drop k) x ∧ Grow w wr)
  case atStart => exact ⟨0, by omega, rfl, rfl, rfl, Grow.refl _⟩
  case round =>
    obtain ⟨k, hk, rfl, rfl, hst, hgr⟩ := hrel
    have HG := Lib.hid hgr
    have HS := Lib.hid hst
    clear hgr hst
    by_cases hlt : k < 43
    · have hidx := index_tab hlt (HC.out k hlt).1 (HC.out k hlt).2
      by_cases he : tabT.getD k 0 = x
      · have HR : Hid (meant x = some (tabS.getD k 0)) := Lib.hid (by rw [HS.out, meant_drop hlt, if_pos he])
        obtain ⟨sk, hsk⟩ : ∃ sk, tabT.getD k 0 = sk := ⟨_, rfl⟩
        rw [hsk] at hidx he
        subst he
        go_wp2
        go_ret2
        refine ⟨by rw [HR.out]; rfl, ?_⟩
        exact HG.out.trans (grow_new _ _)
      · have hne : ((((tabT.getD k 0).toNat : Nat) : Int) == ((x.toNat : Nat) : Int)) = false := by simp only [beq_eq_false_iff_ne, ne_eq, Int.natCast_inj, UInt8.toNat_inj]; exact he
        have HR : Hid (meant x = meantF (tabS.drop (k + 1)) (tabT.drop (k + 1)) x) := Lib.hid (by rw [HS.out, meant_drop hlt, if_neg he])
        obtain ⟨sk, hsk⟩ : ∃ sk, tabT.getD k 0 = sk := ⟨_, rfl⟩
        rw [hsk] at hidx hne
        clear he
        go_wp2
        go_roundg (43 - (k + 1))
        case rel => exact ⟨k + 1, by omega, rfl, by go_num, HR.out, HG.out.trans (grow_new _ _)⟩
        case measure => omega
    · obtain rfl : k = 43 := by omega
      have HR : Hid (meant x = none) := Lib.hid (by rw [HS.out]; rfl)
      go_wp2
      go_ret2
      exact ⟨by rw [HR.out]; rfl, HG.out⟩
end Go.Proofs.YtcdjilipmjjjkaaDoor
