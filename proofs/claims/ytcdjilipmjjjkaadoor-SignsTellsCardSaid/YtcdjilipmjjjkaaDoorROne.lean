/-
  What the document's own table and one come to.
-/
import Derived.Test.YtcdjilipmjjjkaaDoorRHex
import Derived.Test.YtcdjilipmjjjkaaDoorRSigns
namespace Go.Proofs.YtcdjilipmjjjkaaDoor
open Go.RowKit Go.Lib
set_option linter.unusedSimpArgs false

theorem lit_natsAt (w : World) (q : List Nat) (t : TypeId) : NumsAt (w.alloc (.cells (natCells q).toArray t)) (some ⟨w.heap.size, 0, none⟩) q := fun _ =>
  ⟨w.heap.size, 0, rfl, by simp, fun i hi => by
    rw [List.length_map] at hi
    rw [cell_of_row _ w.heap.size (0 + i) _ t (0, 0) (heap_alloc_new w _), Nat.zero_add]
    simp [natCells, hi]⟩
def tabStr : ByteArray := ⟨tabT.toArray⟩
def TabAt (w : World) (e : Ending) (w' : World) : Prop := e = .returned (.tuple #[.slice (some ⟨w.heap.size, 0, none⟩) 43 43, .string tabStr]) ∧ NumsAt w' (some ⟨w.heap.size, 0, none⟩) tabS ∧ Grow w w'
set_option maxRecDepth 10000 in
theorem rtable_any (w : World) : Calls Tryd.prog 28 #[] w (TabAt w) := by
  go_enter Tryd.func28, Tryd.ntmps28
  go_wp2
  go_ret2
  exact ⟨rfl, lit_natsAt w tabS 3, grow_new _ _⟩

theorem NumsAt.grow {w w' : World} {A : Option Addr} {q : List Nat} (h : NumsAt w A q) (hg : Grow w w') : NumsAt w' A q := Nums.grow h hg
theorem NumsAt.cell {w : World} {b : Nat} {q : List Nat} (h : NumsAt w (some ⟨b, 0, none⟩) q) {i : Nat} (hi : i < q.length) : w.cell? ⟨b, i, none⟩ = some (.int .i64 ((q.getD i 0 : Nat) : Int)) := by
  obtain ⟨b', off, e, _, hc⟩ := h (by rw [List.length_map]; omega)
  cases e
  have := hc i (by rw [List.length_map]; exact hi)
  rw [Nat.zero_add] at this
  rw [this]
  simp [hi]
theorem tabT_at : ∀ k : Fin 43, (tabT.take (k.val + 1)).drop k.val = [tabT.getD k 0] := by decide
theorem slice_tab {k : Nat} (hk : k < 43) (W : World) : (Instr.slice 9 (.string tabStr) (some (.int .i64 (k : Nat))) (some (.int .i64 ((k : Int) + 1))) none).run Tryd.prog W = .ok (.string ⟨#[tabT.getD k 0]⟩) W := by
  have h := slice_two tabT k (k + 1) (by omega) (by rw [tab_len.2]; omega) W
  rw [tabT_at ⟨k, hk⟩] at h
  exact h

set_option maxRecDepth 10000 in
set_option maxHeartbeats 1600000 in
theorem rone_any (c : Nat) (w : World) (hc : c ≤ 1114111) : Calls Tryd.prog 17 #[.int .i64 (c : Nat)] w (Str (oneD c) w) := by
  by_cases h64 : c = 64
  · subst h64
    go_enter Tryd.func17, Tryd.ntmps17
    go_wp2
    go_ret
    exact ⟨rfl, Grow.refl _⟩
  have h64b : (((c : Nat) : Int) == 64) = false := by rw [beq_eq_false_iff_ne]; omega
  by_cases hp : 32 ≤ c ∧ c ≤ 126
  · have HE := Lib.hid (oneD_plain h64 hp)
    have p1 : 32 ≤ ((c : Nat) : Int) := by omega
    have p2 : ((c : Nat) : Int) ≤ 126 := by omega
    obtain ⟨x, hx⟩ : ∃ x, UInt8.ofNat c = x := ⟨_, rfl⟩
    rw [hx] at HE
    have vx : IntKind.u8.wrap ((c : Nat) : Int) = ((x.toNat : Nat) : Int) := by rw [← hx, u8_nat (by omega), IntKind.wrap_u8]; omega
    have hcv := conv_lit w [x] _ 1 rfl rfl
    simp only [byteCells, List.map_cons, List.map_nil] at hcv
    clear h64 hp hx hc
    go_enter Tryd.func17, Tryd.ntmps17
    go_wp2
    go_ret
    exact ⟨by rw [HE.out]; rfl, grow_new _ _⟩
  have HTB : Hid (∀ t, stands c = some t → oneD c = [64, t]) := Lib.hid (fun t h => oneD_tab hp h)
  have HNM : Hid (stands c = none → oneD c = 64 :: 123 :: (hexD c ++ [125])) := Lib.hid (fun h => oneD_num hp h)
  have hl6 := (hex_len (k := 6) (n := c) (by omega) (by omega)).1
  have HX := Lib.hid (fun W => rhex_any c (by omega) W)
  have HA : Hid ((⟨#[64, 123]⟩ : ByteArray) ++ ⟨(hexD c).toArray⟩ ++ ⟨#[125]⟩ = ⟨(64 :: 123 :: (hexD c ++ [125])).toArray⟩) := Lib.hid (by
    have h1 := str_app [64, 123] (hexD c)
    have h2 := str_app ([64, 123] ++ hexD c) [125]
    rw [← h1] at h2
    exact h2)
  have hlen1 : ¬ 9223372036854775807 < 2 + (hexD c).length := by omega
  have hlen2 : ¬ 9223372036854775807 < 2 + (hexD c).length + 1 := by omega
  clear hc h64
  by_cases p0 : 32 ≤ c
  · have p1 : 32 ≤ ((c : Nat) : Int) := by omega
    have p2 : ¬ ((c : Nat) : Int) ≤ 126 := by omega
    clear hp p0
    go_enter Tryd.func17, Tryd.ntmps17
    go_wp2_with fail
    refine (rtable_any w).mono ?_
    rintro e w1 ⟨rfl, hn, hg⟩
    have HN := Lib.hid hn
    have HG := Lib.hid hg
    clear hn hg
    go_wp2
    go_loopg [5] 43 (fun g s5 wr => ∃ k : Nat, k ≤ 43 ∧ g = 43 - k ∧ s5 = .int .i64 k ∧ Hid (stands c = standsF (tabS.drop k) (tabT.drop k) c) ∧ w1 = wr)
    case atStart => exact ⟨0, by omega, rfl, rfl, Lib.hid rfl, rfl⟩
    case round =>
      obtain ⟨k, hk, rfl, rfl, HS, rfl⟩ := hrel
      by_cases hlt : k < 43
      · have hcell := HN.out.cell (i := k) (by rw [tab_len.1]; exact hlt)
        have hsl := fun W => slice_tab hlt W
        have hwk : IntKind.i64.wrap (((k : Nat) : Int) + 1) = ((k : Nat) : Int) + 1 := by rw [IntKind.wrap_i64]; omega
        by_cases he : tabS.getD k 0 = c
        · have HR := Lib.hid (HTB.out (tabT.getD k 0) (by rw [HS.out, stands_drop hlt, if_pos he]))
          rw [he] at hcell
          obtain ⟨t, ht⟩ : ∃ t, tabT.getD k 0 = t := ⟨_, rfl⟩
          rw [ht] at HR hsl
          clear he ht
          go_wp2
          go_ret
          exact ⟨by rw [HR.out]; exact congrArg (fun s => Ending.returned (Value.string s)) (str_app [64] [t]), HG.out⟩
        · have hne : (((tabS.getD k 0 : Nat) : Int) == ((c : Nat) : Int)) = false := by simp only [beq_eq_false_iff_ne, ne_eq, Int.natCast_inj]; exact he
          have HR : Hid (stands c = standsF (tabS.drop (k + 1)) (tabT.drop (k + 1)) c) := Lib.hid (by rw [HS.out, stands_drop hlt, if_neg he])
          obtain ⟨t, ht⟩ : ∃ t, tabS.getD k 0 = t := ⟨_, rfl⟩
          rw [ht] at hcell hne
          clear he ht HS hsl
          go_wp2
          go_roundg (43 - (k + 1))
          case rel => exact ⟨k + 1, by omega, rfl, by go_num, HR, rfl⟩
          case measure => omega
      · obtain rfl : k = 43 := by omega
        have HR := Lib.hid (HNM.out (by rw [HS.out]; rfl))
        clear HS
        go_wp2_with fail
        refine (HX.out w1).mono ?_
        rintro e w2 ⟨rfl, hg⟩
        have HG2 := Lib.hid (HG.out.trans hg)
        clear hg HX
        go_wp2
        go_ret
        exact ⟨by rw [HR.out]; exact congrArg (fun s => Ending.returned (Value.string s)) HA.out, HG2.out⟩
  · have p1 : ¬ 32 ≤ ((c : Nat) : Int) := by omega
    clear hp p0
    go_enter Tryd.func17, Tryd.ntmps17
    go_wp2_with fail
    refine (rtable_any w).mono ?_
    rintro e w1 ⟨rfl, hn, hg⟩
    have HN := Lib.hid hn
    have HG := Lib.hid hg
    clear hn hg
    go_wp2
    go_loopg [5] 43 (fun g s5 wr => ∃ k : Nat, k ≤ 43 ∧ g = 43 - k ∧ s5 = .int .i64 k ∧ Hid (stands c = standsF (tabS.drop k) (tabT.drop k) c) ∧ w1 = wr)
    case atStart => exact ⟨0, by omega, rfl, rfl, Lib.hid rfl, rfl⟩
    case round =>
      obtain ⟨k, hk, rfl, rfl, HS, rfl⟩ := hrel
      by_cases hlt : k < 43
      · have hcell := HN.out.cell (i := k) (by rw [tab_len.1]; exact hlt)
        have hsl := fun W => slice_tab hlt W
        have hwk : IntKind.i64.wrap (((k : Nat) : Int) + 1) = ((k : Nat) : Int) + 1 := by rw [IntKind.wrap_i64]; omega
        by_cases he : tabS.getD k 0 = c
        · have HR := Lib.hid (HTB.out (tabT.getD k 0) (by rw [HS.out, stands_drop hlt, if_pos he]))
          rw [he] at hcell
          obtain ⟨t, ht⟩ : ∃ t, tabT.getD k 0 = t := ⟨_, rfl⟩
          rw [ht] at HR hsl
          clear he ht
          go_wp2
          go_ret
          exact ⟨by rw [HR.out]; exact congrArg (fun s => Ending.returned (Value.string s)) (str_app [64] [t]), HG.out⟩
        · have hne : (((tabS.getD k 0 : Nat) : Int) == ((c : Nat) : Int)) = false := by simp only [beq_eq_false_iff_ne, ne_eq, Int.natCast_inj]; exact he
          have HR : Hid (stands c = standsF (tabS.drop (k + 1)) (tabT.drop (k + 1)) c) := Lib.hid (by rw [HS.out, stands_drop hlt, if_neg he])
          obtain ⟨t, ht⟩ : ∃ t, tabS.getD k 0 = t := ⟨_, rfl⟩
          rw [ht] at hcell hne
          clear he ht HS hsl
          go_wp2
          go_roundg (43 - (k + 1))
          case rel => exact ⟨k + 1, by omega, rfl, by go_num, HR, rfl⟩
          case measure => omega
      · obtain rfl : k = 43 := by omega
        have HR := Lib.hid (HNM.out (by rw [HS.out]; rfl))
        clear HS
        go_wp2_with fail
        refine (HX.out w1).mono ?_
        rintro e w2 ⟨rfl, hg⟩
        have HG2 := Lib.hid (HG.out.trans hg)
        clear hg HX
        go_wp2
        go_ret
        exact ⟨by rw [HR.out]; exact congrArg (fun s => Ending.returned (Value.string s)) HA.out, HG2.out⟩
end Go.Proofs.YtcdjilipmjjjkaaDoor
