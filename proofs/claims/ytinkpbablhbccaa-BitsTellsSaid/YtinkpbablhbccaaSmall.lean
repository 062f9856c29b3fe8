/-
  What the small case of the statements comes to: it answers true and turns nothing that was there.
-/
import Derived.Test.YtinkpbablhbccaaSame
import Derived.Laws.BytesArg
namespace Go.Proofs.Ytinkpbablhbccaa
open Go.RowKit

theorem conv_any {k : TypeId} {w : World} {B : Nat} {A : Option Addr} {xs : List Int} (cap : Nat) (h : Nums .u8 w B A xs) (hk : k = 23) :
    (convert k 9 (.slice A xs.length cap)).run Try.prog w = .ok (.string (strOfNums xs)) w := by
  subst hk
  by_cases h0 : 0 < xs.length
  · obtain ⟨b, off, rfl, _, hc⟩ := h h0
    exact run_convert_bytes_arg w 23 5 Try.underlying23 Try.underlying5 b off xs.length cap xs rfl hc 9 Try.underlying9
  · have e : xs = [] := List.eq_nil_of_length_eq_zero (by omega)
    subst e
    rcases A with _ | a
    · exact run_convert_bytes_nil w 23 5 Try.underlying23 Try.underlying5 0 cap 9 Try.underlying9
    · rw [run_convert_bytes_string w 23 9 5 _ _ _ Try.underlying23 Try.underlying5 Try.underlying9]
      exact run_bytesToString w a 0 cap [] (by simpa using run_loadCells_list (P := Try.prog) w a [] (fun j v hj => by simp at hj))

def Fine (w : World) (e : Ending) (w' : World) : Prop := e = .returned (.bool true) ∧ Below w.heap.size w w'

theorem lit_row (w : World) (k : IntKind) (t : TypeId) (xs : List Int) : (w.alloc (.cells (xs.map (Value.int k)).toArray t)).rowIs w.heap.size t xs.length fun i => .int k (xs.getD i 0) := by
  have h := World.rowIs_alloc w (xs.map (Value.int k)).toArray t (fun i => .int k (xs.getD i 0)) (fun i hi => by
    have hi' : i < xs.length := by simpa using hi
    simp [hi'])
  simpa using h
theorem lit_nums (w : World) (k : IntKind) (t : TypeId) (xs : List Int) : Nums k (w.alloc (.cells (xs.map (Value.int k)).toArray t)) (w.alloc (.cells (xs.map (Value.int k)).toArray t)).heap.size (some ⟨w.heap.size, 0, none⟩) xs :=
  Nums.of_row (lit_row w k t xs)

def S1 (w : World) (e : Ending) (w' : World) : Prop :=
  ∃ g, g < w'.heap.size ∧ e = .returned (.tuple #[.slice (some ⟨g, 0, none⟩) 9 9, .bool true]) ∧ w'.rowIs g 3 9 (fun i => .int .i64 (upb [5, 1] i)) ∧ Below w.heap.size w w'
def S2 (w : World) (e : Ending) (w' : World) : Prop := e = .returned (.tuple #[.slice none 0 0, .bool false]) ∧ Below w.heap.size w w'
def S5 (w : World) (e : Ending) (w' : World) : Prop :=
  ∃ g, e = .returned (.slice (some ⟨g, 0, none⟩) 1 1) ∧ (convert 23 9 (.slice (some ⟨g, 0, none⟩) 1 1)).run Try.prog w' = .ok (.string ⟨#[5]⟩) w' ∧ Below w.heap.size w w'
def S6 (w : World) (e : Ending) (w' : World) : Prop := e = .returned (.bool true) ∧ Below w.heap.size w w'

theorem small1 (w : World) : Calls Try.prog 9 #[.slice (some ⟨w.heap.size, 0, none⟩) 2 2, .int .i64 9] (w.alloc (.cells #[.int .u8 5, .int .u8 1] 5)) (S1 w) := by
  have h := unpack_yes (some ⟨w.heap.size, 0, none⟩) 2 [5, 1] 9 (w.alloc (.cells #[.int .u8 5, .int .u8 1] 5)) (by decide) (by decide) (lit_nums w .u8 5 [5, 1]) (by decide)
    (fun i => by
      match i with
      | 0 => decide
      | 1 => decide
      | n + 2 => simp)
  refine h.mono ?_
  rintro e w' ⟨rfl, hrow, hb, hs⟩
  exact ⟨_, by rw [hs]; omega, rfl, hrow, ((Below.refl _ _).alloc (Nat.le_refl _) _).trans (hb.mono (by simp))⟩
theorem small2 (w : World) : Calls Try.prog 9 #[.slice (some ⟨w.heap.size, 0, none⟩) 1 1, .int .i64 3] (w.alloc (.cells #[.int .u8 8] 5)) (S2 w) := by
  refine (unpack_behind (some ⟨w.heap.size, 0, none⟩) 1 [8] 3 (w.alloc (.cells #[.int .u8 8] 5)) (by decide) (by decide) (lit_nums w .u8 5 [8]) (by decide)).mono ?_
  rintro e w' ⟨rfl, rfl⟩
  exact ⟨rfl, (Below.refl _ _).alloc (Nat.le_refl _) _⟩
theorem small3 (w : World) : Calls Try.prog 9 #[.slice (some ⟨w.heap.size, 0, none⟩) 1 1, .int .i64 9] (w.alloc (.cells #[.int .u8 1] 5)) (S2 w) := by
  refine (unpack_len (some ⟨w.heap.size, 0, none⟩) 1 1 9 (w.alloc (.cells #[.int .u8 1] 5)) (by decide) (by decide) (by decide)).mono ?_
  rintro e w' ⟨rfl, rfl⟩
  exact ⟨rfl, (Below.refl _ _).alloc (Nat.le_refl _) _⟩
theorem small4 (w : World) : Calls Try.prog 9 #[.slice none 0 0, .int .i64 (-1)] w (S2 w) := by
  refine (unpack_neg none 0 0 (-1) w (by decide)).mono ?_
  rintro e w' ⟨rfl, rfl⟩
  exact ⟨rfl, Below.refl _ _⟩
theorem small5 (w : World) : Calls Try.prog 13 #[.slice (some ⟨w.heap.size, 0, none⟩) 3 3] (w.alloc (.cells #[.int .i64 1, .int .i64 0, .int .i64 (-7)] 3)) (S5 w) := by
  refine (pack_any (some ⟨w.heap.size, 0, none⟩) 3 [1, 0, -7] (w.alloc (.cells #[.int .i64 1, .int .i64 0, .int .i64 (-7)] 3)) (by decide) (lit_nums w .i64 3 [1, 0, -7])).mono ?_
  rintro e w' ⟨rfl, hrow, hb, hs⟩
  refine ⟨_, rfl, ?_, ((Below.refl _ _).alloc (Nat.le_refl _) _).trans (hb.mono (by simp))⟩
  have hrow' : w'.rowIs _ 5 [(5 : Int)].length fun i => .int .u8 ([(5 : Int)].getD i 0) := hrow.congr fun i hi => by
    have : i = 0 := by have : bytesN ([1, 0, -7] : List Int).length = 1 := by decide
                       omega
    subst this
    have : pkb [1, 0, -7] ([1, 0, -7] : List Int).length 0 = 5 := by decide
    rw [this]
    rfl
  exact conv_any 1 (Nums.of_row hrow') rfl
theorem small6 (w : World) (g : Nat) (h : w.rowIs g 3 9 (fun i => .int .i64 (upb [5, 1] i))) : Calls Try.prog 15 #[.slice (some ⟨g, 0, none⟩) 9 9, .slice (some ⟨w.heap.size, 0, none⟩) 9 9]
    (w.alloc (.cells #[.int .i64 1, .int .i64 0, .int .i64 1, .int .i64 0, .int .i64 0, .int .i64 0, .int .i64 0, .int .i64 0, .int .i64 1] 3)) (S6 w) := by
  have h1 : w.rowIs g 3 ([1, 0, 1, 0, 0, 0, 0, 0, 1] : List Int).length fun i => .int .i64 (([1, 0, 1, 0, 0, 0, 0, 0, 1] : List Int).getD i 0) := h.congr fun i hi => by
    match i, hi with
    | 0, _ => rfl
    | 1, _ => rfl
    | 2, _ => rfl
    | 3, _ => rfl
    | 4, _ => rfl
    | 5, _ => rfl
    | 6, _ => rfl
    | 7, _ => rfl
    | 8, _ => rfl
  refine (same_eq (some ⟨g, 0, none⟩) (some ⟨w.heap.size, 0, none⟩) 9 9 [1, 0, 1, 0, 0, 0, 0, 0, 1] (w.alloc (.cells #[.int .i64 1, .int .i64 0, .int .i64 1, .int .i64 0, .int .i64 0, .int .i64 0, .int .i64 0, .int .i64 0, .int .i64 1] 3)) _ (by decide)
    (Nums.of_row (h1.alloc _)) (lit_nums w .i64 3 [1, 0, 1, 0, 0, 0, 0, 0, 1])).mono ?_
  rintro e w' ⟨rfl, m, rfl⟩
  exact ⟨rfl, below_drewN ((Below.refl _ _).alloc (Nat.le_refl _) _) m⟩

set_option maxHeartbeats 800000 in
theorem small_any (w : World) : Calls Try.prog 8 #[] w (Fine w) := by
  have hb0 : bytesI 0 = 0 := by decide
  have hb8 : bytesI 8 = 1 := by decide
  have hb9 : bytesI 9 = 2 := by decide
  have hb5 : bytesI (-5) = 0 := by decide
  go_enter Try.func8, Try.ntmps8
  go_wp2_with fail
  refine (small1 w).mono ?_
  rintro e w1 ⟨g, hg1, rfl, hrow, hbel⟩
  have HR1 := Lib.hid hrow
  clear hrow
  go_wp2_with fail
  refine (small2 w1).mono ?_
  rintro e w2 ⟨rfl, hbel2⟩
  go_wp2_with fail
  refine (small3 w2).mono ?_
  rintro e w3 ⟨rfl, hbel3⟩
  go_wp2_with fail
  refine (small4 w3).mono ?_
  rintro e w4 ⟨rfl, hbel4⟩
  go_wp2_with (go_at_call 11; refine (bytes_any _ _ (by omega) (by omega)).mono ?_; rintro e w' ⟨rfl, rfl⟩)
  refine (small5 w4).mono ?_
  rintro e w5 ⟨g5, rfl, hcv, hbel5⟩
  go_wp2_with fail
  refine (small6 w5 g ?_).mono ?_
  · exact rowIs_below (rowIs_below (rowIs_below (rowIs_below HR1.out hbel2 hg1) hbel3 (Nat.lt_of_lt_of_le hg1 hbel2.size)) hbel4 (Nat.lt_of_lt_of_le hg1 (Nat.le_trans hbel2.size hbel3.size)))
      hbel5 (Nat.lt_of_lt_of_le hg1 (Nat.le_trans hbel2.size (Nat.le_trans hbel3.size hbel4.size)))
  rintro e w6 ⟨rfl, hbel6⟩
  go_wp2
  go_ret
  have z1 := hbel.size
  have z2 := hbel2.size
  have z3 := hbel3.size
  have z4 := hbel4.size
  have z5 := hbel5.size
  exact ⟨rfl, ((((hbel.trans (hbel2.mono (by omega))).trans (hbel3.mono (by omega))).trans (hbel4.mono (by omega))).trans (hbel5.mono (by omega))).trans (hbel6.mono (by omega))⟩
end Go.Proofs.Ytinkpbablhbccaa
