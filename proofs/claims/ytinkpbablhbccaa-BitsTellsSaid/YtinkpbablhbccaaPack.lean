/-
  What bits.Pack comes to, called with any numbers.
-/
import Derived.Test.YtinkpbablhbccaaWalkA
import Derived.RegionTactic
import Derived.LoopTactic
import Derived.Laws.Shifts
namespace Go.Proofs.Ytinkpbablhbccaa
open Go.RowKit

theorem info5 : (Try.prog.info? 5).map (fun i => (i.zero, i.size, i.bytes)) = some (some (.int .u8 0), 1, 1) := by kernel_rfl
theorem info3 : (Try.prog.info? 3).map (fun i => (i.zero, i.size, i.bytes)) = some (some (.int .i64 0), 1, 8) := by kernel_rfl

theorem pow_mod (r : Nat) (h : r ≤ 7) : (2 : Int) ^ r % 256 = ((2 ^ r : Nat) : Int) := by
  match r, h with
  | 0, _ => rfl
  | 1, _ => rfl
  | 2, _ => rfl
  | 3, _ => rfl
  | 4, _ => rfl
  | 5, _ => rfl
  | 6, _ => rfl
  | 7, _ => rfl

theorem or_step (l : List Int) (k q r : Nat) (hq : (k : Int) / 8 = q) (hr : (k : Int) % 8 = r) (hz : l.getD k 0 ≠ 0) :
    bits .or .u8 (pkb l k q : Int) (2 ^ r % 256) = (pkb l (k + 1) q : Int) := by
  have eq : q = k / 8 := by omega
  have er : r = k % 8 := by omega
  have hr7 : r ≤ 7 := by omega
  have hp : 2 ^ r < 256 := Nat.lt_of_le_of_lt (Nat.pow_le_pow_right (by decide) hr7) (by decide)
  rw [pow_mod r hr7, u8_or_nat _ _ (pkb_lt _ _ _) hp, eq, er, pkb_on l k hz]

theorem pack_step (l : List Int) (k q r : Nat) (wr : World) {g m : Nat} (hq : (k : Int) / 8 = q) (hr : (k : Int) % 8 = r) (hz : l.getD k 0 ≠ 0)
    (h : wr.rowIs g 5 m fun j => .int .u8 (pkb l k j)) :
    (wr.setCell ⟨g, q, none⟩ (.int .u8 (bits .or .u8 (pkb l k q : Int) (2 ^ r % 256)))).rowIs g 5 m fun j => .int .u8 (pkb l (k + 1) j) := by
  rw [or_step l k q r hq hr hz]
  refine (h.set q _).congr fun j _ => ?_
  by_cases e : j = q
  · simp [e]
  · simp only [e, if_false]
    rw [pkb_far l k j (by omega)]

def Packed (l : List Int) (w : World) (e : Ending) (w' : World) : Prop :=
  e = .returned (.slice (some ⟨w.heap.size, 0, none⟩) (bytesN l.length) (bytesN l.length)) ∧
  w'.rowIs w.heap.size 5 (bytesN l.length) (fun j => .int .u8 (pkb l l.length j)) ∧ Below w.heap.size w w' ∧ w'.heap.size = w.heap.size + 1

set_option maxHeartbeats 400000 in
theorem pack_any (A : Option Addr) (cap : Nat) (l : List Int) (w : World) (hl : l.length ≤ 100000) (hr : Nums .i64 w w.heap.size A l) :
    Calls Try.prog 13 #[.slice A l.length cap] w (Packed l w) := by
  have hm : bytesN l.length ≤ 100000 := by unfold bytesN; omega
  have hmk := fun W => run_make_row' (P := Try.prog) 23 5 (.int .u8 0) 1 Try.underlying23 info5 rfl .i64 .i64 (bytesN l.length) (by omega) (by omega) W
  go_enter Try.func13, Try.ntmps13
  go_wp2_with (go_at_call 11; refine (bytes_any _ _ (by omega) (by omega)).mono ?_; rintro e w' ⟨rfl, rfl⟩; rw [bytesI_nat])
  have hrow := World.rowIs_made w (.int .u8 0) (bytesN l.length) 5
  have hrow0 : (w.alloc (.cells (madeCells #[.int .u8 0] (bytesN l.length)) 5)).rowIs w.heap.size 5 (bytesN l.length) (fun j => .int .u8 (pkb l 0 j)) := hrow.congr fun j _ => by simp [pkb_zero]
  clear hrow hmk
  go_loopw [12] (fun i wr => ∃ k : Nat, k ≤ l.length ∧ i = .int .i64 k ∧ wr.rowIs w.heap.size 5 (bytesN l.length) (fun j => .int .u8 (pkb l k j)) ∧ Below w.heap.size w wr ∧ wr.heap.size = w.heap.size + 1)
    (fun i _ => l.length - (intOf i).toNat)
  case atStart => exact ⟨0, Nat.zero_le _, rfl, hrow0, (Below.refl _ _).alloc (Nat.le_refl _) _, by simp⟩
  case round =>
    obtain ⟨k, hk, rfl, hrow, hbel, hsz⟩ := hrel
    clear hrow0
    by_cases hlt : k < l.length
    · obtain ⟨b, off, rfl, hb, hc⟩ := hr (by omega)
      have hcell := (hbel.cell (p := ⟨b, off + k, none⟩) hb).trans (hc k hlt)
      clear hc hr
      by_cases hz : l.getD k 0 = 0
      · have hz' : (l.getD k 0 != 0) = false := by rw [hz]; rfl
        have hnext := hrow.congr (g := fun j => .int .u8 (pkb l (k + 1) j)) fun j _ => by simp only [pkb_off l k j hz]
        clear hrow
        have HN := Lib.hid hnext
        have HS := Lib.hid hsz
        clear hnext hsz hz
        generalize l.getD k 0 = x at *
        go_wp2
        go_roundw
        case rel => exact ⟨k + 1, by omega, by go_num, HN.out, hbel, HS.out⟩
        case measure => simp [intOf]; omega
      · have hz' : (l.getD k 0 != 0) = true := by simpa using hz
        obtain ⟨q, hq⟩ : ∃ q : Nat, (k : Int) / 8 = q := ⟨k / 8, by omega⟩
        obtain ⟨r, hr8⟩ : ∃ r : Nat, (k : Int) % 8 = r := ⟨k % 8, by omega⟩
        have hqm : q < bytesN l.length := by unfold bytesN; omega
        have hr7 : r ≤ 7 := by omega
        have hcq := hrow.cell hqm
        have hfq := hrow.frozen q
        have HQ := Lib.hid hq
        have HR := Lib.hid hr8
        have HZ := Lib.hid hz
        have HC := Lib.hid hrow
        have HS := Lib.hid hsz
        clear hz hrow hsz
        generalize l.getD k 0 = x at hcell hz'
        go_wp2
        go_region
        go_wp2
        go_roundw
        case rel =>
          exact ⟨k + 1, by omega, by go_num, (pack_step l k q r _ HQ.out HR.out HZ.out HC.out).drew, (hbel.setCell (Nat.le_refl _) _).drew, by simpa [World.setCell] using HS.out⟩
        case measure => simp [intOf]; omega
    · go_wp2
      go_ret
      have e : k = l.length := by omega
      subst e
      exact ⟨rfl, hrow, hbel, hsz⟩
end Go.Proofs.Ytinkpbablhbccaa
