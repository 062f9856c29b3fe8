/-
  What the document's own answers of layer 1 come to.
-/
import Derived.Test.YtinkpbablhbccaaParts
import Derived.OwnWalk
namespace Go.Proofs.Ytinkpbablhbccaa
open Go.RowKit
set_option linter.unusedSimpArgs false

set_option maxHeartbeats 400000 in
theorem rbytes_any (n : Int) (w : World) (h0 : -9223372036854775808 ≤ n) (h1 : n ≤ 9223372036854775807) :
    Calls Try.prog 12 #[.int .i64 n] w fun e w' => e = .returned (.int .i64 (bytesI n)) ∧ w = w' := by
  by_cases hn : n ≤ 0
  · have hv : (0 : Int) = bytesI n := by unfold bytesI; split <;> omega
    have HV := Lib.hid hv
    clear hv
    go_enter Try.func12, Try.ntmps12
    go_wp2
    go_ret
    exact ⟨by rw [← HV.out]; rfl, rfl⟩
  · by_cases h8 : n % 8 = 0
    · have hb : (n % 8 == 0) = true := by simp [h8]
      have hv : n / 8 = bytesI n := by unfold bytesI; rw [if_neg (by omega)]; omega
      have HV := Lib.hid hv
      clear h8 hv
      go_enter Try.func12, Try.ntmps12
      go_wp2
      go_ret
      exact ⟨by rw [HV.out]; rfl, rfl⟩
    · have hb : (n % 8 == 0) = false := by simp [h8]
      have hv : n / 8 + 1 = bytesI n := by unfold bytesI; rw [if_neg (by omega)]; omega
      have HV := Lib.hid hv
      clear h8 hv
      go_enter Try.func12, Try.ntmps12
      go_wp2
      go_ret
      exact ⟨by rw [HV.out]; rfl, rfl⟩

theorem pkb_low (l : List Int) (k : Nat) : pkb l k (k / 8) < 2 ^ (k % 8) := by
  apply Nat.lt_pow_two_of_testBit
  intro i hi
  rw [pkb_bit]
  have : ¬ 8 * (k / 8) + i < k := by omega
  simp [this]

theorem add_step (l : List Int) (k q r : Nat) (hq : (k : Int) / 8 = q) (hr : (k : Int) % 8 = r) (hz : l.getD k 0 ≠ 0) :
    ((pkb l k q : Int) + 2 ^ r) % 256 = (pkb l (k + 1) q : Int) := by
  have eq : q = k / 8 := by omega
  have er : r = k % 8 := by omega
  have hlow := pkb_low l k
  have hon := pkb_on l k hz
  have hlt := pkb_lt l (k + 1) (k / 8)
  have hsum : pkb l k (k / 8) ||| 2 ^ (k % 8) = 2 ^ (k % 8) + pkb l k (k / 8) := by
    have := Nat.two_pow_add_eq_or_of_lt hlow 1
    rw [Nat.mul_one] at this
    rw [Nat.or_comm, ← this]
  rw [show ((2 : Int) ^ r) = ((2 ^ r : Nat) : Int) by simp, eq, er]
  rw [hsum] at hon
  rw [hon] at hlt
  rw [hon, ← Int.natCast_add, Int.emod_eq_of_lt (by omega) (by omega)]
  omega

theorem rpack_step (l : List Int) (k q r : Nat) (wr : World) {g m : Nat} (hq : (k : Int) / 8 = q) (hr : (k : Int) % 8 = r) (hz : l.getD k 0 ≠ 0)
    (h : wr.rowIs g 5 m fun j => .int .u8 (pkb l k j)) :
    (wr.setCell ⟨g, q, none⟩ (.int .u8 (((pkb l k q : Int) + 2 ^ r) % 256))).rowIs g 5 m fun j => .int .u8 (pkb l (k + 1) j) := by
  rw [add_step l k q r hq hr hz]
  refine (h.set q _).congr fun j _ => ?_
  by_cases e : j = q
  · simp [e]
  · simp only [e, if_false]
    rw [pkb_far l k j (by omega)]

set_option maxHeartbeats 400000 in
theorem rpack_any (A : Option Addr) (cap : Nat) (l : List Int) (w : World) (hl : l.length ≤ 100000) (hr : Nums .i64 w w.heap.size A l) :
    Calls Try.prog 14 #[.slice A l.length cap] w (Packed l w) := by
  have hm : bytesN l.length ≤ 100000 := by unfold bytesN; omega
  have hmk := fun W => run_make_row' (P := Try.prog) 23 5 (.int .u8 0) 1 Try.underlying23 info5 rfl .i64 .i64 (bytesN l.length) (by omega) (by omega) W
  go_enter Try.func14, Try.ntmps14
  go_wp2_with (go_at_call 12; refine (rbytes_any _ _ (by omega) (by omega)).mono ?_; rintro e w' ⟨rfl, rfl⟩; rw [bytesI_nat])
  have hrow := World.rowIs_made w (.int .u8 0) (bytesN l.length) 5
  have hrow0 : (w.alloc (.cells (madeCells #[.int .u8 0] (bytesN l.length)) 5)).rowIs w.heap.size 5 (bytesN l.length) (fun j => .int .u8 (pkb l 0 j)) := hrow.congr fun j _ => by simp [pkb_zero]
  clear hrow hmk
  go_loopw [4] (fun i wr => ∃ k : Nat, k ≤ l.length ∧ i = .int .i64 k ∧ wr.rowIs w.heap.size 5 (bytesN l.length) (fun j => .int .u8 (pkb l k j)) ∧ Below w.heap.size w wr ∧ wr.heap.size = w.heap.size + 1)
    (fun i _ => l.length - (intOf i).toNat)
  case atStart => exact ⟨0, Nat.zero_le _, rfl, hrow0, (Below.refl _ _).alloc (Nat.le_refl _) _, by simp⟩
  case round =>
    obtain ⟨k, hk, rfl, hrow, hbel, hsz⟩ := hrel
    clear hrow0
    by_cases hlt : k < l.length
    · obtain ⟨b, off, rfl, hb, hc⟩ := hr (by omega)
      have hcell := (hbel.cell (p := ⟨b, off + k, none⟩) hb).trans (hc k hlt)
      clear hc hr
      by_cases hz : l.getD k 0 = 0
      · have hz' : (l.getD k 0 != 0) = false := by rw [hz]; rfl
        have hnext := hrow.congr (g := fun j => .int .u8 (pkb l (k + 1) j)) fun j _ => by simp only [pkb_off l k j hz]
        clear hrow
        have HN := Lib.hid hnext
        have HS := Lib.hid hsz
        clear hnext hsz hz
        generalize l.getD k 0 = x at *
        go_wp2
        go_roundw
        case rel => exact ⟨k + 1, by omega, by go_num, HN.out, hbel, HS.out⟩
        case measure => simp [intOf]; omega
      · have hz' : (l.getD k 0 != 0) = true := by simpa using hz
        obtain ⟨q, hq⟩ : ∃ q : Nat, (k : Int) / 8 = q := ⟨k / 8, by omega⟩
        obtain ⟨r, hr8⟩ : ∃ r : Nat, (k : Int) % 8 = r := ⟨k % 8, by omega⟩
        have hqm : q < bytesN l.length := by unfold bytesN; omega
        have hr7 : r ≤ 7 := by omega
        have hcq := hrow.cell hqm
        have hfq := hrow.frozen q
        have HQ := Lib.hid hq
        have HR := Lib.hid hr8
        have HZ := Lib.hid hz
        have HC := Lib.hid hrow
        have HS := Lib.hid hsz
        clear hz hrow hsz
        generalize l.getD k 0 = x at hcell hz'
        go_wp2
        go_region
        go_wp2
        go_roundw
        case rel =>
          exact ⟨k + 1, by omega, by go_num, (rpack_step l k q r _ HQ.out HR.out HZ.out HC.out).drew, (hbel.setCell (Nat.le_refl _) _).drew, by simpa [World.setCell] using HS.out⟩
        case measure => simp [intOf]; omega
    · go_wp2
      go_ret
      have e : k = l.length := by omega
      subst e
      exact ⟨rfl, hrow, hbel, hsz⟩

theorem up_zero (bs : List Int) (n i : Nat) (hl : bs.length = bytesN n) (hwf : ∀ i, 0 ≤ bs.getD i 0 ∧ bs.getD i 0 ≤ 255) (hb : behind bs n = false) (h1 : n ≤ i) (h2 : i < 8 * bs.length) : upb bs i = 0 := by
  have hn8 : n % 8 ≠ 0 := by unfold bytesN at hl; omega
  have hq : i / 8 = bs.length - 1 := by unfold bytesN at hl; omega
  have hir : n % 8 ≤ i % 8 := by unfold bytesN at hl; omega
  have hz : bs.getD (bs.length - 1) 0 / 2 ^ (n % 8) = 0 := by
    have := hb
    unfold behind at this
    have hne : (n % 8 != 0) = true := by simpa using hn8
    rw [hne, Bool.true_and] at this
    simpa using this
  obtain ⟨X, hX⟩ := Int.eq_ofNat_of_zero_le (hwf (bs.length - 1)).1
  rw [hX] at hz
  have e : ((2 : Int) ^ (n % 8)) = ((2 ^ (n % 8) : Nat) : Int) := by simp
  rw [e, ← Int.natCast_ediv] at hz
  have hp : 0 < 2 ^ (n % 8) := Nat.two_pow_pos _
  have hlt : X < 2 ^ (n % 8) := by
    rcases Nat.lt_or_ge X (2 ^ (n % 8)) with h | h
    · exact h
    · have := Nat.div_pos h hp
      omega
  unfold upb
  rw [hq, hX, Int.toNat_natCast, Nat.div_eq_of_lt (Nat.lt_of_lt_of_le hlt (Nat.pow_le_pow_right (by decide) hir))]

theorem behind_of_zero (bs : List Int) (n : Nat) (hl : bs.length = bytesN n) (hwf : ∀ i, 0 ≤ bs.getD i 0 ∧ bs.getD i 0 ≤ 255) (h : ∀ i, n ≤ i → i < 8 * bs.length → upb bs i = 0) : behind bs n = false := by
  unfold behind
  by_cases hn8 : n % 8 = 0
  · simp [hn8]
  · have hp : 0 < bs.length := by rw [hl]; unfold bytesN; omega
    obtain ⟨X, hX⟩ := Int.eq_ofNat_of_zero_le (hwf (bs.length - 1)).1
    have hXl := (hwf (bs.length - 1)).2
    rw [hX] at hXl ⊢
    have hlt : X < 2 ^ (n % 8) := by
      apply Nat.lt_pow_two_of_testBit
      intro i hi
      by_cases h8 : i < 8
      · have hidx : (8 * (bs.length - 1) + i) / 8 = bs.length - 1 := by omega
        have hrem : (8 * (bs.length - 1) + i) % 8 = i := by omega
        have h0 := h (8 * (bs.length - 1) + i) (by unfold bytesN at hl; omega) (by omega)
        have hk := upb_bit bs (8 * (bs.length - 1) + i)
        rw [hidx, hrem, hX, Int.toNat_natCast] at hk
        cases ht : X.testBit i
        · rfl
        · have := hk.2 ht
          omega
      · exact Nat.testBit_lt_two_pow (Nat.lt_of_lt_of_le (show X < 2 ^ 8 by omega) (Nat.pow_le_pow_right (by decide) (by omega)))
    have e : ((2 : Int) ^ (n % 8)) = ((2 ^ (n % 8) : Nat) : Int) := by simp
    rw [e, ← Int.natCast_ediv, Nat.div_eq_of_lt hlt]
    simp
end Go.Proofs.Ytinkpbablhbccaa
