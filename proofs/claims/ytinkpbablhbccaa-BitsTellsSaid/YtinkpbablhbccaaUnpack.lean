/-
  What bits.Unpack comes to, called with any bytes and any number.
-/
import Derived.Test.YtinkpbablhbccaaPack
namespace Go.Proofs.Ytinkpbablhbccaa
open Go.RowKit

def UnpackNo (w : World) (e : Ending) (w' : World) : Prop := e = .returned (.tuple #[.slice none 0 0, .bool false]) ∧ w = w'

set_option maxHeartbeats 400000 in
theorem unpack_neg (A : Option Addr) (len cap : Nat) (n : Int) (w : World) (hn : n < 0) : Calls Try.prog 9 #[.slice A len cap, .int .i64 n] w (UnpackNo w) := by
  go_enter Try.func9, Try.ntmps9
  go_wp2
  go_ret2
  exact ⟨rfl, rfl⟩

set_option maxHeartbeats 400000 in
theorem unpack_len (A : Option Addr) (len cap : Nat) (n : Int) (w : World) (hn : 0 ≤ n) (hm : n ≤ 9223372036854775807) (hl : (len : Int) ≠ bytesI n) : Calls Try.prog 9 #[.slice A len cap, .int .i64 n] w (UnpackNo w) := by
  have hb : ((len : Int) != bytesI n) = true := by simpa using hl
  clear hl
  go_enter Try.func9, Try.ntmps9
  go_wp2_with (go_at_call 11; refine (bytes_any _ _ (by omega) (by omega)).mono ?_; rintro e w' ⟨rfl, rfl⟩)
  go_ret2
  exact ⟨rfl, rfl⟩

set_option maxHeartbeats 400000 in
theorem unpack_behind (A : Option Addr) (cap : Nat) (bs : List Int) (n : Nat) (w : World) (hm : n ≤ 9223372036854775807) (hl : bs.length = bytesN n) (hr : Nums .u8 w w.heap.size A bs) (hh : behind bs n = true) :
    Calls Try.prog 9 #[.slice A bs.length cap, .int .i64 n] w (UnpackNo w) := by
  have hb : ((bs.length : Int) != bytesI (n : Int)) = false := by rw [bytesI_nat, hl]; simp
  have HL := Lib.hid hl
  have HH := Lib.hid hh
  have HR := Lib.hid hr
  clear hl hh hr
  go_enter Try.func9, Try.ntmps9
  go_wp2_with (first
    | (go_at_call 11; refine (bytes_any _ _ (by omega) (by omega)).mono ?_; rintro e w' ⟨rfl, rfl⟩)
    | (go_at_call 16; refine (behind_any _ _ _ _ _ _ hm HL.out HR.out).mono ?_; rintro e w' ⟨rfl, rfl⟩; rw [HH.out]))
  go_ret2
  exact ⟨rfl, rfl⟩

theorem wrap64_small (x : Int) (h0 : 0 ≤ x) (h1 : x ≤ 1000000) : wrap64 x = x := by
  unfold wrap64
  omega

theorem and_step (bs : List Int) (k q r : Nat) (x : Int) (hq : (k : Int) / 8 = q) (hr : (k : Int) % 8 = r) (hx : bs.getD q 0 = x) (h255 : 0 ≤ x ∧ x ≤ 255) :
    wrap64 (bits .and .u8 (x / 2 ^ r) 1) = (upb bs k : Int) := by
  have eq : q = k / 8 := by omega
  have er : r = k % 8 := by omega
  obtain ⟨X, rfl⟩ := Int.eq_ofNat_of_zero_le h255.1
  have e2 : ((2 : Int) ^ r) = ((2 ^ r : Nat) : Int) := by simp
  have hlt : X / 2 ^ r < 256 := Nat.lt_of_le_of_lt (Nat.div_le_self _ _) (by omega)
  have h1 := u8_and_nat (X / 2 ^ r) 1 hlt (by decide)
  rw [e2, ← Int.natCast_ediv]
  rw [show (1 : Int) = ((1 : Nat) : Int) from rfl, h1, Nat.and_one_is_mod]
  have hlt2 : X / 2 ^ r % 2 < 2 := Nat.mod_lt _ (by decide)
  rw [wrap64_small _ (by omega) (by omega)]
  unfold upb
  rw [← eq, ← er, hx, Int.toNat_natCast]

theorem up_step (bs : List Int) (n k q r : Nat) (x : Int) (wr : World) {g : Nat} (hq : (k : Int) / 8 = q) (hr : (k : Int) % 8 = r) (hx : bs.getD q 0 = x) (h255 : 0 ≤ x ∧ x ≤ 255)
    (h : wr.rowIs g 3 n fun j => .int .i64 (if j < k then upb bs j else 0 : Nat)) :
    (wr.setCell ⟨g, k, none⟩ (.int .i64 (wrap64 (bits .and .u8 (x / 2 ^ r) 1)))).rowIs g 3 n fun j => .int .i64 (if j < k + 1 then upb bs j else 0 : Nat) := by
  rw [and_step bs k q r x hq hr hx h255]
  refine (h.set k _).congr fun j _ => ?_
  by_cases e : j = k
  · subst e; simp
  · have : (j < k + 1) ↔ (j < k) := by omega
    simp only [e, if_false, this]

def UnpackYes (bs : List Int) (n : Nat) (w : World) (e : Ending) (w' : World) : Prop :=
  e = .returned (.tuple #[.slice (some ⟨w.heap.size, 0, none⟩) n n, .bool true]) ∧
  w'.rowIs w.heap.size 3 n (fun i => .int .i64 (upb bs i)) ∧ Below w.heap.size w w' ∧ w'.heap.size = w.heap.size + 1

set_option maxHeartbeats 400000 in
theorem unpack_yes (A : Option Addr) (cap : Nat) (bs : List Int) (n : Nat) (w : World) (hm : n ≤ 1000000) (hl : bs.length = bytesN n) (hr : Nums .u8 w w.heap.size A bs) (hh : behind bs n = false)
    (hwf : ∀ i, 0 ≤ bs.getD i 0 ∧ bs.getD i 0 ≤ 255) :
    Calls Try.prog 9 #[.slice A bs.length cap, .int .i64 n] w (UnpackYes bs n w) := by
  have hb : ((bs.length : Int) != bytesI (n : Int)) = false := by rw [bytesI_nat, hl]; simp
  have HL := Lib.hid hl
  have HH := Lib.hid hh
  have HR := Lib.hid hr
  have HW := Lib.hid hwf
  clear hl hh hr hwf
  have hnn : decide ((n : Int) < 0) = false := by simp
  have hmk := fun W => run_make_row' (P := Try.prog) 22 3 (.int .i64 0) 8 Try.underlying22 info3 rfl .i64 .i64 n (by omega) (by omega) W
  go_enter Try.func9, Try.ntmps9
  go_wp2_with (first
    | (go_at_call 11; refine (bytes_any _ _ (by omega) (by omega)).mono ?_; rintro e w' ⟨rfl, rfl⟩)
    | (go_at_call 16; refine (behind_any _ _ _ _ _ _ (by omega) HL.out HR.out).mono ?_; rintro e w' ⟨rfl, rfl⟩; rw [HH.out]))
  have hrow := World.rowIs_made w (.int .i64 0) n 3
  have hrow0 : (w.alloc (.cells (madeCells #[.int .i64 0] n) 3)).rowIs w.heap.size 3 n (fun j => .int .i64 (if j < 0 then upb bs j else 0 : Nat)) := hrow.congr fun j _ => by simp
  have HM := Lib.hid hmk
  clear hrow hmk hnn hb
  go_loopw [26] (fun i wr => ∃ k : Nat, k ≤ n ∧ i = .int .i64 k ∧ wr.rowIs w.heap.size 3 n (fun j => .int .i64 (if j < k then upb bs j else 0 : Nat)) ∧ Below w.heap.size w wr ∧ wr.heap.size = w.heap.size + 1)
    (fun i _ => n - (intOf i).toNat)
  case atStart => exact ⟨0, Nat.zero_le _, rfl, hrow0, (Below.refl _ _).alloc (Nat.le_refl _) _, by simp⟩
  case round =>
    obtain ⟨k, hk, rfl, hrow, hbel, hsz⟩ := hrel
    clear hrow0
    have HS := Lib.hid hsz
    have HC := Lib.hid hrow
    clear hsz hrow
    by_cases hlt : k < n
    · have hp : 0 < bs.length := by rw [HL.out]; unfold bytesN; omega
      obtain ⟨b, off, rfl, hb, hc⟩ := HR.out hp
      obtain ⟨q, hq⟩ : ∃ q : Nat, (k : Int) / 8 = q := ⟨k / 8, by omega⟩
      obtain ⟨r, hr8⟩ : ∃ r : Nat, (k : Int) % 8 = r := ⟨k % 8, by omega⟩
      have hqm : q < bs.length := by rw [HL.out]; unfold bytesN; omega
      have hr7 : r ≤ 7 := by omega
      have hcell := (hbel.cell (p := ⟨b, off + q, none⟩) hb).trans (hc q hqm)
      obtain ⟨x, hx⟩ : ∃ x, bs.getD q 0 = x := ⟨_, rfl⟩
      have hx255 := HW.out q
      rw [hx] at hcell hx255
      have HX := Lib.hid hx
      clear hx
      have hcq := HC.out.cell hlt
      have hfq := HC.out.frozen k
      simp only [Nat.lt_irrefl, if_false] at hcq
      have HQ := Lib.hid hq
      have HR8 := Lib.hid hr8
      clear hc
      go_wp2
      go_roundw
      case rel =>
        exact ⟨k + 1, by omega, by go_num, up_step bs n k q r x _ HQ.out HR8.out HX.out hx255 HC.out, hbel.setCell (Nat.le_refl _) _, by simpa [World.setCell] using HS.out⟩
      case measure => simp [intOf]; omega
    · go_wp2
      go_ret2
      have e : k = n := by omega
      subst e
      exact ⟨rfl, HC.out.congr fun j hj => by simp [hj], hbel, HS.out⟩
end Go.Proofs.Ytinkpbablhbccaa
