/-
  Bits that are turned within thirty-two: the rows, step by step.
-/
import Derived.Test.YtbpdjohbbhblcaaTables
namespace Go.Proofs.Ytbpdjohbbhblcaa
open Go.RowKit

/-- xs is bs, of which the lowest i bits of the mask m are turned, from bit k on -/
structure Turned (bs : List Int) (m k i : Nat) (xs : List Int) : Prop where
  len : xs.length = bs.length
  byt : Byt xs
  le_ : le xs = le bs ^^^ (m % 2 ^ i * 2 ^ k)

theorem turned_zero {bs : List Int} (h : Byt bs) (m k : Nat) : Turned bs m k 0 bs := ⟨rfl, h, by simp [Nat.mod_one]⟩
theorem turned_off {bs xs : List Int} {m k i : Nat} (h : Turned bs m k i xs) (hb : ¬ m / 2 ^ i % 2 = 1) : Turned bs m k (i + 1) xs := ⟨h.len, h.byt, by rw [mask_off m i k hb]; exact h.le_⟩
theorem turned_on {bs xs : List Int} {m k i q r : Nat} (h : Turned bs m k i xs) (hb : m / 2 ^ i % 2 = 1) (hq : (k + i) / 8 = q) (hr : (k + i) % 8 = r) (hl : k + i < 8 * bs.length) :
    Turned bs m k (i + 1) (xs.set q (((xs.getD q 0).toNat ^^^ 2 ^ r : Nat) : Int)) := by
  have hr8 : r < 8 := by omega
  have hp : 2 ^ r < 256 := Nat.lt_of_lt_of_le (Nat.pow_lt_pow_right (by decide) hr8) (by decide)
  refine ⟨by rw [List.length_set]; exact h.len, byt_set h.byt q _ hp, ?_⟩
  rw [le_set xs q _ (by rw [h.len]; omega) (fun i => (h.byt.at_ i).1), h.le_, mask_on m i k hb, Nat.xor_assoc]
  congr 1
  rw [← Nat.pow_add, show r + 8 * q = k + i by omega]

theorem turned_done {bs xs : List Int} {m k : Nat} (hm : m < 4294967296) (h : Turned bs m k 32 xs) : le xs = le bs ^^^ (m * 2 ^ k) := by
  rw [h.le_, show (2 : Nat) ^ 32 = 4294967296 from rfl, Nat.mod_eq_of_lt hm]

/-- a row of cap cells whose first n hold xs -/
def rowF (n : Nat) (xs : List Int) (R : Nat → Value) : Nat → Value := fun i => if i < n then .int .u8 (xs.getD i 0) else R i

theorem rowF_set {wr : World} {g cap n q : Nat} {R : Nat → Value} {xs : List Int} (h : wr.rowIs g 5 cap (rowF n xs R)) (hq : q < n) (hn : xs.length = n) (v : Int) :
    (wr.setCell ⟨g, q, none⟩ (.int .u8 v)).rowIs g 5 cap (rowF n (xs.set q v) R) := by
  refine (h.set q _).congr fun j _ => ?_
  unfold rowF
  by_cases e : j = q
  · subst e
    simp [hq, hn]
  · have e2 : ¬ q = j := fun h => e h.symm
    simp [e, e2]
theorem rowF_nums {w : World} {g cap n : Nat} {R : Nat → Value} {xs : List Int} (h : w.rowIs g 5 cap (rowF n xs R)) (hn : xs.length = n) (hc : n ≤ cap) : Nums .u8 w w.heap.size (some ⟨g, 0, none⟩) xs := fun _ => by
  refine ⟨g, 0, rfl, h.lt, fun i hi => ?_⟩
  have := h.cell (i := i) (by omega)
  rw [Nat.zero_add, this]
  simp [rowF, show i < n by omega]

theorem own_rowF {w : World} {base g n cap : Nat} {bs : List Int} (hn : n = bs.length) (h : w.ownsRow base 5 1 (.slice (some ⟨g, 0, none⟩) n cap) n (u8s bs)) : base ≤ g ∧ n ≤ cap ∧ ∃ R, w.rowIs g 5 cap (rowF n bs R) := by
  rcases h.2 with ⟨h0, _⟩ | ⟨g', cap', cur, hv, hbg, hgg, hnc, _, hsz, htake⟩
  · cases h0
  · cases hv
    refine ⟨hbg, hnc, fun i => cur.getD i undef, cur, hgg, by omega, fun i hi => ?_⟩
    unfold rowF
    by_cases hin : i < n
    · have h1 : (cur.toList.take (n * 1))[i]? = (u8s bs)[i]? := by rw [htake]
      rw [List.getElem?_take, if_pos (by omega), Array.getElem?_toList] at h1
      rw [h1]
      simp [u8s, hin, show i < bs.length by omega]
    · have : i < cur.size := by omega
      simp [hin, this]

theorem turn_byte (x : Int) (r : Nat) (hx : 0 ≤ x ∧ x < 256) (hr : r ≤ 7) : bits .xor .u8 x (2 ^ r % 256) = ((x.toNat ^^^ 2 ^ r : Nat) : Int) := by
  obtain ⟨X, rfl⟩ := Int.eq_ofNat_of_zero_le hx.1
  have hp : 2 ^ r < 256 := Nat.lt_of_lt_of_le (Nat.pow_lt_pow_right (by decide) (show r < 8 by omega)) (by decide)
  have e : ∀ y : Nat, y < 256 → (y : Int) % 256 = (y : Int) := fun y hy => by omega
  rw [show (2 : Int) ^ r = ((2 ^ r : Nat) : Int) by simp, e _ hp, u8_xor_nat X (2 ^ r) (by omega) hp, Int.toNat_natCast]

theorem bit_and (m i : Nat) (hm : m < 4294967296) : bits .and .u32 ((m : Int) / 2 ^ i) 1 = ((m / 2 ^ i % 2 : Nat) : Int) := by
  have h := odd_bit (m / 2 ^ i) (Nat.lt_of_le_of_lt (Nat.div_le_self _ _) hm)
  rw [← h]
  simp
end Go.Proofs.Ytbpdjohbbhblcaa
