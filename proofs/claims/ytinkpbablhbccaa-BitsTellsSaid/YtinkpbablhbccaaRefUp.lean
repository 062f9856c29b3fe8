/-
  What the document's own Unpack comes to.
-/
import Derived.Test.YtinkpbablhbccaaRef
namespace Go.Proofs.Ytinkpbablhbccaa
open Go.RowKit
set_option linter.unusedSimpArgs false

def RNo (w : World) (e : Ending) (w' : World) : Prop := e = .returned (.tuple #[.slice none 0 0, .bool false]) ∧ Grow w w'
def RYes (bs : List Int) (n : Nat) (w : World) (e : Ending) (w' : World) : Prop :=
  ∃ A cap, e = .returned (.tuple #[.slice A n cap, .bool true]) ∧ Nums .i64 w' w'.heap.size A (up bs n) ∧ Grow w w'
def REither (bs : List Int) (n : Nat) (w : World) (e : Ending) (w' : World) : Prop := (behind bs n = true ∧ RNo w e w') ∨ (behind bs n = false ∧ RYes bs n w e w')

set_option maxHeartbeats 400000 in
theorem runpack_neg (A : Option Addr) (len cap : Nat) (n : Int) (w : World) (hn : n < 0) : Calls Try.prog 10 #[.slice A len cap, .int .i64 n] w (RNo w) := by
  go_enter Try.func10, Try.ntmps10
  go_wp2
  go_ret2
  exact ⟨rfl, Grow.refl _⟩

set_option maxHeartbeats 400000 in
theorem runpack_len (A : Option Addr) (len cap : Nat) (n : Int) (w : World) (hn : 0 ≤ n) (hm : n ≤ 9223372036854775807) (hl : (len : Int) ≠ bytesI n) : Calls Try.prog 10 #[.slice A len cap, .int .i64 n] w (RNo w) := by
  have hb : ((len : Int) != bytesI n) = true := by simpa using hl
  clear hl
  go_enter Try.func10, Try.ntmps10
  go_wp2_with (go_at_call 12; refine (rbytes_any _ _ (by omega) (by omega)).mono ?_; rintro e w' ⟨rfl, rfl⟩)
  go_ret2
  exact ⟨rfl, Grow.refl _⟩

theorem own_nums {w : World} {base : Nat} {v : Value} {n : Nat} {xs : List Int} (h : w.ownsRow base 3 1 v n (xs.map (Value.int .i64))) :
    ∃ A cap, v = .slice A n cap ∧ Nums .i64 w w.heap.size A xs := by
  have hlen : xs.length = n := by have := h.1; simpa using this
  rcases h.2 with ⟨rfl, hx⟩ | ⟨g, cap, cur, rfl, _⟩
  · subst hx
    have hx' : xs = [] := List.eq_nil_of_length_eq_zero hlen
    subst hx'
    exact ⟨none, 0, rfl, Nums.none_⟩
  · refine ⟨some ⟨g, 0, none⟩, cap, rfl, fun hp => ⟨g, 0, rfl, (h.lt g rfl).2, fun i hi => ?_⟩⟩
    have := h.cellAt i (by omega)
    rw [Nat.zero_add, this]
    simp [hi]

theorem up_snoc (bs : List Int) (k : Nat) : up bs (k + 1) = up bs k ++ [(upb bs k : Int)] := by
  unfold up
  rw [List.range_succ, List.map_append]
  rfl

theorem bit_step (bs : List Int) (k q r : Nat) (x : Int) (hq : (k : Int) / 8 = q) (hr : (k : Int) % 8 = r) (hx : bs.getD q 0 = x) (h255 : 0 ≤ x ∧ x ≤ 255) : (x / 2 ^ r).tmod 2 = (upb bs k : Int) := by
  have eq : q = k / 8 := by omega
  have er : r = k % 8 := by omega
  obtain ⟨X, rfl⟩ := Int.eq_ofNat_of_zero_le h255.1
  have e2 : ((2 : Int) ^ r) = ((2 ^ r : Nat) : Int) := by simp
  unfold upb
  rw [← eq, ← er, hx, Int.toNat_natCast, e2, ← Int.natCast_ediv, Int.tmod_eq_emod_of_nonneg (Int.natCast_nonneg _)]
  exact (Int.natCast_emod _ _).symm

set_option maxHeartbeats 1000000 in
theorem runpack_any (A : Option Addr) (cap : Nat) (bs : List Int) (n : Nat) (w : World) (hlen : bs.length ≤ 1000) (hl : bs.length = bytesN n) (hr : Nums .u8 w w.heap.size A bs)
    (hwf : ∀ i, 0 ≤ bs.getD i 0 ∧ bs.getD i 0 ≤ 255) :
    Calls Try.prog 10 #[.slice A bs.length cap, .int .i64 n] w (REither bs n w) := by
  have hb : ((bs.length : Int) != bytesI (n : Int)) = false := by rw [bytesI_nat, hl]; simp
  have hnn : decide ((n : Int) < 0) = false := by simp
  have hn : n ≤ 8000 := by unfold bytesN at hl; omega
  have hn8 : n ≤ 8 * bs.length := by rw [hl]; unfold bytesN; omega
  have HL := Lib.hid hl
  have HR := Lib.hid hr
  have HW := Lib.hid hwf
  clear hl hr hwf
  obtain ⟨len, hlq⟩ : ∃ len, bs.length = len := ⟨_, rfl⟩
  rw [hlq] at hb hlen hn8 ⊢
  have HQL := Lib.hid hlq
  clear hlq
  obtain ⟨i0, hi, hz0, hz1, hz2⟩ := info_parts info3
  go_enter Try.func10, Try.ntmps10
  go_wp2_with (go_at_call 12; refine (rbytes_any _ _ (by omega) (by omega)).mono ?_; rintro e w' ⟨rfl, rfl⟩)
  clear hb hnn
  go_loopw [6, 7] (fun v i wr => ∃ k : Nat, k ≤ 8 * len ∧ i = .int .i64 k ∧ wr.ownsRow w.heap.size 3 1 v (min k n) ((up bs (min k n)).map (Value.int .i64)) ∧ Below w.heap.size w wr ∧ ∀ j, n ≤ j → j < k → upb bs j = 0)
    (fun _ i _ => 8 * len - (intOf i).toNat)
  case atStart => exact ⟨0, Nat.zero_le _, rfl, by simpa [up] using World.ownsRow_nil _ _ _ _, Below.refl _ _, fun j h1 h2 => by omega⟩
  case round =>
    obtain ⟨k, hk, rfl, hown, hbel, hzero⟩ := hrel
    have HZ := Lib.hid hzero
    clear hzero
    by_cases hlt : k < 8 * len
    · obtain ⟨b, off, rfl, hb, hc⟩ := HR.out (by rw [HQL.out]; omega)
      obtain ⟨q, hq⟩ : ∃ q : Nat, (k : Int) / 8 = q := ⟨k / 8, by omega⟩
      obtain ⟨r, hr8⟩ : ∃ r : Nat, (k : Int) % 8 = r := ⟨k % 8, by omega⟩
      have hqm : q < len := by omega
      have hr7 : r ≤ 7 := by omega
      have hcell := (hbel.cell (p := ⟨b, off + q, none⟩) hb).trans (hc q (by rw [HQL.out]; exact hqm))
      obtain ⟨x, hx⟩ : ∃ x, bs.getD q 0 = x := ⟨_, rfl⟩
      have hx255 := HW.out q
      rw [hx] at hcell hx255
      have hbit := bit_step bs k q r x hq hr8 hx hx255
      have hu2 := upb_lt bs k
      obtain ⟨hx0, hx1⟩ := hx255
      obtain ⟨u, hu⟩ : ∃ u, upb bs k = u := ⟨_, rfl⟩
      rw [hu] at hbit hu2
      have HU := Lib.hid hu
      clear hx hc hu
      by_cases hkn : k < n
      · rw [show min k n = k by omega] at hown
        go_wp2_with (at_builtin; refine wpList_append_own _ rfl _ _ 22 rfl w.heap.size 3 i0 (.int .i64 0) 1 8 Try.underlying22 hi hz0 hz1 hz2 rfl (by decide) _ _ _ rfl (hown.alloc _) ⟨wr.heap.size, 0, none⟩ 1 1 [.int .i64 (u : Int)] rfl rfl ?c1 ?c2 ?c3 ?c4 ?c5 ?_)
        case c1 =>
          intro j u hj
          match j, hj with
          | 0, hj => simp at hj; subst hj; simp [Addr.add]
        case c2 => intro u hu; simp at hu; subst hu; rfl
        case c3 => unfold maxLen; omega
        case c4 => omega
        case c5 => have := hbel.size; simp; omega
        intro v' w1 hown' hgrow _
        have hb' : Below w.heap.size w w1 := (hbel.alloc hbel.size _).grown hgrow (by have := hbel.size; simp; omega) (fun g hg => (hown.lt g hg).1)
        rw [← HU.out] at hown'
        have HO := Lib.hid hown'
        clear hown' hgrow hown
        go_wp2
        go_roundw
        case rel =>
          refine ⟨k + 1, by omega, by go_num, ?_, hb', fun j h1 h2 => by omega⟩
          rw [show min (k + 1) n = k + 1 by omega, up_snoc, List.map_append]
          exact HO.out
        case measure => simp [intOf]; omega
      · rw [show min k n = n by omega] at hown
        by_cases hz : u = 0
        · have hne : ((u : Int) != 0) = false := by rw [hz]; rfl
          have HZ2 := Lib.hid (HU.out.trans hz)
          clear hz
          go_wp2
          go_roundw
          case rel =>
            refine ⟨k + 1, by omega, by go_num, ?_, hbel, fun j h1 h2 => ?_⟩
            · rw [show min (k + 1) n = n by omega]
              exact hown
            · by_cases e : j = k
              · rw [e]; exact HZ2.out
              · exact HZ.out j h1 (by omega)
          case measure => simp [intOf]; omega
        · have hne : ((u : Int) != 0) = true := by rw [bne_iff_ne]; omega
          have hbh : behind bs n = true := by
            cases hbb : behind bs n
            · exact absurd (up_zero bs n k HL.out HW.out hbb (by omega) (by rw [HQL.out]; exact hlt)) (by rw [HU.out]; exact hz)
            · rfl
          have HBH := Lib.hid hbh
          clear hz hbh
          go_wp2
          go_ret2
          exact .inl ⟨HBH.out, rfl, hbel⟩
    · have e : k = 8 * len := by omega
      subst e
      rw [show min (8 * len) n = n by omega] at hown
      have hbh : behind bs n = false := behind_of_zero bs n HL.out HW.out fun i h1 h2 => HZ.out i h1 (by rw [← HQL.out]; exact h2)
      have HBH := Lib.hid hbh
      obtain ⟨A', cap', rfl, hnum⟩ := own_nums hown
      have HNUM := Lib.hid hnum
      clear hown hbh hnum
      go_wp2
      go_ret2
      exact .inr ⟨HBH.out, A', cap', rfl, HNUM.out, hbel⟩
end Go.Proofs.Ytinkpbablhbccaa
