/-
  The law BitsBack, walked: it answers true, called with any numbers, and turns nothing that was there.
-/
import Derived.Test.YtinkpbablhbccaaSmall
namespace Go.Proofs.Ytinkpbablhbccaa
open Go.RowKit

theorem block_lt {w : World} {a : Addr} {v : Value} (h : w.cell? a = some v) : a.block < w.heap.size := by
  rcases Nat.lt_or_ge a.block w.heap.size with hlt | hge
  · exact hlt
  · simp [World.cell?, Array.getElem?_eq_none hge] at h

/-- what a slice of integers that came in reads as -/
theorem nums_of_row {k : IntKind} {w : World} {a : Option Addr} {len cap : Nat} {zs : List Int}
    (h : (a = none ∧ len = 0 ∧ cap = 0 ∧ zs = []) ∨
      ∃ x, a = some x ∧ len ≤ cap ∧ cap ≤ maxLen ∧ zs.length = cap ∧ (∀ i, i < zs.length → w.cell? (x.add i) = some (.int k (zs.getD i 0))) ∧ ∀ n ∈ zs, (Lit.int k n).wf = true) :
    ∃ xs : List Int, xs.length = len ∧ len ≤ maxLen ∧ Nums k w w.heap.size a xs ∧ ∀ n ∈ xs, (Lit.int k n).wf = true := by
  rcases h with ⟨rfl, rfl, rfl, rfl⟩ | ⟨x, rfl, hl, hm, hz, hcell, hwf⟩
  · exact ⟨[], rfl, Nat.zero_le _, Nums.none_, by simp⟩
  · refine ⟨zs.take len, by simp; omega, Nat.le_trans hl hm, fun hp => ?_, fun n hn => hwf n (List.mem_of_mem_take hn)⟩
    have hp' : 0 < zs.length := by simp at hp; omega
    have h0 := hcell 0 hp'
    obtain ⟨b, off, spot⟩ := x
    have hspot : spot = none := by simpa [Addr.add] using World.cell?_spot h0
    subst hspot
    refine ⟨b, off, rfl, by simpa [Addr.add] using block_lt h0, fun i hi => ?_⟩
    have hi1 : i < len ∧ i < zs.length := by simp at hi; omega
    have hc := hcell i hi1.2
    have e : (⟨b, off, none⟩ : Addr).add i = ⟨b, off + i, none⟩ := by unfold Addr.add; split <;> simp_all
    rw [e] at hc
    rw [hc]
    simp [hi1.1]

def BackYes (l : List Int) (w : World) (e : Ending) (w' : World) : Prop :=
  e = .returned (.tuple #[.slice (some ⟨w.heap.size, 0, none⟩) l.length l.length, .bool true]) ∧
  w'.rowIs w.heap.size 3 l.length (fun i => .int .i64 (if l.getD i 0 = 0 then 0 else 1)) ∧ Below w.heap.size w w'

theorem unpack_pk (l : List Int) (W : World) (g : Nat) (hl : l.length ≤ 1000) (h : W.rowIs g 5 (bytesN l.length) (fun j => .int .u8 (pkb l l.length j))) :
    Calls Try.prog 9 #[.slice (some ⟨g, 0, none⟩) (bytesN l.length) (bytesN l.length), .int .i64 l.length] W (BackYes l W) := by
  have h1 : W.rowIs g 5 (pk l l.length (bytesN l.length)).length fun j => .int .u8 ((pk l l.length (bytesN l.length)).getD j 0) := by
    rw [pk_len]
    exact h.congr fun j hj => by rw [pk_get _ _ _ _ hj]
  have hwf : ∀ i, 0 ≤ (pk l l.length (bytesN l.length)).getD i 0 ∧ (pk l l.length (bytesN l.length)).getD i 0 ≤ 255 := fun i => by
    by_cases hi : i < bytesN l.length
    · rw [pk_get _ _ _ _ hi]
      have := pkb_lt l l.length i
      omega
    · have : (pk l l.length (bytesN l.length)).getD i 0 = 0 := by
        simp [List.getElem?_eq_none (show (pk l l.length (bytesN l.length)).length ≤ i by rw [pk_len]; omega)]
      omega
  have c := unpack_yes (some ⟨g, 0, none⟩) (bytesN l.length) (pk l l.length (bytesN l.length)) l.length W (by omega) (pk_len _ _ _) (Nums.of_row h1) (behind_pk l) hwf
  rw [pk_len] at c
  refine c.mono ?_
  rintro e w' ⟨rfl, hrow, hb, hs⟩
  exact ⟨rfl, hrow.congr fun i hi => by rw [upb_pk l i hi], hb⟩

set_option maxHeartbeats 800000 in
theorem back_walk (A : Option Addr) (cap : Nat) (l : List Int) (w : World) (hm : l.length ≤ 9223372036854775807) (hr : Nums .i64 w w.heap.size A l) :
    Calls Try.prog 4 #[.slice A l.length cap] w (Fine w) := by
  have HR := Lib.hid hr
  clear hr
  by_cases hl : l.length ≤ 1000
  · have hd : decide ((1000 : Int) < (l.length : Int)) = false := by simp; omega
    go_enter Try.func4, Try.ntmps4
    go_wp2_with fail
    refine (small_any w).mono ?_
    rintro e w1 ⟨rfl, hb1⟩
    have HN1 := Lib.hid (HR.out.below hb1)
    go_wp2_with fail
    refine (pack_any A cap l w1 (by omega) (HN1.out.more hb1.size)).mono ?_
    rintro e w2 ⟨rfl, hrow2, hb2, hs2⟩
    have HR2 := Lib.hid hrow2
    have HS2 := Lib.hid hs2
    clear hrow2 hs2
    go_wp2_with fail
    refine (unpack_pk l w2 _ hl HR2.out).mono ?_
    rintro e w3 ⟨rfl, hrow3, hb3⟩
    have HR3 := Lib.hid hrow3
    clear hrow3
    have hneq : ((l.length : Int) != (l.length : Int)) = false := by simp
    have HN3 := Lib.hid (((HN1.out.below (hb2.mono hb1.size)).below (hb3.mono (Nat.le_trans hb1.size hb2.size))))
    go_wp2
    have HB := Lib.hid ((hb1.trans (hb2.mono hb1.size)).trans (hb3.mono (Nat.le_trans hb1.size hb2.size)))
    clear hb1 hb2 hb3 hd hneq
    go_loopw [6] (fun i wr => ∃ k m : Nat, k ≤ l.length ∧ i = .int .i64 k ∧ wr = w3.drewN m)
      (fun i _ => l.length - (intOf i).toNat)
    case atStart => exact ⟨0, 0, Nat.zero_le _, rfl, rfl⟩
    case round =>
      obtain ⟨k, m, hk, rfl, rfl⟩ := hrel
      by_cases hlt : k < l.length
      · obtain ⟨b, off, rfl, hb, hc⟩ := HN3.out (by omega)
        have h1 := hc k hlt
        have h2 := HR3.out.cell hlt
        clear hc
        by_cases hz : l.getD k 0 = 0
        · rw [hz] at h1
          simp only [hz, if_true] at h2
          clear hz
          go_wp2
          go_quiet (fail)
          go_wp2
          go_roundw
          case rel => exact ⟨k + 1, _, by omega, by go_num, rfl⟩
          case measure => simp [intOf]; omega
        · simp only [hz, if_false] at h2
          have hz' : (l.getD k 0 != 0) = true := by simpa using hz
          clear hz
          generalize l.getD k 0 = x at *
          go_wp2
          go_quiet (fail)
          go_wp2
          go_roundw
          case rel => exact ⟨k + 1, _, by omega, by go_num, rfl⟩
          case measure => simp [intOf]; omega
      · go_wp2
        go_ret
        exact ⟨rfl, below_drewN HB.out m⟩
  · go_enter Try.func4, Try.ntmps4
    go_wp2_with fail
    refine (small_any w).mono ?_
    rintro e w1 ⟨rfl, hb1⟩
    go_wp2
    go_ret
    exact ⟨rfl, hb1⟩
end Go.Proofs.Ytinkpbablhbccaa
