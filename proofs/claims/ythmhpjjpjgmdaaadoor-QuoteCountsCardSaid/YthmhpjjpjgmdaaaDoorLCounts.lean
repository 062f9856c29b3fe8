/-
  QuoteCounts comes to true, whatever it is called with.
-/
import Derived.Test.YthmhpjjpjgmdaaaDoorSmall
import Derived.Deep.CutBlock
import Derived.Deep.DeepCutAuto
namespace Go.Proofs.YthmhpjjpjgmdaaaDoor
open Go.RowKit Go.Lib
set_option linter.unusedSimpArgs false
set_option linter.unusedVariables false

/-- how many bytes a sign takes in quotes -/
def qN (c : Nat) : Nat := if c = 39 then 2 else if c < 128 then 1 else if c < 2048 then 2 else if c < 65536 then 3 else 4
theorem qC_len {c : Nat} (h : isSign c = true) : (qC c).length = qN c := by
  unfold qC qN bytesD
  rw [if_pos h]
  repeat' split
  all_goals rfl
theorem qT_more {xs : List Int} {k : Nat} (hk : k < xs.length) (h : signZ (xs.getD k 0) = true) : (qT (natsZ (xs.take (k + 1)))).length = (qT (natsZ (xs.take k))).length + qN (xs.getD k 0).toNat := by
  rw [qT_step hk, List.length_append, qC_len (signZ_nat h).1]

/-- what the loop knows -/
structure CountAt (xs : List Int) (k m : Nat) : Prop where
  all : (xs.take k).all signZ = true
  len : (qT (natsZ (xs.take k))).length + 2 = m
theorem CountAt.le {xs : List Int} {k m : Nat} (h : CountAt xs k m) : m ≤ 4 * k + 2 := by
  have h1 := qT_le (natsZ (xs.take k))
  have h2 := nats_take xs k
  have h3 := h.len
  omega
theorem CountAt.next {xs : List Int} {k m : Nat} (h : CountAt xs k m) (hk : k < xs.length) {x : Int} (hx : xs.getD k 0 = x) (hs : signZ x = true) {d : Nat} (hd : qN x.toNat = d) : CountAt xs (k + 1) (m + d) := by
  subst hx hd
  exact ⟨all_step hk h.all hs, by rw [qT_more hk hs, ← h.len]; omega⟩

set_option maxRecDepth 100000 in
set_option maxHeartbeats 3200000 in
theorem lcounts_walk (A : Option Addr) (n cap : Nat) (xs : List Int) (w : World) (hL : Laid w) (hn : xs.length = n) (hm : n ≤ 9223372036854775807) (hr : Nums .i64 w w.heap.size A xs) :
    Calls Tryd.prog 7 #[.slice A n cap] w (Fine w) := by
  have HS := Lib.hid (fun W h => small_any W h)
  have HL := Lib.hid hL
  have HR := Lib.hid hr
  have HN := Lib.hid hn
  clear hL hr hn
  by_cases k1 : 100 < n
  · have k1i : decide ((100 : Int) < ((n : Nat) : Int)) = true := by rw [decide_eq_true_eq]; omega
    have k1j : (100 : Int) < ((n : Nat) : Int) := by omega
    go_enter Tryd.func7, Tryd.ntmps7
    go_wp2_with fail
    refine (HS.out _ HL.out).mono ?_
    rintro x w1 ⟨rfl, hg⟩
    have HG1 := Lib.hid hg
    clear hg HS
    go_wp2
    go_ret
    exact ⟨rfl, HG1.out⟩
  have k1j : ¬ (100 : Int) < ((n : Nat) : Int) := by omega
  have HT := Lib.hid (fun W h => text_any A n cap xs W HN.out (by omega) h)
  obtain ⟨ok, hok⟩ : ∃ ok, xs.all signZ = ok := ⟨_, rfl⟩
  obtain ⟨T, hT⟩ : ∃ T, textQ xs = T := ⟨_, rfl⟩
  rw [hok, hT] at HT
  have HNO : Hid (∀ k, k < n → signZ (xs.getD k 0) = false → ok = false ∧ T = []) := Lib.hid (fun k hk h => by
    have h2 := all_not (by rw [HN.out]; exact hk) h
    rw [← hok, ← hT]
    exact ⟨h2, textQ_not h2⟩)
  have HYES : Hid (∀ m, CountAt xs n m → ok = true ∧ T.length = m) := Lib.hid (fun m h => by
    have hall : xs.take n = xs := List.take_of_length_le (by rw [HN.out]; exact Nat.le_refl _)
    have h1 := h.all
    have h2 := h.len
    rw [hall] at h1 h2
    refine ⟨by rw [← hok]; exact h1, ?_⟩
    rw [← hT, textQ_all h1, ← h2]
    simp)
  clear hok hT
  go_enter Tryd.func7, Tryd.ntmps7
  go_wp2_with fail
  refine (HS.out _ HL.out).mono ?_
  rintro x w1 ⟨rfl, hg⟩
  have HG1 := Lib.hid hg
  clear hg HS
  go_wp2_with fail
  refine (HT.out _ (HR.out.grow HG1.out)).mono ?_
  rintro x w2 ⟨rfl, hg⟩
  have HG2 := Lib.hid (HG1.out.trans hg)
  have HR2 := Lib.hid (HR.out.grow (HG1.out.trans hg))
  clear hg HT HG1 HR
  go_wp2
  go_loopg [6, 7] n (fun g s6 s7 wr => ∃ k m : Nat, k ≤ n ∧ g = n - k ∧ s6 = .int .i64 m ∧ s7 = .int .i64 k ∧ Hid (CountAt xs k m) ∧ w2 = wr)
  case atStart => exact ⟨0, 2, Nat.zero_le _, rfl, rfl, rfl, Lib.hid ⟨rfl, rfl⟩, rfl⟩
  case round =>
    obtain ⟨k, m, hk, rfl, rfl, rfl, HC, rfl⟩ := hrel
    have hm4 := HC.out.le
    by_cases hlt : k < n
    · obtain ⟨b, off, rfl, hb, hcl⟩ := HR2.out (by rw [HN.out]; omega)
      have hck := hcl k (by rw [HN.out]; exact hlt)
      have HNX : Hid (∀ d, signZ (xs.getD k 0) = true → qN (xs.getD k 0).toNat = d → CountAt xs (k + 1) (m + d)) := Lib.hid (fun d h1 h2 => HC.out.next (by rw [HN.out]; exact hlt) rfl h1 h2)
      have HNK := Lib.hid (HNO.out k hlt)
      obtain ⟨x, hx⟩ : ∃ x, xs.getD k 0 = x := ⟨_, rfl⟩
      rw [hx] at hck HNX HNK
      clear hcl hx hb HYES HNO HC
      by_cases x0 : x < 0
      · obtain ⟨rfl, rfl⟩ := HNK.out (by unfold signZ; rw [decide_eq_false_iff_not]; omega)
        clear HNX HNK
        go_wp2
        go_ret
        exact ⟨rfl, HG2.out⟩
      by_cases x1 : 1114111 < x
      · obtain ⟨rfl, rfl⟩ := HNK.out (by unfold signZ; rw [decide_eq_false_iff_not]; omega)
        clear HNX HNK
        go_wp2
        go_ret
        exact ⟨rfl, HG2.out⟩
      by_cases x2 : 55296 ≤ x ∧ x ≤ 57343
      · obtain ⟨rfl, rfl⟩ := HNK.out (by unfold signZ; rw [decide_eq_false_iff_not]; omega)
        obtain ⟨x2, x3⟩ := x2
        clear HNX HNK
        go_wp2
        go_ret
        exact ⟨rfl, HG2.out⟩
      have hs : signZ x = true := signZ_iff.2 ⟨by omega, by omega, x2⟩
      have hwk : IntKind.i64.wrap (((k : Nat) : Int) + 1) = ((k : Nat) : Int) + 1 := by rw [IntKind.wrap_i64]; omega
      have hw1 : IntKind.i64.wrap (((m : Nat) : Int) + 1) = ((m : Nat) : Int) + 1 := by rw [IntKind.wrap_i64]; omega
      have hw2 : IntKind.i64.wrap (((m : Nat) : Int) + 2) = ((m : Nat) : Int) + 2 := by rw [IntKind.wrap_i64]; omega
      have hw3 : IntKind.i64.wrap (((m : Nat) : Int) + 3) = ((m : Nat) : Int) + 3 := by rw [IntKind.wrap_i64]; omega
      have hw4 : IntKind.i64.wrap (((m : Nat) : Int) + 4) = ((m : Nat) : Int) + 4 := by rw [IntKind.wrap_i64]; omega
      by_cases y39 : x = 39
      · subst y39
        have HK := Lib.hid (HNX.out 2 hs (by decide))
        clear HNX HNK hs x2
        go_wp2
        go_roundg (n - (k + 1))
        case rel => exact ⟨k + 1, m + 2, by omega, rfl, by go_num, by go_num, HK, rfl⟩
        case measure => omega
      have y39b : (x == 39) = false := by rw [beq_eq_false_iff_ne]; exact y39
      by_cases y1 : x < 128
      · have HK := Lib.hid (HNX.out 1 hs (by unfold qN; rw [if_neg (by omega), if_pos (by omega)]))
        clear HNX HNK hs
        have x2' : ¬ 55296 ≤ x := by omega
        clear x2
        go_wp2
        go_roundg (n - (k + 1))
        case rel => exact ⟨k + 1, m + 1, by omega, rfl, by go_num, by go_num, HK, rfl⟩
        case measure => omega
      by_cases y2 : x < 2048
      · have HK := Lib.hid (HNX.out 2 hs (by unfold qN; rw [if_neg (by omega), if_neg (by omega), if_pos (by omega)]))
        clear HNX HNK hs
        have x2' : ¬ 55296 ≤ x := by omega
        clear x2
        go_wp2
        go_roundg (n - (k + 1))
        case rel => exact ⟨k + 1, m + 2, by omega, rfl, by go_num, by go_num, HK, rfl⟩
        case measure => omega
      by_cases y3 : x < 65536
      · have HK := Lib.hid (HNX.out 3 hs (by unfold qN; rw [if_neg (by omega), if_neg (by omega), if_neg (by omega), if_pos (by omega)]))
        clear HNX HNK hs
        by_cases z : 55296 ≤ x
        · have z2 : ¬ x ≤ 57343 := fun h => x2 ⟨z, h⟩
          clear x2
          go_wp2
          go_roundg (n - (k + 1))
          case rel => exact ⟨k + 1, m + 3, by omega, rfl, by go_num, by go_num, HK, rfl⟩
          case measure => omega
        · clear x2
          go_wp2
          go_roundg (n - (k + 1))
          case rel => exact ⟨k + 1, m + 3, by omega, rfl, by go_num, by go_num, HK, rfl⟩
          case measure => omega
      · have HK := Lib.hid (HNX.out 4 hs (by unfold qN; rw [if_neg (by omega), if_neg (by omega), if_neg (by omega), if_neg (by omega)]))
        clear HNX HNK hs
        have z : 55296 ≤ x := by omega
        have z2 : ¬ x ≤ 57343 := by omega
        clear x2
        go_wp2
        go_roundg (n - (k + 1))
        case rel => exact ⟨k + 1, m + 4, by omega, rfl, by go_num, by go_num, HK, rfl⟩
        case measure => omega
    · obtain rfl : k = n := by omega
      obtain ⟨rfl, hTm⟩ := HYES.out m HC.out
      obtain ⟨s, hs⟩ : ∃ s : ByteArray, s = ⟨T.toArray⟩ := ⟨_, rfl⟩
      have hsz : ((s.size : Nat) : Int) = ((m : Nat) : Int) := by rw [hs, str_size, hTm]
      have hsz2 : s.size = m := by rw [hs, str_size, hTm]
      rw [← hs]
      clear hs hTm HYES HNO HC
      go_wp2
      go_ret
      exact ⟨rfl, HG2.out⟩
end Go.Proofs.YthmhpjjpjgmdaaaDoor
