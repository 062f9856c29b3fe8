/-
  What the document's own next comes to, called with any text that is not empty.
-/
import Derived.Test.YtcnijmmpkahoaaaDoorRNames
import Derived.Test.YtcnijmmpkahoaaaDoorSgRight
namespace Go.Proofs.YtcnijmmpkahoaaaDoor
open Go.RowKit Go.Lib
set_option linter.unusedSimpArgs false

theorem more_cons (n c : Nat) (b : UInt8) (r : List UInt8) : more (n + 1) c (b :: r) = if goesOn b then more n (64 * c + (b.toNat - 128)) r else none := rfl
theorem more_short : ∀ (n c : Nat) (r : List UInt8), r.length < n → more n c r = none
  | 0, c, r, h => by omega
  | n + 1, c, [], h => rfl
  | n + 1, c, b :: r, h => by
    rw [more_cons]
    split
    · exact more_short n _ r (by simpa using h)
    · rfl
theorem many_none {n least c : Nat} {r : List UInt8} (h : more (n - 1) c r = none) : many n least c r = (0, 0) := by unfold many; rw [h]
theorem many_some {n least c d : Nat} {r : List UInt8} (h : more (n - 1) c r = some d) : many n least c r = if least ≤ d ∧ d ≤ 1114111 ∧ ¬ (55296 ≤ d ∧ d ≤ 57343) then (d, n) else (0, 0) := by
  unfold many
  rw [h]
  simp only [isSign_iff]
def Two (p : Nat × Nat) (w : World) (e : Ending) (w' : World) : Prop := e = .returned (.tuple #[.int .i64 ((p.1 : Nat) : Int), .int .i64 ((p.2 : Nat) : Int)]) ∧ w' = w


set_option maxRecDepth 10000 in
set_option maxHeartbeats 400000 in
theorem rnext_two (b : UInt8) (r : List UInt8) (w : World) (h1 : 192 ≤ b.toNat) (h2 : b.toNat < 224) (hl : r.length ≤ 1100000) : Calls Tryd.prog 54 #[.string ⟨(b :: r).toArray⟩] w (Two (many 2 128 (b.toNat - 192) r) w) := by
  obtain ⟨c0, hc0⟩ : ∃ c0, b.toNat - 192 = c0 := ⟨_, rfl⟩
  rw [hc0]
  have hc32 : c0 < 32 := by omega
  have hix0 : ∀ W, (Instr.index 9 (.string ⟨(b :: r).toArray⟩) (.int .i64 0)).run Tryd.prog W = .ok (.int .u8 (b.toNat : Nat)) W := fun W => index_str (i := 0) rfl W
  obtain ⟨B, hB⟩ : ∃ B : Nat, b.toNat = B := ⟨_, rfl⟩
  rw [hB] at hix0 h1 h2 hc0
  have hwc : IntKind.i64.wrap ((B : Nat) : Int) = ((B : Nat) : Int) := by rw [IntKind.wrap_i64]; omega
  have hsub : ((B : Nat) : Int) - 192 = ((c0 : Nat) : Int) := by omega
  have hws : IntKind.i64.wrap ((c0 : Nat) : Int) = ((c0 : Nat) : Int) := by rw [IntKind.wrap_i64]; omega
  have t1 : ¬ ((B : Nat) : Int) < 128 := by omega
  have t2 : 192 ≤ ((B : Nat) : Int) := by omega
  have t3 : ((B : Nat) : Int) < 224 := by omega
  clear hB h1 h2 hc0
  have HIX : Hid (∀ (i : Nat) (x : UInt8), (b :: r)[i]? = some x → ∀ W, (Instr.index 9 (.string ⟨(b :: r).toArray⟩) (.int .i64 (i : Nat))).run Tryd.prog W = .ok (.int .u8 (x.toNat : Nat)) W) := Lib.hid (fun i x h W => index_str h W)
  have HAT : Hid (∀ (i : Nat), 1 ≤ i → i ≤ r.length → ∃ x, (b :: r)[i]? = some x ∧ r.drop (i - 1) = x :: r.drop i) := Lib.hid (fun i h1 h2 => by
    obtain ⟨j, rfl⟩ : ∃ j, i = j + 1 := ⟨i - 1, by omega⟩
    refine ⟨r[j], by simp, ?_⟩
    rw [Nat.add_sub_cancel]
    exact List.drop_eq_getElem_cons (by omega))
  obtain ⟨s, hs⟩ : ∃ s : ByteArray, s = ⟨(b :: r).toArray⟩ := ⟨_, rfl⟩
  have hsz : s.size = r.length + 1 := by rw [hs, str_size]; simp
  rw [← hs] at hix0 HIX ⊢
  clear hs
  obtain ⟨m, hm⟩ : ∃ m, s.size = m := ⟨_, rfl⟩
  have hmr : m = r.length + 1 := by omega
  have HM := Lib.hid hmr
  clear hsz hmr
  by_cases hlen : m < 2
  · have HZ := Lib.hid (many_none (n := 2) (least := 128) (more_short (2 - 1) c0 r (by have := HM.out; omega)))
    have hlen' : ((m : Nat) : Int) < 2 := by omega
    go_enter Tryd.func54, Tryd.ntmps54
    go_wp2
    go_ret2
    exact ⟨by rw [HZ.out]; rfl, rfl⟩
  have hlen' : ¬ ((m : Nat) : Int) < 2 := by omega
  go_enter Tryd.func54, Tryd.ntmps54
  go_wp2
  go_loopg [4, 7] (2 - 1) (fun g s4 s7 wr => ∃ c i : Nat, 1 ≤ i ∧ i ≤ 2 ∧ g = 2 - i ∧ s4 = .int .i64 c ∧ s7 = .int .i64 i ∧ ((i = 1 ∧ c < 32) ∨ (i = 2 ∧ c < 2048) ∨ (i = 3 ∧ c < 131072) ∨ (i = 4 ∧ c < 8388608)) ∧ Hid (more (2 - 1) c0 r = more (2 - i) c (r.drop (i - 1))) ∧ w = wr)
  case atStart => exact ⟨c0, 1, by omega, by omega, rfl, rfl, rfl, .inl ⟨rfl, hc32⟩, Lib.hid rfl, rfl⟩
  case round =>
    obtain ⟨c, i, hi1, hi2, rfl, rfl, rfl, hb, HMO, rfl⟩ := hrel
    have hcb : c < 8388608 := by omega
    by_cases hlt : i < 2
    · obtain ⟨x, hx, hd⟩ := HAT.out i hi1 (by have := HM.out; omega)
      have hix := HIX.out i x hx
      have hmo := HMO.out
      rw [hd, show 2 - i = (2 - (i + 1)) + 1 by omega, more_cons] at hmo
      have hx8 := u8_lt x
      clear hx hd
      by_cases hg : goesOn x = true
      · rw [if_pos hg] at hmo
        have hgo := goesOn_iff.1 hg
        obtain ⟨c', hc'⟩ : ∃ c', 64 * c + (x.toNat - 128) = c' := ⟨_, rfl⟩
        rw [hc'] at hmo
        have HMO' := Lib.hid hmo
        have ho1 : ¬ ((x.toNat : Nat) : Int) < 128 := by omega
        have ho2 : ¬ 192 ≤ ((x.toNat : Nat) : Int) := by omega
        have hb' : (i + 1 = 1 ∧ c' < 32) ∨ (i + 1 = 2 ∧ c' < 2048) ∨ (i + 1 = 3 ∧ c' < 131072) ∨ (i + 1 = 4 ∧ c' < 8388608) := by omega
        have HB := Lib.hid hb'
        have hwx : IntKind.i64.wrap ((x.toNat : Nat) : Int) = ((x.toNat : Nat) : Int) := by rw [IntKind.wrap_i64]; omega
        have hw1 : IntKind.i64.wrap (64 * ((c : Nat) : Int)) = 64 * ((c : Nat) : Int) := by rw [IntKind.wrap_i64]; omega
        have hw2 : IntKind.i64.wrap (64 * ((c : Nat) : Int) + ((x.toNat : Nat) : Int)) = 64 * ((c : Nat) : Int) + ((x.toNat : Nat) : Int) := by rw [IntKind.wrap_i64]; omega
        have hsm : 64 * ((c : Nat) : Int) + ((x.toNat : Nat) : Int) - 128 = ((c' : Nat) : Int) := by omega
        clear hmo hg hgo hc' hb' hb HMO
        go_wp2
        go_roundg (2 - (i + 1))
        case rel => exact ⟨c', i + 1, by omega, by omega, rfl, by first | rfl | go_num, by go_num, HB.out, HMO', rfl⟩
        case measure => omega
      · rw [if_neg hg] at hmo
        have HZ := Lib.hid (many_none (least := 128) hmo)
        have hgo : ¬ (128 ≤ x.toNat ∧ x.toNat < 192) := fun h => hg (goesOn_iff.2 h)
        by_cases ho : x.toNat < 128
        · have ho1 : ((x.toNat : Nat) : Int) < 128 := by omega
          clear hmo hgo hg ho
          go_wp2
          go_ret2
          exact ⟨by rw [HZ.out]; rfl, rfl⟩
        · have ho1 : ¬ ((x.toNat : Nat) : Int) < 128 := by omega
          have ho2 : 192 ≤ ((x.toNat : Nat) : Int) := by omega
          clear hmo hgo hg ho
          go_wp2
          go_ret2
          exact ⟨by rw [HZ.out]; rfl, rfl⟩
    · obtain rfl : i = 2 := by omega
      have hmo := HMO.out
      have HZ : Hid (many 2 128 c0 r = if 128 ≤ c ∧ c ≤ 1114111 ∧ ¬ (55296 ≤ c ∧ c ≤ 57343) then (c, 2) else (0, 0)) := Lib.hid (many_some (n := 2) (least := 128) hmo)
      clear hmo HMO hb hlt
      by_cases q1 : c < 128
      · rw [if_neg (by omega)] at HZ
        have q1' : ((c : Nat) : Int) < 128 := by omega
        go_wp2
        go_ret2
        exact ⟨by rw [HZ.out]; rfl, rfl⟩
      have q1' : ¬ ((c : Nat) : Int) < 128 := by omega
      by_cases q2 : 1114111 < c
      · rw [if_neg (by omega)] at HZ
        have q2' : 1114111 < ((c : Nat) : Int) := by omega
        go_wp2
        go_ret2
        exact ⟨by rw [HZ.out]; rfl, rfl⟩
      have q2' : ¬ 1114111 < ((c : Nat) : Int) := by omega
      by_cases q3 : 55296 ≤ c
      · have q3' : 55296 ≤ ((c : Nat) : Int) := by omega
        by_cases q4 : c ≤ 57343
        · rw [if_neg (by omega)] at HZ
          have q4' : ((c : Nat) : Int) ≤ 57343 := by omega
          go_wp2
          go_ret2
          exact ⟨by rw [HZ.out]; rfl, rfl⟩
        · rw [if_pos (by omega)] at HZ
          have q4' : ¬ ((c : Nat) : Int) ≤ 57343 := by omega
          go_wp2
          go_ret2
          exact ⟨by rw [HZ.out]; rfl, rfl⟩
      · rw [if_pos (by omega)] at HZ
        have q3' : ¬ 55296 ≤ ((c : Nat) : Int) := by omega
        go_wp2
        go_ret2
        exact ⟨by rw [HZ.out]; rfl, rfl⟩

set_option maxRecDepth 10000 in
set_option maxHeartbeats 400000 in
theorem rnext_three (b : UInt8) (r : List UInt8) (w : World) (h1 : 224 ≤ b.toNat) (h2 : b.toNat < 240) (hl : r.length ≤ 1100000) : Calls Tryd.prog 54 #[.string ⟨(b :: r).toArray⟩] w (Two (many 3 2048 (b.toNat - 224) r) w) := by
  obtain ⟨c0, hc0⟩ : ∃ c0, b.toNat - 224 = c0 := ⟨_, rfl⟩
  rw [hc0]
  have hc32 : c0 < 32 := by omega
  have hix0 : ∀ W, (Instr.index 9 (.string ⟨(b :: r).toArray⟩) (.int .i64 0)).run Tryd.prog W = .ok (.int .u8 (b.toNat : Nat)) W := fun W => index_str (i := 0) rfl W
  obtain ⟨B, hB⟩ : ∃ B : Nat, b.toNat = B := ⟨_, rfl⟩
  rw [hB] at hix0 h1 h2 hc0
  have hwc : IntKind.i64.wrap ((B : Nat) : Int) = ((B : Nat) : Int) := by rw [IntKind.wrap_i64]; omega
  have hsub : ((B : Nat) : Int) - 224 = ((c0 : Nat) : Int) := by omega
  have hws : IntKind.i64.wrap ((c0 : Nat) : Int) = ((c0 : Nat) : Int) := by rw [IntKind.wrap_i64]; omega
  have t1 : ¬ ((B : Nat) : Int) < 128 := by omega
  have t2 : 192 ≤ ((B : Nat) : Int) := by omega
  have t3 : ¬ ((B : Nat) : Int) < 224 := by omega
  have t4 : 224 ≤ ((B : Nat) : Int) := by omega
  have t5 : ((B : Nat) : Int) < 240 := by omega
  clear hB h1 h2 hc0
  have HIX : Hid (∀ (i : Nat) (x : UInt8), (b :: r)[i]? = some x → ∀ W, (Instr.index 9 (.string ⟨(b :: r).toArray⟩) (.int .i64 (i : Nat))).run Tryd.prog W = .ok (.int .u8 (x.toNat : Nat)) W) := Lib.hid (fun i x h W => index_str h W)
  have HAT : Hid (∀ (i : Nat), 1 ≤ i → i ≤ r.length → ∃ x, (b :: r)[i]? = some x ∧ r.drop (i - 1) = x :: r.drop i) := Lib.hid (fun i h1 h2 => by
    obtain ⟨j, rfl⟩ : ∃ j, i = j + 1 := ⟨i - 1, by omega⟩
    refine ⟨r[j], by simp, ?_⟩
    rw [Nat.add_sub_cancel]
    exact List.drop_eq_getElem_cons (by omega))
  obtain ⟨s, hs⟩ : ∃ s : ByteArray, s = ⟨(b :: r).toArray⟩ := ⟨_, rfl⟩
  have hsz : s.size = r.length + 1 := by rw [hs, str_size]; simp
  rw [← hs] at hix0 HIX ⊢
  clear hs
  obtain ⟨m, hm⟩ : ∃ m, s.size = m := ⟨_, rfl⟩
  have hmr : m = r.length + 1 := by omega
  have HM := Lib.hid hmr
  clear hsz hmr
  by_cases hlen : m < 3
  · have HZ := Lib.hid (many_none (n := 3) (least := 2048) (more_short (3 - 1) c0 r (by have := HM.out; omega)))
    have hlen' : ((m : Nat) : Int) < 3 := by omega
    go_enter Tryd.func54, Tryd.ntmps54
    go_wp2
    go_ret2
    exact ⟨by rw [HZ.out]; rfl, rfl⟩
  have hlen' : ¬ ((m : Nat) : Int) < 3 := by omega
  go_enter Tryd.func54, Tryd.ntmps54
  go_wp2
  go_loopg [4, 7] (3 - 1) (fun g s4 s7 wr => ∃ c i : Nat, 1 ≤ i ∧ i ≤ 3 ∧ g = 3 - i ∧ s4 = .int .i64 c ∧ s7 = .int .i64 i ∧ ((i = 1 ∧ c < 32) ∨ (i = 2 ∧ c < 2048) ∨ (i = 3 ∧ c < 131072) ∨ (i = 4 ∧ c < 8388608)) ∧ Hid (more (3 - 1) c0 r = more (3 - i) c (r.drop (i - 1))) ∧ w = wr)
  case atStart => exact ⟨c0, 1, by omega, by omega, rfl, rfl, rfl, .inl ⟨rfl, hc32⟩, Lib.hid rfl, rfl⟩
  case round =>
    obtain ⟨c, i, hi1, hi2, rfl, rfl, rfl, hb, HMO, rfl⟩ := hrel
    have hcb : c < 8388608 := by omega
    by_cases hlt : i < 3
    · obtain ⟨x, hx, hd⟩ := HAT.out i hi1 (by have := HM.out; omega)
      have hix := HIX.out i x hx
      have hmo := HMO.out
      rw [hd, show 3 - i = (3 - (i + 1)) + 1 by omega, more_cons] at hmo
      have hx8 := u8_lt x
      clear hx hd
      by_cases hg : goesOn x = true
      · rw [if_pos hg] at hmo
        have hgo := goesOn_iff.1 hg
        obtain ⟨c', hc'⟩ : ∃ c', 64 * c + (x.toNat - 128) = c' := ⟨_, rfl⟩
        rw [hc'] at hmo
        have HMO' := Lib.hid hmo
        have ho1 : ¬ ((x.toNat : Nat) : Int) < 128 := by omega
        have ho2 : ¬ 192 ≤ ((x.toNat : Nat) : Int) := by omega
        have hb' : (i + 1 = 1 ∧ c' < 32) ∨ (i + 1 = 2 ∧ c' < 2048) ∨ (i + 1 = 3 ∧ c' < 131072) ∨ (i + 1 = 4 ∧ c' < 8388608) := by omega
        have HB := Lib.hid hb'
        have hwx : IntKind.i64.wrap ((x.toNat : Nat) : Int) = ((x.toNat : Nat) : Int) := by rw [IntKind.wrap_i64]; omega
        have hw1 : IntKind.i64.wrap (64 * ((c : Nat) : Int)) = 64 * ((c : Nat) : Int) := by rw [IntKind.wrap_i64]; omega
        have hw2 : IntKind.i64.wrap (64 * ((c : Nat) : Int) + ((x.toNat : Nat) : Int)) = 64 * ((c : Nat) : Int) + ((x.toNat : Nat) : Int) := by rw [IntKind.wrap_i64]; omega
        have hsm : 64 * ((c : Nat) : Int) + ((x.toNat : Nat) : Int) - 128 = ((c' : Nat) : Int) := by omega
        clear hmo hg hgo hc' hb' hb HMO
        go_wp2
        go_roundg (3 - (i + 1))
        case rel => exact ⟨c', i + 1, by omega, by omega, rfl, by first | rfl | go_num, by go_num, HB.out, HMO', rfl⟩
        case measure => omega
      · rw [if_neg hg] at hmo
        have HZ := Lib.hid (many_none (least := 2048) hmo)
        have hgo : ¬ (128 ≤ x.toNat ∧ x.toNat < 192) := fun h => hg (goesOn_iff.2 h)
        by_cases ho : x.toNat < 128
        · have ho1 : ((x.toNat : Nat) : Int) < 128 := by omega
          clear hmo hgo hg ho
          go_wp2
          go_ret2
          exact ⟨by rw [HZ.out]; rfl, rfl⟩
        · have ho1 : ¬ ((x.toNat : Nat) : Int) < 128 := by omega
          have ho2 : 192 ≤ ((x.toNat : Nat) : Int) := by omega
          clear hmo hgo hg ho
          go_wp2
          go_ret2
          exact ⟨by rw [HZ.out]; rfl, rfl⟩
    · obtain rfl : i = 3 := by omega
      have hmo := HMO.out
      have HZ : Hid (many 3 2048 c0 r = if 2048 ≤ c ∧ c ≤ 1114111 ∧ ¬ (55296 ≤ c ∧ c ≤ 57343) then (c, 3) else (0, 0)) := Lib.hid (many_some (n := 3) (least := 2048) hmo)
      clear hmo HMO hb hlt
      by_cases q1 : c < 2048
      · rw [if_neg (by omega)] at HZ
        have q1' : ((c : Nat) : Int) < 2048 := by omega
        go_wp2
        go_ret2
        exact ⟨by rw [HZ.out]; rfl, rfl⟩
      have q1' : ¬ ((c : Nat) : Int) < 2048 := by omega
      by_cases q2 : 1114111 < c
      · rw [if_neg (by omega)] at HZ
        have q2' : 1114111 < ((c : Nat) : Int) := by omega
        go_wp2
        go_ret2
        exact ⟨by rw [HZ.out]; rfl, rfl⟩
      have q2' : ¬ 1114111 < ((c : Nat) : Int) := by omega
      by_cases q3 : 55296 ≤ c
      · have q3' : 55296 ≤ ((c : Nat) : Int) := by omega
        by_cases q4 : c ≤ 57343
        · rw [if_neg (by omega)] at HZ
          have q4' : ((c : Nat) : Int) ≤ 57343 := by omega
          go_wp2
          go_ret2
          exact ⟨by rw [HZ.out]; rfl, rfl⟩
        · rw [if_pos (by omega)] at HZ
          have q4' : ¬ ((c : Nat) : Int) ≤ 57343 := by omega
          go_wp2
          go_ret2
          exact ⟨by rw [HZ.out]; rfl, rfl⟩
      · rw [if_pos (by omega)] at HZ
        have q3' : ¬ 55296 ≤ ((c : Nat) : Int) := by omega
        go_wp2
        go_ret2
        exact ⟨by rw [HZ.out]; rfl, rfl⟩

set_option maxRecDepth 10000 in
set_option maxHeartbeats 400000 in
theorem rnext_four (b : UInt8) (r : List UInt8) (w : World) (h1 : 240 ≤ b.toNat) (h2 : b.toNat < 248) (hl : r.length ≤ 1100000) : Calls Tryd.prog 54 #[.string ⟨(b :: r).toArray⟩] w (Two (many 4 65536 (b.toNat - 240) r) w) := by
  obtain ⟨c0, hc0⟩ : ∃ c0, b.toNat - 240 = c0 := ⟨_, rfl⟩
  rw [hc0]
  have hc32 : c0 < 32 := by omega
  have hix0 : ∀ W, (Instr.index 9 (.string ⟨(b :: r).toArray⟩) (.int .i64 0)).run Tryd.prog W = .ok (.int .u8 (b.toNat : Nat)) W := fun W => index_str (i := 0) rfl W
  obtain ⟨B, hB⟩ : ∃ B : Nat, b.toNat = B := ⟨_, rfl⟩
  rw [hB] at hix0 h1 h2 hc0
  have hwc : IntKind.i64.wrap ((B : Nat) : Int) = ((B : Nat) : Int) := by rw [IntKind.wrap_i64]; omega
  have hsub : ((B : Nat) : Int) - 240 = ((c0 : Nat) : Int) := by omega
  have hws : IntKind.i64.wrap ((c0 : Nat) : Int) = ((c0 : Nat) : Int) := by rw [IntKind.wrap_i64]; omega
  have t1 : ¬ ((B : Nat) : Int) < 128 := by omega
  have t2 : 192 ≤ ((B : Nat) : Int) := by omega
  have t3 : ¬ ((B : Nat) : Int) < 224 := by omega
  have t4 : 224 ≤ ((B : Nat) : Int) := by omega
  have t5 : ¬ ((B : Nat) : Int) < 240 := by omega
  have t6 : 240 ≤ ((B : Nat) : Int) := by omega
  have t7 : ((B : Nat) : Int) < 248 := by omega
  clear hB h1 h2 hc0
  have HIX : Hid (∀ (i : Nat) (x : UInt8), (b :: r)[i]? = some x → ∀ W, (Instr.index 9 (.string ⟨(b :: r).toArray⟩) (.int .i64 (i : Nat))).run Tryd.prog W = .ok (.int .u8 (x.toNat : Nat)) W) := Lib.hid (fun i x h W => index_str h W)
  have HAT : Hid (∀ (i : Nat), 1 ≤ i → i ≤ r.length → ∃ x, (b :: r)[i]? = some x ∧ r.drop (i - 1) = x :: r.drop i) := Lib.hid (fun i h1 h2 => by
    obtain ⟨j, rfl⟩ : ∃ j, i = j + 1 := ⟨i - 1, by omega⟩
    refine ⟨r[j], by simp, ?_⟩
    rw [Nat.add_sub_cancel]
    exact List.drop_eq_getElem_cons (by omega))
  obtain ⟨s, hs⟩ : ∃ s : ByteArray, s = ⟨(b :: r).toArray⟩ := ⟨_, rfl⟩
  have hsz : s.size = r.length + 1 := by rw [hs, str_size]; simp
  rw [← hs] at hix0 HIX ⊢
  clear hs
  obtain ⟨m, hm⟩ : ∃ m, s.size = m := ⟨_, rfl⟩
  have hmr : m = r.length + 1 := by omega
  have HM := Lib.hid hmr
  clear hsz hmr
  by_cases hlen : m < 4
  · have HZ := Lib.hid (many_none (n := 4) (least := 65536) (more_short (4 - 1) c0 r (by have := HM.out; omega)))
    have hlen' : ((m : Nat) : Int) < 4 := by omega
    go_enter Tryd.func54, Tryd.ntmps54
    go_wp2
    go_ret2
    exact ⟨by rw [HZ.out]; rfl, rfl⟩
  have hlen' : ¬ ((m : Nat) : Int) < 4 := by omega
  go_enter Tryd.func54, Tryd.ntmps54
  go_wp2
  go_loopg [4, 7] (4 - 1) (fun g s4 s7 wr => ∃ c i : Nat, 1 ≤ i ∧ i ≤ 4 ∧ g = 4 - i ∧ s4 = .int .i64 c ∧ s7 = .int .i64 i ∧ ((i = 1 ∧ c < 32) ∨ (i = 2 ∧ c < 2048) ∨ (i = 3 ∧ c < 131072) ∨ (i = 4 ∧ c < 8388608)) ∧ Hid (more (4 - 1) c0 r = more (4 - i) c (r.drop (i - 1))) ∧ w = wr)
  case atStart => exact ⟨c0, 1, by omega, by omega, rfl, rfl, rfl, .inl ⟨rfl, hc32⟩, Lib.hid rfl, rfl⟩
  case round =>
    obtain ⟨c, i, hi1, hi2, rfl, rfl, rfl, hb, HMO, rfl⟩ := hrel
    have hcb : c < 8388608 := by omega
    by_cases hlt : i < 4
    · obtain ⟨x, hx, hd⟩ := HAT.out i hi1 (by have := HM.out; omega)
      have hix := HIX.out i x hx
      have hmo := HMO.out
      rw [hd, show 4 - i = (4 - (i + 1)) + 1 by omega, more_cons] at hmo
      have hx8 := u8_lt x
      clear hx hd
      by_cases hg : goesOn x = true
      · rw [if_pos hg] at hmo
        have hgo := goesOn_iff.1 hg
        obtain ⟨c', hc'⟩ : ∃ c', 64 * c + (x.toNat - 128) = c' := ⟨_, rfl⟩
        rw [hc'] at hmo
        have HMO' := Lib.hid hmo
        have ho1 : ¬ ((x.toNat : Nat) : Int) < 128 := by omega
        have ho2 : ¬ 192 ≤ ((x.toNat : Nat) : Int) := by omega
        have hb' : (i + 1 = 1 ∧ c' < 32) ∨ (i + 1 = 2 ∧ c' < 2048) ∨ (i + 1 = 3 ∧ c' < 131072) ∨ (i + 1 = 4 ∧ c' < 8388608) := by omega
        have HB := Lib.hid hb'
        have hwx : IntKind.i64.wrap ((x.toNat : Nat) : Int) = ((x.toNat : Nat) : Int) := by rw [IntKind.wrap_i64]; omega
        have hw1 : IntKind.i64.wrap (64 * ((c : Nat) : Int)) = 64 * ((c : Nat) : Int) := by rw [IntKind.wrap_i64]; omega
        have hw2 : IntKind.i64.wrap (64 * ((c : Nat) : Int) + ((x.toNat : Nat) : Int)) = 64 * ((c : Nat) : Int) + ((x.toNat : Nat) : Int) := by rw [IntKind.wrap_i64]; omega
        have hsm : 64 * ((c : Nat) : Int) + ((x.toNat : Nat) : Int) - 128 = ((c' : Nat) : Int) := by omega
        clear hmo hg hgo hc' hb' hb HMO
        go_wp2
        go_roundg (4 - (i + 1))
        case rel => exact ⟨c', i + 1, by omega, by omega, rfl, by first | rfl | go_num, by go_num, HB.out, HMO', rfl⟩
        case measure => omega
      · rw [if_neg hg] at hmo
        have HZ := Lib.hid (many_none (least := 65536) hmo)
        have hgo : ¬ (128 ≤ x.toNat ∧ x.toNat < 192) := fun h => hg (goesOn_iff.2 h)
        by_cases ho : x.toNat < 128
        · have ho1 : ((x.toNat : Nat) : Int) < 128 := by omega
          clear hmo hgo hg ho
          go_wp2
          go_ret2
          exact ⟨by rw [HZ.out]; rfl, rfl⟩
        · have ho1 : ¬ ((x.toNat : Nat) : Int) < 128 := by omega
          have ho2 : 192 ≤ ((x.toNat : Nat) : Int) := by omega
          clear hmo hgo hg ho
          go_wp2
          go_ret2
          exact ⟨by rw [HZ.out]; rfl, rfl⟩
    · obtain rfl : i = 4 := by omega
      have hmo := HMO.out
      have HZ : Hid (many 4 65536 c0 r = if 65536 ≤ c ∧ c ≤ 1114111 ∧ ¬ (55296 ≤ c ∧ c ≤ 57343) then (c, 4) else (0, 0)) := Lib.hid (many_some (n := 4) (least := 65536) hmo)
      clear hmo HMO hb hlt
      by_cases q1 : c < 65536
      · rw [if_neg (by omega)] at HZ
        have q1' : ((c : Nat) : Int) < 65536 := by omega
        go_wp2
        go_ret2
        exact ⟨by rw [HZ.out]; rfl, rfl⟩
      have q1' : ¬ ((c : Nat) : Int) < 65536 := by omega
      by_cases q2 : 1114111 < c
      · rw [if_neg (by omega)] at HZ
        have q2' : 1114111 < ((c : Nat) : Int) := by omega
        go_wp2
        go_ret2
        exact ⟨by rw [HZ.out]; rfl, rfl⟩
      have q2' : ¬ 1114111 < ((c : Nat) : Int) := by omega
      by_cases q3 : 55296 ≤ c
      · have q3' : 55296 ≤ ((c : Nat) : Int) := by omega
        by_cases q4 : c ≤ 57343
        · rw [if_neg (by omega)] at HZ
          have q4' : ((c : Nat) : Int) ≤ 57343 := by omega
          go_wp2
          go_ret2
          exact ⟨by rw [HZ.out]; rfl, rfl⟩
        · rw [if_pos (by omega)] at HZ
          have q4' : ¬ ((c : Nat) : Int) ≤ 57343 := by omega
          go_wp2
          go_ret2
          exact ⟨by rw [HZ.out]; rfl, rfl⟩
      · rw [if_pos (by omega)] at HZ
        have q3' : ¬ 55296 ≤ ((c : Nat) : Int) := by omega
        go_wp2
        go_ret2
        exact ⟨by rw [HZ.out]; rfl, rfl⟩

set_option maxHeartbeats 800000 in
theorem rnext_any (l : List UInt8) (w : World) (hne : l ≠ []) (hl : l.length ≤ 1100000) : Calls Tryd.prog 54 #[.string ⟨l.toArray⟩] w (Two (nextD l) w) := by
  rcases l with _ | ⟨b, r⟩
  · exact absurd rfl hne
  have hr : r.length ≤ 1100000 := by simp at hl; omega
  have hb8 := u8_lt b
  rw [nextD_cons]
  have hix0 : ∀ W, (Instr.index 9 (.string ⟨(b :: r).toArray⟩) (.int .i64 0)).run Tryd.prog W = .ok (.int .u8 (b.toNat : Nat)) W := fun W => index_str (i := 0) rfl W
  by_cases h1 : b.toNat < 128
  · rw [if_pos h1]
    obtain ⟨s, hs⟩ : ∃ s : ByteArray, s = ⟨(b :: r).toArray⟩ := ⟨_, rfl⟩
    rw [← hs] at hix0 ⊢
    have h1' : ((b.toNat : Nat) : Int) < 128 := by omega
    have hw : IntKind.i64.wrap ((b.toNat : Nat) : Int) = ((b.toNat : Nat) : Int) := by rw [IntKind.wrap_i64]; omega
    clear hs hne hl hr hb8 h1
    go_enter Tryd.func54, Tryd.ntmps54
    go_wp2
    go_ret2
    exact ⟨rfl, rfl⟩
  rw [if_neg h1]
  by_cases h2 : b.toNat < 192
  · rw [if_pos h2]
    obtain ⟨s, hs⟩ : ∃ s : ByteArray, s = ⟨(b :: r).toArray⟩ := ⟨_, rfl⟩
    rw [← hs] at hix0 ⊢
    have h1' : ¬ ((b.toNat : Nat) : Int) < 128 := by omega
    have h2' : ¬ 192 ≤ ((b.toNat : Nat) : Int) := by omega
    have h3' : ¬ 224 ≤ ((b.toNat : Nat) : Int) := by omega
    have h4' : ¬ 240 ≤ ((b.toNat : Nat) : Int) := by omega
    have hw : IntKind.i64.wrap ((b.toNat : Nat) : Int) = ((b.toNat : Nat) : Int) := by rw [IntKind.wrap_i64]; omega
    clear hs hne hl hr hb8 h1 h2
    go_enter Tryd.func54, Tryd.ntmps54
    go_wp2
    go_ret2
    exact ⟨rfl, rfl⟩
  rw [if_neg h2]
  by_cases h3 : b.toNat < 224
  · rw [if_pos h3]
    exact rnext_two b r w (by omega) h3 hr
  rw [if_neg h3]
  by_cases h4 : b.toNat < 240
  · rw [if_pos h4]
    exact rnext_three b r w (by omega) h4 hr
  rw [if_neg h4]
  by_cases h5 : b.toNat < 248
  · rw [if_pos h5]
    exact rnext_four b r w (by omega) h5 hr
  · rw [if_neg h5]
    obtain ⟨s, hs⟩ : ∃ s : ByteArray, s = ⟨(b :: r).toArray⟩ := ⟨_, rfl⟩
    rw [← hs] at hix0 ⊢
    have h1' : ¬ ((b.toNat : Nat) : Int) < 128 := by omega
    have h2' : 192 ≤ ((b.toNat : Nat) : Int) := by omega
    have h3' : ¬ ((b.toNat : Nat) : Int) < 224 := by omega
    have h4' : 224 ≤ ((b.toNat : Nat) : Int) := by omega
    have h5' : ¬ ((b.toNat : Nat) : Int) < 240 := by omega
    have h6' : 240 ≤ ((b.toNat : Nat) : Int) := by omega
    have h7' : ¬ ((b.toNat : Nat) : Int) < 248 := by omega
    have hw : IntKind.i64.wrap ((b.toNat : Nat) : Int) = ((b.toNat : Nat) : Int) := by rw [IntKind.wrap_i64]; omega
    clear hs hne hl hr hb8 h1 h2 h3 h4 h5
    go_enter Tryd.func54, Tryd.ntmps54
    go_wp2
    go_ret2
    exact ⟨rfl, rfl⟩
end Go.Proofs.YtcnijmmpkahoaaaDoor

namespace Go.Proofs.YtcnijmmpkahoaaaDoor
open Go.RowKit Go.Lib
set_option linter.unusedSimpArgs false

theorem info3 : (Tryd.prog.info? 3).map (fun i => (i.zero, i.size, i.bytes)) = some (some (.int .i64 0), 1, 8) := by kernel_rfl
def natCells (q : List Nat) : List Value := q.map fun n => .int .i64 ((n : Nat) : Int)
theorem natCells_app (a b : List Nat) : natCells (a ++ b) = natCells a ++ natCells b := by simp [natCells]
theorem natCells_one (l : List Nat) : ∀ u ∈ natCells l, u.oneCell' = true := by
  intro u hu
  simp only [natCells, List.mem_map] at hu
  obtain ⟨c, _, rfl⟩ := hu
  rfl
/-- numbers of one's own -/
def OwnN (B : Nat) (v : Value) (q : List Nat) (w : World) : Prop := w.ownsRow B 3 1 v q.length (natCells q)
theorem ownN_nil (B : Nat) (w : World) : OwnN B (.slice none 0 0) [] w := World.ownsRow_nil _ _ _ _
theorem OwnN.grow {B : Nat} {v : Value} {q : List Nat} {w w' : World} (h : OwnN B v q w) (hg : Grow w w') : OwnN B v q w' := by
  refine ⟨h.1, ?_⟩
  rcases h.2 with h0 | ⟨g', cap', cur, hv, hbg, hgg, rest⟩
  · exact .inl h0
  · exact .inr ⟨g', cap', cur, hv, hbg, (hg.block g' (heap_lt hgg)).trans hgg, rest⟩
/-- numbers that may be read -/
def NumsAt (w : World) (A : Option Addr) (q : List Nat) : Prop := Nums .i64 w w.heap.size A (q.map fun n => ((n : Nat) : Int))
theorem OwnN.nums {B : Nat} {v : Value} {q : List Nat} {w : World} (h : OwnN B v q w) : ∃ A cap, v = .slice A q.length cap ∧ q.length ≤ cap ∧ NumsAt w A q := by
  rcases h.2 with ⟨rfl, h0⟩ | ⟨g, cap, cur, rfl, hbg, hgg, hnc, _, hsz, htake⟩
  · have hq : q = [] := List.eq_nil_of_length_eq_zero h0
    subst hq
    exact ⟨none, 0, rfl, Nat.le_refl _, Nums.none_⟩
  · refine ⟨_, cap, rfl, hnc, fun _ => ⟨g, 0, rfl, heap_lt hgg, fun i hi => ?_⟩⟩
    rw [List.length_map] at hi
    rw [cell_of_row w g (0 + i) cur 3 (0, 0) hgg, Nat.zero_add]
    have h1 : (cur.toList.take (q.length * 1))[i]? = (natCells q)[i]? := by rw [htake]
    rw [List.getElem?_take, if_pos (by omega), Array.getElem?_toList] at h1
    rw [h1]
    simp [natCells, hi]
theorem wpList_append_num {ops : Array Oper} {rest : List Oper} {o : Oper} {a : Act} {w : World} {Q : Exit → Act → World → Prop} (hgd : o.guard = none) (s x : Operand)
    (ho : o.op = .call { callee := .builtin .append, args := #[s, x], argTypes := #[42, 42] }) (B : Nat) (v : Value) (q p : List Nat) (m c : Nat)
    (hs : a.eval s = v) (hown : OwnN B v q w) (hx : a.eval x = .slice (some ⟨w.heap.size, 0, none⟩) m c) (hm : m = p.length) (hb : (q.length + p.length) * 8 ≤ 140737488355328) (hbase : B ≤ w.heap.size)
    (h : ∀ v' w', OwnN B v' (q ++ p) w' → Below B w w' → wpList Tryd.prog ops Q rest (a.put o.dst v') w') : wpList Tryd.prog ops Q (o :: rest) a (w.alloc (.cells (natCells p).toArray 3)) := by
  obtain ⟨i0, hi, hz0, hz1, hz2⟩ := info_parts info3
  subst hm
  have hown' : OwnN B v q (w.alloc (.cells (natCells p).toArray 3)) := hown.grow (grow_new _ _)
  refine wpList_append_own _ hgd s x 42 ho B 3 i0 (.int .i64 0) 1 8 Tryd.underlying42 hi hz0 hz1 hz2 rfl (by decide) v q.length (natCells q) hs hown' ⟨w.heap.size, 0, none⟩ p.length c (natCells p) hx (by simp [natCells]) (fun j u hj => by
      rw [Addr.add_lit, World.cell?_alloc_new]
      simpa using hj) (natCells_one p) (by unfold maxLen; omega) (by omega) (by simp; omega) ?_
  intro v' w' h2 hgrow _
  refine h v' w' ?_ (Below.trans (Below.mono (grow_new w _) hbase) (Below.grown (Below.refl _ _) hgrow (by simp; omega) (fun g hg => (hown'.lt g hg).1)))
  unfold OwnN
  rw [List.length_append, natCells_app]
  exact h2

theorem list_cases (l : List UInt8) : l = [] ∨ ∃ c t, l = c :: t := by cases l with
  | nil => exact .inl rfl
  | cons c t => exact .inr ⟨c, t, rfl⟩

structure SigAt (l : List UInt8) (w : World) (rest : List UInt8) (done : List Nat) (v : Value) (wr : World) : Prop where
  eq : signsD l = (signsD rest).map (done ++ ·)
  le : done.length + rest.length ≤ l.length
  own : OwnN w.heap.size v done wr
  grow : Grow w wr

def SignsOf (l : List UInt8) (w : World) (e : Ending) (w' : World) : Prop :=
  ∃ v, e = .returned (.tuple #[v, .bool (signsD l).isSome]) ∧ OwnN w.heap.size v ((signsD l).getD []) w' ∧ Grow w w'

set_option maxRecDepth 10000 in
set_option maxHeartbeats 1600000 in
theorem rsigns_any (l : List UInt8) (w : World) (hl : l.length ≤ 1100000) : Calls Tryd.prog 33 #[.string ⟨l.toArray⟩] w (SignsOf l w) := by
  go_enter Tryd.func33, Tryd.ntmps33
  go_wp2
  go_loopg [0, 4] l.length (fun g s0 s4 wr => ∃ (R : List UInt8) (done : List Nat) (v : Value), g = R.length ∧ s0 = .string ⟨R.toArray⟩ ∧ v = s4 ∧ SigAt l w R done v wr)
  case atStart =>
    refine ⟨l, [], _, rfl, rfl, rfl, ?_, by simp, ownN_nil _ _, Grow.refl _⟩
    cases signsD l with
    | none => rfl
    | some u => rfl
  case round =>
    obtain ⟨R, done, v, rfl, rfl, rfl, hat⟩ := hrel
    have HA := Lib.hid hat
    rcases list_cases R with hR | ⟨x, t, hR⟩
    · subst hR
      have HS : Hid (signsD l = some done) := Lib.hid (by rw [hat.eq, signsD_nil]; simp)
      clear hat
      go_wp2
      go_ret2
      exact ⟨_, by rw [HS.out]; rfl, by rw [HS.out]; exact HA.out.own, HA.out.grow⟩
    · have hne : (R == []) = false := by rw [hR]; rfl
      have hnil : R ≠ [] := by rw [hR]; simp
      have hRl : R.length ≤ 1100000 := by have := hat.le; omega
      have hdl : done.length ≤ 1100000 := by have := hat.le; omega
      obtain ⟨c, hc⟩ : ∃ c, (nextD R).1 = c := ⟨_, rfl⟩
      obtain ⟨n, hn⟩ : ∃ n, (nextD R).2 = n := ⟨_, rfl⟩
      have hcn : nextD R = (c, n) := Prod.ext hc hn
      have HN := Lib.hid (rnext_any R wr hnil hRl)
      rw [hcn] at HN
      have hst := signsD_step hnil
      rw [hcn] at hst
      simp only at hst
      by_cases h0 : n = 0
      · subst h0
        rw [if_pos rfl] at hst
        have HS : Hid (signsD l = none) := Lib.hid (by rw [hat.eq, hst]; rfl)
        clear hat hR hnil hc hn hcn hst
        go_wp2_with fail
        refine (HN.out).mono ?_
        rintro e w2 ⟨rfl, rfl⟩
        go_wp2
        go_ret2
        exact ⟨_, by rw [HS.out]; rfl, by rw [HS.out]; exact ownN_nil _ _, HA.out.grow⟩
      · rw [if_neg h0] at hst
        have hle : n ≤ R.length := by have := next_le (l := R) (by rw [hcn]; exact h0); rw [hcn] at this; exact this
        have hsl := slice_from R n hle
        have hn0 : (((n : Nat) : Int) == 0) = false := by rw [beq_eq_false_iff_ne]; omega
        have HE : Hid (signsD l = (signsD (R.drop n)).map ((done ++ [c]) ++ ·)) := Lib.hid (by
          rw [hat.eq, hst]
          cases signsD (R.drop n) with
          | none => rfl
          | some u => simp)
        have hlt : (R.drop n).length < R.length := by rw [List.length_drop]; omega
        have hll : (done ++ [c]).length + (R.drop n).length ≤ l.length := by rw [List.length_append, List.length_drop, List.length_singleton]; have := hat.le; omega
        have HW : Hid (∀ W : World, W.alloc (.cells #[.int .i64 ((c : Nat) : Int)] 3) = W.alloc (.cells (natCells [c]).toArray 3)) := Lib.hid (fun _ => rfl)
        have hsz : w.heap.size ≤ wr.heap.size := hat.grow.size
        clear hat hR hnil hc hn hcn hst h0 hle
        go_wp2_with fail
        refine (HN.out).mono ?_
        rintro e w2 ⟨rfl, rfl⟩
        go_wp2_with (at_builtin; rw [HW.out]; refine wpList_append_num rfl _ _ rfl w.heap.size v done [c] 1 1 rfl HA.out.own rfl rfl (by simp only [List.length_cons, List.length_nil]; omega) hsz ?_; intro v1 w3 ho1 hb1)
        have HK : Hid (SigAt l w (R.drop n) (done ++ [c]) v1 w3) := Lib.hid ⟨HE.out, hll, ho1, Below.trans HA.out.grow hb1⟩
        clear ho1 hb1
        go_wp2
        go_roundg (R.drop n).length
        case rel => exact ⟨R.drop n, _, _, rfl, rfl, rfl, HK.out⟩
        case measure => exact hlt

end Go.Proofs.YtcnijmmpkahoaaaDoor
