/-
  What the document's own next comes to, called with any text that is not empty.
-/
import Derived.Test.YthmhpjjpjgmdaaaDoorSmall

namespace Go.Proofs.YthmhpjjpjgmdaaaDoor
open Go.RowKit Go.Lib
set_option linter.unusedSimpArgs false

theorem more_cons (n c : Nat) (b : UInt8) (r : List UInt8) : more (n + 1) c (b :: r) = if goesOn b then more n (64 * c + (b.toNat - 128)) r else none := rfl
theorem more_short : ∀ (n c : Nat) (r : List UInt8), r.length < n → more n c r = none
  | 0, c, r, h => by omega
  | n + 1, c, [], h => rfl
  | n + 1, c, b :: r, h => by
    rw [more_cons]
    split
    · exact more_short n _ r (by simpa using h)
    · rfl
theorem many_none {n least c : Nat} {r : List UInt8} (h : more (n - 1) c r = none) : many n least c r = (0, 0) := by unfold many; rw [h]
theorem many_some {n least c d : Nat} {r : List UInt8} (h : more (n - 1) c r = some d) : many n least c r = if least ≤ d ∧ d ≤ 1114111 ∧ ¬ (55296 ≤ d ∧ d ≤ 57343) then (d, n) else (0, 0) := by
  unfold many
  rw [h]
  simp only [isSign_iff]
def Two (p : Nat × Nat) (w : World) (e : Ending) (w' : World) : Prop := e = .returned (.tuple #[.int .i64 ((p.1 : Nat) : Int), .int .i64 ((p.2 : Nat) : Int)]) ∧ w' = w


set_option maxRecDepth 10000 in
set_option maxHeartbeats 400000 in
theorem rnext_two (b : UInt8) (r : List UInt8) (w : World) (h1 : 192 ≤ b.toNat) (h2 : b.toNat < 224) (hl : r.length ≤ 1000000) : Calls Tryd.prog 28 #[.string ⟨(b :: r).toArray⟩] w (Two (many 2 128 (b.toNat - 192) r) w) := by
  obtain ⟨c0, hc0⟩ : ∃ c0, b.toNat - 192 = c0 := ⟨_, rfl⟩
  rw [hc0]
  have hc32 : c0 < 32 := by omega
  have hix0 : ∀ W, (Instr.index 9 (.string ⟨(b :: r).toArray⟩) (.int .i64 0)).run Tryd.prog W = .ok (.int .u8 (b.toNat : Nat)) W := fun W => index_str (i := 0) rfl W
  obtain ⟨B, hB⟩ : ∃ B : Nat, b.toNat = B := ⟨_, rfl⟩
  rw [hB] at hix0 h1 h2 hc0
  have hwc : IntKind.i64.wrap ((B : Nat) : Int) = ((B : Nat) : Int) := by rw [IntKind.wrap_i64]; omega
  have hsub : ((B : Nat) : Int) - 192 = ((c0 : Nat) : Int) := by omega
  have hws : IntKind.i64.wrap ((c0 : Nat) : Int) = ((c0 : Nat) : Int) := by rw [IntKind.wrap_i64]; omega
  have t1 : ¬ ((B : Nat) : Int) < 128 := by omega
  have t2 : 192 ≤ ((B : Nat) : Int) := by omega
  have t3 : ((B : Nat) : Int) < 224 := by omega
  clear hB h1 h2 hc0
  have HIX : Hid (∀ (i : Nat) (x : UInt8), (b :: r)[i]? = some x → ∀ W, (Instr.index 9 (.string ⟨(b :: r).toArray⟩) (.int .i64 (i : Nat))).run Tryd.prog W = .ok (.int .u8 (x.toNat : Nat)) W) := Lib.hid (fun i x h W => index_str h W)
  have HAT : Hid (∀ (i : Nat), 1 ≤ i → i ≤ r.length → ∃ x, (b :: r)[i]? = some x ∧ r.drop (i - 1) = x :: r.drop i) := Lib.hid (fun i h1 h2 => by
    obtain ⟨j, rfl⟩ : ∃ j, i = j + 1 := ⟨i - 1, by omega⟩
    refine ⟨r[j], by simp, ?_⟩
    rw [Nat.add_sub_cancel]
    exact List.drop_eq_getElem_cons (by omega))
  obtain ⟨s, hs⟩ : ∃ s : ByteArray, s = ⟨(b :: r).toArray⟩ := ⟨_, rfl⟩
  have hsz : s.size = r.length + 1 := by rw [hs, str_size]; simp
  rw [← hs] at hix0 HIX ⊢
  clear hs
  obtain ⟨m, hm⟩ : ∃ m, s.size = m := ⟨_, rfl⟩
  have hmr : m = r.length + 1 := by omega
  have HM := Lib.hid hmr
  clear hsz hmr
  by_cases hlen : m < 2
  · have HZ := Lib.hid (many_none (n := 2) (least := 128) (more_short (2 - 1) c0 r (by have := HM.out; omega)))
    have hlen' : ((m : Nat) : Int) < 2 := by omega
    go_enter Tryd.func28, Tryd.ntmps28
    go_wp2
    go_ret2
    exact ⟨by rw [HZ.out]; rfl, rfl⟩
  have hlen' : ¬ ((m : Nat) : Int) < 2 := by omega
  go_enter Tryd.func28, Tryd.ntmps28
  go_wp2
  go_loopg [4, 7] (2 - 1) (fun g s4 s7 wr => ∃ c i : Nat, 1 ≤ i ∧ i ≤ 2 ∧ g = 2 - i ∧ s4 = .int .i64 c ∧ s7 = .int .i64 i ∧ ((i = 1 ∧ c < 32) ∨ (i = 2 ∧ c < 2048) ∨ (i = 3 ∧ c < 131072) ∨ (i = 4 ∧ c < 8388608)) ∧ Hid (more (2 - 1) c0 r = more (2 - i) c (r.drop (i - 1))) ∧ w = wr)
  case atStart => exact ⟨c0, 1, by omega, by omega, rfl, rfl, rfl, .inl ⟨rfl, hc32⟩, Lib.hid rfl, rfl⟩
  case round =>
    obtain ⟨c, i, hi1, hi2, rfl, rfl, rfl, hb, HMO, rfl⟩ := hrel
    have hcb : c < 8388608 := by omega
    by_cases hlt : i < 2
    · obtain ⟨x, hx, hd⟩ := HAT.out i hi1 (by have := HM.out; omega)
      have hix := HIX.out i x hx
      have hmo := HMO.out
      rw [hd, show 2 - i = (2 - (i + 1)) + 1 by omega, more_cons] at hmo
      have hx8 := u8_lt x
      clear hx hd
      by_cases hg : goesOn x = true
      · rw [if_pos hg] at hmo
        have hgo := goesOn_iff.1 hg
        obtain ⟨c', hc'⟩ : ∃ c', 64 * c + (x.toNat - 128) = c' := ⟨_, rfl⟩
        rw [hc'] at hmo
        have HMO' := Lib.hid hmo
        have ho1 : ¬ ((x.toNat : Nat) : Int) < 128 := by omega
        have ho2 : ¬ 192 ≤ ((x.toNat : Nat) : Int) := by omega
        have hb' : (i + 1 = 1 ∧ c' < 32) ∨ (i + 1 = 2 ∧ c' < 2048) ∨ (i + 1 = 3 ∧ c' < 131072) ∨ (i + 1 = 4 ∧ c' < 8388608) := by omega
        have HB := Lib.hid hb'
        have hwx : IntKind.i64.wrap ((x.toNat : Nat) : Int) = ((x.toNat : Nat) : Int) := by rw [IntKind.wrap_i64]; omega
        have hw1 : IntKind.i64.wrap (64 * ((c : Nat) : Int)) = 64 * ((c : Nat) : Int) := by rw [IntKind.wrap_i64]; omega
        have hw2 : IntKind.i64.wrap (64 * ((c : Nat) : Int) + ((x.toNat : Nat) : Int)) = 64 * ((c : Nat) : Int) + ((x.toNat : Nat) : Int) := by rw [IntKind.wrap_i64]; omega
        have hsm : 64 * ((c : Nat) : Int) + ((x.toNat : Nat) : Int) - 128 = ((c' : Nat) : Int) := by omega
        clear hmo hg hgo hc' hb' hb HMO
        go_wp2
        go_roundg (2 - (i + 1))
        case rel => exact ⟨c', i + 1, by omega, by omega, rfl, by first | rfl | go_num, by go_num, HB.out, HMO', rfl⟩
        case measure => omega
      · rw [if_neg hg] at hmo
        have HZ := Lib.hid (many_none (least := 128) hmo)
        have hgo : ¬ (128 ≤ x.toNat ∧ x.toNat < 192) := fun h => hg (goesOn_iff.2 h)
        by_cases ho : x.toNat < 128
        · have ho1 : ((x.toNat : Nat) : Int) < 128 := by omega
          clear hmo hgo hg ho
          go_wp2
          go_ret2
          exact ⟨by rw [HZ.out]; rfl, rfl⟩
        · have ho1 : ¬ ((x.toNat : Nat) : Int) < 128 := by omega
          have ho2 : 192 ≤ ((x.toNat : Nat) : Int) := by omega
          clear hmo hgo hg ho
          go_wp2
          go_ret2
          exact ⟨by rw [HZ.out]; rfl, rfl⟩
    · obtain rfl : i = 2 := by omega
      have hmo := HMO.out
      have HZ : Hid (many 2 128 c0 r = if 128 ≤ c ∧ c ≤ 1114111 ∧ ¬ (55296 ≤ c ∧ c ≤ 57343) then (c, 2) else (0, 0)) := Lib.hid (many_some (n := 2) (least := 128) hmo)
      clear hmo HMO hb hlt
      by_cases q1 : c < 128
      · rw [if_neg (by omega)] at HZ
        have q1' : ((c : Nat) : Int) < 128 := by omega
        go_wp2
        go_ret2
        exact ⟨by rw [HZ.out]; rfl, rfl⟩
      have q1' : ¬ ((c : Nat) : Int) < 128 := by omega
      by_cases q2 : 1114111 < c
      · rw [if_neg (by omega)] at HZ
        have q2' : 1114111 < ((c : Nat) : Int) := by omega
        go_wp2
        go_ret2
        exact ⟨by rw [HZ.out]; rfl, rfl⟩
      have q2' : ¬ 1114111 < ((c : Nat) : Int) := by omega
      by_cases q3 : 55296 ≤ c
      · have q3' : 55296 ≤ ((c : Nat) : Int) := by omega
        by_cases q4 : c ≤ 57343
        · rw [if_neg (by omega)] at HZ
          have q4' : ((c : Nat) : Int) ≤ 57343 := by omega
          go_wp2
          go_ret2
          exact ⟨by rw [HZ.out]; rfl, rfl⟩
        · rw [if_pos (by omega)] at HZ
          have q4' : ¬ ((c : Nat) : Int) ≤ 57343 := by omega
          go_wp2
          go_ret2
          exact ⟨by rw [HZ.out]; rfl, rfl⟩
      · rw [if_pos (by omega)] at HZ
        have q3' : ¬ 55296 ≤ ((c : Nat) : Int) := by omega
        go_wp2
        go_ret2
        exact ⟨by rw [HZ.out]; rfl, rfl⟩

set_option maxRecDepth 10000 in
set_option maxHeartbeats 400000 in
theorem rnext_three (b : UInt8) (r : List UInt8) (w : World) (h1 : 224 ≤ b.toNat) (h2 : b.toNat < 240) (hl : r.length ≤ 1000000) : Calls Tryd.prog 28 #[.string ⟨(b :: r).toArray⟩] w (Two (many 3 2048 (b.toNat - 224) r) w) := by
  obtain ⟨c0, hc0⟩ : ∃ c0, b.toNat - 224 = c0 := ⟨_, rfl⟩
  rw [hc0]
  have hc32 : c0 < 32 := by omega
  have hix0 : ∀ W, (Instr.index 9 (.string ⟨(b :: r).toArray⟩) (.int .i64 0)).run Tryd.prog W = .ok (.int .u8 (b.toNat : Nat)) W := fun W => index_str (i := 0) rfl W
  obtain ⟨B, hB⟩ : ∃ B : Nat, b.toNat = B := ⟨_, rfl⟩
  rw [hB] at hix0 h1 h2 hc0
  have hwc : IntKind.i64.wrap ((B : Nat) : Int) = ((B : Nat) : Int) := by rw [IntKind.wrap_i64]; omega
  have hsub : ((B : Nat) : Int) - 224 = ((c0 : Nat) : Int) := by omega
  have hws : IntKind.i64.wrap ((c0 : Nat) : Int) = ((c0 : Nat) : Int) := by rw [IntKind.wrap_i64]; omega
  have t1 : ¬ ((B : Nat) : Int) < 128 := by omega
  have t2 : 192 ≤ ((B : Nat) : Int) := by omega
  have t3 : ¬ ((B : Nat) : Int) < 224 := by omega
  have t4 : 224 ≤ ((B : Nat) : Int) := by omega
  have t5 : ((B : Nat) : Int) < 240 := by omega
  clear hB h1 h2 hc0
  have HIX : Hid (∀ (i : Nat) (x : UInt8), (b :: r)[i]? = some x → ∀ W, (Instr.index 9 (.string ⟨(b :: r).toArray⟩) (.int .i64 (i : Nat))).run Tryd.prog W = .ok (.int .u8 (x.toNat : Nat)) W) := Lib.hid (fun i x h W => index_str h W)
  have HAT : Hid (∀ (i : Nat), 1 ≤ i → i ≤ r.length → ∃ x, (b :: r)[i]? = some x ∧ r.drop (i - 1) = x :: r.drop i) := Lib.hid (fun i h1 h2 => by
    obtain ⟨j, rfl⟩ : ∃ j, i = j + 1 := ⟨i - 1, by omega⟩
    refine ⟨r[j], by simp, ?_⟩
    rw [Nat.add_sub_cancel]
    exact List.drop_eq_getElem_cons (by omega))
  obtain ⟨s, hs⟩ : ∃ s : ByteArray, s = ⟨(b :: r).toArray⟩ := ⟨_, rfl⟩
  have hsz : s.size = r.length + 1 := by rw [hs, str_size]; simp
  rw [← hs] at hix0 HIX ⊢
  clear hs
  obtain ⟨m, hm⟩ : ∃ m, s.size = m := ⟨_, rfl⟩
  have hmr : m = r.length + 1 := by omega
  have HM := Lib.hid hmr
  clear hsz hmr
  by_cases hlen : m < 3
  · have HZ := Lib.hid (many_none (n := 3) (least := 2048) (more_short (3 - 1) c0 r (by have := HM.out; omega)))
    have hlen' : ((m : Nat) : Int) < 3 := by omega
    go_enter Tryd.func28, Tryd.ntmps28
    go_wp2
    go_ret2
    exact ⟨by rw [HZ.out]; rfl, rfl⟩
  have hlen' : ¬ ((m : Nat) : Int) < 3 := by omega
  go_enter Tryd.func28, Tryd.ntmps28
  go_wp2
  go_loopg [4, 7] (3 - 1) (fun g s4 s7 wr => ∃ c i : Nat, 1 ≤ i ∧ i ≤ 3 ∧ g = 3 - i ∧ s4 = .int .i64 c ∧ s7 = .int .i64 i ∧ ((i = 1 ∧ c < 32) ∨ (i = 2 ∧ c < 2048) ∨ (i = 3 ∧ c < 131072) ∨ (i = 4 ∧ c < 8388608)) ∧ Hid (more (3 - 1) c0 r = more (3 - i) c (r.drop (i - 1))) ∧ w = wr)
  case atStart => exact ⟨c0, 1, by omega, by omega, rfl, rfl, rfl, .inl ⟨rfl, hc32⟩, Lib.hid rfl, rfl⟩
  case round =>
    obtain ⟨c, i, hi1, hi2, rfl, rfl, rfl, hb, HMO, rfl⟩ := hrel
    have hcb : c < 8388608 := by omega
    by_cases hlt : i < 3
    · obtain ⟨x, hx, hd⟩ := HAT.out i hi1 (by have := HM.out; omega)
      have hix := HIX.out i x hx
      have hmo := HMO.out
      rw [hd, show 3 - i = (3 - (i + 1)) + 1 by omega, more_cons] at hmo
      have hx8 := u8_lt x
      clear hx hd
      by_cases hg : goesOn x = true
      · rw [if_pos hg] at hmo
        have hgo := goesOn_iff.1 hg
        obtain ⟨c', hc'⟩ : ∃ c', 64 * c + (x.toNat - 128) = c' := ⟨_, rfl⟩
        rw [hc'] at hmo
        have HMO' := Lib.hid hmo
        have ho1 : ¬ ((x.toNat : Nat) : Int) < 128 := by omega
        have ho2 : ¬ 192 ≤ ((x.toNat : Nat) : Int) := by omega
        have hb' : (i + 1 = 1 ∧ c' < 32) ∨ (i + 1 = 2 ∧ c' < 2048) ∨ (i + 1 = 3 ∧ c' < 131072) ∨ (i + 1 = 4 ∧ c' < 8388608) := by omega
        have HB := Lib.hid hb'
        have hwx : IntKind.i64.wrap ((x.toNat : Nat) : Int) = ((x.toNat : Nat) : Int) := by rw [IntKind.wrap_i64]; omega
        have hw1 : IntKind.i64.wrap (64 * ((c : Nat) : Int)) = 64 * ((c : Nat) : Int) := by rw [IntKind.wrap_i64]; omega
        have hw2 : IntKind.i64.wrap (64 * ((c : Nat) : Int) + ((x.toNat : Nat) : Int)) = 64 * ((c : Nat) : Int) + ((x.toNat : Nat) : Int) := by rw [IntKind.wrap_i64]; omega
        have hsm : 64 * ((c : Nat) : Int) + ((x.toNat : Nat) : Int) - 128 = ((c' : Nat) : Int) := by omega
        clear hmo hg hgo hc' hb' hb HMO
        go_wp2
        go_roundg (3 - (i + 1))
        case rel => exact ⟨c', i + 1, by omega, by omega, rfl, by first | rfl | go_num, by go_num, HB.out, HMO', rfl⟩
        case measure => omega
      · rw [if_neg hg] at hmo
        have HZ := Lib.hid (many_none (least := 2048) hmo)
        have hgo : ¬ (128 ≤ x.toNat ∧ x.toNat < 192) := fun h => hg (goesOn_iff.2 h)
        by_cases ho : x.toNat < 128
        · have ho1 : ((x.toNat : Nat) : Int) < 128 := by omega
          clear hmo hgo hg ho
          go_wp2
          go_ret2
          exact ⟨by rw [HZ.out]; rfl, rfl⟩
        · have ho1 : ¬ ((x.toNat : Nat) : Int) < 128 := by omega
          have ho2 : 192 ≤ ((x.toNat : Nat) : Int) := by omega
          clear hmo hgo hg ho
          go_wp2
          go_ret2
          exact ⟨by rw [HZ.out]; rfl, rfl⟩
    · obtain rfl : i = 3 := by omega
      have hmo := HMO.out
      have HZ : Hid (many 3 2048 c0 r = if 2048 ≤ c ∧ c ≤ 1114111 ∧ ¬ (55296 ≤ c ∧ c ≤ 57343) then (c, 3) else (0, 0)) := Lib.hid (many_some (n := 3) (least := 2048) hmo)
      clear hmo HMO hb hlt
      by_cases q1 : c < 2048
      · rw [if_neg (by omega)] at HZ
        have q1' : ((c : Nat) : Int) < 2048 := by omega
        go_wp2
        go_ret2
        exact ⟨by rw [HZ.out]; rfl, rfl⟩
      have q1' : ¬ ((c : Nat) : Int) < 2048 := by omega
      by_cases q2 : 1114111 < c
      · rw [if_neg (by omega)] at HZ
        have q2' : 1114111 < ((c : Nat) : Int) := by omega
        go_wp2
        go_ret2
        exact ⟨by rw [HZ.out]; rfl, rfl⟩
      have q2' : ¬ 1114111 < ((c : Nat) : Int) := by omega
      by_cases q3 : 55296 ≤ c
      · have q3' : 55296 ≤ ((c : Nat) : Int) := by omega
        by_cases q4 : c ≤ 57343
        · rw [if_neg (by omega)] at HZ
          have q4' : ((c : Nat) : Int) ≤ 57343 := by omega
          go_wp2
          go_ret2
          exact ⟨by rw [HZ.out]; rfl, rfl⟩
        · rw [if_pos (by omega)] at HZ
          have q4' : ¬ ((c : Nat) : Int) ≤ 57343 := by omega
          go_wp2
          go_ret2
          exact ⟨by rw [HZ.out]; rfl, rfl⟩
      · rw [if_pos (by omega)] at HZ
        have q3' : ¬ 55296 ≤ ((c : Nat) : Int) := by omega
        go_wp2
        go_ret2
        exact ⟨by rw [HZ.out]; rfl, rfl⟩

set_option maxRecDepth 10000 in
set_option maxHeartbeats 400000 in
theorem rnext_four (b : UInt8) (r : List UInt8) (w : World) (h1 : 240 ≤ b.toNat) (h2 : b.toNat < 248) (hl : r.length ≤ 1000000) : Calls Tryd.prog 28 #[.string ⟨(b :: r).toArray⟩] w (Two (many 4 65536 (b.toNat - 240) r) w) := by
  obtain ⟨c0, hc0⟩ : ∃ c0, b.toNat - 240 = c0 := ⟨_, rfl⟩
  rw [hc0]
  have hc32 : c0 < 32 := by omega
  have hix0 : ∀ W, (Instr.index 9 (.string ⟨(b :: r).toArray⟩) (.int .i64 0)).run Tryd.prog W = .ok (.int .u8 (b.toNat : Nat)) W := fun W => index_str (i := 0) rfl W
  obtain ⟨B, hB⟩ : ∃ B : Nat, b.toNat = B := ⟨_, rfl⟩
  rw [hB] at hix0 h1 h2 hc0
  have hwc : IntKind.i64.wrap ((B : Nat) : Int) = ((B : Nat) : Int) := by rw [IntKind.wrap_i64]; omega
  have hsub : ((B : Nat) : Int) - 240 = ((c0 : Nat) : Int) := by omega
  have hws : IntKind.i64.wrap ((c0 : Nat) : Int) = ((c0 : Nat) : Int) := by rw [IntKind.wrap_i64]; omega
  have t1 : ¬ ((B : Nat) : Int) < 128 := by omega
  have t2 : 192 ≤ ((B : Nat) : Int) := by omega
  have t3 : ¬ ((B : Nat) : Int) < 224 := by omega
  have t4 : 224 ≤ ((B : Nat) : Int) := by omega
  have t5 : ¬ ((B : Nat) : Int) < 240 := by omega
  have t6 : 240 ≤ ((B : Nat) : Int) := by omega
  have t7 : ((B : Nat) : Int) < 248 := by omega
  clear hB h1 h2 hc0
  have HIX : Hid (∀ (i : Nat) (x : UInt8), (b :: r)[i]? = some x → ∀ W, (Instr.index 9 (.string ⟨(b :: r).toArray⟩) (.int .i64 (i : Nat))).run Tryd.prog W = .ok (.int .u8 (x.toNat : Nat)) W) := Lib.hid (fun i x h W => index_str h W)
  have HAT : Hid (∀ (i : Nat), 1 ≤ i → i ≤ r.length → ∃ x, (b :: r)[i]? = some x ∧ r.drop (i - 1) = x :: r.drop i) := Lib.hid (fun i h1 h2 => by
    obtain ⟨j, rfl⟩ : ∃ j, i = j + 1 := ⟨i - 1, by omega⟩
    refine ⟨r[j], by simp, ?_⟩
    rw [Nat.add_sub_cancel]
    exact List.drop_eq_getElem_cons (by omega))
  obtain ⟨s, hs⟩ : ∃ s : ByteArray, s = ⟨(b :: r).toArray⟩ := ⟨_, rfl⟩
  have hsz : s.size = r.length + 1 := by rw [hs, str_size]; simp
  rw [← hs] at hix0 HIX ⊢
  clear hs
  obtain ⟨m, hm⟩ : ∃ m, s.size = m := ⟨_, rfl⟩
  have hmr : m = r.length + 1 := by omega
  have HM := Lib.hid hmr
  clear hsz hmr
  by_cases hlen : m < 4
  · have HZ := Lib.hid (many_none (n := 4) (least := 65536) (more_short (4 - 1) c0 r (by have := HM.out; omega)))
    have hlen' : ((m : Nat) : Int) < 4 := by omega
    go_enter Tryd.func28, Tryd.ntmps28
    go_wp2
    go_ret2
    exact ⟨by rw [HZ.out]; rfl, rfl⟩
  have hlen' : ¬ ((m : Nat) : Int) < 4 := by omega
  go_enter Tryd.func28, Tryd.ntmps28
  go_wp2
  go_loopg [4, 7] (4 - 1) (fun g s4 s7 wr => ∃ c i : Nat, 1 ≤ i ∧ i ≤ 4 ∧ g = 4 - i ∧ s4 = .int .i64 c ∧ s7 = .int .i64 i ∧ ((i = 1 ∧ c < 32) ∨ (i = 2 ∧ c < 2048) ∨ (i = 3 ∧ c < 131072) ∨ (i = 4 ∧ c < 8388608)) ∧ Hid (more (4 - 1) c0 r = more (4 - i) c (r.drop (i - 1))) ∧ w = wr)
  case atStart => exact ⟨c0, 1, by omega, by omega, rfl, rfl, rfl, .inl ⟨rfl, hc32⟩, Lib.hid rfl, rfl⟩
  case round =>
    obtain ⟨c, i, hi1, hi2, rfl, rfl, rfl, hb, HMO, rfl⟩ := hrel
    have hcb : c < 8388608 := by omega
    by_cases hlt : i < 4
    · obtain ⟨x, hx, hd⟩ := HAT.out i hi1 (by have := HM.out; omega)
      have hix := HIX.out i x hx
      have hmo := HMO.out
      rw [hd, show 4 - i = (4 - (i + 1)) + 1 by omega, more_cons] at hmo
      have hx8 := u8_lt x
      clear hx hd
      by_cases hg : goesOn x = true
      · rw [if_pos hg] at hmo
        have hgo := goesOn_iff.1 hg
        obtain ⟨c', hc'⟩ : ∃ c', 64 * c + (x.toNat - 128) = c' := ⟨_, rfl⟩
        rw [hc'] at hmo
        have HMO' := Lib.hid hmo
        have ho1 : ¬ ((x.toNat : Nat) : Int) < 128 := by omega
        have ho2 : ¬ 192 ≤ ((x.toNat : Nat) : Int) := by omega
        have hb' : (i + 1 = 1 ∧ c' < 32) ∨ (i + 1 = 2 ∧ c' < 2048) ∨ (i + 1 = 3 ∧ c' < 131072) ∨ (i + 1 = 4 ∧ c' < 8388608) := by omega
        have HB := Lib.hid hb'
        have hwx : IntKind.i64.wrap ((x.toNat : Nat) : Int) = ((x.toNat : Nat) : Int) := by rw [IntKind.wrap_i64]; omega
        have hw1 : IntKind.i64.wrap (64 * ((c : Nat) : Int)) = 64 * ((c : Nat) : Int) := by rw [IntKind.wrap_i64]; omega
        have hw2 : IntKind.i64.wrap (64 * ((c : Nat) : Int) + ((x.toNat : Nat) : Int)) = 64 * ((c : Nat) : Int) + ((x.toNat : Nat) : Int) := by rw [IntKind.wrap_i64]; omega
        have hsm : 64 * ((c : Nat) : Int) + ((x.toNat : Nat) : Int) - 128 = ((c' : Nat) : Int) := by omega
        clear hmo hg hgo hc' hb' hb HMO
        go_wp2
        go_roundg (4 - (i + 1))
        case rel => exact ⟨c', i + 1, by omega, by omega, rfl, by first | rfl | go_num, by go_num, HB.out, HMO', rfl⟩
        case measure => omega
      · rw [if_neg hg] at hmo
        have HZ := Lib.hid (many_none (least := 65536) hmo)
        have hgo : ¬ (128 ≤ x.toNat ∧ x.toNat < 192) := fun h => hg (goesOn_iff.2 h)
        by_cases ho : x.toNat < 128
        · have ho1 : ((x.toNat : Nat) : Int) < 128 := by omega
          clear hmo hgo hg ho
          go_wp2
          go_ret2
          exact ⟨by rw [HZ.out]; rfl, rfl⟩
        · have ho1 : ¬ ((x.toNat : Nat) : Int) < 128 := by omega
          have ho2 : 192 ≤ ((x.toNat : Nat) : Int) := by omega
          clear hmo hgo hg ho
          go_wp2
          go_ret2
          exact ⟨by rw [HZ.out]; rfl, rfl⟩
    · obtain rfl : i = 4 := by omega
      have hmo := HMO.out
      have HZ : Hid (many 4 65536 c0 r = if 65536 ≤ c ∧ c ≤ 1114111 ∧ ¬ (55296 ≤ c ∧ c ≤ 57343) then (c, 4) else (0, 0)) := Lib.hid (many_some (n := 4) (least := 65536) hmo)
      clear hmo HMO hb hlt
      by_cases q1 : c < 65536
      · rw [if_neg (by omega)] at HZ
        have q1' : ((c : Nat) : Int) < 65536 := by omega
        go_wp2
        go_ret2
        exact ⟨by rw [HZ.out]; rfl, rfl⟩
      have q1' : ¬ ((c : Nat) : Int) < 65536 := by omega
      by_cases q2 : 1114111 < c
      · rw [if_neg (by omega)] at HZ
        have q2' : 1114111 < ((c : Nat) : Int) := by omega
        go_wp2
        go_ret2
        exact ⟨by rw [HZ.out]; rfl, rfl⟩
      have q2' : ¬ 1114111 < ((c : Nat) : Int) := by omega
      by_cases q3 : 55296 ≤ c
      · have q3' : 55296 ≤ ((c : Nat) : Int) := by omega
        by_cases q4 : c ≤ 57343
        · rw [if_neg (by omega)] at HZ
          have q4' : ((c : Nat) : Int) ≤ 57343 := by omega
          go_wp2
          go_ret2
          exact ⟨by rw [HZ.out]; rfl, rfl⟩
        · rw [if_pos (by omega)] at HZ
          have q4' : ¬ ((c : Nat) : Int) ≤ 57343 := by omega
          go_wp2
          go_ret2
          exact ⟨by rw [HZ.out]; rfl, rfl⟩
      · rw [if_pos (by omega)] at HZ
        have q3' : ¬ 55296 ≤ ((c : Nat) : Int) := by omega
        go_wp2
        go_ret2
        exact ⟨by rw [HZ.out]; rfl, rfl⟩

set_option maxHeartbeats 800000 in
theorem rnext_any (l : List UInt8) (w : World) (hne : l ≠ []) (hl : l.length ≤ 1000000) : Calls Tryd.prog 28 #[.string ⟨l.toArray⟩] w (Two (nextD l) w) := by
  rcases l with _ | ⟨b, r⟩
  · exact absurd rfl hne
  have hr : r.length ≤ 1000000 := by simp at hl; omega
  have hb8 := u8_lt b
  rw [nextD_cons]
  have hix0 : ∀ W, (Instr.index 9 (.string ⟨(b :: r).toArray⟩) (.int .i64 0)).run Tryd.prog W = .ok (.int .u8 (b.toNat : Nat)) W := fun W => index_str (i := 0) rfl W
  by_cases h1 : b.toNat < 128
  · rw [if_pos h1]
    obtain ⟨s, hs⟩ : ∃ s : ByteArray, s = ⟨(b :: r).toArray⟩ := ⟨_, rfl⟩
    rw [← hs] at hix0 ⊢
    have h1' : ((b.toNat : Nat) : Int) < 128 := by omega
    have hw : IntKind.i64.wrap ((b.toNat : Nat) : Int) = ((b.toNat : Nat) : Int) := by rw [IntKind.wrap_i64]; omega
    clear hs hne hl hr hb8 h1
    go_enter Tryd.func28, Tryd.ntmps28
    go_wp2
    go_ret2
    exact ⟨rfl, rfl⟩
  rw [if_neg h1]
  by_cases h2 : b.toNat < 192
  · rw [if_pos h2]
    obtain ⟨s, hs⟩ : ∃ s : ByteArray, s = ⟨(b :: r).toArray⟩ := ⟨_, rfl⟩
    rw [← hs] at hix0 ⊢
    have h1' : ¬ ((b.toNat : Nat) : Int) < 128 := by omega
    have h2' : ¬ 192 ≤ ((b.toNat : Nat) : Int) := by omega
    have h3' : ¬ 224 ≤ ((b.toNat : Nat) : Int) := by omega
    have h4' : ¬ 240 ≤ ((b.toNat : Nat) : Int) := by omega
    have hw : IntKind.i64.wrap ((b.toNat : Nat) : Int) = ((b.toNat : Nat) : Int) := by rw [IntKind.wrap_i64]; omega
    clear hs hne hl hr hb8 h1 h2
    go_enter Tryd.func28, Tryd.ntmps28
    go_wp2
    go_ret2
    exact ⟨rfl, rfl⟩
  rw [if_neg h2]
  by_cases h3 : b.toNat < 224
  · rw [if_pos h3]
    exact rnext_two b r w (by omega) h3 hr
  rw [if_neg h3]
  by_cases h4 : b.toNat < 240
  · rw [if_pos h4]
    exact rnext_three b r w (by omega) h4 hr
  rw [if_neg h4]
  by_cases h5 : b.toNat < 248
  · rw [if_pos h5]
    exact rnext_four b r w (by omega) h5 hr
  · rw [if_neg h5]
    obtain ⟨s, hs⟩ : ∃ s : ByteArray, s = ⟨(b :: r).toArray⟩ := ⟨_, rfl⟩
    rw [← hs] at hix0 ⊢
    have h1' : ¬ ((b.toNat : Nat) : Int) < 128 := by omega
    have h2' : 192 ≤ ((b.toNat : Nat) : Int) := by omega
    have h3' : ¬ ((b.toNat : Nat) : Int) < 224 := by omega
    have h4' : 224 ≤ ((b.toNat : Nat) : Int) := by omega
    have h5' : ¬ ((b.toNat : Nat) : Int) < 240 := by omega
    have h6' : 240 ≤ ((b.toNat : Nat) : Int) := by omega
    have h7' : ¬ ((b.toNat : Nat) : Int) < 248 := by omega
    have hw : IntKind.i64.wrap ((b.toNat : Nat) : Int) = ((b.toNat : Nat) : Int) := by rw [IntKind.wrap_i64]; omega
    clear hs hne hl hr hb8 h1 h2 h3 h4 h5
    go_enter Tryd.func28, Tryd.ntmps28
    go_wp2
    go_ret2
    exact ⟨rfl, rfl⟩
end Go.Proofs.YthmhpjjpjgmdaaaDoor
