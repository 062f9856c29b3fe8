/-
  What the document's own sign comes to, called with any text that is not empty.
-/
import Derived.Test.YtcdjilipmjjjkaaDoorROne
namespace Go.Proofs.YtcdjilipmjjjkaaDoor
open Go.RowKit Go.Lib
set_option linter.unusedSimpArgs false

def TwoG (p : Nat × Nat) (w : World) (e : Ending) (w' : World) : Prop := e = .returned (.tuple #[.int .i64 ((p.1 : Nat) : Int), .int .i64 ((p.2 : Nat) : Int)]) ∧ Grow w w'
theorem index_tabT {k : Nat} (hk : k < 43) (W : World) : (Instr.index 9 (.string tabStr) (.int .i64 (k : Nat))).run Tryd.prog W = .ok (.int .u8 ((tabT.getD k 0).toNat : Nat)) W := by
  have h : tabT[k]? = some (tabT.getD k 0) := by
    have : k < tabT.length := by rw [tab_len.2]; exact hk
    simp [this]
  exact index_str h W
theorem hexIn_nil (k n i : Nat) : hexIn k n i [] = (0, 0) := by cases k <;> rfl
theorem hexIn_cons (k n i : Nat) (b : UInt8) (r : List UInt8) : hexIn (k + 1) n i (b :: r) = if b.toNat = 125 then (n, i + 1)
    else if 48 ≤ b.toNat ∧ b.toNat ≤ 57 then hexIn k (16 * n + (b.toNat - 48)) (i + 1) r
    else if 65 ≤ b.toNat ∧ b.toNat ≤ 70 then hexIn k (16 * n + (b.toNat - 55)) (i + 1) r
    else (0, 0) := rfl
theorem signD_two (b x : UInt8) (r : List UInt8) (h : b.toNat = 64) (h2 : x.toNat ≠ 64) : signD (b :: x :: r) = match meant x with
      | some c => (c, 2)
      | none => hexIn 8 0 2 r := by
  show (if b.toNat = 64 then (if x.toNat = 64 then (64, 2) else match meant x with
      | some c => (c, 2)
      | none => hexIn 8 0 2 r) else (b.toNat, 1)) = _
  rw [if_pos h, if_neg h2]
theorem pow_le8 {j : Nat} (h : j ≤ 8) : 16 ^ j ≤ 4294967296 := Nat.le_trans (Nat.pow_le_pow_right (by omega) h) (by decide)

set_option maxRecDepth 10000 in
set_option maxHeartbeats 1600000 in
theorem rsign_two (b x : UInt8) (r : List UInt8) (w : World) (hb : b.toNat = 64) (hx : x.toNat ≠ 64) (hl : r.length ≤ 1000000) : Calls Tryd.prog 21 #[.string ⟨(b :: x :: r).toArray⟩] w (TwoG (signD (b :: x :: r)) w) := by
  obtain ⟨P, hP⟩ : ∃ P, signD (b :: x :: r) = P := ⟨_, rfl⟩
  have HPS : Hid (∀ c, meant x = some c → P = (c, 2)) := Lib.hid (fun c h => by rw [← hP, signD_two b x r hb hx, h])
  have HPN : Hid (meant x = none → P = hexIn 8 0 2 r) := Lib.hid (fun h => by rw [← hP, signD_two b x r hb hx, h])
  rw [hP]
  have hix0 : ∀ W, (Instr.index 9 (.string ⟨(b :: x :: r).toArray⟩) (.int .i64 0)).run Tryd.prog W = .ok (.int .u8 (b.toNat : Nat)) W := fun W => index_str (i := 0) rfl W
  have hix1 : ∀ W, (Instr.index 9 (.string ⟨(b :: x :: r).toArray⟩) (.int .i64 1)).run Tryd.prog W = .ok (.int .u8 (x.toNat : Nat)) W := fun W => index_str (i := 1) rfl W
  rw [hb] at hix0
  have HIX : Hid (∀ (i : Nat) (y : UInt8), (b :: x :: r)[i]? = some y → ∀ W, (Instr.index 9 (.string ⟨(b :: x :: r).toArray⟩) (.int .i64 (i : Nat))).run Tryd.prog W = .ok (.int .u8 (y.toNat : Nat)) W) := Lib.hid (fun i y h W => index_str h W)
  have HAT : Hid (∀ (i : Nat), 2 ≤ i → i < r.length + 2 → ∃ y, (b :: x :: r)[i]? = some y ∧ r.drop (i - 2) = y :: r.drop (i - 1)) := Lib.hid (fun i h1 h2 => by
    obtain ⟨j, rfl⟩ : ∃ j, i = j + 2 := ⟨i - 2, by omega⟩
    refine ⟨r[j], by simp, ?_⟩
    rw [show j + 2 - 2 = j by omega, show j + 2 - 1 = j + 1 by omega]
    exact List.drop_eq_getElem_cons (by omega))
  obtain ⟨s, hs⟩ : ∃ s : ByteArray, s = ⟨(b :: x :: r).toArray⟩ := ⟨_, rfl⟩
  have hsz : s.size = r.length + 2 := by rw [hs, str_size]; simp
  rw [← hs] at hix0 hix1 HIX ⊢
  clear hs
  obtain ⟨m, hm⟩ : ∃ m, s.size = m := ⟨_, rfl⟩
  have hmr : m = r.length + 2 := by omega
  have HM := Lib.hid hmr
  have hm2 : ¬ ((m : Nat) : Int) < 2 := by omega
  have hmb : m ≤ 1000002 := by omega
  have hx8 := u8_lt x
  have hxb : (((x.toNat : Nat) : Int) == 64) = false := by rw [beq_eq_false_iff_ne]; omega
  clear hsz hmr hl hx hb hP
  go_enter Tryd.func21, Tryd.ntmps21
  go_wp2_with fail
  refine (rtable_any w).mono ?_
  rintro e w1 ⟨rfl, hn, hg⟩
  have HN := Lib.hid hn
  have HG := Lib.hid hg
  clear hn hg
  go_wp2
  go_loopg [6] 43 (fun g s6 wr => ∃ k : Nat, k ≤ 43 ∧ g = 43 - k ∧ s6 = .int .i64 k ∧ Hid (meant x = meantF (tabS.drop k) (tabT.drop k) x) ∧ Hid (NumsAt wr (some ⟨w.heap.size, 0, none⟩) tabS) ∧ Hid (Grow w wr))
  case atStart => exact ⟨0, by omega, rfl, rfl, Lib.hid rfl, HN, HG⟩
  case round =>
    clear HN HG
    obtain ⟨k, hk, rfl, rfl, HS, HN, HG⟩ := hrel
    by_cases hlt : k < 43
    · have hcell := HN.out.cell (i := k) (by rw [tab_len.1]; exact hlt)
      have hit := fun W => index_tabT hlt W
      by_cases he : tabT.getD k 0 = x
      · have HR : Hid (meant x = some (tabS.getD k 0)) := Lib.hid (by rw [HS.out, meant_drop hlt, if_pos he])
        rw [he] at hit
        obtain ⟨t, ht⟩ : ∃ t, tabS.getD k 0 = t := ⟨_, rfl⟩
        rw [ht] at HR hcell
        clear he ht
        go_wp2
        go_region
        go_wp2
        go_ret2
        exact ⟨by rw [HPS.out _ HR.out]; rfl, HG.out.drew⟩
      · have hne : ((((tabT.getD k 0).toNat : Nat) : Int) == ((x.toNat : Nat) : Int)) = false := by simp only [beq_eq_false_iff_ne, ne_eq, Int.natCast_inj, UInt8.toNat_inj]; exact he
        have HR : Hid (meant x = meantF (tabS.drop (k + 1)) (tabT.drop (k + 1)) x) := Lib.hid (by rw [HS.out, meant_drop hlt, if_neg he])
        obtain ⟨t, ht⟩ : ∃ t, (tabT.getD k 0).toNat = t := ⟨_, rfl⟩
        rw [ht] at hit hne
        clear he ht HS hcell
        go_wp2
        go_region
        go_wp2
        go_roundg (43 - (k + 1))
        case rel => exact ⟨k + 1, by omega, rfl, by go_num, HR, Lib.hid (HN.out.grow ((Grow.refl _).drew)), Lib.hid HG.out.drew⟩
        case measure => omega
    · obtain rfl : k = 43 := by omega
      have HR := Lib.hid (HPN.out (by rw [HS.out]; rfl))
      clear HS hlt hk HPS HPN HN
      go_wp2
      go_loopg [7, 8] 8 (fun g s7 s8 wx => ∃ n i : Nat, 2 ≤ i ∧ i ≤ 10 ∧ i ≤ m ∧ g = 10 - i ∧ s7 = .int .i64 n ∧ s8 = .int .i64 i ∧ n < 16 ^ (i - 2) ∧ Hid (P = hexIn (10 - i) n i (r.drop (i - 2))) ∧ wr = wx)
      case atStart => exact ⟨0, 2, by omega, by omega, by omega, rfl, rfl, rfl, by decide, HR, rfl⟩
      case round =>
        obtain ⟨n, i, hi1, hi2, him, rfl, rfl, rfl, hn, HH, rfl⟩ := hrel
        have hn32 : n < 4294967296 := Nat.lt_of_lt_of_le hn (pow_le8 (by omega))
        by_cases h1 : i < m
        · have h1' : ((i : Nat) : Int) < ((m : Nat) : Int) := by omega
          by_cases h2 : i < 10
          · have h2' : ((i : Nat) : Int) < 10 := by omega
            obtain ⟨y, hy, hd⟩ := HAT.out i hi1 (by have := HM.out; omega)
            have hix := HIX.out i y hy
            have hh := HH.out
            rw [hd, show 10 - i = (10 - (i + 1)) + 1 by omega, hexIn_cons] at hh
            have hy8 := u8_lt y
            have hwi : IntKind.i64.wrap (((i : Nat) : Int) + 1) = ((i + 1 : Nat) : Int) := by rw [IntKind.wrap_i64]; omega
            have hpw : 16 ^ (i + 1 - 2) = 16 * 16 ^ (i - 2) := by rw [show i + 1 - 2 = (i - 2) + 1 by omega, Nat.pow_succ, Nat.mul_comm]
            clear hy hd HH
            by_cases y1 : y.toNat = 125
            · rw [if_pos y1] at hh
              rw [y1] at hix
              have HF := Lib.hid hh
              clear hh y1 hn hpw
              go_wp2
              go_ret2
              exact ⟨by rw [HF.out]; rfl, HG.out⟩
            rw [if_neg y1] at hh
            have y1b : (((y.toNat : Nat) : Int) == 125) = false := by rw [beq_eq_false_iff_ne]; omega
            by_cases y2 : 48 ≤ y.toNat ∧ y.toNat ≤ 57
            · rw [if_pos y2] at hh
              obtain ⟨D, hD⟩ : ∃ D, y.toNat - 48 = D := ⟨_, rfl⟩
              rw [hD] at hh
              have HF := Lib.hid hh
              have z1 : 48 ≤ ((y.toNat : Nat) : Int) := by omega
              have z2 : ((y.toNat : Nat) : Int) ≤ 57 := by omega
              have w8 : IntKind.u8.wrap (((y.toNat : Nat) : Int) - 48) = ((D : Nat) : Int) := by rw [IntKind.wrap_u8]; omega
              have wD : IntKind.i64.wrap ((D : Nat) : Int) = ((D : Nat) : Int) := by rw [IntKind.wrap_i64]; omega
              have wm : IntKind.i64.wrap (16 * ((n : Nat) : Int)) = 16 * ((n : Nat) : Int) := by rw [IntKind.wrap_i64]; omega
              have ws : IntKind.i64.wrap (16 * ((n : Nat) : Int) + ((D : Nat) : Int)) = ((16 * n + D : Nat) : Int) := by rw [IntKind.wrap_i64]; omega
              have hn' : 16 * n + D < 16 ^ (i + 1 - 2) := by rw [hpw]; omega
              clear hh y1 y2 hn hpw hD hy8
              go_wp2
              go_roundg (10 - (i + 1))
              case rel => exact ⟨16 * n + D, i + 1, by omega, by omega, by omega, rfl, by first | rfl | go_num, by first | rfl | go_num, hn', HF, rfl⟩
              case measure => omega
            rw [if_neg y2] at hh
            by_cases y3 : 65 ≤ y.toNat ∧ y.toNat ≤ 70
            · rw [if_pos y3] at hh
              obtain ⟨D, hD⟩ : ∃ D, y.toNat - 55 = D := ⟨_, rfl⟩
              rw [hD] at hh
              have HF := Lib.hid hh
              have z1 : 48 ≤ ((y.toNat : Nat) : Int) := by omega
              have z2 : ¬ ((y.toNat : Nat) : Int) ≤ 57 := by omega
              have z3 : 65 ≤ ((y.toNat : Nat) : Int) := by omega
              have z4 : ((y.toNat : Nat) : Int) ≤ 70 := by omega
              obtain ⟨E, hE⟩ : ∃ E, y.toNat - 65 = E := ⟨_, rfl⟩
              have w8 : IntKind.u8.wrap (((y.toNat : Nat) : Int) - 65) = ((E : Nat) : Int) := by rw [IntKind.wrap_u8]; omega
              have wE : IntKind.i64.wrap ((E : Nat) : Int) = ((E : Nat) : Int) := by rw [IntKind.wrap_i64]; omega
              have wD : IntKind.i64.wrap (((E : Nat) : Int) + 10) = ((D : Nat) : Int) := by rw [IntKind.wrap_i64]; omega
              have wm : IntKind.i64.wrap (16 * ((n : Nat) : Int)) = 16 * ((n : Nat) : Int) := by rw [IntKind.wrap_i64]; omega
              have ws : IntKind.i64.wrap (16 * ((n : Nat) : Int) + ((D : Nat) : Int)) = ((16 * n + D : Nat) : Int) := by rw [IntKind.wrap_i64]; omega
              have hn' : 16 * n + D < 16 ^ (i + 1 - 2) := by rw [hpw]; omega
              clear hh y1 y2 y3 hn hpw hD hE hy8
              go_wp2
              go_roundg (10 - (i + 1))
              case rel => exact ⟨16 * n + D, i + 1, by omega, by omega, by omega, rfl, by first | rfl | go_num, by first | rfl | go_num, hn', HF, rfl⟩
              case measure => omega
            rw [if_neg y3] at hh
            have HF := Lib.hid hh
            clear hh hn hpw
            by_cases a1 : 48 ≤ y.toNat
            · have z1 : 48 ≤ ((y.toNat : Nat) : Int) := by omega
              have z2 : ¬ ((y.toNat : Nat) : Int) ≤ 57 := by omega
              by_cases a2 : 65 ≤ y.toNat
              · have z3 : 65 ≤ ((y.toNat : Nat) : Int) := by omega
                have z4 : ¬ ((y.toNat : Nat) : Int) ≤ 70 := by omega
                clear y1 y2 y3 a1 a2
                go_wp2
                go_ret2
                exact ⟨by rw [HF.out]; rfl, HG.out⟩
              · have z3 : ¬ 65 ≤ ((y.toNat : Nat) : Int) := by omega
                clear y1 y2 y3 a1 a2
                go_wp2
                go_ret2
                exact ⟨by rw [HF.out]; rfl, HG.out⟩
            · have z1 : ¬ 48 ≤ ((y.toNat : Nat) : Int) := by omega
              have z3 : ¬ 65 ≤ ((y.toNat : Nat) : Int) := by omega
              clear y1 y2 y3 a1
              go_wp2
              go_ret2
              exact ⟨by rw [HF.out]; rfl, HG.out⟩
          · have h2' : ¬ ((i : Nat) : Int) < 10 := by omega
            have HF : Hid (P = (0, 0)) := Lib.hid (by rw [HH.out, show 10 - i = 0 by omega]; rfl)
            clear HH hn
            go_wp2
            go_ret2
            exact ⟨by rw [HF.out]; rfl, HG.out⟩
        · have h1' : ¬ ((i : Nat) : Int) < ((m : Nat) : Int) := by omega
          have HF : Hid (P = (0, 0)) := Lib.hid (by
            have := HM.out
            rw [HH.out, List.drop_of_length_le (by omega), hexIn_nil])
          clear HH hn
          go_wp2
          go_ret2
          exact ⟨by rw [HF.out]; rfl, HG.out⟩

set_option maxHeartbeats 800000 in
theorem rsign_any (l : List UInt8) (w : World) (hne : l ≠ []) (hl : l.length ≤ 1000000) : Calls Tryd.prog 21 #[.string ⟨l.toArray⟩] w (TwoG (signD l) w) := by
  rcases l with _ | ⟨b, r⟩
  · exact absurd rfl hne
  have hix0 : ∀ W, (Instr.index 9 (.string ⟨(b :: r).toArray⟩) (.int .i64 0)).run Tryd.prog W = .ok (.int .u8 (b.toNat : Nat)) W := fun W => index_str (i := 0) rfl W
  have hb8 := u8_lt b
  by_cases hb : b.toNat = 64
  · rcases r with _ | ⟨x, r⟩
    · have HP : Hid (signD [b] = (0, 0)) := Lib.hid (by show (if b.toNat = 64 then (0, 0) else (b.toNat, 1)) = _; rw [if_pos hb])
      rw [hb] at hix0
      obtain ⟨P, hP⟩ : ∃ P, signD [b] = P := ⟨_, rfl⟩
      rw [hP] at HP ⊢
      clear hP
      go_enter Tryd.func21, Tryd.ntmps21
      go_wp2
      go_ret2
      exact ⟨by rw [HP.out]; rfl, Grow.refl _⟩
    · by_cases hx : x.toNat = 64
      · have HP : Hid (signD (b :: x :: r) = (64, 2)) := Lib.hid (by
          show (if b.toNat = 64 then (if x.toNat = 64 then (64, 2) else match meant x with
            | some c => (c, 2)
            | none => hexIn 8 0 2 r) else (b.toNat, 1)) = _
          rw [if_pos hb, if_pos hx])
        have hix1 : ∀ W, (Instr.index 9 (.string ⟨(b :: x :: r).toArray⟩) (.int .i64 1)).run Tryd.prog W = .ok (.int .u8 (x.toNat : Nat)) W := fun W => index_str (i := 1) rfl W
        rw [hb] at hix0
        rw [hx] at hix1
        obtain ⟨P, hP⟩ : ∃ P, signD (b :: x :: r) = P := ⟨_, rfl⟩
        rw [hP] at HP ⊢
        obtain ⟨s, hs⟩ : ∃ s : ByteArray, s = ⟨(b :: x :: r).toArray⟩ := ⟨_, rfl⟩
        have hsz : ¬ ((s.size : Nat) : Int) < 2 := by rw [hs, str_size]; simp; omega
        rw [← hs] at hix0 hix1 ⊢
        clear hP hs hl hne hx hb
        go_enter Tryd.func21, Tryd.ntmps21
        go_wp2
        go_ret2
        exact ⟨by rw [HP.out]; rfl, Grow.refl _⟩
      · exact rsign_two b x r w hb hx (by simp at hl; omega)
  · have HP : Hid (signD (b :: r) = (b.toNat, 1)) := Lib.hid (by
      cases r with
      | nil => show (if b.toNat = 64 then (0, 0) else (b.toNat, 1)) = _; rw [if_neg hb]
      | cons x r => show (if b.toNat = 64 then _ else (b.toNat, 1)) = _; rw [if_neg hb])
    obtain ⟨P, hP⟩ : ∃ P, signD (b :: r) = P := ⟨_, rfl⟩
    rw [hP] at HP ⊢
    obtain ⟨s, hs⟩ : ∃ s : ByteArray, s = ⟨(b :: r).toArray⟩ := ⟨_, rfl⟩
    rw [← hs] at hix0 ⊢
    have hbb : (((b.toNat : Nat) : Int) == 64) = false := by rw [beq_eq_false_iff_ne]; omega
    have hw : IntKind.i64.wrap ((b.toNat : Nat) : Int) = ((b.toNat : Nat) : Int) := by rw [IntKind.wrap_i64]; omega
    clear hP hs hl hne hb
    go_enter Tryd.func21, Tryd.ntmps21
    go_wp2
    go_ret2
    exact ⟨by rw [HP.out]; rfl, Grow.refl _⟩
end Go.Proofs.YtcdjilipmjjjkaaDoor
