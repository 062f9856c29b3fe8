/-
  What number.piece and number.pieces come to, called with any text.
-/
import Derived.Test.YtkebngldmcoaaaaGreatDoorNumMath
import Derived.Test.YtkebngldmcoaaaaGreatDoorCuts
namespace Go.Proofs.YtkebngldmcoaaaaGreatDoor
open Go.RowKit Go.Lib
set_option linter.unusedSimpArgs false
set_option linter.unusedVariables false

theorem str_size (l : List UInt8) : (⟨l.toArray⟩ : ByteArray).size = l.length := by simp [ByteArray.size]

/-- how many bytes the first piece has -/
def pcD (l : List UInt8) : Nat := if hasPrefix l [194, 175] = true then 2 else match l with
  | [] => 0
  | c :: _ => if isPc c then 1 else 0

theorem pcD_sign (l : List UInt8) : pcD (194 :: 175 :: l) = 2 := by unfold pcD; rw [if_pos (by simp [hasPrefix])]
theorem hasP_not {c : UInt8} (h : c ≠ 194) (l : List UInt8) : hasPrefix (c :: l) [194, 175] = false := by
  unfold hasPrefix
  have : ((194 : UInt8) == c) = false := by simpa using fun e => h e.symm
  show ((194 : UInt8) == c && List.isPrefixOf [175] l) = false
  rw [this]; rfl
theorem isPc_ne {c : UInt8} (h : isPc c = true) : c ≠ 194 := by rintro rfl; exact absurd h (by decide)
theorem pcD_pc {c : UInt8} (h : isPc c = true) (l : List UInt8) : pcD (c :: l) = 1 := by
  unfold pcD; rw [hasP_not (isPc_ne h)]; simp [h]
theorem hasP_cases (l : List UInt8) : (∃ r, l = 194 :: 175 :: r) ∨ hasPrefix l [194, 175] = false := by
  match l with
  | [] => exact .inr rfl
  | [c] =>
    refine .inr ?_
    unfold hasPrefix
    show ((194 : UInt8) == c && List.isPrefixOf [175] []) = false
    simp
  | c :: d :: r =>
    by_cases h : c = 194 ∧ d = 175
    · obtain ⟨rfl, rfl⟩ := h
      exact .inl ⟨r, rfl⟩
    · refine .inr ?_
      unfold hasPrefix
      show ((194 : UInt8) == c && ((175 : UInt8) == d && List.isPrefixOf [] r)) = false
      by_cases h1 : (194 : UInt8) = c
      · have h2 : ((175 : UInt8) == d) = false := by simpa using fun e => h ⟨h1.symm, e.symm⟩
        rw [h2]; simp
      · have h2 : ((194 : UInt8) == c) = false := by simpa using h1
        rw [h2]; rfl
theorem npc_step (l : List UInt8) : (pcD l = 0 ∧ npc l = 0) ∨ (0 < pcD l ∧ pcD l ≤ l.length ∧ npc l = npc (l.drop (pcD l)) + pcD l) := by
  rcases hasP_cases l with ⟨r, rfl⟩ | h
  · exact .inr ⟨by rw [pcD_sign]; decide, by rw [pcD_sign]; simp, by rw [pcD_sign, npc_sign]; rfl⟩
  · cases l with
    | nil => exact .inl ⟨rfl, rfl⟩
    | cons c l =>
      by_cases hc : isPc c = true
      · exact .inr ⟨by rw [pcD_pc hc]; decide, by rw [pcD_pc hc]; simp, by rw [pcD_pc hc, npc_pc hc]; rfl⟩
      · have hf : isPc c = false := by simpa using hc
        refine .inl ⟨by unfold pcD; rw [h]; simp [hf], ?_⟩
        by_cases h2 : c = 194
        · subst h2
          cases l with
          | nil => rfl
          | cons d l =>
            refine npc_half ?_ l
            rintro rfl
            simp [hasPrefix] at h
        · exact npc_not hf h2 l
theorem pcD_zero (l : List UInt8) : (pcD l = 0 ↔ npc l = 0) := by
  rcases npc_step l with ⟨h1, h2⟩ | ⟨h1, _, h2⟩
  · simp [h1, h2]
  · constructor <;> intro h <;> omega
theorem pcD_nil : pcD [] = 0 := rfl
theorem pcD_no {c : UInt8} {l : List UInt8} (h : hasPrefix (c :: l) [194, 175] = false) (hc : isPc c = false) : pcD (c :: l) = 0 := by unfold pcD; rw [h]; simp [hc]

set_option maxRecDepth 10000 in
set_option maxHeartbeats 800000 in
theorem piece_any (l : List UInt8) (w : World) :
    Calls Tryz.prog 14 #[.string ⟨l.toArray⟩] w fun e w' => e = .returned (.int .i64 (pcD l : Nat)) ∧ w' = w := by
  have HP := Lib.hid (Tryz.strings_HasPrefix ⟨l.toArray⟩ ⟨#[194, 175]⟩ w)
  rw [show (⟨l.toArray⟩ : ByteArray).data.toList = l from rfl, show (⟨#[194, 175]⟩ : ByteArray).data.toList = [194, 175] from rfl] at HP
  rcases hasP_cases l with ⟨r, hl⟩ | hp
  · have hd : pcD l = 2 := by rw [hl]; exact pcD_sign r
    have hp : hasPrefix l [194, 175] = true := by rw [hl]; simp [hasPrefix]
    rw [hp] at HP
    rw [hd]
    clear hd hp hl
    go_enter Tryz.func14, Tryz.ntmps14
    go_wp2_with fail
    refine (HP.out).mono ?_
    rintro e w' ⟨rfl, rfl⟩
    go_wp2
    go_ret
    exact ⟨rfl, rfl⟩
  · rw [hp] at HP
    cases l with
    | nil =>
      rw [pcD_nil]
      clear hp
      go_enter Tryz.func14, Tryz.ntmps14
      go_wp2_with fail
      refine (HP.out).mono ?_
      rintro e w' ⟨rfl, rfl⟩
      go_wp2
      go_ret
      exact ⟨rfl, rfl⟩
    | cons c t =>
      have hix : ∀ W, (Instr.index 9 (.string ⟨(c :: t).toArray⟩) (.int .i64 0)).run Tryz.prog W = .ok (.int .u8 (c.toNat : Nat)) W := fun W => index_at (l := c :: t) (i := 0) rfl W
      have hc256 : c.toNat < 256 := c.toNat_lt
      have HY : Hid (isPc c = true → pcD (c :: t) = 1) := Lib.hid (fun h => pcD_pc h t)
      have HN : Hid (isPc c = false → pcD (c :: t) = 0) := Lib.hid (fun h => pcD_no hp h)
      have hcI : isPc c = (decide (c.toNat = 69) || (decide (48 ≤ c.toNat) && decide (c.toNat ≤ 57))) := by
        unfold isPc
        congr 1
        have : (c == 69) = decide (c = 69) := rfl
        rw [this]
        by_cases h : c = 69
        · subst h; rfl
        · have : ¬ c.toNat = 69 := fun e => h (UInt8.toNat_inj.1 e)
          rw [decide_eq_false h, decide_eq_false this]
      rw [hcI] at HY HN
      obtain ⟨p, hpd⟩ : ∃ p, pcD (c :: t) = p := ⟨_, rfl⟩
      rw [hpd] at HY HN
      rw [hpd]
      have hne : ((c :: t : List UInt8) == []) = false := rfl
      clear hp hpd hcI
      generalize c.toNat = C at *
      generalize c :: t = l at *
      go_enter Tryz.func14, Tryz.ntmps14
      go_wp2_with fail
      refine (HP.out).mono ?_
      rintro e w' ⟨rfl, rfl⟩
      clear HP
      by_cases h69 : C = 69
      · subst h69
        obtain rfl := HY.out rfl
        go_wp2
        go_ret
        exact ⟨rfl, rfl⟩
      · have h69b : (((C : Nat) : Int) == 69) = false := by rw [beq_eq_false_iff_ne]; omega
        by_cases h48 : 48 ≤ C
        · have h48i : (48 : Int) ≤ ((C : Nat) : Int) := by omega
          by_cases h57 : C ≤ 57
          · have h57i : ((C : Nat) : Int) ≤ 57 := by omega
            obtain rfl := HY.out (by simp [h48, h57])
            go_wp2
            go_ret
            exact ⟨rfl, rfl⟩
          · have h57i : ¬ ((C : Nat) : Int) ≤ 57 := by omega
            obtain rfl := HN.out (by simp [h69, h57])
            go_wp2
            go_ret
            exact ⟨rfl, rfl⟩
        · have h48i : ¬ (48 : Int) ≤ ((C : Nat) : Int) := by omega
          obtain rfl := HN.out (by simp [h69, h48])
          go_wp2
          go_ret
          exact ⟨rfl, rfl⟩

set_option maxRecDepth 10000 in
set_option maxHeartbeats 800000 in
theorem pieces_any (l : List UInt8) (hl : l.length ≤ 1000000) (w : World) :
    Calls Tryz.prog 11 #[.string ⟨l.toArray⟩] w fun e w' => e = .returned (.int .i64 (npc l : Nat)) ∧ w' = w := by
  have hsz := str_size l
  obtain ⟨w0, hw0⟩ : ∃ w0, w0 = w := ⟨_, rfl⟩
  go_enter Tryz.func11, Tryz.ntmps11
  go_wp2
  go_loopg [3] l.length (fun g s3 wr => ∃ k : Nat, k ≤ l.length ∧ g = l.length - k ∧ s3 = .int .i64 k ∧ Hid (npc l = npc (l.drop k) + k) ∧ w = wr)
  case atStart => exact ⟨0, Nat.zero_le _, rfl, rfl, Lib.hid rfl, rfl⟩
  case round =>
    obtain ⟨k, hk, rfl, rfl, HN, rfl⟩ := hrel
    by_cases hlt : k < l.length
    · have hlti : ((k : Nat) : Int) < ((l.length : Nat) : Int) := by omega
      have hsf := slice_from l k hk
      have HC := Lib.hid (fun W => piece_any (l.drop k) W)
      have hst := npc_step (l.drop k)
      have hdl : (l.drop k).length = l.length - k := by simp
      have hdd : (l.drop k).drop (pcD (l.drop k)) = l.drop (k + pcD (l.drop k)) := by rw [List.drop_drop]
      rw [hdd, hdl] at hst
      clear hdd hdl
      generalize pcD (l.drop k) = p at hst HC
      generalize l.drop k = r at HC hsf HN hst
      go_wp2_with fail
      refine (HC.out _).mono ?_
      rintro e w' ⟨rfl, rfl⟩
      clear HC hsf
      rcases hst with ⟨rfl, h0⟩ | ⟨hp, hple, hnp⟩
      · have HV : Hid (npc l = k) := Lib.hid (by rw [HN.out, h0]; omega)
        clear h0 HN
        go_wp2
        go_ret
        exact ⟨by rw [HV.out]; rfl, rfl⟩
      · have hpb : (((p : Nat) : Int) == 0) = false := by rw [beq_eq_false_iff_ne]; omega
        have HV : Hid (npc l = npc (l.drop (k + p)) + (k + p)) := Lib.hid (by rw [HN.out, hnp]; omega)
        clear hnp HN
        go_wp2
        go_roundg (l.length - (k + p))
        case rel => exact ⟨k + p, by omega, rfl, by go_num, HV, rfl⟩
        case measure => omega
    · obtain rfl : l.length = k := by omega
      have HV : Hid (npc l = l.length) := Lib.hid (by rw [HN.out, List.drop_length]; simp [npc])
      clear HN
      go_wp2
      go_ret
      exact ⟨by rw [HV.out]; rfl, rfl⟩
end Go.Proofs.YtkebngldmcoaaaaGreatDoor
