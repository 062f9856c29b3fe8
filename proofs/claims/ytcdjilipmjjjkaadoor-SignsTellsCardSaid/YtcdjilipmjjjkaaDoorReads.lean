/-
  What signs.readNumber and signs.readEscape come to.
-/
import Derived.Test.YtcdjilipmjjjkaaDoorEscapes
namespace Go.Proofs.YtcdjilipmjjjkaaDoor
open Go.RowKit Go.Lib

/-- what digitOf tells of a sign -/
def digV (c : Nat) : Int := if 48 ≤ c ∧ c ≤ 57 then (c : Int) - 48 else if 65 ≤ c ∧ c ≤ 70 then (c : Int) - 55 else -1
theorem digV_some {b : UInt8} {d : Nat} (h : hexVal b = some d) : digV b.toNat = d ∧ d < 16 := by
  unfold hexVal at h
  unfold digV
  by_cases h1 : 48 ≤ b.toNat ∧ b.toNat ≤ 57
  · rw [if_pos h1] at h ⊢
    have := Option.some.inj h
    omega
  · rw [if_neg h1] at h ⊢
    by_cases h2 : 65 ≤ b.toNat ∧ b.toNat ≤ 70
    · rw [if_pos h2] at h ⊢
      have := Option.some.inj h
      omega
    · rw [if_neg h2] at h
      cases h
theorem digV_none {b : UInt8} (h : hexVal b = none) : digV b.toNat = -1 := by
  unfold hexVal at h
  unfold digV
  by_cases h1 : 48 ≤ b.toNat ∧ b.toNat ≤ 57
  · rw [if_pos h1] at h; cases h
  · rw [if_neg h1] at h ⊢
    by_cases h2 : 65 ≤ b.toNat ∧ b.toNat ≤ 70
    · rw [if_pos h2] at h; cases h
    · rw [if_neg h2]
theorem digV_high {c : Nat} (h : 128 ≤ c) : digV c = -1 := by
  unfold digV
  rw [if_neg (by omega), if_neg (by omega)]

theorem digit_any (c : Nat) (w : World) (hc : c < 2147483648) : Calls Tryd.prog 42 #[.int .i32 c] w fun e w' => e = .returned (.int .i32 (digV c)) ∧ w' = w := by
  by_cases h1 : 48 ≤ c
  · have h1' : (48 : Int) ≤ c := by omega
    by_cases h2 : c ≤ 57
    · have h2' : (c : Int) ≤ 57 := by omega
      have HV := Lib.hid (show digV c = (c : Int) - 48 by unfold digV; rw [if_pos ⟨h1, h2⟩])
      have hw : IntKind.i32.wrap ((c : Int) - 48) = (c : Int) - 48 := by rw [IntKind.wrap_i32]; omega
      go_enter Tryd.func42, Tryd.ntmps42
      go_wp2
      go_ret
      exact ⟨by rw [HV.out]; rfl, rfl⟩
    · have h2' : ¬ (c : Int) ≤ 57 := by omega
      by_cases h3 : 65 ≤ c
      · have h3' : (65 : Int) ≤ c := by omega
        by_cases h4 : c ≤ 70
        · have h4' : (c : Int) ≤ 70 := by omega
          have HV := Lib.hid (show digV c = (c : Int) - 65 + 10 by unfold digV; rw [if_neg (by omega), if_pos ⟨h3, h4⟩]; omega)
          have hw : IntKind.i32.wrap ((c : Int) - 65) = (c : Int) - 65 := by rw [IntKind.wrap_i32]; omega
          have hw2 : IntKind.i32.wrap ((c : Int) - 65 + 10) = (c : Int) - 65 + 10 := by rw [IntKind.wrap_i32]; omega
          go_enter Tryd.func42, Tryd.ntmps42
          go_wp2
          go_ret
          exact ⟨by rw [HV.out]; rfl, rfl⟩
        · have h4' : ¬ (c : Int) ≤ 70 := by omega
          have HV := Lib.hid (show digV c = -1 by unfold digV; rw [if_neg (by omega), if_neg (by omega)])
          go_enter Tryd.func42, Tryd.ntmps42
          go_wp2
          go_ret
          exact ⟨by rw [HV.out]; rfl, rfl⟩
      · have h3' : ¬ (65 : Int) ≤ c := by omega
        have HV := Lib.hid (show digV c = -1 by unfold digV; rw [if_neg (by omega), if_neg (by omega)])
        go_enter Tryd.func42, Tryd.ntmps42
        go_wp2
        go_ret
        exact ⟨by rw [HV.out]; rfl, rfl⟩
  · have h1' : ¬ (48 : Int) ≤ c := by omega
    have h3' : ¬ (65 : Int) ≤ c := by omega
    have HV := Lib.hid (show digV c = -1 by unfold digV; rw [if_neg (by omega), if_neg (by omega)])
    go_enter Tryd.func42, Tryd.ntmps42
    go_wp2
    go_ret
    exact ⟨by rw [HV.out]; rfl, rfl⟩

theorem valid_sign (c : Nat) : Lib.validRune (c : Int) = isSign c := by
  rw [Bool.eq_iff_iff, isSign_iff]
  unfold Lib.validRune
  rw [decide_eq_true_eq]
  omega

set_option maxRecDepth 10000 in
theorem numbered_any (c : Nat) (w : World) (hL : Laid w) : Calls Tryd.prog 41 #[.int .i32 c] w fun e w' => e = .returned (.bool (numbered c)) ∧ Grow w w' := by
  have HT := Lib.hid (plainof_any c w hL)
  have HV := Lib.hid (fun W => Tryd.utf8_ValidRune (c : Int) W)
  have HP := Lib.hid (fun W => isplain_any c W)
  rw [valid_sign] at HV
  unfold PlainOf at HT
  obtain ⟨α, hα⟩ : ∃ α, isSign c = α := ⟨_, rfl⟩
  obtain ⟨β, hβ⟩ : ∃ β, decide (32 ≤ c ∧ c ≤ 126) = β := ⟨_, rfl⟩
  obtain ⟨γ, hγ⟩ : ∃ γ, (stands c).isSome = γ := ⟨_, rfl⟩
  have HN : Hid (numbered c = (α && !β && !γ)) := Lib.hid (by
    unfold numbered
    rw [hα, hβ, ← hγ]
    cases stands c <;> rfl)
  rw [hα] at HV
  rw [hβ] at HP
  rw [hγ] at HT
  clear hα hβ hγ hL
  go_enter Tryd.func41, Tryd.ntmps41
  go_wp2_with fail
  refine (HT.out).mono ?_
  rintro e w1 ⟨rfl, hg⟩
  have HG := Lib.hid hg
  clear hg HT
  go_wp2_with fail
  refine (HV.out _).mono ?_
  rintro e w2 ⟨rfl, rfl⟩
  cases α
  · go_wp2
    go_ret
    exact ⟨by rw [HN.out]; rfl, HG.out⟩
  · go_wp2_with fail
    refine (HP.out _).mono ?_
    rintro e w3 ⟨rfl, rfl⟩
    cases β
    · go_wp2
      go_ret
      exact ⟨by rw [HN.out]; rfl, HG.out⟩
    · go_wp2
      go_ret
      exact ⟨by rw [HN.out]; rfl, HG.out⟩

theorem rune_ascii {b : UInt8} {r : List UInt8} (h : b.toNat < 128) : runeD (b :: r) = (b.toNat, 1) := by
  rw [rune_yes (by rw [next_one h]; simp), next_one h]
theorem rune_high {b : UInt8} {r : List UInt8} (h : 128 ≤ b.toNat) : 128 ≤ (runeD (b :: r)).1 ∧ (runeD (b :: r)).1 < 2147483648 := by
  by_cases hn : (nextD (b :: r)).2 = 0
  · rw [rune_no hn]
    decide
  · rw [rune_yes hn]
    obtain ⟨h1, h2, _⟩ := next_inv hn
    have hs := (isSign_iff.1 h1).1
    refine ⟨?_, by omega⟩
    by_cases hc : (nextD (b :: r)).1 < 128
    · exfalso
      have hB : bytesD (nextD (b :: r)).1 = [UInt8.ofNat (nextD (b :: r)).1] := by unfold bytesD; rw [if_pos h1, if_pos hc]
      rw [hB] at h2
      have h3 := congrArg (fun l => (List.headD l 0).toNat) h2
      simp only [List.cons_append, List.headD_cons] at h3
      rw [u8_nat (by omega)] at h3
      omega
    · omega

/-- pos digits are read, worth n -/
structure NumAt (r : List UInt8) (k : Nat) (w : World) (pos n : Nat) (wr : World) : Prop where
  eq : numIn 0 0 r = numIn pos n (r.drop pos)
  le : pos ≤ r.length
  small : pos ≤ 6 ∧ n < 16 ^ pos
  go : Going k r pos wr
  grow : Grow w wr

def ReadNum (p : Nat × Nat) (w : World) (e : Ending) (w' : World) : Prop := e = .returned (.tuple #[.int .i32 (p.1 : Nat), .int .i64 (p.2 : Nat)]) ∧ Grow w w'

theorem drop_cons {l : List UInt8} {pos : Nat} (h : pos < l.length) : ∃ b, l.drop pos = b :: l.drop (pos + 1) := ⟨l[pos], List.drop_eq_getElem_cons h⟩

set_option maxRecDepth 10000 in
set_option maxHeartbeats 1600000 in
theorem number_any (a b : UInt8) (r : List UInt8) (w : World) (hL : Laid w) (hl : r.length ≤ 1000000) : Calls Tryd.prog 30 #[.string ⟨(a :: b :: r).toArray⟩] w (ReadNum (numIn 0 0 r) w) := by
  have HL := Lib.hid hL
  have hsl : ∀ W, (Instr.slice 9 (.string ⟨(a :: b :: r).toArray⟩) (some (.int .i64 2)) none none).run Tryd.prog W = .ok (.string ⟨r.toArray⟩) W := fun W => slice_from (a :: b :: r) 2 (by simp) W
  clear hL
  go_enter Tryd.func30, Tryd.ntmps30
  go_wp2
  clear hsl
  go_loopg [4] r.length (fun g s4 wr => ∃ pos n : Nat, g = r.length - pos ∧ s4 = .int .i32 n ∧ NumAt r w.heap.size w pos n wr)
  case atStart => exact ⟨0, 0, rfl, rfl, rfl, Nat.zero_le _, ⟨by omega, by decide⟩, going_new w r, grow_new _ _⟩
  case round =>
    obtain ⟨pos, n, rfl, rfl, hat⟩ := hrel
    have hle := hat.le
    have hp6 := hat.small.1
    have hn16 : n < 16777216 := Nat.lt_of_lt_of_le hat.small.2 (Nat.le_trans (Nat.pow_le_pow_right (by omega) hp6) (by decide))
    by_cases hp : pos < r.length
    · obtain ⟨x, hx⟩ := drop_cons hp
      have hnx := fun ty => hat.go.next hp ty
      rw [hx] at hnx
      have HEQ := Lib.hid (hat.eq.trans (by rw [hx, numIn_cons]))
      by_cases hhi : x.toNat < 128
      · rw [rune_ascii hhi] at hnx
        simp only at hnx
        have HGO := Lib.hid (hat.go.step (pos + 1))
        have HGR := Lib.hid (show Grow w (wr.iterAt w.heap.size ⟨r.toArray⟩ (pos + 1)) from below_iterAt hat.grow (Nat.le_refl _) _ _)
        have HSM := Lib.hid hat.small
        clear hat
        generalize wr.iterAt w.heap.size ⟨r.toArray⟩ (pos + 1) = w1 at hnx HGO HGR
        by_cases h125 : x.toNat = 125
        · rw [if_pos h125] at HEQ
          rw [h125] at hnx
          clear hx
          by_cases hp0 : pos = 0
          · subst hp0
            rw [if_neg (by simp)] at HEQ
            go_wp2
            go_ret2
            exact ⟨by rw [HEQ.out]; rfl, HGR.out⟩
          · have hp0b : (((pos : Nat) : Int) == 0) = false := by rw [beq_eq_false_iff_ne]; omega
            have HC := Lib.hid (numbered_any n w1 (HL.out.grow HGR.out))
            go_wp2_with fail
            refine (HC.out).mono ?_
            rintro e w2 ⟨rfl, hg⟩
            have HG2 := Lib.hid (HGR.out.trans hg)
            clear hg HC
            obtain ⟨α, hα⟩ : ∃ α, numbered n = α := ⟨_, rfl⟩
            rw [hα] at HEQ
            rw [hα]
            cases α
            · rw [if_neg (by simp)] at HEQ
              go_wp2
              go_ret2
              exact ⟨by rw [HEQ.out]; rfl, HG2.out⟩
            · rw [if_pos ⟨hp0, rfl⟩] at HEQ
              go_wp2
              go_ret2
              exact ⟨by rw [HEQ.out]; simp; omega, HG2.out⟩
        · rw [if_neg h125] at HEQ
          have h125b : (((x.toNat : Nat) : Int) == 125) = false := by rw [beq_eq_false_iff_ne]; omega
          have HD := Lib.hid (fun W => digit_any x.toNat W (by omega))
          cases hv : hexVal x with
          | none =>
            rw [hv] at HEQ
            rw [digV_none hv] at HD
            clear hv hx h125
            go_wp2_with fail
            refine (HD.out _).mono ?_
            rintro e w2 ⟨rfl, rfl⟩
            obtain ⟨α, hα⟩ : ∃ α : Bool, α = (decide (0 < pos) && decide (n = 0)) := ⟨_, rfl⟩
            by_cases hp0 : pos = 0
            · subst hp0
              go_wp2
              go_ret2
              exact ⟨by rw [HEQ.out]; rfl, HGR.out⟩
            · have hp0' : (0 : Int) < pos := by omega
              go_wp2
              go_ret2
              exact ⟨by rw [HEQ.out]; rfl, HGR.out⟩
          | some d =>
            rw [hv] at HEQ
            replace HEQ : Hid (numIn 0 0 r = if (pos ≠ 0 ∧ n = 0) ∨ pos = 6 then (0, 0) else numIn (pos + 1) (16 * n + d) (r.drop (pos + 1))) := HEQ
            obtain ⟨hdv, hd⟩ := digV_some hv
            rw [hdv] at HD
            have hd0 : ¬ ((d : Nat) : Int) < 0 := by omega
            clear hv hx h125 hdv
            by_cases hp0 : pos = 0
            · subst hp0
              rw [if_neg (by simp)] at HEQ
              have hn0 : n = 0 := by have := HSM.out.2; simpa using this
              subst hn0
              have HN : Hid (NumAt r w.heap.size w 1 d w1) := Lib.hid ⟨by rw [HEQ.out]; simp, by omega, ⟨by omega, by omega⟩, HGO.out, HGR.out⟩
              have hw : IntKind.i32.wrap ((d : Nat) : Int) = d := by rw [IntKind.wrap_i32]; omega
              go_wp2_with fail
              refine (HD.out _).mono ?_
              rintro e w2 ⟨rfl, rfl⟩
              go_wp2
              go_roundg (r.length - 1)
              case rel => exact ⟨1, d, rfl, by go_num, HN.out⟩
              case measure => omega
            · have hp0' : (0 : Int) < pos := by omega
              by_cases hn0 : n = 0
              · subst hn0
                rw [if_pos (.inl ⟨hp0, rfl⟩)] at HEQ
                go_wp2_with fail
                refine (HD.out _).mono ?_
                rintro e w2 ⟨rfl, rfl⟩
                go_wp2
                go_ret2
                exact ⟨by rw [HEQ.out]; rfl, HGR.out⟩
              · have hn0b : (((n : Nat) : Int) == 0) = false := by rw [beq_eq_false_iff_ne]; omega
                by_cases h6 : pos = 6
                · subst h6
                  rw [if_pos (.inr rfl)] at HEQ
                  go_wp2_with fail
                  refine (HD.out _).mono ?_
                  rintro e w2 ⟨rfl, rfl⟩
                  go_wp2
                  go_ret2
                  exact ⟨by rw [HEQ.out]; rfl, HGR.out⟩
                · have h6b : (((pos : Nat) : Int) == 6) = false := by rw [beq_eq_false_iff_ne]; omega
                  rw [if_neg (by rintro (⟨_, h⟩ | h); exact hn0 h; exact h6 h)] at HEQ
                  have hw1 : IntKind.i32.wrap (((n : Nat) : Int) * 16) = (n : Int) * 16 := by rw [IntKind.wrap_i32]; omega
                  have hw2 : IntKind.i32.wrap (((n : Nat) : Int) * 16 + (d : Nat)) = (n : Int) * 16 + d := by rw [IntKind.wrap_i32]; omega
                  have HN : Hid (NumAt r w.heap.size w (pos + 1) (16 * n + d) w1) := Lib.hid ⟨HEQ.out, by omega, ⟨by omega, by have := HSM.out.2; rw [Nat.pow_succ]; omega⟩, HGO.out, HGR.out⟩
                  go_wp2_with fail
                  refine (HD.out _).mono ?_
                  rintro e w2 ⟨rfl, rfl⟩
                  go_wp2
                  go_roundg (r.length - (pos + 1))
                  case rel => exact ⟨pos + 1, 16 * n + d, rfl, by go_num, HN.out⟩
                  case measure => omega
      · have hhi' : 128 ≤ x.toNat := by omega
        obtain ⟨hc1, hc2⟩ := rune_high (r := r.drop (pos + 1)) hhi'
        obtain ⟨c, hc⟩ : ∃ c, (runeD (x :: r.drop (pos + 1))).1 = c := ⟨_, rfl⟩
        obtain ⟨m, hm⟩ : ∃ m, (runeD (x :: r.drop (pos + 1))).2 = m := ⟨_, rfl⟩
        rw [hc, hm] at hnx
        rw [hc] at hc1 hc2
        have HGR := Lib.hid (show Grow w (wr.iterAt w.heap.size ⟨r.toArray⟩ (pos + m)) from below_iterAt hat.grow (Nat.le_refl _) _ _)
        clear hat
        generalize wr.iterAt w.heap.size ⟨r.toArray⟩ (pos + m) = w1 at hnx HGR
        have h125b : (((c : Nat) : Int) == 125) = false := by rw [beq_eq_false_iff_ne]; omega
        have HD := Lib.hid (fun W => digit_any c W (by omega))
        rw [digV_high hc1] at HD
        have hv : hexVal x = none := by unfold hexVal; rw [if_neg (by omega), if_neg (by omega)]
        rw [if_neg (by omega), hv] at HEQ
        clear hx hc hm hv
        go_wp2_with fail
        refine (HD.out _).mono ?_
        rintro e w2 ⟨rfl, rfl⟩
        by_cases hp0 : pos = 0
        · subst hp0
          go_wp2
          go_ret2
          exact ⟨by rw [HEQ.out]; rfl, HGR.out⟩
        · have hp0' : (0 : Int) < pos := by omega
          go_wp2
          go_ret2
          exact ⟨by rw [HEQ.out]; rfl, HGR.out⟩
    · obtain rfl : pos = r.length := by omega
      have hnx := fun ty => hat.go.stop hp ty
      have HEQ : Hid (numIn 0 0 r = (0, 0)) := Lib.hid (by rw [hat.eq, List.drop_length, numIn_nil])
      have HGR := Lib.hid hat.grow
      clear hat
      go_wp2
      go_ret2
      exact ⟨by rw [HEQ.out]; rfl, HGR.out⟩
end Go.Proofs.YtcdjilipmjjjkaaDoor
