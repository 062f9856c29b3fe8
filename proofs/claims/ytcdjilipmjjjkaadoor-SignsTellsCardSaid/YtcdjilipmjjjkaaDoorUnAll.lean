/-
  What signs.Unescape comes to, called with any text.
-/
import Derived.Test.YtcdjilipmjjjkaaDoorUnescapes
namespace Go.Proofs.YtcdjilipmjjjkaaDoor
open Go.RowKit Go.Lib

theorem UnAt.pass {l : List UInt8} {k pos nx : Nat} {w wr w1 : World} {acc : List UInt8} {v : Value} (h : UnAt l k w pos nx acc v wr) (hp : pos < nx) (he : w1 = wr.iterAt k ⟨l.toArray⟩ (pos + 1)) : UnAt l k w (pos + 1) nx acc v w1 := by
  subst he
  exact ⟨h.eq, hp, h.nle, fun j x h1 h2 h3 => h.plain j x (by omega) h2 h3, h.len, h.own.iter (Nat.lt_succ_self _) _ _, h.go.step _, by rw [iterAt_size]; exact h.size, below_iterAt h.grow (Nat.le_refl _) _ _⟩

set_option maxRecDepth 10000 in
set_option maxHeartbeats 1600000 in
theorem unescape_any (l : List UInt8) (w : World) (hl : l.length ≤ 1000000) (hL : Laid w) : Calls Tryd.prog 11 #[.string ⟨l.toArray⟩] w (Unescaped l w) := by
  have HL := Lib.hid hL
  clear hL
  go_enter Tryd.func11, Tryd.ntmps11
  go_wp2
  go_loopg [4, 5] l.length (fun g s4 s5 wr => ∃ (pos nx : Nat) (acc : List UInt8) (v : Value), g = l.length - pos ∧ v = s4 ∧ s5 = .int .i64 nx ∧ UnAt l w.heap.size w pos nx acc v wr)
  case atStart =>
    refine ⟨0, 0, [], _, rfl, rfl, rfl, ?_, Nat.le_refl _, Nat.zero_le _, fun j x _ h _ => absurd h (by omega), Nat.zero_le _, own_nil _ _, going_new w l, by simp [World.iter], grow_new _ _⟩
    rw [List.drop_zero]
    cases unD l with
    | none => rfl
    | some u => rfl
  case round =>
    obtain ⟨pos, nx, acc, v, rfl, rfl, rfl, hat⟩ := hrel
    have hle := hat.le
    have hnle := hat.nle
    by_cases hp : pos < l.length
    · obtain ⟨x, hx⟩ := drop_cons hp
      have hx1 : l[pos]? = some x := by
        have := congrArg (fun t => t[0]?) hx
        simpa using this
      have hnx := fun ty => hat.go.next hp ty
      by_cases hlt : pos < nx
      · have h128 := hat.plain pos x (Nat.le_refl _) hlt hx1
        rw [hx, rune_ascii h128] at hnx
        simp only at hnx
        have HN := Lib.hid (hat.pass hlt rfl)
        clear hat hx hx1
        generalize wr.iterAt w.heap.size ⟨l.toArray⟩ (pos + 1) = w1 at hnx HN
        go_wp2
        go_roundg (l.length - (pos + 1))
        case rel => exact ⟨pos + 1, nx, acc, v, rfl, rfl, rfl, HN.out⟩
        case measure => omega
      · obtain rfl : pos = nx := by omega
        clear hlt hle
        obtain ⟨c, hcn⟩ : ∃ c, (stepD (l.drop pos)).1 = c := ⟨_, rfl⟩
        obtain ⟨n, hnn⟩ : ∃ n, (stepD (l.drop pos)).2 = n := ⟨_, rfl⟩
        have hz : stepD (l.drop pos) = (c, n) := Prod.ext hcn hnn
        clear hcn hnn
        have HZ : Hid (n = 0 → unD l = none) := Lib.hid (fun e => un_stop hat.eq hp (by rw [hz]; exact e))
        by_cases h64 : x.toNat = 64
        · have hes : escIn (l.drop pos) = (c, n) := by rw [← hz, hx, step_at _ h64]
          have hsl := slice_from l pos hnle
          rw [hx, rune_ascii (by omega), h64] at hnx
          simp only at hnx
          have HAT := Lib.hid hat
          have HGR := Lib.hid (show Grow w (wr.iterAt w.heap.size ⟨l.toArray⟩ (pos + 1)) from below_iterAt hat.grow (Nat.le_refl _) _ _)
          have HO1 := Lib.hid (hat.own.iter (Nat.lt_succ_self _) ⟨l.toArray⟩ (pos + 1))
          have HG1 := Lib.hid (hat.go.step (pos + 1))
          have hsz : w.heap.size + 1 ≤ (wr.iterAt w.heap.size ⟨l.toArray⟩ (pos + 1)).heap.size := by rw [iterAt_size]; exact hat.size
          generalize wr.iterAt w.heap.size ⟨l.toArray⟩ (pos + 1) = w1 at hnx HGR HO1 HG1 hsz
          have HE := Lib.hid (esc_any (l.drop pos) w1 (by rw [hx]; simp) (HL.out.grow HGR.out) (by simp; omega))
          rw [hes] at HE
          have HF : Hid (n ≠ 0 → isSign c = true ∧ pos + n ≤ l.length ∧ (bytesD c).length ≤ 4 * n ∧ 1 ≤ n ∧ ∀ j x, pos + 1 ≤ j → j < pos + n → l[j]? = some x → x.toNat < 128) := Lib.hid (fun h => step_facts hz h hnle)
          have HU : Hid (n ≠ 0 → unD l = (unD (l.drop (pos + n))).map ((acc ++ bytesD c) ++ ·)) := Lib.hid (fun h => un_go HAT.out.eq hp hz h)
          have hal := hat.len
          clear hat hz hes hx hx1 h64
          go_wp2_with fail
          refine (HE.out).mono ?_
          rintro e w2 ⟨rfl, hg2⟩
          have HGR2 := Lib.hid (HGR.out.trans hg2)
          have HO2 := Lib.hid (HO1.out.grow hg2)
          have HG2 := Lib.hid (HG1.out.grow hg2)
          have hsz2 := Nat.le_trans hsz hg2.size
          clear hg2 HE hsl
          by_cases hn0 : n = 0
          · have HS := Lib.hid (HZ.out hn0)
            subst hn0
            go_wp2
            go_ret2
            exact ⟨by rw [HS.out]; rfl, HGR2.out⟩
          · have hn0b : (((n : Nat) : Int) == 0) = false := by rw [beq_eq_false_iff_ne]; omega
            obtain ⟨f1, f2, f3, f4, f5⟩ := HF.out hn0
            have HF5 := Lib.hid f5
            have HA := Lib.hid (rune_any (w.heap.size + 1) v acc c w2 f1 (by omega) HO2.out hsz2)
            have HUN := Lib.hid (HU.out hn0)
            clear f5 hn0 f1
            go_wp2_with fail
            refine (HA.out).mono ?_
            rintro e w3 ⟨v3, rfl, ho3, hb3⟩
            have HN : Hid (UnAt l w.heap.size w (pos + 1) (pos + n) (acc ++ bytesD c) v3 w3) := Lib.hid ⟨HUN.out, by omega, f2, HF5.out, by rw [List.length_append]; omega, ho3, HG2.out.below hb3 (Nat.lt_succ_self _), Nat.le_trans hsz2 hb3.size, Below.trans HGR2.out (Below.mono hb3 (Nat.le_succ _))⟩
            clear ho3 hb3 HA
            go_wp2
            go_roundg (l.length - (pos + 1))
            case rel => exact ⟨pos + 1, pos + n, _, v3, rfl, rfl, by go_num, HN.out⟩
            case measure => omega
        · have hst : (c, n) = if plainB x = true then (x.toNat, 1) else (0, 0) := by rw [← hz, hx, step_other _ h64]
          by_cases hpl : plainB x = true
          · have hpx := plain_iff.1 hpl
            rw [if_pos hpl] at hst
            obtain ⟨rfl, rfl⟩ := Prod.mk.inj hst
            rw [hx, rune_ascii (by omega)] at hnx
            simp only at hnx
            have HAT := Lib.hid hat
            have HGR := Lib.hid (show Grow w (wr.iterAt w.heap.size ⟨l.toArray⟩ (pos + 1)) from below_iterAt hat.grow (Nat.le_refl _) _ _)
            have HO1 := Lib.hid (hat.own.iter (Nat.lt_succ_self _) ⟨l.toArray⟩ (pos + 1))
            have HG1 := Lib.hid (hat.go.step (pos + 1))
            have hsz : w.heap.size + 1 ≤ (wr.iterAt w.heap.size ⟨l.toArray⟩ (pos + 1)).heap.size := by rw [iterAt_size]; exact hat.size
            generalize wr.iterAt w.heap.size ⟨l.toArray⟩ (pos + 1) = w1 at hnx HGR HO1 HG1 hsz
            have hal := hat.len
            obtain ⟨f1, f2, f3, f4, f5⟩ := step_facts hz (by omega) hnle
            have HF5 := Lib.hid f5
            have HUN := Lib.hid (un_go hat.eq hp hz (by omega))
            have HP := Lib.hid (fun W => isplain_any x.toNat W)
            rw [show decide (32 ≤ x.toNat ∧ x.toNat ≤ 126) = true by simpa using hpx] at HP
            have h64b : (((x.toNat : Nat) : Int) == 64) = false := by rw [beq_eq_false_iff_ne]; omega
            have HA := Lib.hid (rune_any (w.heap.size + 1) v acc x.toNat w1 f1 (by omega) HO1.out hsz)
            clear hat hz hst hpl hx hx1 f5 f1 h64
            go_wp2_with fail
            refine (HP.out _).mono ?_
            rintro e w2 ⟨rfl, rfl⟩
            go_wp2_with fail
            refine (HA.out).mono ?_
            rintro e w3 ⟨v3, rfl, ho3, hb3⟩
            have HN : Hid (UnAt l w.heap.size w (pos + 1) (pos + 1) (acc ++ bytesD x.toNat) v3 w3) := Lib.hid ⟨HUN.out, by omega, f2, HF5.out, by rw [List.length_append]; omega, ho3, HG1.out.below hb3 (Nat.lt_succ_self _), Nat.le_trans hsz hb3.size, Below.trans HGR.out (Below.mono hb3 (Nat.le_succ _))⟩
            clear ho3 hb3 HA
            go_wp2
            go_roundg (l.length - (pos + 1))
            case rel => exact ⟨pos + 1, pos + 1, _, v3, rfl, rfl, by go_num, HN.out⟩
            case measure => omega
          · rw [if_neg hpl] at hst
            obtain ⟨rfl, rfl⟩ := Prod.mk.inj hst
            have HS := Lib.hid (HZ.out rfl)
            obtain ⟨y, hy⟩ : ∃ y, (runeD (l.drop pos)).1 = y := ⟨_, rfl⟩
            obtain ⟨m, hm⟩ : ∃ m, (runeD (l.drop pos)).2 = m := ⟨_, rfl⟩
            have hyp : y ≠ 64 ∧ ¬ (32 ≤ y ∧ y ≤ 126) := by
              rw [hx] at hy
              by_cases h128 : x.toNat < 128
              · rw [rune_ascii h128] at hy
                simp only at hy
                subst hy
                exact ⟨h64, fun h => hpl (plain_iff.2 h)⟩
              · have := (rune_high (r := l.drop (pos + 1)) (show 128 ≤ x.toNat by omega)).1
                rw [hy] at this
                omega
            rw [hy, hm] at hnx
            have HGR := Lib.hid (show Grow w (wr.iterAt w.heap.size ⟨l.toArray⟩ (pos + m)) from below_iterAt hat.grow (Nat.le_refl _) _ _)
            generalize wr.iterAt w.heap.size ⟨l.toArray⟩ (pos + m) = w1 at hnx HGR
            have HP := Lib.hid (fun W => isplain_any y W)
            rw [show decide (32 ≤ y ∧ y ≤ 126) = false by simpa using hyp.2] at HP
            have h64b : (((y : Nat) : Int) == 64) = false := by rw [beq_eq_false_iff_ne]; omega
            clear hat hz hst hpl hx hx1 h64 hy hm hyp
            go_wp2_with fail
            refine (HP.out _).mono ?_
            rintro e w2 ⟨rfl, rfl⟩
            go_wp2
            go_ret2
            exact ⟨by rw [HS.out]; rfl, HGR.out⟩
    · obtain rfl : pos = l.length := by omega
      obtain rfl : nx = l.length := by omega
      have hnx := fun ty => hat.go.stop hp ty
      have hcv := conv_own hat.own
      have HU : Hid (unD l = some acc) := Lib.hid (by rw [hat.eq, List.drop_length, unD_nil]; simp)
      have HGR := Lib.hid hat.grow
      clear hat
      go_wp2
      go_ret2
      exact ⟨by rw [HU.out]; rfl, HGR.out⟩
end Go.Proofs.YtcdjilipmjjjkaaDoor
