/-
  What the document's own take comes to.
-/
import Derived.Test.YtkebngldmcoaaaaGreatDoorRTexts
import Derived.Test.YtkebngldmcoaaaaGreatDoorCuts
import Derived.Test.YtkebngldmcoaaaaGreatDoorScan
namespace Go.Proofs.YtkebngldmcoaaaaGreatDoor
open Go.RowKit Go.Lib

theorem list_cases (R : List UInt8) : R = [] ∨ ∃ c t, R = c :: t := by
  cases R with
  | nil => exact .inl rfl
  | cons c t => exact .inr ⟨c, t, rfl⟩

theorem takeD_none {l : List UInt8} (h : scan 0 (body l) = none) : takeD l = (0, []) := by unfold takeD; rw [h]
theorem takeD_neg {l r : List UInt8} {n : Nat} (h : scan 0 (body l) = some (n, r)) (hb : below l = true) : takeD l = (-(n : Int), r) := by unfold takeD; rw [h]; simp only; rw [if_pos hb]
theorem takeD_big {l r : List UInt8} {n : Nat} (h : scan 0 (body l) = some (n, r)) (hb : below l = false) (hn : n = 9223372036854775808) : takeD l = (0, []) := by unfold takeD; rw [h]; simp only; rw [if_neg (by rw [hb]; decide), if_pos hn]
theorem takeD_pos {l r : List UInt8} {n : Nat} (h : scan 0 (body l) = some (n, r)) (hb : below l = false) (hn : n ≠ 9223372036854775808) : takeD l = ((n : Int), r) := by unfold takeD; rw [h]; simp only; rw [if_neg (by rw [hb]; decide), if_neg hn]

set_option maxRecDepth 10000 in
set_option maxHeartbeats 1600000 in
theorem rtake_any (l : List UInt8) (hl : l.length ≤ 1000000) (w : World) :
    Calls Tryz.prog 46 #[.string ⟨l.toArray⟩] w fun e w' => e = .returned (.tuple #[.int .i64 (takeD l).1, .string ⟨(takeD l).2.toArray⟩]) ∧ w' = w := by
  have HTN := Lib.hid (takeD_none (l := l))
  have HTM := Lib.hid (fun (n : Nat) (r : List UInt8) => takeD_neg (l := l) (r := r) (n := n))
  have HTB := Lib.hid (fun (n : Nat) (r : List UInt8) => takeD_big (l := l) (r := r) (n := n))
  have HTP := Lib.hid (fun (n : Nat) (r : List UInt8) => takeD_pos (l := l) (r := r) (n := n))
  have hbd : body l = if below l = true then l.drop 2 else l := rfl
  have hbl : below l = (l.take 2 == [194, 175]) := rfl
  by_cases h2 : 2 ≤ l.length
  · have hs2 := slice_to l 2 h2
    have hs3 := slice_from l 2 h2
    by_cases hb : below l = true
    · have HBD : Hid (body l = l.drop 2) := Lib.hid (by rw [hbd, if_pos hb])
      have HBL := Lib.hid hb
      rw [hb] at hbl
      have hbb : (l.take 2 == [194, 175]) = true := hbl.symm
      have htk : l.take 2 = [194, 175] := by simpa using hbb
      have hs2' : ∀ W, (Instr.slice 9 (.string ⟨l.toArray⟩) none (some (.int .i64 2)) none).run Tryz.prog W = .ok (.string ⟨#[194, 175]⟩) W := fun W => by have h := hs2 W; rw [htk] at h; exact h
      have hs3' : ∀ W, (Instr.slice 9 (.string ⟨l.toArray⟩) (some (.int .i64 2)) none none).run Tryz.prog W = .ok (.string ⟨(l.drop 2).toArray⟩) W := fun W => hs3 W
      have h2i : (2 : Int) ≤ (l.length : Nat) := by omega
      clear hbd hbl hbb htk hs2 hs3 hb h2
      generalize hdr : l.drop 2 = L2 at *
      have hl2 : L2.length ≤ 1000000 := by rw [← hdr]; simp; omega
      go_enter Tryz.func46, Tryz.ntmps46
      go_wp2
      go_loopg [0, 5] (L2).length (fun gk s0 s5 wr => ∃ (r : List UInt8) (n : Nat), gk = r.length ∧ s0 = .string ⟨r.toArray⟩ ∧ s5 = .int .u64 n ∧ n ≤ 9223372036854775808 ∧ r.length ≤ 1000000 ∧ Hid (scan 0 (body l) = scan n r) ∧ w = wr)
      case atStart => exact ⟨L2, 0, rfl, rfl, rfl, by omega, hl2, Lib.hid (by rw [HBD.out]), rfl⟩
      case round =>
        obtain ⟨R, n, rfl, rfl, rfl, hn, hRl, HS, rfl⟩ := hrel
        rcases list_cases R with hR | ⟨c, t, hR⟩
        · subst hR
          have HSC := Lib.hid (HS.out.trans (scan_nil n))
          clear HS
          obtain ⟨v1, hv1⟩ : ∃ v1, IntKind.i64.wrap (n : Int) = v1 := ⟨_, rfl⟩
          have hv2 : IntKind.i64.wrap (-v1) = -(n : Int) := by rw [← hv1, IntKind.wrap_i64, IntKind.wrap_i64]; omega
          have HV := Lib.hid (HTM.out n _ HSC.out HBL.out)
          go_wp2
          go_ret2
          exact ⟨by rw [HV.out]; rfl, rfl⟩
        · have hne : (R == []) = false := by rw [hR]; rfl
          have hix : ∀ W, (Instr.index 9 (.string ⟨R.toArray⟩) (.int .i64 0)).run Tryz.prog W = .ok (.int .u8 (c.toNat : Nat)) W := fun W => index_at (l := R) (i := 0) (by rw [hR]; rfl) W
          have hsl : ∀ W, (Instr.slice 9 (.string ⟨R.toArray⟩) (some (.int .i64 1)) none none).run Tryz.prog W = .ok (.string ⟨t.toArray⟩) W := fun W => by
            have h := slice_from R 1 (by rw [hR]; simp) W
            rw [show R.drop 1 = t by rw [hR]; simp] at h
            exact h
          have hlt : t.length < R.length := by simp [hR]
          have hc256 : c.toNat < 256 := c.toNat_lt
          have HF : Hid ((48 ≤ c.toNat ∧ c.toNat ≤ 57) → (9223372036854775808 - (c.toNat - 48)) / 10 < n → scan 0 (body l) = none) := Lib.hid (fun h1 h2 => by rw [HS.out, hR]; exact scan_far h1 h2)
          have HO : Hid ((48 ≤ c.toNat ∧ c.toNat ≤ 57) → ¬ (9223372036854775808 - (c.toNat - 48)) / 10 < n → scan 0 (body l) = scan (10 * n + (c.toNat - 48)) t) := Lib.hid (fun h1 h2 => by rw [HS.out, hR]; exact scan_on h1 h2)
          have HX : Hid (¬ (48 ≤ c.toNat ∧ c.toNat ≤ 57) → scan 0 (body l) = some (n, c :: t)) := Lib.hid (fun h1 => by rw [HS.out, hR]; exact scan_other h1)
          have HR := Lib.hid hR
          clear hR HS
          generalize c.toNat = C at *
          by_cases hd : 48 ≤ C ∧ C ≤ 57
          · obtain ⟨d1, d2⟩ := hd
            have HF' := Lib.hid (HF.out ⟨d1, d2⟩)
            have HO' := Lib.hid (HO.out ⟨d1, d2⟩)
            clear HF HO HX
            obtain ⟨D, hD⟩ : ∃ D, C - 48 = D := ⟨_, rfl⟩
            rw [hD] at HF' HO'
            have hi1 : IntKind.u8.wrap ((C : Int) - 48) = (D : Nat) := by simp [IntKind.wrap, IntKind.bits, IntKind.signed]; omega
            have hD9 : D ≤ 9 := by omega
            have hi3 : IntKind.u64.wrap (9223372036854775808 - (D : Int)) = 9223372036854775808 - (D : Int) := by rw [IntKind.wrap_u64]; omega
            obtain ⟨Q, hQ⟩ : ∃ Q, (9223372036854775808 - D) / 10 = Q := ⟨_, rfl⟩
            rw [hQ] at HF' HO'
            have hi4 : (9223372036854775808 - (D : Int)) / 10 = (Q : Nat) := by omega
            have hi5 : (9223372036854775808 - (D : Int)).tdiv 10 = (Q : Nat) := by rw [Int.tdiv_eq_ediv_of_nonneg (by omega)]; exact hi4
            have hQb : Q ≤ 922337203685477580 := by omega
            by_cases hf : Q < n
            · have HV := Lib.hid (HTN.out (HF'.out hf))
              clear hD hQ
              go_wp2
              go_ret2
              exact ⟨by rw [HV.out]; rfl, rfl⟩
            · have HN := Lib.hid (HO'.out hf)
              have hm1 : IntKind.u64.wrap (10 * (n : Int)) = 10 * (n : Int) := by rw [IntKind.wrap_u64]; omega
              have hm2 : IntKind.u64.wrap (10 * (n : Int) + (D : Int)) = ((10 * n + D : Nat) : Int) := by rw [IntKind.wrap_u64]; omega
              have hle : 10 * n + D ≤ 9223372036854775808 := by omega
              clear hD hQ HF' HO'
              go_wp2
              go_roundg t.length
              · exact ⟨t, 10 * n + D, rfl, rfl, by simp, hle, by omega, HN, rfl⟩
              · exact hlt
          · have HSC := Lib.hid (HX.out hd)
            rw [← HR.out] at HSC
            clear HF HO HX
            by_cases h48 : 48 ≤ C
            · have h57 : ¬ C ≤ 57 := by omega
              clear hd
              obtain ⟨v1, hv1⟩ : ∃ v1, IntKind.i64.wrap (n : Int) = v1 := ⟨_, rfl⟩
              have hv2 : IntKind.i64.wrap (-v1) = -(n : Int) := by rw [← hv1, IntKind.wrap_i64, IntKind.wrap_i64]; omega
              have HV := Lib.hid (HTM.out n _ HSC.out HBL.out)
              go_wp2
              go_ret2
              exact ⟨by rw [HV.out]; rfl, rfl⟩
            · clear hd
              obtain ⟨v1, hv1⟩ : ∃ v1, IntKind.i64.wrap (n : Int) = v1 := ⟨_, rfl⟩
              have hv2 : IntKind.i64.wrap (-v1) = -(n : Int) := by rw [← hv1, IntKind.wrap_i64, IntKind.wrap_i64]; omega
              have HV := Lib.hid (HTM.out n _ HSC.out HBL.out)
              go_wp2
              go_ret2
              exact ⟨by rw [HV.out]; rfl, rfl⟩
    · have hb' : below l = false := by simpa using hb
      have HBD : Hid (body l = l) := Lib.hid (by rw [hbd, if_neg hb])
      have HBL := Lib.hid hb'
      rw [hb'] at hbl
      have hbb : (l.take 2 == [194, 175]) = false := hbl.symm
      have hs2' : ∀ W, (Instr.slice 9 (.string ⟨l.toArray⟩) none (some (.int .i64 2)) none).run Tryz.prog W = .ok (.string ⟨(l.take 2).toArray⟩) W := fun W => hs2 W
      have h2i : (2 : Int) ≤ (l.length : Nat) := by omega
      clear hbd hbl hs2 hs3 hb hb' h2
      go_enter Tryz.func46, Tryz.ntmps46
      go_wp2
      clear hbb hs2' h2i
      go_loopg [0, 5] (l).length (fun gk s0 s5 wr => ∃ (r : List UInt8) (n : Nat), gk = r.length ∧ s0 = .string ⟨r.toArray⟩ ∧ s5 = .int .u64 n ∧ n ≤ 9223372036854775808 ∧ r.length ≤ 1000000 ∧ Hid (scan 0 (body l) = scan n r) ∧ w = wr)
      case atStart => exact ⟨l, 0, rfl, rfl, rfl, by omega, hl, Lib.hid (by rw [HBD.out]), rfl⟩
      case round =>
        obtain ⟨R, n, rfl, rfl, rfl, hn, hRl, HS, rfl⟩ := hrel
        rcases list_cases R with hR | ⟨c, t, hR⟩
        · subst hR
          have HSC := Lib.hid (HS.out.trans (scan_nil n))
          clear HS
          by_cases hbig : n = 9223372036854775808
          · have HV := Lib.hid (HTB.out n _ HSC.out HBL.out hbig)
            subst hbig
            go_wp2
            go_ret2
            exact ⟨by rw [HV.out]; rfl, rfl⟩
          · have HV := Lib.hid (HTP.out n _ HSC.out HBL.out hbig)
            have hb' : ((n : Int) == 9223372036854775808) = false := by simpa using (show ¬ (n : Int) = 9223372036854775808 by omega)
            have hv1 : IntKind.i64.wrap (n : Int) = (n : Int) := by rw [IntKind.wrap_i64]; omega
            go_wp2
            go_ret2
            exact ⟨by rw [HV.out]; rfl, rfl⟩
        · have hne : (R == []) = false := by rw [hR]; rfl
          have hix : ∀ W, (Instr.index 9 (.string ⟨R.toArray⟩) (.int .i64 0)).run Tryz.prog W = .ok (.int .u8 (c.toNat : Nat)) W := fun W => index_at (l := R) (i := 0) (by rw [hR]; rfl) W
          have hsl : ∀ W, (Instr.slice 9 (.string ⟨R.toArray⟩) (some (.int .i64 1)) none none).run Tryz.prog W = .ok (.string ⟨t.toArray⟩) W := fun W => by
            have h := slice_from R 1 (by rw [hR]; simp) W
            rw [show R.drop 1 = t by rw [hR]; simp] at h
            exact h
          have hlt : t.length < R.length := by simp [hR]
          have hc256 : c.toNat < 256 := c.toNat_lt
          have HF : Hid ((48 ≤ c.toNat ∧ c.toNat ≤ 57) → (9223372036854775808 - (c.toNat - 48)) / 10 < n → scan 0 (body l) = none) := Lib.hid (fun h1 h2 => by rw [HS.out, hR]; exact scan_far h1 h2)
          have HO : Hid ((48 ≤ c.toNat ∧ c.toNat ≤ 57) → ¬ (9223372036854775808 - (c.toNat - 48)) / 10 < n → scan 0 (body l) = scan (10 * n + (c.toNat - 48)) t) := Lib.hid (fun h1 h2 => by rw [HS.out, hR]; exact scan_on h1 h2)
          have HX : Hid (¬ (48 ≤ c.toNat ∧ c.toNat ≤ 57) → scan 0 (body l) = some (n, c :: t)) := Lib.hid (fun h1 => by rw [HS.out, hR]; exact scan_other h1)
          have HR := Lib.hid hR
          clear hR HS
          generalize c.toNat = C at *
          by_cases hd : 48 ≤ C ∧ C ≤ 57
          · obtain ⟨d1, d2⟩ := hd
            have HF' := Lib.hid (HF.out ⟨d1, d2⟩)
            have HO' := Lib.hid (HO.out ⟨d1, d2⟩)
            clear HF HO HX
            obtain ⟨D, hD⟩ : ∃ D, C - 48 = D := ⟨_, rfl⟩
            rw [hD] at HF' HO'
            have hi1 : IntKind.u8.wrap ((C : Int) - 48) = (D : Nat) := by simp [IntKind.wrap, IntKind.bits, IntKind.signed]; omega
            have hD9 : D ≤ 9 := by omega
            have hi3 : IntKind.u64.wrap (9223372036854775808 - (D : Int)) = 9223372036854775808 - (D : Int) := by rw [IntKind.wrap_u64]; omega
            obtain ⟨Q, hQ⟩ : ∃ Q, (9223372036854775808 - D) / 10 = Q := ⟨_, rfl⟩
            rw [hQ] at HF' HO'
            have hi4 : (9223372036854775808 - (D : Int)) / 10 = (Q : Nat) := by omega
            have hi5 : (9223372036854775808 - (D : Int)).tdiv 10 = (Q : Nat) := by rw [Int.tdiv_eq_ediv_of_nonneg (by omega)]; exact hi4
            have hQb : Q ≤ 922337203685477580 := by omega
            by_cases hf : Q < n
            · have HV := Lib.hid (HTN.out (HF'.out hf))
              clear hD hQ
              go_wp2
              go_ret2
              exact ⟨by rw [HV.out]; rfl, rfl⟩
            · have HN := Lib.hid (HO'.out hf)
              have hm1 : IntKind.u64.wrap (10 * (n : Int)) = 10 * (n : Int) := by rw [IntKind.wrap_u64]; omega
              have hm2 : IntKind.u64.wrap (10 * (n : Int) + (D : Int)) = ((10 * n + D : Nat) : Int) := by rw [IntKind.wrap_u64]; omega
              have hle : 10 * n + D ≤ 9223372036854775808 := by omega
              clear hD hQ HF' HO'
              go_wp2
              go_roundg t.length
              · exact ⟨t, 10 * n + D, rfl, rfl, by simp, hle, by omega, HN, rfl⟩
              · exact hlt
          · have HSC := Lib.hid (HX.out hd)
            rw [← HR.out] at HSC
            clear HF HO HX
            by_cases h48 : 48 ≤ C
            · have h57 : ¬ C ≤ 57 := by omega
              clear hd
              by_cases hbig : n = 9223372036854775808
              · have HV := Lib.hid (HTB.out n _ HSC.out HBL.out hbig)
                subst hbig
                go_wp2
                go_ret2
                exact ⟨by rw [HV.out]; rfl, rfl⟩
              · have HV := Lib.hid (HTP.out n _ HSC.out HBL.out hbig)
                have hb' : ((n : Int) == 9223372036854775808) = false := by simpa using (show ¬ (n : Int) = 9223372036854775808 by omega)
                have hv1 : IntKind.i64.wrap (n : Int) = (n : Int) := by rw [IntKind.wrap_i64]; omega
                go_wp2
                go_ret2
                exact ⟨by rw [HV.out]; rfl, rfl⟩
            · clear hd
              by_cases hbig : n = 9223372036854775808
              · have HV := Lib.hid (HTB.out n _ HSC.out HBL.out hbig)
                subst hbig
                go_wp2
                go_ret2
                exact ⟨by rw [HV.out]; rfl, rfl⟩
              · have HV := Lib.hid (HTP.out n _ HSC.out HBL.out hbig)
                have hb' : ((n : Int) == 9223372036854775808) = false := by simpa using (show ¬ (n : Int) = 9223372036854775808 by omega)
                have hv1 : IntKind.i64.wrap (n : Int) = (n : Int) := by rw [IntKind.wrap_i64]; omega
                go_wp2
                go_ret2
                exact ⟨by rw [HV.out]; rfl, rfl⟩
  · have hb' : below l = false := by
      rw [hbl, beq_eq_false_iff_ne]
      intro e
      have := congrArg List.length e
      simp at this
      omega
    have HBD : Hid (body l = l) := Lib.hid (by rw [hbd, if_neg (by rw [hb']; decide)])
    have HBL := Lib.hid hb'
    have h2i : ¬ (2 : Int) ≤ (l.length : Nat) := by omega
    clear hbd hbl hb' h2
    go_enter Tryz.func46, Tryz.ntmps46
    go_wp2
    clear h2i
    go_loopg [0, 5] (l).length (fun gk s0 s5 wr => ∃ (r : List UInt8) (n : Nat), gk = r.length ∧ s0 = .string ⟨r.toArray⟩ ∧ s5 = .int .u64 n ∧ n ≤ 9223372036854775808 ∧ r.length ≤ 1000000 ∧ Hid (scan 0 (body l) = scan n r) ∧ w = wr)
    case atStart => exact ⟨l, 0, rfl, rfl, rfl, by omega, hl, Lib.hid (by rw [HBD.out]), rfl⟩
    case round =>
      obtain ⟨R, n, rfl, rfl, rfl, hn, hRl, HS, rfl⟩ := hrel
      rcases list_cases R with hR | ⟨c, t, hR⟩
      · subst hR
        have HSC := Lib.hid (HS.out.trans (scan_nil n))
        clear HS
        by_cases hbig : n = 9223372036854775808
        · have HV := Lib.hid (HTB.out n _ HSC.out HBL.out hbig)
          subst hbig
          go_wp2
          go_ret2
          exact ⟨by rw [HV.out]; rfl, rfl⟩
        · have HV := Lib.hid (HTP.out n _ HSC.out HBL.out hbig)
          have hb' : ((n : Int) == 9223372036854775808) = false := by simpa using (show ¬ (n : Int) = 9223372036854775808 by omega)
          have hv1 : IntKind.i64.wrap (n : Int) = (n : Int) := by rw [IntKind.wrap_i64]; omega
          go_wp2
          go_ret2
          exact ⟨by rw [HV.out]; rfl, rfl⟩
      · have hne : (R == []) = false := by rw [hR]; rfl
        have hix : ∀ W, (Instr.index 9 (.string ⟨R.toArray⟩) (.int .i64 0)).run Tryz.prog W = .ok (.int .u8 (c.toNat : Nat)) W := fun W => index_at (l := R) (i := 0) (by rw [hR]; rfl) W
        have hsl : ∀ W, (Instr.slice 9 (.string ⟨R.toArray⟩) (some (.int .i64 1)) none none).run Tryz.prog W = .ok (.string ⟨t.toArray⟩) W := fun W => by
          have h := slice_from R 1 (by rw [hR]; simp) W
          rw [show R.drop 1 = t by rw [hR]; simp] at h
          exact h
        have hlt : t.length < R.length := by simp [hR]
        have hc256 : c.toNat < 256 := c.toNat_lt
        have HF : Hid ((48 ≤ c.toNat ∧ c.toNat ≤ 57) → (9223372036854775808 - (c.toNat - 48)) / 10 < n → scan 0 (body l) = none) := Lib.hid (fun h1 h2 => by rw [HS.out, hR]; exact scan_far h1 h2)
        have HO : Hid ((48 ≤ c.toNat ∧ c.toNat ≤ 57) → ¬ (9223372036854775808 - (c.toNat - 48)) / 10 < n → scan 0 (body l) = scan (10 * n + (c.toNat - 48)) t) := Lib.hid (fun h1 h2 => by rw [HS.out, hR]; exact scan_on h1 h2)
        have HX : Hid (¬ (48 ≤ c.toNat ∧ c.toNat ≤ 57) → scan 0 (body l) = some (n, c :: t)) := Lib.hid (fun h1 => by rw [HS.out, hR]; exact scan_other h1)
        have HR := Lib.hid hR
        clear hR HS
        generalize c.toNat = C at *
        by_cases hd : 48 ≤ C ∧ C ≤ 57
        · obtain ⟨d1, d2⟩ := hd
          have HF' := Lib.hid (HF.out ⟨d1, d2⟩)
          have HO' := Lib.hid (HO.out ⟨d1, d2⟩)
          clear HF HO HX
          obtain ⟨D, hD⟩ : ∃ D, C - 48 = D := ⟨_, rfl⟩
          rw [hD] at HF' HO'
          have hi1 : IntKind.u8.wrap ((C : Int) - 48) = (D : Nat) := by simp [IntKind.wrap, IntKind.bits, IntKind.signed]; omega
          have hD9 : D ≤ 9 := by omega
          have hi3 : IntKind.u64.wrap (9223372036854775808 - (D : Int)) = 9223372036854775808 - (D : Int) := by rw [IntKind.wrap_u64]; omega
          obtain ⟨Q, hQ⟩ : ∃ Q, (9223372036854775808 - D) / 10 = Q := ⟨_, rfl⟩
          rw [hQ] at HF' HO'
          have hi4 : (9223372036854775808 - (D : Int)) / 10 = (Q : Nat) := by omega
          have hi5 : (9223372036854775808 - (D : Int)).tdiv 10 = (Q : Nat) := by rw [Int.tdiv_eq_ediv_of_nonneg (by omega)]; exact hi4
          have hQb : Q ≤ 922337203685477580 := by omega
          by_cases hf : Q < n
          · have HV := Lib.hid (HTN.out (HF'.out hf))
            clear hD hQ
            go_wp2
            go_ret2
            exact ⟨by rw [HV.out]; rfl, rfl⟩
          · have HN := Lib.hid (HO'.out hf)
            have hm1 : IntKind.u64.wrap (10 * (n : Int)) = 10 * (n : Int) := by rw [IntKind.wrap_u64]; omega
            have hm2 : IntKind.u64.wrap (10 * (n : Int) + (D : Int)) = ((10 * n + D : Nat) : Int) := by rw [IntKind.wrap_u64]; omega
            have hle : 10 * n + D ≤ 9223372036854775808 := by omega
            clear hD hQ HF' HO'
            go_wp2
            go_roundg t.length
            · exact ⟨t, 10 * n + D, rfl, rfl, by simp, hle, by omega, HN, rfl⟩
            · exact hlt
        · have HSC := Lib.hid (HX.out hd)
          rw [← HR.out] at HSC
          clear HF HO HX
          by_cases h48 : 48 ≤ C
          · have h57 : ¬ C ≤ 57 := by omega
            clear hd
            by_cases hbig : n = 9223372036854775808
            · have HV := Lib.hid (HTB.out n _ HSC.out HBL.out hbig)
              subst hbig
              go_wp2
              go_ret2
              exact ⟨by rw [HV.out]; rfl, rfl⟩
            · have HV := Lib.hid (HTP.out n _ HSC.out HBL.out hbig)
              have hb' : ((n : Int) == 9223372036854775808) = false := by simpa using (show ¬ (n : Int) = 9223372036854775808 by omega)
              have hv1 : IntKind.i64.wrap (n : Int) = (n : Int) := by rw [IntKind.wrap_i64]; omega
              go_wp2
              go_ret2
              exact ⟨by rw [HV.out]; rfl, rfl⟩
          · clear hd
            by_cases hbig : n = 9223372036854775808
            · have HV := Lib.hid (HTB.out n _ HSC.out HBL.out hbig)
              subst hbig
              go_wp2
              go_ret2
              exact ⟨by rw [HV.out]; rfl, rfl⟩
            · have HV := Lib.hid (HTP.out n _ HSC.out HBL.out hbig)
              have hb' : ((n : Int) == 9223372036854775808) = false := by simpa using (show ¬ (n : Int) = 9223372036854775808 by omega)
              have hv1 : IntKind.i64.wrap (n : Int) = (n : Int) := by rw [IntKind.wrap_i64]; omega
              go_wp2
              go_ret2
              exact ⟨by rw [HV.out]; rfl, rfl⟩

end Go.Proofs.YtkebngldmcoaaaaGreatDoor
