/-
  What the document's own Read comes to.
-/
import Derived.Test.YtkebngldmcoaaaaGreatDoorROne
namespace Go.Proofs.YtkebngldmcoaaaaGreatDoor
open Go.RowKit Go.Lib
set_option linter.unusedSimpArgs false
set_option linter.unusedVariables false

theorem decs_lit2 (w : World) (o : Obj) (q r : Int) : Decs ((w.alloc o).alloc (.cells #[.int .i64 q, .int .i64 r] 28)) ((w.alloc o).alloc (.cells #[.int .i64 q, .int .i64 r] 28)).heap.size (some ⟨w.heap.size + 1, 0, none⟩) [(q, r)] := by
  have h := decs_lit1 (w.alloc o) q r
  rw [size_alloc w o] at h
  exact h
theorem next_short {r : List UInt8} (h : r.length < 2) : nextD r = none := by
  match r, h with
  | [], _ => rfl
  | [c], _ =>
    by_cases hc : c = 32
    · subst hc; rfl
    · exact nextD_other (by simpa using hc)

set_option maxRecDepth 10000 in
set_option maxHeartbeats 3200000 in
theorem rread_any (l : List UInt8) (hl : l.length ≤ 100000) (w : World) :
    Calls Tryz.prog 6 #[.string ⟨l.toArray⟩] w (ReadP (mkL (readO l)).1 (mkL (readO l)).2.1 (mkL (readO l)).2.2 w) := by
  obtain ⟨B, hB⟩ : ∃ B, w.heap.size = B := ⟨_, rfl⟩
  have HBE := Lib.hid hB
  clear hB
  go_enter Tryz.func6, Tryz.ntmps6
  go_wp2
  go_loopg [0, 5] l.length (fun gk s0 s5 wr => ∃ (r : List UInt8) (acc : List Dc) (v : Value), gk = r.length ∧ s0 = .string ⟨r.toArray⟩ ∧ v = s5 ∧ Hid (OwnD B v acc wr) ∧ Hid (readO l = (readO r).map fun p => (acc ++ p.1, p.2)) ∧ acc.length + r.length ≤ l.length ∧ Hid (Below B w wr))
  case atStart => exact ⟨l, [], _, rfl, rfl, rfl, Lib.hid (ownD_nil _ _), Lib.hid (by simp), by simp, Lib.hid (Below.refl _ _)⟩
  case round =>
    obtain ⟨r, acc, v, rfl, rfl, rfl, HO, HRD, hlen, HG⟩ := hrel
    have hrl : r.length ≤ 1000000 := by omega
    have HZ : Hid (B ≤ wr.heap.size) := Lib.hid (by rw [← HBE.out]; exact HG.out.size)
    have HP := Lib.hid (fun W => rpieces_any r hrl W)
    have hple := npc_le r
    have hst := slice_to r (npc r) hple
    have hsd := slice_from r (npc r) hple
    have HN0 := Lib.hid (read_none HRD.out)
    have HN1 := Lib.hid (read_last HRD.out)
    have HN2 := Lib.hid (fun t => read_on (t := t) HRD.out)
    have HPP := Lib.hid (npc_pos_of (r := r))
    have htl : (r.take (npc r)).length ≤ 1000000 := by rw [List.length_take]; omega
    have HQ := Lib.hid (fun W => rone_any (r.take (npc r)) htl W)
    have HDL := Lib.hid (show (r.drop (npc r)).length = r.length - npc r by simp)
    clear HRD htl
    generalize npc r = p at *
    generalize oneD (r.take p) = d at *
    generalize r.take p = rt at *
    generalize r.drop p = rd at *
    obtain ⟨⟨m, e⟩, ok⟩ := d
    dsimp only at *
    go_wp2_with fail
    refine (HP.out _).mono ?_
    rintro x w1 ⟨rfl, rfl⟩
    clear HP
    have HGW : Hid (Grow w w1) := Lib.hid (by unfold Grow; rw [HBE.out]; exact HG.out)
    go_wp2_with fail
    refine (HQ.out _).mono ?_
    rintro x w2 ⟨rfl, hg⟩
    have HG2 := Lib.hid hg
    clear hg HQ hst
    cases ok
    · have HV := Lib.hid (HN0.out rfl)
      have HG3 := Lib.hid (HG2.out.trans (grow_new w2 (.cells #[.int .i64 m, .int .i64 e] 28)))
      clear HN0 HN1 HN2 HPP
      go_wp2
      go_ret3
      rw [HV.out]
      exact ⟨none, 0, rfl, Nat.le_refl _, Decs.none_, HGW.out.trans HG3.out⟩
    · have HV1 := Lib.hid (HN1.out rfl)
      have HV2 := Lib.hid (fun t => HN2.out t rfl)
      have hp0 := HPP.out rfl
      have HG3 := Lib.hid (HG2.out.trans (grow_new2 w2 (.cells #[.int .i64 m, .int .i64 e] 28) (.cells #[.int .i64 m, .int .i64 e] 28)))
      have HO3 := Lib.hid (HO.out.grow HG3.out)
      have HZ3 := Lib.hid (Nat.le_trans HZ.out HG3.out.size)
      have HGB3 := Lib.hid (Below.trans HG.out (Below.mono HG3.out HZ.out))
      have HL3 := Lib.hid (decs_lit2 w2 (.cells #[.int .i64 m, .int .i64 e] 28) m e)
      clear HN0 HN1 HN2 HPP HO HG HGW HG3 HG2
      have hrdl := HDL.out
      have hacc : acc.length + 1 ≤ 1000000000 := by omega
      by_cases hs2 : rd.length < 2
      · have hs2i : decide (((rd.length : Nat) : Int) < 2) = true := by rw [decide_eq_true_iff]; omega
        have hs2n : decide (rd.length < 2) = true := decide_eq_true hs2
        have HE := Lib.hid (HV1.out (next_short hs2))
        have hrz := str_size rd
        clear HV1 HV2
        go_wp2_with (at_builtin; refine wpList_more_decs rfl _ _ rfl B v acc (some ⟨w2.heap.size + 1, 0, none⟩) 1 1 [(m, e)] rfl HO3.out rfl rfl HL3.out hacc HZ3.out ?_; intro v' w5 HO5 HB5)
        go_ret3
        obtain ⟨A, c, e1, h1, h2⟩ := HO5.out.decs
        rw [HE.out]
        exact ⟨A, c, by rw [← e1]; rfl, h1, h2, by unfold Grow; rw [HBE.out]; exact Below.trans HGB3.out HB5.out⟩
      · have hs2i : decide (((rd.length : Nat) : Int) < 2) = false := by rw [decide_eq_false_iff_not]; omega
        have hs2n : decide (rd.length < 2) = false := decide_eq_false hs2
        have hrz := str_size rd
        obtain ⟨c, t, hrd⟩ : ∃ c t, rd = c :: t := by
          cases rd with
          | nil => simp at hs2
          | cons c t => exact ⟨c, t, rfl⟩
        have hix : ∀ W, (Instr.index 9 (.string ⟨rd.toArray⟩) (.int .i64 0)).run Tryz.prog W = .ok (.int .u8 (c.toNat : Nat)) W := fun W => index_at (l := rd) (i := 0) (by rw [hrd]; rfl) W
        have hs1 : ∀ W, (Instr.slice 9 (.string ⟨rd.toArray⟩) (some (.int .i64 1)) none none).run Tryz.prog W = .ok (.string ⟨t.toArray⟩) W := fun W => by
          have h := slice_from rd 1 (by omega) W
          rw [show rd.drop 1 = t by rw [hrd]; rfl] at h
          exact h
        have hlt0 : (0 : Int) < ((rd.length : Nat) : Int) := by omega
        have h1le : (1 : Int) ≤ ((rd.length : Nat) : Int) := by omega
        have hc256 : c.toNat < 256 := c.toNat_lt
        have htl : t.length < rd.length := by rw [hrd]; simp
        by_cases hc : c = 32
        · have hcb : (((c.toNat : Nat) : Int) == 32) = true := by rw [hc]; rfl
          have hcn : (((c.toNat : Nat) : Int) != 32) = false := by rw [hc]; rfl
          have hnx : nextD rd = if npc t = 0 then none else some t := by rw [hrd, hc]; exact nextD_space t
          have HPI := Lib.hid (fun W => rpieces_any t (by omega) W)
          obtain ⟨q, hq⟩ : ∃ q, npc t = q := ⟨_, rfl⟩
          rw [hq] at HPI hnx
          by_cases h0 : q = 0
          · have HE := Lib.hid (HV1.out (by rw [hnx, if_pos h0]))
            subst h0
            clear HV1 HV2 hnx hq hrd hc
            generalize c.toNat = C at *
            go_wp2_with (at_builtin; refine wpList_more_decs rfl _ _ rfl B v acc (some ⟨w2.heap.size + 1, 0, none⟩) 1 1 [(m, e)] rfl HO3.out rfl rfl HL3.out hacc HZ3.out ?_; intro v' w5 HO5 HB5)
            refine (HPI.out _).mono ?_
            rintro x w6 ⟨rfl, rfl⟩
            go_wp2
            go_ret3
            obtain ⟨A, c', e1, h1, h2⟩ := HO5.out.decs
            rw [HE.out]
            exact ⟨A, c', by rw [← e1]; rfl, h1, h2, by unfold Grow; rw [HBE.out]; exact Below.trans HGB3.out HB5.out⟩
          · have HE := Lib.hid (HV2.out t (by rw [hnx, if_neg h0]))
            have h0b : (((q : Nat) : Int) == 0) = false := by rw [beq_eq_false_iff_ne]; omega
            clear HV1 HV2 hnx hq hrd hc
            generalize c.toNat = C at *
            go_wp2_with (at_builtin; refine wpList_more_decs rfl _ _ rfl B v acc (some ⟨w2.heap.size + 1, 0, none⟩) 1 1 [(m, e)] rfl HO3.out rfl rfl HL3.out hacc HZ3.out ?_; intro v' w5 HO5 HB5)
            refine (HPI.out _).mono ?_
            rintro x w6 ⟨rfl, rfl⟩
            go_wp2
            go_roundg t.length
            case rel => exact ⟨t, acc ++ [(m, e)], v', rfl, rfl, rfl, HO5, HE, by rw [List.length_append, List.length_singleton]; omega, Lib.hid (Below.trans HGB3.out HB5.out)⟩
            case measure => omega
        · have hcb : (((c.toNat : Nat) : Int) == 32) = false := by
            rw [beq_eq_false_iff_ne]
            intro h
            apply hc
            apply UInt8.toNat_inj.1
            have h32 : (32 : UInt8).toNat = 32 := rfl
            omega
          have hcn : (((c.toNat : Nat) : Int) != 32) = true := by unfold bne; rw [hcb]; rfl
          have HE := Lib.hid (HV1.out (nextD_other (by rw [hrd]; simpa using hc)))
          clear HV1 HV2 hrd hc
          generalize c.toNat = C at *
          go_wp2_with (at_builtin; refine wpList_more_decs rfl _ _ rfl B v acc (some ⟨w2.heap.size + 1, 0, none⟩) 1 1 [(m, e)] rfl HO3.out rfl rfl HL3.out hacc HZ3.out ?_; intro v' w5 HO5 HB5)
          go_ret3
          obtain ⟨A, c', e1, h1, h2⟩ := HO5.out.decs
          rw [HE.out]
          exact ⟨A, c', by rw [← e1]; rfl, h1, h2, by unfold Grow; rw [HBE.out]; exact Below.trans HGB3.out HB5.out⟩
end Go.Proofs.YtkebngldmcoaaaaGreatDoor
