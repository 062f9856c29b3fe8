/-
  What number.Read comes to, called with any text.
-/
import Derived.Test.YtkebngldmcoaaaaGreatDoorMakes
import Derived.Test.YtkebngldmcoaaaaGreatDoorFlow
import Derived.Shelf.Pu.Clone
namespace Go.Proofs.YtkebngldmcoaaaaGreatDoor
open Go.RowKit Go.Lib
set_option linter.unusedSimpArgs false
set_option linter.unusedVariables false

/-- strings.Clone's own callee, as the library's contract has it -/
def cloneRen : Go.Shelf.Ren := ⟨fun | 25 => 28 | n => n, fun | 37 => 51 | 47 => 67 | n => n, fun n => n⟩
theorem cloneLays : LaysPu.n25 Tryz.prog cloneRen := {
  mixed := by kernel_rfl
  f25 := Tryz.func28.trans (congrArg some (by kernel_rfl))
  t0 := Tryz.underlying0
  a0 := Tryz.isAgg0
  z0 := Tryz.sizeOf0
  v0 := Tryz.zeroValue0
  i0 := by kernel_rfl
  t3 := Tryz.underlying3
  a3 := Tryz.isAgg3
  z3 := Tryz.sizeOf3
  v3 := Tryz.zeroValue3
  i3 := by kernel_rfl
  t4 := Tryz.underlying4
  a4 := Tryz.isAgg4
  z4 := Tryz.sizeOf4
  v4 := Tryz.zeroValue4
  i4 := by kernel_rfl
  t5 := Tryz.underlying5
  a5 := Tryz.isAgg5
  z5 := Tryz.sizeOf5
  v5 := Tryz.zeroValue5
  i5 := by kernel_rfl
  t9 := Tryz.underlying9
  a9 := Tryz.isAgg9
  z9 := Tryz.sizeOf9
  v9 := Tryz.zeroValue9
  i9 := by kernel_rfl
  t37 := Tryz.underlying51
  a37 := Tryz.isAgg51
  z37 := Tryz.sizeOf51
  v37 := Tryz.zeroValue51
  i37 := by kernel_rfl
  t47 := Tryz.underlying67
  a47 := Tryz.isAgg67
  z47 := Tryz.sizeOf67
  v47 := Tryz.zeroValue67
  i47 := by kernel_rfl }
theorem clone_any (l : List UInt8) (w : World) (hl : l.length ≤ 1000000) : Calls Tryz.prog 15 #[.string ⟨l.toArray⟩] w fun e w' => e = .returned (.string ⟨l.toArray⟩) ∧ Grow w w' := by
  have HC := Lib.hid (AnyPu.stringslite_Clone cloneLays ⟨l.toArray⟩ w (by rw [str_size]; omega))
  go_enter Tryz.func15, Tryz.ntmps15
  go_wp2_with fail
  refine (HC.out).mono ?_
  rintro e w1 ⟨rfl, hg⟩
  have HG := Lib.hid (show Grow w w1 from hg)
  clear hg
  go_wp2
  go_ret
  exact ⟨rfl, HG.out⟩

/-- what is answered: the numbers, what follows, and is it so? -/
def mkL : Option (List Dc × List UInt8) → List Dc × List UInt8 × Bool
  | none => ([], [], false)
  | some p => (p.1, p.2, true)
def ReadP (ds : List Dc) (r : List UInt8) (ok : Bool) (w : World) (e : Ending) (w' : World) : Prop :=
  ∃ A c, e = .returned (.tuple #[.slice A ds.length c, .string ⟨r.toArray⟩, .bool ok]) ∧ ds.length ≤ c ∧ Decs w' w'.heap.size A ds ∧ Grow w w'

theorem read_none {l r : List UInt8} {acc : List Dc} (h : readO l = (readO r).map fun p => (acc ++ p.1, p.2)) (h2 : (oneD (r.take (npc r))).2 = false) : mkL (readO l) = ([], [], false) := by
  rw [h, readO_wrong h2]; rfl
theorem read_last {l r : List UInt8} {acc : List Dc} (h : readO l = (readO r).map fun p => (acc ++ p.1, p.2)) (h2 : (oneD (r.take (npc r))).2 = true) (h3 : nextD (r.drop (npc r)) = none) :
    mkL (readO l) = (acc ++ [(oneD (r.take (npc r))).1], r.drop (npc r), true) := by
  rw [h, readO_last h2 h3]; rfl
theorem read_on {l r t : List UInt8} {acc : List Dc} (h : readO l = (readO r).map fun p => (acc ++ p.1, p.2)) (h2 : (oneD (r.take (npc r))).2 = true) (h3 : nextD (r.drop (npc r)) = some t) :
    readO l = (readO t).map fun p => ((acc ++ [(oneD (r.take (npc r))).1]) ++ p.1, p.2) := by
  rw [h, readO_on h2 h3]
  cases readO t with
  | none => rfl
  | some p => simp
theorem npc_pos_of {r : List UInt8} (h2 : (oneD (r.take (npc r))).2 = true) : 0 < npc r := by
  rcases Nat.eq_zero_or_pos (npc r) with h | h
  · rw [h, List.take_zero, oneD_nil] at h2; cases h2
  · exact h
theorem hasP_space (s : List UInt8) : (∃ t, s = 32 :: t ∧ hasPrefix s [32] = true ∧ trimPrefix s [32] = t) ∨ (s.head? ≠ some 32 ∧ hasPrefix s [32] = false ∧ trimPrefix s [32] = s) := by
  cases s with
  | nil => exact .inr ⟨by simp, rfl, rfl⟩
  | cons c t =>
    by_cases h : c = 32
    · subst h
      exact .inl ⟨t, rfl, by simp [hasPrefix], by simp [trimPrefix, hasPrefix]⟩
    · have hf : hasPrefix (c :: t) [32] = false := by
        unfold hasPrefix
        show ((32 : UInt8) == c && List.isPrefixOf [] t) = false
        have : ((32 : UInt8) == c) = false := by simpa using fun e => h e.symm
        rw [this]; rfl
      exact .inr ⟨by simpa using h, hf, by unfold trimPrefix; rw [hf]; simp⟩

set_option maxRecDepth 10000 in
set_option maxHeartbeats 3200000 in
theorem read_any (l : List UInt8) (hl : l.length ≤ 100000) (w : World) (hL : Laid w) :
    Calls Tryz.prog 5 #[.string ⟨l.toArray⟩] w (ReadP (mkL (readO l)).1 (mkL (readO l)).2.1 (mkL (readO l)).2.2 w) := by
  have HL := Lib.hid hL
  obtain ⟨B, hB⟩ : ∃ B, w.heap.size = B := ⟨_, rfl⟩
  have HBE := Lib.hid hB
  clear hL hB
  go_enter Tryz.func5, Tryz.ntmps5
  go_wp2
  go_loopg [0, 5] l.length (fun gk s0 s5 wr => ∃ (r : List UInt8) (acc : List Dc) (v : Value), gk = r.length ∧ s0 = .string ⟨r.toArray⟩ ∧ v = s5 ∧ Hid (OwnD B v acc wr) ∧ Hid (readO l = (readO r).map fun p => (acc ++ p.1, p.2)) ∧ acc.length + r.length ≤ l.length ∧ Hid (Below B w wr))
  case atStart => exact ⟨l, [], _, rfl, rfl, rfl, Lib.hid (ownD_nil _ _), Lib.hid (by simp), by simp, Lib.hid (Below.refl _ _)⟩
  case round =>
    obtain ⟨r, acc, v, rfl, rfl, rfl, HO, HRD, hlen, HG⟩ := hrel
    have hrl : r.length ≤ 1000000 := by omega
    have HZ : Hid (B ≤ wr.heap.size) := Lib.hid (by rw [← HBE.out]; exact HG.out.size)
    have HP := Lib.hid (fun W => pieces_any r hrl W)
    have hple := npc_le r
    have hst := slice_to r (npc r) hple
    have hsd := slice_from r (npc r) hple
    have HN0 := Lib.hid (read_none HRD.out)
    have HN1 := Lib.hid (read_last HRD.out)
    have HN2 := Lib.hid (fun t => read_on (t := t) HRD.out)
    have HPP := Lib.hid (npc_pos_of (r := r))
    have htl : (r.take (npc r)).length ≤ 1000000 := by rw [List.length_take]; omega
    have HQ := Lib.hid (fun W h => one_any (r.take (npc r)) htl W h)
    have HDL := Lib.hid (show (r.drop (npc r)).length = r.length - npc r by simp)
    clear HRD htl
    generalize npc r = p at *
    generalize oneD (r.take p) = d at *
    generalize r.take p = rt at *
    generalize r.drop p = rd at *
    obtain ⟨⟨m, e⟩, ok⟩ := d
    dsimp only at *
    go_wp2_with fail
    refine (HP.out _).mono ?_
    rintro x w1 ⟨rfl, rfl⟩
    clear HP
    have HGW : Hid (Grow w w1) := Lib.hid (by unfold Grow; rw [HBE.out]; exact HG.out)
    go_wp2_with fail
    refine (HQ.out _ (HL.out.grow HGW.out)).mono ?_
    rintro x w2 ⟨rfl, hg⟩
    have HG3 := Lib.hid (hg.trans (grow_new w2 (.cells #[.int .i64 m, .int .i64 e] 28)))
    have hbx := boxed_new w2 (.int .i64 m) (.int .i64 e) 28
    have HBX := Lib.hid hbx
    clear hg HQ hst hbx
    cases ok
    · have HV := Lib.hid (HN0.out rfl)
      clear HN0 HN1 HN2 HPP
      go_wp2
      go_ret3
      rw [HV.out]
      exact ⟨none, 0, rfl, Nat.le_refl _, Decs.none_, HGW.out.trans HG3.out⟩
    · have HV1 := Lib.hid (HN1.out rfl)
      have HV2 := Lib.hid (fun t => HN2.out t rfl)
      have hp0 := HPP.out rfl
      have HO3 := Lib.hid (HO.out.grow HG3.out)
      have HZ3 := Lib.hid (Nat.le_trans HZ.out HG3.out.size)
      have HGB3 := Lib.hid (Below.trans HG.out (Below.mono HG3.out HZ.out))
      clear HN0 HN1 HN2 HPP HO HG HGW
      go_wp2_with fail
      refine wp_region_R ((Below B)) (n := 9) rfl (by kernel_rfl) ?_
      intro W0 hW0e hW0
      have HG0 : Grow (w2.alloc (.cells #[.int .i64 m, .int .i64 e] 28)) W0 := hW0
      have HB0 := HBX.out.grow HG0
      have p0 := HB0.fst
      have p1 := HB0.snd
      have HO0 := Lib.hid (HO3.out.grow HG0)
      have HZ0 := Lib.hid (Nat.le_trans HZ3.out HG0.size)
      have HGB0 := Lib.hid (Below.trans HGB3.out (Below.mono HG0 HZ3.out))
      clear hW0 HG0 HB0
      clear hW0e
      refine wpR_take (belowOrd B) (i := 0) (v := ?vf1) rfl (by kernel_rfl) (by kernel_rfl) (by kernel_rfl) (fun _ _ _ h => h) (by rfl) ?hf1 ?rf1
      case hf1 => (intro wg hSw; go_simp <;> with_reducible rfl)
      simp only [Act.put, List.setIfInBounds_toArray, List.set_cons_zero, List.set_cons_succ]
      refine wpR_take (belowOrd B) (i := 4) (v := ?vf2) rfl (by kernel_rfl) (by kernel_rfl) (by kernel_rfl) (fun _ _ _ h => h) (by rfl) ?hf2 ?rf2
      case hf2 => (intro wg hSw; go_simp <;> with_reducible rfl)
      simp only [Act.put, List.setIfInBounds_toArray, List.set_cons_zero, List.set_cons_succ]
      refine wpR_take (belowOrd B) (i := 5) (v := ?vf3) rfl (by kernel_rfl) (by kernel_rfl) (by kernel_rfl) (fun _ _ _ h => h) (by rfl) ?hf3 ?rf3
      case hf3 => (intro wg hSw; go_simp <;> with_reducible rfl)
      simp only [Act.put, List.setIfInBounds_toArray, List.set_cons_zero, List.set_cons_succ]
      refine wpR_take (belowOrd B) (i := 6) (v := ?vf4) rfl (by kernel_rfl) (by kernel_rfl) (by kernel_rfl) (fun _ _ _ h => h) (by rfl) ?hf4 ?rf4
      case hf4 => (intro wg hSw; go_simp <;> with_reducible rfl)
      simp only [Act.put, List.setIfInBounds_toArray, List.set_cons_zero, List.set_cons_succ]
      refine wpR_one (i := 1) (by kernel_rfl) ?_
      refine wpR_op (i := 1) rfl (by rfl) (fun K hK => ?_)
      go_simp
      refine hK.out _ _ (((belowOrd B)).refl _) ?_
      clear hK K
      try simp only [Act.put, List.setIfInBounds_toArray, List.set_cons_zero, List.set_cons_succ]
      refine wpR_one (i := 2) (by kernel_rfl) ?_
      refine wpR_op (i := 2) rfl (by rfl) (fun K hK => ?_)
      go_simp
      refine hK.out _ _ (Below.mono (grow_new _ _) HZ0.out) ?_
      clear hK K
      try simp only [Act.put, List.setIfInBounds_toArray, List.set_cons_zero, List.set_cons_succ]
      generalize hwM2 : World.alloc W0 (Obj.cells #[.int .i64 m, .int .i64 e] 28) = wM2
      have hN2 : Grow W0 wM2 := by rw [← hwM2]; exact grow_new _ _
      have hC2 : Decs wM2 wM2.heap.size (some ⟨(W0).heap.size, 0, none⟩) [(m, e)] := by rw [← hwM2]; exact decs_lit1 _ _ _
      have hM2 : Below B W0 wM2 := Below.mono hN2 HZ0.out
      have HZ2 := Lib.hid (Nat.le_trans HZ0.out hN2.size)
      have HO2 := Lib.hid (HO0.out.grow hN2)
      clear hwM2
      refine wpR_one (i := 3) (by kernel_rfl) ?_
      refine wpR_op (i := 3) rfl (by rfl) (fun K hK => ?_)
      refine wp_more_decs _ _ rfl B v acc _ 1 1 [(m, e)] rfl HO2.out rfl rfl hC2 (by omega) HZ2.out ?_
      intro v3 wM3 hO3 hB3
      have hM3 : Below B wM2 wM3 := hB3.out
      have hN3 := hM3
      refine hK.out _ _ hM3 ?_
      clear hK K
      try simp only [Act.put, List.setIfInBounds_toArray, List.set_cons_zero, List.set_cons_succ]
      refine wpR_take (belowOrd B) (i := 7) (v := ?vf5) rfl (by kernel_rfl) (by kernel_rfl) (by kernel_rfl) (fun _ _ _ h => h) (by rfl) ?hf5 ?rf5
      case hf5 => (intro wg hSw; go_simp <;> with_reducible rfl)
      simp only [Act.put, List.setIfInBounds_toArray, List.set_cons_zero, List.set_cons_succ]
      refine wpR_take (belowOrd B) (i := 8) (v := ?vf6) rfl (by kernel_rfl) (by kernel_rfl) (by kernel_rfl) (fun _ _ _ h => h) (by rfl) ?hf6 ?rf6
      case hf6 => (intro wg hSw; go_simp <;> with_reducible rfl)
      simp only [Act.put, List.setIfInBounds_toArray, List.set_cons_zero, List.set_cons_succ]
      refine wpR_done (by kernel_rfl) ?_
      have HGW := Lib.hid (Below.trans HGB0.out (((belowOrd B)).trans (((belowOrd B)).trans (((belowOrd B)).refl W0) hM2) hM3))
      have HO3' := hO3
      have HRS := Lib.hid (Tryz.strings_CutPrefix ⟨rd.toArray⟩ ⟨#[32]⟩ wM3)
      rw [show (⟨rd.toArray⟩ : ByteArray).data.toList = rd from rfl, show (⟨#[32]⟩ : ByteArray).data.toList = [32] from rfl] at HRS
      have hrdl := HDL.out
      have HCL := Lib.hid (fun W => clone_any rd W (by omega))
      have HEND : Hid (∀ w', Grow wM3 w' → mkL (readO l) = (acc ++ [(m, e)], rd, true) → ReadP (mkL (readO l)).1 (mkL (readO l)).2.1 (mkL (readO l)).2.2 w (.returned (.tuple #[v3, .string ⟨rd.toArray⟩, .bool true])) w') := Lib.hid (fun w' hw hv => by
        obtain ⟨A, c, e1, h1, h2⟩ := (hO3.out.grow hw).decs
        rw [hv, e1]
        exact ⟨A, c, rfl, h1, h2, by have := HGW.out; unfold Grow; rw [← HBE.out] at this; exact Below.trans this (Below.mono hw (by rw [HBE.out]; exact Nat.le_trans HZ2.out hM3.size))⟩)
      clear hO3 hsd hM2 hM3 hN2 hN3 hC2 hB3 p0 p1
      rcases hasP_space rd with ⟨t, hrd, hp, ht⟩ | ⟨hh, hp, ht⟩
      · rw [hp, ht] at HRS
        have HPI := Lib.hid (fun W => piece_any t W)
        have hnx : nextD rd = if npc t = 0 then none else some t := by rw [hrd]; exact nextD_space t
        have hpz := pcD_zero t
        have htl : t.length < rd.length := by rw [hrd]; simp
        obtain ⟨q, hq⟩ : ∃ q, pcD t = q := ⟨_, rfl⟩
        rw [hq] at HPI hpz
        by_cases h0 : q = 0
        · subst h0
          have HE := Lib.hid (fun w' hw => HEND.out w' hw (HV1.out (by rw [hnx, if_pos (hpz.1 rfl)])))
          clear HV1 HV2 HEND hnx hpz hq hrd hp ht
          go_wp2_with fail
          refine (HRS.out).mono ?_
          rintro x w' ⟨rfl, rfl⟩
          go_wp2_with fail
          refine (HPI.out _).mono ?_
          rintro x w' ⟨rfl, rfl⟩
          go_wp2_with fail
          refine (HCL.out _).mono ?_
          rintro x w6 ⟨rfl, hg⟩
          have HG6 := Lib.hid hg
          clear hg
          go_wp2
          go_ret3
          exact HE.out _ HG6.out
        · have h0b : (((q : Nat) : Int) == 0) = false := by rw [beq_eq_false_iff_ne]; omega
          have HE := Lib.hid (HV2.out t (by rw [hnx, if_neg (fun h => h0 (hpz.2 h))]))
          clear HV1 HV2 HEND hnx hpz hq hrd hp ht
          go_wp2_with fail
          refine (HRS.out).mono ?_
          rintro x w' ⟨rfl, rfl⟩
          go_wp2_with fail
          refine (HPI.out _).mono ?_
          rintro x w' ⟨rfl, rfl⟩
          go_wp2
          go_roundg t.length
          case rel => exact ⟨t, acc ++ [(m, e)], v3, rfl, rfl, rfl, HO3', HE, by rw [List.length_append, List.length_singleton]; omega, HGW⟩
          case measure => omega
      · rw [hp, ht] at HRS
        have HE := Lib.hid (fun w' hw => HEND.out w' hw (HV1.out (nextD_other hh)))
        clear HV1 HV2 HEND hh hp ht
        go_wp2_with fail
        refine (HRS.out).mono ?_
        rintro x w' ⟨rfl, rfl⟩
        go_wp2_with fail
        refine (HCL.out _).mono ?_
        rintro x w6 ⟨rfl, hg⟩
        have HG6 := Lib.hid hg
        clear hg
        go_wp2
        go_ret3
        exact HE.out _ HG6.out
theorem read_says {l : List UInt8} {ds : List Dc} {r : List UInt8} {ok : Bool} (h : mkL (readO l) = (ds, r, ok)) (hl : l.length ≤ 100000) (w : World) (hL : Laid w) :
    Calls Tryz.prog 5 #[.string ⟨l.toArray⟩] w (ReadP ds r ok w) := by
  have := read_any l hl w hL
  rw [h] at this
  exact this
end Go.Proofs.YtkebngldmcoaaaaGreatDoor
