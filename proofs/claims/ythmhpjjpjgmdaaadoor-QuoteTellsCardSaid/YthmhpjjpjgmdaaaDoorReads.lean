/-
  What quote.Read comes to, called with any text.
-/
import Derived.Test.YthmhpjjpjgmdaaaDoorFirst
import Derived.Test.YthmhpjjpjgmdaaaDoorFlow
import Derived.Deep.LoopGhost
import Derived.BigRegion
namespace Go.Proofs.YthmhpjjpjgmdaaaDoor
open Go.RowKit Go.Lib
set_option linter.unusedSimpArgs false
set_option linter.unusedVariables false

/-- what is answered: the signs, what follows, and is it so? -/
def mkL : Option (List Nat × List UInt8) → List Int × List UInt8 × Bool
  | none => ([], [], false)
  | some p => (intsZ p.1, p.2, true)
def ReadP (xs : List Int) (r : List UInt8) (ok : Bool) (w : World) (e : Ending) (w' : World) : Prop :=
  ∃ A c, e = .returned (.tuple #[.slice A xs.length c, .string ⟨r.toArray⟩, .bool ok]) ∧ xs.length ≤ c ∧ Nums .i64 w' w'.heap.size A xs ∧ Grow w w'

theorem pre_cut (l : List UInt8) : (∃ t, l = 39 :: t ∧ hasPrefix l [39] = true ∧ trimPrefix l [39] = t) ∨ (hasPrefix l [39] = false ∧ trimPrefix l [39] = l ∧ l.head? ≠ some 39) := by
  rcases l with _ | ⟨a, r⟩
  · exact .inr ⟨rfl, rfl, by simp⟩
  · by_cases ha : a = 39
    · subst ha
      refine .inl ⟨r, rfl, by rw [pre_one]; simp, ?_⟩
      unfold trimPrefix
      rw [pre_one]
      simp
    · refine .inr ⟨by rw [pre_one]; simpa using ha, ?_, by simpa using ha⟩
      unfold trimPrefix
      rw [pre_one]
      simp [ha]
theorem readQ_other {l : List UInt8} (h : l.head? ≠ some 39) : readQ l = none := by
  cases l with
  | nil => rfl
  | cons a r => rw [readQ_cons, if_neg (by simpa using h)]
/-- acc is read, r is left -/
def Left (t : List UInt8) (acc : List Nat) (r : List UInt8) : Prop := bodyD t = (acc ++ (bodyD r).1, (bodyD r).2)
theorem left_on {t r : List UInt8} {acc : List Nat} (h : Left t acc r) (hn : (fstQ r).2 ≠ 0) : Left t (acc ++ [(fstQ r).1]) (r.drop (fstQ r).2) := by
  unfold Left at h ⊢
  rw [h, body_step hn]
  simp
theorem left_end {t r : List UInt8} {acc : List Nat} (h : Left t acc r) (hn : (fstQ r).2 = 0) : bodyD t = (acc, r) := by
  unfold Left at h
  rw [h, body_stop hn]
  simp
theorem end_yes {t : List UInt8} {acc : List Nat} {r : List UInt8} (h : bodyD t = (acc, 39 :: r)) : mkL (readQ (39 :: t)) = (intsZ acc, r, true) := by
  rw [readQ_cons, if_pos rfl, h, endQ_cons, if_pos rfl]
  rfl
theorem end_no {t : List UInt8} {acc : List Nat} {r : List UInt8} (h : bodyD t = (acc, r)) (hr : r.head? ≠ some 39) : mkL (readQ (39 :: t)) = ([], [], false) := by
  rw [readQ_cons, if_pos rfl, h]
  cases r with
  | nil => rfl
  | cons a r => rw [endQ_cons, if_neg (by simpa using hr)]; rfl
theorem ints_one (acc : List Nat) (c : Nat) : intsZ (acc ++ [c]) = intsZ acc ++ [((c : Nat) : Int)] := by rw [ints_append]; rfl

set_option maxRecDepth 10000 in
set_option maxHeartbeats 3200000 in
theorem read_any (l : List UInt8) (hl : l.length ≤ 100000) (w : World) (hL : Laid w) :
    Calls Tryd.prog 11 #[.string ⟨l.toArray⟩] w (ReadP (mkL (readQ l)).1 (mkL (readQ l)).2.1 (mkL (readQ l)).2.2 w) := by
  have HL := Lib.hid hL
  obtain ⟨B, hB⟩ : ∃ B, w.heap.size = B := ⟨_, rfl⟩
  have HBE := Lib.hid hB
  have HC := Lib.hid (Tryd.strings_CutPrefix ⟨l.toArray⟩ ⟨#[39]⟩ w)
  rw [show (⟨l.toArray⟩ : ByteArray).data.toList = l from rfl, show (⟨#[39]⟩ : ByteArray).data.toList = [39] from rfl] at HC
  clear hL hB
  rcases pre_cut l with ⟨t, rfl, hp, ht⟩ | ⟨hp, ht, hh⟩
  · rw [hp, ht] at HC
    have htl : t.length ≤ 99999 := by simpa using hl
    clear hp ht hl
    obtain ⟨s, hs⟩ : ∃ s : ByteArray, s = ⟨(39 :: t).toArray⟩ := ⟨_, rfl⟩
    obtain ⟨m, hm⟩ : ∃ m, mkL (readQ (39 :: t)) = m := ⟨_, rfl⟩
    have HE1 := Lib.hid (fun acc r (h : bodyD t = (acc, 39 :: r)) => hm.symm.trans (end_yes h))
    have HE2 := Lib.hid (fun acc r (h : bodyD t = (acc, r)) h2 => hm.symm.trans (end_no h h2))
    rw [← hs] at HC ⊢
    rw [hm]
    clear hs hm
    go_enter Tryd.func11, Tryd.ntmps11
    go_wp2_with fail
    refine (HC.out).mono ?_
    rintro x w ⟨rfl, rfl⟩
    clear HC
    go_wp2
    go_loopg [0, 6] t.length (fun gk s0 s6 wr => ∃ (r : List UInt8) (acc : List Nat) (v : Value), gk = r.length ∧ s0 = .string ⟨r.toArray⟩ ∧ v = s6 ∧ Hid (OwnI B v (intsZ acc) wr) ∧ Hid (Left t acc r) ∧ acc.length + r.length ≤ t.length ∧ Hid (Below B w wr))
    case atStart => exact ⟨t, [], _, rfl, rfl, rfl, Lib.hid (ownI_nil _ _), Lib.hid (by unfold Left; simp), by simp, Lib.hid (Below.refl _ _)⟩
    case round =>
      obtain ⟨r, acc, v, rfl, rfl, rfl, HO, HLE, hlen, HG⟩ := hrel
      have HZ : Hid (B ≤ wr.heap.size) := Lib.hid (by rw [← HBE.out]; exact HG.out.size)
      have HGW : Hid (Grow w wr) := Lib.hid (by unfold Grow; rw [HBE.out]; exact HG.out)
      have HF := Lib.hid (first_any r wr (HL.out.grow HGW.out))
      by_cases hn : (fstQ r).2 = 0
      · have hbd := left_end HLE.out hn
        have hc2 : ∃ c, fstQ r = (c, 0) := ⟨_, Prod.ext rfl hn⟩
        obtain ⟨c, hc2⟩ := hc2
        rw [hc2] at HF
        clear hc2 hn HLE
        have HC2 := Lib.hid (fun W => Tryd.strings_CutPrefix ⟨r.toArray⟩ ⟨#[39]⟩ W)
        rw [show (⟨r.toArray⟩ : ByteArray).data.toList = r from rfl, show (⟨#[39]⟩ : ByteArray).data.toList = [39] from rfl] at HC2
        rcases pre_cut r with ⟨u, rfl, hp, ht⟩ | ⟨hp, ht, hh⟩
        · rw [hp, ht] at HC2
          have HV := Lib.hid (HE1.out _ _ hbd)
          have HCL := Lib.hid (fun W => clone_any u W (by rw [List.length_cons] at hlen; omega))
          clear hbd hp ht hlen
          obtain ⟨s2, hs2⟩ : ∃ s2 : ByteArray, s2 = ⟨(39 :: u).toArray⟩ := ⟨_, rfl⟩
          rw [← hs2] at HF HC2 ⊢
          clear hs2
          go_wp2_with fail
          refine (HF.out).mono ?_
          rintro x w1 ⟨rfl, hg⟩
          have HG1 := Lib.hid hg
          clear hg HF
          dsimp only
          go_wp2_with fail
          refine (HC2.out _).mono ?_
          rintro x w' ⟨rfl, rfl⟩
          go_wp2_with fail
          refine (HCL.out _).mono ?_
          rintro x w2 ⟨rfl, hg⟩
          have HG2 := Lib.hid (HG1.out.trans hg)
          clear hg
          go_wp2
          go_ret3
          rw [HV.out]
          obtain ⟨A, c, e1, h1, h2⟩ := (HO.out.grow HG2.out).nums
          rw [e1]
          exact ⟨A, c, rfl, h1, h2, HGW.out.trans HG2.out⟩
        · rw [hp, ht] at HC2
          have HV := Lib.hid (HE2.out _ _ hbd hh)
          clear hbd hp ht hh hlen
          go_wp2_with fail
          refine (HF.out).mono ?_
          rintro x w1 ⟨rfl, hg⟩
          have HG1 := Lib.hid hg
          clear hg HF
          dsimp only
          go_wp2_with fail
          refine (HC2.out _).mono ?_
          rintro x w' ⟨rfl, rfl⟩
          go_wp2
          go_ret3
          rw [HV.out]
          exact ⟨none, 0, rfl, Nat.le_refl _, Nums.none_, HGW.out.trans HG1.out⟩
      · have HLE' := Lib.hid (left_on HLE.out hn)
        obtain ⟨i1, _, _⟩ := fst_le hn
        obtain ⟨i2, i3⟩ := fst_drop hn
        obtain ⟨⟨c, k⟩, hck⟩ : ∃ p, fstQ r = p := ⟨_, rfl⟩
        rw [hck] at HF HLE' hn i1 i2 i3
        dsimp only at hn HLE' i1 i2 i3
        have hk0 : (((k : Nat) : Int) == 0) = false := by rw [beq_eq_false_iff_ne]; omega
        have hc := (isSign_iff.1 i1).1
        have hwc : IntKind.i64.wrap ((c : Nat) : Int) = ((c : Nat) : Int) := by rw [IntKind.wrap_i64]; omega
        have hsl := slice_from r k i2
        have hrl : (r.drop k).length = r.length - k := by simp
        generalize r.drop k = rd at *
        clear hn i1 i2 hck HLE hc
        go_wp2_with fail
        refine (HF.out).mono ?_
        rintro x w1 ⟨rfl, hg⟩
        have HG1 := Lib.hid hg
        have HO1 := Lib.hid (HO.out.grow hg)
        have HZ1 := Lib.hid (Nat.le_trans HZ.out hg.size)
        have HGB1 := Lib.hid (Below.trans HG.out (Below.mono hg HZ.out))
        clear hg HF HO HG HGW
        dsimp only
        go_wp2_with fail
        refine wp_region_R ((Below B)) (n := 10) rfl (by kernel_rfl) ?_
        intro W0 hW0e hW0
        have HG0 : Grow w1 W0 := hW0
        have HO0 := Lib.hid (HO1.out.grow HG0)
        have HZ0 := Lib.hid (Nat.le_trans HZ1.out HG0.size)
        have HGB0 := Lib.hid (Below.trans HGB1.out (Below.mono HG0 HZ1.out))
        clear hW0 HG0
        clear hW0e
        refine wpR_take (belowOrd B) (i := 0) (v := ?vf1) rfl (by kernel_rfl) (by kernel_rfl) (by kernel_rfl) (fun _ _ _ h => h) (by rfl) ?hf1 ?rf1
        case hf1 => (intro wg hSw; go_simp <;> with_reducible rfl)
        simp only [Act.put, List.setIfInBounds_toArray, List.set_cons_zero, List.set_cons_succ]
        refine wpR_take (belowOrd B) (i := 1) (v := ?vf2) rfl (by kernel_rfl) (by kernel_rfl) (by kernel_rfl) (fun _ _ _ h => h) (by rfl) ?hf2 ?rf2
        case hf2 => (intro wg hSw; go_simp <;> with_reducible rfl)
        simp only [Act.put, List.setIfInBounds_toArray, List.set_cons_zero, List.set_cons_succ]
        refine wpR_take (belowOrd B) (i := 2) (v := ?vf3) rfl (by kernel_rfl) (by kernel_rfl) (by kernel_rfl) (fun _ _ _ h => h) (by rfl) ?hf3 ?rf3
        case hf3 => (intro wg hSw; go_simp <;> with_reducible rfl)
        simp only [Act.put, List.setIfInBounds_toArray, List.set_cons_zero, List.set_cons_succ]
        refine wpR_take (belowOrd B) (i := 5) (v := ?vf4) rfl (by kernel_rfl) (by kernel_rfl) (by kernel_rfl) (fun _ _ _ h => h) (by rfl) ?hf4 ?rf4
        case hf4 => (intro wg hSw; go_simp <;> with_reducible rfl)
        simp only [Act.put, List.setIfInBounds_toArray, List.set_cons_zero, List.set_cons_succ]
        refine wpR_take (belowOrd B) (i := 6) (v := ?vf5) rfl (by kernel_rfl) (by kernel_rfl) (by kernel_rfl) (fun _ _ _ h => h) (by rfl) ?hf5 ?rf5
        case hf5 => (intro wg hSw; go_simp <;> with_reducible rfl)
        simp only [Act.put, List.setIfInBounds_toArray, List.set_cons_zero, List.set_cons_succ]
        refine wpR_take (belowOrd B) (i := 7) (v := ?vf6) rfl (by kernel_rfl) (by kernel_rfl) (by kernel_rfl) (fun _ _ _ h => h) (by rfl) ?hf6 ?rf6
        case hf6 => (intro wg hSw; go_simp <;> with_reducible rfl)
        simp only [Act.put, List.setIfInBounds_toArray, List.set_cons_zero, List.set_cons_succ]
        refine wpR_one (i := 3) (by kernel_rfl) ?_
        refine wpR_op (i := 3) rfl (by rfl) (fun K hK => ?_)
        go_simp
        refine hK.out _ _ (Below.mono (grow_new _ _) HZ0.out) ?_
        clear hK K
        try simp only [Act.put, List.setIfInBounds_toArray, List.set_cons_zero, List.set_cons_succ]
        generalize hwM3 : World.alloc W0 (Obj.cells #[.int .i64 ((c : Nat) : Int)] 3) = wM3
        have hN3 : Grow W0 wM3 := by rw [← hwM3]; exact grow_new _ _
        have hC3 : Nums .i64 wM3 wM3.heap.size (some ⟨(W0).heap.size, 0, none⟩) [((c : Nat) : Int)] := by rw [← hwM3]; exact nums_lit1 _ _ _
        have hM3 : Below B W0 wM3 := Below.mono hN3 HZ0.out
        have HZ3 := Lib.hid (Nat.le_trans HZ0.out hN3.size)
        have HO3 := Lib.hid (HO0.out.grow hN3)
        clear hwM3
        refine wpR_one (i := 4) (by kernel_rfl) ?_
        refine wpR_op (i := 4) rfl (by rfl) (fun K hK => ?_)
        refine wp_more_ints _ _ rfl B v (intsZ acc) _ 1 1 [((c : Nat) : Int)] rfl HO3.out rfl rfl hC3 (by rw [ints_len]; omega) HZ3.out ?_
        intro v4 wM4 hO4 hB4
        have hM4 : Below B wM3 wM4 := hB4.out
        have hN4 := hM4
        refine hK.out _ _ hM4 ?_
        clear hK K
        try simp only [Act.put, List.setIfInBounds_toArray, List.set_cons_zero, List.set_cons_succ]
        refine wpR_take (belowOrd B) (i := 8) (v := ?vf7) rfl (by kernel_rfl) (by kernel_rfl) (by kernel_rfl) (fun _ _ _ h => h) (by rfl) ?hf7 ?rf7
        case hf7 => (intro wg hSw; go_simp <;> with_reducible rfl)
        simp only [Act.put, List.setIfInBounds_toArray, List.set_cons_zero, List.set_cons_succ]
        refine wpR_take (belowOrd B) (i := 9) (v := ?vf8) rfl (by kernel_rfl) (by kernel_rfl) (by kernel_rfl) (fun _ _ _ h => h) (by rfl) ?hf8 ?rf8
        case hf8 => (intro wg hSw; go_simp <;> with_reducible rfl)
        simp only [Act.put, List.setIfInBounds_toArray, List.set_cons_zero, List.set_cons_succ]
        refine wpR_done (by kernel_rfl) ?_
        have HGW := Lib.hid (Below.trans HGB0.out (((belowOrd B)).trans (((belowOrd B)).trans (((belowOrd B)).refl W0) hM3) hM4))
        have HO5 : Hid (OwnI B v4 (intsZ (acc ++ [c])) wM4) := Lib.hid (by rw [ints_one]; exact hO4.out)
        clear hO4 hsl hM3 hM4 hN3 hN4 hC3 hB4
        go_wp2
        go_roundg rd.length
        case rel => exact ⟨rd, acc ++ [c], v4, rfl, rfl, rfl, HO5, HLE', by rw [List.length_append, List.length_singleton]; omega, HGW⟩
        case measure => omega
  · rw [hp, ht] at HC
    rw [readQ_other hh]
    clear hp ht hh
    go_enter Tryd.func11, Tryd.ntmps11
    go_wp2_with fail
    refine (HC.out).mono ?_
    rintro x w' ⟨rfl, rfl⟩
    clear HC
    go_wp2
    go_ret3
    exact ⟨none, 0, rfl, Nat.le_refl _, Nums.none_, Grow.refl _⟩
theorem read_says {l : List UInt8} {xs : List Int} {r : List UInt8} {ok : Bool} (h : mkL (readQ l) = (xs, r, ok)) (hl : l.length ≤ 100000) (w : World) (hL : Laid w) :
    Calls Tryd.prog 11 #[.string ⟨l.toArray⟩] w (ReadP xs r ok w) := by
  have := read_any l hl w hL
  rw [h] at this
  exact this
end Go.Proofs.YthmhpjjpjgmdaaaDoor
