/-
  What the document's own Read comes to, called with any text.
-/
import Derived.Test.YthmhpjjpjgmdaaaDoorRSigns
namespace Go.Proofs.YthmhpjjpjgmdaaaDoor
open Go.RowKit Go.Lib
set_option linter.unusedSimpArgs false
set_option linter.unusedVariables false

theorem readQ_ref (t : List UInt8) : readQ (39 :: t) = refQ t := by rw [readQ_cons, if_pos rfl, read_ref]
/-- inn is scanned, what stands from i on is left -/
def ScanAt (t : List UInt8) (inn r : List UInt8) : Prop := scanQ t = (scanQ r).map fun p => (inn ++ p.1, p.2)
theorem scanAt_start (t : List UInt8) : ScanAt t [] t := by
  unfold ScanAt
  cases scanQ t <;> simp
theorem scanAt_other {t inn r : List UInt8} {x : UInt8} (h : ScanAt t inn (x :: r)) (hx : x ≠ 39) : ScanAt t (inn ++ [x]) r := by
  unfold ScanAt at h ⊢
  rw [h, scan_other hx]
  cases scanQ r <;> simp
theorem scanAt_two {t inn r : List UInt8} (h : ScanAt t inn (39 :: 39 :: r)) : ScanAt t (inn ++ [39]) r := by
  unfold ScanAt at h ⊢
  rw [h, scan_two]
  cases scanQ r <;> simp
theorem scanAt_end {t inn r : List UInt8} (h : ScanAt t inn (39 :: r)) (hr : r.head? ≠ some 39) : refQ t = (signsD inn).map fun cs => (cs, r) := by
  unfold ScanAt at h
  unfold refQ
  rw [h, scan_end hr]
  simp
theorem scanAt_none {t inn : List UInt8} (h : ScanAt t inn []) : refQ t = none := by
  unfold ScanAt at h
  unfold refQ
  rw [h, show scanQ [] = none from by rw [scanQ.eq_def]]
  rfl
theorem mkL_ref {t : List UInt8} {p : Option (List Nat × List UInt8)} (h : refQ t = p) : mkL (readQ (39 :: t)) = mkL p := by rw [readQ_ref, h]
theorem u8_ne39 {x : UInt8} (h : x ≠ 39) : ¬ ((x.toNat : Nat) : Int) = 39 := fun e => h (UInt8.toNat_inj.1 (by
  have h2 : x.toNat = 39 := by omega
  exact h2))
theorem list_step (l : List UInt8) (i : Nat) : (l.drop i = [] ∧ l.length ≤ i) ∨ ∃ x, l[i]? = some x ∧ l.drop i = x :: l.drop (i + 1) ∧ i < l.length := by
  by_cases h : i < l.length
  · exact .inr ⟨l[i], by simp [h], List.drop_eq_getElem_cons h, h⟩
  · exact .inl ⟨List.drop_of_length_le (by omega), by omega⟩

set_option maxRecDepth 10000 in
set_option maxHeartbeats 3200000 in
theorem rread_any (l : List UInt8) (hl : l.length ≤ 100000) (w : World) :
    Calls Tryd.prog 12 #[.string ⟨l.toArray⟩] w (ReadP (mkL (readQ l)).1 (mkL (readQ l)).2.1 (mkL (readQ l)).2.2 w) := by
  rcases l with _ | ⟨a, t⟩
  · go_enter Tryd.func12, Tryd.ntmps12
    go_wp2
    go_ret3
    exact ⟨none, 0, rfl, Nat.le_refl _, Nums.none_, Grow.refl _⟩
  have hix0 : ∀ W, (Instr.index 9 (.string ⟨(a :: t).toArray⟩) (.int .i64 0)).run Tryd.prog W = .ok (.int .u8 (a.toNat : Nat)) W := fun W => index_str (l := a :: t) (i := 0) rfl W
  have hne0 : ((a :: t : List UInt8) == []) = false := rfl
  by_cases ha : a = 39
  case neg =>
    have hq : mkL (readQ (a :: t)) = ([], [], false) := by rw [readQ_cons, if_neg ha]; rfl
    have hb : a.toNat ≠ 39 := fun e => ha (UInt8.toNat_inj.1 e)
    rw [hq]
    generalize a :: t = l at *
    generalize a.toNat = C at *
    have hCb : (((C : Nat) : Int) != 39) = true := by rw [bne_iff_ne]; omega
    clear ha hb hq
    go_enter Tryd.func12, Tryd.ntmps12
    go_wp2
    go_ret3
    exact ⟨none, 0, rfl, Nat.le_refl _, Nums.none_, Grow.refl _⟩
  subst ha
  obtain ⟨m, hm⟩ : ∃ m, mkL (readQ (39 :: t)) = m := ⟨_, rfl⟩
  have HM := Lib.hid (fun p (h : refQ t = p) => hm.symm.trans (mkL_ref h))
  have hst : ScanAt t [] ((39 :: t).drop 1) := scanAt_start t
  rw [hm]
  clear hm
  obtain ⟨l, hle⟩ : ∃ l, 39 :: t = l := ⟨_, rfl⟩
  rw [hle] at hix0 hne0 hl hst ⊢
  replace hix0 : ∀ W, (Instr.index 9 (.string ⟨l.toArray⟩) (.int .i64 0)).run Tryd.prog W = .ok (.int .u8 39) W := hix0
  have hl1 : 1 ≤ l.length := by rw [← hle]; simp
  have HS0 := Lib.hid hst
  have HSG := Lib.hid (fun x W (h : x.length ≤ 1000000) => rsigns_any x W h)
  clear hst hle
  have hix : ∀ (i : Nat) (x : UInt8), l[i]? = some x → ∀ W, (Instr.index 9 (.string ⟨l.toArray⟩) (.int .i64 (i : Nat))).run Tryd.prog W = .ok (.int .u8 (x.toNat : Nat)) W := fun i x h W => index_str h W
  have HIX := Lib.hid hix
  clear hix
  go_enter Tryd.func12, Tryd.ntmps12
  go_wp2
  go_loopg [5, 6] (l.length - 1) (fun g s5 s6 wr => ∃ (i : Nat) (inn : List UInt8), i ≤ l.length + 1 ∧ g = l.length - i ∧ s5 = .string ⟨inn.toArray⟩ ∧ s6 = .int .i64 i ∧ inn.length ≤ i ∧ Hid (ScanAt t inn (l.drop i)) ∧ w = wr)
  case atStart => exact ⟨1, [], by omega, rfl, rfl, rfl, by simp, HS0, rfl⟩
  case round =>
    obtain ⟨i, inn, hi, rfl, rfl, rfl, hil, HSC, rfl⟩ := hrel
    clear HS0
    have hw1 : IntKind.i64.wrap (((i : Nat) : Int) + 1) = ((i : Nat) : Int) + 1 := by rw [IntKind.wrap_i64]; omega
    have hw2 : IntKind.i64.wrap (((i : Nat) : Int) + 1 + 1) = ((i : Nat) : Int) + 1 + 1 := by rw [IntKind.wrap_i64]; omega
    rcases list_step l i with ⟨hd, hge⟩ | ⟨x, hx, hd, hlt⟩
    · have HV := Lib.hid (HM.out _ (scanAt_none (by have := HSC.out; rwa [hd] at this)))
      clear HM HSC HSG HIX hd
      go_wp2
      go_ret3
      rw [HV.out]
      exact ⟨none, 0, rfl, Nat.le_refl _, Nums.none_, Grow.refl _⟩
    have hixi := HIX.out i x hx
    rw [hd] at HSC
    by_cases hx39 : x = 39
    case neg =>
      have HN := Lib.hid (scanAt_other HSC.out hx39)
      have hxb : (((x.toNat : Nat) : Int) != 39) = true := by rw [bne_iff_ne]; exact u8_ne39 hx39
      have hsl := slice_two l i (i + 1) (by omega) (by omega)
      rw [show (l.take (i + 1)).drop i = [x] by
        have h1 := (List.getElem?_eq_some_iff.1 hx).2
        rw [List.take_succ_eq_append_getElem hlt, List.drop_append_of_le_length (by rw [List.length_take]; omega), List.drop_of_length_le (by rw [List.length_take]; omega), h1]
        rfl] at hsl
      push_cast at hsl
      have hcat := str_app inn [x]
      have hs1 : ¬ 9223372036854775807 < inn.length + 1 := by omega
      clear HM HSG HIX hd hx HSC hx39 hix0 hne0
      generalize x.toNat = C at *
      go_wp2
      go_roundg (l.length - (i + 1))
      case rel => exact ⟨i + 1, inn ++ [x], by omega, rfl, rfl, by go_num, by rw [List.length_append, List.length_singleton]; omega, HN, rfl⟩
      case measure => omega
    subst hx39
    replace hixi : ∀ W, (Instr.index 9 (.string ⟨l.toArray⟩) (.int .i64 (i : Nat))).run Tryd.prog W = .ok (.int .u8 39) W := hixi
    rcases list_step l (i + 1) with ⟨hd2, hge2⟩ | ⟨y, hy, hd2, hlt2⟩
    · have HR := Lib.hid (scanAt_end HSC.out (by rw [hd2]; simp))
      have hdl : i + 1 = l.length := by omega
      have hsl := slice_from l (i + 1) (by omega)
      push_cast at hsl
      have HG := Lib.hid (HSG.out inn w (by omega))
      cases hsg : signsD inn with
      | none =>
        have HV := Lib.hid (HM.out _ (by rw [HR.out, hsg]))
        unfold SignsOf at HG
        rw [hsg] at HG
        clear HM HSG HIX hd hd2 HSC HR hix0 hne0 hsg hsl
        go_wp2_with fail
        refine (HG.out).mono ?_
        rintro e w2 ⟨v, rfl, _, hg⟩
        have HG2 := Lib.hid hg
        clear hg HG
        dsimp only [Option.isSome_none]
        go_wp2
        go_ret3
        rw [HV.out]
        exact ⟨none, 0, rfl, Nat.le_refl _, Nums.none_, HG2.out⟩
      | some cs =>
        have HV := Lib.hid (HM.out _ (by rw [HR.out, hsg]))
        unfold SignsOf at HG
        rw [hsg] at HG
        generalize l.drop (i + 1) = R at *
        clear HM HSG HIX hd hd2 HSC HR hix0 hne0 hsg
        go_wp2_with fail
        refine (HG.out).mono ?_
        rintro e w2 ⟨v, rfl, ho, hg⟩
        have HG2 := Lib.hid hg
        have HO := Lib.hid (ho.nums)
        clear hg HG ho
        dsimp only [Option.isSome_some, Option.getD_some]
        go_wp2
        go_quiet (fail)
        go_wp2
        go_ret3
        rw [HV.out]
        obtain ⟨A, cap, rfl, h1, h2⟩ := HO.out
        refine ⟨A, cap, ?_, ?_, h2, HG2.out.drewN _⟩
        · show Ending.returned (.tuple #[.slice A cs.length cap, .string ⟨R.toArray⟩, .bool true]) = .returned (.tuple #[.slice A (intsZ cs).length cap, .string ⟨R.toArray⟩, .bool true])
          rw [ints_len]
        · show (intsZ cs).length ≤ cap
          rw [ints_len]
          exact h1
    have hixy := HIX.out (i + 1) y hy
    push_cast at hixy
    by_cases hy39 : y = 39
    · subst hy39
      replace hixy : ∀ W, (Instr.index 9 (.string ⟨l.toArray⟩) (.int .i64 (((i : Nat) : Int) + 1))).run Tryd.prog W = .ok (.int .u8 39) W := hixy
      rw [hd2] at HSC
      have HN := Lib.hid (scanAt_two HSC.out)
      have hcat := str_app inn [39]
      have hs1 : ¬ 9223372036854775807 < inn.length + 1 := by omega
      clear HM HSG HIX hd hx hd2 hy HSC hix0 hne0
      go_wp2
      go_roundg (l.length - (i + 1 + 1))
      case rel => exact ⟨i + 1 + 1, inn ++ [39], by omega, rfl, rfl, by go_num, by rw [List.length_append, List.length_singleton]; omega, HN, rfl⟩
      case measure => omega
    · have HR := Lib.hid (scanAt_end HSC.out (by rw [hd2]; simpa using hy39))
      have hyb : (((y.toNat : Nat) : Int) == 39) = false := by rw [beq_eq_false_iff_ne]; exact u8_ne39 hy39
      have hsl := slice_from l (i + 1) (by omega)
      push_cast at hsl
      have HG := Lib.hid (HSG.out inn w (by omega))
      cases hsg : signsD inn with
      | none =>
        have HV := Lib.hid (HM.out _ (by rw [HR.out, hsg]))
        unfold SignsOf at HG
        rw [hsg] at HG
        clear HM HSG HIX hd hd2 HSC HR hix0 hne0 hsg hsl hy39
        go_wp2_with fail
        refine (HG.out).mono ?_
        rintro e w2 ⟨v, rfl, _, hg⟩
        have HG2 := Lib.hid hg
        clear hg HG
        dsimp only [Option.isSome_none]
        go_wp2
        go_ret3
        rw [HV.out]
        exact ⟨none, 0, rfl, Nat.le_refl _, Nums.none_, HG2.out⟩
      | some cs =>
        have HV := Lib.hid (HM.out _ (by rw [HR.out, hsg]))
        unfold SignsOf at HG
        rw [hsg] at HG
        clear hd2
        generalize l.drop (i + 1) = R at *
        clear HM HSG HIX hd HSC HR hix0 hne0 hsg hy39
        go_wp2_with fail
        refine (HG.out).mono ?_
        rintro e w2 ⟨v, rfl, ho, hg⟩
        have HG2 := Lib.hid hg
        have HO := Lib.hid (ho.nums)
        clear hg HG ho
        dsimp only [Option.isSome_some, Option.getD_some]
        go_wp2
        go_quiet (fail)
        go_wp2
        go_ret3
        rw [HV.out]
        obtain ⟨A, cap, rfl, h1, h2⟩ := HO.out
        refine ⟨A, cap, ?_, ?_, h2, HG2.out.drewN _⟩
        · show Ending.returned (.tuple #[.slice A cs.length cap, .string ⟨R.toArray⟩, .bool true]) = .returned (.tuple #[.slice A (intsZ cs).length cap, .string ⟨R.toArray⟩, .bool true])
          rw [ints_len]
        · show (intsZ cs).length ≤ cap
          rw [ints_len]
          exact h1
theorem rread_says {l : List UInt8} {xs : List Int} {r : List UInt8} {ok : Bool} (h : mkL (readQ l) = (xs, r, ok)) (hl : l.length ≤ 100000) (w : World) :
    Calls Tryd.prog 12 #[.string ⟨l.toArray⟩] w (ReadP xs r ok w) := by
  have := rread_any l hl w
  rw [h] at this
  exact this
end Go.Proofs.YthmhpjjpjgmdaaaDoor
