/-
  What the document's own one and Read come to.
-/
import Derived.Test.YtkebngldmcoaaaaGreatDoorReads
import Derived.Test.YtkebngldmcoaaaaGreatDoorRPieces
import Derived.Test.YtkebngldmcoaaaaGreatDoorRParse
namespace Go.Proofs.YtkebngldmcoaaaaGreatDoor
open Go.RowKit Go.Lib
set_option linter.unusedSimpArgs false
set_option linter.unusedVariables false

/-- more than a sign, and a nought at the end -/
def longZ (r : List UInt8) : Prop := 1 < r.length ∧ r.getLast? = some 48
theorem last_step {r : List UInt8} (h : longZ r) : r = r.take (r.length - 1) ++ [48] ∧ r[r.length - 1]? = some 48 := by
  obtain ⟨h1, h2⟩ := h
  have hl : r[r.length - 1]? = some 48 := by rw [← List.getLast?_eq_getElem?]; exact h2
  refine ⟨?_, hl⟩
  have e := List.take_succ_eq_append_getElem (l := r) (i := r.length - 1) (by omega)
  have hg : r[r.length - 1] = 48 := (List.getElem?_eq_some_iff.1 hl).2
  rw [hg, show r.length - 1 + 1 = r.length by omega, List.take_length] at e
  exact e
theorem end_of {r : List UInt8} (h : ¬ longZ r) : r.getLast? ≠ some 48 ∨ r = [48] := by
  by_cases h2 : r.getLast? = some 48
  · refine .inr ?_
    have hl : ¬ 1 < r.length := fun h1 => h ⟨h1, h2⟩
    match r, hl, h2 with
    | [], _, h2 => cases h2
    | [c], _, h2 => simpa using h2
    | c :: d :: t, hl, _ => exact absurd hl (by simp)
  · exact .inl h2
theorem zeros_more {l r q : List UInt8} {k : Nat} (h : l = r ++ List.replicate k 48) (hr : r = q ++ [48]) : l = q ++ List.replicate (k + 1) 48 := by
  rw [h, hr, List.append_assoc, List.replicate_succ]
  rfl
theorem roundD_big {t : List UInt8} {k : Nat} (h : 18 < k) : roundD t k = ((0, 0), false) := by
  unfold roundD
  rw [if_neg]
  rintro ⟨_, _, h3⟩
  rw [whole_far (parseD_in t).1 (by omega)] at h3
  cases h3
/-- what the whole number's text is, where it is one -/
theorem round_num {l t : List UInt8} {k : Nat} {m v : Int} (hl : l = t ++ List.replicate k 48) (ht : t.getLast? ≠ some 48 ∨ t = [48]) (hp : (parseD l).2 = false) (hq : parseD t = ((m, 0), true)) (hw : wholeD m (k : Int) = (v, true)) : num v = l ∧ In v := by
  obtain ⟨hr, htx⟩ := parseD_true (l := t) (by rw [hq])
  have hmi := (parseD_in t).1
  rw [hq] at hr htx hmi
  simp only at hr htx hmi
  rw [text_plain hr] at htx
  obtain ⟨hrk, _, hin, hv⟩ := whole_true (m := m) (e := (k : Int)) (by rw [hw])
  rw [hw, Int.toNat_natCast] at hv
  simp only at hv
  rw [Int.toNat_natCast, ← hv] at hin
  refine ⟨?_, hin⟩
  by_cases hm0 : m = 0
  · exfalso
    subst hm0
    have hk : k = 0 := by
      rcases (rightB_iff hmi).1 hrk with ⟨_, h⟩ | ⟨h, _⟩ <;> omega
    subst hk
    have : parseD l = ((0, 0), true) := by rw [hl, List.replicate_zero, List.append_nil]; exact hq
    rw [this] at hp
    cases hp
  · rw [hv, num_mul k hm0, htx, hl]

set_option maxRecDepth 10000 in
set_option maxHeartbeats 3200000 in
theorem rone_any (l : List UInt8) (hl : l.length ≤ 1000000) (w : World) :
    Calls Tryz.prog 17 #[.string ⟨l.toArray⟩] w fun x w' => x = .returned (.tuple #[.agg #[.int .i64 (oneD l).1.1, .int .i64 (oneD l).1.2], .bool (oneD l).2]) ∧ Grow w w' := by
  have HP := Lib.hid (fun W => rparse_any l hl W)
  have HY := Lib.hid (fun h => oneD_of (l := l) h)
  have HRO := Lib.hid (fun (r : List UInt8) (k : Nat) (h1 : l = r ++ List.replicate k 48) (h2 : r.getLast? ≠ some 48 ∨ r = [48]) (h3 : (parseD l).2 = false) => round_of h1 h2 h3)
  have HRN := Lib.hid (fun (r : List UInt8) (k : Nat) (m v : Int) (h1 : l = r ++ List.replicate k 48) (h2 : r.getLast? ≠ some 48 ∨ r = [48]) (h3 : (parseD l).2 = false) hq hw => round_num (m := m) (v := v) h1 h2 h3 hq hw)
  obtain ⟨⟨⟨m, e⟩, b⟩, hd⟩ : ∃ r, parseD l = r := ⟨_, rfl⟩
  rw [hd] at HP HY HRO HRN
  simp only at HP HY HRO HRN
  generalize oneD l = o at *
  clear hd
  have hlz := str_size l
  go_enter Tryz.func17, Tryz.ntmps17
  go_wp2_with fail
  refine (HP.out _).mono ?_
  rintro x w1 ⟨rfl, hg⟩
  have HG1 := Lib.hid ((grow_new w _).trans hg)
  have HB0 := Lib.hid ((boxed_new w (.int .i64 0) (.int .i64 0) 28).grow hg)
  clear hg HP
  have hf0 : ∀ o j, (w1.alloc o).frozen? ⟨w.heap.size, j, none⟩ = false := fun o j => (HB0.out.grow (grow_new _ o)).froz j
  have hcc0 : ∀ o, (w1.alloc o).cell? ⟨w.heap.size, 0, none⟩ = some (.int .i64 0) := fun o => (HB0.out.grow (grow_new _ o)).fst
  have hcc1 : ∀ o, (w1.alloc o).cell? ⟨w.heap.size, 1, none⟩ = some (.int .i64 0) := fun o => (HB0.out.grow (grow_new _ o)).snd
  have hne : ¬ w1.heap.size = w.heap.size := by have := HB0.out.lt; omega
  cases b
  rotate_left
  · have HV := Lib.hid (HY.out rfl)
    clear HRO HRN HY
    go_wp2
    have hr := ((HB0.out.grow (grow_new w1 (.cells #[.int .i64 m, .int .i64 e] 28))).put0 (.int .i64 m)).put1 (.int .i64 e)
    exact bodyPost_ret (v := .tuple #[.agg #[.int .i64 m, .int .i64 e], .bool true]) (by simp [results, Tryz.results17, go_sem, hr.fst, hr.snd]) rfl
      ⟨by rw [HV.out], ((HG1.out.trans (grow_new _ _)).put (Nat.le_refl _) 0 _).put (Nat.le_refl _) 1 _⟩
  · have HRO1 := Lib.hid (fun r k h1 h2 => HRO.out r k h1 h2 rfl)
    have HRN1 := Lib.hid (fun r k m v h1 h2 => HRN.out r k m v h1 h2 rfl)
    have HG2 := Lib.hid (HG1.out.trans (grow_new w1 (.cells #[.int .i64 m, .int .i64 e] 28)))
    have HX2 := Lib.hid (boxed_new w1 (.int .i64 m) (.int .i64 e) 28)
    have HB2 := Lib.hid (HB0.out.grow (grow_new w1 (.cells #[.int .i64 m, .int .i64 e] 28)))
    have HZ := Lib.hid (show w.heap.size ≤ w1.heap.size from HG1.out.size)
    clear HRO HRN HY hf0 hcc0 hcc1
    go_wp2
    go_loopg [6, 7] l.length (fun gk s6 s7 wr => ∃ (r : List UInt8) (k : Nat), gk = r.length ∧ s6 = .string ⟨r.toArray⟩ ∧ s7 = .int .i64 k ∧ r.length + k = l.length ∧ Hid (l = r ++ List.replicate k 48) ∧ w1.alloc (.cells #[.int .i64 m, .int .i64 e] 28) = wr)
    case atStart => exact ⟨l, 0, rfl, rfl, rfl, by omega, Lib.hid (by simp), rfl⟩
    case round =>
      obtain ⟨r, k, rfl, rfl, rfl, hlen, HE, rfl⟩ := hrel
      have hrz := str_size r
      have : Decidable (longZ r) := Classical.propDecidable _
      obtain ⟨β, hβ⟩ : ∃ β : Bool, β = decide (longZ r) := ⟨_, rfl⟩
      have HT : Hid (β = true ↔ longZ r) := by rw [hβ]; exact Lib.hid decide_eq_true_iff
      clear hβ this
      go_upto_region 6 with fail
      go_cut [28] from 18 to 28 (fun z wx => z = .bool β ∧ w1.alloc (.cells #[.int .i64 m, .int .i64 e] 28) = wx)
      case first =>
        by_cases h1 : 1 < r.length
        · have hlt1 : (1 : Int) < ((r.length : Nat) : Int) := by omega
          have hck : r[r.length - 1]? = some r[r.length - 1] := List.getElem?_eq_getElem (by omega)
          have hix := index_at hck
          have hsub : IntKind.i64.wrap (((r.length : Nat) : Int) - 1) = ((r.length - 1 : Nat) : Int) := by rw [IntKind.wrap_i64]; omega
          have hlz : longZ r ↔ r[r.length - 1] = 48 := by
            unfold longZ
            rw [List.getLast?_eq_getElem?, hck]
            simp [h1]
          generalize r[r.length - 1] = c at *
          obtain ⟨j, hj⟩ : ∃ j, r.length - 1 = j := ⟨_, rfl⟩
          rw [hj] at hix hsub
          by_cases hc : c = 48
          · have HV := Lib.hid (show Value.bool true = .bool β by rw [HT.out.2 (hlz.2 hc)])
            have hcb : (((c.toNat : Nat) : Int) == 48) = true := by rw [hc]; rfl
            clear hc hlz hck hj
            generalize c.toNat = C at *
            go_wp2
            go_meet
            case rel => exact ⟨HV.out, rfl⟩
          · have HV := Lib.hid (show Value.bool false = .bool β by
              have : β ≠ true := fun e => hc (hlz.1 (HT.out.1 e))
              simp at this
              rw [this])
            have hcb : (((c.toNat : Nat) : Int) == 48) = false := by
              rw [beq_eq_false_iff_ne]
              intro h
              apply hc
              apply UInt8.toNat_inj.1
              have h48 : (48 : UInt8).toNat = 48 := rfl
              omega
            clear hc hlz hck hj
            generalize c.toNat = C at *
            go_wp2
            go_meet
            case rel => exact ⟨HV.out, rfl⟩
        · have hlt1 : ¬ (1 : Int) < ((r.length : Nat) : Int) := by omega
          have HV := Lib.hid (show Value.bool false = .bool β by
            have : β ≠ true := fun e => h1 (HT.out.1 e).1
            simp at this
            rw [this])
          go_wp2
          go_meet
          case rel => exact ⟨HV.out, rfl⟩
      case rest =>
      obtain ⟨rfl, rfl⟩ := hcut
      cases β
      case true =>
        have hz := HT.out.1 rfl
        obtain ⟨h1, h2⟩ := last_step hz
        have hrpos : 1 < r.length := hz.1
        have hsub : IntKind.i64.wrap (((r.length : Nat) : Int) - 1) = ((r.length - 1 : Nat) : Int) := by rw [IntKind.wrap_i64]; omega
        have hst := slice_to r (r.length - 1) (by omega)
        have HE2 := Lib.hid (zeros_more HE.out h1)
        have hql : (r.take (r.length - 1)).length = r.length - 1 := by rw [List.length_take]; omega
        obtain ⟨j, hj⟩ : ∃ j, r.length - 1 = j := ⟨_, rfl⟩
        rw [hj] at hsub hst HE2 hql
        clear h1 h2 hz HE HT
        generalize r.take j = q at *
        go_wp2
        go_roundg j
        case rel => exact ⟨q, k + 1, by rw [hql], rfl, by go_num, by omega, HE2, rfl⟩
        case measure => omega
      have hend := end_of (fun h => by have := HT.out.2 h; cases this)
      have HO := Lib.hid (HRO1.out r k HE.out hend)
      have HNM := Lib.hid (fun m v => HRN1.out r k m v HE.out hend)
      have HPR := Lib.hid (fun W => rparse_any r (by omega) W)
      have hin := parseD_in r
      have HNOT := Lib.hid (roundD_not (t := r) (k := k))
      have HFAR := Lib.hid (fun (m : Int) hp h => roundD_far (t := r) (k := k) (m := m) hp h)
      have HYES := Lib.hid (fun (m : Int) hp h => roundD_yes (t := r) (k := k) (m := m) hp h)
      have HBIG := Lib.hid (roundD_big (t := r) (k := k))
      obtain ⟨⟨⟨m2, e2⟩, b2⟩, hd⟩ : ∃ q, parseD r = q := ⟨_, rfl⟩
      rw [hd] at HPR hin HNOT HFAR HYES HNM
      simp only at HPR hin HNOT
      clear hd hend HRO1 HRN1 HE HT
      generalize roundD r k = ρ at *
      go_wp2_with fail
      refine (HPR.out _).mono ?_
      rintro x w3 ⟨rfl, hg⟩
      have HG3 := Lib.hid (HG2.out.trans hg)
      have hx3 := HX2.out.grow hg
      have HB3 := Lib.hid (HB2.out.grow hg)
      have x0 := hx3.fst
      have x1 := hx3.snd
      have xf0 := hx3.froz 0
      have xf1 := hx3.froz 1
      have HX3 := Lib.hid hx3
      clear hg hx3 HPR HX2 HB2 HG2
      go_upto_region 10 with fail
      clear x0 x1 xf0 xf1
      have hx4 := (HX3.out.put0 (.int .i64 m2)).put1 (.int .i64 e2)
      have hb4 := (HB3.out.other hne 0 (.int .i64 m2)).other hne 1 (.int .i64 e2)
      have hg4 := (HG3.out.put HZ.out 0 (.int .i64 m2)).put HZ.out 1 (.int .i64 e2)
      generalize (w3.setCell ⟨w1.heap.size, 0, none⟩ (.int .i64 m2)).setCell ⟨w1.heap.size, 1, none⟩ (.int .i64 e2) = w4 at hx4 hb4 hg4 ⊢
      have x0 := hx4.fst
      have x1 := hx4.snd
      have xf1 := hx4.froz 1
      have y0 := hb4.fst
      have y1 := hb4.snd
      have yf0 := hb4.froz 0
      have yf1 := hb4.froz 1
      have HX4 := Lib.hid hx4
      have HB4 := Lib.hid hb4
      have HG4 := Lib.hid hg4
      clear hx4 hb4 hg4 HX3 HB3 HG3
      cases b2
      · have HR := Lib.hid (HNOT.out (.inl rfl))
        clear HNOT HFAR HYES HBIG HNM
        go_wp2
        have hr := (HB4.out.put0 (.int .i64 0)).put1 (.int .i64 0)
        exact bodyPost_ret (v := .tuple #[.agg #[.int .i64 0, .int .i64 0], .bool false]) (by simp [results, Tryz.results17, go_sem, hr.fst, hr.snd]) rfl
          ⟨by rw [HO.out, HR.out], (HG4.out.put (Nat.le_refl _) 0 _).put (Nat.le_refl _) 1 _⟩
      by_cases h0 : e2 = 0
      rotate_left
      · have HR := Lib.hid (HNOT.out (.inr h0))
        have h0b : (e2 == 0) = false := by simpa using h0
        clear HNOT HFAR HYES HBIG HNM
        go_wp2
        have hr := (HB4.out.put0 (.int .i64 0)).put1 (.int .i64 0)
        exact bodyPost_ret (v := .tuple #[.agg #[.int .i64 0, .int .i64 0], .bool false]) (by simp [results, Tryz.results17, go_sem, hr.fst, hr.snd]) rfl
          ⟨by rw [HO.out, HR.out], (HG4.out.put (Nat.le_refl _) 0 _).put (Nat.le_refl _) 1 _⟩
      subst h0
      by_cases h18 : 18 < k
      · have HR := Lib.hid (HBIG.out h18)
        have h18i : (18 : Int) < ((k : Nat) : Int) := by omega
        clear HNOT HFAR HYES HBIG HNM
        go_wp2
        have hr := (HB4.out.put0 (.int .i64 0)).put1 (.int .i64 0)
        exact bodyPost_ret (v := .tuple #[.agg #[.int .i64 0, .int .i64 0], .bool false]) (by simp [results, Tryz.results17, go_sem, hr.fst, hr.snd]) rfl
          ⟨by rw [HO.out, HR.out], (HG4.out.put (Nat.le_refl _) 0 _).put (Nat.le_refl _) 1 _⟩
      have h18i : ¬ (18 : Int) < ((k : Nat) : Int) := by omega
      have HW := Lib.hid (fun W => rwhole_any m2 (k : Int) W hin.1 ⟨by omega, by omega⟩)
      clear HNOT HBIG
      go_upto_region 13 with fail
      clear x0 x1 xf1 y0 y1 yf0 yf1
      have hx5 := HX4.out.put1 (.int .i64 (k : Int))
      have hb5 := HB4.out.other hne 1 (.int .i64 (k : Int))
      have hg5 := HG4.out.put HZ.out 1 (.int .i64 (k : Int))
      generalize w4.setCell ⟨w1.heap.size, 1, none⟩ (.int .i64 (k : Int)) = w5 at hx5 hb5 hg5 ⊢
      have x0 := hx5.fst
      have x1 := hx5.snd
      have HX5 := Lib.hid hx5
      have HB5 := Lib.hid hb5
      have HG5 := Lib.hid hg5
      clear hx5 hb5 hg5 HX4 HB4 HG4
      go_wp2_with fail
      refine (HW.out _).mono ?_
      rintro x w6 ⟨rfl, hg⟩
      have HG6 := Lib.hid (HG5.out.trans hg)
      have HX6 := Lib.hid (HX5.out.grow hg)
      have HB6 := Lib.hid (HB5.out.grow hg)
      clear hg HX5 HB5 HG5 HW x0 x1
      obtain ⟨⟨v, ok⟩, hw⟩ : ∃ p, wholeD m2 (k : Int) = p := ⟨_, rfl⟩
      have HF1 := Lib.hid (HFAR.out m2 rfl)
      have HY1 := Lib.hid (HYES.out m2 rfl)
      have HN1 := Lib.hid (fun v => HNM.out m2 v rfl)
      rw [hw] at HF1 HY1 HN1 ⊢
      dsimp only at HF1 HY1 HN1 ⊢
      clear HFAR HYES HNM hw
      cases ok
      · have HR := Lib.hid (HF1.out rfl)
        have y0 := HB6.out.fst
        have y1 := HB6.out.snd
        have yf0 := HB6.out.froz 0
        have yf1 := HB6.out.froz 1
        clear HF1 HY1 HN1
        go_wp2
        have hr := (HB6.out.put0 (.int .i64 0)).put1 (.int .i64 0)
        exact bodyPost_ret (v := .tuple #[.agg #[.int .i64 0, .int .i64 0], .bool false]) (by simp [results, Tryz.results17, go_sem, hr.fst, hr.snd]) rfl
          ⟨by rw [HO.out, HR.out], (HG6.out.put (Nat.le_refl _) 0 _).put (Nat.le_refl _) 1 _⟩
      · have HR := Lib.hid (HY1.out rfl)
        obtain ⟨hnv, hvi⟩ := HN1.out v rfl
        have HV := Lib.hid (fun W => rnumber_any v W hvi)
        rw [hnv] at HV
        clear HF1 HY1 HN1 hnv hvi
        go_wp2_with fail
        refine (HV.out _).mono ?_
        rintro x w7 ⟨rfl, hg⟩
        have HG7 := Lib.hid (HG6.out.trans hg)
        have hx7 := HX6.out.grow hg
        have hb7 := HB6.out.grow hg
        have x0 := hx7.fst
        have x1 := hx7.snd
        have y0 := hb7.fst
        have y1 := hb7.snd
        have yf0 := hb7.froz 0
        have yf1 := hb7.froz 1
        have HB7 := Lib.hid hb7
        clear hg hx7 hb7 HX6 HB6 HG6 HV
        go_wp2
        have hr := (HB7.out.put0 (.int .i64 m2)).put1 (.int .i64 (k : Int))
        exact bodyPost_ret (v := .tuple #[.agg #[.int .i64 m2, .int .i64 (k : Int)], .bool true]) (by simp [results, Tryz.results17, go_sem, hr.fst, hr.snd]) rfl
          ⟨by rw [HO.out, HR.out], (HG7.out.put (Nat.le_refl _) 0 _).put (Nat.le_refl _) 1 _⟩
end Go.Proofs.YtkebngldmcoaaaaGreatDoor
