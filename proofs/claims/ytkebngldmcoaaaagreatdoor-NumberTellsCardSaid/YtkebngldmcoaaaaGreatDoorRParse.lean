/-
  What the document's own Parse comes to: what decimal.Parse comes to.
-/
import Derived.Test.YtkebngldmcoaaaaGreatDoorRTake
import Derived.Test.YtkebngldmcoaaaaGreatDoorParses
namespace Go.Proofs.YtkebngldmcoaaaaGreatDoor
open Go.RowKit Go.Lib

/-- the exponent that is read -/
def expOf (r : List UInt8) : Int := match r with
  | [] => 0
  | c :: t => if c = 69 then (takeD t).1 else 0

theorem exp_in (r : List UInt8) : In (expOf r) := by
  unfold expOf
  split
  · exact ⟨by decide, by decide⟩
  · split
    · exact (take_in _).1
    · exact ⟨by decide, by decide⟩

theorem parseD_long {l : List UInt8} (h : 60 < l.length) : parseD l = ((0, 0), false) := by
  cases hp : (parseD l).2 with
  | true =>
    have h1 := parseD_true hp
    have h2 := text_len (e := (parseD l).1.2) (parseD_in l).1
    rw [h1.2] at h2
    omega
  | false =>
    have := parseD_false hp
    rw [← this, ← hp]

theorem rparse_yes {l : List UInt8} (hne : l ≠ []) (h : text (takeD l).1 (expOf (takeD l).2) = l) : parseD l = (((takeD l).1, expOf (takeD l).2), true) := by
  have hm := (take_in l).1
  generalize (takeD l).1 = m at *
  generalize expOf (takeD l).2 = e at *
  have hr : rightB m e = true := by
    cases hr : rightB m e with
    | true => rfl
    | false => rw [text_wrong hr] at h; exact absurd h.symm hne
  rw [← h]
  exact parseD_text hm hr

theorem rparse_no {l : List UInt8} (h : l = [] ∨ text (takeD l).1 (expOf (takeD l).2) ≠ l) : parseD l = ((0, 0), false) := by
  cases hp : (parseD l).2 with
  | false =>
    have := parseD_false hp
    rw [← this, ← hp]
  | true =>
    exfalso
    obtain ⟨hr, ht⟩ := parseD_true hp
    obtain ⟨hm, he⟩ := parseD_in l
    generalize (parseD l).1.1 = m at *
    generalize (parseD l).1.2 = e at *
    rcases h with h | h
    · exact text_ne hr (ht.trans h)
    · apply h
      by_cases h0 : e = 0
      · subst h0
        have h1 : takeD l = (m, []) := by
          rw [← ht, text_plain hr]
          have := take_num (t := []) hm (.inl rfl)
          rwa [List.append_nil] at this
        rw [h1]
        exact ht
      · have h1 : takeD l = (m, 69 :: num e) := by
          rw [← ht, text_exp hr h0]
          exact take_num hm (.inr ⟨_, rfl⟩)
        have h2 : expOf (69 :: num e) = e := by
          have := take_num (t := []) he (.inl rfl)
          rw [List.append_nil] at this
          rw [expOf, if_pos rfl, this]
        rw [h1]
        simp only
        rw [h2]
        exact ht

theorem beq_nil {l : List UInt8} (h : l ≠ []) : (l == []) = false := by
  cases l with
  | nil => exact absurd rfl h
  | cons c r => rfl

set_option maxRecDepth 10000 in
set_option maxHeartbeats 1600000 in
theorem rparse_any (l : List UInt8) (hl : l.length ≤ 1000000) (w : World) :
    Calls Tryz.prog 29 #[.string ⟨l.toArray⟩] w fun x w' =>
      x = .returned (.tuple #[.agg #[.int .i64 (parseD l).1.1, .int .i64 (parseD l).1.2], .bool (parseD l).2]) ∧ Grow w w' := by
  by_cases h60 : 60 < l.length
  · have HP := Lib.hid (parseD_long h60)
    have h60i : (60 : Int) < (l.length : Nat) := by omega
    go_enter Tryz.func29, Tryz.ntmps29
    go_wp2
    exact bodyPost_ret (v := .tuple #[.agg #[.int .i64 0, .int .i64 0], .bool false]) (by simp [results, Tryz.results29, go_sem]) rfl
      ⟨by rw [HP.out], grow_new _ _⟩
  · have h60i : ¬ (60 : Int) < (l.length : Nat) := by omega
    have HK := Lib.hid (fun W => rtake_any l hl W)
    have HYES := Lib.hid (rparse_yes (l := l))
    have HNO := Lib.hid (rparse_no (l := l))
    obtain ⟨hmi, hRl⟩ := take_in l
    have HM := Lib.hid hmi
    obtain ⟨⟨m, R⟩, hmR⟩ : ∃ r, takeD l = r := ⟨_, rfl⟩
    rw [hmR] at HK HYES HNO HM hRl
    simp only at HK HYES HNO HM hRl
    have HE := Lib.hid (exp_in R)
    have HEX : Hid (expOf R = expOf R) ∨ True := .inr trivial
    clear hmR hmi HEX
    rcases list_cases R with hR | ⟨c, r', hR⟩
    · have he0 : expOf R = 0 := by rw [hR]; rfl
      rw [he0] at HE HYES HNO
      obtain ⟨e, hez⟩ : ∃ e : Int, e = 0 := ⟨_, rfl⟩
      rw [← hez] at HE HYES HNO
      have HT := Lib.hid (fun W => rtext_any m e W HM.out HE.out)
      obtain ⟨t, ht⟩ : ∃ t, text m e = t := ⟨_, rfl⟩
      rw [ht] at HT HYES HNO
      subst hez
      clear ht he0 HE HM
      subst hR
      go_enter Tryz.func29, Tryz.ntmps29
      go_wp2_with fail
      refine (HK.out _).mono ?_
      rintro x w1 ⟨rfl, rfl⟩
      clear HK
      by_cases hnil : l = []
      · have HP := Lib.hid (HNO.out (.inl hnil))
        subst hnil
        go_wp2
        exact bodyPost_ret (v := .tuple #[.agg #[.int .i64 0, .int .i64 0], .bool false]) (by simp [results, Tryz.results29, go_sem]) rfl
          ⟨by rw [HP.out], grow_new2 _ _ _⟩
      · have hnb := beq_nil hnil
        go_wp2_with fail
        refine (HT.out _).mono ?_
        rintro x w4 ⟨rfl, hg⟩
        have hb := ((boxed_new w (.int .i64 0) (.int .i64 0) 28).grow (grow_new _ _)).grow hg
        have hd := (boxed_new (w.alloc (.cells #[.int .i64 0, .int .i64 0] 28)) (.int .i64 m) (.int .i64 0) 28).grow hg
        have hsz : (w.alloc (.cells #[.int .i64 0, .int .i64 0] 28)).heap.size = w.heap.size + 1 := by simp
        rw [hsz] at hd
        have c40 := hb.fst; have c41 := hb.snd; have f40 := hb.froz 0; have f41 := hb.froz 1
        have d40 := hd.fst; have d41 := hd.snd
        have HB4 := Lib.hid hb
        have HG4 := Lib.hid ((grow_new2 w _ _).trans hg)
        clear hg hb hd hsz
        by_cases hq : t = l
        · have HP := Lib.hid (HYES.out hnil hq)
          subst hq
          clear hnil
          go_wp2
          have hr := (HB4.out.put0 (.int .i64 m)).put1 (.int .i64 0)
          exact bodyPost_ret (v := .tuple #[.agg #[.int .i64 m, .int .i64 0], .bool true]) (by simp [results, Tryz.results29, go_sem, hr.fst, hr.snd]) rfl
            ⟨by rw [HP.out], (HG4.out.put (Nat.le_refl _) 0 _).put (Nat.le_refl _) 1 _⟩
        · have HP := Lib.hid (HNO.out (.inr hq))
          have hqb : (t == l) = false := by simpa using hq
          clear hnil hq
          go_wp2
          have hr := (HB4.out.put0 (.int .i64 0)).put1 (.int .i64 0)
          exact bodyPost_ret (v := .tuple #[.agg #[.int .i64 0, .int .i64 0], .bool false]) (by simp [results, Tryz.results29, go_sem, hr.fst, hr.snd]) rfl
            ⟨by rw [HP.out], (HG4.out.put (Nat.le_refl _) 0 _).put (Nat.le_refl _) 1 _⟩
    · have hnR : (R == []) = false := by rw [hR]; rfl
      have hix : ∀ W, (Instr.index 9 (.string ⟨R.toArray⟩) (.int .i64 0)).run Tryz.prog W = .ok (.int .u8 (c.toNat : Nat)) W := fun W => index_at (l := R) (i := 0) (by rw [hR]; rfl) W
      have hsl : ∀ W, (Instr.slice 9 (.string ⟨R.toArray⟩) (some (.int .i64 1)) none none).run Tryz.prog W = .ok (.string ⟨r'.toArray⟩) W := fun W => by
        have h := slice_from R 1 (by rw [hR]; simp) W
        rw [show R.drop 1 = r' by rw [hR]; simp] at h
        exact h
      by_cases hc : c = 69
      · have he0 : expOf R = (takeD r').1 := by rw [hR, expOf, if_pos hc]
        have hrl : r'.length ≤ 1000000 := by rw [hR] at hRl; simp only [List.length_cons] at hRl; omega
        have HK2 := Lib.hid (fun W => rtake_any r' hrl W)
        rw [he0] at HE HYES HNO
        generalize (takeD r').2 = R2 at *
        generalize (takeD r').1 = e at *
        subst hc
        have HT := Lib.hid (fun W => rtext_any m e W HM.out HE.out)
        obtain ⟨t, ht⟩ : ∃ t, text m e = t := ⟨_, rfl⟩
        rw [ht] at HT HYES HNO
        clear ht he0 HE HM hR hrl hRl
        go_enter Tryz.func29, Tryz.ntmps29
        go_wp2_with fail
        refine (HK.out _).mono ?_
        rintro x w1 ⟨rfl, rfl⟩
        clear HK
        go_wp2_with fail
        refine (HK2.out _).mono ?_
        rintro x w2 ⟨rfl, rfl⟩
        clear HK2 hix hsl hnR
        by_cases hnil : l = []
        · have HP := Lib.hid (HNO.out (.inl hnil))
          subst hnil
          go_wp2
          exact bodyPost_ret (v := .tuple #[.agg #[.int .i64 0, .int .i64 0], .bool false]) (by simp [results, Tryz.results29, go_sem]) rfl
            ⟨by rw [HP.out], grow_new2 _ _ _⟩
        · have hnb := beq_nil hnil
          go_wp2_with fail
          refine (HT.out _).mono ?_
          rintro x w4 ⟨rfl, hg⟩
          have hb := ((boxed_new w (.int .i64 0) (.int .i64 0) 28).grow (grow_new _ _)).grow hg
          have hd := (boxed_new (w.alloc (.cells #[.int .i64 0, .int .i64 0] 28)) (.int .i64 m) (.int .i64 e) 28).grow hg
          have hsz : (w.alloc (.cells #[.int .i64 0, .int .i64 0] 28)).heap.size = w.heap.size + 1 := by simp
          rw [hsz] at hd
          have c40 := hb.fst; have c41 := hb.snd; have f40 := hb.froz 0; have f41 := hb.froz 1
          have d40 := hd.fst; have d41 := hd.snd
          have HB4 := Lib.hid hb
          have HG4 := Lib.hid ((grow_new2 w _ _).trans hg)
          clear hg hb hd hsz
          by_cases hq : t = l
          · have HP := Lib.hid (HYES.out hnil hq)
            subst hq
            clear hnil
            go_wp2
            have hr := (HB4.out.put0 (.int .i64 m)).put1 (.int .i64 e)
            exact bodyPost_ret (v := .tuple #[.agg #[.int .i64 m, .int .i64 e], .bool true]) (by simp [results, Tryz.results29, go_sem, hr.fst, hr.snd]) rfl
              ⟨by rw [HP.out], (HG4.out.put (Nat.le_refl _) 0 _).put (Nat.le_refl _) 1 _⟩
          · have HP := Lib.hid (HNO.out (.inr hq))
            have hqb : (t == l) = false := by simpa using hq
            clear hnil hq
            go_wp2
            have hr := (HB4.out.put0 (.int .i64 0)).put1 (.int .i64 0)
            exact bodyPost_ret (v := .tuple #[.agg #[.int .i64 0, .int .i64 0], .bool false]) (by simp [results, Tryz.results29, go_sem, hr.fst, hr.snd]) rfl
              ⟨by rw [HP.out], (HG4.out.put (Nat.le_refl _) 0 _).put (Nat.le_refl _) 1 _⟩
      · have he0 : expOf R = 0 := by rw [hR, expOf, if_neg hc]
        rw [he0] at HE HYES HNO
        have hcn : ((c.toNat : Int) == 69) = false := by
          rw [beq_eq_false_iff_ne]
          intro h
          exact hc (UInt8.toNat_inj.1 (by have : c.toNat = 69 := by omega
                                          rw [this]; rfl))
        obtain ⟨e, hez⟩ : ∃ e : Int, e = 0 := ⟨_, rfl⟩
        rw [← hez] at HE HYES HNO
        have HT := Lib.hid (fun W => rtext_any m e W HM.out HE.out)
        obtain ⟨t, ht⟩ : ∃ t, text m e = t := ⟨_, rfl⟩
        rw [ht] at HT HYES HNO
        subst hez
        clear ht he0 HE HM hR hRl hc
        go_enter Tryz.func29, Tryz.ntmps29
        go_wp2_with fail
        refine (HK.out _).mono ?_
        rintro x w1 ⟨rfl, rfl⟩
        clear HK
        by_cases hnil : l = []
        · have HP := Lib.hid (HNO.out (.inl hnil))
          subst hnil
          go_wp2
          exact bodyPost_ret (v := .tuple #[.agg #[.int .i64 0, .int .i64 0], .bool false]) (by simp [results, Tryz.results29, go_sem]) rfl
            ⟨by rw [HP.out], grow_new2 _ _ _⟩
        · have hnb := beq_nil hnil
          go_wp2_with fail
          refine (HT.out _).mono ?_
          rintro x w4 ⟨rfl, hg⟩
          have hb := ((boxed_new w (.int .i64 0) (.int .i64 0) 28).grow (grow_new _ _)).grow hg
          have hd := (boxed_new (w.alloc (.cells #[.int .i64 0, .int .i64 0] 28)) (.int .i64 m) (.int .i64 0) 28).grow hg
          have hsz : (w.alloc (.cells #[.int .i64 0, .int .i64 0] 28)).heap.size = w.heap.size + 1 := by simp
          rw [hsz] at hd
          have c40 := hb.fst; have c41 := hb.snd; have f40 := hb.froz 0; have f41 := hb.froz 1
          have d40 := hd.fst; have d41 := hd.snd
          have HB4 := Lib.hid hb
          have HG4 := Lib.hid ((grow_new2 w _ _).trans hg)
          clear hg hb hd hsz
          by_cases hq : t = l
          · have HP := Lib.hid (HYES.out hnil hq)
            subst hq
            clear hnil
            go_wp2
            have hr := (HB4.out.put0 (.int .i64 m)).put1 (.int .i64 0)
            exact bodyPost_ret (v := .tuple #[.agg #[.int .i64 m, .int .i64 0], .bool true]) (by simp [results, Tryz.results29, go_sem, hr.fst, hr.snd]) rfl
              ⟨by rw [HP.out], (HG4.out.put (Nat.le_refl _) 0 _).put (Nat.le_refl _) 1 _⟩
          · have HP := Lib.hid (HNO.out (.inr hq))
            have hqb : (t == l) = false := by simpa using hq
            clear hnil hq
            go_wp2
            have hr := (HB4.out.put0 (.int .i64 0)).put1 (.int .i64 0)
            exact bodyPost_ret (v := .tuple #[.agg #[.int .i64 0, .int .i64 0], .bool false]) (by simp [results, Tryz.results29, go_sem, hr.fst, hr.snd]) rfl
              ⟨by rw [HP.out], (HG4.out.put (Nat.le_refl _) 0 _).put (Nat.le_refl _) 1 _⟩

end Go.Proofs.YtkebngldmcoaaaaGreatDoor
