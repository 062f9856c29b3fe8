/-
  DecimalPlain comes to true, whatever it is called with.
-/
import Derived.Test.YtlmhddaelfolfaaDoorSmall
import Derived.Deep.CutRange
import Derived.Deep.CutBlock
namespace Go.Proofs.YtlmhddaelfolfaaDoor
open Go.RowKit Go.Lib

/-- a byte of a number's text -/
def okByte (c : UInt8) : Prop := (48 ≤ c.toNat ∧ c.toNat ≤ 57) ∨ c = 69 ∨ c = 194 ∨ c = 175

theorem dd_count (u : Nat) (x : UInt8) (hx : ¬ (48 ≤ x.toNat ∧ x.toNat ≤ 57)) : (decDigits u).count x = 0 := by
  rw [List.count_eq_zero]
  intro h
  exact hx (dd_bytes u x h)

theorem num_signs (n : Int) : (num n).count 194 = if n < 0 then 1 else 0 := by
  unfold num
  split
  · rw [List.count_cons_self, List.count_cons_of_ne (by decide), dd_count _ _ (by decide)]
  · exact dd_count _ _ (by decide)
theorem num_marks (n : Int) : (num n).count 69 = 0 := by
  rw [List.count_eq_zero]
  exact fun h => num_noE n 69 h rfl
theorem num_ok (n : Int) : ∀ c ∈ num n, okByte c := by
  intro c hc
  unfold num at hc
  split at hc
  · rcases List.mem_cons.1 hc with h | hc
    · exact .inr (.inr (.inl h))
    · rcases List.mem_cons.1 hc with h | hc
      · exact .inr (.inr (.inr h))
      · exact .inl (dd_bytes _ _ hc)
  · exact .inl (dd_bytes _ _ hc)

theorem text_signs {m e : Int} (h : rightB m e = true) : (text m e).count 194 = (if m < 0 then 1 else 0) + (if e < 0 then 1 else 0) := by
  by_cases he : e = 0
  · subst he
    rw [text_plain h, num_signs]
    simp
  · rw [text_exp h he, List.count_append, List.count_cons_of_ne (by decide), num_signs, num_signs]
theorem text_marks {m e : Int} (h : rightB m e = true) : (text m e).count 69 = if e = 0 then 0 else 1 := by
  by_cases he : e = 0
  · subst he
    rw [text_plain h, num_marks, if_pos rfl]
  · rw [text_exp h he, List.count_append, List.count_cons_self, num_marks, num_marks, if_neg he]
theorem text_ok {m e : Int} (h : rightB m e = true) : ∀ c ∈ text m e, okByte c := by
  intro c hc
  by_cases he : e = 0
  · subst he
    rw [text_plain h] at hc
    exact num_ok m c hc
  · rw [text_exp h he] at hc
    rcases List.mem_append.1 hc with hc | hc
    · exact num_ok m c hc
    · rcases List.mem_cons.1 hc with hc | hc
      · exact .inr (.inl hc)
      · exact num_ok e c hc

theorem index_at {l : List UInt8} {i : Nat} {c : UInt8} (h : l[i]? = some c) (W : World) : (Instr.index 9 (.string ⟨l.toArray⟩) (.int .i64 (i : Nat))).run Tryd.prog W = .ok (.int .u8 (c.toNat : Nat)) W := by
  obtain ⟨hi, hc⟩ := List.getElem?_eq_some_iff.1 h
  have hu : Tryd.prog.underlying 9 = some .string := by kernel_rfl
  rw [run_index_string (h := hu), dif_pos ⟨by omega, by simpa [ByteArray.size] using hi⟩]
  subst hc
  rfl

theorem take_count (l : List UInt8) (i : Nat) (c x : UInt8) (h : l[i]? = some c) : (l.take (i + 1)).count x = (l.take i).count x + if c = x then 1 else 0 := by
  rw [List.take_add_one, h, List.count_append]
  simp [List.count_singleton]

set_option maxRecDepth 10000 in
set_option maxHeartbeats 1600000 in
theorem lplain_walk (m e : Int) (w : World) (hm : In m) (he : In e) (hL : Laid w) :
    Calls Tryd.prog 8 #[.agg #[.int .i64 m, .int .i64 e]] w fun x w' => x = .returned (.bool true) ∧ Grow w w' := by
  have HS := Lib.hid (fun W (h : Laid W) => small_walk W h)
  have HL := Lib.hid hL
  have hlen := text_len (e := e) hm
  have HSG := Lib.hid (fun h => text_signs (m := m) (e := e) h)
  have HMK := Lib.hid (fun h => text_marks (m := m) (e := e) h)
  have HOK := Lib.hid (fun h => text_ok (m := m) (e := e) h)
  have HNE := Lib.hid (fun h => text_ne (m := m) (e := e) h)
  have HWR := Lib.hid (fun h => text_wrong (m := m) (e := e) h)
  have HT := Lib.hid (k_text m e _ hm he rfl)
  generalize text m e = T at *
  obtain ⟨r, hr⟩ : ∃ r, rightB m e = r := ⟨_, rfl⟩
  have HR := Lib.hid (k_right m e r hm he hr)
  rw [hr] at HSG HMK HOK HNE HWR
  clear hL hm he hr
  obtain ⟨n, hn⟩ : ∃ n, T.length = n := ⟨_, rfl⟩
  rw [hn] at hlen
  go_enter Tryd.func8, Tryd.ntmps8
  go_wp2_with fail
  refine (HS.out _ (HL.out.grow (grow_new _ _))).mono ?_
  rintro x w1 ⟨rfl, hg⟩
  have hb := (boxed_new w (.int .i64 m) (.int .i64 e) 23).grow hg
  have c10 := hb.fst; have c11 := hb.snd
  have HB1 := Lib.hid hb
  have HG1 := Lib.hid ((grow_new w _).trans hg)
  clear hg hb HS
  go_wp2_with fail
  refine (HT.out _ (HL.out.grow HG1.out)).mono ?_
  rintro x w2 ⟨rfl, hg⟩
  have hb := HB1.out.grow hg
  have c20 := hb.fst; have c21 := hb.snd
  have HG2 := Lib.hid (HG1.out.trans hg)
  clear hg hb HT HB1 HG1 c10 c11
  cases r
  · have h0 := HWR.out rfl
    subst h0
    clear HSG HMK HOK HNE HWR hn
    go_wp2_with fail
    refine (HR.out _).mono ?_
    rintro x w3 ⟨rfl, hg⟩
    have HG3 := Lib.hid (HG2.out.trans hg)
    clear hg HR
    go_wp2
    go_ret
    exact ⟨rfl, HG3.out⟩
  · have hne : (T == []) = false := by
      have h := HNE.out rfl
      cases T with
      | nil => exact absurd rfl h
      | cons c r => rfl
    have HSG' := Lib.hid (HSG.out rfl)
    have HMK' := Lib.hid (HMK.out rfl)
    have HOK' := Lib.hid (HOK.out rfl)
    have HN := Lib.hid hn
    clear HSG HMK HOK HNE HWR HR
    go_wp2
    clear hne
    go_loopg [5, 6, 7] n (fun gk s5 s6 s7 wr => ∃ i s k : Nat, i ≤ n ∧ gk = n - i ∧ s5 = .int .i64 s ∧ s6 = .int .i64 k ∧ s7 = .int .i64 i ∧ Hid (s = (T.take i).count 194 ∧ k = (T.take i).count 69) ∧ s ≤ i ∧ k ≤ i ∧ w2 = wr)
    case atStart => exact ⟨0, 0, 0, by omega, rfl, rfl, rfl, rfl, Lib.hid (by simp), by omega, by omega, rfl⟩
    case round =>
      obtain ⟨i, s, k, hin, rfl, rfl, rfl, rfl, HC, hsi, hki, rfl⟩ := hrel
      by_cases hlt : i < n
      · obtain ⟨c, hc⟩ : ∃ c, T[i]? = some c := ⟨_, List.getElem?_eq_getElem (by omega)⟩
        have hix := index_at hc
        have hok := HOK'.out c (List.mem_of_getElem? hc)
        have HC1 := Lib.hid (take_count T i c 194 hc)
        have HC2 := Lib.hid (take_count T i c 69 hc)
        have hlen2 : T.length = n := hn
        clear hc
        rcases hok with ⟨d1, d2⟩ | rfl | rfl | rfl
        · have HD : Hid (s = (T.take (i + 1)).count 194 ∧ k = (T.take (i + 1)).count 69) := Lib.hid (by
            rw [HC1.out, HC2.out, if_neg (by rintro rfl; exact absurd d2 (by decide)), if_neg (by rintro rfl; exact absurd d2 (by decide))]
            exact HC.out)
          obtain ⟨C, hC⟩ : ∃ C, c.toNat = C := ⟨_, rfl⟩
          rw [hC] at hix d1 d2
          go_wp2
          go_roundg (n - (i + 1))
          · exact ⟨i + 1, s, k, hlt, rfl, rfl, rfl, rfl, HD, by omega, by omega, rfl⟩
          · omega
        · have HD : Hid (s = (T.take (i + 1)).count 194 ∧ k + 1 = (T.take (i + 1)).count 69) := Lib.hid (by
            rw [HC1.out, HC2.out, if_neg (by decide), if_pos rfl]
            exact ⟨HC.out.1, by rw [HC.out.2]⟩)
          go_wp2
          go_roundg (n - (i + 1))
          · exact ⟨i + 1, s, k + 1, hlt, rfl, rfl, rfl, rfl, HD, by omega, by omega, rfl⟩
          · omega
        · have HD : Hid (s + 1 = (T.take (i + 1)).count 194 ∧ k = (T.take (i + 1)).count 69) := Lib.hid (by
            rw [HC1.out, HC2.out, if_pos rfl, if_neg (by decide)]
            exact ⟨by rw [HC.out.1], HC.out.2⟩)
          go_wp2
          go_roundg (n - (i + 1))
          · exact ⟨i + 1, s + 1, k, hlt, rfl, rfl, rfl, rfl, HD, by omega, by omega, rfl⟩
          · omega
        · have HD : Hid (s = (T.take (i + 1)).count 194 ∧ k = (T.take (i + 1)).count 69) := Lib.hid (by
            rw [HC1.out, HC2.out, if_neg (by decide), if_neg (by decide)]
            exact HC.out)
          go_wp2
          go_roundg (n - (i + 1))
          · exact ⟨i + 1, s, k, hlt, rfl, rfl, rfl, rfl, HD, by omega, by omega, rfl⟩
          · omega
      · have hi : i = n := by omega
        subst hi
        have hsk := HC.out
        rw [← HN.out, List.take_length, HSG'.out, HMK'.out] at hsk
        obtain ⟨h1, h2⟩ := hsk
        clear HC HSG' HMK' HOK' hlt
        by_cases q1 : m < 0
        · rw [if_pos q1] at h1
          by_cases q2 : e < 0
          · rw [if_pos q2] at h1
            rw [if_neg (by omega)] at h2
            have hfin : Value.bool (e != 0 && decide (((i : Nat) : Int) ≤ 30)) = .bool true := by simp; omega
            subst h1
            subst h2
            go_wp2
            go_ret
            exact ⟨rfl, HG2.out⟩
          · rw [if_neg q2] at h1
            by_cases q3 : e = 0
            · rw [if_pos q3] at h2
              have hfin : Value.bool (decide (((i : Nat) : Int) ≤ 30)) = .bool true := by simp; omega
              subst q3
              subst h1
              subst h2
              go_wp2
              go_ret
              exact ⟨rfl, HG2.out⟩
            · rw [if_neg q3] at h2
              have hfin : Value.bool (e != 0 && decide (((i : Nat) : Int) ≤ 30)) = .bool true := by simp; omega
              subst h1
              subst h2
              go_wp2
              go_ret
              exact ⟨rfl, HG2.out⟩
        · rw [if_neg q1] at h1
          by_cases q2 : e < 0
          · rw [if_pos q2] at h1
            rw [if_neg (by omega)] at h2
            have hfin : Value.bool (e != 0 && decide (((i : Nat) : Int) ≤ 30)) = .bool true := by simp; omega
            subst h1
            subst h2
            go_wp2
            go_ret
            exact ⟨rfl, HG2.out⟩
          · rw [if_neg q2] at h1
            by_cases q3 : e = 0
            · rw [if_pos q3] at h2
              have hfin : Value.bool (decide (((i : Nat) : Int) ≤ 30)) = .bool true := by simp; omega
              subst q3
              subst h1
              subst h2
              go_wp2
              go_ret
              exact ⟨rfl, HG2.out⟩
            · rw [if_neg q3] at h2
              have hfin : Value.bool (e != 0 && decide (((i : Nat) : Int) ≤ 30)) = .bool true := by simp; omega
              subst h1
              subst h2
              go_wp2
              go_ret
              exact ⟨rfl, HG2.out⟩
end Go.Proofs.YtlmhddaelfolfaaDoor
