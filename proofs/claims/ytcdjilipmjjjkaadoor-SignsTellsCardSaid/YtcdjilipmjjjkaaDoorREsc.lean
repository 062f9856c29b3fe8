/-
  What the document's own Escape comes to, called with any text.
-/
import Derived.Test.YtcdjilipmjjjkaaDoorROne
namespace Go.Proofs.YtcdjilipmjjjkaaDoor
open Go.RowKit Go.Lib
set_option linter.unusedSimpArgs false

theorem sign_at {l : List UInt8} {q : List Nat} (h : signsD l = some q) : q.length ≤ l.length ∧ (escD q).length ≤ 9 * l.length ∧ ∀ c ∈ q, c ≤ 1114111 := by
  obtain ⟨h1, h2⟩ := signs_inv h
  have h3 := esc_le h1
  rw [h2] at h3
  exact ⟨signs_len h, h3, fun c hc => (isSign_iff.1 (h1 c hc)).1⟩
theorem esc_take {q : List Nat} {i : Nat} (h : i < q.length) : escD (q.take (i + 1)) = escD (q.take i) ++ oneD (q.getD i 0) := by
  rw [List.take_add_one, esc_append]
  congr 1
  have : q[i]? = some (q.getD i 0) := by simp [h]
  rw [this]
  show oneD _ ++ [] = _
  rw [List.append_nil]
theorem esc_take_le (q : List Nat) (i : Nat) : (escD (q.take i)).length ≤ (escD q).length := by
  have := esc_append (q.take i) (q.drop i)
  rw [List.take_append_drop] at this
  rw [this, List.length_append]
  omega

set_option maxRecDepth 10000 in
set_option maxHeartbeats 1600000 in
theorem resc_any (l : List UInt8) (w : World) (hl : l.length ≤ 1000000) : Calls Tryd.prog 10 #[.string ⟨l.toArray⟩] w (Escaped l w) := by
  have HS := Lib.hid (rsigns_any l w hl)
  obtain ⟨q, hq⟩ : ∃ q, (signsD l).getD [] = q := ⟨_, rfl⟩
  obtain ⟨ok, hok⟩ : ∃ ok, (signsD l).isSome = ok := ⟨_, rfl⟩
  have HE : Hid (escT l = if ok then some (escD q) else none) := Lib.hid (by
    unfold escT
    rw [← hok, ← hq]
    cases signsD l <;> rfl)
  have hfacts : q.length ≤ 1000000 ∧ (escD q).length ≤ 9000000 ∧ (∀ c ∈ q, c ≤ 1114111) ∧ (ok = false → q = []) := by
    cases hs : signsD l with
    | none =>
      rw [hs] at hq hok
      subst hq hok
      exact ⟨by simp, by simp [escD], by simp, fun _ => rfl⟩
    | some p =>
      rw [hs] at hq hok
      subst hq hok
      obtain ⟨h1, h2, h3⟩ := sign_at hs
      exact ⟨by simp only [Option.getD_some]; omega, by simp only [Option.getD_some]; omega, h3, fun h => by cases h⟩
  obtain ⟨hql, hel, hsg, hno⟩ := hfacts
  have HSG := Lib.hid hsg
  have HNO := Lib.hid hno
  unfold SignsOf at HS
  rw [hq, hok] at HS
  clear hq hok hsg hno
  obtain ⟨n, hn⟩ : ∃ n, q.length = n := ⟨_, rfl⟩
  have HNL := Lib.hid hn
  go_enter Tryd.func10, Tryd.ntmps10
  go_wp2_with fail
  refine (HS.out).mono ?_
  rintro e w1 ⟨v, rfl, hown, hg⟩
  obtain ⟨A, cap, rfl, hcap, hnums⟩ := hown.nums
  have HN := Lib.hid hnums
  have HG := Lib.hid hg
  rw [hn] at hcap hql ⊢
  clear hown hnums hg HS hn
  go_wp2
  go_loopg [6, 7] n (fun g s6 s7 wr => ∃ i : Nat, i ≤ n ∧ g = n - i ∧ s6 = .string ⟨(escD (q.take i)).toArray⟩ ∧ s7 = .int .i64 i ∧ Hid (NumsAt wr A q) ∧ Hid (Grow w wr))
  case atStart => exact ⟨0, by omega, rfl, rfl, rfl, HN, HG⟩
  case round =>
    clear HN HG
    obtain ⟨i, hi, rfl, rfl, rfl, HN, HG⟩ := hrel
    by_cases hlt : i < n
    · have hiq : i < q.length := by rw [HNL.out]; exact hlt
      obtain ⟨b, off, rfl, _, hc⟩ := HN.out (by rw [List.length_map]; omega)
      have hcell := hc i (by rw [List.length_map]; exact hiq)
      obtain ⟨c, hcc⟩ : ∃ c, q.getD i 0 = c := ⟨_, rfl⟩
      have hgc : (q.map fun n => ((n : Nat) : Int)).getD i 0 = ((c : Nat) : Int) := by rw [← hcc]; simp [hiq]
      rw [hgc] at hcell
      have hcs : c ≤ 1114111 := HSG.out c (by rw [← hcc]; simp [hiq])
      have HO := Lib.hid (rone_any c wr hcs)
      have het := esc_take hiq
      rw [hcc] at het
      have hle1 := esc_take_le q (i + 1)
      rw [het, List.length_append] at hle1
      have hadd := str_app (escD (q.take i)) (oneD c)
      have hsum : ¬ 9223372036854775807 < (escD (q.take i)).length + (oneD c).length := by omega
      have HET := Lib.hid het
      generalize escD (q.take i) = E at *
      clear hc hgc hcc hiq het hcs hle1
      go_wp2_with fail
      refine (HO.out).mono ?_
      rintro e w2 ⟨rfl, hg⟩
      have HN2 := Lib.hid (HN.out.grow hg)
      have HG2 := Lib.hid (HG.out.trans hg)
      clear hg HO HN HG
      go_wp2
      go_roundg (n - (i + 1))
      case rel => exact ⟨i + 1, by omega, rfl, by rw [HET.out], by go_num, HN2, HG2⟩
      case measure => omega
    · obtain rfl : i = n := by omega
      have hall : q.take i = q := List.take_of_length_le (by rw [HNL.out]; omega)
      rw [hall]
      cases ok with
      | true =>
        have HF : Hid (escT l = some (escD q)) := Lib.hid (by rw [HE.out]; rfl)
        go_wp2
        go_ret2
        exact ⟨by rw [HF.out]; rfl, HG.out⟩
      | false =>
        have HF : Hid (escT l = none) := Lib.hid (by rw [HE.out]; rfl)
        have hq0 := HNO.out rfl
        subst hq0
        go_wp2
        go_ret2
        exact ⟨by rw [HF.out]; rfl, HG.out⟩
end Go.Proofs.YtcdjilipmjjjkaaDoor
