/-
  What quote.first, quote.isSign and quote.appendSign come to, called with anything.
-/
import Derived.Test.YthmhpjjpjgmdaaaDoorBytes
import Derived.Deep.CutBlock
import Derived.Deep.DeepCutAuto
namespace Go.Proofs.YthmhpjjpjgmdaaaDoor
open Go.RowKit Go.Lib
set_option linter.unusedSimpArgs false
set_option linter.unusedVariables false

theorem decode_list (l : List UInt8) : decodeGo ⟨l.toArray⟩ = if l = [] then (65533, 0) else runeD l := by
  unfold decodeGo
  rw [str_size]
  cases l with
  | nil => rfl
  | cons b r =>
    rw [if_neg (by simp), if_neg (by simp), decode_at_rune _ 0 (by rw [str_size]; simp)]
    rfl
theorem runeLen_of {c : Nat} (h : isSign c = true) : runeLen (c : Int) = ((bytesD c).length : Nat) := by
  have hs := isSign_iff.1 h
  unfold runeLen bytesD
  rw [if_pos h]
  repeat' split
  all_goals first | (exfalso; omega) | rfl
theorem runeLen_bad : runeLen 65533 = 3 := by decide

theorem pre_two (l : List UInt8) : hasPrefix l [39, 39] = match l with
    | a :: b :: _ => decide (a = 39 ∧ b = 39)
    | _ => false := by
  rcases l with _ | ⟨a, _ | ⟨b, r⟩⟩
  · rfl
  · simp [hasPrefix, List.isPrefixOf]
  · simp only [hasPrefix, List.isPrefixOf, Bool.and_true]
    rw [Bool.eq_iff_iff, Bool.and_eq_true, beq_iff_eq, beq_iff_eq, decide_eq_true_eq]
    exact ⟨fun h => ⟨h.1.symm, h.2.symm⟩, fun h => ⟨h.1.symm, h.2.symm⟩⟩
theorem pre_one (l : List UInt8) : hasPrefix l [39] = match l with
    | a :: _ => decide (a = 39)
    | _ => false := by
  rcases l with _ | ⟨a, r⟩
  · rfl
  · simp only [hasPrefix, List.isPrefixOf, Bool.and_true]
    rw [Bool.eq_iff_iff, beq_iff_eq, decide_eq_true_eq]
    exact eq_comm
/-- what the sign that stands first comes to, by its prefixes -/
theorem first_two {l : List UInt8} (h : hasPrefix l [39, 39] = true) : fstQ l = (39, 2) ∧ decodeGo ⟨l.toArray⟩ = (39, 1) := by
  rw [pre_two] at h
  rcases l with _ | ⟨a, _ | ⟨b, r⟩⟩
  · cases h
  · cases h
  · simp only [decide_eq_true_eq] at h
    obtain ⟨rfl, rfl⟩ := h
    refine ⟨rfl, ?_⟩
    rw [decode_list, if_neg (by simp), runeD_of (next_one (by decide)) (by decide)]
    rfl
theorem first_one {l : List UInt8} (h : hasPrefix l [39, 39] = false) (h2 : hasPrefix l [39] = true) : fstQ l = (0, 0) := by
  rw [pre_two] at h
  rw [pre_one] at h2
  rcases l with _ | ⟨a, _ | ⟨b, r⟩⟩
  · cases h2
  · have ha : a = 39 := by simpa using h2
    subst ha
    rfl
  · have ha : a = 39 := by simpa using h2
    subst ha
    have hb : b ≠ 39 := by simpa using h
    rw [fstQ_cons, if_pos rfl, if_neg (by simpa using hb)]
theorem first_none {l : List UInt8} (h2 : hasPrefix l [39] = false) (hn : (nextD l).2 = 0) : fstQ l = (0, 0) ∧ ∃ n, n ≤ 1 ∧ decodeGo ⟨l.toArray⟩ = (65533, n) := by
  rw [pre_one] at h2
  rcases l with _ | ⟨a, r⟩
  · exact ⟨rfl, 0, by decide, by rw [decode_list, if_pos rfl]⟩
  · have ha : a ≠ 39 := by simpa using h2
    refine ⟨?_, 1, by decide, ?_⟩
    · rw [fstQ_cons, if_neg ha]
      by_cases hz : (nextD (a :: r)).2 = 0
      · by_cases hp : nextD (a :: r) = (0, 0)
        · exact hp
        · exfalso
          rw [nextD_cons] at hz hp
          unfold many at hz hp
          repeat' split at hz
          all_goals first | (simp at hz) | skip
          all_goals simp_all
      · exact absurd hn hz
    · rw [decode_list, if_neg (by simp)]
      unfold runeD
      rw [if_pos hn]
theorem first_some {l : List UInt8} (h2 : hasPrefix l [39] = false) (hn : (nextD l).2 ≠ 0) : fstQ l = nextD l ∧ decodeGo ⟨l.toArray⟩ = nextD l := by
  rw [pre_one] at h2
  rcases l with _ | ⟨a, r⟩
  · exact absurd rfl hn
  · have ha : a ≠ 39 := by simpa using h2
    refine ⟨?_, ?_⟩
    · rw [fstQ_cons, if_neg ha]
    · rw [decode_list, if_neg (by simp)]
      unfold runeD
      rw [if_neg hn]

def First (p : Nat × Nat) (w : World) (e : Ending) (w' : World) : Prop := e = .returned (.tuple #[.int .i32 ((p.1 : Nat) : Int), .int .i64 ((p.2 : Nat) : Int)]) ∧ Grow w w'

set_option maxRecDepth 10000 in
set_option maxHeartbeats 1600000 in
theorem first_any (l : List UInt8) (w : World) (hL : Laid w) : Calls Tryd.prog 18 #[.string ⟨l.toArray⟩] w (First (fstQ l) w) := by
  have HD := Lib.hid (Tryd.utf8_DecodeRuneInString ⟨l.toArray⟩ w hL)
  have HP2 := Lib.hid (fun W => Tryd.strings_HasPrefix ⟨l.toArray⟩ ⟨#[39, 39]⟩ W)
  have HP1 := Lib.hid (fun W => Tryd.strings_HasPrefix ⟨l.toArray⟩ ⟨#[39]⟩ W)
  rw [show (⟨l.toArray⟩ : ByteArray).data.toList = l from rfl, show (⟨#[39, 39]⟩ : ByteArray).data.toList = [39, 39] from rfl] at HP2
  rw [show (⟨l.toArray⟩ : ByteArray).data.toList = l from rfl, show (⟨#[39]⟩ : ByteArray).data.toList = [39] from rfl] at HP1
  clear hL
  cases h2 : hasPrefix l [39, 39] with
  | true =>
    obtain ⟨e1, e2⟩ := first_two h2
    rw [e2] at HD
    rw [h2] at HP2
    rw [e1]
    clear e1 e2 h2 HP1
    go_enter Tryd.func18, Tryd.ntmps18
    go_wp2_with fail
    refine (HD.out).mono ?_
    rintro e w1 ⟨rfl, hg⟩
    have HG := Lib.hid (show Grow w w1 from hg)
    clear hg HD
    go_wp2_with fail
    refine (HP2.out _).mono ?_
    rintro e w2 ⟨rfl, rfl⟩
    go_wp2
    go_ret2
    exact ⟨rfl, HG.out⟩
  | false =>
    rw [h2] at HP2
    cases h1 : hasPrefix l [39] with
    | true =>
      rw [h1] at HP1
      rw [first_one h2 h1]
      clear h1 h2
      obtain ⟨c, hc⟩ : ∃ c, (decodeGo ⟨l.toArray⟩).1 = c := ⟨_, rfl⟩
      obtain ⟨n, hn⟩ : ∃ n, (decodeGo ⟨l.toArray⟩).2 = n := ⟨_, rfl⟩
      rw [hc, hn] at HD
      clear hc hn
      go_enter Tryd.func18, Tryd.ntmps18
      go_wp2_with fail
      refine (HD.out).mono ?_
      rintro e w1 ⟨rfl, hg⟩
      have HG := Lib.hid (show Grow w w1 from hg)
      clear hg HD
      go_wp2_with fail
      refine (HP2.out _).mono ?_
      rintro e w2 ⟨rfl, rfl⟩
      go_wp2_with fail
      refine (HP1.out _).mono ?_
      rintro e w2 ⟨rfl, rfl⟩
      go_wp2
      go_ret2
      exact ⟨rfl, HG.out⟩
    | false =>
      rw [h1] at HP1
      by_cases hz : (nextD l).2 = 0
      · obtain ⟨e1, n, hn, e2⟩ := first_none h1 hz
        rw [e2] at HD
        rw [e1]
        have HR := Lib.hid (fun W => Tryd.utf8_RuneLen ((65533 : Nat) : Int) W)
        rw [show runeLen ((65533 : Nat) : Int) = 3 from runeLen_bad] at HR
        have hne : (((n : Nat) : Int) == 3) = false := by rw [beq_eq_false_iff_ne]; omega
        clear e1 e2 h1 h2 hz hn
        go_enter Tryd.func18, Tryd.ntmps18
        go_wp2_with fail
        refine (HD.out).mono ?_
        rintro e w1 ⟨rfl, hg⟩
        have HG := Lib.hid (show Grow w w1 from hg)
        clear hg HD
        go_wp2_with fail
        refine (HP2.out _).mono ?_
        rintro e w2 ⟨rfl, rfl⟩
        go_wp2_with fail
        refine (HP1.out _).mono ?_
        rintro e w2 ⟨rfl, rfl⟩
        go_wp2_with fail
        refine (HR.out _).mono ?_
        rintro e w2 ⟨rfl, rfl⟩
        go_wp2
        go_ret2
        exact ⟨rfl, HG.out⟩
      · obtain ⟨e1, e2⟩ := first_some h1 hz
        obtain ⟨i1, _, i3⟩ := next_inv hz
        rw [e2] at HD
        rw [e1]
        have HR := Lib.hid (fun W => Tryd.utf8_RuneLen (((nextD l).1 : Nat) : Int) W)
        rw [runeLen_of i1, ← i3] at HR
        clear e1 e2 h1 h2 hz i1 i3
        generalize nextD l = p at *
        obtain ⟨c, n⟩ := p
        dsimp only at *
        go_enter Tryd.func18, Tryd.ntmps18
        go_wp2_with fail
        refine (HD.out).mono ?_
        rintro e w1 ⟨rfl, hg⟩
        have HG := Lib.hid (show Grow w w1 from hg)
        clear hg HD
        go_wp2_with fail
        refine (HP2.out _).mono ?_
        rintro e w2 ⟨rfl, rfl⟩
        go_wp2_with fail
        refine (HP1.out _).mono ?_
        rintro e w2 ⟨rfl, rfl⟩
        go_wp2_with fail
        refine (HR.out _).mono ?_
        rintro e w2 ⟨rfl, rfl⟩
        go_wp2
        go_ret2
        exact ⟨rfl, HG.out⟩

/-- a whole number of 64 bits -/
def In (n : Int) : Prop := -9223372036854775808 ≤ n ∧ n ≤ 9223372036854775807

set_option maxRecDepth 10000 in
set_option maxHeartbeats 800000 in
theorem issign_any (n : Int) (w : World) : Calls Tryd.prog 14 #[.int .i64 n] w fun e w' => e = .returned (.bool (signZ n)) ∧ w' = w := by
  by_cases h0 : 0 ≤ n
  · by_cases h1 : n ≤ 1114111
    · have hw : IntKind.i32.wrap n = n := by rw [IntKind.wrap_i32]; omega
      have HV := Lib.hid (fun W => Tryd.utf8_ValidRune n W)
      have he : Lib.validRune n = signZ n := by
        unfold Lib.validRune signZ
        rw [Bool.eq_iff_iff, decide_eq_true_eq, decide_eq_true_eq]
        omega
      rw [he] at HV
      clear he
      generalize signZ n = b at *
      go_enter Tryd.func14, Tryd.ntmps14
      go_wp2_with fail
      refine (HV.out _).mono ?_
      rintro e w2 ⟨rfl, rfl⟩
      go_wp2
      go_ret
      exact ⟨rfl, rfl⟩
    · have he : signZ n = false := by unfold signZ; rw [decide_eq_false_iff_not]; omega
      rw [he]
      go_enter Tryd.func14, Tryd.ntmps14
      go_wp2
      go_ret
      exact ⟨rfl, rfl⟩
  · have he : signZ n = false := by unfold signZ; rw [decide_eq_false_iff_not]; omega
    rw [he]
    go_enter Tryd.func14, Tryd.ntmps14
    go_wp2
    go_ret
    exact ⟨rfl, rfl⟩

theorem enc_bytes {c : Nat} (h : isSign c = true) : Utf8.encode (c : Int) = ⟨(bytesD c).toArray⟩ := by
  have hs := isSign_iff.1 h
  have hv : Utf8.valid (c : Int) = true := by
    unfold Utf8.valid
    simp
    omega
  unfold Utf8.encode bytesD
  rw [if_pos h]
  simp only [hv, if_true, Int.toNat_natCast]
  split
  · rfl
  · split
    · rfl
    · split <;> rfl

set_option maxRecDepth 10000 in
set_option maxHeartbeats 800000 in
theorem append_any (B : Nat) (v : Value) (q : List UInt8) (c : Nat) (w : World) (hc : isSign c = true) (hq : q.length ≤ 1000000) (hown : Own B v q w) (hB : B ≤ w.heap.size) :
    Calls Tryd.prog 15 #[v, .int .i32 c] w (Laid1 B (q ++ qC c) w) := by
  have HO := Lib.hid hown
  have henc : (Utf8.encode (c : Int)).toList = bytesD c := by rw [enc_bytes hc, Lib.toList_data]
  by_cases h39 : c = 39
  · have ht : ((Utf8.encode (c : Int)).toList == [39]) = true := by rw [henc, h39]; rfl
    rw [show qC c = [39, 39] by rw [h39]; rfl]
    clear hown hc henc h39
    go_enter Tryd.func15, Tryd.ntmps15
    go_wp2_with (at_builtin; refine wpList_append_text rfl _ _ rfl B v q [39, 39] rfl HO.out rfl (by simp only [List.length_cons, List.length_nil]; omega) hB ?_; intro v1 w1 ho1 hb1)
    go_ret
    exact ⟨_, rfl, ho1, hb1⟩
  · have HR := Lib.hid (rune_any B v q c w hc (by omega) hown hB)
    rw [qC_other h39]
    have ht : ((Utf8.encode (c : Int)).toList == [39]) = false := by
      rw [beq_eq_false_iff_ne, henc]
      intro e1
      have hn := next_bytes hc []
      rw [e1, List.append_nil, next_one (by decide)] at hn
      exact h39 (Prod.mk.inj hn).1.symm
    clear hown hc h39 henc
    go_enter Tryd.func15, Tryd.ntmps15
    go_wp2_with fail
    refine (HR.out).mono ?_
    rintro e w1 ⟨v1, rfl, ho, hb⟩
    have HO1 := Lib.hid ho
    have HB1 := Lib.hid hb
    clear ho hb
    go_wp2
    go_ret
    exact ⟨_, rfl, HO1.out, HB1.out⟩
end Go.Proofs.YthmhpjjpjgmdaaaDoor
