/-
  NameMore comes to true, whatever it is called with.
-/
import Derived.Test.YtoabegofgpjdeaaSmall
import Derived.Test.YtoabegofgpjdeaaLMath
import Derived.Lib.AppendStr
namespace Go.Proofs.Ytoabegofgpjdeaa
open Go.RowKit Go.Lib
set_option linter.unusedVariables false
set_option linter.unusedSimpArgs false

/-- the bytes of a literal, as a text -/
theorem conv_lit (w : World) (l : List UInt8) (vs : Array Value) (n : Nat) (hn : n = l.length) (h : vs = (byteCells l).toArray) :
    (convert 30 9 (.slice (some ⟨w.heap.size, 0, none⟩) n n)).run Try.prog (w.alloc (.cells vs 5)) = .ok (.string ⟨l.toArray⟩) (w.alloc (.cells vs 5)) := by
  subst hn h
  refine run_convert_bytes_back (P := Try.prog) _ 30 9 5 ⟨w.heap.size, 0, none⟩ l.length l (by kernel_rfl) (by kernel_rfl) (by kernel_rfl) (fun j hj => ?_)
  rw [Addr.add_lit, World.cell?_alloc_new]
  simp [byteCells, hj]

theorem on_nat (b : UInt8) : onB b = decide ((65 ≤ b.toNat ∧ b.toNat ≤ 90) ∨ (97 ≤ b.toNat ∧ b.toNat ≤ 122) ∨ b.toNat = 95 ∨ (48 ≤ b.toNat ∧ b.toNat ≤ 57)) := by
  rw [Bool.eq_iff_iff, decide_eq_true_eq]
  unfold onB
  rw [Bool.or_eq_true, begB_iff, digB_iff]
  omega

set_option maxRecDepth 10000 in
set_option maxHeartbeats 1600000 in
theorem lmore_walk (l : List UInt8) (b : UInt8) (w : World) (hl0 : l.length ≤ 9223372036854775807) :
    Calls Try.prog 5 #[.string ⟨l.toArray⟩, .int .u8 (b.toNat : Nat)] w (Fine w) := by
  have hb8 := u8_lt b
  have HON := Lib.hid (on_nat b)
  have HCV := Lib.hid (fun W : World => conv_lit W [b] _ 1 rfl rfl)
  simp only [byteCells, List.map_cons, List.map_nil] at HCV
  generalize b.toNat = n at hb8 HON HCV
  go_enter Try.func5, Try.ntmps5
  go_wp2_with fail
  refine (small_any w).mono ?_
  rintro x w1 ⟨rfl, hg⟩
  have HG1 := Lib.hid hg
  clear hg
  have hsl := str_size l
  have HR0 := Lib.hid (right_any l w1 hl0)
  cases hr : rightD l with
  | false =>
    rw [hr] at HR0
    clear hr
    go_wp2_with fail
    refine (HR0.out).mono ?_
    rintro x w2 ⟨rfl, hg⟩
    have HG2 := Lib.hid (HG1.out.trans hg)
    clear hg
    go_wp2
    go_ret
    exact ⟨rfl, HG2.out⟩
  | true =>
  rw [hr] at HR0
  have HMO := Lib.hid (fun h1 h2 => right_more (b := b) hr h1 h2)
  have HLE := Lib.hid (fun h1 => right_less (b := b) hr h1)
  have HSY := Lib.hid (fun W => system_says (right_sys hr) W)
  clear hr
  go_wp2_with fail
  refine (HR0.out).mono ?_
  rintro x w2 ⟨rfl, hg⟩
  have HG2 := Lib.hid (HG1.out.trans hg)
  clear hg
  by_cases h5 : 300 < l.length
  · have hi : (300 : Int) < ((l.length : Nat) : Int) := by omega
    go_wp2
    go_ret
    exact ⟨rfl, HG2.out⟩
  have hi : ¬ (300 : Int) < ((l.length : Nat) : Int) := by omega
  by_cases h6 : 128 ≤ n
  · have hj : (128 : Int) ≤ ((n : Nat) : Int) := by omega
    go_wp2
    go_ret
    exact ⟨rfl, HG2.out⟩
  have hj : ¬ (128 : Int) ≤ ((n : Nat) : Int) := by omega
  have hcv := HCV.out w2
  have happ := str_app l [b]
  have hs1 := str_size [b]
  have hsum : ¬ 9223372036854775807 < l.length + 1 := by omega
  have HLT : Hid ((l ++ [b]).length ≤ 1000000) := Lib.hid (by rw [List.length_append, List.length_singleton]; omega)
  obtain ⟨t, ht⟩ : ∃ t, l ++ [b] = t := ⟨_, rfl⟩
  rw [ht] at happ HMO HLE HLT
  clear ht
  simp only [List.length_singleton] at hs1
  have HG3 := Lib.hid (HG2.out.trans (grow_new w2 (.cells #[.int .u8 (n : Nat)] 5)))
  go_upto_region 5 with fail
  clear hcv happ
  generalize w2.alloc (.cells #[.int .u8 (n : Nat)] 5) = w3 at HG3 ⊢
  go_cut [7] from 27 to 52 (fun z wx => z = .bool (onB b) ∧ w3 = wx)
  case first =>
    by_cases q0 : n ≤ 47
    · have HF := Lib.hid (show onB b = false by rw [HON.out]; exact decide_eq_false (by omega))
      have g65 : ¬ (65 : Int) ≤ ((n : Nat) : Int) := by omega
      have l90 : ((n : Nat) : Int) ≤ 90 := by omega
      have g97 : ¬ (97 : Int) ≤ ((n : Nat) : Int) := by omega
      have l122 : ((n : Nat) : Int) ≤ 122 := by omega
      have e95 : (((n : Nat) : Int) == 95) = false := by rw [beq_eq_false_iff_ne]; omega
      have g48 : ¬ (48 : Int) ≤ ((n : Nat) : Int) := by omega
      have l57 : ((n : Nat) : Int) ≤ 57 := by omega
      go_wp2
      go_meet
      case rel => exact ⟨by rw [HF.out], rfl⟩
    by_cases q1 : n ≤ 57
    · have HF := Lib.hid (show onB b = true by rw [HON.out]; exact decide_eq_true (by omega))
      have g65 : ¬ (65 : Int) ≤ ((n : Nat) : Int) := by omega
      have l90 : ((n : Nat) : Int) ≤ 90 := by omega
      have g97 : ¬ (97 : Int) ≤ ((n : Nat) : Int) := by omega
      have l122 : ((n : Nat) : Int) ≤ 122 := by omega
      have e95 : (((n : Nat) : Int) == 95) = false := by rw [beq_eq_false_iff_ne]; omega
      have g48 : (48 : Int) ≤ ((n : Nat) : Int) := by omega
      have l57 : ((n : Nat) : Int) ≤ 57 := by omega
      go_wp2
      go_meet
      case rel => exact ⟨by rw [HF.out], rfl⟩
    by_cases q2 : n ≤ 64
    · have HF := Lib.hid (show onB b = false by rw [HON.out]; exact decide_eq_false (by omega))
      have g65 : ¬ (65 : Int) ≤ ((n : Nat) : Int) := by omega
      have l90 : ((n : Nat) : Int) ≤ 90 := by omega
      have g97 : ¬ (97 : Int) ≤ ((n : Nat) : Int) := by omega
      have l122 : ((n : Nat) : Int) ≤ 122 := by omega
      have e95 : (((n : Nat) : Int) == 95) = false := by rw [beq_eq_false_iff_ne]; omega
      have g48 : (48 : Int) ≤ ((n : Nat) : Int) := by omega
      have l57 : ¬ ((n : Nat) : Int) ≤ 57 := by omega
      go_wp2
      go_meet
      case rel => exact ⟨by rw [HF.out], rfl⟩
    by_cases q3 : n ≤ 90
    · have HF := Lib.hid (show onB b = true by rw [HON.out]; exact decide_eq_true (by omega))
      have g65 : (65 : Int) ≤ ((n : Nat) : Int) := by omega
      have l90 : ((n : Nat) : Int) ≤ 90 := by omega
      have g97 : ¬ (97 : Int) ≤ ((n : Nat) : Int) := by omega
      have l122 : ((n : Nat) : Int) ≤ 122 := by omega
      have e95 : (((n : Nat) : Int) == 95) = false := by rw [beq_eq_false_iff_ne]; omega
      have g48 : (48 : Int) ≤ ((n : Nat) : Int) := by omega
      have l57 : ¬ ((n : Nat) : Int) ≤ 57 := by omega
      go_wp2
      go_meet
      case rel => exact ⟨by rw [HF.out], rfl⟩
    by_cases q4 : n ≤ 94
    · have HF := Lib.hid (show onB b = false by rw [HON.out]; exact decide_eq_false (by omega))
      have g65 : (65 : Int) ≤ ((n : Nat) : Int) := by omega
      have l90 : ¬ ((n : Nat) : Int) ≤ 90 := by omega
      have g97 : ¬ (97 : Int) ≤ ((n : Nat) : Int) := by omega
      have l122 : ((n : Nat) : Int) ≤ 122 := by omega
      have e95 : (((n : Nat) : Int) == 95) = false := by rw [beq_eq_false_iff_ne]; omega
      have g48 : (48 : Int) ≤ ((n : Nat) : Int) := by omega
      have l57 : ¬ ((n : Nat) : Int) ≤ 57 := by omega
      go_wp2
      go_meet
      case rel => exact ⟨by rw [HF.out], rfl⟩
    by_cases q5 : n ≤ 95
    · have HF := Lib.hid (show onB b = true by rw [HON.out]; exact decide_eq_true (by omega))
      have g65 : (65 : Int) ≤ ((n : Nat) : Int) := by omega
      have l90 : ¬ ((n : Nat) : Int) ≤ 90 := by omega
      have g97 : ¬ (97 : Int) ≤ ((n : Nat) : Int) := by omega
      have e95 : (((n : Nat) : Int) == 95) = true := by rw [beq_iff_eq]; omega
      go_wp2
      go_meet
      case rel => exact ⟨by rw [HF.out], rfl⟩
    by_cases q6 : n ≤ 96
    · have HF := Lib.hid (show onB b = false by rw [HON.out]; exact decide_eq_false (by omega))
      have g65 : (65 : Int) ≤ ((n : Nat) : Int) := by omega
      have l90 : ¬ ((n : Nat) : Int) ≤ 90 := by omega
      have g97 : ¬ (97 : Int) ≤ ((n : Nat) : Int) := by omega
      have l122 : ((n : Nat) : Int) ≤ 122 := by omega
      have e95 : (((n : Nat) : Int) == 95) = false := by rw [beq_eq_false_iff_ne]; omega
      have g48 : (48 : Int) ≤ ((n : Nat) : Int) := by omega
      have l57 : ¬ ((n : Nat) : Int) ≤ 57 := by omega
      go_wp2
      go_meet
      case rel => exact ⟨by rw [HF.out], rfl⟩
    by_cases q7 : n ≤ 122
    · have HF := Lib.hid (show onB b = true by rw [HON.out]; exact decide_eq_true (by omega))
      have g65 : (65 : Int) ≤ ((n : Nat) : Int) := by omega
      have l90 : ¬ ((n : Nat) : Int) ≤ 90 := by omega
      have g97 : (97 : Int) ≤ ((n : Nat) : Int) := by omega
      have l122 : ((n : Nat) : Int) ≤ 122 := by omega
      have e95 : (((n : Nat) : Int) == 95) = false := by rw [beq_eq_false_iff_ne]; omega
      have g48 : (48 : Int) ≤ ((n : Nat) : Int) := by omega
      have l57 : ¬ ((n : Nat) : Int) ≤ 57 := by omega
      go_wp2
      go_meet
      case rel => exact ⟨by rw [HF.out], rfl⟩
    have HF := Lib.hid (show onB b = false by rw [HON.out]; exact decide_eq_false (by omega))
    have g65 : (65 : Int) ≤ ((n : Nat) : Int) := by omega
    have l90 : ¬ ((n : Nat) : Int) ≤ 90 := by omega
    have g97 : (97 : Int) ≤ ((n : Nat) : Int) := by omega
    have l122 : ¬ ((n : Nat) : Int) ≤ 122 := by omega
    have e95 : (((n : Nat) : Int) == 95) = false := by rw [beq_eq_false_iff_ne]; omega
    have g48 : (48 : Int) ≤ ((n : Nat) : Int) := by omega
    have l57 : ¬ ((n : Nat) : Int) ≤ 57 := by omega
    go_wp2
    go_meet
    case rel => exact ⟨by rw [HF.out], rfl⟩
  case rest =>
    obtain ⟨rfl, rfl⟩ := hcut
    cases ho : onB b with
    | false =>
      have HRT := Lib.hid (fun W => right_says (HLE.out ho) W HLT.out)
      clear ho
      go_wp2_with fail
      refine (HRT.out _).mono ?_
      rintro x w4 ⟨rfl, hg⟩
      have HG4 := Lib.hid (HG3.out.trans hg)
      clear hg
      go_wp2_with fail
      refine (HSY.out _).mono ?_
      rintro x w5 ⟨rfl, hg⟩
      have HG5 := Lib.hid (HG4.out.trans hg)
      clear hg
      go_wp2
      go_ret
      exact ⟨rfl, HG5.out⟩
    | true =>
      by_cases h32 : 32 ≤ l.length
      · have h32i : (32 : Int) ≤ ((l.length : Nat) : Int) := by omega
        clear ho
        go_wp2_with fail
        refine (HSY.out _).mono ?_
        rintro x w5 ⟨rfl, hg⟩
        have HG5 := Lib.hid (HG3.out.trans hg)
        clear hg
        go_wp2
        go_ret
        exact ⟨rfl, HG5.out⟩
      · have h32i : ¬ (32 : Int) ≤ ((l.length : Nat) : Int) := by omega
        have HRT := Lib.hid (fun W => right_says (HMO.out ho (by omega)) W HLT.out)
        clear ho
        go_wp2_with fail
        refine (HRT.out _).mono ?_
        rintro x w4 ⟨rfl, hg⟩
        have HG4 := Lib.hid (HG3.out.trans hg)
        clear hg
        go_wp2_with fail
        refine (HSY.out _).mono ?_
        rintro x w5 ⟨rfl, hg⟩
        have HG5 := Lib.hid (HG4.out.trans hg)
        clear hg
        go_wp2
        go_ret
        exact ⟨rfl, HG5.out⟩
end Go.Proofs.Ytoabegofgpjdeaa
