/-
  SignsPlain comes to true, whatever it is called with.
-/
import Derived.Test.YtcdjilipmjjjkaaDoorSmall
import Derived.Test.YtcdjilipmjjjkaaDoorLMath
namespace Go.Proofs.YtcdjilipmjjjkaaDoor
open Go.RowKit Go.Lib

def ints (l : List UInt8) : List Int := l.map fun b => ((b.toNat : Nat) : Int)
theorem ints_at {l : List UInt8} {i : Nat} {x : UInt8} (h : l[i]? = some x) : (ints l).getD i 0 = ((x.toNat : Nat) : Int) := by simp [ints, h]
theorem ints_len (l : List UInt8) : (ints l).length = l.length := by simp [ints]
theorem conv_nums {w : World} {A : Option Addr} {cap : Nat} {l : List UInt8} (h : Nums .u8 w w.heap.size A (ints l)) (hc : A = none → cap = 0) : (convert 27 9 (.slice A l.length cap)).run Tryd.prog w = .ok (.string ⟨l.toArray⟩) w := by
  rcases A with _ | p
  · have hl : l = [] := by
      cases l with
      | nil => rfl
      | cons b r =>
        obtain ⟨b, off, e, _⟩ := h (by simp [ints])
        cases e
    subst hl
    rw [hc rfl]
    exact run_convert_bytes_nil w 27 5 Tryd.underlying27 Tryd.underlying5 0 0 9 Tryd.underlying9
  · refine run_convert_bytes_back (P := Tryd.prog) w 27 9 5 p cap l (by kernel_rfl) (by kernel_rfl) (by kernel_rfl) (fun j hj => ?_)
    obtain ⟨b, off, e, _, hcell⟩ := h (by rw [ints_len]; omega)
    cases e
    have e : (⟨b, off, none⟩ : Addr).add j = ⟨b, off + j, none⟩ := by unfold Addr.add; split <;> simp_all
    rw [e, hcell j (by rw [ints_len]; exact hj), ints_at (List.getElem?_eq_getElem hj)]

set_option maxRecDepth 10000 in
set_option maxHeartbeats 1600000 in
theorem lplain_walk (A : Option Addr) (cap : Nat) (l : List UInt8) (w : World) (hL : Laid w) (hl0 : l.length ≤ 9223372036854775807) (hr : Nums .u8 w w.heap.size A (ints l)) (hlc : l.length ≤ cap) (hcap : A = none → cap = 0) :
    Calls Tryd.prog 7 #[.slice A l.length cap] w fun x w' => x = .returned (.bool true) ∧ Grow w w' := by
  have HL := Lib.hid hL
  have HR := Lib.hid hr
  have HC := Lib.hid hcap
  clear hL hr hcap
  go_enter Tryd.func7, Tryd.ntmps7
  go_wp2_with fail
  refine (small_any w HL.out).mono ?_
  rintro x w1 ⟨rfl, hg⟩
  have HG1 := Lib.hid hg
  have HR1 := Lib.hid (HR.out.grow hg)
  clear hg HR
  obtain ⟨n, hn⟩ : ∃ n, l.length = n := ⟨_, rfl⟩
  have HN := Lib.hid hn
  rw [hn] at hl0 hlc ⊢
  by_cases h5 : 300 < n
  · have hi : (300 : Int) < ((n : Nat) : Int) := by omega
    go_wp2
    go_ret
    exact ⟨rfl, HG1.out⟩
  have hi : ¬ (300 : Int) < ((n : Nat) : Int) := by omega
  clear hn
  go_wp2
  go_loopg [4] n (fun gk s4 wr => ∃ i : Nat, i ≤ n ∧ gk = n - i ∧ s4 = .int .i64 i ∧ Hid (∀ b ∈ l.take i, plainB b = true ∧ b.toNat ≠ 64) ∧ w1 = wr)
  case atStart => exact ⟨0, by omega, rfl, rfl, Lib.hid (by simp), rfl⟩
  case round =>
    obtain ⟨i, hin, rfl, rfl, HP, rfl⟩ := hrel
    by_cases hlt : i < n
    · have hlt' : i < l.length := by rw [HN.out]; exact hlt
      obtain ⟨c, hc⟩ : ∃ c, l[i]? = some c := ⟨_, List.getElem?_eq_getElem hlt'⟩
      obtain ⟨b, off, rfl, hb, hcell⟩ := HR1.out (by rw [ints_len]; omega)
      have hcl := hcell i (by rw [ints_len]; omega)
      rw [ints_at hc] at hcl
      have HT : Hid (plainB c = true ∧ c.toNat ≠ 64 → ∀ b ∈ l.take (i + 1), plainB b = true ∧ b.toNat ≠ 64) := Lib.hid (fun h b hb => by
        rw [List.take_add_one, hc] at hb
        rcases List.mem_append.1 hb with hb | hb
        · exact HP.out b hb
        · simp at hb
          subst hb
          exact h)
      clear hcell hb hc hlt'
      by_cases h1 : c.toNat < 32
      · have ho1 : ((c.toNat : Nat) : Int) < 32 := by omega
        go_wp2
        go_ret
        exact ⟨rfl, HG1.out⟩
      have ho1 : ¬ ((c.toNat : Nat) : Int) < 32 := by omega
      by_cases h2 : 126 < c.toNat
      · have ho2 : (126 : Int) < ((c.toNat : Nat) : Int) := by omega
        go_wp2
        go_ret
        exact ⟨rfl, HG1.out⟩
      have ho2 : ¬ (126 : Int) < ((c.toNat : Nat) : Int) := by omega
      by_cases h3 : c.toNat = 64
      · have ho3 : (((c.toNat : Nat) : Int) == 64) = true := by rw [h3]; rfl
        go_wp2
        go_ret
        exact ⟨rfl, HG1.out⟩
      have ho3 : (((c.toNat : Nat) : Int) == 64) = false := by rw [beq_eq_false_iff_ne]; omega
      have HT' := Lib.hid (HT.out ⟨plain_iff.2 (by omega), h3⟩)
      clear h1 h2 h3 HT
      go_wp2
      go_roundg (n - (i + 1))
      case rel => exact ⟨i + 1, by omega, rfl, by go_num, HT', rfl⟩
      case measure => omega
    · obtain rfl : i = n := by omega
      have hp := HP.out
      rw [List.take_of_length_le (by rw [HN.out]; omega)] at hp
      obtain ⟨he, hu⟩ := plain_self hp
      have HE := Lib.hid (fun W => esc_says he W (by rw [HN.out]; omega))
      have HU := Lib.hid (fun W => un_says hu W (by rw [HN.out]; omega))
      have hcv := conv_nums HR1.out HC.out
      rw [HN.out] at hcv
      clear hp he hu
      go_wp2_with fail
      refine (HE.out w1 (HL.out.grow HG1.out)).mono ?_
      rintro x w2 ⟨rfl, hg⟩
      have HG2 := Lib.hid (HG1.out.trans hg)
      clear hg HE
      simp only [Option.getD_some, Option.isSome_some]
      go_wp2_with fail
      refine (HU.out w2 (HL.out.grow HG2.out)).mono ?_
      rintro x w3 ⟨rfl, hg⟩
      have HG3 := Lib.hid (HG2.out.trans hg)
      clear hg HU
      simp only [Option.getD_some, Option.isSome_some]
      go_wp2
      go_ret
      exact ⟨rfl, HG3.out⟩
end Go.Proofs.YtcdjilipmjjjkaaDoor
