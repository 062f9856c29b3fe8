/-
  What the law's own Few comes to.
-/
import Derived.Test.YtcljpcbgokgcdaaNodesIn
import Derived.ProofKit
import Derived.WalkKit
import Derived.Lib.Hide
import Derived.Deep.LoopGhost
import Derived.Deep.QuietTactic
import Derived.OpenShut
import Derived.Test.YtcljpcbgokgcdaaAllsA
namespace Go.Proofs.Ytcljpcbgokgcdaa
open Go.RowKit Go.Lib
set_option linter.unusedSimpArgs false
set_option linter.unusedVariables false

def okF (n : Nd) : Bool := decide (n.shp.length ≤ 30) && (decide (n.ints.length ≤ 300) && decide (n.decs.length ≤ 300))
def tot : List Nd → Nat
  | [] => 0
  | n :: l => n.ints.length + n.decs.length + tot l
def fewB (ns : List Nd) : Bool := (ns.take 200).all okF && (decide (ns.length ≤ 100) && decide (tot (ns.take 200) ≤ 1000))
theorem tot_app (a b : List Nd) : tot (a ++ b) = tot a + tot b := by
  induction a with
  | nil => simp [tot]
  | cons n a ih => simp only [List.cons_append, tot, ih]; omega
theorem take_one {ns : List Nd} {k : Nat} (h : k < ns.length) : ns.take (k + 1) = ns.take k ++ [ns.getD k nd0] := by
  rw [List.take_add_one]
  congr 1
  simp [List.getD, h]
theorem tot_step {ns : List Nd} {k : Nat} (h : k < ns.length) : tot (ns.take (k + 1)) = tot (ns.take k) + (ns.getD k nd0).ints.length + (ns.getD k nd0).decs.length := by
  rw [take_one h, tot_app]
  simp only [tot]
  omega
theorem all_step {ns : List Nd} {k : Nat} (h : k < ns.length) (ha : (ns.take k).all okF = true) (hk : okF (ns.getD k nd0) = true) : (ns.take (k + 1)).all okF = true := by
  rw [take_one h, List.all_append, ha, List.all_cons, hk]
  rfl
theorem few_not {ns : List Nd} {k : Nat} (h : k < ns.length) (h2 : k < 200) (hk : okF (ns.getD k nd0) = false) : fewB ns = false := by
  have hm : ns.getD k nd0 ∈ ns.take 200 := by
    rw [show ns.getD k nd0 = ns[k] by simp [List.getD, h]]
    exact List.mem_take_iff_getElem.2 ⟨k, by omega, rfl⟩
  have : (ns.take 200).all okF = false := by
    rw [Bool.eq_false_iff]
    intro ha
    have := List.all_eq_true.1 ha _ hm
    rw [hk] at this
    cases this
  simp [fewB, this]
theorem few_len {ns : List Nd} (h : fewB ns = true) : ns.length ≤ 100 := by
  simp only [fewB, Bool.and_eq_true, decide_eq_true_eq] at h
  exact h.2.1
theorem few_fits {w : World} {a : Option Addr} {len cap : Nat} {ns : List Nd} (h : IsNodes w a len cap ns) (hf : fewB ns = true) : Fits ns := fun n hn => by
  have hl := few_len hf
  simp only [fewB, Bool.and_eq_true, decide_eq_true_eq] at hf
  rw [List.take_of_length_le (by omega)] at hf
  have h1 := List.all_eq_true.1 hf.1 n hn
  simp only [okF, Bool.and_eq_true, decide_eq_true_eq] at h1
  have h2 := h.2.2.2.2 n hn
  exact ⟨h2.1, by omega, by omega, by omega, h2.2.2.2.2.1⟩

set_option maxRecDepth 10000 in
set_option maxHeartbeats 1600000 in
theorem few_any (A : Option Addr) (n c : Nat) (ns : List Nd) (W w : World) (hin : IsNodes W A n c ns) (hg0 : Grow W w) :
    Calls Try.prog 10 #[.slice A n c] w (Says (fewB ns) w) := by
  obtain ⟨hn, hc, hcm, hns, hf⟩ := hin
  have hnm : n ≤ 9223372036854775807 := Nat.le_trans hc hcm
  have HN := Lib.hid hn
  have HNS := Lib.hid (hns.grow hg0)
  have HF := Lib.hid hf
  clear hn hns hf hc hcm hg0
  go_enter Try.func10, Try.ntmps10
  go_wp2
  go_loopg [3, 4] (200 - 0) (fun g s3 s4 wr => ∃ (k t : Nat), k ≤ n ∧ k ≤ 200 ∧ g = 200 - k ∧ s4 = .int .i64 k ∧ s3 = .int .i64 t ∧ t ≤ 600 * k ∧ Hid (t = tot (ns.take k)) ∧ Hid ((ns.take k).all okF = true) ∧ Hid (Grow w wr))
  case atStart => exact ⟨0, 0, Nat.zero_le _, by omega, rfl, rfl, rfl, by omega, Lib.hid rfl, Lib.hid rfl, Lib.hid (Grow.refl _)⟩
  case round =>
    obtain ⟨k, t, hk, hk2, rfl, rfl, rfl, ht, HT, HA, HG⟩ := hrel
    by_cases hlt : k < n
    · have hlti : ((k : Nat) : Int) < ((n : Nat) : Int) := by omega
      by_cases h200 : k < 200
      · have h200i : ((k : Nat) : Int) < 200 := by omega
        obtain ⟨b, off, rfl, hb, hat⟩ := HNS.out.grow HG.out (by rw [HN.out]; omega)
        obtain ⟨A1, c1, A2, c2, A3, c3, p0, p1, p2, p3, hnd⟩ := hat k (by rw [HN.out]; exact hlt)
        have HST := Lib.hid (tot_step (ns := ns) (k := k) (by rw [HN.out]; exact hlt))
        have HOK := Lib.hid (all_step (ns := ns) (k := k) (by rw [HN.out]; exact hlt) HA.out)
        have HNO := Lib.hid (few_not (ns := ns) (k := k) (by rw [HN.out]; exact hlt) h200)
        have hfk : (ns.getD k nd0).shp.length ≤ 9223372036854775807 ∧ (ns.getD k nd0).ints.length ≤ 9223372036854775807 ∧ (ns.getD k nd0).decs.length ≤ 9223372036854775807 := by
          have hm : ns.getD k nd0 ∈ ns := by
            have hkl : k < ns.length := by rw [HN.out]; exact hlt
            rw [show ns.getD k nd0 = ns[k] by simp [List.getD, hkl]]
            exact List.getElem_mem hkl
          have h := HF.out _ hm
          exact ⟨h.2.1, h.2.2.1, h.2.2.2.1⟩
        obtain ⟨hm1, hm2, hm3⟩ := hfk
        clear hat hnd hb p0 HA
        have HOF := Lib.hid (show okF (ns.getD k nd0) = (decide ((ns.getD k nd0).shp.length ≤ 30) && (decide ((ns.getD k nd0).ints.length ≤ 300) && decide ((ns.getD k nd0).decs.length ≤ 300))) from rfl)
        generalize okF (ns.getD k nd0) = β at HOF HOK HNO
        generalize (ns.getD k nd0).shp.length = l1 at *
        generalize (ns.getD k nd0).ints.length = l2 at *
        generalize (ns.getD k nd0).decs.length = l3 at *
        by_cases h1 : l1 ≤ 30
        · have h1i : ¬ (30 < ((l1 : Nat) : Int)) := by omega
          by_cases h2 : l2 ≤ 300
          · have h2i : ¬ (300 < ((l2 : Nat) : Int)) := by omega
            by_cases h3 : l3 ≤ 300
            · have h3i : ¬ (300 < ((l3 : Nat) : Int)) := by omega
              have HB : Hid (β = true) := Lib.hid (by rw [HOF.out]; simp [h1, h2, h3])
              have hw1 : IntKind.i64.wrap (((t : Nat) : Int) + ((l2 : Nat) : Int)) = ((t : Nat) : Int) + ((l2 : Nat) : Int) := by rw [IntKind.wrap_i64]; omega
              have hw2 : IntKind.i64.wrap (((t : Nat) : Int) + ((l2 : Nat) : Int) + ((l3 : Nat) : Int)) = ((t + l2 + l3 : Nat) : Int) := by rw [IntKind.wrap_i64]; omega
              clear HOF HNO
              go_wp2
              go_quiet (fail)
              go_wp2
              go_roundg (200 - (k + 1))
              case rel =>
                refine ⟨k + 1, t + l2 + l3, by omega, by omega, rfl, by go_num, by go_num, by omega, Lib.hid ?_, Lib.hid (HOK.out HB.out), Lib.hid (HG.out.drewN _)⟩
                rw [HST.out, ← HT.out]
              case measure => omega
            · have h3i : (300 < ((l3 : Nat) : Int)) := by omega
              have HB : Hid (β = false) := Lib.hid (by rw [HOF.out]; simp [h1, h2, h3])
              clear HOF HOK
              go_wp2
              go_ret
              exact ⟨by rw [HNO.out HB.out]; rfl, HG.out⟩
          · have h2i : (300 < ((l2 : Nat) : Int)) := by omega
            have HB : Hid (β = false) := Lib.hid (by rw [HOF.out]; simp [h2])
            clear HOF HOK
            go_wp2
            go_ret
            exact ⟨by rw [HNO.out HB.out]; rfl, HG.out⟩
        · have h1i : (30 < ((l1 : Nat) : Int)) := by omega
          have HB : Hid (β = false) := Lib.hid (by rw [HOF.out]; simp [h1])
          clear HOF HOK
          go_wp2
          go_ret
          exact ⟨by rw [HNO.out HB.out]; rfl, HG.out⟩
      · obtain rfl : 200 = k := by omega
        have HFE : Hid (fewB ns = false) := Lib.hid (by
          have : ¬ ns.length ≤ 100 := by rw [HN.out]; omega
          simp [fewB, this])
        have h1i : ¬ (((n : Nat) : Int) ≤ 100) := by omega
        go_wp2
        go_ret
        exact ⟨by rw [HFE.out]; rfl, HG.out⟩
    · obtain rfl : n = k := by omega
      have HTA := Lib.hid (show ns.take 200 = ns by rw [List.take_of_length_le (by rw [HN.out]; exact hk2)])
      have HTB := Lib.hid (show ns.take n = ns by rw [List.take_of_length_le (by rw [HN.out]; exact Nat.le_refl _)])
      have HFE : Hid (fewB ns = (decide (n ≤ 100) && decide (t ≤ 1000))) := Lib.hid (by
        have h1 := HA.out
        have h2 := HT.out
        rw [HTB.out] at h1 h2
        unfold fewB
        rw [HTA.out, h1, HN.out, h2]
        rfl)
      by_cases h1 : n ≤ 100
      · have h1i : (((n : Nat) : Int) ≤ 100) := by omega
        by_cases h2 : t ≤ 1000
        · have h2i : (((t : Nat) : Int) ≤ 1000) := by omega
          have HB : Hid (fewB ns = true) := Lib.hid (by rw [HFE.out]; simp [h1, h2])
          go_wp2
          go_ret
          exact ⟨by rw [HB.out]; rfl, HG.out⟩
        · have h2i : ¬ (((t : Nat) : Int) ≤ 1000) := by omega
          have HB : Hid (fewB ns = false) := Lib.hid (by rw [HFE.out]; simp [h2])
          go_wp2
          go_ret
          exact ⟨by rw [HB.out]; rfl, HG.out⟩
      · have h1i : ¬ (((n : Nat) : Int) ≤ 100) := by omega
        have HB : Hid (fewB ns = false) := Lib.hid (by rw [HFE.out]; simp [h1])
        go_wp2
        go_ret
        exact ⟨by rw [HB.out]; rfl, HG.out⟩
end Go.Proofs.Ytcljpcbgokgcdaa
