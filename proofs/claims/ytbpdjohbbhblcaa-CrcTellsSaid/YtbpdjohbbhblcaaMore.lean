/-
  What crc.More comes to, called with any table, any number and any parts.
-/
import Derived.Test.YtbpdjohbbhblcaaRTable
import Derived.Test.YtbpdjohbbhblcaaGrow
namespace Go.Proofs.Ytbpdjohbbhblcaa
open Go.RowKit

/-- the slice of slices at A holds the parts ps; all of it lies below block B -/
def Prts (w : World) (B : Nat) (A : Option Addr) (ps : List (List Int)) : Prop :=
  0 < ps.length → ∃ b off, A = some ⟨b, off, none⟩ ∧ b < B ∧ ∀ i, i < ps.length → ∃ Ai ci, w.cell? ⟨b, off + i, none⟩ = some (.slice Ai (ps.getD i []).length ci) ∧ (Ai = none → ci = 0) ∧ Nums .u8 w B Ai (ps.getD i [])

section
variable {w w' : World} {B B' : Nat} {A : Option Addr} {ps : List (List Int)}
theorem Prts.below (h : Prts w B A ps) (hb : Below B w w') : Prts w' B A ps := fun hn => by
  obtain ⟨b, off, e, hB, hc⟩ := h hn
  refine ⟨b, off, e, hB, fun i hi => ?_⟩
  obtain ⟨Ai, ci, h1, h0, h2⟩ := hc i hi
  exact ⟨Ai, ci, (hb.cell hB).trans h1, h0, h2.below hb⟩
theorem Prts.more (h : Prts w B A ps) (hB : B ≤ B') : Prts w B' A ps := fun hn => by
  obtain ⟨b, off, e, hB', hc⟩ := h hn
  refine ⟨b, off, e, by omega, fun i hi => ?_⟩
  obtain ⟨Ai, ci, h1, h0, h2⟩ := hc i hi
  exact ⟨Ai, ci, h1, h0, h2.more hB⟩
theorem Prts.drew (h : Prts w B A ps) : Prts w.drew B A ps := h
theorem Prts.none_ : Prts w B A [] := fun h => absurd h (by simp)
end

/-- parts that a machine may hold -/
def Fits (ps : List (List Int)) : Prop := ps.length ≤ 1000000000000000000 ∧ ∀ i, (ps.getD i []).length ≤ 1000000000000000000 ∧ Byt (ps.getD i [])

def moreN (T : Nat → Nat) (s : Nat) (bs : List Int) : Nat := raw T (s ^^^ 4294967295) bs ^^^ 4294967295

/-- all bytes of the parts -/
def flat (ps : List (List Int)) : List Int := ps.flatten
theorem take_flat (ps : List (List Int)) (k : Nat) (hk : k < ps.length) : flat (ps.take (k + 1)) = flat (ps.take k) ++ ps.getD k [] := by
  unfold flat
  have : ps.take (k + 1) = ps.take k ++ [ps[k]] := by simp
  rw [this, List.flatten_append]
  simp [hk]
theorem flat_none : flat [] = [] := rfl
theorem flat_le (ps : List (List Int)) (k : Nat) : (flat (ps.take k)).length ≤ (flat ps).length := by
  unfold flat
  conv => rhs; rw [← List.take_append_drop k ps, List.flatten_append, List.length_append]
  omega
theorem take_one (l : List Int) (k : Nat) (hk : k < l.length) : l.take (k + 1) = l.take k ++ [l.getD k 0] := by
  simp [hk]

theorem index_xor (s : Nat) (c : Int) (h0 : 0 ≤ c) (h1 : c < 256) : bits .xor .u8 ((s : Int) % 256) c = (((s ^^^ c.toNat) % 256 : Nat) : Int) := by
  obtain ⟨C, rfl⟩ := Int.eq_ofNat_of_zero_le h0
  have h := u8_xor_nat (s % 256) C (Nat.mod_lt _ (by decide)) (by omega)
  have e : (((s % 256 : Nat) : Int)) = (s : Int) % 256 := by simp
  rw [e] at h
  rw [h, Int.toNat_natCast]
  congr 1
  have h2 : (s ^^^ C) % 2 ^ 8 = s % 2 ^ 8 ^^^ C % 2 ^ 8 := Nat.xor_mod_two_pow
  rw [show (2 : Nat) ^ 8 = 256 from rfl, Nat.mod_eq_of_lt (show C < 256 by omega)] at h2
  exact h2.symm
theorem step_xor (s t : Nat) (h1 : s < 4294967296) (h2 : t < 4294967296) : bits .xor .u32 ((s : Int) / 256) (t : Int) = ((s / 256 ^^^ t : Nat) : Int) := by
  rw [← u32_xor_nat (s / 256) t (by omega) h2]
  simp
theorem ones_xor (s : Nat) (h1 : s < 4294967296) : bits .xor .u32 (s : Int) 4294967295 = ((s ^^^ 4294967295 : Nat) : Int) := u32_xor_nat s 4294967295 h1 (by decide)
theorem ones_lt (s : Nat) (h1 : s < 4294967296) : s ^^^ 4294967295 < 4294967296 := Nat.xor_lt_two_pow (n := 32) h1 (by decide)

set_option maxRecDepth 10000 in
set_option maxHeartbeats 400000 in
theorem more_any (A : Option Addr) (cap : Nat) (cs : Array Value) (T : Nat → Nat) (s : Nat) (ps : List (List Int)) (w : World) (hT : IsTab cs T) (hs : s < 4294967296) (hf : Fits ps) (hr : Prts w w.heap.size A ps) :
    Calls Try.prog 18 #[.agg cs, .int .u32 s, .slice A ps.length cap] w fun e w' => e = .returned (.int .u32 (moreN T s (flat ps) : Nat)) ∧ Grow w w' := by
  have h1 := ones_xor s hs
  have hs' := ones_lt s hs
  have hb1 : Below w.heap.size w (w.alloc (.cells cs 24)) := (Below.refl _ _).alloc (Nat.le_refl _) _
  have hr1 := hr.below hb1
  have htab : ∀ j, j < 256 → (w.alloc (.cells cs 24)).cell? ⟨w.heap.size, j, none⟩ = some (.int .u32 (T j : Nat)) := fun j hj => by
    rw [World.cell?_alloc_new]
    exact hT.2.1 j hj
  have HT := Lib.hid htab
  have HR := Lib.hid hr1
  have HF := Lib.hid hf
  have hsm := Lib.hid hT.2.2
  have hlen := hf.1
  have HB := Lib.hid hb1
  clear hr1 hr htab hT hf hb1
  obtain ⟨s0, hs0⟩ : ∃ s0, s ^^^ 4294967295 = s0 := ⟨_, rfl⟩
  rw [hs0] at h1 hs'
  have HS0 := Lib.hid hs0
  clear hs0
  go_enter Try.func18, Try.ntmps18
  go_wp2
  generalize w.alloc (.cells cs 24) = w1 at *
  go_loopw [1, 15] (fun v i wr => ∃ k : Nat, k ≤ ps.length ∧ i = .int .i64 k ∧ v = .int .u32 (raw T s0 (flat (ps.take k)) : Nat) ∧ wr = w1)
    (fun _ i _ => ps.length - (intOf i).toNat)
  case atStart => exact ⟨0, Nat.zero_le _, rfl, by simp [raw, flat_none], rfl⟩
  case round =>
    obtain ⟨k, hk, rfl, rfl, rfl⟩ := hrel
    by_cases hlt : k < ps.length
    · obtain ⟨b, off, rfl, hb, hc⟩ := HR.out (by omega)
      obtain ⟨Ai, ci, hcell, _, hnums⟩ := hc k hlt
      have hnext := take_flat ps k hlt
      have hfit := (HF.out.2 k).1
      have hbyt := (HF.out.2 k).2
      have HN := Lib.hid hnums
      have HY := Lib.hid hbyt
      have HX := Lib.hid hnext
      have hsk := raw_lt hsm.out (flat (ps.take k)) s0 hs'
      obtain ⟨sk, hskq⟩ : ∃ sk, raw T s0 (flat (ps.take k)) = sk := ⟨_, rfl⟩
      rw [hskq] at hsk ⊢
      have HSK := Lib.hid hskq
      obtain ⟨p, hp⟩ : ∃ p, ps.getD k [] = p := ⟨_, rfl⟩
      rw [hp] at hcell hfit HN HY HX
      clear hc hnums hbyt hnext hskq hp
      go_wp2
      go_loopw [1, 21] (fun v i wq => ∃ m : Nat, m ≤ p.length ∧ i = .int .i64 m ∧ v = .int .u32 (raw T sk (p.take m) : Nat) ∧ wq = wr)
        (fun _ i _ => p.length - (intOf i).toNat)
      case atStart => exact ⟨0, Nat.zero_le _, rfl, by simp [raw], rfl⟩
      case round =>
        obtain ⟨m, hm, rfl, rfl, rfl⟩ := hrel
        by_cases hltm : m < p.length
        · obtain ⟨b2, off2, rfl, hb2, hc2⟩ := HN.out (by omega)
          have hcell2 := hc2 m hltm
          have hnx := take_one p m hltm
          have hc01 : 0 ≤ p.getD m 0 ∧ p.getD m 0 < 256 := HY.out _ (by simp [hltm])
          generalize p.getD m 0 = c at *
          have hx := raw_lt hsm.out (p.take m) sk hsk
          obtain ⟨x, hxq⟩ : ∃ x, raw T sk (p.take m) = x := ⟨_, rfl⟩
          rw [hxq] at hx ⊢
          have hix := index_xor x c hc01.1 hc01.2
          obtain ⟨j, hj⟩ : ∃ j, (x ^^^ c.toNat) % 256 = j := ⟨_, rfl⟩
          have hjl : j < 256 := by rw [← hj]; exact Nat.mod_lt _ (by decide)
          rw [hj] at hix
          have htj := HT.out j hjl
          have hst := step_xor x (T j) hx (hsm.out j hjl)
          have hv : raw T sk (p.take (m + 1)) = x / 256 ^^^ T j := by
            rw [hnx, raw_app, hxq, ← hj]
            rfl
          have HV := Lib.hid hv
          clear hc2 hnx hxq hj hv
          generalize T j = t at *
          go_wp2
          go_roundw
          case rel => exact ⟨m + 1, by omega, by go_num, by rw [HV.out], trivial⟩
          case measure => simp [intOf]; omega
        · have e : m = p.length := by omega
          subst e
          go_wp2
          go_roundw
          case rel => exact ⟨k + 1, by omega, by go_num, by rw [HX.out, raw_app, HSK.out, List.take_length], trivial⟩
          case measure => simp [intOf]; omega
    · have e : k = ps.length := by omega
      subst e
      have hx := raw_lt hsm.out (flat ps) s0 hs'
      rw [List.take_length]
      have hq : moreN T s (flat ps) = raw T s0 (flat ps) ^^^ 4294967295 := by unfold moreN; rw [HS0.out]
      have HQ := Lib.hid hq
      generalize raw T s0 (flat ps) = x at *
      have hy := ones_xor x hx
      clear hq
      go_wp2
      go_ret
      exact ⟨by rw [HQ.out]; rfl, HB.out⟩
end Go.Proofs.Ytbpdjohbbhblcaa
