/-
  What crc.Sum, crc.length, crc.sumAt and the document's More and Sum come to.
-/
import Derived.Test.YtbpdjohbbhblcaaMore
import Derived.Test.YtbpdjohbbhblcaaMathB
namespace Go.Proofs.Ytbpdjohbbhblcaa
open Go.RowKit

theorem wpList_tab {ops : Array Oper} {rest : List Oper} {o : Oper} {a : Act} {w : World} {Q : Exit → Act → World → Prop} (hw : Region.wanted o (yielded ops a.tmps) = true) (x : Operand) (ho : o.op = .load 24 x)
    (g : Nat) (hx : a.eval x = .pointer (some ⟨g, 0, none⟩)) (cs : Array Value) (hg : w.heap[g]? = some (.cells cs 24 (0, 0))) (hs : cs.size = 256)
    (h : wpList Try.prog ops Q rest (a.put o.dst (.agg cs)) w) : wpList Try.prog ops Q (o :: rest) a w :=
  wpList_step fun K hK => by
    rw [if_pos hw]
    exact wp_load_row 24 x ho g hx 24 cs (0, 0) _ hg Try.underlying24 rfl (by rw [hs]; exact size24) (hK _ _ h)

theorem fits_one {p : List Int} (h : p.length ≤ 1000000000000000000) (hb : Byt p) : Fits [p] := by
  refine ⟨by simp, fun i => ?_⟩
  cases i with
  | zero => exact ⟨h, hb⟩
  | succ i => exact ⟨by simp, byt_nil⟩

set_option maxRecDepth 10000 in
set_option maxHeartbeats 400000 in
theorem sum_any (A : Option Addr) (cap : Nat) (cs : Array Value) (T : Nat → Nat) (ps : List (List Int)) (w : World) (hT : IsTab cs T) (hf : Fits ps) (hr : Prts w w.heap.size A ps) :
    Calls Try.prog 16 #[.agg cs, .slice A ps.length cap] w fun e w' => e = .returned (.int .u32 (moreN T 0 (flat ps) : Nat)) ∧ Grow w w' := by
  have hb1 : Grow w (w.alloc (.cells cs 24)) := (Below.refl _ _).alloc (Nat.le_refl _) _
  have HR := Lib.hid ((hr.below hb1).more hb1.size)
  have hg := heap_alloc_new w (.cells cs 24)
  clear hr
  go_enter Try.func16, Try.ntmps16
  go_wp2_with (refine wpList_tab rfl _ rfl w.heap.size rfl cs hg hT.1 ?_)
  refine (more_any A cap cs T 0 ps _ hT (by decide) hf HR.out).mono ?_
  rintro e w' ⟨rfl, hb2⟩
  go_wp2
  go_ret
  exact ⟨rfl, hb1.trans hb2⟩

set_option maxHeartbeats 400000 in
theorem length_any (A : Option Addr) (cap : Nat) (ps : List (List Int)) (w : World) (hf : Fits ps) (ht : (flat ps).length ≤ 1000000000000000000) (hr : Prts w w.heap.size A ps) :
    Calls Try.prog 23 #[.slice A ps.length cap] w fun e w' => e = .returned (.int .i64 ((flat ps).length : Nat)) ∧ w' = w := by
  have hlen := hf.1
  have HR := Lib.hid hr
  clear hr hf
  go_enter Try.func23, Try.ntmps23
  go_wp2
  go_loopw [3, 8] (fun v i wr => ∃ k : Nat, k ≤ ps.length ∧ i = .int .i64 k ∧ v = .int .i64 ((flat (ps.take k)).length : Nat) ∧ wr = w)
    (fun _ i _ => ps.length - (intOf i).toNat)
  case atStart => exact ⟨0, Nat.zero_le _, rfl, rfl, rfl⟩
  case round =>
    obtain ⟨k, hk, rfl, rfl, rfl⟩ := hrel
    by_cases hlt : k < ps.length
    · obtain ⟨b, off, rfl, hb, hc⟩ := HR.out (by omega)
      obtain ⟨Ai, ci, hcell, _, _⟩ := hc k hlt
      have hnext : (flat (ps.take (k + 1))).length = (flat (ps.take k)).length + (ps.getD k []).length := by rw [take_flat ps k hlt, List.length_append]
      have htot : (flat (ps.take (k + 1))).length ≤ (flat ps).length := by
        exact flat_le ps (k + 1)
      have HX := Lib.hid hnext
      rw [hnext] at htot
      clear hnext
      clear hc
      generalize (flat (ps.take k)).length = n0 at *
      generalize (ps.getD k []).length = p at *
      go_wp2
      go_roundw
      case rel => exact ⟨k + 1, by omega, by go_num, by rw [HX.out]; simp, trivial⟩
      case measure => simp [intOf]; omega
    · have e : k = ps.length := by omega
      subst e
      go_wp2
      go_ret
      exact ⟨by rw [List.take_length]; rfl, rfl⟩

set_option maxHeartbeats 400000 in
theorem sumAt_any (A : Option Addr) (cap : Nat) (q : List Int) (w : World) (B : Nat) (hb : Byt q) (hl : q.length ≤ 4) (hr : Nums .u8 w B A q) :
    Calls Try.prog 22 #[.slice A q.length cap] w fun e w' => e = .returned (.int .u32 (le q : Nat)) ∧ w' = w := by
  have HR := Lib.hid hr
  have HB := Lib.hid hb
  clear hr hb
  go_enter Try.func22, Try.ntmps22
  go_wp2
  go_loopw [3, 8] (fun v i wr => ∃ k : Nat, k ≤ q.length ∧ i = .int .i64 k ∧ v = .int .u32 (le (q.take k) : Nat) ∧ wr = w)
    (fun _ i _ => q.length - (intOf i).toNat)
  case atStart => exact ⟨0, Nat.zero_le _, rfl, rfl, rfl⟩
  case round =>
    obtain ⟨k, hk, rfl, rfl, rfl⟩ := hrel
    by_cases hlt : k < q.length
    · obtain ⟨b, off, rfl, _, hc⟩ := HR.out (by omega)
      have hcell := hc k hlt
      have hc01 := HB.out.at_ k
      have hnext : le (q.take (k + 1)) = le (q.take k) ||| (q.getD k 0).toNat * 2 ^ (8 * k) := by
        rw [take_one q k hlt, le_snoc _ _ (HB.out.take k), List.length_take, Nat.min_eq_left hk]
      have hx := le_lt (HB.out.take k)
      rw [List.length_take, Nat.min_eq_left hk] at hx
      have hx' : le (q.take k) < 4294967296 := Nat.lt_of_lt_of_le hx (show 2 ^ (8 * k) ≤ 2 ^ 32 from Nat.pow_le_pow_right (by decide) (by omega))
      generalize le (q.take k) = x at *
      generalize q.getD k 0 = c at *
      obtain ⟨C, rfl⟩ := Int.eq_ofNat_of_zero_le hc01.1
      rw [Int.toNat_natCast] at hnext
      have hc256 : C < 256 := by omega
      have hcp : C * 2 ^ (8 * k) < 4294967296 := by
        have h1 : 2 ^ (8 * k) ≤ 2 ^ 24 := Nat.pow_le_pow_right (by decide) (by omega)
        have h2 : C * 2 ^ (8 * k) ≤ 255 * 2 ^ 24 := Nat.mul_le_mul (by omega) h1
        omega
      have hsh : IntKind.u32.wrap ((C : Int) * 2 ^ (8 * (k : Int)).toNat) = ((C * 2 ^ (8 * k) : Nat) : Int) := by
        rw [show (8 * (k : Int)).toNat = 8 * k by omega, IntKind.wrap_u32', show (C : Int) * 2 ^ (8 * k) = ((C * 2 ^ (8 * k) : Nat) : Int) by simp]
        omega
      have hor := u32_or_nat x (C * 2 ^ (8 * k)) hx' hcp
      rw [← hnext, show ((C * 2 ^ (8 * k) : Nat) : Int) = (C : Int) * 2 ^ (8 * k) by simp] at hor
      have HX := Lib.hid hor
      clear hnext hc hx hor
      go_wp2
      go_roundw
      case rel => exact ⟨k + 1, by omega, by go_num, by rw [HX.out], trivial⟩
      case measure => simp [intOf]; omega
    · have e : k = q.length := by omega
      subst e
      go_wp2
      go_ret
      exact ⟨by rw [List.take_length]; rfl, rfl⟩

set_option maxRecDepth 10000 in
set_option maxHeartbeats 400000 in
theorem rmore_any (A : Option Addr) (cap : Nat) (cs : Array Value) (T : Nat → Nat) (s : Nat) (p : List Int) (w : World) (hT : IsTab cs T) (hs : s < 4294967296) (hfit : p.length ≤ 1000000000000000000) (hbyt : Byt p) (hr : Nums .u8 w w.heap.size A p) :
    Calls Try.prog 19 #[.agg cs, .int .u32 s, .slice A p.length cap] w fun e w' => e = .returned (.int .u32 (moreN T s p : Nat)) ∧ Grow w w' := by
  have h1 := ones_xor s hs
  have hsk := ones_lt s hs
  have hb1 : Below w.heap.size w (w.alloc (.cells cs 24)) := (Below.refl _ _).alloc (Nat.le_refl _) _
  have hr1 := hr.below hb1
  have htab : ∀ j, j < 256 → (w.alloc (.cells cs 24)).cell? ⟨w.heap.size, j, none⟩ = some (.int .u32 (T j : Nat)) := fun j hj => by
    rw [World.cell?_alloc_new]
    exact hT.2.1 j hj
  have HT := Lib.hid htab
  have HN := Lib.hid hr1
  have HY := Lib.hid hbyt
  have hsm := Lib.hid hT.2.2
  have HB := Lib.hid hb1
  clear hr1 hr htab hT hb1 hbyt
  obtain ⟨sk, hs0⟩ : ∃ s0, s ^^^ 4294967295 = s0 := ⟨_, rfl⟩
  rw [hs0] at h1 hsk
  have HS0 := Lib.hid hs0
  clear hs0
  go_enter Try.func19, Try.ntmps19
  go_wp2
  generalize w.alloc (.cells cs 24) = w1 at *
  go_loopw [1, 7] (fun v i wq => ∃ m : Nat, m ≤ p.length ∧ i = .int .i64 m ∧ v = .int .u32 (raw T sk (p.take m) : Nat) ∧ wq = w1)
    (fun _ i _ => p.length - (intOf i).toNat)
  case atStart => exact ⟨0, Nat.zero_le _, rfl, by simp [raw], rfl⟩
  case round =>
    obtain ⟨m, hm, rfl, rfl, rfl⟩ := hrel
    by_cases hltm : m < p.length
    · obtain ⟨b2, off2, rfl, hb2, hc2⟩ := HN.out (by omega)
      have hcell2 := hc2 m hltm
      have hnx := take_one p m hltm
      have hc01 : 0 ≤ p.getD m 0 ∧ p.getD m 0 < 256 := HY.out.at_ m
      generalize p.getD m 0 = c at *
      have hx := raw_lt hsm.out (p.take m) sk hsk
      obtain ⟨x, hxq⟩ : ∃ x, raw T sk (p.take m) = x := ⟨_, rfl⟩
      rw [hxq] at hx ⊢
      obtain ⟨C, rfl⟩ := Int.eq_ofNat_of_zero_le hc01.1
      have hxc := u32_xor_nat x C hx (by omega)
      obtain ⟨j, hj⟩ : ∃ j, (x ^^^ C) % 256 = j := ⟨_, rfl⟩
      have hjl : j < 256 := by rw [← hj]; exact Nat.mod_lt _ (by decide)
      have htj := HT.out j hjl
      have hst := step_xor x (T j) hx (hsm.out j hjl)
      have hv : raw T sk (p.take (m + 1)) = x / 256 ^^^ T j := by
        rw [hnx, raw_app, hxq, ← hj]
        rfl
      have hmod : (((x ^^^ C : Nat) : Int)) % 256 = (j : Int) := by omega
      have HV := Lib.hid hv
      clear hc2 hnx hxq hj hv
      generalize x ^^^ C = y at *
      generalize T j = t at *
      go_wp2
      go_roundw
      case rel => exact ⟨m + 1, by omega, by go_num, by rw [HV.out], trivial⟩
      case measure => simp [intOf]; omega
    · have e : m = p.length := by omega
      subst e
      have hx := raw_lt hsm.out p sk hsk
      rw [List.take_length]
      have hq : moreN T s p = raw T sk p ^^^ 4294967295 := by unfold moreN; rw [HS0.out]
      have HQ := Lib.hid hq
      generalize raw T sk p = x at *
      have hy := ones_xor x hx
      clear hq
      go_wp2
      go_ret
      exact ⟨by rw [HQ.out]; rfl, HB.out⟩

set_option maxRecDepth 10000 in
set_option maxHeartbeats 400000 in
theorem rsum_any (A : Option Addr) (cap : Nat) (cs : Array Value) (T : Nat → Nat) (p : List Int) (w : World) (hT : IsTab cs T) (hfit : p.length ≤ 1000000000000000000) (hbyt : Byt p) (hr : Nums .u8 w w.heap.size A p) :
    Calls Try.prog 17 #[.agg cs, .slice A p.length cap] w fun e w' => e = .returned (.int .u32 (moreN T 0 p : Nat)) ∧ Grow w w' := by
  have hb1 : Grow w (w.alloc (.cells cs 24)) := (Below.refl _ _).alloc (Nat.le_refl _) _
  have HR := Lib.hid ((hr.below hb1).more hb1.size)
  have hg := heap_alloc_new w (.cells cs 24)
  clear hr
  go_enter Try.func17, Try.ntmps17
  go_wp2_with (refine wpList_tab rfl _ rfl w.heap.size rfl cs hg hT.1 ?_)
  refine (rmore_any A cap cs T 0 p _ hT (by decide) hfit hbyt HR.out).mono ?_
  rintro e w' ⟨rfl, hb2⟩
  go_wp2
  go_ret
  exact ⟨rfl, hb1.trans hb2⟩
end Go.Proofs.Ytbpdjohbbhblcaa
