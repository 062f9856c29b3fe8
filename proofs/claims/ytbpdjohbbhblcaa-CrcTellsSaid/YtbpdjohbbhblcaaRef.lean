/-
  What the document's own Join and Seal come to.
-/
import Derived.Test.YtbpdjohbbhblcaaLinear
namespace Go.Proofs.Ytbpdjohbbhblcaa
open Go.RowKit
set_option linter.unusedSimpArgs false



theorem str_inj (xs ys : List Int) (hx : ∀ n ∈ xs, 0 ≤ n ∧ n < 256) (hy : ∀ n ∈ ys, 0 ≤ n ∧ n < 256) : (strOfNums xs).toList = (strOfNums ys).toList ↔ xs = ys := by
  refine ⟨fun h => ?_, fun h => by rw [h]⟩
  rw [ByteArray.toList_eq, ByteArray.toList_eq, strOfNums_data, strOfNums_data] at h
  induction xs generalizing ys with
  | nil => cases ys with
    | nil => rfl
    | cons y ys => simp at h
  | cons x xs ih => cases ys with
    | nil => simp at h
    | cons y ys =>
      simp only [List.map_cons, List.cons.injEq] at h
      have hx0 := hx x (by simp)
      have hy0 := hy y (by simp)
      have e : x = y := by
        have h1 := congrArg UInt8.toNat h.1
        simp at h1
        omega
      rw [e, ih ys (fun n hn => hx n (by simp [hn])) (fun n hn => hy n (by simp [hn])) h.2]

/-- bytes in some memory of their own -/
def Gave (bs : List Int) (w : World) (e : Ending) (w' : World) : Prop :=
  ∃ A cap, e = .returned (.slice A bs.length cap) ∧ (A = none → cap = 0) ∧ Nums .u8 w' w'.heap.size A bs ∧ Grow w w'

set_option maxHeartbeats 800000 in
theorem join_any (A : Option Addr) (cap : Nat) (ps : List (List Int)) (w : World) (hf : Fits ps) (ht : (flat ps).length ≤ 100000) (hr : Prts w w.heap.size A ps) :
    Calls Try.prog 12 #[.slice A ps.length cap] w (Gave (flat ps) w) := by
  have hlen := hf.1
  have HR := Lib.hid hr
  clear hr hf
  obtain ⟨i0, hi, hz0, hz1, hz2⟩ := info_parts info5
  go_enter Try.func12, Try.ntmps12
  go_wp2
  go_loopw [3, 4] (fun v i wr => ∃ k : Nat, k ≤ ps.length ∧ i = .int .i64 k ∧ wr.ownsRow w.heap.size 5 1 v (flat (ps.take k)).length (u8s (flat (ps.take k))) ∧ Grow w wr)
    (fun _ i _ => ps.length - (intOf i).toNat)
  case atStart => exact ⟨0, Nat.zero_le _, rfl, by simpa [u8s, flat_none] using World.ownsRow_nil _ _ _ _, Grow.refl _⟩
  case round =>
    obtain ⟨k, hk, rfl, hown, hbel⟩ := hrel
    by_cases hlt : k < ps.length
    · obtain ⟨b, off, rfl, hb, hc⟩ := HR.out (by omega)
      obtain ⟨Ai, ci, hcell, hnil, hnums⟩ := hc k hlt
      have hcell' := (hbel.cell (p := ⟨b, off + k, none⟩) hb).trans hcell
      have hnums' := hnums.below hbel
      have hnext := take_flat ps k hlt
      have hnl : (flat (ps.take (k + 1))).length = (flat (ps.take k)).length + (ps.getD k []).length := by rw [hnext, List.length_append]
      have htot := flat_le ps (k + 1)
      rw [hnl] at htot
      have HX := Lib.hid hnext
      clear hc hcell hnums hnext hnl
      generalize flat (ps.take k) = q at *
      generalize ps.getD k [] = p at *
      cases Ai with
      | none =>
        have hp0 : p = [] := by
          apply List.eq_nil_of_length_eq_zero
          apply Nat.eq_zero_of_not_pos
          intro hp
          obtain ⟨_, _, h, _⟩ := hnums' hp
          cases h
        have hci := hnil rfl
        subst hp0 hci
        have HOW := Lib.hid hown
        clear hnums' hnil hown
        go_wp2_with (at_builtin; refine wpList_append_own_none rfl _ _ 28 rfl w.heap.size 5 i0 1 Try.underlying28 hi _ _ _ rfl HOW.out rfl ?_)
        go_roundw
        case rel => exact ⟨k + 1, by omega, by go_num, by rw [HX.out, List.append_nil]; exact HOW.out, hbel⟩
        case measure => simp [intOf]; omega
      | some ad =>
        have hnews := nums_news hnums'
        have HOW := Lib.hid hown
        have HNW := Lib.hid hnews
        clear hnums' hnil hown hnews
        go_wp2_with (at_builtin; refine wpList_append_own _ rfl _ _ 28 rfl w.heap.size 5 i0 (.int .u8 0) 1 1 Try.underlying28 hi hz0 hz1 hz2 rfl (by decide) _ _ _ rfl HOW.out ad p.length ci (u8s p) rfl (by rw [u8s_len]; omega) HNW.out (u8s_one p) (by unfold maxLen; omega) (by omega) hbel.size ?_; intro v' w3 hown3 hgrow3 _)
        have hb3 : Grow w w3 := Below.grown hbel hgrow3 hbel.size (fun g hg => (HOW.out.lt g hg).1)
        have HO3 := Lib.hid hown3
        clear hown3 hgrow3
        go_wp2
        go_roundw
        case rel => exact ⟨k + 1, by omega, by go_num, by rw [HX.out, u8s_app, List.length_append]; exact HO3.out, hb3⟩
        case measure => simp [intOf]; omega
    · have e : k = ps.length := by omega
      subst e
      rw [List.take_length] at hown
      obtain ⟨A', c', rfl, hA, hN, _⟩ := own_nums hown
      have HNN := Lib.hid hN
      clear hown hN
      go_wp2
      go_ret
      exact ⟨A', c', rfl, hA, HNN.out, hbel⟩

theorem lit_news_at (w : World) (xs : List Value) (t : TypeId) (g : Nat) (hg : g = w.heap.size) : ∀ j u, xs[j]? = some u → (w.alloc (.cells xs.toArray t)).cell? ((⟨g, 0, none⟩ : Addr).add j) = some u := by
  subst hg
  exact lit_news w xs t

theorem le4_ints (M : Nat) (h : M < 4294967296) : le4 M = [(M : Int) % 256, (M : Int) / 256 % 256, (M : Int) / 65536 % 256, (M : Int) / 16777216] := by
  have e : ((M / 16777216 % 256 : Nat) : Int) = (M : Int) / 16777216 := by omega
  unfold le4
  rw [e]
  simp

set_option maxRecDepth 10000 in
set_option maxHeartbeats 800000 in
theorem rseal_any (A : Option Addr) (cap n : Nat) (cs : Array Value) (T : Nat → Nat) (bs : List Int) (w : World) (hT : IsTab cs T) (hn : bs.length = n) (hl : n ≤ 100000) (hc : A = none → cap = 0) (hb : Byt bs) (hr : Nums .u8 w w.heap.size A bs) :
    Calls Try.prog 20 #[.agg cs, .slice A n cap] w (Gave (sealN T bs) w) := by
  have hb1 : Grow w (w.alloc (.cells cs 24)) := grow_new _ _
  have HR1 := Lib.hid (hr.grow hb1)
  have hg := heap_alloc_new w (.cells cs 24)
  have hs := hT.1
  have HT := Lib.hid hT
  have HN := Lib.hid hn
  have HB := Lib.hid hb
  have HC := Lib.hid hc
  clear hr hT hn hb hc
  obtain ⟨i0, hi, hz0, hz1, hz2⟩ := info_parts info5
  have hM := moreN_lt HT.out.2.2 0 bs (by decide)
  have hse : sealN T bs = bs ++ le4 (moreN T 0 bs) := rfl
  have hsum : Calls Try.prog 17 #[.agg cs, .slice A n cap] (w.alloc (.cells cs 24)) fun e w' => e = .returned (.int .u32 (moreN T 0 bs : Nat)) ∧ Grow (w.alloc (.cells cs 24)) w' := by
    have := rsum_any A cap cs T bs (w.alloc (.cells cs 24)) HT.out (by rw [HN.out]; omega) HB.out HR1.out
    rw [HN.out] at this
    exact this
  have HSUM := Lib.hid hsum
  clear hsum
  generalize moreN T 0 bs = M at *
  rw [le4_ints M hM] at hse
  have HSE := Lib.hid hse
  clear hse
  go_enter Try.func20, Try.ntmps20
  go_wp2_with (refine wpList_tab rfl _ rfl w.heap.size rfl cs hg hs ?_)
  generalize w.alloc (.cells cs 24) = w1 at *
  refine HSUM.out.mono ?_
  rintro e w2 ⟨rfl, hb2⟩
  have HE := Lib.hid (own_empty w2)
  clear hg
  cases A with
  | none =>
    have hc0 := HC.out rfl
    subst hc0
    have hbs : bs = [] := by
      apply List.eq_nil_of_length_eq_zero
      apply Nat.eq_zero_of_not_pos
      intro hp
      obtain ⟨_, _, h, _⟩ := HR1.out hp
      cases h
    subst hbs
    have hn0 : n = 0 := HN.out.symm
    subst hn0
    have HE2 := Lib.hid (HE.out.alloc (.cells #[.int .u8 ((M : Int) % 256), .int .u8 ((M : Int) / 256 % 256), .int .u8 ((M : Int) / 65536 % 256), .int .u8 ((M : Int) / 16777216)] 5))
    go_wp2_with (at_builtin; first
      | refine wpList_append_own_none rfl _ _ 28 rfl w2.heap.size 5 i0 1 Try.underlying28 hi _ _ _ rfl HE.out rfl ?_
      | (refine wpList_append_own _ rfl _ _ 28 rfl w2.heap.size 5 i0 (.int .u8 0) 1 1 Try.underlying28 hi hz0 hz1 hz2 rfl (by decide) _ _ _ rfl HE2.out ⟨w2.heap.size + 1, 0, none⟩ 4 4 [.int .u8 ((M : Int) % 256), .int .u8 ((M : Int) / 256 % 256), .int .u8 ((M : Int) / 65536 % 256), .int .u8 ((M : Int) / 16777216)] rfl rfl (lit_news_at _ _ _ _ (by simp)) (u8s_one [(M : Int) % 256, (M : Int) / 256 % 256, (M : Int) / 65536 % 256, (M : Int) / 16777216]) (by unfold maxLen; omega) (by omega) (by simp; omega) ?_; intro v' w3 hown3 hgrow3 _))
    have hb3 : Grow w2 w3 := Below.grown (Below.alloc (grow_new w2 _) (by simp) _) hgrow3 (by simp; omega) (fun g hg => (HE2.out.lt g hg).1)
    have hown4 : w3.ownsRow w2.heap.size 5 1 v' (sealN T []).length (u8s (sealN T [])) := by rw [HSE.out]; exact hown3
    obtain ⟨A', c', rfl, hA, hNN, _⟩ := own_nums hown4
    have HNN := Lib.hid hNN
    clear hown3 hown4 hNN hgrow3
    go_wp2
    go_ret
    exact ⟨A', c', rfl, hA, HNN.out, (hb1.trans hb2).trans hb3⟩
  | some ad =>
    have HNW := Lib.hid (nums_news (((HR1.out.grow hb2).below (grow_new w2 (.cells #[] 5)))))
    go_wp2_with (at_builtin; first
      | (refine wpList_append_own _ rfl _ _ 28 rfl w2.heap.size 5 i0 (.int .u8 0) 1 1 Try.underlying28 hi hz0 hz1 hz2 rfl (by decide) _ _ _ rfl HE.out ad n cap (u8s bs) rfl (by rw [u8s_len, HN.out]; omega) HNW.out (u8s_one bs) (by unfold maxLen; omega) (by omega) (by simp) ?_; intro v1 w3 hown3 hgrow3 _)
      | (refine wpList_append_own _ rfl _ _ 28 rfl w2.heap.size 5 i0 (.int .u8 0) 1 1 Try.underlying28 hi hz0 hz1 hz2 rfl (by decide) _ _ _ rfl (hown3.alloc (.cells #[.int .u8 ((M : Int) % 256), .int .u8 ((M : Int) / 256 % 256), .int .u8 ((M : Int) / 65536 % 256), .int .u8 ((M : Int) / 16777216)] 5)) ⟨w3.heap.size, 0, none⟩ 4 4 [.int .u8 ((M : Int) % 256), .int .u8 ((M : Int) / 256 % 256), .int .u8 ((M : Int) / 65536 % 256), .int .u8 ((M : Int) / 16777216)] rfl rfl (lit_news_at _ _ _ _ rfl) (u8s_one [(M : Int) % 256, (M : Int) / 256 % 256, (M : Int) / 65536 % 256, (M : Int) / 16777216]) (by unfold maxLen; omega) (by omega) (by have h3 := (Below.grown (grow_new w2 _) hgrow3 (by simp) (fun g hg => (HE.out.lt g hg).1) : Grow w2 w3).size; simp; omega) ?_; intro v' w4 hown4 hgrow4 _))
    have hb3 : Grow w2 w3 := Below.grown (grow_new w2 _) hgrow3 (by simp) (fun g hg => (HE.out.lt g hg).1)
    have HE2 := Lib.hid (hown3.alloc (.cells #[.int .u8 ((M : Int) % 256), .int .u8 ((M : Int) / 256 % 256), .int .u8 ((M : Int) / 65536 % 256), .int .u8 ((M : Int) / 16777216)] 5))
    clear hown3 hgrow3
    rw [Nat.zero_add] at hown4
    have hb4 : Grow w2 w4 := Below.grown (Below.alloc hb3 hb3.size _) hgrow4 (by have := hb3.size; simp; omega) (fun g hg => (HE2.out.lt g hg).1)
    have hown5 : w4.ownsRow w2.heap.size 5 1 v' (sealN T bs).length (u8s (sealN T bs)) := by
      rw [sealN_len, HN.out, HSE.out, u8s_app]
      exact hown4
    obtain ⟨A', c', rfl, hA, hNN, _⟩ := own_nums hown5
    have HNN := Lib.hid hNN
    clear hown4 hown5 hNN hgrow4
    go_wp2
    go_ret
    exact ⟨A', c', rfl, hA, HNN.out, (hb1.trans hb2).trans hb4⟩
end Go.Proofs.Ytbpdjohbbhblcaa
