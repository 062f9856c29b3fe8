/-
  What slices.Grow of nothing and slices.Concat come to, called with rows of nodes, none of which is empty.
-/
import Derived.Test.YtfdlngcaopcaoaaRaw
import Derived.Lib.AppendZerosOnto
namespace Go.Proofs.Ytfdlngcaopcaoaa
open Go.RowKit Go.Lib
set_option linter.unusedSimpArgs false
set_option linter.unusedVariables false

def GrowsP (w : World) (e : Ending) (w' : World) : Prop := ∃ v, e = .returned v ∧ Grow w w' ∧ w'.ownsRow w.heap.size 32 4 v 0 []

set_option maxRecDepth 10000 in
set_option maxHeartbeats 1600000 in
theorem grow_any (n : Nat) (w : World) (hn : n ≤ 1000000) : Calls Try.prog 53 #[.slice none 0 0, .int .i64 (n : Nat)] w (GrowsP w) := by
  have h1 : ¬ (((n : Nat) : Int) < 0) := by omega
  by_cases h0 : n = 0
  · subst h0
    go_enter Try.func53, Try.ntmps53
    go_wp2
    go_ret
    exact ⟨_, rfl, Grow.refl _, World.ownsRow_nil _ _ _ _⟩
  · obtain ⟨i0, hi, hz0, hz1, hz2⟩ := info_of info_node
    have h4 : ((n : Nat) : Int) > 0 := by omega
    have hrz : ∀ ty, (Builtin.append_ #[22, 3] ty #[.slice none 0 0, .int .i64 ((n : Nat) : Int)]).run Try.prog w = .ok (.slice (some ⟨w.heap.size, 0, none⟩) n (grownCap w n 0 32))
        (w.drew.alloc (.cells ((#[] : Array Value) ++ Builtin.zeroCells (Value.agg #[.int .i64 0, .slice none 0 0, .slice none 0 0, .slice none 0 0]).cells n ++ Builtin.zeroCells (Value.agg #[.int .i64 0, .slice none 0 0, .slice none 0 0, .slice none 0 0]).cells (grownCap w n 0 32 - n)) 32)) := fun ty => by
      have h := Lib.run_append_grow_zeros w 22 3 ty 32 i0 _ .i64 .i64 Try.underlying22 Try.underlying3 hi hz0 none 0 0 [] (run_firstCells_none w.drew i0.size 0 0 0) n (by omega) (by omega) (by omega) (by omega) (by rw [hz2]; omega)
        (growslice_fits (by omega) (by rw [hz2]; omega))
      rw [Nat.zero_add] at h
      exact h
    have hge := grownCap_ge w n 0 32
    have hcm := grownCap_le_maxLen w n 0 32 (by unfold maxLen; omega)
    have HOWN : Hid (∀ G, n ≤ G → G ≤ maxLen → ∀ W : World, W.heap.size = w.heap.size → (W.alloc (.cells ((#[] : Array Value) ++ Builtin.zeroCells (Value.agg #[.int .i64 0, .slice none 0 0, .slice none 0 0, .slice none 0 0]).cells n ++ Builtin.zeroCells (Value.agg #[.int .i64 0, .slice none 0 0, .slice none 0 0, .slice none 0 0]).cells (G - n)) 32)).ownsRow w.heap.size 32 4 (.slice (some ⟨w.heap.size, 0, none⟩) 0 G) 0 []) := Lib.hid (fun G h1 h2 W hW =>
      ⟨rfl, .inr ⟨w.heap.size, G, _, rfl, Nat.le_refl _, by rw [← hW]; exact heap_alloc_new W _, Nat.zero_le _, h2, by
        simp only [Array.size_append, size_zeroCells]
        have : (Value.agg #[.int .i64 0, .slice none 0 0, .slice none 0 0, .slice none 0 0]).cells.size = 4 := rfl
        rw [this]
        simp
        omega, by simp⟩⟩)
    obtain ⟨G, hG⟩ : ∃ G, G = grownCap w n 0 32 := ⟨_, rfl⟩
    rw [← hG] at hrz hge hcm
    have HO := Lib.hid (HOWN.out G hge hcm w.drew rfl)
    have HGR := Lib.hid (show Grow w (w.drew.alloc (.cells ((#[] : Array Value) ++ Builtin.zeroCells (Value.agg #[.int .i64 0, .slice none 0 0, .slice none 0 0, .slice none 0 0]).cells n ++ Builtin.zeroCells (Value.agg #[.int .i64 0, .slice none 0 0, .slice none 0 0, .slice none 0 0]).cells (G - n)) 32)) from ((Grow.refl w).drew).trans (grow_new _ _))
    generalize w.drew.alloc _ = w2 at hrz HO HGR
    have hG63 : G ≤ 9223372036854775807 := by unfold maxLen at hcm; omega
    clear hG HOWN hcm
    go_enter Try.func53, Try.ntmps53
    go_wp2_with (at_builtin; refine Lib.wpList_append_run _ rfl _ _ _ _ rfl _ _ rfl rfl _ _ (hrz _) ?_)
    go_ret
    exact ⟨_, rfl, HGR.out, HO.out⟩

def flatK : List (List Nd) → List Nd
  | [] => []
  | k :: ks => k ++ flatK ks
theorem flatK_app (a b : List (List Nd)) : flatK (a ++ b) = flatK a ++ flatK b := by
  induction a with
  | nil => rfl
  | cons k a ih => simp only [List.cons_append, flatK, ih, List.append_assoc]
theorem flatK_step {ks : List (List Nd)} {k : Nat} (h : k < ks.length) : flatK (ks.take (k + 1)) = flatK (ks.take k) ++ ks.getD k [] := by
  rw [List.take_add_one, flatK_app]
  congr 1
  rw [List.getElem?_eq_getElem h]
  simp [flatK, List.getD, h]
theorem flatK_le (ks : List (List Nd)) (k : Nat) : (flatK (ks.take k)).length ≤ (flatK ks).length := by
  have h : flatK (ks.take k ++ ks.drop k) = flatK ks := by rw [List.take_append_drop]
  rw [← h, flatK_app, List.length_append]
  omega
def ConcP (ks : List (List Nd)) (w : World) (e : Ending) (w' : World) : Prop :=
  ∃ v vals, e = .returned v ∧ Grow w w' ∧ w'.ownsRow w.heap.size 32 4 v (flatK ks).length vals ∧ RawN w' w.heap.size vals (flatK ks)

set_option maxRecDepth 10000 in
set_option maxHeartbeats 3200000 in
theorem concat_any (A : Option Addr) (n c : Nat) (ks : List (List Nd)) (w : World) (hn : ks.length = n) (hnb : n ≤ 9223372036854775807) (hne : ∀ k ∈ ks, k ≠ []) (hT : (flatK ks).length ≤ 1000000) (hks : KidsAt w w.heap.size A ks) :
    Calls Try.prog 44 #[.slice A n c] w (ConcP ks w) := by
  have HK := Lib.hid hks
  have HN := Lib.hid hn
  have HNE : Hid (∀ k, k < ks.length → 0 < (ks.getD k []).length) := Lib.hid (fun k hk => by
    rw [show ks.getD k [] = ks[k] by simp [List.getD, hk]]
    exact List.length_pos_iff.2 (hne _ (List.getElem_mem hk)))
  have HT := Lib.hid hT
  have HGR := Lib.hid (grow_any (flatK ks).length w hT)
  clear hks hn hne hT
  go_enter Try.func44, Try.ntmps44
  go_wp2
  go_loopg [3, 11] n (fun g s3 s11 wr => ∃ k t : Nat, k ≤ n ∧ g = n - k ∧ s11 = .int .i64 k ∧ s3 = .int .i64 t ∧ Hid (t = (flatK (ks.take k)).length) ∧ w = wr)
  case atStart => exact ⟨0, 0, Nat.zero_le _, rfl, rfl, rfl, Lib.hid rfl, rfl⟩
  case round =>
    obtain ⟨k, t, hk, rfl, rfl, rfl, HTK, rfl⟩ := hrel
    by_cases hlt : k < n
    · have hkl : k < ks.length := by rw [HN.out]; exact hlt
      obtain ⟨b, off, rfl, hb, hcl⟩ := HK.out (by omega)
      obtain ⟨A', c', hc, hlc, hnd⟩ := hcl k hkl
      have HST := Lib.hid (flatK_step hkl)
      have hle := flatK_le ks (k + 1)
      rw [HST.out, List.length_append, ← HTK.out] at hle
      have HTT := HT.out
      clear hcl hnd
      generalize hlk : (ks.getD k []).length = lk at *
      have hw1 : IntKind.i64.wrap (((t : Nat) : Int) + ((lk : Nat) : Int)) = ((t + lk : Nat) : Int) := by rw [IntKind.wrap_i64]; omega
      have hge : ¬ (((t : Nat) : Int) + ((lk : Nat) : Int) < 0) := by omega
      have HLK := Lib.hid hlk
      have HSM : t + lk ≤ 1000000 := by omega
      clear hlk hle HTT
      go_wp2
      go_roundg (n - (k + 1))
      case rel => exact ⟨k + 1, t + lk, by omega, rfl, by go_num, by go_num, Lib.hid (by rw [HST.out, List.length_append, ← HTK.out, HLK.out]), rfl⟩
      case measure => omega
    · obtain rfl : n = k := by omega
      have HTE : Hid (t = (flatK ks).length) := Lib.hid (by rw [HTK.out, List.take_of_length_le (by rw [HN.out]; exact Nat.le_refl _)])
      rw [← HTE.out] at HGR
      clear HTK
      go_wp2_with fail
      refine (HGR.out).mono ?_
      rintro e w1 ⟨v, rfl, hg1, hown⟩
      have HG1 := Lib.hid hg1
      have HO1 := Lib.hid hown
      clear hg1 hown HGR
      go_wp2
      go_loopg [6, 27] n (fun g s6 s27 wr => ∃ (k m : Nat) (v : Value) (vals : List Value), k ≤ n ∧ g = n - k ∧ s27 = .int .i64 k ∧ v = s6 ∧ Hid (m = (flatK (ks.take k)).length) ∧ Hid (wr.ownsRow w.heap.size 32 4 v m vals) ∧
        Hid (RawN wr w.heap.size vals (flatK (ks.take k))) ∧ Hid (Grow w wr))
      case atStart => exact ⟨0, 0, v, [], Nat.zero_le _, rfl, rfl, rfl, Lib.hid rfl, HO1, Lib.hid RawN.nil, HG1⟩
      case round =>
        obtain ⟨k, m, v', vals, hk, rfl, rfl, rfl, HM, HO, HRA, HG⟩ := hrel
        by_cases hlt2 : k < n
        · have hkl : k < ks.length := by rw [HN.out]; exact hlt2
          have HKW := Lib.hid (HK.out.below HG.out)
          obtain ⟨b, off, rfl, hb, hcl⟩ := HKW.out (by omega)
          obtain ⟨A', c', hc, hlc, hnd⟩ := hcl k hkl
          have HST := Lib.hid (flatK_step hkl)
          have HP := Lib.hid (HNE.out k hkl)
          have HND := Lib.hid hnd
          have hle := flatK_le ks (k + 1)
          rw [HST.out, List.length_append, ← HM.out] at hle
          have HTT := HT.out
          clear hcl hnd
          generalize ks.getD k [] = kid at *
          obtain ⟨lk, hlk⟩ : ∃ lk, kid.length = lk := ⟨_, rfl⟩
          rw [hlk] at hc hlc hle HP
          have HLK := Lib.hid hlk
          have hsm : m + lk ≤ 1000000000 := by omega
          clear hlk hle HTT
          go_wp2_with (at_builtin; refine wpList_append_raw rfl _ _ rfl w.heap.size w.heap.size m lk c' v' vals (flatK (ks.take k)) kid A' rfl HO.out HRA.out rfl HLK.out HND.out HP.out hsm HG.out.size (Nat.le_refl _) ?_; intro v2 w2 vals2 HO2 HR2 HB2)
          go_roundg (n - (k + 1))
          case rel => exact ⟨k + 1, m + lk, v2, vals2, by omega, rfl, by go_num, rfl, Lib.hid (by rw [HST.out, List.length_append, ← HM.out, HLK.out]), HO2, Lib.hid (by rw [HST.out]; exact HR2.out), Lib.hid (Below.trans HG.out HB2.out)⟩
          case measure => omega
        · obtain rfl : n = k := by omega
          have HTB := Lib.hid (show ks.take n = ks by rw [List.take_of_length_le (by rw [HN.out]; exact Nat.le_refl _)])
          rw [HTB.out] at HM HRA
          rw [HM.out] at HO
          go_wp2
          go_ret
          exact ⟨v', vals, rfl, HG.out, HO.out, HRA.out⟩
end Go.Proofs.Ytfdlngcaopcaoaa
