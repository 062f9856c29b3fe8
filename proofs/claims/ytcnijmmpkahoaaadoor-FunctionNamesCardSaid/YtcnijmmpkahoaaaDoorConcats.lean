/-
  What slices.Grow of nothing and slices.Concat come to, called with rows of texts. Nothing is claimed here by itself.
-/
import Derived.Test.YtcnijmmpkahoaaaDoorHeadMem
import Derived.Lib.AppendZerosOnto
import Derived.Lib.SliceRun
namespace Go.Proofs.YtcnijmmpkahoaaaDoor
open Go.RowKit Go.Lib
set_option linter.unusedSimpArgs false
set_option linter.unusedVariables false

def GrowsP (w : World) (e : Ending) (w' : World) : Prop := ∃ v, e = .returned v ∧ Grow w w' ∧ OwnS w.heap.size v [] w'

set_option maxRecDepth 10000 in
set_option maxHeartbeats 1600000 in
theorem grow_any (n : Nat) (w : World) (hn : n ≤ 10000000) : Calls Tryd.prog 76 #[.slice none 0 0, .int .i64 (n : Nat)] w (GrowsP w) := by
  have h1 : ¬ (((n : Nat) : Int) < 0) := by omega
  by_cases h0 : n = 0
  · subst h0
    go_enter Tryd.func76, Tryd.ntmps76
    go_wp2
    go_ret
    exact ⟨_, rfl, Grow.refl _, ownS_nil _ _⟩
  · obtain ⟨i0, hi, hz0, hz1, hz2⟩ := info_parts info9
    have h4 : ((n : Nat) : Int) > 0 := by omega
    have hrz : ∀ ty, (Builtin.append_ #[22, 3] ty #[.slice none 0 0, .int .i64 ((n : Nat) : Int)]).run Tryd.prog w = .ok (.slice (some ⟨w.heap.size, 0, none⟩) n (grownCap w n 0 9))
        (w.drew.alloc (.cells ((#[] : Array Value) ++ Builtin.zeroCells (Value.string ⟨#[]⟩).cells n ++ Builtin.zeroCells (Value.string ⟨#[]⟩).cells (grownCap w n 0 9 - n)) 9)) := fun ty => by
      have h := Lib.run_append_grow_zeros w 22 3 ty 9 i0 _ .i64 .i64 Tryd.underlying22 Tryd.underlying3 hi hz0 none 0 0 [] (run_firstCells_none w.drew i0.size 0 0 0) n (by omega) (by omega) (by omega) (by omega) (by rw [hz2]; omega)
        (growslice_fits (by omega) (by rw [hz2]; omega))
      rw [Nat.zero_add] at h
      exact h
    have hge := grownCap_ge w n 0 9
    have hcm := grownCap_le_maxLen w n 0 9 (by unfold maxLen; omega)
    have HOWN : Hid (∀ G, n ≤ G → G ≤ maxLen → ∀ W : World, W.heap.size = w.heap.size → OwnS w.heap.size (.slice (some ⟨w.heap.size, 0, none⟩) 0 G) [] (W.alloc (.cells ((#[] : Array Value) ++ Builtin.zeroCells (Value.string ⟨#[]⟩).cells n ++ Builtin.zeroCells (Value.string ⟨#[]⟩).cells (G - n)) 9))) := Lib.hid (fun G h1 h2 W hW =>
      ⟨rfl, .inr ⟨w.heap.size, G, _, rfl, Nat.le_refl _, by rw [← hW]; exact heap_alloc_new W _, Nat.zero_le _, h2, by
        simp only [Array.size_append, size_zeroCells]
        have : (Value.string ⟨#[]⟩).cells.size = 1 := rfl
        rw [this]
        simp
        omega, by simp [cellsS]⟩⟩)
    obtain ⟨G, hG⟩ : ∃ G, G = grownCap w n 0 9 := ⟨_, rfl⟩
    rw [← hG] at hrz hge hcm
    have HO := Lib.hid (HOWN.out G hge hcm w.drew rfl)
    have HGR := Lib.hid (show Grow w (w.drew.alloc (.cells ((#[] : Array Value) ++ Builtin.zeroCells (Value.string ⟨#[]⟩).cells n ++ Builtin.zeroCells (Value.string ⟨#[]⟩).cells (G - n)) 9)) from ((Grow.refl w).drew).trans (grow_new _ _))
    generalize w.drew.alloc _ = w2 at hrz HO HGR
    have hG63 : G ≤ 9223372036854775807 := by unfold maxLen at hcm; omega
    clear hG HOWN hcm
    go_enter Tryd.func76, Tryd.ntmps76
    go_wp2_with (at_builtin; refine Lib.wpList_append_run _ rfl _ _ _ _ rfl _ _ rfl rfl _ _ (hrz _) ?_)
    go_ret
    exact ⟨_, rfl, HGR.out, HO.out⟩

/-- a slice of rows of texts -/
def RowsAt (w : World) (B : Nat) (A : Option Addr) (ks : List (List (List UInt8))) : Prop :=
  0 < ks.length → ∃ b off, A = some ⟨b, off, none⟩ ∧ b < B ∧ ∀ i, i < ks.length → ∃ A' c', w.cell? ⟨b, off + i, none⟩ = some (.slice A' (ks.getD i []).length c') ∧ (A' = none → c' = 0) ∧ Strs w B A' (ks.getD i [])
theorem RowsAt.grow {w w' : World} {A : Option Addr} {ks : List (List (List UInt8))} (h : RowsAt w w.heap.size A ks) (hg : Grow w w') : RowsAt w' w'.heap.size A ks := fun hn => by
  obtain ⟨b, off, e, hb, hc⟩ := h hn
  refine ⟨b, off, e, Nat.lt_of_lt_of_le hb hg.size, fun i hi => ?_⟩
  obtain ⟨A', c', h1, h2, h3⟩ := hc i hi
  exact ⟨A', c', (hg.cell (p := ⟨b, off + i, none⟩) hb).trans h1, h2, h3.grow hg⟩
def flatK : List (List (List UInt8)) → List (List UInt8)
  | [] => []
  | k :: ks => k ++ flatK ks
theorem flatK_app (a b : List (List (List UInt8))) : flatK (a ++ b) = flatK a ++ flatK b := by
  induction a with
  | nil => rfl
  | cons k a ih => simp only [List.cons_append, flatK, ih, List.append_assoc]
theorem flatK_step {ks : List (List (List UInt8))} {k : Nat} (h : k < ks.length) : flatK (ks.take (k + 1)) = flatK (ks.take k) ++ ks.getD k [] := by
  rw [List.take_add_one, flatK_app]
  congr 1
  rw [List.getElem?_eq_getElem h]
  simp [flatK, List.getD, h]
theorem flatK_le (ks : List (List (List UInt8))) (k : Nat) : (flatK (ks.take k)).length ≤ (flatK ks).length := by
  have h : flatK (ks.take k ++ ks.drop k) = flatK ks := by rw [List.take_append_drop]
  rw [← h, flatK_app, List.length_append]
  omega
def ConcP (ks : List (List (List UInt8))) (w : World) (e : Ending) (w' : World) : Prop :=
  ∃ v, e = .returned v ∧ Grow w w' ∧ OwnS w.heap.size v (flatK ks) w'

set_option maxRecDepth 10000 in
set_option maxHeartbeats 3200000 in
theorem concat_any (A : Option Addr) (n c : Nat) (ks : List (List (List UInt8))) (w : World) (hn : ks.length = n) (hnb : n ≤ 9223372036854775807) (hT : (flatK ks).length ≤ 10000000) (hks : RowsAt w w.heap.size A ks) :
    Calls Tryd.prog 51 #[.slice A n c] w (ConcP ks w) := by
  have HK := Lib.hid hks
  have HN := Lib.hid hn
  have HT := Lib.hid hT
  have HGR := Lib.hid (grow_any (flatK ks).length w hT)
  clear hks hn hT
  go_enter Tryd.func51, Tryd.ntmps51
  go_wp2
  go_loopg [3, 11] n (fun g s3 s11 wr => ∃ k t : Nat, k ≤ n ∧ g = n - k ∧ s11 = .int .i64 k ∧ s3 = .int .i64 t ∧ Hid (t = (flatK (ks.take k)).length) ∧ w = wr)
  case atStart => exact ⟨0, 0, Nat.zero_le _, rfl, rfl, rfl, Lib.hid rfl, rfl⟩
  case round =>
    obtain ⟨k, t, hk, rfl, rfl, rfl, HTK, rfl⟩ := hrel
    by_cases hlt : k < n
    · have hkl : k < ks.length := by rw [HN.out]; exact hlt
      obtain ⟨b, off, rfl, hb, hcl⟩ := HK.out (by omega)
      obtain ⟨A', c', hc, hlc, hnd⟩ := hcl k hkl
      have HST := Lib.hid (flatK_step hkl)
      have hle := flatK_le ks (k + 1)
      rw [HST.out, List.length_append, ← HTK.out] at hle
      have HTT := HT.out
      clear hcl hnd
      generalize hlk : (ks.getD k []).length = lk at *
      have hw1 : IntKind.i64.wrap (((t : Nat) : Int) + ((lk : Nat) : Int)) = ((t + lk : Nat) : Int) := by rw [IntKind.wrap_i64]; omega
      have hge : ¬ (((t : Nat) : Int) + ((lk : Nat) : Int) < 0) := by omega
      have HLK := Lib.hid hlk
      have HSM : t + lk ≤ 10000000 := by omega
      clear hlk hle HTT hlc
      go_wp2
      go_roundg (n - (k + 1))
      case rel => exact ⟨k + 1, t + lk, by omega, rfl, by go_num, by go_num, Lib.hid (by rw [HST.out, List.length_append, ← HTK.out, HLK.out]), rfl⟩
      case measure => omega
    · obtain rfl : n = k := by omega
      have HTE : Hid (t = (flatK ks).length) := Lib.hid (by rw [HTK.out, List.take_of_length_le (by rw [HN.out]; exact Nat.le_refl _)])
      rw [← HTE.out] at HGR
      clear HTK
      go_wp2_with fail
      refine (HGR.out).mono ?_
      rintro e w1 ⟨v, rfl, hg1, hown⟩
      have HG1 := Lib.hid hg1
      have HO1 := Lib.hid hown
      clear hg1 hown HGR
      go_wp2
      go_loopg [6, 27] n (fun g s6 s27 wr => ∃ (k : Nat) (v : Value), k ≤ n ∧ g = n - k ∧ s27 = .int .i64 k ∧ v = s6 ∧ Hid (OwnS w.heap.size v (flatK (ks.take k)) wr) ∧ Hid (Grow w wr))
      case atStart => exact ⟨0, v, Nat.zero_le _, rfl, rfl, rfl, HO1, HG1⟩
      case round =>
        obtain ⟨k, v', hk, rfl, rfl, rfl, HO, HG⟩ := hrel
        by_cases hlt2 : k < n
        · have hkl : k < ks.length := by rw [HN.out]; exact hlt2
          have HKW := Lib.hid (HK.out.grow HG.out)
          obtain ⟨b, off, rfl, hb, hcl⟩ := HKW.out (by omega)
          obtain ⟨A', c', hc, hlc, hnd⟩ := hcl k hkl
          have HST := Lib.hid (flatK_step hkl)
          have HND := Lib.hid hnd
          have HLC := Lib.hid hlc
          have hle := flatK_le ks (k + 1)
          rw [HST.out, List.length_append] at hle
          have HTT := HT.out
          clear hcl hnd hlc
          generalize ks.getD k [] = kid at *
          obtain ⟨lk, hlk⟩ : ∃ lk, kid.length = lk := ⟨_, rfl⟩
          have HSM := Lib.hid (show (flatK (ks.take k)).length + kid.length ≤ 1000000000 by omega)
          rw [hlk] at hc
          have HLK := Lib.hid hlk
          clear hlk hle HTT
          go_wp2_with (at_builtin; refine wpList_append_any rfl _ _ rfl w.heap.size v' (flatK (ks.take k)) kid A' lk c' rfl HO.out rfl HLK.out HLC.out HND.out HSM.out HG.out.size ?_; intro v2 w2 HO2 HB2)
          have HO2' := Lib.hid (show OwnS w.heap.size v2 (flatK (ks.take (k + 1))) w2 by rw [HST.out]; exact HO2)
          have HG2 := Lib.hid (show Grow w w2 from Below.trans HG.out HB2)
          clear HO2 HB2
          go_roundg (n - (k + 1))
          case rel => exact ⟨k + 1, v2, by omega, rfl, by go_num, rfl, HO2', HG2⟩
          case measure => omega
        · obtain rfl : n = k := by omega
          have HTB := Lib.hid (show ks.take n = ks by rw [List.take_of_length_le (by rw [HN.out]; exact Nat.le_refl _)])
          rw [HTB.out] at HO
          go_wp2
          go_ret
          exact ⟨v', rfl, HG.out, HO.out⟩
end Go.Proofs.YtcnijmmpkahoaaaDoor
